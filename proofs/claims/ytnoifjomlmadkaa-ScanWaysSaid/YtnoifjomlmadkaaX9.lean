import Derived.Test.YtnoifjomlmadkaaGvClo
import Derived.Test.YtnoifjomlmadkaaGvIt
import Derived.WalkKit
import Derived.Lib.Walk
import Derived.Lib.SliceRun
import Derived.KernelRfl
import Derived.Deep.RegionLaw
import Derived.LoopTactic
import Derived.Test.YtnoifjomlmadkaaGvClone
import Derived.Test.YtnoifjomlmadkaaGvLay
import Derived.Test.YtnoifjomlmadkaaGvEnvA
import Derived.Test.YtnoifjomlmadkaaGvEnvB

/- slices.Repeat of one stop, twice: what the document's example needs. -/
namespace Gv
open Go Go.Proofs Go.RowKit Go.Lib
set_option maxRecDepth 100000

theorem run_copy3 {P : Program} (w : World) (dT sT ty elem : TypeId) (g o dLen dCap : Nat) (a : Addr) (sLen sCap : Nat) (cur : Array Value) (t : TypeId) (cs : List Value) {i : TypeInfo}
    (hu : P.underlying dT = some (.slice elem)) (hq : P.info? elem = some i) (hi : i.size = 3)
    (hg : w.heap[g]? = some (.cells cur t (0, 0))) (hm : Nat.min sLen dLen = 1) (hn : cs.length = 3)
    (hsrc : ∀ j v, cs[j]? = some v → w.cell? (a.add j) = some v) (hfit : o + cs.length ≤ cur.size) (h1 : ∀ v ∈ cs, v.oneCell' = true) :
    (Builtin.copy_ #[dT, sT] ty #[.slice (some ⟨g, o, none⟩) dLen dCap, .slice (some a) sLen sCap]).run P w =
      .ok (goInt 1) (w.setRow g (cur.toList.take o ++ cs ++ cur.toList.drop (o + cs.length)).toArray) := by
  have hl := run_loadCells_list (P := P) w a cs hsrc
  have hst := run_storeCells_at P g o t cs 0 cur w hg (by simpa using hfit) h1
  have hm' : min sLen dLen = 1 := hm
  rw [hn] at hl
  simp [Builtin.copy_, run_underlying hu, Builtin.lenOf, Builtin.firstCells, Go.sizeOf, typeInfo, hq, hi, hm', hl, hst]

set_option maxHeartbeats 4000000 in
theorem repeat_two (w : World) (b o cap : Nat) (u0 u1 u2 : Value) (h0 : w.cell? ⟨b, o, none⟩ = some u0) (h1 : w.cell? ⟨b, o + 1, none⟩ = some u1) (h2 : w.cell? ⟨b, o + 2, none⟩ = some u2) (k0 : u0.oneCell' = true) (k1 : u1.oneCell' = true) (k2 : u2.oneCell' = true) :
    Calls Try.prog 124 #[.slice (some ⟨b, o, none⟩) 1 cap, .int .i64 2] w fun e w' => e = .returned (.slice (some ⟨w.heap.size, 0, none⟩) 2 2) ∧ w'.heap[w.heap.size]? = some (.cells #[u0, u1, u2, u0, u1, u2] 77 (0, 0)) ∧ Below w.heap.size w w' := by
  obtain ⟨i0, hi, hz0, hz1, hz2⟩ : ∃ i0, Try.prog.info? 77 = some i0 ∧ i0.zero = some (.agg #[.int .i64 0, .int .i64 0, .int .i64 0]) ∧ i0.size = 3 ∧ i0.bytes = 24 := ⟨_, rfl, by kernel_rfl, by kernel_rfl, by kernel_rfl⟩
  have hmk : ∀ W : World, (Instr.makeSlice 38 (.int .i64 2) (.int .i64 2)).run Try.prog W = .ok (.slice (some ⟨W.heap.size, 0, none⟩) 2 2) (W.alloc (.cells #[.int .i64 0, .int .i64 0, .int .i64 0, .int .i64 0, .int .i64 0, .int .i64 0] 77)) := fun W => by
    have h := run_makeSlice (P := Try.prog) W 38 77 i0 _ Try.underlying38 hi hz0 .i64 .i64 2 2 (by omega) (by omega) (by rw [hz1]; decide) (by rw [hz2]; decide) (by omega)
    rw [hz1, show madeCells (Value.agg #[.int .i64 0, .int .i64 0, .int .i64 0]).cells (Int.toNat 2 * 3) = #[.int .i64 0, .int .i64 0, .int .i64 0, .int .i64 0, .int .i64 0, .int .i64 0] from by kernel_rfl] at h
    exact h
  have hb1 : bits BinOp.and IntKind.u64 1 4294967295 = 1 := by decide
  have hb2 : bits BinOp.and IntKind.u64 2 4294967295 = 2 := by decide
  have hb0 : bits BinOp.and IntKind.u64 0 4294967295 = 0 := by decide
  have hw0 : IntKind.u64.wrap 0 = 0 := by decide
  have hw2 : IntKind.u64.wrap 2 = 2 := by decide
  obtain ⟨W0, hW0⟩ : ∃ W0, W0 = w.alloc (.cells #[.int .i64 0, .int .i64 0, .int .i64 0, .int .i64 0, .int .i64 0, .int .i64 0] 77) := ⟨_, rfl⟩
  obtain ⟨W1, hW1⟩ : ∃ W1, W1 = W0.setRow w.heap.size #[u0, u1, u2, .int .i64 0, .int .i64 0, .int .i64 0] := ⟨_, rfl⟩
  obtain ⟨W2, hW2⟩ : ∃ W2, W2 = W1.drew.setRow w.heap.size #[u0, u1, u2, u0, u1, u2] := ⟨_, rfl⟩
  have hone : ∀ v ∈ [u0, u1, u2], v.oneCell' = true := fun v hv => by
    simp at hv
    rcases hv with rfl | rfl | rfl
    · exact k0
    · exact k1
    · exact k2
  have g0 : W0.heap[w.heap.size]? = some (.cells #[.int .i64 0, .int .i64 0, .int .i64 0, .int .i64 0, .int .i64 0, .int .i64 0] 77 (0, 0)) := by rw [hW0]; exact heap_alloc_new w _
  have g1 : W1.heap[w.heap.size]? = some (.cells #[u0, u1, u2, .int .i64 0, .int .i64 0, .int .i64 0] 77 (0, 0)) := by rw [hW1]; exact setRow_heap W0 _ _ _ 77 (0, 0) g0
  have g1' : W1.drew.heap[w.heap.size]? = some (.cells #[u0, u1, u2, .int .i64 0, .int .i64 0, .int .i64 0] 77 (0, 0)) := g1
  have g2 : W2.heap[w.heap.size]? = some (.cells #[u0, u1, u2, u0, u1, u2] 77 (0, 0)) := by rw [hW2]; exact setRow_heap W1.drew _ _ _ 77 (0, 0) g1'
  have b0 : Below w.heap.size w W0 := by rw [hW0]; exact (Below.refl _ w).alloc (Nat.le_refl _) _
  have row : ∀ (W : World) (cs : Array Value), Below w.heap.size w W → Below w.heap.size w (W.setRow w.heap.size cs) := fun W cs h =>
    ⟨h.os, h.tape, h.output, by simpa [World.setRow] using h.size, fun k hk => (setRow_other W w.heap.size k cs (by omega)).trans (h.block k hk)⟩
  have b1 : Below w.heap.size w W1 := by rw [hW1]; exact row _ _ b0
  have b2 : Below w.heap.size w W2 := by rw [hW2]; exact row _ _ b1.drew
  have hbl := World.block_lt_of_cell? w _ h0
  have cell0 : ∀ a : Addr, a.block = b → W0.cell? a = w.cell? a := fun a ha => World.cell?_of_block (b0.block a.block (by rw [ha]; exact hbl))
  have hcp1 : (Builtin.copy_ #[38, 38] 3 #[.slice (some ⟨w.heap.size, 0, none⟩) 2 2, .slice (some ⟨b, o, none⟩) 1 cap]).run Try.prog W0 = .ok (.int .i64 1) W1 := by
    have h := run_copy3 (P := Try.prog) W0 38 38 3 77 w.heap.size 0 2 2 ⟨b, o, none⟩ 1 cap _ 77 [u0, u1, u2] Try.underlying38 hi hz1 g0 (by decide) rfl (fun j v hj => by
      rw [addr_add, cell0 _ rfl]
      match j, hj with
      | 0, hj => simp at hj; subst hj; exact h0
      | 1, hj => simp at hj; subst hj; exact h1
      | 2, hj => simp at hj; subst hj; exact h2) (by simp) hone
    rw [h, hW1]
    rfl
  have hcp2 : (Builtin.copy_ #[38, 38] 3 #[.slice (some ⟨w.heap.size, 3, none⟩) 1 1, .slice (some ⟨w.heap.size, 0, none⟩) 1 2]).run Try.prog W1.drew = .ok (.int .i64 1) W2 := by
    have h := run_copy3 (P := Try.prog) W1.drew 38 38 3 77 w.heap.size 3 1 1 ⟨w.heap.size, 0, none⟩ 1 2 _ 77 [u0, u1, u2] Try.underlying38 hi hz1 g1' (by decide) rfl (fun j v hj => by
      rw [addr_add, Nat.zero_add, cell_of_row _ w.heap.size j _ 77 (0, 0) g1']
      match j, hj with
      | 0, hj => simpa using hj
      | 1, hj => simpa using hj
      | 2, hj => simpa using hj) (by simp) hone
    rw [h, hW2]
    rfl
  clear hW2 hW1 row cell0 g0 g1 g1' hone hbl h0 h1 h2 b0
  have hmix : Try.prog.follows .mixedOrders = true := cloMixed
  have hmk0 := hmk w
  rw [← hW0] at hmk0
  clear hmk hW0
  go_enter Try.func124, Try.ntmps124
  go_wp2
  go_loopw [8] (fun n wr => (n = .int .i64 1 ∧ wr = W1) ∨ (n = .int .i64 2 ∧ wr = W2)) (fun n _ => 2 - (RowKit.intOf n).toNat)
  case atStart => exact .inl ⟨rfl, rfl⟩
  case round =>
    rcases hrel with ⟨rfl, rfl⟩ | ⟨rfl, rfl⟩
    · go_wp2
      first | go_region_law (fail) | skip
      all_goals simp [Act.put, show IntKind.i64.wrap 2 = 2 from by decide]
      all_goals go_wp2
      all_goals exact ⟨⟨_, _, _, _, _, _, _, _, _, _, _, _, _, _, .inr ⟨rfl, trivial⟩, rfl⟩, by simp [RowKit.intOf]⟩
    · go_wp2
      go_ret
      exact ⟨rfl, g2, b2⟩
end Gv

/- slices.Repeat of one stop, twice, told by what it gives. -/
namespace Gv
open Go Go.Proofs Go.RowKit Go.Lib

def repG : List PV → Option PV
  | [.list 1 [a, b, c], .int .i64 2] => some (.list 2 [a, b, c, a, b, c])
  | _ => none

theorem rep124 : PrimOK Try.prog 124 repG := by
  refine ⟨⟨Try.f124, Try.func124, by kernel_rfl, by decide⟩, fun args v hg w St vals hlt hargs => ?_⟩
  unfold repG at hg
  split at hg
  · rename_i a b c
    simp only [Option.some.injEq] at hg
    subst hg
    simp only [PRs] at hargs
    obtain ⟨x, _, rfl, hx, y, _, rfl, hy, rfl⟩ := hargs
    simp only [PR] at hy
    subst hy
    obtain ⟨ad0, cap, us, rfl, hus, hcap, hat⟩ := hx
    rcases hat with ⟨h, _⟩ | ⟨ad, rfl, hat⟩
    · omega
    · have hus0 := hus
      simp only [PRs] at hus
      obtain ⟨u0, _, rfl, _, u1, _, rfl, _, u2, _, rfl, _, rfl⟩ := hus
      obtain ⟨_, c0, k0⟩ := hat 0 u0 rfl
      obtain ⟨_, c1, k1⟩ := hat 1 u1 rfl
      obtain ⟨_, c2, k2⟩ := hat 2 u2 rfl
      have e0 := add_form ad 0 (cell_spot c0)
      have e1 := add_form ad 1 (cell_spot c1)
      have e2 := add_form ad 2 (cell_spot c2)
      have e : ad = ⟨ad.block, ad.off, none⟩ := e0
      rw [e0] at c0
      rw [e1] at c1
      rw [e2] at c2
      rw [e]
      refine (repeat_two w ad.block ad.off cap u0 u1 u2 c0 c1 c2 k0 k1 k2).mono ?_
      rintro e w' ⟨rfl, hh, hb⟩
      have ev : Evo St w (fun q o => St q o ∨ (q = w.heap.size ∧ o < 6)) w' := evo_below hlt hb fun _ _ h => .inl h
      have hp := PRs.mono ev _ _ hus0
      refine ⟨_, fun q o => St q o ∨ (q = w.heap.size ∧ o < 6), rfl, ?_, hb, fun _ _ h => .inl h, fun q o hs => ?_, fun q o hs => hs.imp id fun h => Nat.le_of_eq h.1.symm⟩
      · refine ⟨_, 2, [u0, u1, u2, u0, u1, u2], rfl, hp.append hp, by omega, .inr ⟨_, rfl, fun j x hj => ?_⟩⟩
        have hjl := (List.getElem?_eq_some_iff.1 hj).1
        refine ⟨.inr ⟨rfl, by simpa using hjl⟩, ?_, ?_⟩
        · rw [addr_add, Nat.zero_add, cell_of_row w' w.heap.size j _ 77 (0, 0) hh]
          simpa using hj
        · have hm := List.mem_of_getElem? hj
          simp at hm
          rcases hm with h | h | h | h | h | h <;> subst h <;> assumption
      · rcases hs with hs | ⟨rfl, _⟩
        · exact Nat.lt_of_lt_of_le (hlt q o hs) hb.size
        · exact heap_lt hh
  · cases hg
end Gv

/- slices.Concat of the document's example, told by what it gives. -/
namespace Gv
open Go Go.Proofs Go.RowKit
set_option maxRecDepth 100000
def env1 (f : Nat) : Option AFn := match f with
  | 114 => some a114
  | 127 => some a127
  | _ => none
theorem env1_ok : EnvOK Try.prog env1 := by
  intro f af h
  unfold env1 at h
  split at h
  · cases h; exact .inl ⟨Try.f114, r114, k114, Try.func114, e114⟩
  · cases h; exact .inr (.inr (.inl ⟨2, rfl, grow127⟩))
  · cases h
def E114 : List Entry := [.inl 127 a127 s127]
theorem E114_ok : ∀ e ∈ E114, EntOK env1 e := (ent_inl rfl ent_nil)
theorem cat0 : semF (callP (Fn env1) E114 1000) s114 (loopT []) 400 a114 [.list 2 [.list 2 [.int .i64 20, .int .i64 0, .int .i64 10, .int .i64 0], .list 1 [.int .i64 0, .int .i64 0]]] (fun rv => decR (RSh.one CK.list) rv.pv) =
    some (3, [.int .i64 20, .int .i64 0, .int .i64 10, .int .i64 0, .int .i64 0, .int .i64 0]) := by kernel_rfl
theorem cat_run : Fn env1 114 (RSh.one CK.list) [.list 2 [.list 2 [.int .i64 20, .int .i64 0, .int .i64 10, .int .i64 0], .list 1 [.int .i64 0, .int .i64 0]]] = some (3, [.int .i64 20, .int .i64 0, .int .i64 10, .int .i64 0, .int .i64 0, .int .i64 0]) :=
  fn_of E114_ok rfl rfl lo_nil cat0

def catG : List PV → Option PV
  | [.list 2 [.list 2 [.int .i64 20, .int .i64 0, .int .i64 10, .int .i64 0], .list 1 [.int .i64 0, .int .i64 0]]] => some (.list 3 [.int .i64 20, .int .i64 0, .int .i64 10, .int .i64 0, .int .i64 0, .int .i64 0])
  | _ => none
theorem cat114 : PrimOK Try.prog 114 catG := by
  refine ⟨⟨Try.f114, Try.func114, by kernel_rfl, by decide⟩, fun args v hg w St vals hlt hargs => ?_⟩
  unfold catG at hg
  split at hg
  · simp only [Option.some.injEq] at hg
    subst hg
    obtain ⟨rv, h1, h2⟩ := Fn_some cat_run
    have hc := ((run_sound cloMixed env1_ok).fn 114 _ rv h1).2 w St vals hlt hargs
    refine hc.mono fun e w' hp => ?_
    cases rv with
    | val x =>
      have hx : x = .list 3 [.int .i64 20, .int .i64 0, .int .i64 10, .int .i64 0, .int .i64 0, .int .i64 0] := h2
      subst hx
      exact hp
    | own n sz cs =>
      have : PV.list n cs = .list 3 [.int .i64 20, .int .i64 0, .int .i64 10, .int .i64 0, .int .i64 0, .int .i64 0] := h2
      simp only [PV.list.injEq] at this
      obtain ⟨rfl, rfl⟩ := this
      obtain ⟨u', St', rfl, h1, h2⟩ := hp
      exact ⟨u', St', rfl, own_list h1, h2⟩
  · cases hg
end Gv
