/- A division that is grown by one segment: told by what it gives. -/
import Derived.Test.YtdabeaggjgkkdaaCT2
import Derived.Deep.RegionLaw
namespace Gv
open Go Go.Proofs Go.RowKit Go.Shelf Go.Sort Go.ChangeShapes Go.WideShapes
set_option maxRecDepth 100000

theorem grown_heap1 (w : World) (o1 o2 o3 o4 : Obj) : ((((w.alloc o1).alloc o2).alloc o3).alloc o4).drew.drew.heap[w.heap.size + 1]? = some o2 := by
  show ((((w.alloc o1).alloc o2).alloc o3).alloc o4).heap[w.heap.size + 1]? = some o2
  have a : ∀ (v : World) (o : Obj) (k : Nat), k < v.heap.size → (v.alloc o).heap[k]? = v.heap[k]? := fun v o k hk => by
    show (v.heap.push o)[k]? = v.heap[k]?
    rw [Array.getElem?_push, if_neg (Nat.ne_of_lt hk)]
  rw [a _ _ _ (by simp only [World.size_alloc]; omega), a _ _ _ (by simp only [World.size_alloc]; omega)]
  have h := heap_alloc_new (w.alloc o1) o2
  rw [World.size_alloc] at h
  exact h

/-- An append whose run is told. -/
theorem step_append {ops : Array Oper} {o : Oper} {a : Act} {W W' : World} {v v1 v2 : Value} {KK : Act → World → Prop} {Q : Exit → Act → World → Prop} {E : Prop} (hw : Region.wanted o (yielded ops a.tmps) = true) (s x : Operand) (t : TypeId)
    (hop : o.op = .call { callee := .builtin .append, args := #[s, x], argTypes := #[t, t] }) (hs : a.eval s = v1) (hx : a.eval x = v2) (hrun : (Builtin.append_ #[t, t] o.type #[v1, v2]).run Try.prog W = .ok v W') (hK : KK (a.put o.dst v) W') :
    if Region.wanted o (yielded ops a.tmps) = true then Oper.wp Try.prog o a W KK Q else E := by
  rw [if_pos hw]
  unfold Oper.wp
  simp [execOp, hop, resolve, invoke, builtin, hs, hx, hrun, Result.andThen]
  exact hK

theorem grown_below (w : World) (o1 o2 o3 : Obj) (row : Array Value) : Below w.heap.size w ((((w.alloc o1).alloc o2).alloc o3).alloc (.cells row 3)).drew.drew := by
  refine ((((((Below.refl _ w).alloc (Nat.le_refl _) o1).alloc ?_ o2).alloc ?_ o3).alloc ?_ _).drew).drew
  all_goals simp only [World.size_alloc]; omega
theorem grown_heap (w : World) (o1 o2 o3 : Obj) (row : Array Value) : ((((w.alloc o1).alloc o2).alloc o3).alloc (.cells row 3)).drew.drew.heap[w.heap.size + 1 + 1 + 1]? = some (.cells row 3 (0, 0)) := by
  have h := heap_alloc_new ((((w.alloc o1).alloc o2).alloc o3)) (.cells row 3)
  simp only [World.size_alloc] at h
  exact h

set_option maxHeartbeats 1000000 in
theorem grown_at (a : Option Addr) (n cap : Nat) (us : List Value) (c s k : Int) (w : World) (hn : n ≤ cap) (hn2 : n ≤ 1000) (hul : us.length = n) (hu : (n = 0 ∧ us = []) ∨ ∃ ad, a = some ad ∧ ∀ j v, us[j]? = some v → w.cell? (ad.add j) = some v) :
    Calls Try.prog 98 #[.agg #[.slice a n cap, .int .i64 c], .int .i64 s, .int .i64 k] w fun e w' => ∃ q row, e = .returned (.agg #[.slice (some ⟨w.heap.size + 1 + 1 + 1, 0, none⟩) (n + 1) q, .int .i64 (IntKind.i64.wrap (c + k))]) ∧
      w'.heap[w.heap.size + 1 + 1 + 1]? = some (.cells row 3 (0, 0)) ∧ n + 1 ≤ q ∧ row.toList.take (n + 1) = us ++ [.int .i64 s] ∧ Below w.heap.size w w' := by
  obtain ⟨i0, hi, hz0, hz1, hz2⟩ : ∃ i0, Try.prog.info? 3 = some i0 ∧ i0.zero = some (.int .i64 0) ∧ i0.size = 1 ∧ i0.bytes = 8 := ⟨_, rfl, by kernel_rfl, by kernel_rfl, by kernel_rfl⟩
  have happ : ∃ (q : Nat) (row : Array Value), n + 1 ≤ q ∧ row.toList.take (n + 1) = us ++ [.int .i64 s] ∧
      (Builtin.append_ #[22, 22] 22 #[.slice a n n, .slice (some ⟨w.heap.size + 1 + 1, 0, none⟩) 1 1]).run Try.prog
        (((w.alloc (.cells #[.slice a n cap, .int .i64 c] 103)).alloc (.cells #[.slice none 0 0, .int .i64 0] 103)).alloc (.cells #[.int .i64 s] 3)).drew =
      .ok (.slice (some ⟨w.heap.size + 1 + 1 + 1, 0, none⟩) (n + 1) q)
        ((((w.alloc (.cells #[.slice a n cap, .int .i64 c] 103)).alloc (.cells #[.slice none 0 0, .int .i64 0] 103)).alloc (.cells #[.int .i64 s] 3)).alloc (.cells row 3)).drew.drew := by
    obtain ⟨W2, hW2⟩ : ∃ W2, W2 = ((w.alloc (.cells #[.slice a n cap, .int .i64 c] 103)).alloc (.cells #[.slice none 0 0, .int .i64 0] 103)) := ⟨_, rfl⟩
    rw [← hW2]
    have hs2 : W2.heap.size = w.heap.size + 1 + 1 := by rw [hW2, World.size_alloc, World.size_alloc]
    have hb2 : Below w.heap.size w W2 := by
      rw [hW2]
      exact ((Below.refl _ w).alloc (Nat.le_refl _) _).alloc (by rw [World.size_alloc]; omega) _
    obtain ⟨W3, hW3⟩ : ∃ W3, W3 = (W2.alloc (.cells #[.int .i64 s] 3)).drew := ⟨_, rfl⟩
    have hs3 : W3.heap.size = w.heap.size + 1 + 1 + 1 := by rw [hW3, ← hs2]; exact World.size_alloc _ _
    have hnew : W3.heap[w.heap.size + 1 + 1]? = some (.cells #[.int .i64 s] 3 (0, 0)) := by rw [hW3, ← hs2]; exact heap_alloc_new W2 _
    have hb3 : Below w.heap.size w W3 := by rw [hW3]; exact (hb2.alloc (by omega) _).drew
    have hx : ∀ j u, [Value.int .i64 s][j]? = some u → W3.cell? ((⟨w.heap.size + 1 + 1, 0, none⟩ : Addr).add j) = some u := by
      intro j u hj
      rw [addr_add, Nat.zero_add, cell_of_row W3 _ j _ 3 (0, 0) hnew]
      simpa using hj
    rw [← hW3]
    have hdr : ∀ row, (((W2.alloc (.cells #[.int .i64 s] 3)).alloc (.cells row 3)).drew.drew) = W3.drew.alloc (.cells row 3) := fun row => by rw [hW3]; rfl
    rcases hu with ⟨h0, hus⟩ | ⟨ad, had, hat⟩
    · subst h0
      subst hus
      cases a with
      | none =>
        have hrun := run_append_nil (P := Try.prog) W3 22 22 3 i0 _ Try.underlying22 hi hz0 ⟨w.heap.size + 1 + 1, 0, none⟩ 1 1 [.int .i64 s] (by rw [hz1]; rfl) hx (by omega) (by omega) (by rw [hz2]; omega)
        have hge := grownCap_ge W3 1 0 3
        refine ⟨grownCap W3 1 0 3, [Value.int .i64 s].toArray ++ Builtin.zeroCells (Value.int .i64 0).cells (grownCap W3 1 0 3 - 1), hge, ?_, ?_⟩
        · simp
        · rw [hdr, ← hs3]
          exact hrun
      | some ad =>
        have hrun := run_append_grow (P := Try.prog) W3 22 22 3 i0 _ Try.underlying22 hi hz0 ad 0 0 [] (by rw [hz1]; rfl) (fun j v hj => by simp at hj) ⟨w.heap.size + 1 + 1, 0, none⟩ 1 1 [.int .i64 s] (by rw [hz1]; rfl) hx (by omega) (by omega) (growslice_fits (by omega) (by rw [hz2]; omega))
        have hge := grownCap_ge W3 1 0 3
        refine ⟨grownCap W3 1 0 3, ([] : List Value).toArray ++ [Value.int .i64 s].toArray ++ Builtin.zeroCells (Value.int .i64 0).cells (grownCap W3 1 0 3 - 1), hge, ?_, ?_⟩
        · simp
        · rw [hdr, ← hs3]
          exact hrun
    · subst had
      have hold : ∀ j v, us[j]? = some v → W3.cell? (ad.add j) = some v := fun j v hj => by
        have h0 := hat j v hj
        rw [← h0]
        exact World.cell?_of_block (hb3.block _ (World.block_lt_of_cell? w _ h0))
      have hrun := run_append_grow (P := Try.prog) W3 22 22 3 i0 _ Try.underlying22 hi hz0 ad n n us (by rw [hz1]; omega) hold ⟨w.heap.size + 1 + 1, 0, none⟩ 1 1 [.int .i64 s] (by rw [hz1]; rfl) hx (by omega) (by omega) (growslice_fits (by omega) (by rw [hz2]; omega))
      have hge := grownCap_ge W3 (n + 1) n 3
      refine ⟨grownCap W3 (n + 1) n 3, us.toArray ++ [Value.int .i64 s].toArray ++ Builtin.zeroCells (Value.int .i64 0).cells (grownCap W3 (n + 1) n 3 - (n + 1)), hge, ?_, ?_⟩
      · simp only [Array.toList_append, List.toList_toArray]
        rw [List.take_append_of_le_length (by simp; omega), List.take_of_length_le (by simp; omega)]
      · rw [hdr, ← hs3]
        exact hrun
  obtain ⟨q, row, hq, hrow, happ⟩ := happ
  clear hu
  have hmix : Try.prog.follows .mixedOrders = true := by kernel_rfl
  go_enter Try.func98, Try.ntmps98
  go_wp2
  go_region_law (refine step_append (by first | rfl | simp [Region.wanted, yielded]) (.tmp 15) (.tmp 17) 22 rfl rfl rfl happ ?_)
  all_goals go_wp2
  all_goals (try simp only [Exit.inBlock, Exit.then])
  all_goals refine bodyPost_ret (v := .agg #[.slice (some ⟨w.heap.size + 1 + 1 + 1, 0, none⟩) (n + 1) q, .int .i64 (IntKind.i64.wrap (c + k))]) ?_ rfl ⟨q, row, rfl, grown_heap w _ _ _ row, hq, hrow, grown_below w _ _ _ row⟩
  all_goals exact results_cell_row rfl _ _ (w.heap.size + 1) 103 _ (0, 0) _ rfl (grown_heap1 w _ _ _ _) Try.underlying103 rfl (by kernel_rfl)

def grownG : List PV → Option PV
  | [.agg [.list n cs, .int .i64 c], .int .i64 s, .int .i64 k] => if cs.length = n ∧ n ≤ 1000 then some (.agg [.list (n + 1) (cs ++ [.int .i64 s]), .int .i64 (IntKind.i64.wrap (c + k))]) else none
  | _ => none
theorem grown98 : PrimOK Try.prog 98 grownG := by
  refine ⟨⟨Try.f98, Try.func98, by kernel_rfl, by decide⟩, fun args v hg w St vals hlt hargs => ?_⟩
  unfold grownG at hg
  split at hg <;> try (cases hg; done)
  rename_i n cs c s k
  split at hg <;> try (cases hg; done)
  rename_i hn
  simp only [Option.some.injEq] at hg
  subst hg
  simp only [PRs, PR] at hargs
  obtain ⟨u, _, rfl, ⟨us0, rfl, u1, _, rfl, ⟨a, cap, us, rfl, hus, hcap, hat⟩, u2, _, rfl, rfl, rfl⟩, u3, _, rfl, rfl, u4, _, rfl, rfl, rfl⟩ := hargs
  have hul : us.length = n := by rw [hus.length]; exact hn.1
  refine (grown_at a n cap us c s k w hcap hn.2 hul ?_).mono ?_
  · rcases hat with h | ⟨ad, ha, hat⟩
    · exact .inl h
    · exact .inr ⟨ad, ha, fun j v hj => (hat j v hj).2.1⟩
  · rintro e w' ⟨q, row, rfl, hh, hq, hrow, hb⟩
    have ev : Evo St w (fun q o => St q o ∨ (q = w.heap.size + 1 + 1 + 1 ∧ o < n + 1)) w' := evo_below hlt hb fun _ _ h => .inl h
    have hp := PRs.mono ev _ _ hus
    refine ⟨_, fun q o => St q o ∨ (q = w.heap.size + 1 + 1 + 1 ∧ o < n + 1), rfl, ?_, hb, fun _ _ h => .inl h, fun q o hs => ?_, fun q o hs => hs.imp id fun h => by omega⟩
    · simp only [RR, PR]
      refine ⟨[.slice (some ⟨w.heap.size + 1 + 1 + 1, 0, none⟩) (n + 1) q, .int .i64 (IntKind.i64.wrap (c + k))], rfl, ?_⟩
      simp only [PRs, PR]
      refine ⟨_, _, rfl, ⟨_, q, us ++ [.int .i64 s], rfl, hp.append ?_, hq, .inr ⟨_, rfl, fun j x hj => ?_⟩⟩, _, _, rfl, rfl, rfl⟩
      · simp only [PRs, PR]
        exact ⟨_, _, rfl, rfl, rfl⟩
      · have hjl := (List.getElem?_eq_some_iff.1 hj).1
        have hj2 : j < n + 1 := by simpa [hul] using hjl
        refine ⟨.inr ⟨rfl, by simpa using hj2⟩, ?_, ?_⟩
        · rw [addr_add, Nat.zero_add, cell_of_row w' _ j _ 3 (0, 0) hh]
          rw [← hrow, List.getElem?_take_of_lt hj2] at hj
          simpa using hj
        · have hm := List.mem_of_getElem? hj
          rcases List.mem_append.1 hm with h | h
          · rcases hat with ⟨_, h0⟩ | ⟨ad, ha, hat⟩
            · rw [h0] at h; simp at h
            · obtain ⟨i, hi, rfl⟩ := List.getElem_of_mem h
              exact (hat i _ (List.getElem?_eq_getElem hi)).2.2
          · simp at h
            subst h
            rfl
    · rcases hs with hs | ⟨rfl, _⟩
      · exact Nat.lt_of_lt_of_le (hlt q o hs) hb.size
      · exact heap_lt hh
end Gv
