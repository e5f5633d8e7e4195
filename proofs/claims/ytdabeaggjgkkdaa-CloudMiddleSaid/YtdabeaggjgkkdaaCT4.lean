/- The turns of shots: told by what it gives. -/
import Derived.Test.YtdabeaggjgkkdaaCT3
import Derived.LoopTactic
import Derived.OwnWalk
namespace Gv
open Go Go.Proofs Go.RowKit Go.Shelf Go.Sort Go.ChangeShapes Go.WideShapes
set_option maxRecDepth 100000

/-- A shot: from, to, power. -/
abbrev Sht := Int × Int × Int
def trnF (win : Int) (z : Sht) : List Int := [z.1, z.2.1, wrap64 (z.1 + win), wrap64 (z.2.1 + win)]
def trnL (win : Int) (sh : List Sht) : List Int := sh.flatMap (trnF win)
theorem trnL_len (win : Int) : ∀ sh : List Sht, (trnL win sh).length = 4 * sh.length
  | [] => rfl
  | z :: sh => by
    show (trnF win z ++ trnL win sh).length = _
    rw [List.length_append, trnL_len win sh, List.length_cons]
    show 4 + _ = _
    omega

theorem four_new (W : World) (x y z u : Value) (t : TypeId) : ∀ j v, [x, y, z, u][j]? = some v → (W.alloc (.cells #[x, y, z, u] t)).cell? ((⟨W.heap.size, 0, none⟩ : Addr).add j) = some v := by
  intro j v hj
  have h : (W.alloc (.cells #[x, y, z, u] t)).heap[W.heap.size]? = some (.cells #[x, y, z, u] t (0, 0)) := heap_alloc_new W _
  rw [addr_add, Nat.zero_add, cell_of_row _ _ j _ t (0, 0) h]
  simpa using hj

set_option maxHeartbeats 1000000 in
theorem turns_at (b off cap : Nat) (sh : List Sht) (win : Int) (w : World) (hn : sh.length ≤ 1000)
    (hc : ∀ j z, sh[j]? = some z → w.cell? ⟨b, off + j * 3, none⟩ = some (.int .i64 z.1) ∧ w.cell? ⟨b, off + j * 3 + 1, none⟩ = some (.int .i64 z.2.1) ∧ w.cell? ⟨b, off + j * 3 + 2, none⟩ = some (.int .i64 z.2.2)) :
    Calls Try.prog 85 #[.slice (some ⟨b, off, none⟩) sh.length cap, .int .i64 win] w fun e w' => ∃ v, e = .returned v ∧ w'.ownsRow w.heap.size 3 1 v (4 * sh.length) ((isort (trnL win sh)).map (Value.int .i64)) ∧ Below w.heap.size w w' := by
  have hmix : Try.prog.follows .mixedOrders = true := by kernel_rfl
  obtain ⟨i0, hi, hz0, hz1, hz2⟩ : ∃ i0, Try.prog.info? 3 = some i0 ∧ i0.zero = some (.int .i64 0) ∧ i0.size = 1 ∧ i0.bytes = 8 := ⟨_, rfl, by kernel_rfl, by kernel_rfl, by kernel_rfl⟩
  obtain ⟨n, hnl⟩ : ∃ n, n = sh.length := ⟨_, rfl⟩
  have X : Aside (n = sh.length) := hnl
  rw [← hnl] at hn ⊢
  clear hnl
  have HC : Hid (∀ j z, sh[j]? = some z → w.cell? ⟨b, off + j * 3, none⟩ = some (.int .i64 z.1) ∧ w.cell? ⟨b, off + j * 3 + 1, none⟩ = some (.int .i64 z.2.1) ∧ w.cell? ⟨b, off + j * 3 + 2, none⟩ = some (.int .i64 z.2.2)) := hc
  clear hc
  go_enter Try.func85, Try.ntmps85
  go_wp2
  go_loopw [5, 10] (fun v i wr => ∃ (k : Nat) (ao : Option Addr) (cv : Nat), k ≤ n ∧ i = .int .i64 k ∧ v = .slice ao (4 * k) cv ∧ wr.ownsRow w.heap.size 3 1 v (4 * k) ((trnL win (sh.take k)).map (Value.int .i64)) ∧ Below w.heap.size w wr)
    (fun _ i _ => n - (RowKit.intOf i).toNat)
  case atStart => exact ⟨0, none, 0, Nat.zero_le _, rfl, rfl, World.ownsRow_nil _ _ _ _, Below.refl _ _⟩
  case round =>
    obtain ⟨k, ao, cv, hk, rfl, rfl, hown, hnx⟩ := hrel
    have hsize := hnx.size
    by_cases hlt : k < n
    · obtain ⟨z, hz⟩ : ∃ z, sh[k]? = some z := ⟨sh[k]'(by rw [← X.out]; exact hlt), List.getElem?_eq_getElem _⟩
      obtain ⟨c0, c1, c2⟩ := HC.out k z hz
      have hbl := World.block_lt_of_cell? w _ c0
      have cellr : ∀ a : Addr, a.block = b → wr.cell? a = w.cell? a := fun a ha => World.cell?_of_block (hnx.block a.block (by rw [ha]; exact hbl))
      rw [← cellr _ rfl] at c0 c1 c2
      have HZ : Hid (sh[k]? = some z) := hz
      clear cellr hz
      have h4 := four_new (wr.alloc (.cells #[.int .i64 z.1, .int .i64 z.2.1, .int .i64 z.2.2] 123)) (.int .i64 z.1) (.int .i64 z.2.1) (.int .i64 (wrap64 (z.1 + win))) (.int .i64 (wrap64 (z.2.1 + win))) 3
      rw [World.size_alloc] at h4
      have H4 : Hid (∀ j v, [Value.int .i64 z.1, .int .i64 z.2.1, .int .i64 (wrap64 (z.1 + win)), .int .i64 (wrap64 (z.2.1 + win))][j]? = some v → ((wr.alloc (.cells #[.int .i64 z.1, .int .i64 z.2.1, .int .i64 z.2.2] 123)).alloc (.cells #[.int .i64 z.1, .int .i64 z.2.1, .int .i64 (wrap64 (z.1 + win)), .int .i64 (wrap64 (z.2.1 + win))] 3)).cell? ((⟨wr.heap.size + 1, 0, none⟩ : Addr).add j) = some v) := h4
      clear h4
      go_wp2_with (first
        | (at_builtin; go_loud (refine wpList_append_own _ rfl _ _ 22 rfl w.heap.size 3 i0 (.int .i64 0) 1 8 Try.underlying22 hi hz0 hz1 hz2 rfl (by decide) _ _ _ rfl ((hown.alloc _).alloc _) ⟨wr.heap.size + 1, 0, none⟩ 4 4 [.int .i64 z.1, .int .i64 z.2.1, .int .i64 (wrap64 (z.1 + win)), .int .i64 (wrap64 (z.2.1 + win))] rfl rfl H4.out (fun x hx => by simp at hx; rcases hx with h | h | h | h <;> subst h <;> rfl) (by unfold maxLen; omega) (by omega) (by simp; omega) ?_); intro v' w3 hown' hgrow3 hnil3))
      obtain ⟨g3, cap3, hv3⟩ : ∃ g3 cap3, v' = .slice (some ⟨g3, 0, none⟩) (4 * k + 4) cap3 := by
        rcases hown'.2 with ⟨_, h⟩ | ⟨g3, cap3, _, h, _⟩
        · omega
        · exact ⟨g3, cap3, h⟩
      have htk : trnL win (sh.take (k + 1)) = trnL win (sh.take k) ++ trnF win z := by
        unfold trnL
        rw [List.take_add_one, HZ.out, List.flatMap_append]
        simp
      have hb3 : Below w.heap.size w w3 := ((hnx.alloc hsize _).alloc (by rw [World.size_alloc]; omega) _).grown hgrow3 (by simp only [World.size_alloc]; omega) (fun q hq => (hown.lt q hq).1)
      refine ⟨⟨k + 1, some ⟨g3, 0, none⟩, cap3, by omega, by simp, hv3, ?_, hb3⟩, by simp [RowKit.intOf]; omega⟩
      rw [htk, List.map_append]
      exact hown'
    · obtain rfl : k = n := by omega
      have hs := sort_own hown (by omega)
      have hfull : sh.take k = sh := by rw [X.out]; exact List.take_length
      rw [hfull] at hs
      have Y : Aside (Below w.heap.size w wr ∧ ∀ q, (Value.slice ao (4 * k) cv).ownBlock = some q → w.heap.size ≤ q) := ⟨hnx, fun q hq => (hown.lt q hq).1⟩
      clear hown hnx hfull
      go_wp2_with (go_at_call 107; refine hs.mono ?_; rintro e w2 ⟨rfl, ho2, hg2⟩)
      go_ret
      exact ⟨_, rfl, ho2, Y.out.1.grown hg2 Y.out.1.size Y.out.2⟩
end Gv
