/- The orders of so many numbers, one after the other: what scan's iterator yields. -/
import Derived.Test.YtnnajeahbhempaaGvClo
import Derived.Test.YtnnajeahbhempaaGvIt
import Derived.Test.YtnnajeahbhempaaGvYk
import Derived.Test.YtnnajeahbhempaaPC
import Derived.RangeFuncKeeps
import Derived.RangeFuncBound
import Derived.RangeFuncLeaves
import Derived.Shelf.Abstract
import Derived.WalkKit
import Derived.OwnWalkIn
import Derived.TacticsInMore
import Derived.Lib.Walk
import Derived.Lib.SliceRun
import Derived.KernelRfl
import Derived.Shelf.RegionOpen
import Derived.Deep.RegionLaw
namespace Gv
open Go Go.Proofs Go.RowKit Go.Lib Go.Shelf
attribute [local go_sem] Oper.semAt_some
set_option maxRecDepth 100000

/-! slices.Clone, slices.Contains -/

set_option maxHeartbeats 2000000 in
theorem clone_row (a : Addr) (n c : Nat) (xs : List Value) (w : World) (hl : xs.length = n) (hx : ∀ j u, xs[j]? = some u → w.cell? (a.add j) = some u) (h1 : ∀ u ∈ xs, u.oneCell' = true) (hn : n ≤ 1000) :
    Calls Try.prog 117 #[.slice (some a) n c] w fun e w' => ∃ v', e = .returned v' ∧ w'.ownsRow w.heap.size 3 1 v' n xs ∧ Below w.heap.size w w' := by
  have q : ∀ (w : World) (a : Option Addr) (n c n' c' : Nat), (binOp .eql 85 (.slice a n c) (.slice none n' c')).run Try.prog w = .ok (.bool a.isNone) w := fun w a n c n' c' => Lib.run_eql_slice_nil w _ _ a n c n' c' Try.underlying85
  have u22 : ∀ w, Sem.run Try.prog (underlying 85) w = .ok (TypeDesc.slice 3) w := run_underlying Try.underlying85
  obtain ⟨i0, hi, hz0, hz1, hz2⟩ : ∃ i0, Try.prog.info? 3 = some i0 ∧ i0.zero = some (.int .i64 0) ∧ i0.size = 1 ∧ i0.bytes = 8 := ⟨_, rfl, by kernel_rfl, by kernel_rfl, by kernel_rfl⟩
  go_enter Try.func117, Try.ntmps117
  go_wp2_with (at_builtin; refine wpList_append_own _ rfl _ _ 85 rfl w.heap.size 3 i0 (.int .i64 0) 1 8 Try.underlying85 hi hz0 hz1 hz2 rfl (by decide) _ _ _ rfl (World.ownsRow_made w #[] 0 (Nat.le_refl _) (Nat.zero_le _) rfl) a n c xs rfl (by omega) (fun j u hj => (World.cell?_alloc_lt w _ _ (World.block_lt_of_cell? w _ (hx j u hj))).trans (hx j u hj)) h1 (by unfold maxLen; omega) (by omega) (by simp) ?_)
  intro v' w1 hown hgrow hnil
  go_wp2
  go_ret
  refine ⟨v', rfl, by simpa using hown, ?_⟩
  exact ((Below.refl _ w).alloc (Nat.le_refl _) _).grown hgrow (by simp) (by intro k hk; simp [Value.ownBlock] at hk; omega)

theorem valN_len (b : List Nat) : (valN b).length = b.length := by simp [valN]
theorem valN_one (b : List Nat) : ∀ u ∈ valN b, u.oneCell' = true := fun u hu => by
  simp only [valN, List.mem_map] at hu
  obtain ⟨y, _, rfl⟩ := hu
  rfl

theorem clone_any (w : World) (v : Value) (b : List Nat) (h : w.ownsRow 0 3 1 v b.length (valN b)) (hb : b.length ≤ 1000) :
    Calls Try.prog 117 #[v] w fun e w' => ∃ v', e = .returned v' ∧ w'.ownsRow w.heap.size 3 1 v' b.length (valN b) ∧ Below w.heap.size w w' := by
  rcases h.2 with ⟨rfl, h0⟩ | ⟨g, cap, cur, rfl, h1, h2, h3, h4, h5, h6⟩
  · refine (clone_nil117 0 0 w).mono ?_
    rintro e w' ⟨rfl, rfl⟩
    have := List.length_eq_zero_iff.1 h0
    subst this
    exact ⟨_, rfl, World.ownsRow_nil _ _ _ _, Below.refl _ _⟩
  · refine clone_row _ _ _ _ w (valN_len b) (fun j u hj => ?_) (valN_one b) hb
    rw [addr_add, Nat.zero_add, cell_of_row w g j cur 3 (0, 0) h2]
    rw [← h6, List.getElem?_take] at hj
    split at hj
    · simpa using hj
    · cases hj

theorem index_loop (b : List Nat) (hb : b.length ≤ 1000) (i : Nat) : ∀ j, j ≤ b.length →
    (i ∈ b.drop j → ∃ k : Nat, Rslices_Index___int_int__0 (Tslices_Index___int_int__0a b.length (encN b) (i : Int) (b.length : Int) (j : Int)) = exO (Xslices_Index___int_int__0a (k : Int))) ∧
      (i ∉ b.drop j → Rslices_Index___int_int__0 (Tslices_Index___int_int__0a b.length (encN b) (i : Int) (b.length : Int) (j : Int)) = exO (Xslices_Index___int_int__0b ())) := by
  refine up_ind _ ?_ ?_
  · refine ⟨fun h => by simp at h, fun _ => Rslices_Index___int_int__0a_of _ _ _ _ _ ?_⟩
    unfold Bslices_Index___int_int__0a
    rw [bif_neg (by omega)]
    rfl
  · intro j hj ih
    obtain ⟨x, hx, hd⟩ := get_drop hj
    have hg : (encN b)[j * 1]? = some (PV.int .i64 (x : Int)) := by rw [Nat.mul_one]; simp [encN, hx]
    have hw : w64 ((j : Int) + 1) = ((j + 1 : Nat) : Int) := by rw [w64_in (by omega)]; omega
    rw [hd]
    by_cases he : i = x
    · subst he
      refine ⟨fun _ => ⟨j, Rslices_Index___int_int__0a_of _ _ _ _ _ ?_⟩, fun h => by simp at h⟩
      unfold Bslices_Index___int_int__0a
      rw [bif_pos (by omega), bif_pos (by omega), Int.toNat_natCast, hg]
      simp only [intC_int, bindO_val, beq_self_eq_true, cond_true]
      rfl
    · have hne : ((i : Int) == (x : Int)) = false := by
        rw [beq_eq_false_iff_ne]
        omega
      have step : ∀ r, Rslices_Index___int_int__0 (Tslices_Index___int_int__0a b.length (encN b) (i : Int) (b.length : Int) ((j + 1 : Nat) : Int)) = some r → Rslices_Index___int_int__0 (Tslices_Index___int_int__0a b.length (encN b) (i : Int) (b.length : Int) (j : Int)) = some r := fun r hr => by
        refine Rslices_Index___int_int__0a_of _ _ _ _ _ ?_
        unfold Bslices_Index___int_int__0a
        rw [bif_pos (by omega), bif_pos (by omega), Int.toNat_natCast, hg]
        simp only [intC_int, bindO_val, hne, cond_false, hw]
        exact hr
      refine ⟨fun h => ?_, fun h => step _ (ih.2 fun h' => h (by simp [h']))⟩
      obtain ⟨k, hk⟩ := ih.1 (by simpa [he] using h)
      exact ⟨k, step _ hk⟩

theorem contains_is (b : List Nat) (hb : b.length ≤ 1000) (i : Nat) : Fslices_Contains___int_int_ [.list b.length (encN b), .int .i64 (i : Int)] = some (decide (i ∈ b)) := by
  have hl := index_loop b hb i 0 (Nat.zero_le _)
  rw [List.drop_zero] at hl
  refine Fslices_Contains___int_int__of _ _ _ ?_
  unfold tslices_Contains___int_int_
  by_cases h : i ∈ b
  · obtain ⟨k, hk⟩ := hl.1 h
    have hk := Lslices_Index___int_int__0a_of hk
    have hk : Lslices_Index___int_int__0 (Tslices_Index___int_int__0a b.length (encN b) (i : Int) (b.length : Int) 0) = _ := hk
    have hI : Fslices_Index___int_int_ [.list b.length (encN b), .int .i64 (i : Int)] = some (k : Int) := by
      refine Fslices_Index___int_int__of _ _ _ ?_
      unfold tslices_Index___int_int_
      rw [hk]
      rfl
    simp only [hI, bindO_val]
    rw [bif_pos (by omega)]
    simp [h]
  · have hk := hl.2 h
    have hk := Lslices_Index___int_int__0b_of hk
    have hk : Lslices_Index___int_int__0 (Tslices_Index___int_int__0a b.length (encN b) (i : Int) (b.length : Int) 0) = _ := hk
    have hI : Fslices_Index___int_int_ [.list b.length (encN b), .int .i64 (i : Int)] = some (-1 : Int) := by
      refine Fslices_Index___int_int__of _ _ _ ?_
      unfold tslices_Index___int_int_
      rw [hk]
      rfl
    simp only [hI, bindO_val]
    rw [bif_neg (by omega)]
    simp [h]

theorem contains_calls (w : World) (v : Value) (b : List Nat) (h : w.ownsRow 0 3 1 v b.length (valN b)) (hb : b.length ≤ 1000) (i : Nat) :
    Calls Try.prog 118 #[v, .int .i64 (i : Int)] w fun e w' => e = .returned (.bool (decide (i ∈ b))) ∧ Below w.heap.size w w' := by
  obtain ⟨rv, h1, h2⟩ := Fn_some (contains_is b hb i)
  have hp : PR (fun q o => v.ownBlock = some q ∧ o < b.length) w (rowP b) v := row_pr h fun q o hq ho => ⟨hq, ho⟩
  have hc := ((run_sound cloMixed env0_ok).fn 118 _ rv h1).2 w (fun q o => v.ownBlock = some q ∧ o < b.length) [v, .int .i64 (i : Int)]
    (fun q o hs => by obtain ⟨_, cur, _, hq, _⟩ := own_lt h hs.1; exact heap_lt hq) ⟨_, _, rfl, hp, _, _, rfl, rfl, rfl⟩
  refine hc.mono ?_
  rintro e w' ⟨u, St', rfl, hrr, hbel, _⟩
  refine ⟨?_, hbel⟩
  cases rv with
  | val x =>
    have hx : x = .bool (decide (i ∈ b)) := h2
    subst hx
    simp only [RR, PR] at hrr
    rw [hrr]
  | own n sz cs => cases h2

/-! One order -/
section
variable {J : Nat → JT} {ac : Addr} {c by' bx l : Nat} {xv : Value} {rows : List (List Nat)} {K : Nat}

/-- A round of the loop over the orders. -/
def YRow (J : Nat → JT) (l : Nat) (rows : List (List Nat)) (K : Nat) : Prop :=
  ∀ (i : Nat) (X : Nat → Prop) (St : Nat → Nat → Prop) (w : World) (b : List Nat) (v : Value), i ≤ K → rows[i]? = some b → J i X St w → (∀ q, X q → q < w.heap.size) → (∀ b o, St b o → b < w.heap.size) → PR St w (rowP b) v →
    YieldAt Fence.wide 0 Try.prog l #[v] w fun e w' => e = .returned (.bool (i != K)) ∧ ∃ X' St', J (i + 1) X' St' w' ∧ Yields X St w X' St' w'

theorem clone_yield (hab : ∀ i, Abides (J i)) (hY : YRow J l rows K) {i : Nat} {X : Nat → Prop} {St : Nat → Nat → Prop} {w : World} {v : Value} {b : List Nat} (hb : b.length ≤ 1000) (hi : i ≤ K) (hr : rows[i]? = some b) (bed : Bed J ac c by' bx l xv i X St w) (row : Row by' bx X St w v b.length (valN b)) :
    Calls Try.prog 117 #[v] w fun e w1 => ∃ v1, e = .returned v1 ∧ w1.cell? ⟨by', 0, none⟩ = some (.func (.yield l) #[] #[]) ∧
      YieldAt Fence.wide 0 Try.prog l #[v1] w1 fun e w2 => e = .returned (.bool (i != K)) ∧ ∃ X' St', Bed J ac c by' bx l xv (i + 1) X' St' w2 ∧ Went v b.length X St w X' St' w2 := by
  refine (clone_any w v b row.own hb).mono ?_
  rintro e w1 ⟨v1, rfl, hown, hbel⟩
  have hv : ∀ q, v.ownBlock = some q → q ≠ by' ∧ q ≠ bx := fun q hq => (row.nx q hq).2.2
  obtain ⟨St1, hSt1⟩ : ∃ St1 : Nat → Nat → Prop, St1 = fun q o => St q o ∨ (v1.ownBlock = some q ∧ o < b.length) := ⟨_, rfl⟩
  have hge : ∀ q, v1.ownBlock = some q → w.heap.size ≤ q ∧ q < w1.heap.size := fun q hq => by
    rcases hown.2 with ⟨rfl, _⟩ | ⟨g, cap, cur, rfl, h1, h2, _⟩
    · cases hq
    · simp only [Value.ownBlock, Option.some.injEq] at hq
      subst hq
      exact ⟨h1, heap_lt h2⟩
  have ev : Evo St w St1 w1 := by
    subst hSt1
    exact evo_below bed.slt hbel fun _ _ h => .inl h
  have slt1 : ∀ q o, St1 q o → q < w1.heap.size := fun q o hs => by
    subst hSt1
    rcases hs with hs | hs
    · exact Nat.lt_of_lt_of_le (bed.slt q o hs) hbel.size
    · exact (hge q hs.1).2
  have went1 : Went v b.length X St w X St1 w1 := by
    refine ⟨hbel.size, fun q hq _ _ => hbel.block q hq, fun q cur _ _ hc => ⟨cur, (hbel.block q (heap_lt hc)).trans hc, rfl, rfl⟩, fun _ h => h, fun _ h => .inl h, ev, fun q o hs => ?_⟩
    subst hSt1
    rcases hs with hs | hs
    · exact .inl hs
    · exact .inr (.inr (hge q hs.1).1)
  have xlt1 : ∀ q, X q → q < w1.heap.size := fun q hq => Nat.lt_of_lt_of_le (bed.xlt q hq) hbel.size
  have j1 : J i X St1 w1 := hab i X St St1 w w1 none bed.j (grownBy_below hbel) (by simp) ev slt1 fun q o hs => by
    subst hSt1
    rcases hs with hs | hs
    · exact .inl hs
    · refine .inr fun hx => ?_
      have := bed.xlt q hx
      have := (hge q hs.1).1
      omega
  have bed1 := bed.went went1 hv j1 xlt1 slt1
  have hp : PR St1 w1 (rowP b) v1 := row_pr hown fun q o hq ho => by subst hSt1; exact .inr ⟨hq, ho⟩
  refine ⟨v1, rfl, bed1.c2, YieldAt.mono (hY i X St1 w1 b v1 hi hr j1 xlt1 slt1 hp) ?_⟩
  rintro e w2 ⟨rfl, X', St', hj, hys⟩
  have went2 := went1.trans (Went.yields (v := v) (n := b.length) hys)
  exact ⟨rfl, X', St', bed.went went2 hv hj hys.lt hys.stlt, went2⟩
end
end Gv
