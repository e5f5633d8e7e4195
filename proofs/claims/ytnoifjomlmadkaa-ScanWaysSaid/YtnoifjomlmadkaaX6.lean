import Derived.Test.YtnoifjomlmadkaaGvEnv0
import Derived.Test.YtnoifjomlmadkaaGvClo
import Derived.Test.YtnoifjomlmadkaaGvIt
import Derived.Test.YtnoifjomlmadkaaGvYk
import Derived.RangeFuncKeeps
import Derived.RangeFuncBound
import Derived.RangeFuncLeaves
import Derived.Shelf.Abstract
import Derived.WalkKit
import Derived.OwnWalkIn
import Derived.TacticsInMore
import Derived.Lib.Walk
import Derived.Lib.SliceRun
import Derived.KernelRfl
import Derived.Shelf.RegionOpen
import Derived.Deep.RegionLaw
import Derived.LoopIn
import Derived.LoopNIn

/- What the functions do, round by round: PC. -/
namespace Gv
open Go
set_option maxRecDepth 100000

/-! ### slices_Index___int_int_ -/

def Eslices_Index___int_int_ : List Entry := []
theorem Eslices_Index___int_int__ok : ∀ e ∈ Eslices_Index___int_int_, EntOK env0 e := ent_nil
def Tslices_Index___int_int__0a (n0 : Nat) (c1 : List PV) (i2 : Int) (i3 : Int) (i4 : Int) : Q := ⟨(tm 19 [(0, (AV.p (PV.list n0 c1))), (1, (AV.p (PV.int IntKind.i64 i2))), (7, (AV.p (PV.int IntKind.i64 i3))), (8, (AV.p (PV.int IntKind.i64 i4)))]), (mm 19 [])⟩
def Xslices_Index___int_int__0a (y : Int) : Ext × Q := (Ext.ret, ⟨(tm 19 [(4, (AV.p (PV.int IntKind.i64 y)))]), (mm 19 [])⟩)
def Islices_Index___int_int__0a (q : Ext × S) : Int := (pP_int1 (pA_p (avT q.2 4)))
def Xslices_Index___int_int__0b (y : Unit) : Ext × Q := (Ext.normal, ⟨(tm 19 []), (mm 19 [])⟩)
def Islices_Index___int_int__0b (q : Ext × S) : Unit := ()
abbrev Yslices_Index___int_int__0 : Type := (Int) ⊕ ((Unit))
def XLslices_Index___int_int__0 : XL Yslices_Index___int_int__0 := .more Xslices_Index___int_int__0a (.one Xslices_Index___int_int__0b)
def Islices_Index___int_int__0 (q : Ext × S) : Yslices_Index___int_int__0 := bif (cE q.1 == 2) then (Sum.inl (Islices_Index___int_int__0a q)) else (Sum.inr (Islices_Index___int_int__0b q))
theorem XIslices_Index___int_int__0a (y : Int) : Islices_Index___int_int__0 (xe (Xslices_Index___int_int__0a y)) = (Sum.inl y) := rfl
theorem XIslices_Index___int_int__0b (y : Unit) : Islices_Index___int_int__0 (xe (Xslices_Index___int_int__0b y)) = (Sum.inr y) := rfl
theorem XIslices_Index___int_int__0 (y : Yslices_Index___int_int__0) : Islices_Index___int_int__0 (xe (XLslices_Index___int_int__0.fn y)) = y := (match y with | .inl y => XIslices_Index___int_int__0a y | .inr y => XIslices_Index___int_int__0b y)
noncomputable abbrev Lslices_Index___int_int__0 : Q → Option Yslices_Index___int_int__0 := lpO env0 a128.body 0 XLslices_Index___int_int__0
noncomputable abbrev Rslices_Index___int_int__0 : Q → Option (Ext × S) := lpR env0 a128.body 0
theorem Lslices_Index___int_int__0a_of {s : Q} {y : Int} (h : Rslices_Index___int_int__0 s = exO (Xslices_Index___int_int__0a y)) : Lslices_Index___int_int__0 s = some (Sum.inl y) := lpO_of Islices_Index___int_int__0 XIslices_Index___int_int__0 (y := (Sum.inl y)) h
theorem Lslices_Index___int_int__0b_of {s : Q} {y : Unit} (h : Rslices_Index___int_int__0 s = exO (Xslices_Index___int_int__0b y)) : Lslices_Index___int_int__0 s = some (Sum.inr y) := lpO_of Islices_Index___int_int__0 XIslices_Index___int_int__0 (y := (Sum.inr y)) h
theorem Uslices_Index___int_int_ : uniq ((blocksOf a128.body).map (·.1)) = true := by kernel_rfl
def Bslices_Index___int_int__0a (F : FnT) (N : Q → Option (Ext × S)) (E : Ext × Q → Option (Ext × S)) (L0 : Q → Option Yslices_Index___int_int__0) (n0 : Nat) (c1 : List PV) (i2 : Int) (i3 : Int) (i4 : Int) : Option (Ext × S) :=
  bif (decide (i4 < i3)) then
    bif (decide (((0 : Int) ≤ i4) ∧ (i4 < (n0 : Int)))) then
      bindO (intC IntKind.i64 (c1[((Int.toNat i4) * 1)]?)) fun x0 =>
      bif (i2 == x0) then
        E (Xslices_Index___int_int__0a i4)
      else N (Tslices_Index___int_int__0a n0 c1 i2 i3 (w64 (i4 + (1 : Int))))
    else none
  else E (Xslices_Index___int_int__0b ())
theorem Bslices_Index___int_int__0a_eq (F : FnT) (N : Q → Option (Ext × S)) (E : Ext × Q → Option (Ext × S)) (L0 : Q → Option Yslices_Index___int_int__0) (n0 : Nat) (c1 : List PV) (i2 : Int) (i3 : Int) (i4 : Int) : semB (callP F Eslices_Index___int_int_ 20) s128 (loopT [⟨0, Yslices_Index___int_int__0, L0, XLslices_Index___int_int__0⟩]) 400 (blkIn a128.body 0) N E (Tslices_Index___int_int__0a n0 c1 i2 i3 i4) = Bslices_Index___int_int__0a F N E L0 n0 c1 i2 i3 i4 := by kernel_rfl
theorem Rslices_Index___int_int__0a_of  (n0 : Nat) (c1 : List PV) (i2 : Int) (i3 : Int) (i4 : Int) {r : Ext × S} (h : Bslices_Index___int_int__0a (Fn env0) Rslices_Index___int_int__0 exO Lslices_Index___int_int__0 n0 c1 i2 i3 i4 = some r) : Rslices_Index___int_int__0 (Tslices_Index___int_int__0a n0 c1 i2 i3 i4) = some r :=
  lp_of Eslices_Index___int_int__ok (by kernel_rfl) (lo_cons (lpO_ok Uslices_Index___int_int_) lo_nil) (by kernel_rfl) ((Bslices_Index___int_int__0a_eq _ _ _ _ _ _ _ _ _).trans h)
def tslices_Index___int_int_ (F : FnT) (L0 : Q → Option Yslices_Index___int_int__0) (p0n : Nat) (p0c : List PV) (p1 : Int) : Option (Int) :=
  bindO (L0 (Tslices_Index___int_int__0a p0n p0c p1 (p0n : Int) (0 : Int))) fun z =>
  Sum.elim (fun y0 =>
    some y0) (fun y1 =>
    some (-1 : Int)) z
theorem tslices_Index___int_int__eq (F : FnT) (L0 : Q → Option Yslices_Index___int_int__0) (p0n : Nat) (p0c : List PV) (p1 : Int) : semF (callP F Eslices_Index___int_int_ 20) s128 (loopT [⟨0, Yslices_Index___int_int__0, L0, XLslices_Index___int_int__0⟩]) 400 a128 [PV.list p0n p0c, PV.int IntKind.i64 p1] (fun rv => decR (RSh.one (CK.int IntKind.i64)) rv.pv) = tslices_Index___int_int_ F L0 p0n p0c p1 := by kernel_rfl
noncomputable abbrev Fslices_Index___int_int_ (args : List PV) := Fn env0 128 (RSh.one (CK.int IntKind.i64)) args
theorem Fslices_Index___int_int__of  (p0n : Nat) (p0c : List PV) (p1 : Int) {res : (Int)} (h : tslices_Index___int_int_ (Fn env0) Lslices_Index___int_int__0 p0n p0c p1 = some res) : Fslices_Index___int_int_ [PV.list p0n p0c, PV.int IntKind.i64 p1] = some res :=
  fn_of Eslices_Index___int_int__ok rfl rfl (lo_cons (lpO_ok Uslices_Index___int_int_) lo_nil) ((tslices_Index___int_int__eq _ _ _ _ _).trans h)

/-! ### slices_Contains___int_int_ -/

def Eslices_Contains___int_int_ : List Entry := [.out 128 (RSh.one (CK.int IntKind.i64))]
theorem Eslices_Contains___int_int__ok : ∀ e ∈ Eslices_Contains___int_int_, EntOK env0 e := (ent_out ent_nil)
theorem Uslices_Contains___int_int_ : uniq ((blocksOf a118.body).map (·.1)) = true := by kernel_rfl
def tslices_Contains___int_int_ (F : FnT) (p0n : Nat) (p0c : List PV) (p1 : Int) : Option (Bool) :=
  bindO (F 128 (RSh.one (CK.int IntKind.i64)) [(PV.list p0n p0c), (PV.int IntKind.i64 p1)]) fun (y0 : (Int)) =>
  bif (decide (y0 ≥ (0 : Int))) then
    some true
  else some false
theorem tslices_Contains___int_int__eq (F : FnT) (p0n : Nat) (p0c : List PV) (p1 : Int) : semF (callP F Eslices_Contains___int_int_ 20) s118 (loopT []) 400 a118 [PV.list p0n p0c, PV.int IntKind.i64 p1] (fun rv => decR (RSh.one CK.bool) rv.pv) = tslices_Contains___int_int_ F p0n p0c p1 := by kernel_rfl
noncomputable abbrev Fslices_Contains___int_int_ (args : List PV) := Fn env0 118 (RSh.one CK.bool) args
theorem Fslices_Contains___int_int__of  (p0n : Nat) (p0c : List PV) (p1 : Int) {res : (Bool)} (h : tslices_Contains___int_int_ (Fn env0) p0n p0c p1 = some res) : Fslices_Contains___int_int_ [PV.list p0n p0c, PV.int IntKind.i64 p1] = some res :=
  fn_of Eslices_Contains___int_int__ok rfl rfl lo_nil ((tslices_Contains___int_int__eq _ _ _ _).trans h)

end Gv

/- The orders of so many numbers, one after the other: what scan's iterator yields. -/
namespace Gv
open Go Go.Proofs Go.RowKit Go.Lib Go.Shelf
attribute [local go_sem] Oper.semAt_some
set_option maxRecDepth 100000

/-! slices.Clone, slices.Contains -/

set_option maxHeartbeats 2000000 in
theorem clone_row (a : Addr) (n c : Nat) (xs : List Value) (w : World) (hl : xs.length = n) (hx : ∀ j u, xs[j]? = some u → w.cell? (a.add j) = some u) (h1 : ∀ u ∈ xs, u.oneCell' = true) (hn : n ≤ 1000) :
    Calls Try.prog 117 #[.slice (some a) n c] w fun e w' => ∃ v', e = .returned v' ∧ w'.ownsRow w.heap.size 3 1 v' n xs ∧ Below w.heap.size w w' := by
  have q : ∀ (w : World) (a : Option Addr) (n c n' c' : Nat), (binOp .eql 85 (.slice a n c) (.slice none n' c')).run Try.prog w = .ok (.bool a.isNone) w := fun w a n c n' c' => Lib.run_eql_slice_nil w _ _ a n c n' c' Try.underlying85
  have u22 : ∀ w, Sem.run Try.prog (underlying 85) w = .ok (TypeDesc.slice 3) w := run_underlying Try.underlying85
  obtain ⟨i0, hi, hz0, hz1, hz2⟩ : ∃ i0, Try.prog.info? 3 = some i0 ∧ i0.zero = some (.int .i64 0) ∧ i0.size = 1 ∧ i0.bytes = 8 := ⟨_, rfl, by kernel_rfl, by kernel_rfl, by kernel_rfl⟩
  go_enter Try.func117, Try.ntmps117
  go_wp2_with (at_builtin; refine wpList_append_own _ rfl _ _ 85 rfl w.heap.size 3 i0 (.int .i64 0) 1 8 Try.underlying85 hi hz0 hz1 hz2 rfl (by decide) _ _ _ rfl (World.ownsRow_made w #[] 0 (Nat.le_refl _) (Nat.zero_le _) rfl) a n c xs rfl (by omega) (fun j u hj => (World.cell?_alloc_lt w _ _ (World.block_lt_of_cell? w _ (hx j u hj))).trans (hx j u hj)) h1 (by unfold maxLen; omega) (by omega) (by simp) ?_)
  intro v' w1 hown hgrow hnil
  go_wp2
  go_ret
  refine ⟨v', rfl, by simpa using hown, ?_⟩
  exact ((Below.refl _ w).alloc (Nat.le_refl _) _).grown hgrow (by simp) (by intro k hk; simp [Value.ownBlock] at hk; omega)

theorem valN_len (b : List Nat) : (valN b).length = b.length := by simp [valN]
theorem valN_one (b : List Nat) : ∀ u ∈ valN b, u.oneCell' = true := fun u hu => by
  simp only [valN, List.mem_map] at hu
  obtain ⟨y, _, rfl⟩ := hu
  rfl

theorem clone_any (w : World) (v : Value) (b : List Nat) (h : w.ownsRow 0 3 1 v b.length (valN b)) (hb : b.length ≤ 1000) :
    Calls Try.prog 117 #[v] w fun e w' => ∃ v', e = .returned v' ∧ w'.ownsRow w.heap.size 3 1 v' b.length (valN b) ∧ Below w.heap.size w w' := by
  rcases h.2 with ⟨rfl, h0⟩ | ⟨g, cap, cur, rfl, h1, h2, h3, h4, h5, h6⟩
  · refine (clone_nil117 0 0 w).mono ?_
    rintro e w' ⟨rfl, rfl⟩
    have := List.length_eq_zero_iff.1 h0
    subst this
    exact ⟨_, rfl, World.ownsRow_nil _ _ _ _, Below.refl _ _⟩
  · refine clone_row _ _ _ _ w (valN_len b) (fun j u hj => ?_) (valN_one b) hb
    rw [addr_add, Nat.zero_add, cell_of_row w g j cur 3 (0, 0) h2]
    rw [← h6, List.getElem?_take] at hj
    split at hj
    · simpa using hj
    · cases hj

theorem index_loop (b : List Nat) (hb : b.length ≤ 1000) (i : Nat) : ∀ j, j ≤ b.length →
    (i ∈ b.drop j → ∃ k : Nat, Rslices_Index___int_int__0 (Tslices_Index___int_int__0a b.length (encN b) (i : Int) (b.length : Int) (j : Int)) = exO (Xslices_Index___int_int__0a (k : Int))) ∧
      (i ∉ b.drop j → Rslices_Index___int_int__0 (Tslices_Index___int_int__0a b.length (encN b) (i : Int) (b.length : Int) (j : Int)) = exO (Xslices_Index___int_int__0b ())) := by
  refine up_ind _ ?_ ?_
  · refine ⟨fun h => by simp at h, fun _ => Rslices_Index___int_int__0a_of _ _ _ _ _ ?_⟩
    unfold Bslices_Index___int_int__0a
    rw [bif_neg (by omega)]
    rfl
  · intro j hj ih
    obtain ⟨x, hx, hd⟩ := get_drop hj
    have hg : (encN b)[j * 1]? = some (PV.int .i64 (x : Int)) := by rw [Nat.mul_one]; simp [encN, hx]
    have hw : w64 ((j : Int) + 1) = ((j + 1 : Nat) : Int) := by rw [w64_in (by omega)]; omega
    rw [hd]
    by_cases he : i = x
    · subst he
      refine ⟨fun _ => ⟨j, Rslices_Index___int_int__0a_of _ _ _ _ _ ?_⟩, fun h => by simp at h⟩
      unfold Bslices_Index___int_int__0a
      rw [bif_pos (by omega), bif_pos (by omega), Int.toNat_natCast, hg]
      simp only [intC_int, bindO_val, beq_self_eq_true, cond_true]
      rfl
    · have hne : ((i : Int) == (x : Int)) = false := by
        rw [beq_eq_false_iff_ne]
        omega
      have step : ∀ r, Rslices_Index___int_int__0 (Tslices_Index___int_int__0a b.length (encN b) (i : Int) (b.length : Int) ((j + 1 : Nat) : Int)) = some r → Rslices_Index___int_int__0 (Tslices_Index___int_int__0a b.length (encN b) (i : Int) (b.length : Int) (j : Int)) = some r := fun r hr => by
        refine Rslices_Index___int_int__0a_of _ _ _ _ _ ?_
        unfold Bslices_Index___int_int__0a
        rw [bif_pos (by omega), bif_pos (by omega), Int.toNat_natCast, hg]
        simp only [intC_int, bindO_val, hne, cond_false, hw]
        exact hr
      refine ⟨fun h => ?_, fun h => step _ (ih.2 fun h' => h (by simp [h']))⟩
      obtain ⟨k, hk⟩ := ih.1 (by simpa [he] using h)
      exact ⟨k, step _ hk⟩

theorem contains_is (b : List Nat) (hb : b.length ≤ 1000) (i : Nat) : Fslices_Contains___int_int_ [.list b.length (encN b), .int .i64 (i : Int)] = some (decide (i ∈ b)) := by
  have hl := index_loop b hb i 0 (Nat.zero_le _)
  rw [List.drop_zero] at hl
  refine Fslices_Contains___int_int__of _ _ _ ?_
  unfold tslices_Contains___int_int_
  by_cases h : i ∈ b
  · obtain ⟨k, hk⟩ := hl.1 h
    have hk := Lslices_Index___int_int__0a_of hk
    have hk : Lslices_Index___int_int__0 (Tslices_Index___int_int__0a b.length (encN b) (i : Int) (b.length : Int) 0) = _ := hk
    have hI : Fslices_Index___int_int_ [.list b.length (encN b), .int .i64 (i : Int)] = some (k : Int) := by
      refine Fslices_Index___int_int__of _ _ _ ?_
      unfold tslices_Index___int_int_
      rw [hk]
      rfl
    simp only [hI, bindO_val]
    rw [bif_pos (by omega)]
    simp [h]
  · have hk := hl.2 h
    have hk := Lslices_Index___int_int__0b_of hk
    have hk : Lslices_Index___int_int__0 (Tslices_Index___int_int__0a b.length (encN b) (i : Int) (b.length : Int) 0) = _ := hk
    have hI : Fslices_Index___int_int_ [.list b.length (encN b), .int .i64 (i : Int)] = some (-1 : Int) := by
      refine Fslices_Index___int_int__of _ _ _ ?_
      unfold tslices_Index___int_int_
      rw [hk]
      rfl
    simp only [hI, bindO_val]
    rw [bif_neg (by omega)]
    simp [h]

theorem contains_calls (w : World) (v : Value) (b : List Nat) (h : w.ownsRow 0 3 1 v b.length (valN b)) (hb : b.length ≤ 1000) (i : Nat) :
    Calls Try.prog 118 #[v, .int .i64 (i : Int)] w fun e w' => e = .returned (.bool (decide (i ∈ b))) ∧ Below w.heap.size w w' := by
  obtain ⟨rv, h1, h2⟩ := Fn_some (contains_is b hb i)
  have hp : PR (fun q o => v.ownBlock = some q ∧ o < b.length) w (rowP b) v := row_pr h fun q o hq ho => ⟨hq, ho⟩
  have hc := ((run_sound cloMixed env0_ok).fn 118 _ rv h1).2 w (fun q o => v.ownBlock = some q ∧ o < b.length) [v, .int .i64 (i : Int)]
    (fun q o hs => by obtain ⟨_, cur, _, hq, _⟩ := own_lt h hs.1; exact heap_lt hq) ⟨_, _, rfl, hp, _, _, rfl, rfl, rfl⟩
  refine hc.mono ?_
  rintro e w' ⟨u, St', rfl, hrr, hbel, _⟩
  refine ⟨?_, hbel⟩
  cases rv with
  | val x =>
    have hx : x = .bool (decide (i ∈ b)) := h2
    subst hx
    simp only [RR, PR] at hrr
    rw [hrr]
  | own n sz cs => cases h2

/-! One order -/
section
variable {J : Nat → JT} {ac : Addr} {c by' bx l : Nat} {xv : Value} {rows : List (List Nat)} {K : Nat}

/-- A round of the loop over the orders. -/
def YRow (J : Nat → JT) (l : Nat) (rows : List (List Nat)) (K : Nat) : Prop :=
  ∀ (i : Nat) (X : Nat → Prop) (St : Nat → Nat → Prop) (w : World) (b : List Nat) (v : Value), i ≤ K → rows[i]? = some b → J i X St w → (∀ q, X q → q < w.heap.size) → (∀ b o, St b o → b < w.heap.size) → PR St w (rowP b) v →
    YieldAt Fence.wide 0 Try.prog l #[v] w fun e w' => e = .returned (.bool (i != K)) ∧ ∃ X' St', J (i + 1) X' St' w' ∧ Yields X St w X' St' w'

theorem clone_yield (hab : ∀ i, Abides (J i)) (hY : YRow J l rows K) {i : Nat} {X : Nat → Prop} {St : Nat → Nat → Prop} {w : World} {v : Value} {b : List Nat} (hb : b.length ≤ 1000) (hi : i ≤ K) (hr : rows[i]? = some b) (bed : Bed J ac c by' bx l xv i X St w) (row : Row by' bx X St w v b.length (valN b)) :
    Calls Try.prog 117 #[v] w fun e w1 => ∃ v1, e = .returned v1 ∧ w1.cell? ⟨by', 0, none⟩ = some (.func (.yield l) #[] #[]) ∧
      YieldAt Fence.wide 0 Try.prog l #[v1] w1 fun e w2 => e = .returned (.bool (i != K)) ∧ ∃ X' St', Bed J ac c by' bx l xv (i + 1) X' St' w2 ∧ Went v b.length X St w X' St' w2 := by
  refine (clone_any w v b row.own hb).mono ?_
  rintro e w1 ⟨v1, rfl, hown, hbel⟩
  have hv : ∀ q, v.ownBlock = some q → q ≠ by' ∧ q ≠ bx := fun q hq => (row.nx q hq).2.2
  obtain ⟨St1, hSt1⟩ : ∃ St1 : Nat → Nat → Prop, St1 = fun q o => St q o ∨ (v1.ownBlock = some q ∧ o < b.length) := ⟨_, rfl⟩
  have hge : ∀ q, v1.ownBlock = some q → w.heap.size ≤ q ∧ q < w1.heap.size := fun q hq => by
    rcases hown.2 with ⟨rfl, _⟩ | ⟨g, cap, cur, rfl, h1, h2, _⟩
    · cases hq
    · simp only [Value.ownBlock, Option.some.injEq] at hq
      subst hq
      exact ⟨h1, heap_lt h2⟩
  have ev : Evo St w St1 w1 := by
    subst hSt1
    exact evo_below bed.slt hbel fun _ _ h => .inl h
  have slt1 : ∀ q o, St1 q o → q < w1.heap.size := fun q o hs => by
    subst hSt1
    rcases hs with hs | hs
    · exact Nat.lt_of_lt_of_le (bed.slt q o hs) hbel.size
    · exact (hge q hs.1).2
  have went1 : Went v b.length X St w X St1 w1 := by
    refine ⟨hbel.size, fun q hq _ _ => hbel.block q hq, fun q cur _ _ hc => ⟨cur, (hbel.block q (heap_lt hc)).trans hc, rfl, rfl⟩, fun _ h => h, fun _ h => .inl h, ev, fun q o hs => ?_⟩
    subst hSt1
    rcases hs with hs | hs
    · exact .inl hs
    · exact .inr (.inr (hge q hs.1).1)
  have xlt1 : ∀ q, X q → q < w1.heap.size := fun q hq => Nat.lt_of_lt_of_le (bed.xlt q hq) hbel.size
  have j1 : J i X St1 w1 := hab i X St St1 w w1 none bed.j (grownBy_below hbel) (by simp) ev slt1 fun q o hs => by
    subst hSt1
    rcases hs with hs | hs
    · exact .inl hs
    · refine .inr fun hx => ?_
      have := bed.xlt q hx
      have := (hge q hs.1).1
      omega
  have bed1 := bed.went went1 hv j1 xlt1 slt1
  have hp : PR St1 w1 (rowP b) v1 := row_pr hown fun q o hq ho => by subst hSt1; exact .inr ⟨hq, ho⟩
  refine ⟨v1, rfl, bed1.c2, YieldAt.mono (hY i X St1 w1 b v1 hi hr j1 xlt1 slt1 hp) ?_⟩
  rintro e w2 ⟨rfl, X', St', hj, hys⟩
  have went2 := went1.trans (Went.yields (v := v) (n := b.length) hys)
  exact ⟨rfl, X', St', bed.went went2 hv hj hys.lt hys.stlt, went2⟩
end
end Gv

/- The orders of so many numbers: the function that calls itself. -/
namespace Gv
open Go Go.Proofs Go.RowKit Go.Lib Go.Shelf
attribute [local go_sem] Oper.semAt_some
set_option maxRecDepth 100000

section
variable {J : Nat → JT} {ac : Addr} {c by' bx l : Nat} {xv : Value} {rows : List (List Nat)} {K : Nat}

theorem con_step (hab : ∀ i, Abides (J i)) {i : Nat} {X : Nat → Prop} {St : Nat → Nat → Prop} {w : World} {v : Value} {b : List Nat} (hb : b.length ≤ 1000) (k : Nat) (bed : Bed J ac c by' bx l xv i X St w) (row : Row by' bx X St w v b.length (valN b)) (d : Bool) (hd : decide (k ∈ b) = d) :
    Calls Try.prog 118 #[v, .int .i64 (k : Int)] w fun e w1 => e = .returned (.bool d) ∧ Bed J ac c by' bx l xv i X St w1 ∧ Row by' bx X St w1 v b.length (valN b) ∧ Went v b.length X St w X St w1 ∧ w1.cell? ⟨bx, 0, none⟩ = some xv ∧ ∀ o, (w1.alloc o).cell? ⟨bx, 0, none⟩ = some xv := by
  refine (contains_calls w v b row.own hb k).mono ?_
  rintro e w1 ⟨rfl, hbel⟩
  have b1 := bed.below hab hbel
  have wt : Went v b.length X St w X St w1 := Went.below bed.slt hbel
  refine ⟨by rw [hd], b1, row.went wt (fun _ => Nat.le_refl _), wt, b1.c3, fun o => ?_⟩
  exact (World.cell?_alloc_lt w1 o _ (World.block_lt_of_cell? _ _ b1.c3)).trans b1.c3

theorem step_append_row (hab : ∀ i, Abides (J i)) {ops : Array Oper} {o : Oper} {a : Act} {w1 : World} {KK : Act → World → Prop} {Q : Exit → Act → World → Prop} {E : Prop} (hw : Region.wanted o (yielded ops a.tmps) = true) (s x : Operand)
    (hop : o.op = .call { callee := .builtin .append, args := #[s, x], argTypes := #[85, 85] }) {v : Value} {b : List Nat} {i k : Nat} {X : Nat → Prop} {St : Nat → Nat → Prop} (hs : a.eval s = v) (hx : a.eval x = .slice (some ⟨w1.heap.size, 0, none⟩) 1 1)
    (bed : Bed J ac c by' bx l xv i X St w1) (row : Row by' bx X St w1 v b.length (valN b)) (hb : b.length < 1000)
    (hK : ∀ v' w', Bed J ac c by' bx l xv i X St w' → Row by' bx X St w' v' (b ++ [k]).length (valN (b ++ [k])) → (∀ X' St' w'', Went v' (b.length + 1) X St w' X' St' w'' → Went v b.length X St w1 X' St' w'') → w'.cell? ⟨bx, 0, none⟩ = some xv → KK (a.put o.dst v') w') :
    if Region.wanted o (yielded ops a.tmps) = true then Oper.wp Try.prog o a (w1.alloc (.cells #[.int .i64 (k : Int)] 3)) KK Q else E := by
  obtain ⟨i0, hi, hz0, hz1, hz2⟩ : ∃ i0, Try.prog.info? 3 = some i0 ∧ i0.zero = some (.int .i64 0) ∧ i0.size = 1 ∧ i0.bytes = 8 := ⟨_, rfl, by kernel_rfl, by kernel_rfl, by kernel_rfl⟩
  have hbel : Below w1.heap.size w1 (w1.alloc (.cells #[.int .i64 (k : Int)] 3)) := (Below.refl _ w1).alloc (Nat.le_refl _) _
  have bed2 := bed.below hab hbel
  have wt : Went v b.length X St w1 X St (w1.alloc (.cells #[.int .i64 (k : Int)] 3)) := Went.below bed.slt hbel
  have row2 := row.went wt (fun _ => Nat.le_refl _)
  obtain ⟨v', w', hrun, hown, hg, hr, hu, hlt⟩ := append_one (P := Try.prog) (ty := o.type) (t := 85) Try.underlying85 hi hz0 hz1 hz2 rfl row2.own (valN_one b) (ad := ⟨w1.heap.size, 0, none⟩) (x := .int .i64 (k : Int)) (World.cell?_alloc_new w1 _ _ 0) rfl hb
  have bed3 := bed2.append hab row2 hg
  have row3 : Row by' bx X St w' v' (b ++ [k]).length (valN (b ++ [k])) := by
    refine ⟨?_, fun q hq => ?_⟩
    · have e1 : (b ++ [k]).length = b.length + 1 := by simp
      have e2 : valN (b ++ [k]) = valN b ++ [.int .i64 (k : Int)] := by simp [valN]
      rw [e1, e2]
      exact hown
    · rcases hu q hq with h1 | h1
      · exact row2.nx q h1
      · have l2 := World.block_lt_of_cell? _ _ bed2.c2
        have l3 := World.block_lt_of_cell? _ _ bed2.c3
        simp only at l2 l3
        refine ⟨fun hx => ?_, fun o hs => ?_, by omega, by omega⟩
        · have := bed2.xlt q hx; omega
        · have := bed2.slt q o hs; omega
  have key := hK v' w' bed3 row3 (fun X' St' w'' h => wt.trans (Went.inner hg (fun q cur h1 h2 => hr q cur h1 h2) hu (fun q hq => (row2.nx q hq).2.1) bed2.slt h)) bed3.c3
  rw [if_pos hw]
  unfold Oper.wp
  simp [execOp, hop, resolve, invoke, builtin, hs, hx, hrun, Result.andThen]
  exact key

/-- What a call of the function leaves: its part of the rows has come, or the loop has ended. -/
def ExtPost (J : Nat → JT) (ac : Addr) (c by' bx l : Nat) (xv : Value) (K i len : Nat) (v : Value) (n : Nat) (X : Nat → Prop) (St : Nat → Nat → Prop) (w : World) (e : Ending) (w' : World) : Prop :=
  ∃ ok X' St', e = .returned (.bool ok) ∧ Went v n X St w X' St' w' ∧ (ok = true → i + len ≤ K ∧ Bed J ac c by' bx l xv (i + len) X' St' w') ∧ (ok = false → K < i + len ∧ Bed J ac c by' bx l xv (K + 1) X' St' w')

theorem post_of {i : Nat} {X X' : Nat → Prop} {St St' : Nat → Nat → Prop} {w w2 : World} {v : Value} {n : Nat} (hi : i ≤ K) (h : Went v n X St w X' St' w2) (hb : Bed J ac c by' bx l xv (i + 1) X' St' w2) :
    ExtPost J ac c by' bx l xv K i 1 v n X St w (.returned (.bool (i != K))) w2 := by
  refine ⟨i != K, X', St', rfl, h, fun hk => ⟨?_, hb⟩, fun hk => ?_⟩
  · have : i ≠ K := by simpa using hk
    omega
  · have : i = K := by simpa using hk
    subst this
    exact ⟨by omega, hb⟩

set_option maxHeartbeats 4000000 in
theorem ext_zero (hab : ∀ i, Abides (J i)) (hY : YRow J l rows K) (b : List Nat) (hc : b.length ≤ 100) (hbc : b.length = c) (i : Nat) (X : Nat → Prop) (St : Nat → Nat → Prop) (w : World) (v : Value) (hR : rows[i]? = some b) (hi : i ≤ K)
    (bed : Bed J ac c by' bx l xv i X St w) (row : Row by' bx X St w v b.length (valN b)) :
    Calls Try.prog 116 #[v, .pointer (some ac), .pointer (some ⟨by', 0, none⟩), .pointer (some ⟨bx, 0, none⟩)] w (ExtPost J ac c by' bx l xv K i 1 v b.length X St w) := by
  obtain ⟨a, cap, rfl⟩ := row.form
  subst hbc
  have hdr : Below w.heap.size w w.drew := (Below.refl _ w).drew
  have wt : Went (.slice a b.length cap) b.length X St w X St w.drew := Went.below bed.slt hdr
  have hcy := clone_yield hab hY (by omega) hi hR (bed.below hab hdr) (row.went wt (fun _ => Nat.le_refl _))
  have hc1 := bed.c1
  have hc2 := bed.c2
  have hmix : Try.prog.follows .mixedOrders = true := cloMixed
  refine (callsIn_wide (n := 0)).1 ?_
  refine callsIn_of_wp Try.func116 rfl trivial ?_ rfl
  simp only [Try.ntmps116, List.size_toArray, List.length_cons, List.length_nil, Nat.reduceAdd, Nat.reduceSub, Array.replicate_succ, Array.replicate_zero, List.push_toArray, List.append_toArray, List.nil_append, List.cons_append]
  gi_wp2_with fail
  gi_region_with_o (first
    | (refine ⟨trivial, rfl, ?_⟩; refine ((callsIn_wide (n := 0)).2 hcy).mono ?_; rintro e w1 ⟨v1, rfl, hy1, fn, tmps, assign, body, hyy, hRR⟩)
    | (refine ⟨rfl, ?_⟩; refine RoundIn.mono hRR ?_; rintro e w2 ⟨rfl, X', St', hb2, hk2⟩))
  all_goals gi_wp2
  all_goals go_ret
  all_goals exact post_of hi (wt.trans hk2) hb2
end
end Gv

/- The orders of so many numbers: all that is yielded. -/
namespace Gv
open Go Go.Proofs Go.RowKit Go.Lib Go.Shelf
attribute [local go_sem] Oper.semAt_some
set_option maxRecDepth 100000

section
variable {J : Nat → JT} {ac : Addr} {c by' bx l : Nat} {xv : Value} {rows : List (List Nat)} {K : Nat}

/-- The rows of one more number. -/
def exF (c m : Nat) (b : List Nat) (k : Nat) : List (List Nat) := if k ∈ b then [] else ext c m (b ++ [k])
def cnt (c m : Nat) (b : List Nat) (k : Nat) : Nat := ((List.range k).flatMap (exF c m b)).length

/-- What holds at the head of a round. -/
def LRel (J : Nat → JT) (ac : Addr) (c by' bx l : Nat) (xv : Value) (K i m : Nat) (b : List Nat) (v : Value) (X : Nat → Prop) (St : Nat → Nat → Prop) (w : World) (iv : Value) (wr : World) : Prop :=
  ∃ (k : Nat) (X' : Nat → Prop) (St' : Nat → Nat → Prop), k ≤ c ∧ iv = .int .i64 (k : Int) ∧ Went v b.length X St w X' St' wr ∧ i + cnt c m b k ≤ K ∧ Bed J ac c by' bx l xv (i + cnt c m b k) X' St' wr

theorem rel_skip {i m k : Nat} {b : List Nat} {v : Value} {X X' : Nat → Prop} {St St' : Nat → Nat → Prop} {w wr wd w1 : World} (hlt : k < c) (hs : ((List.range (k + 1)).flatMap (exF c m b)).length = ((List.range k).flatMap (exF c m b)).length + ([] : List (List Nat)).length)
    (h1 : Went v b.length X St w X' St' wr) (h2 : Went v b.length X' St' wr X' St' wd) (h3 : Went v b.length X' St' wd X' St' w1) (hcn : i + cnt c m b k ≤ K) (hb : Bed J ac c by' bx l xv (i + cnt c m b k) X' St' w1) :
    LRel J ac c by' bx l xv K i m b v X St w (.int .i64 ((k : Int) + 1)) w1 := by
  have e : cnt c m b (k + 1) = cnt c m b k := by unfold cnt; rw [hs]; rfl
  exact ⟨k + 1, X', St', by omega, by rw [Int.natCast_add]; rfl, h1.trans (h2.trans h3), by rw [e]; exact hcn, by rw [e]; exact hb⟩

theorem cnt_succ {m k : Nat} {b : List Nat} (hF : exF c m b k = ext c m (b ++ [k])) : cnt c m b (k + 1) = cnt c m b k + (ext c m (b ++ [k])).length := by
  unfold cnt
  rw [fm_succ, hF]

theorem rel_next {i m k : Nat} {b : List Nat} {v : Value} {X X3 : Nat → Prop} {St St3 : Nat → Nat → Prop} {w w3 : World} (hlt : k < c) (hF : exF c m b k = ext c m (b ++ [k])) (h1 : Went v b.length X St w X3 St3 w3)
    (h2 : i + cnt c m b k + (ext c m (b ++ [k])).length ≤ K ∧ Bed J ac c by' bx l xv (i + cnt c m b k + (ext c m (b ++ [k])).length) X3 St3 w3) : LRel J ac c by' bx l xv K i m b v X St w (.int .i64 ((k : Int) + 1)) w3 := by
  have e := cnt_succ hF
  refine ⟨k + 1, X3, St3, by omega, by rw [Int.natCast_add]; rfl, h1, by omega, ?_⟩
  rw [e, ← Nat.add_assoc]
  exact h2.2

theorem post_stop {i m k : Nat} {b : List Nat} {v : Value} {X X3 : Nat → Prop} {St St3 : Nat → Nat → Prop} {w w3 : World} (hlt : k < c) (hF : exF c m b k = ext c m (b ++ [k])) (h1 : Went v b.length X St w X3 St3 w3)
    (h2 : K < i + cnt c m b k + (ext c m (b ++ [k])).length ∧ Bed J ac c by' bx l xv (K + 1) X3 St3 w3) : ExtPost J ac c by' bx l xv K i (ext c (m + 1) b).length v b.length X St w (.returned (.bool false)) w3 := by
  have hle := fm_le (exF c m b) hlt
  rw [hF] at hle
  have htot : (ext c (m + 1) b).length = ((List.range c).flatMap (exF c m b)).length := rfl
  refine ⟨false, X3, St3, rfl, h1, (fun h => by cases h), fun _ => ⟨?_, h2.2⟩⟩
  have := h2.1
  unfold cnt at this
  omega

set_option maxHeartbeats 8000000 in
theorem ext_succ (hab : ∀ i, Abides (J i)) (hxv : xv = .func (.func 116) #[] #[.pointer (some ac), .pointer (some ⟨by', 0, none⟩), .pointer (some ⟨bx, 0, none⟩)]) (hc : c ≤ 100) (m : Nat) (b : List Nat) (hbc : b.length + (m + 1) = c)
    (ih : ∀ (b : List Nat) (i : Nat) (X : Nat → Prop) (St : Nat → Nat → Prop) (w : World) (v : Value), b.length + m = c → (∀ j r, (ext c m b)[j]? = some r → rows[i + j]? = some r) → i ≤ K → Bed J ac c by' bx l xv i X St w → Row by' bx X St w v b.length (valN b) →
      Calls Try.prog 116 #[v, .pointer (some ac), .pointer (some ⟨by', 0, none⟩), .pointer (some ⟨bx, 0, none⟩)] w (ExtPost J ac c by' bx l xv K i (ext c m b).length v b.length X St w))
    (i : Nat) (X : Nat → Prop) (St : Nat → Nat → Prop) (w : World) (v : Value) (hR : ∀ j r, (ext c (m + 1) b)[j]? = some r → rows[i + j]? = some r) (hi : i ≤ K)
    (bed : Bed J ac c by' bx l xv i X St w) (row : Row by' bx X St w v b.length (valN b)) :
    Calls Try.prog 116 #[v, .pointer (some ac), .pointer (some ⟨by', 0, none⟩), .pointer (some ⟨bx, 0, none⟩)] w (ExtPost J ac c by' bx l xv K i (ext c (m + 1) b).length v b.length X St w) := by
  obtain ⟨a, cap, rfl⟩ := row.form
  have hc1 := bed.c1
  have hne : (((b.length : Nat) : Int) == (c : Int)) = false := by
    rw [beq_eq_false_iff_ne]
    omega
  have hmix : Try.prog.follows .mixedOrders = true := cloMixed
  have hv : ∀ q, (Value.slice a b.length cap).ownBlock = some q → q ≠ by' ∧ q ≠ bx := fun q hq => (row.nx q hq).2.2
  have htot : (ext c (m + 1) b).length = cnt c m b c := rfl
  refine (callsIn_wide (n := 0)).1 ?_
  refine callsIn_of_wp Try.func116 rfl trivial ?_ rfl
  simp only [Try.ntmps116, List.size_toArray, List.length_cons, List.length_nil, Nat.reduceAdd, Nat.reduceSub, Array.replicate_succ, Array.replicate_zero, List.push_toArray, List.append_toArray, List.nil_append, List.cons_append]
  gi_wp2_with fail
  gi_loopw [16] (fun iv wr => LRel J ac c by' bx l xv K i m b (.slice a b.length cap) X St w iv wr)
    (fun iv _ => c - (RowKit.intOf iv).toNat)
  case atStart => exact ⟨0, X, St, Nat.zero_le _, rfl, Went.below bed.slt (Below.refl _ _), hi, bed⟩
  case round =>
    obtain ⟨k, X', St', hk, rfl, hwt, hcn, hbed⟩ := hrel
    have hrow := row.went hwt (fun _ => Nat.le_refl _)
    have hdr : Below wr.heap.size wr wr.drew := (Below.refl _ wr).drew
    have hbd := hbed.below hab hdr
    have wtd : Went (.slice a b.length cap) b.length X' St' wr X' St' wr.drew := Went.below hbed.slt hdr
    have hrd := hrow.went wtd (fun _ => Nat.le_refl _)
    have hsucc := fm_succ (exF c m b) k
    by_cases hin : k ∈ b
    · have hcon := con_step hab (by omega) k hbd hrd true (by simp [hin])
      have hF : exF c m b k = [] := if_pos hin
      rw [hF] at hsucc
      gi_wp2_with fail
      · have hlt : k < c := by omega
        refine wpIn_wide.2 ?_
        first | (go_region_law (first | (go_simp; go_at_call 118; refine hcon.mono ?_; rintro e w1 ⟨rfl, hb1, hr1, hw1, h3, h3a⟩))) | fail
        all_goals (gi_wp2_with fail; go_roundw; (case rel => exact rel_skip hlt hsucc hwt wtd hw1 hcn hb1); (case measure => simp [RowKit.intOf]; omega))
      · have hkc : k = c := by omega
        subst hkc
        gi_wp2
        go_ret
        exact ⟨true, X', St', rfl, hwt, fun _ => ⟨by rw [htot]; exact hcn, by rw [htot]; exact hbed⟩, fun h => by cases h⟩
    · have hcon := con_step hab (by omega) k hbd hrd false (by simp [hin])
      have hF : exF c m b k = ext c m (b ++ [k]) := if_neg hin
      gi_wp2_with fail
      · have hlt : k < c := by omega
        have hle := fm_le (exF c m b) hlt
        have hRk : ∀ j r, (ext c m (b ++ [k]))[j]? = some r → rows[(i + cnt c m b k) + j]? = some r := fun j r hj => by
          rw [Nat.add_assoc]
          exact hR _ r (fm_get (f := exF c m b) hlt (by rw [hF]; exact hj))
        refine wpIn_wide.2 ?_
        go_region_law (first | (go_simp; go_at_call 118; refine hcon.mono ?_; rintro e w1 ⟨rfl, hb1, hr1, hw1, h3, h3a⟩) | (go_simp; go_at_call 116; refine (ih (b ++ [k]) (i + cnt c m b k) X' St' w2 v2 (by simp; omega) hRk hcn hb2 hr2).mono ?_; rintro e w3 ⟨ok, X3, St3, rfl, hw3, hok, hno⟩) | (refine step_append_row (v := .slice a b.length cap) (b := b) (k := k) hab (by first | rfl | simp [Region.wanted, yielded]) (.tmp 25) (.tmp 27) rfl rfl rfl hb1 hr1 (by omega) ?_; intro v2 w2 hb2 hr2 hin2 h32))
        all_goals (gi_wp2_with fail)
        all_goals have hall := hwt.trans (wtd.trans (hw1.trans (hin2 X3 St3 w3 (by simpa using hw3))))
        all_goals first
          | (have hf : ok = false := by simpa using (by assumption : (!ok) = true)
             go_ret
             exact post_stop hlt hF hall (hno hf))
          | (have hf : ok = true := by simpa using (by assumption : (!ok) = false)
             exact ⟨rel_next hlt hF hall (hok hf), by simp [RowKit.intOf]; omega⟩)
      · have hkc : k = c := by omega
        subst hkc
        gi_wp2
        go_ret
        exact ⟨true, X', St', rfl, hwt, fun _ => ⟨by rw [htot]; exact hcn, by rw [htot]; exact hbed⟩, fun h => by cases h⟩
end
end Gv

/- Scan's iterator over all orders, told by what it yields. -/
namespace Gv
open Go Go.Proofs Go.RowKit Go.Lib Go.Shelf
attribute [local go_sem] Oper.semAt_some
set_option maxRecDepth 100000

/-- All orders of so many numbers. -/
def ordersG (caps : List PV) : Option (Nat × List PV) := match caps with
  | [.imm [.int .i64 n] 0] => if 0 ≤ n ∧ n ≤ 8 then some ((ext n.toNat n.toNat []).length, (ext n.toNat n.toNat []).map rowP) else none
  | _ => none

theorem ext_all {J : Nat → JT} {ac : Addr} {c by' bx l : Nat} {xv : Value} {rows : List (List Nat)} {K : Nat} (hab : ∀ i, Abides (J i)) (hY : YRow J l rows K) (hxv : xv = .func (.func 116) #[] #[.pointer (some ac), .pointer (some ⟨by', 0, none⟩), .pointer (some ⟨bx, 0, none⟩)]) (hc : c ≤ 100) :
    ∀ (m : Nat) (b : List Nat) (i : Nat) (X : Nat → Prop) (St : Nat → Nat → Prop) (w : World) (v : Value), b.length + m = c → (∀ j r, (ext c m b)[j]? = some r → rows[i + j]? = some r) → i ≤ K → Bed J ac c by' bx l xv i X St w → Row by' bx X St w v b.length (valN b) →
      Calls Try.prog 116 #[v, .pointer (some ac), .pointer (some ⟨by', 0, none⟩), .pointer (some ⟨bx, 0, none⟩)] w (ExtPost J ac c by' bx l xv K i (ext c m b).length v b.length X St w)
  | 0, b, i, X, St, w, v, hbc, hR, hi, bed, row => ext_zero hab hY b (by omega) (by omega) i X St w v (hR 0 b rfl) hi bed row
  | m + 1, b, i, X, St, w, v, hbc, hR, hi, bed, row => ext_succ hab hxv hc m b hbc (fun b i X St w v h1 h2 h3 h4 h5 => ext_all hab hY hxv hc m b i X St w v h1 h2 h3 h4 h5) i X St w v hR hi bed row

theorem row_at {rows : List (List Nat)} {n i : Nat} {b : List Nat} (hi : i < n) (h : rows[i]? = some b) : [rowP b].flatMap pcells = ((((rows.map rowP).take (n * shSize [none])).drop (i * shSize [none])).take (shSize [none])) := by
  have e : shSize [none] = 1 := rfl
  rw [e, Nat.mul_one, Nat.mul_one]
  have h1 : ((rows.map rowP).take n)[i]? = some (rowP b) := by
    rw [List.getElem?_take, if_pos hi, List.getElem?_map, h]
    rfl
  have hlt := (List.getElem?_eq_some_iff.1 h1).1
  rw [List.drop_eq_getElem_cons hlt, List.take_succ_cons, List.take_zero]
  have h2 := (List.getElem?_eq_some_iff.1 h1).2
  rw [h2]
  rfl

theorem cbox {W : World} {B : Nat} {v : Value} {t : TypeId} (h : W.heap[B]? = some (.cells #[v] t (0, 0))) : W.cell? ⟨B, 0, none⟩ = some v ∧ W.frozen? ⟨B, 0, none⟩ = false := by
  constructor <;> simp [World.cell?, World.frozen?, h]
theorem cnew (W : World) (v : Value) (t : TypeId) : (W.alloc (.cells #[v] t)).cell? ⟨W.heap.size, 0, none⟩ = some v ∧ (W.alloc (.cells #[v] t)).frozen? ⟨W.heap.size, 0, none⟩ = false := cbox (World.alloc_heap_new W _)

theorem bed_zero {J : Nat → JT} {ac : Addr} {c l : Nat} {xv : Value} (hab : ∀ i, Abides (J i)) {X : Nat → Prop} {St : Nat → Nat → Prop} {w W : World} (hX : ∀ q, X q ↔ q < w.heap.size) (hlt : ∀ b o, St b o → b < w.heap.size) (hJ0 : J 0 X St w)
    (hs : St ac.block ac.off) (hf : ac = ⟨ac.block, ac.off, none⟩) (hc : w.cell? ac = some (.int .i64 c)) (hb : Below w.heap.size w W) (h2 : W.cell? ⟨w.heap.size, 0, none⟩ = some (.func (.yield l) #[] #[])) (h3 : W.cell? ⟨w.heap.size + 1, 0, none⟩ = some xv) :
    Bed J ac c w.heap.size (w.heap.size + 1) l xv 0 X St W := by
  refine ⟨hab 0 X St St w W none hJ0 (grownBy_below hb) (by simp) (evo_below hlt hb fun _ _ h => h) (fun b o hs => Nat.lt_of_lt_of_le (hlt b o hs) hb.size) (fun b o hs => .inl hs), fun q hq => Nat.lt_of_lt_of_le ((hX q).1 hq) hb.size, fun b o hs => Nat.lt_of_lt_of_le (hlt b o hs) hb.size, ⟨hs, hf⟩, ?_, h2, h3, fun h => ?_, fun h => ?_⟩
  · exact (hb.cell (p := ac) (hlt _ _ hs)).trans hc
  · have := (hX _).1 h; omega
  · have := (hX _).1 h; omega

set_option maxHeartbeats 4000000 in
theorem told115 : ToldOK Try.prog 115 [none] ordersG := by
  refine ⟨⟨Try.f115, Try.func115, by kernel_rfl, by decide⟩, fun caps N cs hg hN hcs k l J X St w vals hab hX hlt hargs hyok hJ0 => ?_⟩
  unfold ordersG at hg
  split at hg
  · rename_i n
    split at hg
    · rename_i hn
      simp only [Option.some.injEq, Prod.mk.injEq] at hg
      obtain ⟨rfl, rfl⟩ := hg
      obtain ⟨c, rfl⟩ : ∃ c : Nat, n = c := ⟨n.toNat, by omega⟩
      simp only [Int.toNat_natCast] at hyok ⊢
      simp only [PRs, PR] at hargs
      obtain ⟨_, _, rfl, ⟨ad, us, rfl, ⟨_, _, rfl, rfl, rfl⟩, hat⟩, rfl⟩ := hargs
      obtain ⟨rows, hrows⟩ : ∃ rows, rows = ext c c [] := ⟨_, rfl⟩
      rw [← hrows] at hyok ⊢
      obtain ⟨hs1, hc1, _⟩ := hat 0 _ rfl
      have hform := add_form ad 0 (cell_spot hc1)
      have had : ad.add 0 = ad := rfl
      rw [had] at hc1 hform
      have hY : YRow J l rows k := fun i X St w b v hi hr hj hx hs hp => by
        have hlen := (List.getElem?_eq_some_iff.1 hr).1
        exact hyok i X St w [rowP b] [v] (by omega) hj hx hs rfl (row_at (by omega) hr) ⟨_, _, rfl, hp, rfl⟩
      have hbed : ∀ W : World, Below w.heap.size w W → W.cell? ⟨w.heap.size, 0, none⟩ = some (.func (.yield l) #[] #[]) → W.cell? ⟨w.heap.size + 1, 0, none⟩ = some (.func (.func 116) #[] #[.pointer (some ad), .pointer (some ⟨w.heap.size, 0, none⟩), .pointer (some ⟨w.heap.size + 1, 0, none⟩)]) →
          Bed J ad c w.heap.size (w.heap.size + 1) l (.func (.func 116) #[] #[.pointer (some ad), .pointer (some ⟨w.heap.size, 0, none⟩), .pointer (some ⟨w.heap.size + 1, 0, none⟩)]) 0 X St W := fun W hb h2 h3 => bed_zero hab hX hlt hJ0 hs1 hform hc1 hb h2 h3
      have hrow : ∀ W : World, Row w.heap.size (w.heap.size + 1) X St W (.slice none 0 0) 0 (valN []) := fun W => ⟨World.ownsRow_nil _ _ _ _, fun q hq => by cases hq⟩
      have q0 := cnew w (.func (.yield l) #[] #[]) 160
      have q1 := cnew (w.alloc (.cells #[.func (.yield l) #[] #[]] 160)) .nilFunc 160
      rw [World.size_alloc] at q1
      obtain ⟨q1c, q1f⟩ := q1
      have hst : (store ⟨w.heap.size + 1, 0, none⟩ (.func (.func 116) #[] #[.pointer (some ad), .pointer (some ⟨w.heap.size, 0, none⟩), .pointer (some ⟨w.heap.size + 1, 0, none⟩)])).run Try.prog ((w.alloc (.cells #[.func (.yield l) #[] #[]] 160)).alloc (.cells #[.nilFunc] 160)) =
          .ok () (((w.alloc (.cells #[.func (.yield l) #[] #[]] 160)).alloc (.cells #[.nilFunc] 160)).setCell ⟨w.heap.size + 1, 0, none⟩ (.func (.func 116) #[] #[.pointer (some ad), .pointer (some ⟨w.heap.size, 0, none⟩), .pointer (some ⟨w.heap.size + 1, 0, none⟩)])) := by
        rw [run_store Try.prog _ _ _ _ rfl, q1c, q1f]
        rfl
      have q2 := cnew (w.alloc (.cells #[.func (.yield l) #[] #[]] 160)) (.func (.func 116) #[] #[.pointer (some ad), .pointer (some ⟨w.heap.size, 0, none⟩), .pointer (some ⟨w.heap.size + 1, 0, none⟩)]) 160
      rw [World.size_alloc] at q2
      have hW : Below w.heap.size w ((w.alloc (.cells #[.func (.yield l) #[] #[]] 160)).alloc (.cells #[.func (.func 116) #[] #[.pointer (some ad), .pointer (some ⟨w.heap.size, 0, none⟩), .pointer (some ⟨w.heap.size + 1, 0, none⟩)]] 160)) :=
        ((Below.refl _ w).alloc (Nat.le_refl _) _).alloc (by simp) _
      have hb1 := hbed _ hW ((World.cell?_alloc_lt _ _ _ (by simp)).trans q0.1) q2.1
      have hcall := ext_all hab hY rfl (by omega) c [] 0 X St _ _ (by simp) (fun j r hj => by rw [hrows, Nat.zero_add]; exact hj) (Nat.zero_le _) hb1 (hrow _)
      clear hform hX hat hyok hlt had hbed hrow hb1 hW q0 q2 hc1
      show Calls Try.prog 115 #[.func (.yield l) #[] #[], .pointer (some ad)] w _
      go_enter Try.func115, Try.ntmps115
      go_wp2_with (go_at_call 116; refine hcall.mono ?_; rintro e w2 ⟨ok, X3, St3, rfl, hw3, hok, hno⟩)
      go_end0
      cases ok with
      | true =>
        obtain ⟨h1, h2⟩ := hok rfl
        rw [Nat.zero_add, ← hrows] at h1 h2
        refine ⟨_, X3, St3, rfl, ?_, h2.xlt⟩
        rw [Nat.min_eq_right (by omega)]
        exact h2.j
      | false =>
        obtain ⟨h1, h2⟩ := hno rfl
        rw [Nat.zero_add, ← hrows] at h1
        refine ⟨_, X3, St3, rfl, ?_, h2.xlt⟩
        rw [Nat.min_eq_left (by omega)]
        exact h2.j
    · cases hg
  · cases hg
end Gv
