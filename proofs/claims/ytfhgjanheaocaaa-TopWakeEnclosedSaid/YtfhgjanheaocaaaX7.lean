import Derived.Test.YtfhgjanheaocaaaGvEnv0
import Derived.Test.YtfhgjanheaocaaaGvClo
import Derived.Test.YtfhgjanheaocaaaGvIt
import Derived.Test.YtfhgjanheaocaaaGvYk
import Derived.RangeFuncKeeps
import Derived.RangeFuncBound
import Derived.RangeFuncLeaves
import Derived.Shelf.Abstract
import Derived.WalkKit
import Derived.OwnWalkIn
import Derived.TacticsInMore
import Derived.Lib.Walk
import Derived.Lib.SliceRun
import Derived.KernelRfl
import Derived.Shelf.RegionOpen
import Derived.Deep.RegionLaw
import Derived.LoopIn
import Derived.LoopNIn

namespace Gv
open Go
set_option maxRecDepth 100000
def Eslices_Index___int_int_ : List Entry := []
theorem Eslices_Index___int_int__ok : ∀ e ∈ Eslices_Index___int_int_, EntOK env0 e := ent_nil
def Tslices_Index___int_int__0a (n0 : Nat) (c1 : List PV) (i2 i3 i4 : Int) : Q := ⟨(tm 19 [(0, (AV.p (PV.list n0 c1))), (1, (AV.p (PV.int .i64 i2))), (7, (AV.p (PV.int .i64 i3))), (8, (AV.p (PV.int .i64 i4)))]), (mm 19 [])⟩
def Xslices_Index___int_int__0a (y : Int) : Ext × Q := (Ext.ret, ⟨(tm 19 [(4, (AV.p (PV.int .i64 y)))]), (mm 19 [])⟩)
def Islices_Index___int_int__0a (q : Ext × S) : Int := (pP_int1 (pA_p (avT q.2 4)))
def Xslices_Index___int_int__0b (y : Unit) : Ext × Q := (Ext.normal, ⟨(tm 19 []), (mm 19 [])⟩)
def Islices_Index___int_int__0b (q : Ext × S) : Unit := ()
abbrev Yslices_Index___int_int__0 : Type := (Int) ⊕ ((Unit))
def XLslices_Index___int_int__0 : XL Yslices_Index___int_int__0 := .more Xslices_Index___int_int__0a (.one Xslices_Index___int_int__0b)
def Islices_Index___int_int__0 (q : Ext × S) : Yslices_Index___int_int__0 := bif (cE q.1 == 2) then (Sum.inl (Islices_Index___int_int__0a q)) else (Sum.inr (Islices_Index___int_int__0b q))
theorem XIslices_Index___int_int__0a (y : Int) : Islices_Index___int_int__0 (xe (Xslices_Index___int_int__0a y)) = (Sum.inl y) := by kernel_rfl
theorem XIslices_Index___int_int__0b (y : Unit) : Islices_Index___int_int__0 (xe (Xslices_Index___int_int__0b y)) = (Sum.inr y) := by kernel_rfl
theorem XIslices_Index___int_int__0 (y : Yslices_Index___int_int__0) : Islices_Index___int_int__0 (xe (XLslices_Index___int_int__0.fn y)) = y := (match y with | .inl y => XIslices_Index___int_int__0a y | .inr y => XIslices_Index___int_int__0b y)
noncomputable abbrev Lslices_Index___int_int__0 : Q → Option Yslices_Index___int_int__0 := lpO env0 a94.body 0 XLslices_Index___int_int__0
noncomputable abbrev Rslices_Index___int_int__0 : Q → Option (Ext × S) := lpR env0 a94.body 0
theorem Lslices_Index___int_int__0a_of {s : Q} {y : Int} (h : Rslices_Index___int_int__0 s = exO (Xslices_Index___int_int__0a y)) : Lslices_Index___int_int__0 s = some (Sum.inl y) := lpO_of Islices_Index___int_int__0 XIslices_Index___int_int__0 (y := (Sum.inl y)) h
theorem Lslices_Index___int_int__0b_of {s : Q} {y : Unit} (h : Rslices_Index___int_int__0 s = exO (Xslices_Index___int_int__0b y)) : Lslices_Index___int_int__0 s = some (Sum.inr y) := lpO_of Islices_Index___int_int__0 XIslices_Index___int_int__0 (y := (Sum.inr y)) h
theorem Uslices_Index___int_int_ : uniq ((blocksOf a94.body).map (·.1)) = true := by kernel_rfl
def Bslices_Index___int_int__0a (F : FnT) (N : QO) (E : EO) (L0 : Q → Option Yslices_Index___int_int__0) (n0 : Nat) (c1 : List PV) (i2 i3 i4 : Int) : Option (Ext × S) :=
  bif (decide (i4 < i3)) then
    bif (decide (((0 : Int) ≤ i4) ∧ (i4 < (n0 : Int)))) then
      bindO (intC .i64 (c1[((Int.toNat i4) * 1)]?)) fun x0 =>
      bif (i2 == x0) then
        E (Xslices_Index___int_int__0a i4)
      else N (Tslices_Index___int_int__0a n0 c1 i2 i3 (w64 (i4 + (1 : Int))))
    else none
  else E (Xslices_Index___int_int__0b ())
theorem Bslices_Index___int_int__0a_eq (F : FnT) (N : QO) (E : EO) (L0 : Q → Option Yslices_Index___int_int__0) (n0 : Nat) (c1 : List PV) (i2 i3 i4 : Int) : semB (callP F Eslices_Index___int_int_ 20) s94 (loopT [⟨0, Yslices_Index___int_int__0, L0, XLslices_Index___int_int__0⟩]) 400 (blkIn a94.body 0) N E (Tslices_Index___int_int__0a n0 c1 i2 i3 i4) = Bslices_Index___int_int__0a F N E L0 n0 c1 i2 i3 i4 := by kernel_rfl
theorem Rslices_Index___int_int__0a_of  (n0 : Nat) (c1 : List PV) (i2 i3 i4 : Int) {r : Ext × S} (h : Bslices_Index___int_int__0a (Fn env0) Rslices_Index___int_int__0 exO Lslices_Index___int_int__0 n0 c1 i2 i3 i4 = some r) : Rslices_Index___int_int__0 (Tslices_Index___int_int__0a n0 c1 i2 i3 i4) = some r :=
  lp_of Eslices_Index___int_int__ok (by kernel_rfl) (lo_cons (lpO_ok Uslices_Index___int_int_) lo_nil) (by kernel_rfl) ((Bslices_Index___int_int__0a_eq _ _ _ _ _ _ _ _ _).trans h)
def tslices_Index___int_int_ (F : FnT) (L0 : Q → Option Yslices_Index___int_int__0) (p0n : Nat) (p0c : List PV) (p1 : Int) : Option (Int) :=
  bindO (L0 (Tslices_Index___int_int__0a p0n p0c p1 (p0n : Int) (0 : Int))) fun z =>
  Sum.elim (fun y0 =>
    some y0) (fun y1 =>
    some (-1 : Int)) z
theorem tslices_Index___int_int__eq (F : FnT) (L0 : Q → Option Yslices_Index___int_int__0) (p0n : Nat) (p0c : List PV) (p1 : Int) : semF (callP F Eslices_Index___int_int_ 20) s94 (loopT [⟨0, Yslices_Index___int_int__0, L0, XLslices_Index___int_int__0⟩]) 400 a94 [PV.list p0n p0c, PV.int .i64 p1] (fun rv => decR (RSh.one (CK.int .i64)) rv.pv) = tslices_Index___int_int_ F L0 p0n p0c p1 := by kernel_rfl
noncomputable abbrev Fslices_Index___int_int_ (args : List PV) := Fn env0 94 (RSh.one (CK.int .i64)) args
theorem Fslices_Index___int_int__of  (p0n : Nat) (p0c : List PV) (p1 : Int) {res : (Int)} (h : tslices_Index___int_int_ (Fn env0) Lslices_Index___int_int__0 p0n p0c p1 = some res) : Fslices_Index___int_int_ [PV.list p0n p0c, PV.int .i64 p1] = some res :=
  fn_of Eslices_Index___int_int__ok rfl rfl (lo_cons (lpO_ok Uslices_Index___int_int_) lo_nil) ((tslices_Index___int_int__eq _ _ _ _ _).trans h)
def Eslices_Contains___int_int_ : List Entry := [.out 94 (RSh.one (CK.int .i64))]
theorem Eslices_Contains___int_int__ok : ∀ e ∈ Eslices_Contains___int_int_, EntOK env0 e := (ent_out ent_nil)
def tslices_Contains___int_int_ (F : FnT) (p0n : Nat) (p0c : List PV) (p1 : Int) : Option (Bool) :=
  bindO (F 94 (RSh.one (CK.int .i64)) [(PV.list p0n p0c), (PV.int .i64 p1)]) fun (y0 : (Int)) =>
  bif (decide (y0 ≥ (0 : Int))) then
    some true
  else some false
theorem tslices_Contains___int_int__eq (F : FnT) (p0n : Nat) (p0c : List PV) (p1 : Int) : semF (callP F Eslices_Contains___int_int_ 20) s74 (loopT []) 400 a74 [PV.list p0n p0c, PV.int .i64 p1] (fun rv => decR (RSh.one CK.bool) rv.pv) = tslices_Contains___int_int_ F p0n p0c p1 := by kernel_rfl
noncomputable abbrev Fslices_Contains___int_int_ (args : List PV) := Fn env0 74 (RSh.one CK.bool) args
theorem Fslices_Contains___int_int__of  (p0n : Nat) (p0c : List PV) (p1 : Int) {res : (Bool)} (h : tslices_Contains___int_int_ (Fn env0) p0n p0c p1 = some res) : Fslices_Contains___int_int_ [PV.list p0n p0c, PV.int .i64 p1] = some res :=
  fn_of Eslices_Contains___int_int__ok rfl rfl lo_nil ((tslices_Contains___int_int__eq _ _ _ _).trans h)
end Gv
namespace Gv
open Go Go.Proofs Go.RowKit Go.Lib Go.Shelf
attribute [local go_sem] Oper.semAt_some
set_option maxRecDepth 100000
set_option maxHeartbeats 2000000 in
theorem clone_row (a : Addr) (n c : Nat) (xs : List Value) (w : World) (hl : xs.length = n) (hx : ∀ j u, xs[j]? = some u → w.cell? (a.add j) = some u) (h1 : ∀ u ∈ xs, u.oneCell' = true) (hn : n ≤ 1000) :
    Calls Try.prog 111 #[.slice (some a) n c] w fun e w' => ∃ v', e = .returned v' ∧ w'.ownsRow w.heap.size 3 1 v' n xs ∧ Below w.heap.size w w' := by
  have q : ∀ (w : World) (a : Option Addr) (n c n' c' : Nat), (binOp .eql 77 (.slice a n c) (.slice none n' c')).run Try.prog w = .ok (.bool a.isNone) w := fun w a n c n' c' => Lib.run_eql_slice_nil w _ _ a n c n' c' Try.underlying77
  have u22 : ∀ w, Sem.run Try.prog (underlying 77) w = .ok (TypeDesc.slice 3) w := run_underlying Try.underlying77
  obtain ⟨i0, hi, hz0, hz1, hz2⟩ : ∃ i0, Try.prog.info? 3 = some i0 ∧ i0.zero = some (.int .i64 0) ∧ i0.size = 1 ∧ i0.bytes = 8 := ⟨_, rfl, by kernel_rfl, by kernel_rfl, by kernel_rfl⟩
  go_enter Try.func111, Try.ntmps111
  go_wp2_with (at_builtin; refine wpList_append_own _ rfl _ _ 77 rfl w.heap.size 3 i0 (.int .i64 0) 1 8 Try.underlying77 hi hz0 hz1 hz2 rfl (by decide) _ _ _ rfl (World.ownsRow_made w #[] 0 (Nat.le_refl _) (Nat.zero_le _) rfl) a n c xs rfl (by omega) (fun j u hj => (World.cell?_alloc_lt w _ _ (World.block_lt_of_cell? w _ (hx j u hj))).trans (hx j u hj)) h1 (by unfold maxLen; omega) (by omega) (by simp) ?_)
  intro v' w1 hown hgrow hnil
  go_wp2
  go_ret
  refine ⟨v', rfl, by simpa using hown, ?_⟩
  exact ((Below.refl _ w).alloc (Nat.le_refl _) _).grown hgrow (by simp) (by intro k hk; simp [Value.ownBlock] at hk; omega)
theorem valN_len (b : List Nat) : (valN b).length = b.length := by simp [valN]
theorem valN_one (b : List Nat) : ∀ u ∈ valN b, u.oneCell' = true := fun u hu => by
  simp only [valN, List.mem_map] at hu
  obtain ⟨y, _, rfl⟩ := hu
  rfl
theorem clone_any (w : World) (v : Value) (b : List Nat) (h : w.ownsRow 0 3 1 v b.length (valN b)) (hb : b.length ≤ 1000) :
    Calls Try.prog 111 #[v] w fun e w' => ∃ v', e = .returned v' ∧ w'.ownsRow w.heap.size 3 1 v' b.length (valN b) ∧ Below w.heap.size w w' := by
  rcases h.2 with ⟨rfl, h0⟩ | ⟨g, cap, cur, rfl, h1, h2, h3, h4, h5, h6⟩
  · refine (clone_nil111 0 0 w).mono ?_
    rintro e w' ⟨rfl, rfl⟩
    have := List.length_eq_zero_iff.1 h0
    subst this
    exact ⟨_, rfl, World.ownsRow_nil _ _ _ _, Below.refl _ _⟩
  · refine clone_row _ _ _ _ w (valN_len b) (fun j u hj => ?_) (valN_one b) hb
    rw [addr_add, Nat.zero_add, cell_of_row w g j cur 3 (0, 0) h2]
    rw [← h6, List.getElem?_take] at hj
    split at hj
    · simpa using hj
    · cases hj
theorem index_loop (b : List Nat) (hb : b.length ≤ 1000) (i : Nat) : ∀ j, j ≤ b.length →
    (i ∈ b.drop j → ∃ k : Nat, Rslices_Index___int_int__0 (Tslices_Index___int_int__0a b.length (encN b) (i : Int) (b.length : Int) (j : Int)) = exO (Xslices_Index___int_int__0a (k : Int))) ∧
      (i ∉ b.drop j → Rslices_Index___int_int__0 (Tslices_Index___int_int__0a b.length (encN b) (i : Int) (b.length : Int) (j : Int)) = exO (Xslices_Index___int_int__0b ())) := by
  refine up_ind _ ?_ ?_
  · refine ⟨fun h => by simp at h, fun _ => Rslices_Index___int_int__0a_of _ _ _ _ _ ?_⟩
    unfold Bslices_Index___int_int__0a
    rw [bif_neg (by omega)]
    rfl
  · intro j hj ih
    obtain ⟨x, hx, hd⟩ := get_drop hj
    have hg : (encN b)[j * 1]? = some (PV.int .i64 (x : Int)) := by rw [Nat.mul_one]; simp [encN, hx]
    have hw : w64 ((j : Int) + 1) = ((j + 1 : Nat) : Int) := by rw [w64_in (by omega)]; omega
    rw [hd]
    by_cases he : i = x
    · subst he
      refine ⟨fun _ => ⟨j, Rslices_Index___int_int__0a_of _ _ _ _ _ ?_⟩, fun h => by simp at h⟩
      unfold Bslices_Index___int_int__0a
      rw [bif_pos (by omega), bif_pos (by omega), Int.toNat_natCast, hg]
      simp only [intC_int, bindO_val, beq_self_eq_true, cond_true]
      rfl
    · have hne : ((i : Int) == (x : Int)) = false := by
        rw [beq_eq_false_iff_ne]
        omega
      have step : ∀ r, Rslices_Index___int_int__0 (Tslices_Index___int_int__0a b.length (encN b) (i : Int) (b.length : Int) ((j + 1 : Nat) : Int)) = some r → Rslices_Index___int_int__0 (Tslices_Index___int_int__0a b.length (encN b) (i : Int) (b.length : Int) (j : Int)) = some r := fun r hr => by
        refine Rslices_Index___int_int__0a_of _ _ _ _ _ ?_
        unfold Bslices_Index___int_int__0a
        rw [bif_pos (by omega), bif_pos (by omega), Int.toNat_natCast, hg]
        simp only [intC_int, bindO_val, hne, cond_false, hw]
        exact hr
      refine ⟨fun h => ?_, fun h => step _ (ih.2 fun h' => h (by simp [h']))⟩
      obtain ⟨k, hk⟩ := ih.1 (by simpa [he] using h)
      exact ⟨k, step _ hk⟩
theorem contains_is (b : List Nat) (hb : b.length ≤ 1000) (i : Nat) : Fslices_Contains___int_int_ [.list b.length (encN b), .int .i64 (i : Int)] = some (decide (i ∈ b)) := by
  have hl := index_loop b hb i 0 (Nat.zero_le _)
  rw [List.drop_zero] at hl
  refine Fslices_Contains___int_int__of _ _ _ ?_
  unfold tslices_Contains___int_int_
  by_cases h : i ∈ b
  · obtain ⟨k, hk⟩ := hl.1 h
    have hk := Lslices_Index___int_int__0a_of hk
    have hk : Lslices_Index___int_int__0 (Tslices_Index___int_int__0a b.length (encN b) (i : Int) (b.length : Int) 0) = _ := hk
    have hI : Fslices_Index___int_int_ [.list b.length (encN b), .int .i64 (i : Int)] = some (k : Int) := by
      refine Fslices_Index___int_int__of _ _ _ ?_
      unfold tslices_Index___int_int_
      rw [hk]
      rfl
    simp only [hI, bindO_val]
    rw [bif_pos (by omega)]
    simp [h]
  · have hk := hl.2 h
    have hk := Lslices_Index___int_int__0b_of hk
    have hk : Lslices_Index___int_int__0 (Tslices_Index___int_int__0a b.length (encN b) (i : Int) (b.length : Int) 0) = _ := hk
    have hI : Fslices_Index___int_int_ [.list b.length (encN b), .int .i64 (i : Int)] = some (-1 : Int) := by
      refine Fslices_Index___int_int__of _ _ _ ?_
      unfold tslices_Index___int_int_
      rw [hk]
      rfl
    simp only [hI, bindO_val]
    rw [bif_neg (by omega)]
    simp [h]
theorem contains_calls (w : World) (v : Value) (b : List Nat) (h : w.ownsRow 0 3 1 v b.length (valN b)) (hb : b.length ≤ 1000) (i : Nat) :
    Calls Try.prog 74 #[v, .int .i64 (i : Int)] w fun e w' => e = .returned (.bool (decide (i ∈ b))) ∧ Below w.heap.size w w' := by
  obtain ⟨rv, h1, h2⟩ := Fn_some (contains_is b hb i)
  have hp : PR (fun q o => v.ownBlock = some q ∧ o < b.length) w (rowP b) v := row_pr h fun q o hq ho => ⟨hq, ho⟩
  have hc := ((run_sound cloMixed env0_ok).fn 74 _ rv h1).2 w (fun q o => v.ownBlock = some q ∧ o < b.length) [v, .int .i64 (i : Int)]
    (fun q o hs => by obtain ⟨_, cur, _, hq, _⟩ := own_lt h hs.1; exact heap_lt hq) ⟨_, _, rfl, hp, _, _, rfl, rfl, rfl⟩
  refine hc.mono ?_
  rintro e w' ⟨u, St', rfl, hrr, hbel, _⟩
  refine ⟨?_, hbel⟩
  cases rv with
  | val x =>
    have hx : x = .bool (decide (i ∈ b)) := h2
    subst hx
    simp only [RR, PR] at hrr
    rw [hrr]
  | own n sz cs => cases h2
section
variable {J : Nat → JT} {ac : Addr} {c by' bx l : Nat} {xv : Value} {rows : List (List Nat)} {K : Nat}
def YRow (J : Nat → JT) (l : Nat) (rows : List (List Nat)) (K : Nat) : Prop :=
  ∀ (i : Nat) (X : Nat → Prop) (St : Nat → Nat → Prop) (w : World) (b : List Nat) (v : Value), i ≤ K → rows[i]? = some b → J i X St w → (∀ q, X q → q < w.heap.size) → (∀ b o, St b o → b < w.heap.size) → PR St w (rowP b) v →
    YieldAt Fence.wide 0 Try.prog l #[v] w fun e w' => e = .returned (.bool (i != K)) ∧ ∃ X' St', J (i + 1) X' St' w' ∧ Yields X St w X' St' w'
structure Gone (v : Value) (n : Nat) (X : Nat → Prop) (St : Nat → Nat → Prop) (w : World) (X' : Nat → Prop) (St' : Nat → Nat → Prop) (w' : World) : Prop where
  size : w.heap.size ≤ w'.heap.size
  keep : ∀ q, q < w.heap.size → ¬ X q → v.ownBlock ≠ some q → w'.heap[q]? = w.heap[q]?
  row : ∀ q cur, ¬ X q → v.ownBlock = some q → w.heap[q]? = some (.cells cur 3 (0, 0)) → ∃ cur', w'.heap[q]? = some (.cells cur' 3 (0, 0)) ∧ cur'.size = cur.size ∧ cur'.toList.take n = cur.toList.take n
  mono : ∀ q, X q → X' q
  new : ∀ q, X' q → X q ∨ w.heap.size ≤ q
  evo : Evo St w St' w'
  stnew : ∀ b o, St' b o → St b o ∨ X' b ∨ w.heap.size ≤ b ∨ v.ownBlock = some b
theorem Gone.of {v : Value} {n : Nat} {X X' : Nat → Prop} {St St' : Nat → Nat → Prop} {w w' : World} (h : Went v n X St w X' St' w') : Gone v n X St w X' St' w' :=
  ⟨h.size, h.keep, h.row, h.mono, h.new, h.evo, fun b o hs => (h.stnew b o hs).imp id (Or.imp id .inl)⟩
theorem Gone.inner {v u : Value} {n m : Nat} {X X' : Nat → Prop} {St St' : Nat → Nat → Prop} {w w' w'' : World} (hb : Below w.heap.size w w') (hlt : ∀ b o, St b o → b < w.heap.size) (hu : ∀ q, u.ownBlock = some q → w.heap.size ≤ q) (h : Gone u m X St w' X' St' w'') : Went v n X St w X' St' w'' := by
  have hk : ∀ q, q < w.heap.size → ¬ X q → w''.heap[q]? = w.heap[q]? := fun q hq hx => (h.keep q (Nat.lt_of_lt_of_le hq hb.size) hx fun e => by have := hu q e; omega).trans (hb.block q hq)
  refine ⟨Nat.le_trans hb.size h.size, fun q hq hx _ => hk q hq hx, fun q cur hx _ hc => ⟨cur, (hk q (heap_lt hc) hx).trans hc, rfl, rfl⟩, h.mono, fun q hx => (h.new q hx).imp id (fun k => Nat.le_trans hb.size k), (evo_below hlt hb fun _ _ h => h).trans h.evo, fun b o hs => ?_⟩
  rcases h.stnew b o hs with h1 | h1 | h1 | h1
  · exact .inl h1
  · exact .inr (.inl h1)
  · exact .inr (.inr (Nat.le_trans hb.size h1))
  · exact .inr (.inr (hu b h1))
def YOwn (J : Nat → JT) (ac : Addr) (c by' bx l : Nat) (xv : Value) (rows : List (List Nat)) (K : Nat) : Prop :=
  ∀ (i : Nat) (X : Nat → Prop) (St : Nat → Nat → Prop) (w : World) (v : Value) (b : List Nat), i ≤ K → rows[i]? = some b → Bed J ac c by' bx l xv i X St w → Row by' bx X St w v b.length (valN b) →
    YieldAt Fence.wide 0 Try.prog l #[v] w fun e w2 => e = .returned (.bool (i != K)) ∧ ∃ X' St', Bed J ac c by' bx l xv (i + 1) X' St' w2 ∧ Gone v b.length X St w X' St' w2
theorem own_yield (hab : ∀ i, Abides2 (J i)) (hY : YRow J l rows K) {i : Nat} {X : Nat → Prop} {St : Nat → Nat → Prop} {w : World} {v : Value} {b : List Nat} (hi : i ≤ K) (hr : rows[i]? = some b) (bed : Bed J ac c by' bx l xv i X St w) (row : Row by' bx X St w v b.length (valN b)) :
    YieldAt Fence.wide 0 Try.prog l #[v] w fun e w2 => e = .returned (.bool (i != K)) ∧ ∃ X' St', Bed J ac c by' bx l xv (i + 1) X' St' w2 ∧ Gone v b.length X St w X' St' w2 := by
  have hv : ∀ q, v.ownBlock = some q → q ≠ by' ∧ q ≠ bx := fun q hq => (row.nx q hq).2.2
  obtain ⟨St1, hSt1⟩ : ∃ St1 : Nat → Nat → Prop, St1 = fun q o => St q o ∨ (v.ownBlock = some q ∧ o < b.length) := ⟨_, rfl⟩
  have ev : Evo St w St1 w := by
    subst hSt1
    exact fun _ _ h => ⟨.inl h, rfl⟩
  have slt1 : ∀ q o, St1 q o → q < w.heap.size := fun q o hs => by
    subst hSt1
    rcases hs with hs | hs
    · exact bed.slt q o hs
    · obtain ⟨_, cur, _, hq, _⟩ := own_lt row.own hs.1
      exact heap_lt hq
  have j1 : J i X St1 w := hab i X St St1 w w none bed.j (grownBy_below (Below.refl _ w)) (by simp) (by simp) ev slt1 fun q o hs => by
    subst hSt1
    rcases hs with hs | hs
    · exact .inl hs
    · exact .inr (row.nx q hs.1).1
  have bed1 : Bed J ac c by' bx l xv i X St1 w := ⟨j1, bed.xlt, slt1, ⟨(ev _ _ bed.s1.1).1, bed.s1.2⟩, bed.c1, bed.c2, bed.c3, bed.n2, bed.n3⟩
  have hp : PR St1 w (rowP b) v := row_pr row.own fun q o hq ho => by subst hSt1; exact .inr ⟨hq, ho⟩
  refine YieldAt.mono (hY i X St1 w b v hi hr j1 bed.xlt slt1 hp) ?_
  rintro e w2 ⟨rfl, X', St', hj, hys⟩
  have went2 : Went v b.length X St1 w X' St' w2 := Went.yields (v := v) (n := b.length) hys
  refine ⟨rfl, X', St', bed1.went went2 hv hj hys.lt hys.stlt, went2.size, went2.keep, went2.row, went2.mono, went2.new, ev.trans went2.evo, fun q o hs => ?_⟩
  rcases went2.stnew q o hs with h1 | h1 | h1
  · subst hSt1
    rcases h1 with h1 | h1
    · exact .inl h1
    · exact .inr (.inr (.inr h1.1))
  · exact .inr (.inl h1)
  · exact .inr (.inr (.inl h1))
end
end Gv
namespace Gv
open Go Go.Proofs Go.RowKit Go.Lib Go.Shelf
attribute [local go_sem] Oper.semAt_some
set_option maxRecDepth 100000
section
variable {J : Nat → JT} {ac : Addr} {c by' bx l : Nat} {xv : Value} {rows : List (List Nat)} {K : Nat}
theorem con_step (hab : ∀ i, Abides2 (J i)) {i : Nat} {X : Nat → Prop} {St : Nat → Nat → Prop} {w : World} {v : Value} {b : List Nat} (hb : b.length ≤ 1000) (k : Nat) (bed : Bed J ac c by' bx l xv i X St w) (row : Row by' bx X St w v b.length (valN b)) (d : Bool) (hd : decide (k ∈ b) = d) :
    Calls Try.prog 74 #[v, .int .i64 (k : Int)] w fun e w1 => e = .returned (.bool d) ∧ Bed J ac c by' bx l xv i X St w1 ∧ Row by' bx X St w1 v b.length (valN b) ∧ Went v b.length X St w X St w1 ∧ w1.cell? ⟨bx, 0, none⟩ = some xv ∧ ∀ o, (w1.alloc o).cell? ⟨bx, 0, none⟩ = some xv := by
  refine (contains_calls w v b row.own hb k).mono ?_
  rintro e w1 ⟨rfl, hbel⟩
  have b1 := bed.below hab hbel
  have wt : Went v b.length X St w X St w1 := Went.below bed.slt hbel
  refine ⟨by rw [hd], b1, row.went wt (fun _ => Nat.le_refl _), wt, b1.c3, fun o => ?_⟩
  exact (World.cell?_alloc_lt w1 o _ (World.block_lt_of_cell? _ _ b1.c3)).trans b1.c3
theorem clone_step (hab : ∀ i, Abides2 (J i)) {i : Nat} {X : Nat → Prop} {St : Nat → Nat → Prop} {w : World} {v : Value} {b : List Nat} (hb : b.length ≤ 1000) (bed : Bed J ac c by' bx l xv i X St w) (row : Row by' bx X St w v b.length (valN b)) :
    Calls Try.prog 111 #[v] w fun e w1 => ∃ v1, e = .returned v1 ∧ Bed J ac c by' bx l xv i X St w1 ∧ Row by' bx X St w1 v1 b.length (valN b) ∧ Below w.heap.size w w1 ∧ (∀ q, v1.ownBlock = some q → w.heap.size ≤ q) ∧ w1.cell? ⟨bx, 0, none⟩ = some xv := by
  refine (clone_any w v b row.own hb).mono ?_
  rintro e w1 ⟨v1, rfl, hown, hbel⟩
  have b1 := bed.below hab hbel
  have hge : ∀ q, v1.ownBlock = some q → w.heap.size ≤ q := fun q hq => by
    rcases hown.2 with ⟨rfl, _⟩ | ⟨g, cap, cur, rfl, h1, h2, _⟩
    · cases hq
    · simp only [Value.ownBlock, Option.some.injEq] at hq
      subst hq
      exact h1
  have l2 := World.block_lt_of_cell? _ _ bed.c2
  have l3 := World.block_lt_of_cell? _ _ bed.c3
  simp only at l2 l3
  refine ⟨v1, rfl, b1, ⟨⟨by first | exact hown.1 | exact hown.1, ?_⟩, fun q hq => ?_⟩, hbel, hge, b1.c3⟩
  · rcases hown.2 with h | ⟨g, cap, cur, rfl, h1, h2⟩
    · exact .inl h
    · exact .inr ⟨g, cap, cur, rfl, Nat.zero_le _, h2⟩
  · have hq' := hge q hq
    exact ⟨fun hx => by have := bed.xlt q hx; omega, fun o hs => by have := bed.slt q o hs; omega, by omega, by omega⟩
theorem step_append_any (hab : ∀ i, Abides2 (J i)) {ops : Array Oper} {o : Oper} {a : Act} {w1 : World} {KK : Act → World → Prop} {Q : Exit → Act → World → Prop} {E : Prop} (hw : Region.wanted o (yielded ops a.tmps) = true) (s x : Operand)
    (hop : o.op = .call { callee := .builtin .append, args := #[s, x], argTypes := #[77, 77] }) {v : Value} {b : List Nat} {i k B : Nat} {X : Nat → Prop} {St : Nat → Nat → Prop} (hs : a.eval s = v) (hx : a.eval x = .slice (some ⟨B, 0, none⟩) 1 1) (hB : w1.cell? ⟨B, 0, none⟩ = some (.int .i64 (k : Int)))
    (bed : Bed J ac c by' bx l xv i X St w1) (row : Row by' bx X St w1 v b.length (valN b)) (hb : b.length < 1000)
    (hK : ∀ v' w', Bed J ac c by' bx l xv i X St w' → Row by' bx X St w' v' (b ++ [k]).length (valN (b ++ [k])) → w1.grownBy w' v.ownBlock → (∀ q, v'.ownBlock = some q → v.ownBlock = some q ∨ w1.heap.size ≤ q) → w'.cell? ⟨bx, 0, none⟩ = some xv → KK (a.put o.dst v') w') :
    if Region.wanted o (yielded ops a.tmps) = true then Oper.wp Try.prog o a w1 KK Q else E := by
  obtain ⟨i0, hi, hz0, hz1, hz2⟩ : ∃ i0, Try.prog.info? 3 = some i0 ∧ i0.zero = some (.int .i64 0) ∧ i0.size = 1 ∧ i0.bytes = 8 := ⟨_, rfl, by kernel_rfl, by kernel_rfl, by kernel_rfl⟩
  obtain ⟨v', w', hrun, hown, hg, hr, hu, hlt⟩ := append_one (P := Try.prog) (ty := o.type) (t := 77) Try.underlying77 hi hz0 hz1 hz2 rfl row.own (valN_one b) (ad := ⟨B, 0, none⟩) (x := .int .i64 (k : Int)) hB rfl hb
  have bed3 := bed.append hab row hg fun q cur h1 h2 => let ⟨c', h3, h4, _⟩ := hr q cur h1 h2; ⟨c', h3, h4⟩
  have row3 : Row by' bx X St w' v' (b ++ [k]).length (valN (b ++ [k])) := by
    refine ⟨?_, fun q hq => ?_⟩
    · have e1 : (b ++ [k]).length = b.length + 1 := by simp
      have e2 : valN (b ++ [k]) = valN b ++ [.int .i64 (k : Int)] := by simp [valN]
      rw [e1, e2]
      exact hown
    · rcases hu q hq with h1 | h1
      · exact row.nx q h1
      · have l2 := World.block_lt_of_cell? _ _ bed.c2
        have l3 := World.block_lt_of_cell? _ _ bed.c3
        simp only at l2 l3
        refine ⟨fun hx => ?_, fun o hs => ?_, by omega, by omega⟩
        · have := bed.xlt q hx; omega
        · have := bed.slt q o hs; omega
  have key := hK v' w' bed3 row3 hg hu bed3.c3
  rw [if_pos hw]
  unfold Oper.wp
  simp [execOp, hop, resolve, invoke, builtin, hs, hx, hrun, Result.andThen]
  exact key
def ExtPost (J : Nat → JT) (ac : Addr) (c by' bx l : Nat) (xv : Value) (K i len : Nat) (v : Value) (n : Nat) (X : Nat → Prop) (St : Nat → Nat → Prop) (w : World) (e : Ending) (w' : World) : Prop :=
  ∃ ok X' St', e = .returned (.bool ok) ∧ Gone v n X St w X' St' w' ∧ (ok = true → i + len ≤ K ∧ Bed J ac c by' bx l xv (i + len) X' St' w') ∧ (ok = false → K < i + len ∧ Bed J ac c by' bx l xv (K + 1) X' St' w')
theorem post_of {i : Nat} {X X' : Nat → Prop} {St St' : Nat → Nat → Prop} {w w2 : World} {v : Value} {n : Nat} (hi : i ≤ K) (h : Gone v n X St w X' St' w2) (hb : Bed J ac c by' bx l xv (i + 1) X' St' w2) :
    ExtPost J ac c by' bx l xv K i 1 v n X St w (.returned (.bool (i != K))) w2 := by
  refine ⟨i != K, X', St', rfl, h, fun hk => ⟨?_, hb⟩, fun hk => ?_⟩
  · have : i ≠ K := by simpa using hk
    omega
  · have : i = K := by simpa using hk
    subst this
    exact ⟨by omega, hb⟩
set_option maxHeartbeats 4000000 in
theorem ext_zero (_hab : ∀ i, Abides2 (J i)) (hY : YOwn J ac c by' bx l xv rows K) (b : List Nat) (hc : b.length ≤ 100) (hbc : b.length = c) (i : Nat) (X : Nat → Prop) (St : Nat → Nat → Prop) (w : World) (v : Value) (hR : rows[i]? = some b) (hi : i ≤ K)
    (bed : Bed J ac c by' bx l xv i X St w) (row : Row by' bx X St w v b.length (valN b)) :
    Calls Try.prog 110 #[v, .pointer (some ac), .pointer (some ⟨by', 0, none⟩), .pointer (some ⟨bx, 0, none⟩)] w (ExtPost J ac c by' bx l xv K i 1 v b.length X St w) := by
  obtain ⟨a, cap, rfl⟩ := row.form
  subst hbc
  obtain ⟨fn, tmps, assign, body, hyy, hRR⟩ := hY i X St w _ b hi hR bed row
  have hc1 := bed.c1
  have hc2 := bed.c2
  have hmix : Try.prog.follows .mixedOrders = true := cloMixed
  refine (callsIn_wide (n := 0)).1 ?_
  refine callsIn_of_wp Try.func110 rfl trivial ?_ rfl
  simp only [Try.ntmps110, List.size_toArray, List.length_cons, List.length_nil, Nat.reduceAdd, Nat.reduceSub, Array.replicate_succ, Array.replicate_zero, List.push_toArray, List.append_toArray, List.nil_append, List.cons_append]
  gi_wp2_with (first | (refine ⟨rfl, ?_⟩; refine RoundIn.mono hRR ?_; rintro e w2 ⟨rfl, X', St', hb2, hk2⟩))
  all_goals go_ret
  all_goals exact post_of hi hk2 hb2
end
end Gv
namespace Gv
open Go Go.Proofs Go.RowKit Go.Lib Go.Shelf
attribute [local go_sem] Oper.semAt_some
set_option maxRecDepth 100000
section
variable {J : Nat → JT} {ac : Addr} {c by' bx l : Nat} {xv : Value} {rows : List (List Nat)} {K : Nat}
def exF (c m : Nat) (b : List Nat) (k : Nat) : List (List Nat) := if k ∈ b then [] else ext c m (b ++ [k])
def cnt (c m : Nat) (b : List Nat) (k : Nat) : Nat := ((List.range k).flatMap (exF c m b)).length
def LRel (J : Nat → JT) (ac : Addr) (c by' bx l : Nat) (xv : Value) (K i m : Nat) (b : List Nat) (v : Value) (X : Nat → Prop) (St : Nat → Nat → Prop) (w : World) (iv : Value) (wr : World) : Prop :=
  ∃ (k : Nat) (X' : Nat → Prop) (St' : Nat → Nat → Prop), k ≤ c ∧ iv = .int .i64 (k : Int) ∧ Went v b.length X St w X' St' wr ∧ i + cnt c m b k ≤ K ∧ Bed J ac c by' bx l xv (i + cnt c m b k) X' St' wr
theorem rel_skip {i m k : Nat} {b : List Nat} {v : Value} {X X' : Nat → Prop} {St St' : Nat → Nat → Prop} {w wr wd w1 : World} (hlt : k < c) (hs : ((List.range (k + 1)).flatMap (exF c m b)).length = ((List.range k).flatMap (exF c m b)).length + ([] : List (List Nat)).length)
    (h1 : Went v b.length X St w X' St' wr) (h2 : Went v b.length X' St' wr X' St' wd) (h3 : Went v b.length X' St' wd X' St' w1) (hcn : i + cnt c m b k ≤ K) (hb : Bed J ac c by' bx l xv (i + cnt c m b k) X' St' w1) :
    LRel J ac c by' bx l xv K i m b v X St w (.int .i64 ((k : Int) + 1)) w1 := by
  have e : cnt c m b (k + 1) = cnt c m b k := by unfold cnt; rw [hs]; rfl
  exact ⟨k + 1, X', St', by omega, by rw [Int.natCast_add]; rfl, h1.trans (h2.trans h3), by rw [e]; exact hcn, by rw [e]; exact hb⟩
theorem cnt_succ {m k : Nat} {b : List Nat} (hF : exF c m b k = ext c m (b ++ [k])) : cnt c m b (k + 1) = cnt c m b k + (ext c m (b ++ [k])).length := by
  unfold cnt
  rw [fm_succ, hF]
theorem rel_next {i m k : Nat} {b : List Nat} {v : Value} {X X3 : Nat → Prop} {St St3 : Nat → Nat → Prop} {w w3 : World} (hlt : k < c) (hF : exF c m b k = ext c m (b ++ [k])) (h1 : Went v b.length X St w X3 St3 w3)
    (h2 : i + cnt c m b k + (ext c m (b ++ [k])).length ≤ K ∧ Bed J ac c by' bx l xv (i + cnt c m b k + (ext c m (b ++ [k])).length) X3 St3 w3) : LRel J ac c by' bx l xv K i m b v X St w (.int .i64 ((k : Int) + 1)) w3 := by
  have e := cnt_succ hF
  refine ⟨k + 1, X3, St3, by omega, by rw [Int.natCast_add]; rfl, h1, by omega, ?_⟩
  rw [e, ← Nat.add_assoc]
  exact h2.2
theorem post_stop {i m k : Nat} {b : List Nat} {v : Value} {X X3 : Nat → Prop} {St St3 : Nat → Nat → Prop} {w w3 : World} (hlt : k < c) (hF : exF c m b k = ext c m (b ++ [k])) (h1 : Went v b.length X St w X3 St3 w3)
    (h2 : K < i + cnt c m b k + (ext c m (b ++ [k])).length ∧ Bed J ac c by' bx l xv (K + 1) X3 St3 w3) : ExtPost J ac c by' bx l xv K i (ext c (m + 1) b).length v b.length X St w (.returned (.bool false)) w3 := by
  have hle := fm_le (exF c m b) hlt
  rw [hF] at hle
  have htot : (ext c (m + 1) b).length = ((List.range c).flatMap (exF c m b)).length := rfl
  refine ⟨false, X3, St3, rfl, Gone.of h1, (fun h => by cases h), fun _ => ⟨?_, h2.2⟩⟩
  have := h2.1
  unfold cnt at this
  omega
set_option maxHeartbeats 8000000 in
theorem ext_succ (hab : ∀ i, Abides2 (J i)) (hxv : xv = .func (.func 110) #[] #[.pointer (some ac), .pointer (some ⟨by', 0, none⟩), .pointer (some ⟨bx, 0, none⟩)]) (hc : c ≤ 100) (m : Nat) (b : List Nat) (hbc : b.length + (m + 1) = c)
    (ih : ∀ (b : List Nat) (i : Nat) (X : Nat → Prop) (St : Nat → Nat → Prop) (w : World) (v : Value), b.length + m = c → (∀ j r, (ext c m b)[j]? = some r → rows[i + j]? = some r) → i ≤ K → Bed J ac c by' bx l xv i X St w → Row by' bx X St w v b.length (valN b) →
      Calls Try.prog 110 #[v, .pointer (some ac), .pointer (some ⟨by', 0, none⟩), .pointer (some ⟨bx, 0, none⟩)] w (ExtPost J ac c by' bx l xv K i (ext c m b).length v b.length X St w))
    (i : Nat) (X : Nat → Prop) (St : Nat → Nat → Prop) (w : World) (v : Value) (hR : ∀ j r, (ext c (m + 1) b)[j]? = some r → rows[i + j]? = some r) (hi : i ≤ K)
    (bed : Bed J ac c by' bx l xv i X St w) (row : Row by' bx X St w v b.length (valN b)) :
    Calls Try.prog 110 #[v, .pointer (some ac), .pointer (some ⟨by', 0, none⟩), .pointer (some ⟨bx, 0, none⟩)] w (ExtPost J ac c by' bx l xv K i (ext c (m + 1) b).length v b.length X St w) := by
  obtain ⟨a, cap, rfl⟩ := row.form
  have hc1 := bed.c1
  have hne : (((b.length : Nat) : Int) == (c : Int)) = false := by
    rw [beq_eq_false_iff_ne]
    omega
  have hmix : Try.prog.follows .mixedOrders = true := cloMixed
  have hv : ∀ q, (Value.slice a b.length cap).ownBlock = some q → q ≠ by' ∧ q ≠ bx := fun q hq => (row.nx q hq).2.2
  have htot : (ext c (m + 1) b).length = cnt c m b c := rfl
  refine (callsIn_wide (n := 0)).1 ?_
  refine callsIn_of_wp Try.func110 rfl trivial ?_ rfl
  simp only [Try.ntmps110, List.size_toArray, List.length_cons, List.length_nil, Nat.reduceAdd, Nat.reduceSub, Array.replicate_succ, Array.replicate_zero, List.push_toArray, List.append_toArray, List.nil_append, List.cons_append]
  gi_wp2_with fail
  gi_loopw [15] (fun iv wr => LRel J ac c by' bx l xv K i m b (.slice a b.length cap) X St w iv wr)
    (fun iv _ => c - (RowKit.intOf iv).toNat)
  case atStart => exact ⟨0, X, St, Nat.zero_le _, rfl, Went.below bed.slt (Below.refl _ _), hi, bed⟩
  case round =>
    obtain ⟨k, X', St', hk, rfl, hwt, hcn, hbed⟩ := hrel
    have hrow := row.went hwt (fun _ => Nat.le_refl _)
    have hsucc := fm_succ (exF c m b) k
    by_cases hin : k ∈ b
    · have hcon := con_step hab (by omega) k hbed hrow true (by simp [hin])
      have hF : exF c m b k = [] := if_pos hin
      rw [hF] at hsucc
      gi_wp2_with (first | (gi_at_call 74; refine ((callsIn_wide (n := 0)).2 hcon).mono ?_; rintro e w1 ⟨rfl, hb1, hr1, hw1, h3, h3a⟩) | (refine ⟨trivial, rfl, ?_⟩; refine ((callsIn_wide (n := 0)).2 hcon).mono ?_; rintro e w1 ⟨rfl, hb1, hr1, hw1, h3, h3a⟩))
      · have hlt : k < c := by omega
        exact ⟨rel_skip hlt hsucc hwt (Went.below hbed.slt (Below.refl _ _)) hw1 hcn hb1, by simp [RowKit.intOf]; omega⟩
      · have hkc : k = c := by omega
        subst hkc
        gi_wp2
        go_ret
        exact ⟨true, X', St', rfl, Gone.of hwt, fun _ => ⟨by rw [htot]; exact hcn, by rw [htot]; exact hbed⟩, fun h => by cases h⟩
    · have hcon := con_step hab (by omega) k hbed hrow false (by simp [hin])
      have hF : exF c m b k = ext c m (b ++ [k]) := if_neg hin
      gi_wp2_with (first | (gi_at_call 74; refine ((callsIn_wide (n := 0)).2 hcon).mono ?_; rintro e w1 ⟨rfl, hb1, hr1, hw1, h3, h3a⟩) | (refine ⟨trivial, rfl, ?_⟩; refine ((callsIn_wide (n := 0)).2 hcon).mono ?_; rintro e w1 ⟨rfl, hb1, hr1, hw1, h3, h3a⟩) | fail)
      · have hlt : k < c := by omega
        have hle := fm_le (exF c m b) hlt
        have hRk : ∀ j r, (ext c m (b ++ [k]))[j]? = some r → rows[(i + cnt c m b k) + j]? = some r := fun j r hj => by
          rw [Nat.add_assoc]
          exact hR _ r (fm_get (f := exF c m b) hlt (by rw [hF]; exact hj))
        have hdr : Below w1.heap.size w1 w1.drew := (Below.refl _ w1).drew
        have hbd := hb1.below hab hdr
        have hrd := hr1.went (Went.below (v := .slice a b.length cap) (n := b.length) hb1.slt hdr) (fun _ => Nat.le_refl _)
        have hal : Below w1.heap.size w1 (w1.drew.alloc (.cells #[.int .i64 (k : Int)] 3)) := hdr.alloc (Nat.le_refl _) _
        have hcl := clone_step hab (by omega) hbd hrd
        have hcl2 := clone_step hab (by omega) (hb1.below hab hal) (hr1.went (Went.below (v := .slice a b.length cap) (n := b.length) hb1.slt hal) (fun _ => Nat.le_refl _))
        have hda : (w1.drew.alloc (.cells #[.int .i64 (k : Int)] 3)).cell? ⟨bx, 0, none⟩ = some xv := (hal.cell (p := ⟨bx, 0, none⟩) (World.block_lt_of_cell? _ _ hb1.c3)).trans hb1.c3
        refine wpIn_wide.2 ?_
        go_region_law (first
          | (go_simp; go_at_call 111; refine hcl.mono ?_; rintro e w2 ⟨v1, rfl, hb2, hr2, hbel2, hge2, h32⟩; have h32a := (World.cell?_alloc_lt w2 (.cells #[.int .i64 (k : Int)] 3) _ (World.block_lt_of_cell? _ _ h32)).trans h32)
          | (go_simp; go_at_call 111; refine hcl2.mono ?_; rintro e w2 ⟨v1, rfl, hb2, hr2, hbel2, hge2, h32⟩; have h32a := (World.cell?_alloc_lt w2 (.cells #[.int .i64 (k : Int)] 3) _ (World.block_lt_of_cell? _ _ h32)).trans h32)
          | (go_simp; go_at_call 110; refine (ih (b ++ [k]) (i + cnt c m b k) X' St' w3 v2 (by simp; omega) hRk hcn hb3 hr3).mono ?_; rintro e w4 ⟨ok, X3, St3, rfl, hw4, hok, hno⟩)
          | (refine step_append_any (v := v1) (b := b) (k := k) (B := w2.heap.size) hab (by first | rfl | simp [Region.wanted, yielded]) (.tmp 23) (.tmp 25) rfl rfl rfl (World.cell?_alloc_new w2 _ _ 0) (hb2.below hab ((Below.refl _ w2).alloc (Nat.le_refl _) _)) (hr2.went (Went.below (v := .slice a b.length cap) (n := b.length) hb2.slt ((Below.refl _ w2).alloc (Nat.le_refl _) (.cells #[.int .i64 (k : Int)] 3))) (fun _ => Nat.le_refl _)) (by omega) ?_; intro v2 w3 hb3 hr3 hg3 hu3 h33;
             have hB3 : Below w1.heap.size w1 w3 := ((hdr.trans hbel2).alloc hbel2.size (.cells #[.int .i64 (k : Int)] 3)).grown hg3 (Nat.le_trans hbel2.size (by simp)) (fun q hq => hge2 q hq);
             have hU3 : ∀ q, v2.ownBlock = some q → w1.heap.size ≤ q := fun q hq => (hu3 q hq).elim (fun h => hge2 q h) (fun h => Nat.le_trans (Nat.le_trans hbel2.size (by simp)) h))
          | (refine step_append_any (v := v1) (b := b) (k := k) (B := w1.drew.heap.size) hab (by first | rfl | simp [Region.wanted, yielded]) (.tmp 23) (.tmp 25) rfl rfl rfl ((hbel2.cell (p := ⟨w1.drew.heap.size, 0, none⟩) (by simp)).trans (World.cell?_alloc_new w1.drew _ _ 0)) hb2 hr2 (by omega) ?_; intro v2 w3 hb3 hr3 hg3 hu3 h33;
             have hB3 : Below w1.heap.size w1 w3 := (hal.trans (hbel2.mono (by simp))).grown hg3 (Nat.le_trans (by simp) hbel2.size) (fun q hq => Nat.le_trans (by simp) (hge2 q hq));
             have hU3 : ∀ q, v2.ownBlock = some q → w1.heap.size ≤ q := fun q hq => (hu3 q hq).elim (fun h => Nat.le_trans (by simp) (hge2 q h)) (fun h => Nat.le_trans (Nat.le_trans (by simp) hbel2.size) h)))
        all_goals (gi_wp2_with fail)
        all_goals have hall := hwt.trans (hw1.trans (Gone.inner (v := .slice a b.length cap) (n := b.length) hB3 hb1.slt hU3 hw4))
        all_goals first
          | (have hf : ok = false := by simpa using (by assumption : (!ok) = true)
             go_ret
             exact post_stop hlt hF hall (hno hf))
          | (have hf : ok = true := by simpa using (by assumption : (!ok) = false)
             exact ⟨rel_next hlt hF hall (hok hf), by simp [RowKit.intOf]; omega⟩)
      · have hkc : k = c := by omega
        subst hkc
        gi_wp2
        go_ret
        exact ⟨true, X', St', rfl, Gone.of hwt, fun _ => ⟨by rw [htot]; exact hcn, by rw [htot]; exact hbed⟩, fun h => by cases h⟩
end
end Gv

/- Wake's iterator over all assignments, told by what it yields. -/
namespace Gv
open Go Go.Proofs Go.RowKit Go.Lib Go.Shelf
attribute [local go_sem] Oper.semAt_some
set_option maxRecDepth 100000
def ordersG (caps : List PV) : Option (Nat × List PV) := match caps with
  | [.imm [.int .i64 n] 0] => if 0 ≤ n ∧ n ≤ 8 then some ((ext n.toNat n.toNat []).length, (ext n.toNat n.toNat []).map rowP) else none
  | _ => none
theorem ext_all {J : Nat → JT} {ac : Addr} {c by' bx l : Nat} {xv : Value} {rows : List (List Nat)} {K : Nat} (hab : ∀ i, Abides2 (J i)) (hY : YOwn J ac c by' bx l xv rows K) (hxv : xv = .func (.func 110) #[] #[.pointer (some ac), .pointer (some ⟨by', 0, none⟩), .pointer (some ⟨bx, 0, none⟩)]) (hc : c ≤ 100) :
    ∀ (m : Nat) (b : List Nat) (i : Nat) (X : Nat → Prop) (St : Nat → Nat → Prop) (w : World) (v : Value), b.length + m = c → (∀ j r, (ext c m b)[j]? = some r → rows[i + j]? = some r) → i ≤ K → Bed J ac c by' bx l xv i X St w → Row by' bx X St w v b.length (valN b) →
      Calls Try.prog 110 #[v, .pointer (some ac), .pointer (some ⟨by', 0, none⟩), .pointer (some ⟨bx, 0, none⟩)] w (ExtPost J ac c by' bx l xv K i (ext c m b).length v b.length X St w)
  | 0, b, i, X, St, w, v, hbc, hR, hi, bed, row => ext_zero hab hY b (by omega) (by omega) i X St w v (hR 0 b rfl) hi bed row
  | m + 1, b, i, X, St, w, v, hbc, hR, hi, bed, row => ext_succ hab hxv hc m b hbc (fun b i X St w v h1 h2 h3 h4 h5 => ext_all hab hY hxv hc m b i X St w v h1 h2 h3 h4 h5) i X St w v hR hi bed row
theorem row_at {rows : List (List Nat)} {n i : Nat} {b : List Nat} (hi : i < n) (h : rows[i]? = some b) : [rowP b].flatMap pcells = ((((rows.map rowP).take (n * shSize [none])).drop (i * shSize [none])).take (shSize [none])) := by
  have e : shSize [none] = 1 := rfl
  rw [e, Nat.mul_one, Nat.mul_one]
  have h1 : ((rows.map rowP).take n)[i]? = some (rowP b) := by
    rw [List.getElem?_take, if_pos hi, List.getElem?_map, h]
    rfl
  have hlt := (List.getElem?_eq_some_iff.1 h1).1
  rw [List.drop_eq_getElem_cons hlt, List.take_succ_cons, List.take_zero]
  have h2 := (List.getElem?_eq_some_iff.1 h1).2
  rw [h2]
  rfl
theorem cbox {W : World} {B : Nat} {v : Value} {t : TypeId} (h : W.heap[B]? = some (.cells #[v] t (0, 0))) : W.cell? ⟨B, 0, none⟩ = some v ∧ W.frozen? ⟨B, 0, none⟩ = false := by
  constructor <;> simp [World.cell?, World.frozen?, h]
theorem cnew (W : World) (v : Value) (t : TypeId) : (W.alloc (.cells #[v] t)).cell? ⟨W.heap.size, 0, none⟩ = some v ∧ (W.alloc (.cells #[v] t)).frozen? ⟨W.heap.size, 0, none⟩ = false := cbox (World.alloc_heap_new W _)
theorem bed_zero {J : Nat → JT} {ac : Addr} {c l : Nat} {xv : Value} (hab : ∀ i, Abides2 (J i)) {X : Nat → Prop} {St : Nat → Nat → Prop} {w W : World} (hX : ∀ q, X q ↔ q < w.heap.size) (hlt : ∀ b o, St b o → b < w.heap.size) (hJ0 : J 0 X St w)
    (hs : St ac.block ac.off) (hf : ac = ⟨ac.block, ac.off, none⟩) (hc : w.cell? ac = some (.int .i64 c)) (hb : Below w.heap.size w W) (h2 : W.cell? ⟨w.heap.size, 0, none⟩ = some (.func (.yield l) #[] #[])) (h3 : W.cell? ⟨w.heap.size + 1, 0, none⟩ = some xv) :
    Bed J ac c w.heap.size (w.heap.size + 1) l xv 0 X St W := by
  refine ⟨hab 0 X St St w W none hJ0 (grownBy_below hb) (by simp) (by simp) (evo_below hlt hb fun _ _ h => h) (fun b o hs => Nat.lt_of_lt_of_le (hlt b o hs) hb.size) (fun b o hs => .inl hs), fun q hq => Nat.lt_of_lt_of_le ((hX q).1 hq) hb.size, fun b o hs => Nat.lt_of_lt_of_le (hlt b o hs) hb.size, ⟨hs, hf⟩, ?_, h2, h3, fun h => ?_, fun h => ?_⟩
  · exact (hb.cell (p := ac) (hlt _ _ hs)).trans hc
  · have := (hX _).1 h; omega
  · have := (hX _).1 h; omega
theorem own163 {J : Nat → JT} {c K l : Nat} {ad : Addr} {X : Nat → Prop} {St : Nat → Nat → Prop} {w : World} (hc8 : c ≤ 8) (hab : ∀ i, Abides2 (J i)) (hX : ∀ q, X q ↔ q < w.heap.size) (hlt : ∀ b o, St b o → b < w.heap.size)
    (hs1 : St ad.block ad.off) (had : w.cell? ad = some (.int .i64 (c : Int))) (hform : ad = ⟨ad.block, ad.off, none⟩)
    (hY : ∀ by' bx xv, YOwn J ad c by' bx l xv (ext c c []) K) (hJ0 : J 0 X St w) :
    Calls Try.prog 109 #[.func (.yield l) #[] #[], .pointer (some ad)] w fun e w' => ∃ v X' St', e = .returned v ∧ J (min (K + 1) (ext c c []).length) X' St' w' ∧ ∀ q, X' q → q < w'.heap.size := by
  obtain ⟨rows, hrows⟩ : ∃ rows, rows = ext c c [] := ⟨_, rfl⟩
  rw [← hrows] at hY ⊢
  have hbed : ∀ W : World, Below w.heap.size w W → W.cell? ⟨w.heap.size, 0, none⟩ = some (.func (.yield l) #[] #[]) → W.cell? ⟨w.heap.size + 1, 0, none⟩ = some (.func (.func 110) #[] #[.pointer (some ad), .pointer (some ⟨w.heap.size, 0, none⟩), .pointer (some ⟨w.heap.size + 1, 0, none⟩)]) →
      Bed J ad c w.heap.size (w.heap.size + 1) l (.func (.func 110) #[] #[.pointer (some ad), .pointer (some ⟨w.heap.size, 0, none⟩), .pointer (some ⟨w.heap.size + 1, 0, none⟩)]) 0 X St W := fun W hb h2 h3 => bed_zero hab hX hlt hJ0 hs1 hform had hb h2 h3
  have hrow : ∀ W : World, Row w.heap.size (w.heap.size + 1) X St W (.slice none 0 0) 0 (valN []) := fun W => ⟨World.ownsRow_nil _ _ _ _, fun q hq => by cases hq⟩
  have q0 := cnew w (.func (.yield l) #[] #[]) 175
  have q1 := cnew (w.alloc (.cells #[.func (.yield l) #[] #[]] 175)) .nilFunc 175
  rw [World.size_alloc] at q1
  obtain ⟨q1c, q1f⟩ := q1
  have hst : (store ⟨w.heap.size + 1, 0, none⟩ (.func (.func 110) #[] #[.pointer (some ad), .pointer (some ⟨w.heap.size, 0, none⟩), .pointer (some ⟨w.heap.size + 1, 0, none⟩)])).run Try.prog ((w.alloc (.cells #[.func (.yield l) #[] #[]] 175)).alloc (.cells #[.nilFunc] 175)) =
      .ok () (((w.alloc (.cells #[.func (.yield l) #[] #[]] 175)).alloc (.cells #[.nilFunc] 175)).setCell ⟨w.heap.size + 1, 0, none⟩ (.func (.func 110) #[] #[.pointer (some ad), .pointer (some ⟨w.heap.size, 0, none⟩), .pointer (some ⟨w.heap.size + 1, 0, none⟩)])) := by
    rw [run_store Try.prog _ _ _ _ rfl, q1c, q1f]
    rfl
  have q2 := cnew (w.alloc (.cells #[.func (.yield l) #[] #[]] 175)) (.func (.func 110) #[] #[.pointer (some ad), .pointer (some ⟨w.heap.size, 0, none⟩), .pointer (some ⟨w.heap.size + 1, 0, none⟩)]) 175
  rw [World.size_alloc] at q2
  have hW : Below w.heap.size w ((w.alloc (.cells #[.func (.yield l) #[] #[]] 175)).alloc (.cells #[.func (.func 110) #[] #[.pointer (some ad), .pointer (some ⟨w.heap.size, 0, none⟩), .pointer (some ⟨w.heap.size + 1, 0, none⟩)]] 175)) :=
    ((Below.refl _ w).alloc (Nat.le_refl _) _).alloc (by simp) _
  have hb1 := hbed _ hW ((World.cell?_alloc_lt _ _ _ (by simp)).trans q0.1) q2.1
  have hcall := ext_all hab (hY _ _ _) rfl (by omega) c [] 0 X St _ _ (by simp) (fun j r hj => by rw [hrows, Nat.zero_add]; exact hj) (Nat.zero_le _) hb1 (hrow _)
  clear hform hX hlt had hbed hrow hb1 hW q0 q2 hY hJ0 hs1
  go_enter Try.func109, Try.ntmps109
  go_wp2_with (go_at_call 110; refine hcall.mono ?_; rintro e w2 ⟨ok, X3, St3, rfl, hw3, hok, hno⟩)
  go_end0
  cases ok with
  | true =>
    obtain ⟨h1, h2⟩ := hok rfl
    rw [Nat.zero_add, ← hrows] at h1 h2
    refine ⟨_, X3, St3, rfl, ?_, h2.xlt⟩
    rw [Nat.min_eq_right (by omega)]
    exact h2.j
  | false =>
    obtain ⟨h1, h2⟩ := hno rfl
    rw [Nat.zero_add, ← hrows] at h1
    refine ⟨_, X3, St3, rfl, ?_, h2.xlt⟩
    rw [Nat.min_eq_left (by omega)]
    exact h2.j
theorem told163 : ToldOK Try.prog 109 [none] ordersG := by
  refine ⟨⟨Try.f109, Try.func109, by kernel_rfl, by decide⟩, fun caps N cs hg hN hcs k l J X St w vals hab hX hlt hargs hyok hJ0 => ?_⟩
  unfold ordersG at hg
  split at hg
  · rename_i n
    split at hg
    · rename_i hn
      simp only [Option.some.injEq, Prod.mk.injEq] at hg
      obtain ⟨rfl, rfl⟩ := hg
      obtain ⟨c, rfl⟩ : ∃ c : Nat, n = c := ⟨n.toNat, by omega⟩
      simp only [Int.toNat_natCast] at hyok ⊢
      simp only [PRs, PR] at hargs
      obtain ⟨_, _, rfl, ⟨ad, us, rfl, ⟨_, _, rfl, rfl, rfl⟩, hat⟩, rfl⟩ := hargs
      obtain ⟨hs1, hc1, _⟩ := hat 0 _ rfl
      have hform := add_form ad 0 (cell_spot hc1)
      have had : ad.add 0 = ad := rfl
      rw [had] at hc1 hform
      have hY : YRow J l (ext c c []) k := fun i X St w b v hi hr hj hx hs hp => by
        have hlen := (List.getElem?_eq_some_iff.1 hr).1
        exact hyok i X St w [rowP b] [v] (by omega) hj hx hs rfl (row_at (by omega) hr) ⟨_, _, rfl, hp, rfl⟩
      exact own163 (by omega) (fun i => (hab i).two) hX hlt hs1 hc1 hform (fun _ _ _ i X St w v b hi hr bed row => own_yield (fun i => (hab i).two) hY hi hr bed row) hJ0
    · cases hg
  · cases hg
end Gv
