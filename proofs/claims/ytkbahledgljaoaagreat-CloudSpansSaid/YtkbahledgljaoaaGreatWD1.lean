/- What the functions do, round by round: WD1. -/
import Derived.Test.YtkbahledgljaoaaGreatGvEnv
namespace Gv
open Go
set_option maxRecDepth 100000
def Eb_Size : List Entry := []
theorem Eb_Size_ok : ∀ e ∈ Eb_Size, EntOK env e := ent_nil
def tb_Size (_F : FnT) (p0 : Int) : Option (Int) :=
  some (if ((w64 ((0 : Int) - p0)) > p0) then (w64 ((0 : Int) - p0)) else p0)
theorem tb_Size_eq (F : FnT) (p0 : Int) : semF (callP F Eb_Size 20) s142 (loopT []) 400 a142 [PV.int .i64 p0] (fun rv => decR (RSh.one (CK.int .i64)) rv.pv) = tb_Size F p0 := by kernel_rfl
noncomputable abbrev Fb_Size (args : List PV) := Fn env 142 (RSh.one (CK.int .i64)) args
theorem Fb_Size_of  (p0 : Int) {res : (Int)} (h : tb_Size (Fn env) p0 = some res) : Fb_Size [PV.int .i64 p0] = some res :=
  fn_of Eb_Size_ok rfl rfl lo_nil ((tb_Size_eq _ _).trans h)
def Eb_trimmed : List Entry := []
theorem Eb_trimmed_ok : ∀ e ∈ Eb_trimmed, EntOK env e := ent_nil
def Tb_trimmed_0a (n0 : Nat) (c1 : List PV) (i2 : Int) : Q := ⟨(tm 21 [(0, (AV.p (PV.list n0 c1))), (3, (AV.p (PV.int .i64 i2)))]), (mm 21 [])⟩
def Xb_trimmed_0a (y : Nat × List PV × Int) : Ext × Q := (Ext.normal, ⟨(tm 21 [(0, (AV.p (PV.list y.1 y.2.1))), (3, (AV.p (PV.int .i64 y.2.2)))]), (mm 21 [])⟩)
def Ib_trimmed_0a (q : Ext × S) : Nat × List PV × Int := ((pP_list0 (pA_p (avT q.2 0))), (pP_list1 (pA_p (avT q.2 0))), (pP_int1 (pA_p (avT q.2 3))))
abbrev Yb_trimmed_0 : Type := Nat × List PV × Int
def XLb_trimmed_0 : XL Yb_trimmed_0 := .one Xb_trimmed_0a
def Ib_trimmed_0 (q : Ext × S) : Yb_trimmed_0 := (Ib_trimmed_0a q)
theorem XIb_trimmed_0a (y : Nat × List PV × Int) : Ib_trimmed_0 (xe (Xb_trimmed_0a y)) = y := rfl
theorem XIb_trimmed_0 (y : Yb_trimmed_0) : Ib_trimmed_0 (xe (XLb_trimmed_0.fn y)) = y := XIb_trimmed_0a y
noncomputable abbrev Lb_trimmed_0 : Q → Option Yb_trimmed_0 := lpO env a162.body 0 XLb_trimmed_0
noncomputable abbrev Rb_trimmed_0 : Q → Option (Ext × S) := lpR env a162.body 0
theorem Lb_trimmed_0a_of {s : Q} {y : Nat × List PV × Int} (h : Rb_trimmed_0 s = exO (Xb_trimmed_0a y)) : Lb_trimmed_0 s = some y := lpO_of Ib_trimmed_0 XIb_trimmed_0 (y := y) h
theorem Ub_trimmed : uniq ((blocksOf a162.body).map (·.1)) = true := by kernel_rfl
def Bb_trimmed_0a (_F : FnT) (N : QO) (E : EO) (_L0 : Q → Option Yb_trimmed_0) (n0 : Nat) (c1 : List PV) (i2 : Int) : Option (Ext × S) :=
  bif (decide (i2 > (0 : Int))) then
    bif (decide (((0 : Int) ≤ (w64 (i2 - (1 : Int)))) ∧ ((w64 (i2 - (1 : Int))) < (n0 : Int)))) then
      bindO (intC .i64 (c1[((Int.toNat (w64 (i2 - (1 : Int)))) * 1)]?)) fun x0 =>
      bif (x0 == (0 : Int)) then
        N (Tb_trimmed_0a n0 c1 (w64 (i2 - (1 : Int))))
      else E (Xb_trimmed_0a (n0, c1, i2))
    else none
  else E (Xb_trimmed_0a (n0, c1, i2))
theorem Bb_trimmed_0a_eq (F : FnT) (N : QO) (E : EO) (L0 : Q → Option Yb_trimmed_0) (n0 : Nat) (c1 : List PV) (i2 : Int) : semB (callP F Eb_trimmed 20) s162 (loopT [⟨0, Yb_trimmed_0, L0, XLb_trimmed_0⟩]) 400 (blkIn a162.body 0) N E (Tb_trimmed_0a n0 c1 i2) = Bb_trimmed_0a F N E L0 n0 c1 i2 := by kernel_rfl
theorem Rb_trimmed_0a_of  (n0 : Nat) (c1 : List PV) (i2 : Int) {r : Ext × S} (h : Bb_trimmed_0a (Fn env) Rb_trimmed_0 exO Lb_trimmed_0 n0 c1 i2 = some r) : Rb_trimmed_0 (Tb_trimmed_0a n0 c1 i2) = some r :=
  lp_of Eb_trimmed_ok (by kernel_rfl) (lo_cons (lpO_ok Ub_trimmed) lo_nil) (by kernel_rfl) ((Bb_trimmed_0a_eq _ _ _ _ _ _ _).trans h)
def tb_trimmed (_F : FnT) (L0 : Q → Option Yb_trimmed_0) (p0n : Nat) (p0c : List PV) : Option ((Nat) × (List PV)) :=
  bindO (L0 (Tb_trimmed_0a p0n p0c (p0n : Int))) fun y0 =>
  bif (decide (((0 : Int) ≤ y0.2.2) ∧ (y0.2.2 ≤ ((Prod.mk y0.1 y0.2.1).1 : Int)))) then
    bif (decide ((0 = (Int.toNat y0.2.2)) ∨ (((0 * 1) + (((Int.toNat y0.2.2) - 0) * 1)) ≤ (List.length y0.2.1)))) then
      some (((Int.toNat y0.2.2) - 0), (List.take (((Int.toNat y0.2.2) - 0) * 1) (List.drop 0 y0.2.1)))
    else none
  else none
theorem tb_trimmed_eq (F : FnT) (L0 : Q → Option Yb_trimmed_0) (p0n : Nat) (p0c : List PV) : semF (callP F Eb_trimmed 20) s162 (loopT [⟨0, Yb_trimmed_0, L0, XLb_trimmed_0⟩]) 400 a162 [PV.list p0n p0c] (fun rv => decR (RSh.one CK.list) rv.pv) = tb_trimmed F L0 p0n p0c := by kernel_rfl
noncomputable abbrev Fb_trimmed (args : List PV) := Fn env 162 (RSh.one CK.list) args
theorem Fb_trimmed_of  (p0n : Nat) (p0c : List PV) {res : ((Nat) × (List PV))} (h : tb_trimmed (Fn env) Lb_trimmed_0 p0n p0c = some res) : Fb_trimmed [PV.list p0n p0c] = some res :=
  fn_of Eb_trimmed_ok rfl rfl (lo_cons (lpO_ok Ub_trimmed) lo_nil) ((tb_trimmed_eq _ _ _ _).trans h)
def Eb_wideOf : List Entry := [.out 162 (RSh.one CK.list)]
theorem Eb_wideOf_ok : ∀ e ∈ Eb_wideOf, EntOK env e := (ent_out ent_nil)
def tb_wideOf (F : FnT) (p0 : Int) (p1n : Nat) (p1c : List PV) : Option ((Int) × ((Nat) × (List PV))) :=
  bindO (F 162 (RSh.one CK.list) [(PV.list p1n p1c)]) fun (y0 : ((Nat) × (List PV))) =>
  bif ((y0.1 : Int) == (0 : Int)) then
    some ((0 : Int), (y0.1, y0.2))
  else some (p0, (y0.1, y0.2))
theorem tb_wideOf_eq (F : FnT) (p0 : Int) (p1n : Nat) (p1c : List PV) : semF (callP F Eb_wideOf 20) s144 (loopT []) 400 a144 [PV.int .i64 p0, PV.list p1n p1c] (fun rv => decR (RSh.agg [(CK.int .i64), CK.list]) rv.pv) = tb_wideOf F p0 p1n p1c := by kernel_rfl
noncomputable abbrev Fb_wideOf (args : List PV) := Fn env 144 (RSh.agg [(CK.int .i64), CK.list]) args
theorem Fb_wideOf_of  (p0 : Int) (p1n : Nat) (p1c : List PV) {res : ((Int) × ((Nat) × (List PV)))} (h : tb_wideOf (Fn env) p0 p1n p1c = some res) : Fb_wideOf [PV.int .i64 p0, PV.list p1n p1c] = some res :=
  fn_of Eb_wideOf_ok rfl rfl lo_nil ((tb_wideOf_eq _ _ _ _).trans h)
def Eb_WideOf : List Entry := [.out 142 (RSh.one (CK.int .i64)), .out 144 (RSh.agg [(CK.int .i64), CK.list])]
theorem Eb_WideOf_ok : ∀ e ∈ Eb_WideOf, EntOK env e := (ent_out (ent_out ent_nil))
def Tb_WideOf_0a (i0 : Int) (i1 : Int) : Q := ⟨(tm 20 [(0, (AV.p (PV.int .i64 i0))), (2, (AV.loc 2 0)), (3, (AV.p (PV.int .i64 i1))), (4, AV.nilS)]), (mm 20 [(2, (Bk.cells true [(AV.p (PV.int .i64 (0 : Int))), AV.nilS]))])⟩
def Tb_WideOf_0b (i0 : Int) (i1 : Int) (n2 : Nat) (c3 : List PV) (n4 : Nat) : Q := ⟨(tm 20 [(0, (AV.p (PV.int .i64 i0))), (2, (AV.loc 2 0)), (3, (AV.p (PV.int .i64 i1))), (4, (AV.app 14 n2 1 c3))]), (mm 20 [(2, (Bk.cells true [(AV.p (PV.int .i64 (0 : Int))), AV.nilS])), (14, (Bk.buf n4))])⟩
def Xb_WideOf_0a (y : Int) : Ext × Q := (Ext.normal, ⟨(tm 20 [(2, (AV.loc 2 0)), (3, (AV.p (PV.int .i64 y))), (4, AV.nilS)]), (mm 20 [(2, (Bk.cells true [(AV.p (PV.int .i64 (0 : Int))), AV.nilS]))])⟩)
def Ib_WideOf_0a (q : Ext × S) : Int := (pP_int1 (pA_p (avT q.2 3)))
def Xb_WideOf_0b (y : Int × Nat × List PV × Nat) : Ext × Q := (Ext.normal, ⟨(tm 20 [(2, (AV.loc 2 0)), (3, (AV.p (PV.int .i64 y.1))), (4, (AV.app 14 y.2.1 1 y.2.2.1))]), (mm 20 [(2, (Bk.cells true [(AV.p (PV.int .i64 (0 : Int))), AV.nilS])), (14, (Bk.buf y.2.2.2))])⟩)
def Ib_WideOf_0b (q : Ext × S) : Int × Nat × List PV × Nat := ((pP_int1 (pA_p (avT q.2 3))), (pA_app1 (avT q.2 4)), (pA_app3 (avT q.2 4)), (pB_buf0 (avM q.2 14)))
abbrev Yb_WideOf_0 : Type := (Int) ⊕ ((Int × Nat × List PV × Nat))
def XLb_WideOf_0 : XL Yb_WideOf_0 := .more Xb_WideOf_0a (.one Xb_WideOf_0b)
def Ib_WideOf_0 (q : Ext × S) : Yb_WideOf_0 := bif (cA (avT q.2 4) == 1) then (Sum.inl (Ib_WideOf_0a q)) else (Sum.inr (Ib_WideOf_0b q))
theorem XIb_WideOf_0a (y : Int) : Ib_WideOf_0 (xe (Xb_WideOf_0a y)) = (Sum.inl y) := rfl
theorem XIb_WideOf_0b (y : Int × Nat × List PV × Nat) : Ib_WideOf_0 (xe (Xb_WideOf_0b y)) = (Sum.inr y) := rfl
theorem XIb_WideOf_0 (y : Yb_WideOf_0) : Ib_WideOf_0 (xe (XLb_WideOf_0.fn y)) = y := (match y with | .inl y => XIb_WideOf_0a y | .inr y => XIb_WideOf_0b y)
noncomputable abbrev Lb_WideOf_0 : Q → Option Yb_WideOf_0 := lpO env a118.body 0 XLb_WideOf_0
noncomputable abbrev Rb_WideOf_0 : Q → Option (Ext × S) := lpR env a118.body 0
theorem Lb_WideOf_0a_of {s : Q} {y : Int} (h : Rb_WideOf_0 s = exO (Xb_WideOf_0a y)) : Lb_WideOf_0 s = some (Sum.inl y) := lpO_of Ib_WideOf_0 XIb_WideOf_0 (y := (Sum.inl y)) h
theorem Lb_WideOf_0b_of {s : Q} {y : Int × Nat × List PV × Nat} (h : Rb_WideOf_0 s = exO (Xb_WideOf_0b y)) : Lb_WideOf_0 s = some (Sum.inr y) := lpO_of Ib_WideOf_0 XIb_WideOf_0 (y := (Sum.inr y)) h
theorem Ub_WideOf : uniq ((blocksOf a118.body).map (·.1)) = true := by kernel_rfl
def Bb_WideOf_0a (F : FnT) (N : QO) (E : EO) (_L0 : Q → Option Yb_WideOf_0) (i0 : Int) (i1 : Int) : Option (Ext × S) :=
  bif (i0 != (0 : Int)) then
    bindO (F 142 (RSh.one (CK.int .i64)) [(PV.int .i64 (Int.tmod i0 (1000000000 : Int)))]) fun (y0 : (Int)) =>
    N (Tb_WideOf_0b (w64 (Int.tdiv i0 (1000000000 : Int))) i1 1 [(PV.int .i64 y0)] 1)
  else E (Xb_WideOf_0a i1)
theorem Bb_WideOf_0a_eq (F : FnT) (N : QO) (E : EO) (L0 : Q → Option Yb_WideOf_0) (i0 : Int) (i1 : Int) : semB (callP F Eb_WideOf 20) s118 (loopT [⟨0, Yb_WideOf_0, L0, XLb_WideOf_0⟩]) 400 (blkIn a118.body 0) N E (Tb_WideOf_0a i0 i1) = Bb_WideOf_0a F N E L0 i0 i1 := by kernel_rfl
theorem Rb_WideOf_0a_of  (i0 : Int) (i1 : Int) {r : Ext × S} (h : Bb_WideOf_0a (Fn env) Rb_WideOf_0 exO Lb_WideOf_0 i0 i1 = some r) : Rb_WideOf_0 (Tb_WideOf_0a i0 i1) = some r :=
  lp_of Eb_WideOf_ok (by kernel_rfl) (lo_cons (lpO_ok Ub_WideOf) lo_nil) (by kernel_rfl) ((Bb_WideOf_0a_eq _ _ _ _ _ _).trans h)
def Bb_WideOf_0b (F : FnT) (N : QO) (E : EO) (_L0 : Q → Option Yb_WideOf_0) (i0 : Int) (i1 : Int) (n2 : Nat) (c3 : List PV) (n4 : Nat) : Option (Ext × S) :=
  bif (i0 != (0 : Int)) then
    bindO (F 142 (RSh.one (CK.int .i64)) [(PV.int .i64 (Int.tmod i0 (1000000000 : Int)))]) fun (y0 : (Int)) =>
    bif (decide ((n4 = n2) ∧ ((n2 + 1) ≤ big))) then
      N (Tb_WideOf_0b (w64 (Int.tdiv i0 (1000000000 : Int))) i1 (n2 + 1) (c3 ++ [(PV.int .i64 y0)]) (n2 + 1))
    else none
  else E (Xb_WideOf_0b (i1, n2, c3, n4))
theorem Bb_WideOf_0b_eq (F : FnT) (N : QO) (E : EO) (L0 : Q → Option Yb_WideOf_0) (i0 : Int) (i1 : Int) (n2 : Nat) (c3 : List PV) (n4 : Nat) : semB (callP F Eb_WideOf 20) s118 (loopT [⟨0, Yb_WideOf_0, L0, XLb_WideOf_0⟩]) 400 (blkIn a118.body 0) N E (Tb_WideOf_0b i0 i1 n2 c3 n4) = Bb_WideOf_0b F N E L0 i0 i1 n2 c3 n4 := by kernel_rfl
theorem Rb_WideOf_0b_of  (i0 : Int) (i1 : Int) (n2 : Nat) (c3 : List PV) (n4 : Nat) {r : Ext × S} (h : Bb_WideOf_0b (Fn env) Rb_WideOf_0 exO Lb_WideOf_0 i0 i1 n2 c3 n4 = some r) : Rb_WideOf_0 (Tb_WideOf_0b i0 i1 n2 c3 n4) = some r :=
  lp_of Eb_WideOf_ok (by kernel_rfl) (lo_cons (lpO_ok Ub_WideOf) lo_nil) (by kernel_rfl) ((Bb_WideOf_0b_eq _ _ _ _ _ _ _ _ _).trans h)
def tb_WideOf (F : FnT) (L0 : Q → Option Yb_WideOf_0) (p0 : Int) : Option ((Int) × ((Nat) × (List PV))) :=
  bif (decide (p0 < (0 : Int))) then
    bindO (L0 (Tb_WideOf_0a p0 (-1 : Int))) fun z =>
    Sum.elim (fun y0 =>
      bindO (F 144 (RSh.agg [(CK.int .i64), CK.list]) [(PV.int .i64 y0), (PV.list 0 [])]) fun (y1 : ((Int) × ((Nat) × (List PV)))) =>
      some (y1.1, (y1.2.1, y1.2.2))) (fun y2 =>
      bindO (F 144 (RSh.agg [(CK.int .i64), CK.list]) [(PV.int .i64 y2.1), (PV.list y2.2.1 y2.2.2.1)]) fun (y3 : ((Int) × ((Nat) × (List PV)))) =>
      some (y3.1, (y3.2.1, y3.2.2))) z
  else bindO (L0 (Tb_WideOf_0a p0 (1 : Int))) fun z =>
  Sum.elim (fun y4 =>
    bindO (F 144 (RSh.agg [(CK.int .i64), CK.list]) [(PV.int .i64 y4), (PV.list 0 [])]) fun (y5 : ((Int) × ((Nat) × (List PV)))) =>
    some (y5.1, (y5.2.1, y5.2.2))) (fun y6 =>
    bindO (F 144 (RSh.agg [(CK.int .i64), CK.list]) [(PV.int .i64 y6.1), (PV.list y6.2.1 y6.2.2.1)]) fun (y7 : ((Int) × ((Nat) × (List PV)))) =>
    some (y7.1, (y7.2.1, y7.2.2))) z
theorem tb_WideOf_eq (F : FnT) (L0 : Q → Option Yb_WideOf_0) (p0 : Int) : semF (callP F Eb_WideOf 20) s118 (loopT [⟨0, Yb_WideOf_0, L0, XLb_WideOf_0⟩]) 400 a118 [PV.int .i64 p0] (fun rv => decR (RSh.agg [(CK.int .i64), CK.list]) rv.pv) = tb_WideOf F L0 p0 := by kernel_rfl
noncomputable abbrev Fb_WideOf (args : List PV) := Fn env 118 (RSh.agg [(CK.int .i64), CK.list]) args
theorem Fb_WideOf_of  (p0 : Int) {res : ((Int) × ((Nat) × (List PV)))} (h : tb_WideOf (Fn env) Lb_WideOf_0 p0 = some res) : Fb_WideOf [PV.int .i64 p0] = some res :=
  fn_of Eb_WideOf_ok rfl rfl (lo_cons (lpO_ok Ub_WideOf) lo_nil) ((tb_WideOf_eq _ _ _).trans h)
def Eb_cmpDigits : List Entry := []
theorem Eb_cmpDigits_ok : ∀ e ∈ Eb_cmpDigits, EntOK env e := ent_nil
def Tb_cmpDigits_0a (n0 : Nat) (c1 : List PV) (n2 : Nat) (c3 : List PV) (i4 : Int) : Q := ⟨(tm 41 [(0, (AV.p (PV.list n0 c1))), (1, (AV.p (PV.list n2 c3))), (5, (AV.p (PV.int .i64 i4)))]), (mm 41 [])⟩
def Xb_cmpDigits_0a (y : Int) : Ext × Q := (Ext.ret, ⟨(tm 41 [(4, (AV.p (PV.int .i64 y)))]), (mm 41 [])⟩)
def Ib_cmpDigits_0a (q : Ext × S) : Int := (pP_int1 (pA_p (avT q.2 4)))
def Xb_cmpDigits_0b (_y : Unit) : Ext × Q := (Ext.normal, ⟨(tm 41 []), (mm 41 [])⟩)
def Ib_cmpDigits_0b (_q : Ext × S) : Unit := ()
abbrev Yb_cmpDigits_0 : Type := (Int) ⊕ ((Unit))
def XLb_cmpDigits_0 : XL Yb_cmpDigits_0 := .more Xb_cmpDigits_0a (.one Xb_cmpDigits_0b)
def Ib_cmpDigits_0 (q : Ext × S) : Yb_cmpDigits_0 := bif (cE q.1 == 2) then (Sum.inl (Ib_cmpDigits_0a q)) else (Sum.inr (Ib_cmpDigits_0b q))
theorem XIb_cmpDigits_0a (y : Int) : Ib_cmpDigits_0 (xe (Xb_cmpDigits_0a y)) = (Sum.inl y) := rfl
theorem XIb_cmpDigits_0b (y : Unit) : Ib_cmpDigits_0 (xe (Xb_cmpDigits_0b y)) = (Sum.inr y) := rfl
theorem XIb_cmpDigits_0 (y : Yb_cmpDigits_0) : Ib_cmpDigits_0 (xe (XLb_cmpDigits_0.fn y)) = y := (match y with | .inl y => XIb_cmpDigits_0a y | .inr y => XIb_cmpDigits_0b y)
noncomputable abbrev Lb_cmpDigits_0 : Q → Option Yb_cmpDigits_0 := lpO env a165.body 0 XLb_cmpDigits_0
noncomputable abbrev Rb_cmpDigits_0 : Q → Option (Ext × S) := lpR env a165.body 0
theorem Lb_cmpDigits_0a_of {s : Q} {y : Int} (h : Rb_cmpDigits_0 s = exO (Xb_cmpDigits_0a y)) : Lb_cmpDigits_0 s = some (Sum.inl y) := lpO_of Ib_cmpDigits_0 XIb_cmpDigits_0 (y := (Sum.inl y)) h
theorem Lb_cmpDigits_0b_of {s : Q} {y : Unit} (h : Rb_cmpDigits_0 s = exO (Xb_cmpDigits_0b y)) : Lb_cmpDigits_0 s = some (Sum.inr y) := lpO_of Ib_cmpDigits_0 XIb_cmpDigits_0 (y := (Sum.inr y)) h
theorem Ub_cmpDigits : uniq ((blocksOf a165.body).map (·.1)) = true := by kernel_rfl
def Bb_cmpDigits_0a (_F : FnT) (N : QO) (E : EO) (_L0 : Q → Option Yb_cmpDigits_0) (n0 : Nat) (c1 : List PV) (n2 : Nat) (c3 : List PV) (i4 : Int) : Option (Ext × S) :=
  bif (decide (i4 ≥ (0 : Int))) then
    bif (decide (((0 : Int) ≤ i4) ∧ (i4 < (n0 : Int)))) then
      bindO (intC .i64 (c1[((Int.toNat i4) * 1)]?)) fun x0 =>
      bif (decide (((0 : Int) ≤ i4) ∧ (i4 < (n2 : Int)))) then
        bindO (intC .i64 (c3[((Int.toNat i4) * 1)]?)) fun x1 =>
        bif (decide (x0 < x1)) then
          E (Xb_cmpDigits_0a (-1 : Int))
        else bif (decide (((0 : Int) ≤ i4) ∧ (i4 < (n0 : Int)))) then
          bindO (intC .i64 (c1[((Int.toNat i4) * 1)]?)) fun x2 =>
          bif (decide (((0 : Int) ≤ i4) ∧ (i4 < (n2 : Int)))) then
            bindO (intC .i64 (c3[((Int.toNat i4) * 1)]?)) fun x3 =>
            bif (decide (x2 > x3)) then
              E (Xb_cmpDigits_0a (1 : Int))
            else N (Tb_cmpDigits_0a n0 c1 n2 c3 (w64 (i4 - (1 : Int))))
          else none
        else none
      else none
    else none
  else E (Xb_cmpDigits_0b ())
theorem Bb_cmpDigits_0a_eq (F : FnT) (N : QO) (E : EO) (L0 : Q → Option Yb_cmpDigits_0) (n0 : Nat) (c1 : List PV) (n2 : Nat) (c3 : List PV) (i4 : Int) : semB (callP F Eb_cmpDigits 20) s165 (loopT [⟨0, Yb_cmpDigits_0, L0, XLb_cmpDigits_0⟩]) 400 (blkIn a165.body 0) N E (Tb_cmpDigits_0a n0 c1 n2 c3 i4) = Bb_cmpDigits_0a F N E L0 n0 c1 n2 c3 i4 := by kernel_rfl
theorem Rb_cmpDigits_0a_of  (n0 : Nat) (c1 : List PV) (n2 : Nat) (c3 : List PV) (i4 : Int) {r : Ext × S} (h : Bb_cmpDigits_0a (Fn env) Rb_cmpDigits_0 exO Lb_cmpDigits_0 n0 c1 n2 c3 i4 = some r) : Rb_cmpDigits_0 (Tb_cmpDigits_0a n0 c1 n2 c3 i4) = some r :=
  lp_of Eb_cmpDigits_ok (by kernel_rfl) (lo_cons (lpO_ok Ub_cmpDigits) lo_nil) (by kernel_rfl) ((Bb_cmpDigits_0a_eq _ _ _ _ _ _ _ _ _).trans h)
def tb_cmpDigits (_F : FnT) (L0 : Q → Option Yb_cmpDigits_0) (p0n : Nat) (p0c : List PV) (p1n : Nat) (p1c : List PV) : Option (Int) :=
  bif ((p0n : Int) != (p1n : Int)) then
    bif (decide ((p0n : Int) < (p1n : Int))) then
      some (-1 : Int)
    else some (1 : Int)
  else bindO (L0 (Tb_cmpDigits_0a p0n p0c p1n p1c (w64 ((p0n : Int) - (1 : Int))))) fun z =>
  Sum.elim (fun y0 =>
    some y0) (fun _y1 =>
    some (0 : Int)) z
theorem tb_cmpDigits_eq (F : FnT) (L0 : Q → Option Yb_cmpDigits_0) (p0n : Nat) (p0c : List PV) (p1n : Nat) (p1c : List PV) : semF (callP F Eb_cmpDigits 20) s165 (loopT [⟨0, Yb_cmpDigits_0, L0, XLb_cmpDigits_0⟩]) 400 a165 [PV.list p0n p0c, PV.list p1n p1c] (fun rv => decR (RSh.one (CK.int .i64)) rv.pv) = tb_cmpDigits F L0 p0n p0c p1n p1c := by kernel_rfl
noncomputable abbrev Fb_cmpDigits (args : List PV) := Fn env 165 (RSh.one (CK.int .i64)) args
theorem Fb_cmpDigits_of  (p0n : Nat) (p0c : List PV) (p1n : Nat) (p1c : List PV) {res : (Int)} (h : tb_cmpDigits (Fn env) Lb_cmpDigits_0 p0n p0c p1n p1c = some res) : Fb_cmpDigits [PV.list p0n p0c, PV.list p1n p1c] = some res :=
  fn_of Eb_cmpDigits_ok rfl rfl (lo_cons (lpO_ok Ub_cmpDigits) lo_nil) ((tb_cmpDigits_eq _ _ _ _ _ _).trans h)
def Eb_digit : List Entry := []
theorem Eb_digit_ok : ∀ e ∈ Eb_digit, EntOK env e := ent_nil
def tb_digit (_F : FnT) (p0n : Nat) (p0c : List PV) (p1 : Int) : Option (Int) :=
  bif (decide (p1 < (p0n : Int))) then
    bif (decide (((0 : Int) ≤ p1) ∧ (p1 < (p0n : Int)))) then
      bindO (intC .i64 (p0c[((Int.toNat p1) * 1)]?)) fun x0 =>
      some x0
    else none
  else some (0 : Int)
theorem tb_digit_eq (F : FnT) (p0n : Nat) (p0c : List PV) (p1 : Int) : semF (callP F Eb_digit 20) s182 (loopT []) 400 a182 [PV.list p0n p0c, PV.int .i64 p1] (fun rv => decR (RSh.one (CK.int .i64)) rv.pv) = tb_digit F p0n p0c p1 := by kernel_rfl
noncomputable abbrev Fb_digit (args : List PV) := Fn env 182 (RSh.one (CK.int .i64)) args
theorem Fb_digit_of  (p0n : Nat) (p0c : List PV) (p1 : Int) {res : (Int)} (h : tb_digit (Fn env) p0n p0c p1 = some res) : Fb_digit [PV.list p0n p0c, PV.int .i64 p1] = some res :=
  fn_of Eb_digit_ok rfl rfl lo_nil ((tb_digit_eq _ _ _ _).trans h)
def Eb_addDigits : List Entry := [.out 182 (RSh.one (CK.int .i64))]
theorem Eb_addDigits_ok : ∀ e ∈ Eb_addDigits, EntOK env e := (ent_out ent_nil)
def Tb_addDigits_0a (n0 : Nat) (c1 : List PV) (n2 : Nat) (c3 : List PV) : Q := ⟨(tm 42 [(0, (AV.p (PV.list n0 c1))), (1, (AV.p (PV.list n2 c3))), (5, AV.nilS), (6, (AV.p (PV.int .i64 (0 : Int)))), (7, (AV.p (PV.int .i64 (0 : Int))))]), (mm 42 [])⟩
def Tb_addDigits_0b (n0 : Nat) (c1 : List PV) (n2 : Nat) (c3 : List PV) (n4 : Nat) (c5 : List PV) (i6 : Int) (i7 : Int) (n8 : Nat) : Q := ⟨(tm 42 [(0, (AV.p (PV.list n0 c1))), (1, (AV.p (PV.list n2 c3))), (5, (AV.app 38 n4 1 c5)), (6, (AV.p (PV.int .i64 i6))), (7, (AV.p (PV.int .i64 i7)))]), (mm 42 [(38, (Bk.buf n8))])⟩
def Xb_addDigits_0a (_y : Unit) : Ext × Q := (Ext.normal, ⟨(tm 42 [(5, AV.nilS)]), (mm 42 [])⟩)
def Ib_addDigits_0a (_q : Ext × S) : Unit := ()
def Xb_addDigits_0b (y : Nat × List PV × Nat) : Ext × Q := (Ext.normal, ⟨(tm 42 [(5, (AV.app 38 y.1 1 y.2.1))]), (mm 42 [(38, (Bk.buf y.2.2))])⟩)
def Ib_addDigits_0b (q : Ext × S) : Nat × List PV × Nat := ((pA_app1 (avT q.2 5)), (pA_app3 (avT q.2 5)), (pB_buf0 (avM q.2 38)))
abbrev Yb_addDigits_0 : Type := (Unit) ⊕ ((Nat × List PV × Nat))
def XLb_addDigits_0 : XL Yb_addDigits_0 := .more Xb_addDigits_0a (.one Xb_addDigits_0b)
def Ib_addDigits_0 (q : Ext × S) : Yb_addDigits_0 := bif (cA (avT q.2 5) == 1) then (Sum.inl (Ib_addDigits_0a q)) else (Sum.inr (Ib_addDigits_0b q))
theorem XIb_addDigits_0a (y : Unit) : Ib_addDigits_0 (xe (Xb_addDigits_0a y)) = (Sum.inl y) := rfl
theorem XIb_addDigits_0b (y : Nat × List PV × Nat) : Ib_addDigits_0 (xe (Xb_addDigits_0b y)) = (Sum.inr y) := rfl
theorem XIb_addDigits_0 (y : Yb_addDigits_0) : Ib_addDigits_0 (xe (XLb_addDigits_0.fn y)) = y := (match y with | .inl y => XIb_addDigits_0a y | .inr y => XIb_addDigits_0b y)
noncomputable abbrev Lb_addDigits_0 : Q → Option Yb_addDigits_0 := lpO env a167.body 0 XLb_addDigits_0
noncomputable abbrev Rb_addDigits_0 : Q → Option (Ext × S) := lpR env a167.body 0
theorem Lb_addDigits_0a_of {s : Q} {y : Unit} (h : Rb_addDigits_0 s = exO (Xb_addDigits_0a y)) : Lb_addDigits_0 s = some (Sum.inl y) := lpO_of Ib_addDigits_0 XIb_addDigits_0 (y := (Sum.inl y)) h
theorem Lb_addDigits_0b_of {s : Q} {y : Nat × List PV × Nat} (h : Rb_addDigits_0 s = exO (Xb_addDigits_0b y)) : Lb_addDigits_0 s = some (Sum.inr y) := lpO_of Ib_addDigits_0 XIb_addDigits_0 (y := (Sum.inr y)) h
theorem Ub_addDigits : uniq ((blocksOf a167.body).map (·.1)) = true := by kernel_rfl
def Bb_addDigits_0a (F : FnT) (N : QO) (E : EO) (_L0 : Q → Option Yb_addDigits_0) (n0 : Nat) (c1 : List PV) (n2 : Nat) (c3 : List PV) : Option (Ext × S) :=
  bif (decide ((0 : Int) < (n0 : Int))) then
    bindO (F 182 (RSh.one (CK.int .i64)) [(PV.list n0 c1), (PV.int .i64 (0 : Int))]) fun (y0 : (Int)) =>
    bindO (F 182 (RSh.one (CK.int .i64)) [(PV.list n2 c3), (PV.int .i64 (0 : Int))]) fun (y1 : (Int)) =>
    N (Tb_addDigits_0b n0 c1 n2 c3 1 [(PV.int .i64 (Int.tmod (w64 ((w64 (y0 + y1)) + (0 : Int))) (1000000000 : Int)))] (w64 (Int.tdiv (w64 ((w64 (y0 + y1)) + (0 : Int))) (1000000000 : Int))) (1 : Int) 1)
  else bif (decide ((0 : Int) < (n2 : Int))) then
    bindO (F 182 (RSh.one (CK.int .i64)) [(PV.list n0 c1), (PV.int .i64 (0 : Int))]) fun (y2 : (Int)) =>
    bindO (F 182 (RSh.one (CK.int .i64)) [(PV.list n2 c3), (PV.int .i64 (0 : Int))]) fun (y3 : (Int)) =>
    N (Tb_addDigits_0b n0 c1 n2 c3 1 [(PV.int .i64 (Int.tmod (w64 ((w64 (y2 + y3)) + (0 : Int))) (1000000000 : Int)))] (w64 (Int.tdiv (w64 ((w64 (y2 + y3)) + (0 : Int))) (1000000000 : Int))) (1 : Int) 1)
  else E (Xb_addDigits_0a ())
theorem Bb_addDigits_0a_eq (F : FnT) (N : QO) (E : EO) (L0 : Q → Option Yb_addDigits_0) (n0 : Nat) (c1 : List PV) (n2 : Nat) (c3 : List PV) : semB (callP F Eb_addDigits 20) s167 (loopT [⟨0, Yb_addDigits_0, L0, XLb_addDigits_0⟩]) 400 (blkIn a167.body 0) N E (Tb_addDigits_0a n0 c1 n2 c3) = Bb_addDigits_0a F N E L0 n0 c1 n2 c3 := by kernel_rfl
theorem Rb_addDigits_0a_of  (n0 : Nat) (c1 : List PV) (n2 : Nat) (c3 : List PV) {r : Ext × S} (h : Bb_addDigits_0a (Fn env) Rb_addDigits_0 exO Lb_addDigits_0 n0 c1 n2 c3 = some r) : Rb_addDigits_0 (Tb_addDigits_0a n0 c1 n2 c3) = some r :=
  lp_of Eb_addDigits_ok (by kernel_rfl) (lo_cons (lpO_ok Ub_addDigits) lo_nil) (by kernel_rfl) ((Bb_addDigits_0a_eq _ _ _ _ _ _ _ _).trans h)
def Bb_addDigits_0b (F : FnT) (N : QO) (E : EO) (_L0 : Q → Option Yb_addDigits_0) (n0 : Nat) (c1 : List PV) (n2 : Nat) (c3 : List PV) (n4 : Nat) (c5 : List PV) (i6 : Int) (i7 : Int) (n8 : Nat) : Option (Ext × S) :=
  bif (decide (i7 < (n0 : Int))) then
    bindO (F 182 (RSh.one (CK.int .i64)) [(PV.list n0 c1), (PV.int .i64 i7)]) fun (y0 : (Int)) =>
    bindO (F 182 (RSh.one (CK.int .i64)) [(PV.list n2 c3), (PV.int .i64 i7)]) fun (y1 : (Int)) =>
    bif (decide ((n8 = n4) ∧ ((n4 + 1) ≤ big))) then
      N (Tb_addDigits_0b n0 c1 n2 c3 (n4 + 1) (c5 ++ [(PV.int .i64 (Int.tmod (w64 ((w64 (y0 + y1)) + i6)) (1000000000 : Int)))]) (w64 (Int.tdiv (w64 ((w64 (y0 + y1)) + i6)) (1000000000 : Int))) (w64 (i7 + (1 : Int))) (n4 + 1))
    else none
  else bif (decide (i7 < (n2 : Int))) then
    bindO (F 182 (RSh.one (CK.int .i64)) [(PV.list n0 c1), (PV.int .i64 i7)]) fun (y2 : (Int)) =>
    bindO (F 182 (RSh.one (CK.int .i64)) [(PV.list n2 c3), (PV.int .i64 i7)]) fun (y3 : (Int)) =>
    bif (decide ((n8 = n4) ∧ ((n4 + 1) ≤ big))) then
      N (Tb_addDigits_0b n0 c1 n2 c3 (n4 + 1) (c5 ++ [(PV.int .i64 (Int.tmod (w64 ((w64 (y2 + y3)) + i6)) (1000000000 : Int)))]) (w64 (Int.tdiv (w64 ((w64 (y2 + y3)) + i6)) (1000000000 : Int))) (w64 (i7 + (1 : Int))) (n4 + 1))
    else none
  else bif (decide (i6 > (0 : Int))) then
    bindO (F 182 (RSh.one (CK.int .i64)) [(PV.list n0 c1), (PV.int .i64 i7)]) fun (y4 : (Int)) =>
    bindO (F 182 (RSh.one (CK.int .i64)) [(PV.list n2 c3), (PV.int .i64 i7)]) fun (y5 : (Int)) =>
    bif (decide ((n8 = n4) ∧ ((n4 + 1) ≤ big))) then
      N (Tb_addDigits_0b n0 c1 n2 c3 (n4 + 1) (c5 ++ [(PV.int .i64 (Int.tmod (w64 ((w64 (y4 + y5)) + i6)) (1000000000 : Int)))]) (w64 (Int.tdiv (w64 ((w64 (y4 + y5)) + i6)) (1000000000 : Int))) (w64 (i7 + (1 : Int))) (n4 + 1))
    else none
  else E (Xb_addDigits_0b (n4, c5, n8))
theorem Bb_addDigits_0b_eq (F : FnT) (N : QO) (E : EO) (L0 : Q → Option Yb_addDigits_0) (n0 : Nat) (c1 : List PV) (n2 : Nat) (c3 : List PV) (n4 : Nat) (c5 : List PV) (i6 : Int) (i7 : Int) (n8 : Nat) : semB (callP F Eb_addDigits 20) s167 (loopT [⟨0, Yb_addDigits_0, L0, XLb_addDigits_0⟩]) 400 (blkIn a167.body 0) N E (Tb_addDigits_0b n0 c1 n2 c3 n4 c5 i6 i7 n8) = Bb_addDigits_0b F N E L0 n0 c1 n2 c3 n4 c5 i6 i7 n8 := by kernel_rfl
theorem Rb_addDigits_0b_of  (n0 : Nat) (c1 : List PV) (n2 : Nat) (c3 : List PV) (n4 : Nat) (c5 : List PV) (i6 : Int) (i7 : Int) (n8 : Nat) {r : Ext × S} (h : Bb_addDigits_0b (Fn env) Rb_addDigits_0 exO Lb_addDigits_0 n0 c1 n2 c3 n4 c5 i6 i7 n8 = some r) : Rb_addDigits_0 (Tb_addDigits_0b n0 c1 n2 c3 n4 c5 i6 i7 n8) = some r :=
  lp_of Eb_addDigits_ok (by kernel_rfl) (lo_cons (lpO_ok Ub_addDigits) lo_nil) (by kernel_rfl) ((Bb_addDigits_0b_eq _ _ _ _ _ _ _ _ _ _ _ _ _).trans h)
def tb_addDigits (_F : FnT) (L0 : Q → Option Yb_addDigits_0) (p0n : Nat) (p0c : List PV) (p1n : Nat) (p1c : List PV) : Option ((Nat) × (List PV)) :=
  bindO (L0 (Tb_addDigits_0a p0n p0c p1n p1c)) fun z =>
  Sum.elim (fun _y0 =>
    some (0, [])) (fun y1 =>
    bif (decide (y1.2.2 = y1.1)) then
      some (y1.1, y1.2.1)
    else none) z
theorem tb_addDigits_eq (F : FnT) (L0 : Q → Option Yb_addDigits_0) (p0n : Nat) (p0c : List PV) (p1n : Nat) (p1c : List PV) : semF (callP F Eb_addDigits 20) s167 (loopT [⟨0, Yb_addDigits_0, L0, XLb_addDigits_0⟩]) 400 a167 [PV.list p0n p0c, PV.list p1n p1c] (fun rv => decR (RSh.one CK.list) rv.pv) = tb_addDigits F L0 p0n p0c p1n p1c := by kernel_rfl
noncomputable abbrev Fb_addDigits (args : List PV) := Fn env 167 (RSh.one CK.list) args
theorem Fb_addDigits_of  (p0n : Nat) (p0c : List PV) (p1n : Nat) (p1c : List PV) {res : ((Nat) × (List PV))} (h : tb_addDigits (Fn env) Lb_addDigits_0 p0n p0c p1n p1c = some res) : Fb_addDigits [PV.list p0n p0c, PV.list p1n p1c] = some res :=
  fn_of Eb_addDigits_ok rfl rfl (lo_cons (lpO_ok Ub_addDigits) lo_nil) ((tb_addDigits_eq _ _ _ _ _ _).trans h)
def Eb_subDigits : List Entry := [.out 182 (RSh.one (CK.int .i64)), .out 162 (RSh.one CK.list)]
theorem Eb_subDigits_ok : ∀ e ∈ Eb_subDigits, EntOK env e := (ent_out (ent_out ent_nil))
def Tb_subDigits_0a (n0 : Nat) (c1 : List PV) (n2 : Nat) (c3 : List PV) : Q := ⟨(tm 35 [(0, (AV.p (PV.list n0 c1))), (1, (AV.p (PV.list n2 c3))), (5, AV.nilS), (6, (AV.p (PV.int .i64 (0 : Int)))), (7, (AV.p (PV.int .i64 (0 : Int))))]), (mm 35 [])⟩
def Tb_subDigits_0b (n0 : Nat) (c1 : List PV) (n2 : Nat) (c3 : List PV) (n4 : Nat) (c5 : List PV) (i6 : Int) (i7 : Int) (n8 : Nat) : Q := ⟨(tm 35 [(0, (AV.p (PV.list n0 c1))), (1, (AV.p (PV.list n2 c3))), (5, (AV.app 32 n4 1 c5)), (6, (AV.p (PV.int .i64 i6))), (7, (AV.p (PV.int .i64 i7)))]), (mm 35 [(32, (Bk.buf n8))])⟩
def Xb_subDigits_0a (_y : Unit) : Ext × Q := (Ext.normal, ⟨(tm 35 [(5, AV.nilS)]), (mm 35 [])⟩)
def Ib_subDigits_0a (_q : Ext × S) : Unit := ()
def Xb_subDigits_0b (y : Nat × List PV × Nat) : Ext × Q := (Ext.normal, ⟨(tm 35 [(5, (AV.app 32 y.1 1 y.2.1))]), (mm 35 [(32, (Bk.buf y.2.2))])⟩)
def Ib_subDigits_0b (q : Ext × S) : Nat × List PV × Nat := ((pA_app1 (avT q.2 5)), (pA_app3 (avT q.2 5)), (pB_buf0 (avM q.2 32)))
abbrev Yb_subDigits_0 : Type := (Unit) ⊕ ((Nat × List PV × Nat))
def XLb_subDigits_0 : XL Yb_subDigits_0 := .more Xb_subDigits_0a (.one Xb_subDigits_0b)
def Ib_subDigits_0 (q : Ext × S) : Yb_subDigits_0 := bif (cA (avT q.2 5) == 1) then (Sum.inl (Ib_subDigits_0a q)) else (Sum.inr (Ib_subDigits_0b q))
theorem XIb_subDigits_0a (y : Unit) : Ib_subDigits_0 (xe (Xb_subDigits_0a y)) = (Sum.inl y) := rfl
theorem XIb_subDigits_0b (y : Nat × List PV × Nat) : Ib_subDigits_0 (xe (Xb_subDigits_0b y)) = (Sum.inr y) := rfl
theorem XIb_subDigits_0 (y : Yb_subDigits_0) : Ib_subDigits_0 (xe (XLb_subDigits_0.fn y)) = y := (match y with | .inl y => XIb_subDigits_0a y | .inr y => XIb_subDigits_0b y)
noncomputable abbrev Lb_subDigits_0 : Q → Option Yb_subDigits_0 := lpO env a166.body 0 XLb_subDigits_0
noncomputable abbrev Rb_subDigits_0 : Q → Option (Ext × S) := lpR env a166.body 0
theorem Lb_subDigits_0a_of {s : Q} {y : Unit} (h : Rb_subDigits_0 s = exO (Xb_subDigits_0a y)) : Lb_subDigits_0 s = some (Sum.inl y) := lpO_of Ib_subDigits_0 XIb_subDigits_0 (y := (Sum.inl y)) h
theorem Lb_subDigits_0b_of {s : Q} {y : Nat × List PV × Nat} (h : Rb_subDigits_0 s = exO (Xb_subDigits_0b y)) : Lb_subDigits_0 s = some (Sum.inr y) := lpO_of Ib_subDigits_0 XIb_subDigits_0 (y := (Sum.inr y)) h
theorem Ub_subDigits : uniq ((blocksOf a166.body).map (·.1)) = true := by kernel_rfl
def Bb_subDigits_0a (F : FnT) (N : QO) (E : EO) (_L0 : Q → Option Yb_subDigits_0) (n0 : Nat) (c1 : List PV) (n2 : Nat) (c3 : List PV) : Option (Ext × S) :=
  bif (decide ((0 : Int) < (n0 : Int))) then
    bif (decide (((0 : Int) ≤ (0 : Int)) ∧ ((0 : Int) < (n0 : Int)))) then
      bindO (intC .i64 (c1[0]?)) fun x0 =>
      bindO (F 182 (RSh.one (CK.int .i64)) [(PV.list n2 c3), (PV.int .i64 (0 : Int))]) fun (y1 : (Int)) =>
      bif (decide ((w64 ((w64 (x0 - y1)) - (0 : Int))) < (0 : Int))) then
        N (Tb_subDigits_0b n0 c1 n2 c3 1 [(PV.int .i64 (w64 ((w64 ((w64 (x0 - y1)) - (0 : Int))) + (1000000000 : Int))))] (1 : Int) (1 : Int) 1)
      else N (Tb_subDigits_0b n0 c1 n2 c3 1 [(PV.int .i64 (w64 ((w64 (x0 - y1)) - (0 : Int))))] (0 : Int) (1 : Int) 1)
    else none
  else E (Xb_subDigits_0a ())
theorem Bb_subDigits_0a_eq (F : FnT) (N : QO) (E : EO) (L0 : Q → Option Yb_subDigits_0) (n0 : Nat) (c1 : List PV) (n2 : Nat) (c3 : List PV) : semB (callP F Eb_subDigits 20) s166 (loopT [⟨0, Yb_subDigits_0, L0, XLb_subDigits_0⟩]) 400 (blkIn a166.body 0) N E (Tb_subDigits_0a n0 c1 n2 c3) = Bb_subDigits_0a F N E L0 n0 c1 n2 c3 := by kernel_rfl
theorem Rb_subDigits_0a_of  (n0 : Nat) (c1 : List PV) (n2 : Nat) (c3 : List PV) {r : Ext × S} (h : Bb_subDigits_0a (Fn env) Rb_subDigits_0 exO Lb_subDigits_0 n0 c1 n2 c3 = some r) : Rb_subDigits_0 (Tb_subDigits_0a n0 c1 n2 c3) = some r :=
  lp_of Eb_subDigits_ok (by kernel_rfl) (lo_cons (lpO_ok Ub_subDigits) lo_nil) (by kernel_rfl) ((Bb_subDigits_0a_eq _ _ _ _ _ _ _ _).trans h)
def Bb_subDigits_0b (F : FnT) (N : QO) (E : EO) (_L0 : Q → Option Yb_subDigits_0) (n0 : Nat) (c1 : List PV) (n2 : Nat) (c3 : List PV) (n4 : Nat) (c5 : List PV) (i6 : Int) (i7 : Int) (n8 : Nat) : Option (Ext × S) :=
  bif (decide (i7 < (n0 : Int))) then
    bif (decide (((0 : Int) ≤ i7) ∧ (i7 < (n0 : Int)))) then
      bindO (intC .i64 (c1[((Int.toNat i7) * 1)]?)) fun x0 =>
      bindO (F 182 (RSh.one (CK.int .i64)) [(PV.list n2 c3), (PV.int .i64 i7)]) fun (y1 : (Int)) =>
      bif (decide ((w64 ((w64 (x0 - y1)) - i6)) < (0 : Int))) then
        bif (decide ((n8 = n4) ∧ ((n4 + 1) ≤ big))) then
          N (Tb_subDigits_0b n0 c1 n2 c3 (n4 + 1) (c5 ++ [(PV.int .i64 (w64 ((w64 ((w64 (x0 - y1)) - i6)) + (1000000000 : Int))))]) (1 : Int) (w64 (i7 + (1 : Int))) (n4 + 1))
        else none
      else bif (decide ((n8 = n4) ∧ ((n4 + 1) ≤ big))) then
        N (Tb_subDigits_0b n0 c1 n2 c3 (n4 + 1) (c5 ++ [(PV.int .i64 (w64 ((w64 (x0 - y1)) - i6)))]) (0 : Int) (w64 (i7 + (1 : Int))) (n4 + 1))
      else none
    else none
  else E (Xb_subDigits_0b (n4, c5, n8))
theorem Bb_subDigits_0b_eq (F : FnT) (N : QO) (E : EO) (L0 : Q → Option Yb_subDigits_0) (n0 : Nat) (c1 : List PV) (n2 : Nat) (c3 : List PV) (n4 : Nat) (c5 : List PV) (i6 : Int) (i7 : Int) (n8 : Nat) : semB (callP F Eb_subDigits 20) s166 (loopT [⟨0, Yb_subDigits_0, L0, XLb_subDigits_0⟩]) 400 (blkIn a166.body 0) N E (Tb_subDigits_0b n0 c1 n2 c3 n4 c5 i6 i7 n8) = Bb_subDigits_0b F N E L0 n0 c1 n2 c3 n4 c5 i6 i7 n8 := by kernel_rfl
theorem Rb_subDigits_0b_of  (n0 : Nat) (c1 : List PV) (n2 : Nat) (c3 : List PV) (n4 : Nat) (c5 : List PV) (i6 : Int) (i7 : Int) (n8 : Nat) {r : Ext × S} (h : Bb_subDigits_0b (Fn env) Rb_subDigits_0 exO Lb_subDigits_0 n0 c1 n2 c3 n4 c5 i6 i7 n8 = some r) : Rb_subDigits_0 (Tb_subDigits_0b n0 c1 n2 c3 n4 c5 i6 i7 n8) = some r :=
  lp_of Eb_subDigits_ok (by kernel_rfl) (lo_cons (lpO_ok Ub_subDigits) lo_nil) (by kernel_rfl) ((Bb_subDigits_0b_eq _ _ _ _ _ _ _ _ _ _ _ _ _).trans h)
def tb_subDigits (F : FnT) (L0 : Q → Option Yb_subDigits_0) (p0n : Nat) (p0c : List PV) (p1n : Nat) (p1c : List PV) : Option ((Nat) × (List PV)) :=
  bindO (L0 (Tb_subDigits_0a p0n p0c p1n p1c)) fun z =>
  Sum.elim (fun _y0 =>
    bindO (F 162 (RSh.one CK.list) [(PV.list 0 [])]) fun (y1 : ((Nat) × (List PV))) =>
    some (y1.1, y1.2)) (fun y2 =>
    bindO (F 162 (RSh.one CK.list) [(PV.list y2.1 y2.2.1)]) fun (y3 : ((Nat) × (List PV))) =>
    some (y3.1, y3.2)) z
theorem tb_subDigits_eq (F : FnT) (L0 : Q → Option Yb_subDigits_0) (p0n : Nat) (p0c : List PV) (p1n : Nat) (p1c : List PV) : semF (callP F Eb_subDigits 20) s166 (loopT [⟨0, Yb_subDigits_0, L0, XLb_subDigits_0⟩]) 400 a166 [PV.list p0n p0c, PV.list p1n p1c] (fun rv => decR (RSh.one CK.list) rv.pv) = tb_subDigits F L0 p0n p0c p1n p1c := by kernel_rfl
noncomputable abbrev Fb_subDigits (args : List PV) := Fn env 166 (RSh.one CK.list) args
theorem Fb_subDigits_of  (p0n : Nat) (p0c : List PV) (p1n : Nat) (p1c : List PV) {res : ((Nat) × (List PV))} (h : tb_subDigits (Fn env) Lb_subDigits_0 p0n p0c p1n p1c = some res) : Fb_subDigits [PV.list p0n p0c, PV.list p1n p1c] = some res :=
  fn_of Eb_subDigits_ok rfl rfl (lo_cons (lpO_ok Ub_subDigits) lo_nil) ((tb_subDigits_eq _ _ _ _ _ _).trans h)
def Eb_WideNeg : List Entry := []
theorem Eb_WideNeg_ok : ∀ e ∈ Eb_WideNeg, EntOK env e := ent_nil
def tb_WideNeg (_F : FnT) (p0_0 : Int) (p0_1n : Nat) (p0_1c : List PV) : Option ((Int) × ((Nat) × (List PV))) :=
  some ((w64 ((0 : Int) - p0_0)), (p0_1n, p0_1c))
theorem tb_WideNeg_eq (F : FnT) (p0_0 : Int) (p0_1n : Nat) (p0_1c : List PV) : semF (callP F Eb_WideNeg 20) s146 (loopT []) 400 a146 [PV.agg [PV.int .i64 p0_0, PV.list p0_1n p0_1c]] (fun rv => decR (RSh.agg [(CK.int .i64), CK.list]) rv.pv) = tb_WideNeg F p0_0 p0_1n p0_1c := by kernel_rfl
noncomputable abbrev Fb_WideNeg (args : List PV) := Fn env 146 (RSh.agg [(CK.int .i64), CK.list]) args
theorem Fb_WideNeg_of  (p0_0 : Int) (p0_1n : Nat) (p0_1c : List PV) {res : ((Int) × ((Nat) × (List PV)))} (h : tb_WideNeg (Fn env) p0_0 p0_1n p0_1c = some res) : Fb_WideNeg [PV.agg [PV.int .i64 p0_0, PV.list p0_1n p0_1c]] = some res :=
  fn_of Eb_WideNeg_ok rfl rfl lo_nil ((tb_WideNeg_eq _ _ _ _).trans h)
def Eb_WideAdd : List Entry := [.out 167 (RSh.one CK.list), .out 144 (RSh.agg [(CK.int .i64), CK.list]), .out 165 (RSh.one (CK.int .i64)), .out 166 (RSh.one CK.list)]
theorem Eb_WideAdd_ok : ∀ e ∈ Eb_WideAdd, EntOK env e := (ent_out (ent_out (ent_out (ent_out ent_nil))))
def tb_WideAdd (F : FnT) (p0_0 : Int) (p0_1n : Nat) (p0_1c : List PV) (p1_0 : Int) (p1_1n : Nat) (p1_1c : List PV) : Option ((Int) × ((Nat) × (List PV))) :=
  bif (p0_0 == (0 : Int)) then
    some (p1_0, (p1_1n, p1_1c))
  else bif (p1_0 == (0 : Int)) then
    some (p0_0, (p0_1n, p0_1c))
  else bif (p0_0 == p1_0) then
    bindO (F 167 (RSh.one CK.list) [(PV.list p0_1n p0_1c), (PV.list p1_1n p1_1c)]) fun (y0 : ((Nat) × (List PV))) =>
    bindO (F 144 (RSh.agg [(CK.int .i64), CK.list]) [(PV.int .i64 p0_0), (PV.list y0.1 y0.2)]) fun (y1 : ((Int) × ((Nat) × (List PV)))) =>
    some (y1.1, (y1.2.1, y1.2.2))
  else bindO (F 165 (RSh.one (CK.int .i64)) [(PV.list p0_1n p0_1c), (PV.list p1_1n p1_1c)]) fun (y2 : (Int)) =>
  bif (y2 == (0 : Int)) then
    some ((0 : Int), (0, []))
  else bif (decide (y2 > (0 : Int))) then
    bindO (F 166 (RSh.one CK.list) [(PV.list p0_1n p0_1c), (PV.list p1_1n p1_1c)]) fun (y3 : ((Nat) × (List PV))) =>
    bindO (F 144 (RSh.agg [(CK.int .i64), CK.list]) [(PV.int .i64 p0_0), (PV.list y3.1 y3.2)]) fun (y4 : ((Int) × ((Nat) × (List PV)))) =>
    some (y4.1, (y4.2.1, y4.2.2))
  else bindO (F 166 (RSh.one CK.list) [(PV.list p1_1n p1_1c), (PV.list p0_1n p0_1c)]) fun (y5 : ((Nat) × (List PV))) =>
  bindO (F 144 (RSh.agg [(CK.int .i64), CK.list]) [(PV.int .i64 p1_0), (PV.list y5.1 y5.2)]) fun (y6 : ((Int) × ((Nat) × (List PV)))) =>
  some (y6.1, (y6.2.1, y6.2.2))
theorem tb_WideAdd_eq (F : FnT) (p0_0 : Int) (p0_1n : Nat) (p0_1c : List PV) (p1_0 : Int) (p1_1n : Nat) (p1_1c : List PV) : semF (callP F Eb_WideAdd 20) s150 (loopT []) 400 a150 [PV.agg [PV.int .i64 p0_0, PV.list p0_1n p0_1c], PV.agg [PV.int .i64 p1_0, PV.list p1_1n p1_1c]] (fun rv => decR (RSh.agg [(CK.int .i64), CK.list]) rv.pv) = tb_WideAdd F p0_0 p0_1n p0_1c p1_0 p1_1n p1_1c := by kernel_rfl
noncomputable abbrev Fb_WideAdd (args : List PV) := Fn env 150 (RSh.agg [(CK.int .i64), CK.list]) args
theorem Fb_WideAdd_of  (p0_0 : Int) (p0_1n : Nat) (p0_1c : List PV) (p1_0 : Int) (p1_1n : Nat) (p1_1c : List PV) {res : ((Int) × ((Nat) × (List PV)))} (h : tb_WideAdd (Fn env) p0_0 p0_1n p0_1c p1_0 p1_1n p1_1c = some res) : Fb_WideAdd [PV.agg [PV.int .i64 p0_0, PV.list p0_1n p0_1c], PV.agg [PV.int .i64 p1_0, PV.list p1_1n p1_1c]] = some res :=
  fn_of Eb_WideAdd_ok rfl rfl lo_nil ((tb_WideAdd_eq _ _ _ _ _ _ _).trans h)
def Eb_WideSub : List Entry := [.out 146 (RSh.agg [(CK.int .i64), CK.list]), .out 150 (RSh.agg [(CK.int .i64), CK.list])]
theorem Eb_WideSub_ok : ∀ e ∈ Eb_WideSub, EntOK env e := (ent_out (ent_out ent_nil))
def tb_WideSub (F : FnT) (p0_0 : Int) (p0_1n : Nat) (p0_1c : List PV) (p1_0 : Int) (p1_1n : Nat) (p1_1c : List PV) : Option ((Int) × ((Nat) × (List PV))) :=
  bindO (F 146 (RSh.agg [(CK.int .i64), CK.list]) [(PV.agg [(PV.int .i64 p1_0), (PV.list p1_1n p1_1c)])]) fun (y0 : ((Int) × ((Nat) × (List PV)))) =>
  bindO (F 150 (RSh.agg [(CK.int .i64), CK.list]) [(PV.agg [(PV.int .i64 p0_0), (PV.list p0_1n p0_1c)]), (PV.agg [(PV.int .i64 y0.1), (PV.list y0.2.1 y0.2.2)])]) fun (y1 : ((Int) × ((Nat) × (List PV)))) =>
  some (y1.1, (y1.2.1, y1.2.2))
theorem tb_WideSub_eq (F : FnT) (p0_0 : Int) (p0_1n : Nat) (p0_1c : List PV) (p1_0 : Int) (p1_1n : Nat) (p1_1c : List PV) : semF (callP F Eb_WideSub 20) s164 (loopT []) 400 a164 [PV.agg [PV.int .i64 p0_0, PV.list p0_1n p0_1c], PV.agg [PV.int .i64 p1_0, PV.list p1_1n p1_1c]] (fun rv => decR (RSh.agg [(CK.int .i64), CK.list]) rv.pv) = tb_WideSub F p0_0 p0_1n p0_1c p1_0 p1_1n p1_1c := by kernel_rfl
noncomputable abbrev Fb_WideSub (args : List PV) := Fn env 164 (RSh.agg [(CK.int .i64), CK.list]) args
theorem Fb_WideSub_of  (p0_0 : Int) (p0_1n : Nat) (p0_1c : List PV) (p1_0 : Int) (p1_1n : Nat) (p1_1c : List PV) {res : ((Int) × ((Nat) × (List PV)))} (h : tb_WideSub (Fn env) p0_0 p0_1n p0_1c p1_0 p1_1n p1_1c = some res) : Fb_WideSub [PV.agg [PV.int .i64 p0_0, PV.list p0_1n p0_1c], PV.agg [PV.int .i64 p1_0, PV.list p1_1n p1_1c]] = some res :=
  fn_of Eb_WideSub_ok rfl rfl lo_nil ((tb_WideSub_eq _ _ _ _ _ _ _).trans h)
def Eb_WideMul : List Entry := [.out 144 (RSh.agg [(CK.int .i64), CK.list])]
theorem Eb_WideMul_ok : ∀ e ∈ Eb_WideMul, EntOK env e := (ent_out ent_nil)
def Tb_WideMul_0a (n0 : Nat) (i1 : Int) (i2 : Int) (n3 : Nat) (c4 : List PV) (i5 : Int) (n6 : Nat) (c7 : List PV) (c8 : List PV) : Q := ⟨(tm 86 [(2, (AV.loc 2 0)), (3, (AV.loc 3 0)), (4, (AV.loc 4 0)), (5, (AV.msl 18 0 n0 1)), (6, (AV.p (PV.int .i64 i1)))]), (mm 86 [(2, (Bk.cells true [(AV.p (PV.int .i64 i2)), (AV.p (PV.list n3 c4))])), (3, (Bk.cells true [(AV.p (PV.int .i64 i5)), (AV.p (PV.list n6 c7))])), (4, (Bk.cells true [(AV.p (PV.int .i64 (0 : Int))), AV.nilS])), (18, (Bk.pcs true c8))])⟩
def Xb_WideMul_0a (y : Nat × Int × Nat × List PV × Int × Nat × List PV × List PV) : Ext × Q := (Ext.normal, ⟨(tm 86 [(2, (AV.loc 2 0)), (3, (AV.loc 3 0)), (4, (AV.loc 4 0)), (5, (AV.msl 18 0 y.1 1))]), (mm 86 [(2, (Bk.cells true [(AV.p (PV.int .i64 y.2.1)), (AV.p (PV.list y.2.2.1 y.2.2.2.1))])), (3, (Bk.cells true [(AV.p (PV.int .i64 y.2.2.2.2.1)), (AV.p (PV.list y.2.2.2.2.2.1 y.2.2.2.2.2.2.1))])), (4, (Bk.cells true [(AV.p (PV.int .i64 (0 : Int))), AV.nilS])), (18, (Bk.pcs true y.2.2.2.2.2.2.2))])⟩)
def Ib_WideMul_0a (q : Ext × S) : Nat × Int × Nat × List PV × Int × Nat × List PV × List PV := ((pA_msl2 (avT q.2 5)), (pP_int1 (pA_p (hdA (pB_cells1 (avM q.2 2))))), (pP_list0 (pA_p (hdA (List.tail (pB_cells1 (avM q.2 2)))))), (pP_list1 (pA_p (hdA (List.tail (pB_cells1 (avM q.2 2)))))), (pP_int1 (pA_p (hdA (pB_cells1 (avM q.2 3))))), (pP_list0 (pA_p (hdA (List.tail (pB_cells1 (avM q.2 3)))))), (pP_list1 (pA_p (hdA (List.tail (pB_cells1 (avM q.2 3)))))), (pB_pcs1 (avM q.2 18)))
abbrev Yb_WideMul_0 : Type := Nat × Int × Nat × List PV × Int × Nat × List PV × List PV
def XLb_WideMul_0 : XL Yb_WideMul_0 := .one Xb_WideMul_0a
def Ib_WideMul_0 (q : Ext × S) : Yb_WideMul_0 := (Ib_WideMul_0a q)
theorem XIb_WideMul_0a (y : Nat × Int × Nat × List PV × Int × Nat × List PV × List PV) : Ib_WideMul_0 (xe (Xb_WideMul_0a y)) = y := (show Ib_WideMul_0 (xe (Xb_WideMul_0a y)) = (y.1, y.2.1, y.2.2.1, y.2.2.2.1, y.2.2.2.2.1, y.2.2.2.2.2.1, y.2.2.2.2.2.2.1, ((y.2.2.2.2.2.2.2.map AV.p).map pA_p)) from rfl).trans (by simp only [map_back])
theorem XIb_WideMul_0 (y : Yb_WideMul_0) : Ib_WideMul_0 (xe (XLb_WideMul_0.fn y)) = y := XIb_WideMul_0a y
noncomputable abbrev Lb_WideMul_0 : Q → Option Yb_WideMul_0 := lpO env a120.body 0 XLb_WideMul_0
noncomputable abbrev Rb_WideMul_0 : Q → Option (Ext × S) := lpR env a120.body 0
theorem Lb_WideMul_0a_of {s : Q} {y : Nat × Int × Nat × List PV × Int × Nat × List PV × List PV} (h : Rb_WideMul_0 s = exO (Xb_WideMul_0a y)) : Lb_WideMul_0 s = some y := lpO_of Ib_WideMul_0 XIb_WideMul_0 (y := y) h
def Tb_WideMul_2a (n0 : Nat) (i1 : Int) (i2 : Int) (i3 : Int) (i4 : Int) (n5 : Nat) (c6 : List PV) (i7 : Int) (n8 : Nat) (c9 : List PV) (c10 : List PV) : Q := ⟨(tm 86 [(2, (AV.loc 2 0)), (3, (AV.loc 3 0)), (4, (AV.loc 4 0)), (5, (AV.msl 18 0 n0 1)), (6, (AV.p (PV.int .i64 i1))), (7, (AV.p (PV.int .i64 i2))), (8, (AV.p (PV.int .i64 i3)))]), (mm 86 [(2, (Bk.cells true [(AV.p (PV.int .i64 i4)), (AV.p (PV.list n5 c6))])), (3, (Bk.cells true [(AV.p (PV.int .i64 i7)), (AV.p (PV.list n8 c9))])), (4, (Bk.cells true [(AV.p (PV.int .i64 (0 : Int))), AV.nilS])), (18, (Bk.pcs true c10))])⟩
def Xb_WideMul_2a (y : Nat × Int × Int × Int × Nat × List PV × Int × Nat × List PV × List PV) : Ext × Q := (Ext.normal, ⟨(tm 86 [(2, (AV.loc 2 0)), (3, (AV.loc 3 0)), (4, (AV.loc 4 0)), (5, (AV.msl 18 0 y.1 1)), (6, (AV.p (PV.int .i64 y.2.1))), (7, (AV.p (PV.int .i64 y.2.2.1)))]), (mm 86 [(2, (Bk.cells true [(AV.p (PV.int .i64 y.2.2.2.1)), (AV.p (PV.list y.2.2.2.2.1 y.2.2.2.2.2.1))])), (3, (Bk.cells true [(AV.p (PV.int .i64 y.2.2.2.2.2.2.1)), (AV.p (PV.list y.2.2.2.2.2.2.2.1 y.2.2.2.2.2.2.2.2.1))])), (4, (Bk.cells true [(AV.p (PV.int .i64 (0 : Int))), AV.nilS])), (18, (Bk.pcs true y.2.2.2.2.2.2.2.2.2))])⟩)
def Ib_WideMul_2a (q : Ext × S) : Nat × Int × Int × Int × Nat × List PV × Int × Nat × List PV × List PV := ((pA_msl2 (avT q.2 5)), (pP_int1 (pA_p (avT q.2 6))), (pP_int1 (pA_p (avT q.2 7))), (pP_int1 (pA_p (hdA (pB_cells1 (avM q.2 2))))), (pP_list0 (pA_p (hdA (List.tail (pB_cells1 (avM q.2 2)))))), (pP_list1 (pA_p (hdA (List.tail (pB_cells1 (avM q.2 2)))))), (pP_int1 (pA_p (hdA (pB_cells1 (avM q.2 3))))), (pP_list0 (pA_p (hdA (List.tail (pB_cells1 (avM q.2 3)))))), (pP_list1 (pA_p (hdA (List.tail (pB_cells1 (avM q.2 3)))))), (pB_pcs1 (avM q.2 18)))
abbrev Yb_WideMul_2 : Type := Nat × Int × Int × Int × Nat × List PV × Int × Nat × List PV × List PV
def XLb_WideMul_2 : XL Yb_WideMul_2 := .one Xb_WideMul_2a
def Ib_WideMul_2 (q : Ext × S) : Yb_WideMul_2 := (Ib_WideMul_2a q)
theorem XIb_WideMul_2a (y : Nat × Int × Int × Int × Nat × List PV × Int × Nat × List PV × List PV) : Ib_WideMul_2 (xe (Xb_WideMul_2a y)) = y := (show Ib_WideMul_2 (xe (Xb_WideMul_2a y)) = (y.1, y.2.1, y.2.2.1, y.2.2.2.1, y.2.2.2.2.1, y.2.2.2.2.2.1, y.2.2.2.2.2.2.1, y.2.2.2.2.2.2.2.1, y.2.2.2.2.2.2.2.2.1, ((y.2.2.2.2.2.2.2.2.2.map AV.p).map pA_p)) from rfl).trans (by simp only [map_back])
theorem XIb_WideMul_2 (y : Yb_WideMul_2) : Ib_WideMul_2 (xe (XLb_WideMul_2.fn y)) = y := XIb_WideMul_2a y
noncomputable abbrev Lb_WideMul_2 : Q → Option Yb_WideMul_2 := lpO env a120.body 2 XLb_WideMul_2
noncomputable abbrev Rb_WideMul_2 : Q → Option (Ext × S) := lpR env a120.body 2
theorem Lb_WideMul_2a_of {s : Q} {y : Nat × Int × Int × Int × Nat × List PV × Int × Nat × List PV × List PV} (h : Rb_WideMul_2 s = exO (Xb_WideMul_2a y)) : Lb_WideMul_2 s = some y := lpO_of Ib_WideMul_2 XIb_WideMul_2 (y := y) h
theorem Ub_WideMul : uniq ((blocksOf a120.body).map (·.1)) = true := by kernel_rfl
def Bb_WideMul_0a (_F : FnT) (N : QO) (E : EO) (_L0 : Q → Option Yb_WideMul_0) (L2 : Q → Option Yb_WideMul_2) (n0 : Nat) (i1 : Int) (i2 : Int) (n3 : Nat) (c4 : List PV) (i5 : Int) (n6 : Nat) (c7 : List PV) (c8 : List PV) : Option (Ext × S) :=
  bif (decide (i1 < (n3 : Int))) then
    bindO (L2 (Tb_WideMul_2a n0 i1 (0 : Int) (0 : Int) i2 n3 c4 i5 n6 c7 c8)) fun y0 =>
    bif (decide (((0 : Int) ≤ (w64 (y0.2.1 + (y0.2.2.2.2.2.2.2.1 : Int)))) ∧ ((w64 (y0.2.1 + (y0.2.2.2.2.2.2.2.1 : Int))) < (y0.1 : Int)))) then
      bindO (intC .i64 (y0.2.2.2.2.2.2.2.2.2[(0 + ((Int.toNat (w64 (y0.2.1 + (y0.2.2.2.2.2.2.2.1 : Int)))) * 1))]?)) fun x1 =>
      bif (decide (((0 : Int) ≤ (w64 (y0.2.1 + (y0.2.2.2.2.2.2.2.1 : Int)))) ∧ ((w64 (y0.2.1 + (y0.2.2.2.2.2.2.2.1 : Int))) < (y0.1 : Int)))) then
        bindO (Gv.overO y0.2.2.2.2.2.2.2.2.2 (0 + ((Int.toNat (w64 (y0.2.1 + (y0.2.2.2.2.2.2.2.1 : Int)))) * 1)) [(PV.int .i64 (w64 (x1 + y0.2.2.1)))]) fun x2 =>
        N (Tb_WideMul_0a y0.1 (w64 (y0.2.1 + (1 : Int))) y0.2.2.2.1 y0.2.2.2.2.1 y0.2.2.2.2.2.1 y0.2.2.2.2.2.2.1 y0.2.2.2.2.2.2.2.1 y0.2.2.2.2.2.2.2.2.1 x2)
      else none
    else none
  else E (Xb_WideMul_0a (n0, i2, n3, c4, i5, n6, c7, c8))
theorem Bb_WideMul_0a_eq (F : FnT) (N : QO) (E : EO) (L0 : Q → Option Yb_WideMul_0) (L2 : Q → Option Yb_WideMul_2) (n0 : Nat) (i1 : Int) (i2 : Int) (n3 : Nat) (c4 : List PV) (i5 : Int) (n6 : Nat) (c7 : List PV) (c8 : List PV) : semB (callP F Eb_WideMul 20) s120 (loopT [⟨0, Yb_WideMul_0, L0, XLb_WideMul_0⟩, ⟨2, Yb_WideMul_2, L2, XLb_WideMul_2⟩]) 400 (blkIn a120.body 0) N E (Tb_WideMul_0a n0 i1 i2 n3 c4 i5 n6 c7 c8) = Bb_WideMul_0a F N E L0 L2 n0 i1 i2 n3 c4 i5 n6 c7 c8 := by kernel_rfl
theorem Rb_WideMul_0a_of  (n0 : Nat) (i1 : Int) (i2 : Int) (n3 : Nat) (c4 : List PV) (i5 : Int) (n6 : Nat) (c7 : List PV) (c8 : List PV) {r : Ext × S} (h : Bb_WideMul_0a (Fn env) Rb_WideMul_0 exO Lb_WideMul_0 Lb_WideMul_2 n0 i1 i2 n3 c4 i5 n6 c7 c8 = some r) : Rb_WideMul_0 (Tb_WideMul_0a n0 i1 i2 n3 c4 i5 n6 c7 c8) = some r :=
  lp_of Eb_WideMul_ok (by kernel_rfl) (lo_cons (lpO_ok Ub_WideMul) (lo_cons (lpO_ok Ub_WideMul) lo_nil)) (by kernel_rfl) ((Bb_WideMul_0a_eq _ _ _ _ _ _ _ _ _ _ _ _ _ _).trans h)
def Bb_WideMul_2a (_F : FnT) (N : QO) (E : EO) (_L0 : Q → Option Yb_WideMul_0) (_L2 : Q → Option Yb_WideMul_2) (n0 : Nat) (i1 : Int) (i2 : Int) (i3 : Int) (i4 : Int) (n5 : Nat) (c6 : List PV) (i7 : Int) (n8 : Nat) (c9 : List PV) (c10 : List PV) : Option (Ext × S) :=
  bif (decide (i3 < (n8 : Int))) then
    bif (decide (((0 : Int) ≤ (w64 (i1 + i3))) ∧ ((w64 (i1 + i3)) < (n0 : Int)))) then
      bindO (intC .i64 (c10[(0 + ((Int.toNat (w64 (i1 + i3))) * 1))]?)) fun x0 =>
      bif (decide (((0 : Int) ≤ i1) ∧ (i1 < (n5 : Int)))) then
        bindO (intC .i64 (c6[((Int.toNat i1) * 1)]?)) fun x1 =>
        bif (decide (((0 : Int) ≤ i3) ∧ (i3 < (n8 : Int)))) then
          bindO (intC .i64 (c9[((Int.toNat i3) * 1)]?)) fun x2 =>
          bif (decide (((0 : Int) ≤ (w64 (i1 + i3))) ∧ ((w64 (i1 + i3)) < (n0 : Int)))) then
            bindO (Gv.overO c10 (0 + ((Int.toNat (w64 (i1 + i3))) * 1)) [(PV.int .i64 (Int.tmod (w64 ((w64 (x0 + (w64 (x1 * x2)))) + i2)) (1000000000 : Int)))]) fun x3 =>
            N (Tb_WideMul_2a n0 i1 (w64 (Int.tdiv (w64 ((w64 (x0 + (w64 (x1 * x2)))) + i2)) (1000000000 : Int))) (w64 (i3 + (1 : Int))) i4 n5 c6 i7 n8 c9 x3)
          else none
        else none
      else none
    else none
  else E (Xb_WideMul_2a (n0, i1, i2, i4, n5, c6, i7, n8, c9, c10))
theorem Bb_WideMul_2a_eq (F : FnT) (N : QO) (E : EO) (L0 : Q → Option Yb_WideMul_0) (L2 : Q → Option Yb_WideMul_2) (n0 : Nat) (i1 : Int) (i2 : Int) (i3 : Int) (i4 : Int) (n5 : Nat) (c6 : List PV) (i7 : Int) (n8 : Nat) (c9 : List PV) (c10 : List PV) : semB (callP F Eb_WideMul 20) s120 (loopT [⟨0, Yb_WideMul_0, L0, XLb_WideMul_0⟩, ⟨2, Yb_WideMul_2, L2, XLb_WideMul_2⟩]) 400 (blkIn a120.body 2) N E (Tb_WideMul_2a n0 i1 i2 i3 i4 n5 c6 i7 n8 c9 c10) = Bb_WideMul_2a F N E L0 L2 n0 i1 i2 i3 i4 n5 c6 i7 n8 c9 c10 := by kernel_rfl
theorem Rb_WideMul_2a_of  (n0 : Nat) (i1 : Int) (i2 : Int) (i3 : Int) (i4 : Int) (n5 : Nat) (c6 : List PV) (i7 : Int) (n8 : Nat) (c9 : List PV) (c10 : List PV) {r : Ext × S} (h : Bb_WideMul_2a (Fn env) Rb_WideMul_2 exO Lb_WideMul_0 Lb_WideMul_2 n0 i1 i2 i3 i4 n5 c6 i7 n8 c9 c10 = some r) : Rb_WideMul_2 (Tb_WideMul_2a n0 i1 i2 i3 i4 n5 c6 i7 n8 c9 c10) = some r :=
  lp_of Eb_WideMul_ok (by kernel_rfl) (lo_cons (lpO_ok Ub_WideMul) (lo_cons (lpO_ok Ub_WideMul) lo_nil)) (by kernel_rfl) ((Bb_WideMul_2a_eq _ _ _ _ _ _ _ _ _ _ _ _ _ _ _ _).trans h)
def tb_WideMul (F : FnT) (L0 : Q → Option Yb_WideMul_0) (_L2 : Q → Option Yb_WideMul_2) (p0_0 : Int) (p0_1n : Nat) (p0_1c : List PV) (p1_0 : Int) (p1_1n : Nat) (p1_1c : List PV) : Option ((Int) × ((Nat) × (List PV))) :=
  bif (decide (((w64 ((w64 ((p0_1n : Int) + (p1_1n : Int))) + (1 : Int))) = (w64 ((w64 ((p0_1n : Int) + (p1_1n : Int))) + (1 : Int)))) ∧ (((0 : Int) ≤ (w64 ((w64 ((p0_1n : Int) + (p1_1n : Int))) + (1 : Int)))) ∧ ((w64 ((w64 ((p0_1n : Int) + (p1_1n : Int))) + (1 : Int))) ≤ (big : Int))))) then
    bindO (L0 (Tb_WideMul_0a (Int.toNat (w64 ((w64 ((p0_1n : Int) + (p1_1n : Int))) + (1 : Int)))) (0 : Int) p0_0 p0_1n p0_1c p1_0 p1_1n p1_1c (rep [(PV.int .i64 (0 : Int))] (Int.toNat (w64 ((w64 ((p0_1n : Int) + (p1_1n : Int))) + (1 : Int))))))) fun y0 =>
    bif (decide ((0 + (y0.1 * 1)) ≤ (List.length y0.2.2.2.2.2.2.2))) then
      bindO (F 144 (RSh.agg [(CK.int .i64), CK.list]) [(PV.int .i64 (w64 (y0.2.1 * y0.2.2.2.2.1))), (PV.list y0.1 (List.take (y0.1 * 1) (List.drop 0 y0.2.2.2.2.2.2.2)))]) fun (y1 : ((Int) × ((Nat) × (List PV)))) =>
      some (y1.1, (y1.2.1, y1.2.2))
    else none
  else none
theorem tb_WideMul_eq (F : FnT) (L0 : Q → Option Yb_WideMul_0) (L2 : Q → Option Yb_WideMul_2) (p0_0 : Int) (p0_1n : Nat) (p0_1c : List PV) (p1_0 : Int) (p1_1n : Nat) (p1_1c : List PV) : semF (callP F Eb_WideMul 20) s120 (loopT [⟨0, Yb_WideMul_0, L0, XLb_WideMul_0⟩, ⟨2, Yb_WideMul_2, L2, XLb_WideMul_2⟩]) 400 a120 [PV.agg [PV.int .i64 p0_0, PV.list p0_1n p0_1c], PV.agg [PV.int .i64 p1_0, PV.list p1_1n p1_1c]] (fun rv => decR (RSh.agg [(CK.int .i64), CK.list]) rv.pv) = tb_WideMul F L0 L2 p0_0 p0_1n p0_1c p1_0 p1_1n p1_1c := by kernel_rfl
noncomputable abbrev Fb_WideMul (args : List PV) := Fn env 120 (RSh.agg [(CK.int .i64), CK.list]) args
theorem Fb_WideMul_of  (p0_0 : Int) (p0_1n : Nat) (p0_1c : List PV) (p1_0 : Int) (p1_1n : Nat) (p1_1c : List PV) {res : ((Int) × ((Nat) × (List PV)))} (h : tb_WideMul (Fn env) Lb_WideMul_0 Lb_WideMul_2 p0_0 p0_1n p0_1c p1_0 p1_1n p1_1c = some res) : Fb_WideMul [PV.agg [PV.int .i64 p0_0, PV.list p0_1n p0_1c], PV.agg [PV.int .i64 p1_0, PV.list p1_1n p1_1c]] = some res :=
  fn_of Eb_WideMul_ok rfl rfl (lo_cons (lpO_ok Ub_WideMul) (lo_cons (lpO_ok Ub_WideMul) lo_nil)) ((tb_WideMul_eq _ _ _ _ _ _ _ _ _).trans h)
def Eb_WideSign : List Entry := []
theorem Eb_WideSign_ok : ∀ e ∈ Eb_WideSign, EntOK env e := ent_nil
def tb_WideSign (_F : FnT) (p0_0 : Int) (_p0_1n : Nat) (_p0_1c : List PV) : Option (Int) :=
  some p0_0
theorem tb_WideSign_eq (F : FnT) (p0_0 : Int) (p0_1n : Nat) (p0_1c : List PV) : semF (callP F Eb_WideSign 20) s145 (loopT []) 400 a145 [PV.agg [PV.int .i64 p0_0, PV.list p0_1n p0_1c]] (fun rv => decR (RSh.one (CK.int .i64)) rv.pv) = tb_WideSign F p0_0 p0_1n p0_1c := by kernel_rfl
noncomputable abbrev Fb_WideSign (args : List PV) := Fn env 145 (RSh.one (CK.int .i64)) args
theorem Fb_WideSign_of  (p0_0 : Int) (p0_1n : Nat) (p0_1c : List PV) {res : (Int)} (h : tb_WideSign (Fn env) p0_0 p0_1n p0_1c = some res) : Fb_WideSign [PV.agg [PV.int .i64 p0_0, PV.list p0_1n p0_1c]] = some res :=
  fn_of Eb_WideSign_ok rfl rfl lo_nil ((tb_WideSign_eq _ _ _ _).trans h)
def Eb_WideCmp : List Entry := [.out 164 (RSh.agg [(CK.int .i64), CK.list])]
theorem Eb_WideCmp_ok : ∀ e ∈ Eb_WideCmp, EntOK env e := (ent_out ent_nil)
def tb_WideCmp (F : FnT) (p0_0 : Int) (p0_1n : Nat) (p0_1c : List PV) (p1_0 : Int) (p1_1n : Nat) (p1_1c : List PV) : Option (Int) :=
  bindO (F 164 (RSh.agg [(CK.int .i64), CK.list]) [(PV.agg [(PV.int .i64 p0_0), (PV.list p0_1n p0_1c)]), (PV.agg [(PV.int .i64 p1_0), (PV.list p1_1n p1_1c)])]) fun (y0 : ((Int) × ((Nat) × (List PV)))) =>
  some y0.1
theorem tb_WideCmp_eq (F : FnT) (p0_0 : Int) (p0_1n : Nat) (p0_1c : List PV) (p1_0 : Int) (p1_1n : Nat) (p1_1c : List PV) : semF (callP F Eb_WideCmp 20) s148 (loopT []) 400 a148 [PV.agg [PV.int .i64 p0_0, PV.list p0_1n p0_1c], PV.agg [PV.int .i64 p1_0, PV.list p1_1n p1_1c]] (fun rv => decR (RSh.one (CK.int .i64)) rv.pv) = tb_WideCmp F p0_0 p0_1n p0_1c p1_0 p1_1n p1_1c := by kernel_rfl
noncomputable abbrev Fb_WideCmp (args : List PV) := Fn env 148 (RSh.one (CK.int .i64)) args
theorem Fb_WideCmp_of  (p0_0 : Int) (p0_1n : Nat) (p0_1c : List PV) (p1_0 : Int) (p1_1n : Nat) (p1_1c : List PV) {res : (Int)} (h : tb_WideCmp (Fn env) p0_0 p0_1n p0_1c p1_0 p1_1n p1_1c = some res) : Fb_WideCmp [PV.agg [PV.int .i64 p0_0, PV.list p0_1n p0_1c], PV.agg [PV.int .i64 p1_0, PV.list p1_1n p1_1c]] = some res :=
  fn_of Eb_WideCmp_ok rfl rfl lo_nil ((tb_WideCmp_eq _ _ _ _ _ _ _).trans h)
def Eb_WideFloor : List Entry := [.out 162 (RSh.one CK.list), .out 144 (RSh.agg [(CK.int .i64), CK.list]), .out 118 (RSh.agg [(CK.int .i64), CK.list]), .out 120 (RSh.agg [(CK.int .i64), CK.list]), .out 165 (RSh.one (CK.int .i64)), .out 166 (RSh.one CK.list), .out 164 (RSh.agg [(CK.int .i64), CK.list])]
theorem Eb_WideFloor_ok : ∀ e ∈ Eb_WideFloor, EntOK env e := (ent_out (ent_out (ent_out (ent_out (ent_out (ent_out (ent_out ent_nil)))))))
def Tb_WideFloor_0a (n0 : Nat) (i1 : Int) (i2 : Int) (n3 : Nat) (c4 : List PV) (i5 : Int) (n6 : Nat) (c7 : List PV) (c8 : List PV) : Q := ⟨(tm 88 [(2, (AV.loc 2 0)), (3, (AV.loc 3 0)), (4, (AV.loc 4 0)), (5, (AV.msl 19 0 n0 1)), (6, (AV.lit 0 1 [])), (7, (AV.p (PV.int .i64 i1)))]), (mm 88 [(2, (Bk.cells true [(AV.p (PV.int .i64 i2)), (AV.p (PV.list n3 c4))])), (3, (Bk.cells true [(AV.p (PV.int .i64 i5)), (AV.p (PV.list n6 c7))])), (4, (Bk.cells true [(AV.p (PV.int .i64 (0 : Int))), AV.nilS])), (19, (Bk.pcs true c8))])⟩
def Tb_WideFloor_0b (n0 : Nat) (n1 : Nat) (c2 : List PV) (i3 : Int) (i4 : Int) (n5 : Nat) (c6 : List PV) (i7 : Int) (n8 : Nat) (c9 : List PV) (c10 : List PV) : Q := ⟨(tm 88 [(2, (AV.loc 2 0)), (3, (AV.loc 3 0)), (4, (AV.loc 4 0)), (5, (AV.msl 19 0 n0 1)), (6, (AV.p (PV.list n1 c2))), (7, (AV.p (PV.int .i64 i3)))]), (mm 88 [(2, (Bk.cells true [(AV.p (PV.int .i64 i4)), (AV.p (PV.list n5 c6))])), (3, (Bk.cells true [(AV.p (PV.int .i64 i7)), (AV.p (PV.list n8 c9))])), (4, (Bk.cells true [(AV.p (PV.int .i64 (0 : Int))), AV.nilS])), (19, (Bk.pcs true c10))])⟩
def Xb_WideFloor_0a (y : Nat × Int × Nat × List PV × Int × Nat × List PV × List PV) : Ext × Q := (Ext.normal, ⟨(tm 88 [(2, (AV.loc 2 0)), (4, (AV.loc 4 0)), (5, (AV.msl 19 0 y.1 1)), (6, (AV.lit 0 1 []))]), (mm 88 [(2, (Bk.cells true [(AV.p (PV.int .i64 y.2.1)), (AV.p (PV.list y.2.2.1 y.2.2.2.1))])), (3, (Bk.cells true [(AV.p (PV.int .i64 y.2.2.2.2.1)), (AV.p (PV.list y.2.2.2.2.2.1 y.2.2.2.2.2.2.1))])), (4, (Bk.cells true [(AV.p (PV.int .i64 (0 : Int))), AV.nilS])), (19, (Bk.pcs true y.2.2.2.2.2.2.2))])⟩)
def Ib_WideFloor_0a (q : Ext × S) : Nat × Int × Nat × List PV × Int × Nat × List PV × List PV := ((pA_msl2 (avT q.2 5)), (pP_int1 (pA_p (hdA (pB_cells1 (avM q.2 2))))), (pP_list0 (pA_p (hdA (List.tail (pB_cells1 (avM q.2 2)))))), (pP_list1 (pA_p (hdA (List.tail (pB_cells1 (avM q.2 2)))))), (pP_int1 (pA_p (hdA (pB_cells1 (avM q.2 3))))), (pP_list0 (pA_p (hdA (List.tail (pB_cells1 (avM q.2 3)))))), (pP_list1 (pA_p (hdA (List.tail (pB_cells1 (avM q.2 3)))))), (pB_pcs1 (avM q.2 19)))
def Xb_WideFloor_0b (y : Nat × Nat × List PV × Int × Nat × List PV × Int × Nat × List PV × List PV) : Ext × Q := (Ext.normal, ⟨(tm 88 [(2, (AV.loc 2 0)), (4, (AV.loc 4 0)), (5, (AV.msl 19 0 y.1 1)), (6, (AV.p (PV.list y.2.1 y.2.2.1)))]), (mm 88 [(2, (Bk.cells true [(AV.p (PV.int .i64 y.2.2.2.1)), (AV.p (PV.list y.2.2.2.2.1 y.2.2.2.2.2.1))])), (3, (Bk.cells true [(AV.p (PV.int .i64 y.2.2.2.2.2.2.1)), (AV.p (PV.list y.2.2.2.2.2.2.2.1 y.2.2.2.2.2.2.2.2.1))])), (4, (Bk.cells true [(AV.p (PV.int .i64 (0 : Int))), AV.nilS])), (19, (Bk.pcs true y.2.2.2.2.2.2.2.2.2))])⟩)
def Ib_WideFloor_0b (q : Ext × S) : Nat × Nat × List PV × Int × Nat × List PV × Int × Nat × List PV × List PV := ((pA_msl2 (avT q.2 5)), (pP_list0 (pA_p (avT q.2 6))), (pP_list1 (pA_p (avT q.2 6))), (pP_int1 (pA_p (hdA (pB_cells1 (avM q.2 2))))), (pP_list0 (pA_p (hdA (List.tail (pB_cells1 (avM q.2 2)))))), (pP_list1 (pA_p (hdA (List.tail (pB_cells1 (avM q.2 2)))))), (pP_int1 (pA_p (hdA (pB_cells1 (avM q.2 3))))), (pP_list0 (pA_p (hdA (List.tail (pB_cells1 (avM q.2 3)))))), (pP_list1 (pA_p (hdA (List.tail (pB_cells1 (avM q.2 3)))))), (pB_pcs1 (avM q.2 19)))
abbrev Yb_WideFloor_0 : Type := (Nat × Int × Nat × List PV × Int × Nat × List PV × List PV) ⊕ ((Nat × Nat × List PV × Int × Nat × List PV × Int × Nat × List PV × List PV))
def XLb_WideFloor_0 : XL Yb_WideFloor_0 := .more Xb_WideFloor_0a (.one Xb_WideFloor_0b)
def Ib_WideFloor_0 (q : Ext × S) : Yb_WideFloor_0 := bif (cA (avT q.2 6) == 4) then (Sum.inl (Ib_WideFloor_0a q)) else (Sum.inr (Ib_WideFloor_0b q))
theorem XIb_WideFloor_0a (y : Nat × Int × Nat × List PV × Int × Nat × List PV × List PV) : Ib_WideFloor_0 (xe (Xb_WideFloor_0a y)) = (Sum.inl y) := (show Ib_WideFloor_0 (xe (Xb_WideFloor_0a y)) = (Sum.inl (y.1, y.2.1, y.2.2.1, y.2.2.2.1, y.2.2.2.2.1, y.2.2.2.2.2.1, y.2.2.2.2.2.2.1, ((y.2.2.2.2.2.2.2.map AV.p).map pA_p))) from rfl).trans (by simp only [map_back])
theorem XIb_WideFloor_0b (y : Nat × Nat × List PV × Int × Nat × List PV × Int × Nat × List PV × List PV) : Ib_WideFloor_0 (xe (Xb_WideFloor_0b y)) = (Sum.inr y) := (show Ib_WideFloor_0 (xe (Xb_WideFloor_0b y)) = (Sum.inr (y.1, y.2.1, y.2.2.1, y.2.2.2.1, y.2.2.2.2.1, y.2.2.2.2.2.1, y.2.2.2.2.2.2.1, y.2.2.2.2.2.2.2.1, y.2.2.2.2.2.2.2.2.1, ((y.2.2.2.2.2.2.2.2.2.map AV.p).map pA_p))) from rfl).trans (by simp only [map_back])
theorem XIb_WideFloor_0 (y : Yb_WideFloor_0) : Ib_WideFloor_0 (xe (XLb_WideFloor_0.fn y)) = y := (match y with | .inl y => XIb_WideFloor_0a y | .inr y => XIb_WideFloor_0b y)
noncomputable abbrev Lb_WideFloor_0 : Q → Option Yb_WideFloor_0 := lpO env a149.body 0 XLb_WideFloor_0
noncomputable abbrev Rb_WideFloor_0 : Q → Option (Ext × S) := lpR env a149.body 0
theorem Lb_WideFloor_0b_of {s : Q} {y : Nat × Nat × List PV × Int × Nat × List PV × Int × Nat × List PV × List PV} (h : Rb_WideFloor_0 s = exO (Xb_WideFloor_0b y)) : Lb_WideFloor_0 s = some (Sum.inr y) := lpO_of Ib_WideFloor_0 XIb_WideFloor_0 (y := (Sum.inr y)) h
def Tb_WideFloor_2a (n0 : Nat) (n1 : Nat) (c2 : List PV) (i3 : Int) (i4 : Int) (i5 : Int) (i6 : Int) (n7 : Nat) (c8 : List PV) (i9 : Int) (n10 : Nat) (c11 : List PV) (c12 : List PV) : Q := ⟨(tm 88 [(2, (AV.loc 2 0)), (3, (AV.loc 3 0)), (4, (AV.loc 4 0)), (5, (AV.msl 19 0 n0 1)), (6, (AV.p (PV.list n1 c2))), (7, (AV.p (PV.int .i64 i3))), (8, (AV.p (PV.int .i64 i4))), (9, (AV.p (PV.int .i64 i5)))]), (mm 88 [(2, (Bk.cells true [(AV.p (PV.int .i64 i6)), (AV.p (PV.list n7 c8))])), (3, (Bk.cells true [(AV.p (PV.int .i64 i9)), (AV.p (PV.list n10 c11))])), (4, (Bk.cells true [(AV.p (PV.int .i64 (0 : Int))), AV.nilS])), (19, (Bk.pcs true c12))])⟩
def Tb_WideFloor_2b (n0 : Nat) (n1 : Nat) (c2 : List PV) (i3 : Int) (i4 : Int) (n5 : Nat) (c6 : List PV) (i7 : Int) (n8 : Nat) (c9 : List PV) (c10 : List PV) (n11 : Nat) : Q := ⟨(tm 88 [(2, (AV.loc 2 0)), (3, (AV.loc 3 0)), (4, (AV.loc 4 0)), (5, (AV.msl 19 0 n0 1)), (6, (AV.p (PV.list n1 c2))), (7, (AV.p (PV.int .i64 i3))), (8, (AV.p (PV.int .i64 (0 : Int)))), (9, (AV.p (PV.int .i64 (999999999 : Int))))]), (mm 88 [(2, (Bk.cells true [(AV.p (PV.int .i64 i4)), (AV.p (PV.list n5 c6))])), (3, (Bk.cells true [(AV.p (PV.int .i64 i7)), (AV.p (PV.list n8 c9))])), (4, (Bk.cells true [(AV.p (PV.int .i64 (0 : Int))), AV.nilS])), (19, (Bk.pcs true c10)), (36, (Bk.buf n11))])⟩
def Xb_WideFloor_2a (y : Nat × Nat × List PV × Int × Int × Int × Nat × List PV × Int × Nat × List PV × List PV) : Ext × Q := (Ext.normal, ⟨(tm 88 [(2, (AV.loc 2 0)), (3, (AV.loc 3 0)), (4, (AV.loc 4 0)), (5, (AV.msl 19 0 y.1 1)), (6, (AV.p (PV.list y.2.1 y.2.2.1))), (7, (AV.p (PV.int .i64 y.2.2.2.1))), (8, (AV.p (PV.int .i64 y.2.2.2.2.1)))]), (mm 88 [(2, (Bk.cells true [(AV.p (PV.int .i64 y.2.2.2.2.2.1)), (AV.p (PV.list y.2.2.2.2.2.2.1 y.2.2.2.2.2.2.2.1))])), (3, (Bk.cells true [(AV.p (PV.int .i64 y.2.2.2.2.2.2.2.2.1)), (AV.p (PV.list y.2.2.2.2.2.2.2.2.2.1 y.2.2.2.2.2.2.2.2.2.2.1))])), (4, (Bk.cells true [(AV.p (PV.int .i64 (0 : Int))), AV.nilS])), (19, (Bk.pcs true y.2.2.2.2.2.2.2.2.2.2.2))])⟩)
def Ib_WideFloor_2a (q : Ext × S) : Nat × Nat × List PV × Int × Int × Int × Nat × List PV × Int × Nat × List PV × List PV := ((pA_msl2 (avT q.2 5)), (pP_list0 (pA_p (avT q.2 6))), (pP_list1 (pA_p (avT q.2 6))), (pP_int1 (pA_p (avT q.2 7))), (pP_int1 (pA_p (avT q.2 8))), (pP_int1 (pA_p (hdA (pB_cells1 (avM q.2 2))))), (pP_list0 (pA_p (hdA (List.tail (pB_cells1 (avM q.2 2)))))), (pP_list1 (pA_p (hdA (List.tail (pB_cells1 (avM q.2 2)))))), (pP_int1 (pA_p (hdA (pB_cells1 (avM q.2 3))))), (pP_list0 (pA_p (hdA (List.tail (pB_cells1 (avM q.2 3)))))), (pP_list1 (pA_p (hdA (List.tail (pB_cells1 (avM q.2 3)))))), (pB_pcs1 (avM q.2 19)))
abbrev Yb_WideFloor_2 : Type := Nat × Nat × List PV × Int × Int × Int × Nat × List PV × Int × Nat × List PV × List PV
def XLb_WideFloor_2 : XL Yb_WideFloor_2 := .one Xb_WideFloor_2a
def Ib_WideFloor_2 (q : Ext × S) : Yb_WideFloor_2 := (Ib_WideFloor_2a q)
theorem XIb_WideFloor_2a (y : Nat × Nat × List PV × Int × Int × Int × Nat × List PV × Int × Nat × List PV × List PV) : Ib_WideFloor_2 (xe (Xb_WideFloor_2a y)) = y := (show Ib_WideFloor_2 (xe (Xb_WideFloor_2a y)) = (y.1, y.2.1, y.2.2.1, y.2.2.2.1, y.2.2.2.2.1, y.2.2.2.2.2.1, y.2.2.2.2.2.2.1, y.2.2.2.2.2.2.2.1, y.2.2.2.2.2.2.2.2.1, y.2.2.2.2.2.2.2.2.2.1, y.2.2.2.2.2.2.2.2.2.2.1, ((y.2.2.2.2.2.2.2.2.2.2.2.map AV.p).map pA_p)) from rfl).trans (by simp only [map_back])
theorem XIb_WideFloor_2 (y : Yb_WideFloor_2) : Ib_WideFloor_2 (xe (XLb_WideFloor_2.fn y)) = y := XIb_WideFloor_2a y
noncomputable abbrev Lb_WideFloor_2 : Q → Option Yb_WideFloor_2 := lpO env a149.body 2 XLb_WideFloor_2
noncomputable abbrev Rb_WideFloor_2 : Q → Option (Ext × S) := lpR env a149.body 2
theorem Lb_WideFloor_2a_of {s : Q} {y : Nat × Nat × List PV × Int × Int × Int × Nat × List PV × Int × Nat × List PV × List PV} (h : Rb_WideFloor_2 s = exO (Xb_WideFloor_2a y)) : Lb_WideFloor_2 s = some y := lpO_of Ib_WideFloor_2 XIb_WideFloor_2 (y := y) h
theorem Ub_WideFloor : uniq ((blocksOf a149.body).map (·.1)) = true := by kernel_rfl
def Bb_WideFloor_0a (F : FnT) (N : QO) (E : EO) (_L0 : Q → Option Yb_WideFloor_0) (L2 : Q → Option Yb_WideFloor_2) (n0 : Nat) (i1 : Int) (i2 : Int) (n3 : Nat) (c4 : List PV) (i5 : Int) (n6 : Nat) (c7 : List PV) (c8 : List PV) : Option (Ext × S) :=
  bif (decide (i1 ≥ (0 : Int))) then
    bif (decide (((0 : Int) ≤ i1) ∧ (i1 < (n3 : Int)))) then
      bindO (intC .i64 (c4[((Int.toNat i1) * 1)]?)) fun x0 =>
      bindO (F 162 (RSh.one CK.list) [(PV.list 1 [(PV.int .i64 x0)])]) fun (y1 : ((Nat) × (List PV))) =>
      bindO (L2 (Tb_WideFloor_2a n0 y1.1 y1.2 i1 (0 : Int) (999999999 : Int) i2 n3 c4 i5 n6 c7 c8)) fun y2 =>
      bif (decide (((0 : Int) ≤ y2.2.2.2.1) ∧ (y2.2.2.2.1 < (y2.1 : Int)))) then
        bindO (Gv.overO y2.2.2.2.2.2.2.2.2.2.2.2 (0 + ((Int.toNat y2.2.2.2.1) * 1)) [(PV.int .i64 y2.2.2.2.2.1)]) fun x3 =>
        bindO (F 144 (RSh.agg [(CK.int .i64), CK.list]) [(PV.int .i64 (1 : Int)), (PV.list y2.2.2.2.2.2.2.2.2.2.1 y2.2.2.2.2.2.2.2.2.2.2.1)]) fun (y4 : ((Int) × ((Nat) × (List PV)))) =>
        bindO (F 118 (RSh.agg [(CK.int .i64), CK.list]) [(PV.int .i64 y2.2.2.2.2.1)]) fun (y5 : ((Int) × ((Nat) × (List PV)))) =>
        bindO (F 120 (RSh.agg [(CK.int .i64), CK.list]) [(PV.agg [(PV.int .i64 y4.1), (PV.list y4.2.1 y4.2.2)]), (PV.agg [(PV.int .i64 y5.1), (PV.list y5.2.1 y5.2.2)])]) fun (y6 : ((Int) × ((Nat) × (List PV)))) =>
        bindO (F 166 (RSh.one CK.list) [(PV.list y2.2.1 y2.2.2.1), (PV.list y6.2.1 y6.2.2)]) fun (y7 : ((Nat) × (List PV))) =>
        N (Tb_WideFloor_0b y2.1 y7.1 y7.2 (w64 (y2.2.2.2.1 - (1 : Int))) y2.2.2.2.2.2.1 y2.2.2.2.2.2.2.1 y2.2.2.2.2.2.2.2.1 y2.2.2.2.2.2.2.2.2.1 y2.2.2.2.2.2.2.2.2.2.1 y2.2.2.2.2.2.2.2.2.2.2.1 x3)
      else none
    else none
  else E (Xb_WideFloor_0a (n0, i2, n3, c4, i5, n6, c7, c8))
theorem Bb_WideFloor_0a_eq (F : FnT) (N : QO) (E : EO) (L0 : Q → Option Yb_WideFloor_0) (L2 : Q → Option Yb_WideFloor_2) (n0 : Nat) (i1 : Int) (i2 : Int) (n3 : Nat) (c4 : List PV) (i5 : Int) (n6 : Nat) (c7 : List PV) (c8 : List PV) : semB (callP F Eb_WideFloor 20) s149 (loopT [⟨0, Yb_WideFloor_0, L0, XLb_WideFloor_0⟩, ⟨2, Yb_WideFloor_2, L2, XLb_WideFloor_2⟩]) 400 (blkIn a149.body 0) N E (Tb_WideFloor_0a n0 i1 i2 n3 c4 i5 n6 c7 c8) = Bb_WideFloor_0a F N E L0 L2 n0 i1 i2 n3 c4 i5 n6 c7 c8 := by kernel_rfl
theorem Rb_WideFloor_0a_of  (n0 : Nat) (i1 : Int) (i2 : Int) (n3 : Nat) (c4 : List PV) (i5 : Int) (n6 : Nat) (c7 : List PV) (c8 : List PV) {r : Ext × S} (h : Bb_WideFloor_0a (Fn env) Rb_WideFloor_0 exO Lb_WideFloor_0 Lb_WideFloor_2 n0 i1 i2 n3 c4 i5 n6 c7 c8 = some r) : Rb_WideFloor_0 (Tb_WideFloor_0a n0 i1 i2 n3 c4 i5 n6 c7 c8) = some r :=
  lp_of Eb_WideFloor_ok (by kernel_rfl) (lo_cons (lpO_ok Ub_WideFloor) (lo_cons (lpO_ok Ub_WideFloor) lo_nil)) (by kernel_rfl) ((Bb_WideFloor_0a_eq _ _ _ _ _ _ _ _ _ _ _ _ _ _).trans h)
def Bb_WideFloor_0b (F : FnT) (N : QO) (E : EO) (_L0 : Q → Option Yb_WideFloor_0) (L2 : Q → Option Yb_WideFloor_2) (n0 : Nat) (n1 : Nat) (c2 : List PV) (i3 : Int) (i4 : Int) (n5 : Nat) (c6 : List PV) (i7 : Int) (n8 : Nat) (c9 : List PV) (c10 : List PV) : Option (Ext × S) :=
  bif (decide (i3 ≥ (0 : Int))) then
    bif (decide (((0 : Int) ≤ i3) ∧ (i3 < (n5 : Int)))) then
      bindO (intC .i64 (c6[((Int.toNat i3) * 1)]?)) fun x0 =>
      bif (decide (n1 = 0)) then
        bindO (F 162 (RSh.one CK.list) [(PV.list 1 [(PV.int .i64 x0)])]) fun (y1 : ((Nat) × (List PV))) =>
        bindO (L2 (Tb_WideFloor_2a n0 y1.1 y1.2 i3 (0 : Int) (999999999 : Int) i4 n5 c6 i7 n8 c9 c10)) fun y2 =>
        bif (decide (((0 : Int) ≤ y2.2.2.2.1) ∧ (y2.2.2.2.1 < (y2.1 : Int)))) then
          bindO (Gv.overO y2.2.2.2.2.2.2.2.2.2.2.2 (0 + ((Int.toNat y2.2.2.2.1) * 1)) [(PV.int .i64 y2.2.2.2.2.1)]) fun x3 =>
          bindO (F 144 (RSh.agg [(CK.int .i64), CK.list]) [(PV.int .i64 (1 : Int)), (PV.list y2.2.2.2.2.2.2.2.2.2.1 y2.2.2.2.2.2.2.2.2.2.2.1)]) fun (y4 : ((Int) × ((Nat) × (List PV)))) =>
          bindO (F 118 (RSh.agg [(CK.int .i64), CK.list]) [(PV.int .i64 y2.2.2.2.2.1)]) fun (y5 : ((Int) × ((Nat) × (List PV)))) =>
          bindO (F 120 (RSh.agg [(CK.int .i64), CK.list]) [(PV.agg [(PV.int .i64 y4.1), (PV.list y4.2.1 y4.2.2)]), (PV.agg [(PV.int .i64 y5.1), (PV.list y5.2.1 y5.2.2)])]) fun (y6 : ((Int) × ((Nat) × (List PV)))) =>
          bindO (F 166 (RSh.one CK.list) [(PV.list y2.2.1 y2.2.2.1), (PV.list y6.2.1 y6.2.2)]) fun (y7 : ((Nat) × (List PV))) =>
          N (Tb_WideFloor_0b y2.1 y7.1 y7.2 (w64 (y2.2.2.2.1 - (1 : Int))) y2.2.2.2.2.2.1 y2.2.2.2.2.2.2.1 y2.2.2.2.2.2.2.2.1 y2.2.2.2.2.2.2.2.2.1 y2.2.2.2.2.2.2.2.2.2.1 y2.2.2.2.2.2.2.2.2.2.2.1 x3)
        else none
      else bif (decide ((List.length c2) = (n1 * 1))) then
        bif (decide ((1 + n1) ≤ big)) then
          bindO (F 162 (RSh.one CK.list) [(PV.list (1 + n1) ([(PV.int .i64 x0)] ++ c2))]) fun (y8 : ((Nat) × (List PV))) =>
          bindO (L2 (Tb_WideFloor_2b n0 y8.1 y8.2 i3 i4 n5 c6 i7 n8 c9 c10 (1 + n1))) fun y9 =>
          bif (decide (((0 : Int) ≤ y9.2.2.2.1) ∧ (y9.2.2.2.1 < (y9.1 : Int)))) then
            bindO (Gv.overO y9.2.2.2.2.2.2.2.2.2.2.2 (0 + ((Int.toNat y9.2.2.2.1) * 1)) [(PV.int .i64 y9.2.2.2.2.1)]) fun x10 =>
            bindO (F 144 (RSh.agg [(CK.int .i64), CK.list]) [(PV.int .i64 (1 : Int)), (PV.list y9.2.2.2.2.2.2.2.2.2.1 y9.2.2.2.2.2.2.2.2.2.2.1)]) fun (y11 : ((Int) × ((Nat) × (List PV)))) =>
            bindO (F 118 (RSh.agg [(CK.int .i64), CK.list]) [(PV.int .i64 y9.2.2.2.2.1)]) fun (y12 : ((Int) × ((Nat) × (List PV)))) =>
            bindO (F 120 (RSh.agg [(CK.int .i64), CK.list]) [(PV.agg [(PV.int .i64 y11.1), (PV.list y11.2.1 y11.2.2)]), (PV.agg [(PV.int .i64 y12.1), (PV.list y12.2.1 y12.2.2)])]) fun (y13 : ((Int) × ((Nat) × (List PV)))) =>
            bindO (F 166 (RSh.one CK.list) [(PV.list y9.2.1 y9.2.2.1), (PV.list y13.2.1 y13.2.2)]) fun (y14 : ((Nat) × (List PV))) =>
            N (Tb_WideFloor_0b y9.1 y14.1 y14.2 (w64 (y9.2.2.2.1 - (1 : Int))) y9.2.2.2.2.2.1 y9.2.2.2.2.2.2.1 y9.2.2.2.2.2.2.2.1 y9.2.2.2.2.2.2.2.2.1 y9.2.2.2.2.2.2.2.2.2.1 y9.2.2.2.2.2.2.2.2.2.2.1 x10)
          else none
        else none
      else none
    else none
  else E (Xb_WideFloor_0b (n0, n1, c2, i4, n5, c6, i7, n8, c9, c10))
theorem Bb_WideFloor_0b_eq (F : FnT) (N : QO) (E : EO) (L0 : Q → Option Yb_WideFloor_0) (L2 : Q → Option Yb_WideFloor_2) (n0 : Nat) (n1 : Nat) (c2 : List PV) (i3 : Int) (i4 : Int) (n5 : Nat) (c6 : List PV) (i7 : Int) (n8 : Nat) (c9 : List PV) (c10 : List PV) : semB (callP F Eb_WideFloor 20) s149 (loopT [⟨0, Yb_WideFloor_0, L0, XLb_WideFloor_0⟩, ⟨2, Yb_WideFloor_2, L2, XLb_WideFloor_2⟩]) 400 (blkIn a149.body 0) N E (Tb_WideFloor_0b n0 n1 c2 i3 i4 n5 c6 i7 n8 c9 c10) = Bb_WideFloor_0b F N E L0 L2 n0 n1 c2 i3 i4 n5 c6 i7 n8 c9 c10 := by kernel_rfl
theorem Rb_WideFloor_0b_of  (n0 : Nat) (n1 : Nat) (c2 : List PV) (i3 : Int) (i4 : Int) (n5 : Nat) (c6 : List PV) (i7 : Int) (n8 : Nat) (c9 : List PV) (c10 : List PV) {r : Ext × S} (h : Bb_WideFloor_0b (Fn env) Rb_WideFloor_0 exO Lb_WideFloor_0 Lb_WideFloor_2 n0 n1 c2 i3 i4 n5 c6 i7 n8 c9 c10 = some r) : Rb_WideFloor_0 (Tb_WideFloor_0b n0 n1 c2 i3 i4 n5 c6 i7 n8 c9 c10) = some r :=
  lp_of Eb_WideFloor_ok (by kernel_rfl) (lo_cons (lpO_ok Ub_WideFloor) (lo_cons (lpO_ok Ub_WideFloor) lo_nil)) (by kernel_rfl) ((Bb_WideFloor_0b_eq _ _ _ _ _ _ _ _ _ _ _ _ _ _ _ _).trans h)
def Bb_WideFloor_2a (F : FnT) (N : QO) (E : EO) (_L0 : Q → Option Yb_WideFloor_0) (_L2 : Q → Option Yb_WideFloor_2) (n0 : Nat) (n1 : Nat) (c2 : List PV) (i3 : Int) (i4 : Int) (i5 : Int) (i6 : Int) (n7 : Nat) (c8 : List PV) (i9 : Int) (n10 : Nat) (c11 : List PV) (c12 : List PV) : Option (Ext × S) :=
  bif (decide (i4 < i5)) then
    bindO (F 144 (RSh.agg [(CK.int .i64), CK.list]) [(PV.int .i64 (1 : Int)), (PV.list n10 c11)]) fun (y0 : ((Int) × ((Nat) × (List PV)))) =>
    bindO (F 118 (RSh.agg [(CK.int .i64), CK.list]) [(PV.int .i64 (w64 (Int.tdiv (w64 ((w64 (i4 + i5)) + (1 : Int))) (2 : Int))))]) fun (y1 : ((Int) × ((Nat) × (List PV)))) =>
    bindO (F 120 (RSh.agg [(CK.int .i64), CK.list]) [(PV.agg [(PV.int .i64 y0.1), (PV.list y0.2.1 y0.2.2)]), (PV.agg [(PV.int .i64 y1.1), (PV.list y1.2.1 y1.2.2)])]) fun (y2 : ((Int) × ((Nat) × (List PV)))) =>
    bindO (F 165 (RSh.one (CK.int .i64)) [(PV.list y2.2.1 y2.2.2), (PV.list n1 c2)]) fun (y3 : (Int)) =>
    bif (decide (y3 ≤ (0 : Int))) then
      N (Tb_WideFloor_2a n0 n1 c2 i3 (w64 (Int.tdiv (w64 ((w64 (i4 + i5)) + (1 : Int))) (2 : Int))) i5 i6 n7 c8 i9 n10 c11 c12)
    else N (Tb_WideFloor_2a n0 n1 c2 i3 i4 (w64 ((w64 (Int.tdiv (w64 ((w64 (i4 + i5)) + (1 : Int))) (2 : Int))) - (1 : Int))) i6 n7 c8 i9 n10 c11 c12)
  else E (Xb_WideFloor_2a (n0, n1, c2, i3, i4, i6, n7, c8, i9, n10, c11, c12))
theorem Bb_WideFloor_2a_eq (F : FnT) (N : QO) (E : EO) (L0 : Q → Option Yb_WideFloor_0) (L2 : Q → Option Yb_WideFloor_2) (n0 : Nat) (n1 : Nat) (c2 : List PV) (i3 : Int) (i4 : Int) (i5 : Int) (i6 : Int) (n7 : Nat) (c8 : List PV) (i9 : Int) (n10 : Nat) (c11 : List PV) (c12 : List PV) : semB (callP F Eb_WideFloor 20) s149 (loopT [⟨0, Yb_WideFloor_0, L0, XLb_WideFloor_0⟩, ⟨2, Yb_WideFloor_2, L2, XLb_WideFloor_2⟩]) 400 (blkIn a149.body 2) N E (Tb_WideFloor_2a n0 n1 c2 i3 i4 i5 i6 n7 c8 i9 n10 c11 c12) = Bb_WideFloor_2a F N E L0 L2 n0 n1 c2 i3 i4 i5 i6 n7 c8 i9 n10 c11 c12 := by kernel_rfl
theorem Rb_WideFloor_2a_of  (n0 : Nat) (n1 : Nat) (c2 : List PV) (i3 : Int) (i4 : Int) (i5 : Int) (i6 : Int) (n7 : Nat) (c8 : List PV) (i9 : Int) (n10 : Nat) (c11 : List PV) (c12 : List PV) {r : Ext × S} (h : Bb_WideFloor_2a (Fn env) Rb_WideFloor_2 exO Lb_WideFloor_0 Lb_WideFloor_2 n0 n1 c2 i3 i4 i5 i6 n7 c8 i9 n10 c11 c12 = some r) : Rb_WideFloor_2 (Tb_WideFloor_2a n0 n1 c2 i3 i4 i5 i6 n7 c8 i9 n10 c11 c12) = some r :=
  lp_of Eb_WideFloor_ok (by kernel_rfl) (lo_cons (lpO_ok Ub_WideFloor) (lo_cons (lpO_ok Ub_WideFloor) lo_nil)) (by kernel_rfl) ((Bb_WideFloor_2a_eq _ _ _ _ _ _ _ _ _ _ _ _ _ _ _ _ _ _).trans h)
def Bb_WideFloor_2b (F : FnT) (N : QO) (_E : EO) (_L0 : Q → Option Yb_WideFloor_0) (_L2 : Q → Option Yb_WideFloor_2) (n0 : Nat) (n1 : Nat) (c2 : List PV) (i3 : Int) (i4 : Int) (n5 : Nat) (c6 : List PV) (i7 : Int) (n8 : Nat) (c9 : List PV) (c10 : List PV) (_n11 : Nat) : Option (Ext × S) :=
  bindO (F 144 (RSh.agg [(CK.int .i64), CK.list]) [(PV.int .i64 (1 : Int)), (PV.list n8 c9)]) fun (y0 : ((Int) × ((Nat) × (List PV)))) =>
  bindO (F 118 (RSh.agg [(CK.int .i64), CK.list]) [(PV.int .i64 (500000000 : Int))]) fun (y1 : ((Int) × ((Nat) × (List PV)))) =>
  bindO (F 120 (RSh.agg [(CK.int .i64), CK.list]) [(PV.agg [(PV.int .i64 y0.1), (PV.list y0.2.1 y0.2.2)]), (PV.agg [(PV.int .i64 y1.1), (PV.list y1.2.1 y1.2.2)])]) fun (y2 : ((Int) × ((Nat) × (List PV)))) =>
  bindO (F 165 (RSh.one (CK.int .i64)) [(PV.list y2.2.1 y2.2.2), (PV.list n1 c2)]) fun (y3 : (Int)) =>
  bif (decide (y3 ≤ (0 : Int))) then
    N (Tb_WideFloor_2a n0 n1 c2 i3 (500000000 : Int) (999999999 : Int) i4 n5 c6 i7 n8 c9 c10)
  else N (Tb_WideFloor_2a n0 n1 c2 i3 (0 : Int) (499999999 : Int) i4 n5 c6 i7 n8 c9 c10)
theorem Bb_WideFloor_2b_eq (F : FnT) (N : QO) (E : EO) (L0 : Q → Option Yb_WideFloor_0) (L2 : Q → Option Yb_WideFloor_2) (n0 : Nat) (n1 : Nat) (c2 : List PV) (i3 : Int) (i4 : Int) (n5 : Nat) (c6 : List PV) (i7 : Int) (n8 : Nat) (c9 : List PV) (c10 : List PV) (n11 : Nat) : semB (callP F Eb_WideFloor 20) s149 (loopT [⟨0, Yb_WideFloor_0, L0, XLb_WideFloor_0⟩, ⟨2, Yb_WideFloor_2, L2, XLb_WideFloor_2⟩]) 400 (blkIn a149.body 2) N E (Tb_WideFloor_2b n0 n1 c2 i3 i4 n5 c6 i7 n8 c9 c10 n11) = Bb_WideFloor_2b F N E L0 L2 n0 n1 c2 i3 i4 n5 c6 i7 n8 c9 c10 n11 := by kernel_rfl
theorem Rb_WideFloor_2b_of  (n0 : Nat) (n1 : Nat) (c2 : List PV) (i3 : Int) (i4 : Int) (n5 : Nat) (c6 : List PV) (i7 : Int) (n8 : Nat) (c9 : List PV) (c10 : List PV) (n11 : Nat) {r : Ext × S} (h : Bb_WideFloor_2b (Fn env) Rb_WideFloor_2 exO Lb_WideFloor_0 Lb_WideFloor_2 n0 n1 c2 i3 i4 n5 c6 i7 n8 c9 c10 n11 = some r) : Rb_WideFloor_2 (Tb_WideFloor_2b n0 n1 c2 i3 i4 n5 c6 i7 n8 c9 c10 n11) = some r :=
  lp_of Eb_WideFloor_ok (by kernel_rfl) (lo_cons (lpO_ok Ub_WideFloor) (lo_cons (lpO_ok Ub_WideFloor) lo_nil)) (by kernel_rfl) ((Bb_WideFloor_2b_eq _ _ _ _ _ _ _ _ _ _ _ _ _ _ _ _ _).trans h)
def tb_WideFloor (F : FnT) (L0 : Q → Option Yb_WideFloor_0) (_L2 : Q → Option Yb_WideFloor_2) (p0_0 : Int) (p0_1n : Nat) (p0_1c : List PV) (p1_0 : Int) (p1_1n : Nat) (p1_1c : List PV) : Option ((Int) × ((Nat) × (List PV))) :=
  bif (p0_0 == (0 : Int)) then
    some ((0 : Int), (0, []))
  else bif (decide (((p0_1n : Int) = (p0_1n : Int)) ∧ (((0 : Int) ≤ (p0_1n : Int)) ∧ ((p0_1n : Int) ≤ (big : Int))))) then
    bindO (L0 (Tb_WideFloor_0a (Int.toNat (p0_1n : Int)) (w64 ((p0_1n : Int) - (1 : Int))) p0_0 p0_1n p0_1c p1_0 p1_1n p1_1c (rep [(PV.int .i64 (0 : Int))] (Int.toNat (p0_1n : Int))))) fun z =>
    Sum.elim (fun y0 =>
      bif (decide ((0 + (y0.1 * 1)) ≤ (List.length y0.2.2.2.2.2.2.2))) then
        bindO (F 144 (RSh.agg [(CK.int .i64), CK.list]) [(PV.int .i64 y0.2.1), (PV.list y0.1 (List.take (y0.1 * 1) (List.drop 0 y0.2.2.2.2.2.2.2)))]) fun (y1 : ((Int) × ((Nat) × (List PV)))) =>
        bif (decide (y0.2.1 < (0 : Int))) then
          some (y1.1, (y1.2.1, y1.2.2))
        else some (y1.1, (y1.2.1, y1.2.2))
      else none) (fun y2 =>
      bif (decide ((0 + (y2.1 * 1)) ≤ (List.length y2.2.2.2.2.2.2.2.2.2))) then
        bindO (F 144 (RSh.agg [(CK.int .i64), CK.list]) [(PV.int .i64 y2.2.2.2.1), (PV.list y2.1 (List.take (y2.1 * 1) (List.drop 0 y2.2.2.2.2.2.2.2.2.2)))]) fun (y3 : ((Int) × ((Nat) × (List PV)))) =>
        bif (decide (y2.2.2.2.1 < (0 : Int))) then
          bif (decide ((y2.2.1 : Int) > (0 : Int))) then
            bindO (F 118 (RSh.agg [(CK.int .i64), CK.list]) [(PV.int .i64 (1 : Int))]) fun (y4 : ((Int) × ((Nat) × (List PV)))) =>
            bindO (F 164 (RSh.agg [(CK.int .i64), CK.list]) [(PV.agg [(PV.int .i64 y3.1), (PV.list y3.2.1 y3.2.2)]), (PV.agg [(PV.int .i64 y4.1), (PV.list y4.2.1 y4.2.2)])]) fun (y5 : ((Int) × ((Nat) × (List PV)))) =>
            some (y5.1, (y5.2.1, y5.2.2))
          else some (y3.1, (y3.2.1, y3.2.2))
        else some (y3.1, (y3.2.1, y3.2.2))
      else none) z
  else none
theorem tb_WideFloor_eq (F : FnT) (L0 : Q → Option Yb_WideFloor_0) (L2 : Q → Option Yb_WideFloor_2) (p0_0 : Int) (p0_1n : Nat) (p0_1c : List PV) (p1_0 : Int) (p1_1n : Nat) (p1_1c : List PV) : semF (callP F Eb_WideFloor 20) s149 (loopT [⟨0, Yb_WideFloor_0, L0, XLb_WideFloor_0⟩, ⟨2, Yb_WideFloor_2, L2, XLb_WideFloor_2⟩]) 400 a149 [PV.agg [PV.int .i64 p0_0, PV.list p0_1n p0_1c], PV.agg [PV.int .i64 p1_0, PV.list p1_1n p1_1c]] (fun rv => decR (RSh.agg [(CK.int .i64), CK.list]) rv.pv) = tb_WideFloor F L0 L2 p0_0 p0_1n p0_1c p1_0 p1_1n p1_1c := by kernel_rfl
noncomputable abbrev Fb_WideFloor (args : List PV) := Fn env 149 (RSh.agg [(CK.int .i64), CK.list]) args
theorem Fb_WideFloor_of  (p0_0 : Int) (p0_1n : Nat) (p0_1c : List PV) (p1_0 : Int) (p1_1n : Nat) (p1_1c : List PV) {res : ((Int) × ((Nat) × (List PV)))} (h : tb_WideFloor (Fn env) Lb_WideFloor_0 Lb_WideFloor_2 p0_0 p0_1n p0_1c p1_0 p1_1n p1_1c = some res) : Fb_WideFloor [PV.agg [PV.int .i64 p0_0, PV.list p0_1n p0_1c], PV.agg [PV.int .i64 p1_0, PV.list p1_1n p1_1c]] = some res :=
  fn_of Eb_WideFloor_ok rfl rfl (lo_cons (lpO_ok Ub_WideFloor) (lo_cons (lpO_ok Ub_WideFloor) lo_nil)) ((tb_WideFloor_eq _ _ _ _ _ _ _ _ _).trans h)
def Eb_WideInt : List Entry := []
theorem Eb_WideInt_ok : ∀ e ∈ Eb_WideInt, EntOK env e := ent_nil
def Tb_WideInt_0a (i0 : Int) (i1 : Int) (i2 : Int) (n3 : Nat) (c4 : List PV) : Q := ⟨(tm 30 [(1, (AV.loc 1 0)), (4, (AV.p (PV.int .i64 i0))), (5, (AV.p (PV.int .i64 i1)))]), (mm 30 [(1, (Bk.cells true [(AV.p (PV.int .i64 i2)), (AV.p (PV.list n3 c4))]))])⟩
def Xb_WideInt_0a (y : Int × Int × Nat × List PV) : Ext × Q := (Ext.normal, ⟨(tm 30 [(1, (AV.loc 1 0)), (4, (AV.p (PV.int .i64 y.1)))]), (mm 30 [(1, (Bk.cells true [(AV.p (PV.int .i64 y.2.1)), (AV.p (PV.list y.2.2.1 y.2.2.2))]))])⟩)
def Ib_WideInt_0a (q : Ext × S) : Int × Int × Nat × List PV := ((pP_int1 (pA_p (avT q.2 4))), (pP_int1 (pA_p (hdA (pB_cells1 (avM q.2 1))))), (pP_list0 (pA_p (hdA (List.tail (pB_cells1 (avM q.2 1)))))), (pP_list1 (pA_p (hdA (List.tail (pB_cells1 (avM q.2 1)))))))
abbrev Yb_WideInt_0 : Type := Int × Int × Nat × List PV
def XLb_WideInt_0 : XL Yb_WideInt_0 := .one Xb_WideInt_0a
def Ib_WideInt_0 (q : Ext × S) : Yb_WideInt_0 := (Ib_WideInt_0a q)
theorem XIb_WideInt_0a (y : Int × Int × Nat × List PV) : Ib_WideInt_0 (xe (Xb_WideInt_0a y)) = y := rfl
theorem XIb_WideInt_0 (y : Yb_WideInt_0) : Ib_WideInt_0 (xe (XLb_WideInt_0.fn y)) = y := XIb_WideInt_0a y
noncomputable abbrev Lb_WideInt_0 : Q → Option Yb_WideInt_0 := lpO env a122.body 0 XLb_WideInt_0
noncomputable abbrev Rb_WideInt_0 : Q → Option (Ext × S) := lpR env a122.body 0
theorem Lb_WideInt_0a_of {s : Q} {y : Int × Int × Nat × List PV} (h : Rb_WideInt_0 s = exO (Xb_WideInt_0a y)) : Lb_WideInt_0 s = some y := lpO_of Ib_WideInt_0 XIb_WideInt_0 (y := y) h
theorem Ub_WideInt : uniq ((blocksOf a122.body).map (·.1)) = true := by kernel_rfl
def Bb_WideInt_0a (_F : FnT) (N : QO) (E : EO) (_L0 : Q → Option Yb_WideInt_0) (i0 : Int) (i1 : Int) (i2 : Int) (n3 : Nat) (c4 : List PV) : Option (Ext × S) :=
  bif (decide (i1 ≥ (0 : Int))) then
    bif (decide (((0 : Int) ≤ i1) ∧ (i1 < (n3 : Int)))) then
      bindO (intC .i64 (c4[((Int.toNat i1) * 1)]?)) fun x0 =>
      N (Tb_WideInt_0a (w64 ((w64 (i0 * (1000000000 : Int))) + x0)) (w64 (i1 - (1 : Int))) i2 n3 c4)
    else none
  else E (Xb_WideInt_0a (i0, i2, n3, c4))
theorem Bb_WideInt_0a_eq (F : FnT) (N : QO) (E : EO) (L0 : Q → Option Yb_WideInt_0) (i0 : Int) (i1 : Int) (i2 : Int) (n3 : Nat) (c4 : List PV) : semB (callP F Eb_WideInt 20) s122 (loopT [⟨0, Yb_WideInt_0, L0, XLb_WideInt_0⟩]) 400 (blkIn a122.body 0) N E (Tb_WideInt_0a i0 i1 i2 n3 c4) = Bb_WideInt_0a F N E L0 i0 i1 i2 n3 c4 := by kernel_rfl
theorem Rb_WideInt_0a_of  (i0 : Int) (i1 : Int) (i2 : Int) (n3 : Nat) (c4 : List PV) {r : Ext × S} (h : Bb_WideInt_0a (Fn env) Rb_WideInt_0 exO Lb_WideInt_0 i0 i1 i2 n3 c4 = some r) : Rb_WideInt_0 (Tb_WideInt_0a i0 i1 i2 n3 c4) = some r :=
  lp_of Eb_WideInt_ok (by kernel_rfl) (lo_cons (lpO_ok Ub_WideInt) lo_nil) (by kernel_rfl) ((Bb_WideInt_0a_eq _ _ _ _ _ _ _ _ _).trans h)
def tb_WideInt (_F : FnT) (L0 : Q → Option Yb_WideInt_0) (p0_0 : Int) (p0_1n : Nat) (p0_1c : List PV) : Option ((Int) × (Bool)) :=
  bif (decide ((p0_1n : Int) > (2 : Int))) then
    some ((0 : Int), false)
  else bindO (L0 (Tb_WideInt_0a (0 : Int) (w64 ((p0_1n : Int) - (1 : Int))) p0_0 p0_1n p0_1c)) fun y0 =>
  some ((w64 (y0.2.1 * y0.1)), true)
theorem tb_WideInt_eq (F : FnT) (L0 : Q → Option Yb_WideInt_0) (p0_0 : Int) (p0_1n : Nat) (p0_1c : List PV) : semF (callP F Eb_WideInt 20) s122 (loopT [⟨0, Yb_WideInt_0, L0, XLb_WideInt_0⟩]) 400 a122 [PV.agg [PV.int .i64 p0_0, PV.list p0_1n p0_1c]] (fun rv => decR (RSh.tup [(Prod.mk false [(CK.int .i64)]), (Prod.mk false [CK.bool])]) rv.pv) = tb_WideInt F L0 p0_0 p0_1n p0_1c := by kernel_rfl
noncomputable abbrev Fb_WideInt (args : List PV) := Fn env 122 (RSh.tup [(Prod.mk false [(CK.int .i64)]), (Prod.mk false [CK.bool])]) args
theorem Fb_WideInt_of  (p0_0 : Int) (p0_1n : Nat) (p0_1c : List PV) {res : ((Int) × (Bool))} (h : tb_WideInt (Fn env) Lb_WideInt_0 p0_0 p0_1n p0_1c = some res) : Fb_WideInt [PV.agg [PV.int .i64 p0_0, PV.list p0_1n p0_1c]] = some res :=
  fn_of Eb_WideInt_ok rfl rfl (lo_cons (lpO_ok Ub_WideInt) lo_nil) ((tb_WideInt_eq _ _ _ _ _).trans h)
def Eb_wideSize : List Entry := [.out 146 (RSh.agg [(CK.int .i64), CK.list])]
theorem Eb_wideSize_ok : ∀ e ∈ Eb_wideSize, EntOK env e := (ent_out ent_nil)
def tb_wideSize (F : FnT) (p0_0 : Int) (p0_1n : Nat) (p0_1c : List PV) : Option ((Int) × ((Nat) × (List PV))) :=
  bif (decide (p0_0 < (0 : Int))) then
    bindO (F 146 (RSh.agg [(CK.int .i64), CK.list]) [(PV.agg [(PV.int .i64 p0_0), (PV.list p0_1n p0_1c)])]) fun (y0 : ((Int) × ((Nat) × (List PV)))) =>
    some (y0.1, (y0.2.1, y0.2.2))
  else some (p0_0, (p0_1n, p0_1c))
theorem tb_wideSize_eq (F : FnT) (p0_0 : Int) (p0_1n : Nat) (p0_1c : List PV) : semF (callP F Eb_wideSize 20) s163 (loopT []) 400 a163 [PV.agg [PV.int .i64 p0_0, PV.list p0_1n p0_1c]] (fun rv => decR (RSh.agg [(CK.int .i64), CK.list]) rv.pv) = tb_wideSize F p0_0 p0_1n p0_1c := by kernel_rfl
noncomputable abbrev Fb_wideSize (args : List PV) := Fn env 163 (RSh.agg [(CK.int .i64), CK.list]) args
theorem Fb_wideSize_of  (p0_0 : Int) (p0_1n : Nat) (p0_1c : List PV) {res : ((Int) × ((Nat) × (List PV)))} (h : tb_wideSize (Fn env) p0_0 p0_1n p0_1c = some res) : Fb_wideSize [PV.agg [PV.int .i64 p0_0, PV.list p0_1n p0_1c]] = some res :=
  fn_of Eb_wideSize_ok rfl rfl lo_nil ((tb_wideSize_eq _ _ _ _).trans h)
def Eb_wideGcd : List Entry := [.out 163 (RSh.agg [(CK.int .i64), CK.list]), .out 145 (RSh.one (CK.int .i64)), .out 149 (RSh.agg [(CK.int .i64), CK.list]), .out 120 (RSh.agg [(CK.int .i64), CK.list]), .out 164 (RSh.agg [(CK.int .i64), CK.list])]
theorem Eb_wideGcd_ok : ∀ e ∈ Eb_wideGcd, EntOK env e := (ent_out (ent_out (ent_out (ent_out (ent_out ent_nil)))))
def Tb_wideGcd_0a (i0 : Int) (n1 : Nat) (c2 : List PV) (i3 : Int) (n4 : Nat) (c5 : List PV) : Q := ⟨(tm 23 [(2, (AV.loc 2 0)), (3, (AV.loc 3 0)), (4, (AV.loc 4 0))]), (mm 23 [(2, (Bk.cells true [(AV.p (PV.int .i64 i0)), (AV.p (PV.list n1 c2))])), (3, (Bk.cells true [(AV.p (PV.int .i64 i3)), (AV.p (PV.list n4 c5))])), (4, (Bk.cells true [(AV.p (PV.int .i64 (0 : Int))), AV.nilS]))])⟩
def Xb_wideGcd_0a (y : Int × Nat × List PV × Int × Nat × List PV) : Ext × Q := (Ext.normal, ⟨(tm 23 [(2, (AV.loc 2 0)), (4, (AV.loc 4 0))]), (mm 23 [(2, (Bk.cells true [(AV.p (PV.int .i64 y.1)), (AV.p (PV.list y.2.1 y.2.2.1))])), (3, (Bk.cells true [(AV.p (PV.int .i64 y.2.2.2.1)), (AV.p (PV.list y.2.2.2.2.1 y.2.2.2.2.2))])), (4, (Bk.cells true [(AV.p (PV.int .i64 (0 : Int))), AV.nilS]))])⟩)
def Ib_wideGcd_0a (q : Ext × S) : Int × Nat × List PV × Int × Nat × List PV := ((pP_int1 (pA_p (hdA (pB_cells1 (avM q.2 2))))), (pP_list0 (pA_p (hdA (List.tail (pB_cells1 (avM q.2 2)))))), (pP_list1 (pA_p (hdA (List.tail (pB_cells1 (avM q.2 2)))))), (pP_int1 (pA_p (hdA (pB_cells1 (avM q.2 3))))), (pP_list0 (pA_p (hdA (List.tail (pB_cells1 (avM q.2 3)))))), (pP_list1 (pA_p (hdA (List.tail (pB_cells1 (avM q.2 3)))))))
abbrev Yb_wideGcd_0 : Type := Int × Nat × List PV × Int × Nat × List PV
def XLb_wideGcd_0 : XL Yb_wideGcd_0 := .one Xb_wideGcd_0a
def Ib_wideGcd_0 (q : Ext × S) : Yb_wideGcd_0 := (Ib_wideGcd_0a q)
theorem XIb_wideGcd_0a (y : Int × Nat × List PV × Int × Nat × List PV) : Ib_wideGcd_0 (xe (Xb_wideGcd_0a y)) = y := rfl
theorem XIb_wideGcd_0 (y : Yb_wideGcd_0) : Ib_wideGcd_0 (xe (XLb_wideGcd_0.fn y)) = y := XIb_wideGcd_0a y
noncomputable abbrev Lb_wideGcd_0 : Q → Option Yb_wideGcd_0 := lpO env a147.body 0 XLb_wideGcd_0
noncomputable abbrev Rb_wideGcd_0 : Q → Option (Ext × S) := lpR env a147.body 0
theorem Lb_wideGcd_0a_of {s : Q} {y : Int × Nat × List PV × Int × Nat × List PV} (h : Rb_wideGcd_0 s = exO (Xb_wideGcd_0a y)) : Lb_wideGcd_0 s = some y := lpO_of Ib_wideGcd_0 XIb_wideGcd_0 (y := y) h
theorem Ub_wideGcd : uniq ((blocksOf a147.body).map (·.1)) = true := by kernel_rfl
def Bb_wideGcd_0a (F : FnT) (N : QO) (E : EO) (_L0 : Q → Option Yb_wideGcd_0) (i0 : Int) (n1 : Nat) (c2 : List PV) (i3 : Int) (n4 : Nat) (c5 : List PV) : Option (Ext × S) :=
  bindO (F 145 (RSh.one (CK.int .i64)) [(PV.agg [(PV.int .i64 i3), (PV.list n4 c5)])]) fun (y0 : (Int)) =>
  bif (y0 != (0 : Int)) then
    bindO (F 149 (RSh.agg [(CK.int .i64), CK.list]) [(PV.agg [(PV.int .i64 i0), (PV.list n1 c2)]), (PV.agg [(PV.int .i64 i3), (PV.list n4 c5)])]) fun (y1 : ((Int) × ((Nat) × (List PV)))) =>
    bindO (F 120 (RSh.agg [(CK.int .i64), CK.list]) [(PV.agg [(PV.int .i64 y1.1), (PV.list y1.2.1 y1.2.2)]), (PV.agg [(PV.int .i64 i3), (PV.list n4 c5)])]) fun (y2 : ((Int) × ((Nat) × (List PV)))) =>
    bindO (F 164 (RSh.agg [(CK.int .i64), CK.list]) [(PV.agg [(PV.int .i64 i0), (PV.list n1 c2)]), (PV.agg [(PV.int .i64 y2.1), (PV.list y2.2.1 y2.2.2)])]) fun (y3 : ((Int) × ((Nat) × (List PV)))) =>
    N (Tb_wideGcd_0a i3 n4 c5 y3.1 y3.2.1 y3.2.2)
  else E (Xb_wideGcd_0a (i0, n1, c2, i3, n4, c5))
theorem Bb_wideGcd_0a_eq (F : FnT) (N : QO) (E : EO) (L0 : Q → Option Yb_wideGcd_0) (i0 : Int) (n1 : Nat) (c2 : List PV) (i3 : Int) (n4 : Nat) (c5 : List PV) : semB (callP F Eb_wideGcd 20) s147 (loopT [⟨0, Yb_wideGcd_0, L0, XLb_wideGcd_0⟩]) 400 (blkIn a147.body 0) N E (Tb_wideGcd_0a i0 n1 c2 i3 n4 c5) = Bb_wideGcd_0a F N E L0 i0 n1 c2 i3 n4 c5 := by kernel_rfl
theorem Rb_wideGcd_0a_of  (i0 : Int) (n1 : Nat) (c2 : List PV) (i3 : Int) (n4 : Nat) (c5 : List PV) {r : Ext × S} (h : Bb_wideGcd_0a (Fn env) Rb_wideGcd_0 exO Lb_wideGcd_0 i0 n1 c2 i3 n4 c5 = some r) : Rb_wideGcd_0 (Tb_wideGcd_0a i0 n1 c2 i3 n4 c5) = some r :=
  lp_of Eb_wideGcd_ok (by kernel_rfl) (lo_cons (lpO_ok Ub_wideGcd) lo_nil) (by kernel_rfl) ((Bb_wideGcd_0a_eq _ _ _ _ _ _ _ _ _ _).trans h)
def tb_wideGcd (F : FnT) (L0 : Q → Option Yb_wideGcd_0) (p0_0 : Int) (p0_1n : Nat) (p0_1c : List PV) (p1_0 : Int) (p1_1n : Nat) (p1_1c : List PV) : Option ((Int) × ((Nat) × (List PV))) :=
  bindO (F 163 (RSh.agg [(CK.int .i64), CK.list]) [(PV.agg [(PV.int .i64 p0_0), (PV.list p0_1n p0_1c)])]) fun (y0 : ((Int) × ((Nat) × (List PV)))) =>
  bindO (F 163 (RSh.agg [(CK.int .i64), CK.list]) [(PV.agg [(PV.int .i64 p1_0), (PV.list p1_1n p1_1c)])]) fun (y1 : ((Int) × ((Nat) × (List PV)))) =>
  bindO (L0 (Tb_wideGcd_0a y0.1 y0.2.1 y0.2.2 y1.1 y1.2.1 y1.2.2)) fun y2 =>
  some (y2.1, (y2.2.1, y2.2.2.1))
theorem tb_wideGcd_eq (F : FnT) (L0 : Q → Option Yb_wideGcd_0) (p0_0 : Int) (p0_1n : Nat) (p0_1c : List PV) (p1_0 : Int) (p1_1n : Nat) (p1_1c : List PV) : semF (callP F Eb_wideGcd 20) s147 (loopT [⟨0, Yb_wideGcd_0, L0, XLb_wideGcd_0⟩]) 400 a147 [PV.agg [PV.int .i64 p0_0, PV.list p0_1n p0_1c], PV.agg [PV.int .i64 p1_0, PV.list p1_1n p1_1c]] (fun rv => decR (RSh.agg [(CK.int .i64), CK.list]) rv.pv) = tb_wideGcd F L0 p0_0 p0_1n p0_1c p1_0 p1_1n p1_1c := by kernel_rfl
noncomputable abbrev Fb_wideGcd (args : List PV) := Fn env 147 (RSh.agg [(CK.int .i64), CK.list]) args
theorem Fb_wideGcd_of  (p0_0 : Int) (p0_1n : Nat) (p0_1c : List PV) (p1_0 : Int) (p1_1n : Nat) (p1_1c : List PV) {res : ((Int) × ((Nat) × (List PV)))} (h : tb_wideGcd (Fn env) Lb_wideGcd_0 p0_0 p0_1n p0_1c p1_0 p1_1n p1_1c = some res) : Fb_wideGcd [PV.agg [PV.int .i64 p0_0, PV.list p0_1n p0_1c], PV.agg [PV.int .i64 p1_0, PV.list p1_1n p1_1c]] = some res :=
  fn_of Eb_wideGcd_ok rfl rfl (lo_cons (lpO_ok Ub_wideGcd) lo_nil) ((tb_wideGcd_eq _ _ _ _ _ _ _ _).trans h)
def Eb_RatioMake : List Entry := [.out 145 (RSh.one (CK.int .i64)), .out 146 (RSh.agg [(CK.int .i64), CK.list]), .out 147 (RSh.agg [(CK.int .i64), CK.list]), .out 118 (RSh.agg [(CK.int .i64), CK.list]), .out 148 (RSh.one (CK.int .i64)), .out 149 (RSh.agg [(CK.int .i64), CK.list])]
theorem Eb_RatioMake_ok : ∀ e ∈ Eb_RatioMake, EntOK env e := (ent_out (ent_out (ent_out (ent_out (ent_out (ent_out ent_nil))))))
def tb_RatioMake (F : FnT) (p0_0 : Int) (p0_1n : Nat) (p0_1c : List PV) (p1_0 : Int) (p1_1n : Nat) (p1_1c : List PV) : Option ((Int) × (((Nat) × (List PV)) × ((Int) × ((Nat) × (List PV))))) :=
  bindO (F 145 (RSh.one (CK.int .i64)) [(PV.agg [(PV.int .i64 p1_0), (PV.list p1_1n p1_1c)])]) fun (y0 : (Int)) =>
  bif (decide (y0 < (0 : Int))) then
    bindO (F 146 (RSh.agg [(CK.int .i64), CK.list]) [(PV.agg [(PV.int .i64 p0_0), (PV.list p0_1n p0_1c)])]) fun (y1 : ((Int) × ((Nat) × (List PV)))) =>
    bindO (F 146 (RSh.agg [(CK.int .i64), CK.list]) [(PV.agg [(PV.int .i64 p1_0), (PV.list p1_1n p1_1c)])]) fun (y2 : ((Int) × ((Nat) × (List PV)))) =>
    bindO (F 147 (RSh.agg [(CK.int .i64), CK.list]) [(PV.agg [(PV.int .i64 y1.1), (PV.list y1.2.1 y1.2.2)]), (PV.agg [(PV.int .i64 y2.1), (PV.list y2.2.1 y2.2.2)])]) fun (y3 : ((Int) × ((Nat) × (List PV)))) =>
    bindO (F 118 (RSh.agg [(CK.int .i64), CK.list]) [(PV.int .i64 (1 : Int))]) fun (y4 : ((Int) × ((Nat) × (List PV)))) =>
    bindO (F 148 (RSh.one (CK.int .i64)) [(PV.agg [(PV.int .i64 y3.1), (PV.list y3.2.1 y3.2.2)]), (PV.agg [(PV.int .i64 y4.1), (PV.list y4.2.1 y4.2.2)])]) fun (y5 : (Int)) =>
    bif (y5 == (0 : Int)) then
      some (y1.1, ((y1.2.1, y1.2.2), (y2.1, (y2.2.1, y2.2.2))))
    else bindO (F 149 (RSh.agg [(CK.int .i64), CK.list]) [(PV.agg [(PV.int .i64 y1.1), (PV.list y1.2.1 y1.2.2)]), (PV.agg [(PV.int .i64 y3.1), (PV.list y3.2.1 y3.2.2)])]) fun (y6 : ((Int) × ((Nat) × (List PV)))) =>
    bindO (F 149 (RSh.agg [(CK.int .i64), CK.list]) [(PV.agg [(PV.int .i64 y2.1), (PV.list y2.2.1 y2.2.2)]), (PV.agg [(PV.int .i64 y3.1), (PV.list y3.2.1 y3.2.2)])]) fun (y7 : ((Int) × ((Nat) × (List PV)))) =>
    some (y6.1, ((y6.2.1, y6.2.2), (y7.1, (y7.2.1, y7.2.2))))
  else bindO (F 147 (RSh.agg [(CK.int .i64), CK.list]) [(PV.agg [(PV.int .i64 p0_0), (PV.list p0_1n p0_1c)]), (PV.agg [(PV.int .i64 p1_0), (PV.list p1_1n p1_1c)])]) fun (y8 : ((Int) × ((Nat) × (List PV)))) =>
  bindO (F 118 (RSh.agg [(CK.int .i64), CK.list]) [(PV.int .i64 (1 : Int))]) fun (y9 : ((Int) × ((Nat) × (List PV)))) =>
  bindO (F 148 (RSh.one (CK.int .i64)) [(PV.agg [(PV.int .i64 y8.1), (PV.list y8.2.1 y8.2.2)]), (PV.agg [(PV.int .i64 y9.1), (PV.list y9.2.1 y9.2.2)])]) fun (y10 : (Int)) =>
  bif (y10 == (0 : Int)) then
    some (p0_0, ((p0_1n, p0_1c), (p1_0, (p1_1n, p1_1c))))
  else bindO (F 149 (RSh.agg [(CK.int .i64), CK.list]) [(PV.agg [(PV.int .i64 p0_0), (PV.list p0_1n p0_1c)]), (PV.agg [(PV.int .i64 y8.1), (PV.list y8.2.1 y8.2.2)])]) fun (y11 : ((Int) × ((Nat) × (List PV)))) =>
  bindO (F 149 (RSh.agg [(CK.int .i64), CK.list]) [(PV.agg [(PV.int .i64 p1_0), (PV.list p1_1n p1_1c)]), (PV.agg [(PV.int .i64 y8.1), (PV.list y8.2.1 y8.2.2)])]) fun (y12 : ((Int) × ((Nat) × (List PV)))) =>
  some (y11.1, ((y11.2.1, y11.2.2), (y12.1, (y12.2.1, y12.2.2))))
theorem tb_RatioMake_eq (F : FnT) (p0_0 : Int) (p0_1n : Nat) (p0_1c : List PV) (p1_0 : Int) (p1_1n : Nat) (p1_1c : List PV) : semF (callP F Eb_RatioMake 20) s119 (loopT []) 400 a119 [PV.agg [PV.int .i64 p0_0, PV.list p0_1n p0_1c], PV.agg [PV.int .i64 p1_0, PV.list p1_1n p1_1c]] (fun rv => decR (RSh.agg [(CK.int .i64), CK.list, (CK.int .i64), CK.list]) rv.pv) = tb_RatioMake F p0_0 p0_1n p0_1c p1_0 p1_1n p1_1c := by kernel_rfl
noncomputable abbrev Fb_RatioMake (args : List PV) := Fn env 119 (RSh.agg [(CK.int .i64), CK.list, (CK.int .i64), CK.list]) args
theorem Fb_RatioMake_of  (p0_0 : Int) (p0_1n : Nat) (p0_1c : List PV) (p1_0 : Int) (p1_1n : Nat) (p1_1c : List PV) {res : ((Int) × (((Nat) × (List PV)) × ((Int) × ((Nat) × (List PV)))))} (h : tb_RatioMake (Fn env) p0_0 p0_1n p0_1c p1_0 p1_1n p1_1c = some res) : Fb_RatioMake [PV.agg [PV.int .i64 p0_0, PV.list p0_1n p0_1c], PV.agg [PV.int .i64 p1_0, PV.list p1_1n p1_1c]] = some res :=
  fn_of Eb_RatioMake_ok rfl rfl lo_nil ((tb_RatioMake_eq _ _ _ _ _ _ _).trans h)
def Eb_RatioOf : List Entry := [.out 118 (RSh.agg [(CK.int .i64), CK.list]), .out 119 (RSh.agg [(CK.int .i64), CK.list, (CK.int .i64), CK.list])]
theorem Eb_RatioOf_ok : ∀ e ∈ Eb_RatioOf, EntOK env e := (ent_out (ent_out ent_nil))
def tb_RatioOf (F : FnT) (p0 : Int) (p1 : Int) : Option ((Int) × (((Nat) × (List PV)) × ((Int) × ((Nat) × (List PV))))) :=
  bindO (F 118 (RSh.agg [(CK.int .i64), CK.list]) [(PV.int .i64 p0)]) fun (y0 : ((Int) × ((Nat) × (List PV)))) =>
  bindO (F 118 (RSh.agg [(CK.int .i64), CK.list]) [(PV.int .i64 p1)]) fun (y1 : ((Int) × ((Nat) × (List PV)))) =>
  bindO (F 119 (RSh.agg [(CK.int .i64), CK.list, (CK.int .i64), CK.list]) [(PV.agg [(PV.int .i64 y0.1), (PV.list y0.2.1 y0.2.2)]), (PV.agg [(PV.int .i64 y1.1), (PV.list y1.2.1 y1.2.2)])]) fun (y2 : ((Int) × (((Nat) × (List PV)) × ((Int) × ((Nat) × (List PV)))))) =>
  some (y2.1, ((y2.2.1.1, y2.2.1.2), (y2.2.2.1, (y2.2.2.2.1, y2.2.2.2.2))))
theorem tb_RatioOf_eq (F : FnT) (p0 : Int) (p1 : Int) : semF (callP F Eb_RatioOf 20) s121 (loopT []) 400 a121 [PV.int .i64 p0, PV.int .i64 p1] (fun rv => decR (RSh.agg [(CK.int .i64), CK.list, (CK.int .i64), CK.list]) rv.pv) = tb_RatioOf F p0 p1 := by kernel_rfl
noncomputable abbrev Fb_RatioOf (args : List PV) := Fn env 121 (RSh.agg [(CK.int .i64), CK.list, (CK.int .i64), CK.list]) args
theorem Fb_RatioOf_of  (p0 : Int) (p1 : Int) {res : ((Int) × (((Nat) × (List PV)) × ((Int) × ((Nat) × (List PV)))))} (h : tb_RatioOf (Fn env) p0 p1 = some res) : Fb_RatioOf [PV.int .i64 p0, PV.int .i64 p1] = some res :=
  fn_of Eb_RatioOf_ok rfl rfl lo_nil ((tb_RatioOf_eq _ _ _).trans h)
def Eb_RatioInt : List Entry := [.out 118 (RSh.agg [(CK.int .i64), CK.list])]
theorem Eb_RatioInt_ok : ∀ e ∈ Eb_RatioInt, EntOK env e := (ent_out ent_nil)
def tb_RatioInt (F : FnT) (p0 : Int) : Option ((Int) × (((Nat) × (List PV)) × ((Int) × ((Nat) × (List PV))))) :=
  bindO (F 118 (RSh.agg [(CK.int .i64), CK.list]) [(PV.int .i64 p0)]) fun (y0 : ((Int) × ((Nat) × (List PV)))) =>
  bindO (F 118 (RSh.agg [(CK.int .i64), CK.list]) [(PV.int .i64 (1 : Int))]) fun (y1 : ((Int) × ((Nat) × (List PV)))) =>
  some (y0.1, ((y0.2.1, y0.2.2), (y1.1, (y1.2.1, y1.2.2))))
theorem tb_RatioInt_eq (F : FnT) (p0 : Int) : semF (callP F Eb_RatioInt 20) s77 (loopT []) 400 a77 [PV.int .i64 p0] (fun rv => decR (RSh.agg [(CK.int .i64), CK.list, (CK.int .i64), CK.list]) rv.pv) = tb_RatioInt F p0 := by kernel_rfl
noncomputable abbrev Fb_RatioInt (args : List PV) := Fn env 77 (RSh.agg [(CK.int .i64), CK.list, (CK.int .i64), CK.list]) args
theorem Fb_RatioInt_of  (p0 : Int) {res : ((Int) × (((Nat) × (List PV)) × ((Int) × ((Nat) × (List PV)))))} (h : tb_RatioInt (Fn env) p0 = some res) : Fb_RatioInt [PV.int .i64 p0] = some res :=
  fn_of Eb_RatioInt_ok rfl rfl lo_nil ((tb_RatioInt_eq _ _).trans h)
def Eb_RatioFrom : List Entry := [.out 121 (RSh.agg [(CK.int .i64), CK.list, (CK.int .i64), CK.list])]
theorem Eb_RatioFrom_ok : ∀ e ∈ Eb_RatioFrom, EntOK env e := (ent_out ent_nil)
def tb_RatioFrom (F : FnT) (p0_0 : Int) (p0_1 : Int) : Option ((Int) × (((Nat) × (List PV)) × ((Int) × ((Nat) × (List PV))))) :=
  bindO (F 121 (RSh.agg [(CK.int .i64), CK.list, (CK.int .i64), CK.list]) [(PV.int .i64 p0_0), (PV.int .i64 p0_1)]) fun (y0 : ((Int) × (((Nat) × (List PV)) × ((Int) × ((Nat) × (List PV)))))) =>
  some (y0.1, ((y0.2.1.1, y0.2.1.2), (y0.2.2.1, (y0.2.2.2.1, y0.2.2.2.2))))
theorem tb_RatioFrom_eq (F : FnT) (p0_0 : Int) (p0_1 : Int) : semF (callP F Eb_RatioFrom 20) s79 (loopT []) 400 a79 [PV.agg [PV.int .i64 p0_0, PV.int .i64 p0_1]] (fun rv => decR (RSh.agg [(CK.int .i64), CK.list, (CK.int .i64), CK.list]) rv.pv) = tb_RatioFrom F p0_0 p0_1 := by kernel_rfl
noncomputable abbrev Fb_RatioFrom (args : List PV) := Fn env 79 (RSh.agg [(CK.int .i64), CK.list, (CK.int .i64), CK.list]) args
theorem Fb_RatioFrom_of  (p0_0 : Int) (p0_1 : Int) {res : ((Int) × (((Nat) × (List PV)) × ((Int) × ((Nat) × (List PV)))))} (h : tb_RatioFrom (Fn env) p0_0 p0_1 = some res) : Fb_RatioFrom [PV.agg [PV.int .i64 p0_0, PV.int .i64 p0_1]] = some res :=
  fn_of Eb_RatioFrom_ok rfl rfl lo_nil ((tb_RatioFrom_eq _ _ _).trans h)
def Eb_RatioNeg : List Entry := [.out 146 (RSh.agg [(CK.int .i64), CK.list])]
theorem Eb_RatioNeg_ok : ∀ e ∈ Eb_RatioNeg, EntOK env e := (ent_out ent_nil)
def tb_RatioNeg (F : FnT) (p0_0 : Int) (p0_1n : Nat) (p0_1c : List PV) (p0_2 : Int) (p0_3n : Nat) (p0_3c : List PV) : Option ((Int) × (((Nat) × (List PV)) × ((Int) × ((Nat) × (List PV))))) :=
  bindO (F 146 (RSh.agg [(CK.int .i64), CK.list]) [(PV.agg [(PV.int .i64 p0_0), (PV.list p0_1n p0_1c)])]) fun (y0 : ((Int) × ((Nat) × (List PV)))) =>
  some (y0.1, ((y0.2.1, y0.2.2), (p0_2, (p0_3n, p0_3c))))
theorem tb_RatioNeg_eq (F : FnT) (p0_0 : Int) (p0_1n : Nat) (p0_1c : List PV) (p0_2 : Int) (p0_3n : Nat) (p0_3c : List PV) : semF (callP F Eb_RatioNeg 20) s125 (loopT []) 400 a125 [PV.agg [PV.int .i64 p0_0, PV.list p0_1n p0_1c, PV.int .i64 p0_2, PV.list p0_3n p0_3c]] (fun rv => decR (RSh.agg [(CK.int .i64), CK.list, (CK.int .i64), CK.list]) rv.pv) = tb_RatioNeg F p0_0 p0_1n p0_1c p0_2 p0_3n p0_3c := by kernel_rfl
noncomputable abbrev Fb_RatioNeg (args : List PV) := Fn env 125 (RSh.agg [(CK.int .i64), CK.list, (CK.int .i64), CK.list]) args
theorem Fb_RatioNeg_of  (p0_0 : Int) (p0_1n : Nat) (p0_1c : List PV) (p0_2 : Int) (p0_3n : Nat) (p0_3c : List PV) {res : ((Int) × (((Nat) × (List PV)) × ((Int) × ((Nat) × (List PV)))))} (h : tb_RatioNeg (Fn env) p0_0 p0_1n p0_1c p0_2 p0_3n p0_3c = some res) : Fb_RatioNeg [PV.agg [PV.int .i64 p0_0, PV.list p0_1n p0_1c, PV.int .i64 p0_2, PV.list p0_3n p0_3c]] = some res :=
  fn_of Eb_RatioNeg_ok rfl rfl lo_nil ((tb_RatioNeg_eq _ _ _ _ _ _ _).trans h)
def Eb_RatioAdd : List Entry := [.out 120 (RSh.agg [(CK.int .i64), CK.list]), .out 150 (RSh.agg [(CK.int .i64), CK.list]), .out 119 (RSh.agg [(CK.int .i64), CK.list, (CK.int .i64), CK.list])]
theorem Eb_RatioAdd_ok : ∀ e ∈ Eb_RatioAdd, EntOK env e := (ent_out (ent_out (ent_out ent_nil)))
def tb_RatioAdd (F : FnT) (p0_0 : Int) (p0_1n : Nat) (p0_1c : List PV) (p0_2 : Int) (p0_3n : Nat) (p0_3c : List PV) (p1_0 : Int) (p1_1n : Nat) (p1_1c : List PV) (p1_2 : Int) (p1_3n : Nat) (p1_3c : List PV) : Option ((Int) × (((Nat) × (List PV)) × ((Int) × ((Nat) × (List PV))))) :=
  bindO (F 120 (RSh.agg [(CK.int .i64), CK.list]) [(PV.agg [(PV.int .i64 p0_0), (PV.list p0_1n p0_1c)]), (PV.agg [(PV.int .i64 p1_2), (PV.list p1_3n p1_3c)])]) fun (y0 : ((Int) × ((Nat) × (List PV)))) =>
  bindO (F 120 (RSh.agg [(CK.int .i64), CK.list]) [(PV.agg [(PV.int .i64 p1_0), (PV.list p1_1n p1_1c)]), (PV.agg [(PV.int .i64 p0_2), (PV.list p0_3n p0_3c)])]) fun (y1 : ((Int) × ((Nat) × (List PV)))) =>
  bindO (F 150 (RSh.agg [(CK.int .i64), CK.list]) [(PV.agg [(PV.int .i64 y0.1), (PV.list y0.2.1 y0.2.2)]), (PV.agg [(PV.int .i64 y1.1), (PV.list y1.2.1 y1.2.2)])]) fun (y2 : ((Int) × ((Nat) × (List PV)))) =>
  bindO (F 120 (RSh.agg [(CK.int .i64), CK.list]) [(PV.agg [(PV.int .i64 p0_2), (PV.list p0_3n p0_3c)]), (PV.agg [(PV.int .i64 p1_2), (PV.list p1_3n p1_3c)])]) fun (y3 : ((Int) × ((Nat) × (List PV)))) =>
  bindO (F 119 (RSh.agg [(CK.int .i64), CK.list, (CK.int .i64), CK.list]) [(PV.agg [(PV.int .i64 y2.1), (PV.list y2.2.1 y2.2.2)]), (PV.agg [(PV.int .i64 y3.1), (PV.list y3.2.1 y3.2.2)])]) fun (y4 : ((Int) × (((Nat) × (List PV)) × ((Int) × ((Nat) × (List PV)))))) =>
  some (y4.1, ((y4.2.1.1, y4.2.1.2), (y4.2.2.1, (y4.2.2.2.1, y4.2.2.2.2))))
theorem tb_RatioAdd_eq (F : FnT) (p0_0 : Int) (p0_1n : Nat) (p0_1c : List PV) (p0_2 : Int) (p0_3n : Nat) (p0_3c : List PV) (p1_0 : Int) (p1_1n : Nat) (p1_1c : List PV) (p1_2 : Int) (p1_3n : Nat) (p1_3c : List PV) : semF (callP F Eb_RatioAdd 20) s124 (loopT []) 400 a124 [PV.agg [PV.int .i64 p0_0, PV.list p0_1n p0_1c, PV.int .i64 p0_2, PV.list p0_3n p0_3c], PV.agg [PV.int .i64 p1_0, PV.list p1_1n p1_1c, PV.int .i64 p1_2, PV.list p1_3n p1_3c]] (fun rv => decR (RSh.agg [(CK.int .i64), CK.list, (CK.int .i64), CK.list]) rv.pv) = tb_RatioAdd F p0_0 p0_1n p0_1c p0_2 p0_3n p0_3c p1_0 p1_1n p1_1c p1_2 p1_3n p1_3c := by kernel_rfl
noncomputable abbrev Fb_RatioAdd (args : List PV) := Fn env 124 (RSh.agg [(CK.int .i64), CK.list, (CK.int .i64), CK.list]) args
theorem Fb_RatioAdd_of  (p0_0 : Int) (p0_1n : Nat) (p0_1c : List PV) (p0_2 : Int) (p0_3n : Nat) (p0_3c : List PV) (p1_0 : Int) (p1_1n : Nat) (p1_1c : List PV) (p1_2 : Int) (p1_3n : Nat) (p1_3c : List PV) {res : ((Int) × (((Nat) × (List PV)) × ((Int) × ((Nat) × (List PV)))))} (h : tb_RatioAdd (Fn env) p0_0 p0_1n p0_1c p0_2 p0_3n p0_3c p1_0 p1_1n p1_1c p1_2 p1_3n p1_3c = some res) : Fb_RatioAdd [PV.agg [PV.int .i64 p0_0, PV.list p0_1n p0_1c, PV.int .i64 p0_2, PV.list p0_3n p0_3c], PV.agg [PV.int .i64 p1_0, PV.list p1_1n p1_1c, PV.int .i64 p1_2, PV.list p1_3n p1_3c]] = some res :=
  fn_of Eb_RatioAdd_ok rfl rfl lo_nil ((tb_RatioAdd_eq _ _ _ _ _ _ _ _ _ _ _ _ _).trans h)
def Eb_RatioSub : List Entry := [.out 125 (RSh.agg [(CK.int .i64), CK.list, (CK.int .i64), CK.list]), .out 124 (RSh.agg [(CK.int .i64), CK.list, (CK.int .i64), CK.list])]
theorem Eb_RatioSub_ok : ∀ e ∈ Eb_RatioSub, EntOK env e := (ent_out (ent_out ent_nil))
def tb_RatioSub (F : FnT) (p0_0 : Int) (p0_1n : Nat) (p0_1c : List PV) (p0_2 : Int) (p0_3n : Nat) (p0_3c : List PV) (p1_0 : Int) (p1_1n : Nat) (p1_1c : List PV) (p1_2 : Int) (p1_3n : Nat) (p1_3c : List PV) : Option ((Int) × (((Nat) × (List PV)) × ((Int) × ((Nat) × (List PV))))) :=
  bindO (F 125 (RSh.agg [(CK.int .i64), CK.list, (CK.int .i64), CK.list]) [(PV.agg [(PV.int .i64 p1_0), (PV.list p1_1n p1_1c), (PV.int .i64 p1_2), (PV.list p1_3n p1_3c)])]) fun (y0 : ((Int) × (((Nat) × (List PV)) × ((Int) × ((Nat) × (List PV)))))) =>
  bindO (F 124 (RSh.agg [(CK.int .i64), CK.list, (CK.int .i64), CK.list]) [(PV.agg [(PV.int .i64 p0_0), (PV.list p0_1n p0_1c), (PV.int .i64 p0_2), (PV.list p0_3n p0_3c)]), (PV.agg [(PV.int .i64 y0.1), (PV.list y0.2.1.1 y0.2.1.2), (PV.int .i64 y0.2.2.1), (PV.list y0.2.2.2.1 y0.2.2.2.2)])]) fun (y1 : ((Int) × (((Nat) × (List PV)) × ((Int) × ((Nat) × (List PV)))))) =>
  some (y1.1, ((y1.2.1.1, y1.2.1.2), (y1.2.2.1, (y1.2.2.2.1, y1.2.2.2.2))))
theorem tb_RatioSub_eq (F : FnT) (p0_0 : Int) (p0_1n : Nat) (p0_1c : List PV) (p0_2 : Int) (p0_3n : Nat) (p0_3c : List PV) (p1_0 : Int) (p1_1n : Nat) (p1_1c : List PV) (p1_2 : Int) (p1_3n : Nat) (p1_3c : List PV) : semF (callP F Eb_RatioSub 20) s81 (loopT []) 400 a81 [PV.agg [PV.int .i64 p0_0, PV.list p0_1n p0_1c, PV.int .i64 p0_2, PV.list p0_3n p0_3c], PV.agg [PV.int .i64 p1_0, PV.list p1_1n p1_1c, PV.int .i64 p1_2, PV.list p1_3n p1_3c]] (fun rv => decR (RSh.agg [(CK.int .i64), CK.list, (CK.int .i64), CK.list]) rv.pv) = tb_RatioSub F p0_0 p0_1n p0_1c p0_2 p0_3n p0_3c p1_0 p1_1n p1_1c p1_2 p1_3n p1_3c := by kernel_rfl
noncomputable abbrev Fb_RatioSub (args : List PV) := Fn env 81 (RSh.agg [(CK.int .i64), CK.list, (CK.int .i64), CK.list]) args
theorem Fb_RatioSub_of  (p0_0 : Int) (p0_1n : Nat) (p0_1c : List PV) (p0_2 : Int) (p0_3n : Nat) (p0_3c : List PV) (p1_0 : Int) (p1_1n : Nat) (p1_1c : List PV) (p1_2 : Int) (p1_3n : Nat) (p1_3c : List PV) {res : ((Int) × (((Nat) × (List PV)) × ((Int) × ((Nat) × (List PV)))))} (h : tb_RatioSub (Fn env) p0_0 p0_1n p0_1c p0_2 p0_3n p0_3c p1_0 p1_1n p1_1c p1_2 p1_3n p1_3c = some res) : Fb_RatioSub [PV.agg [PV.int .i64 p0_0, PV.list p0_1n p0_1c, PV.int .i64 p0_2, PV.list p0_3n p0_3c], PV.agg [PV.int .i64 p1_0, PV.list p1_1n p1_1c, PV.int .i64 p1_2, PV.list p1_3n p1_3c]] = some res :=
  fn_of Eb_RatioSub_ok rfl rfl lo_nil ((tb_RatioSub_eq _ _ _ _ _ _ _ _ _ _ _ _ _).trans h)
def Eb_RatioMul : List Entry := [.out 120 (RSh.agg [(CK.int .i64), CK.list]), .out 119 (RSh.agg [(CK.int .i64), CK.list, (CK.int .i64), CK.list])]
theorem Eb_RatioMul_ok : ∀ e ∈ Eb_RatioMul, EntOK env e := (ent_out (ent_out ent_nil))
def tb_RatioMul (F : FnT) (p0_0 : Int) (p0_1n : Nat) (p0_1c : List PV) (p0_2 : Int) (p0_3n : Nat) (p0_3c : List PV) (p1_0 : Int) (p1_1n : Nat) (p1_1c : List PV) (p1_2 : Int) (p1_3n : Nat) (p1_3c : List PV) : Option ((Int) × (((Nat) × (List PV)) × ((Int) × ((Nat) × (List PV))))) :=
  bindO (F 120 (RSh.agg [(CK.int .i64), CK.list]) [(PV.agg [(PV.int .i64 p0_0), (PV.list p0_1n p0_1c)]), (PV.agg [(PV.int .i64 p1_0), (PV.list p1_1n p1_1c)])]) fun (y0 : ((Int) × ((Nat) × (List PV)))) =>
  bindO (F 120 (RSh.agg [(CK.int .i64), CK.list]) [(PV.agg [(PV.int .i64 p0_2), (PV.list p0_3n p0_3c)]), (PV.agg [(PV.int .i64 p1_2), (PV.list p1_3n p1_3c)])]) fun (y1 : ((Int) × ((Nat) × (List PV)))) =>
  bindO (F 119 (RSh.agg [(CK.int .i64), CK.list, (CK.int .i64), CK.list]) [(PV.agg [(PV.int .i64 y0.1), (PV.list y0.2.1 y0.2.2)]), (PV.agg [(PV.int .i64 y1.1), (PV.list y1.2.1 y1.2.2)])]) fun (y2 : ((Int) × (((Nat) × (List PV)) × ((Int) × ((Nat) × (List PV)))))) =>
  some (y2.1, ((y2.2.1.1, y2.2.1.2), (y2.2.2.1, (y2.2.2.2.1, y2.2.2.2.2))))
theorem tb_RatioMul_eq (F : FnT) (p0_0 : Int) (p0_1n : Nat) (p0_1c : List PV) (p0_2 : Int) (p0_3n : Nat) (p0_3c : List PV) (p1_0 : Int) (p1_1n : Nat) (p1_1c : List PV) (p1_2 : Int) (p1_3n : Nat) (p1_3c : List PV) : semF (callP F Eb_RatioMul 20) s78 (loopT []) 400 a78 [PV.agg [PV.int .i64 p0_0, PV.list p0_1n p0_1c, PV.int .i64 p0_2, PV.list p0_3n p0_3c], PV.agg [PV.int .i64 p1_0, PV.list p1_1n p1_1c, PV.int .i64 p1_2, PV.list p1_3n p1_3c]] (fun rv => decR (RSh.agg [(CK.int .i64), CK.list, (CK.int .i64), CK.list]) rv.pv) = tb_RatioMul F p0_0 p0_1n p0_1c p0_2 p0_3n p0_3c p1_0 p1_1n p1_1c p1_2 p1_3n p1_3c := by kernel_rfl
noncomputable abbrev Fb_RatioMul (args : List PV) := Fn env 78 (RSh.agg [(CK.int .i64), CK.list, (CK.int .i64), CK.list]) args
theorem Fb_RatioMul_of  (p0_0 : Int) (p0_1n : Nat) (p0_1c : List PV) (p0_2 : Int) (p0_3n : Nat) (p0_3c : List PV) (p1_0 : Int) (p1_1n : Nat) (p1_1c : List PV) (p1_2 : Int) (p1_3n : Nat) (p1_3c : List PV) {res : ((Int) × (((Nat) × (List PV)) × ((Int) × ((Nat) × (List PV)))))} (h : tb_RatioMul (Fn env) p0_0 p0_1n p0_1c p0_2 p0_3n p0_3c p1_0 p1_1n p1_1c p1_2 p1_3n p1_3c = some res) : Fb_RatioMul [PV.agg [PV.int .i64 p0_0, PV.list p0_1n p0_1c, PV.int .i64 p0_2, PV.list p0_3n p0_3c], PV.agg [PV.int .i64 p1_0, PV.list p1_1n p1_1c, PV.int .i64 p1_2, PV.list p1_3n p1_3c]] = some res :=
  fn_of Eb_RatioMul_ok rfl rfl lo_nil ((tb_RatioMul_eq _ _ _ _ _ _ _ _ _ _ _ _ _).trans h)
def Eb_IsSmall : List Entry := [.out 31 (RSh.one CK.bool)]
theorem Eb_IsSmall_ok : ∀ e ∈ Eb_IsSmall, EntOK env e := (ent_out ent_nil)
def tb_IsSmall (F : FnT) (p0_0 : Int) (p0_1 : Int) : Option (Bool) :=
  bindO (F 31 (RSh.one CK.bool) [(PV.int .i64 p0_0), (PV.int .i64 (-1000000000 : Int)), (PV.int .i64 (1000000000 : Int))]) fun (y0 : (Bool)) =>
  bif y0 then
    bindO (F 31 (RSh.one CK.bool) [(PV.int .i64 p0_1), (PV.int .i64 (1 : Int)), (PV.int .i64 (1000000000 : Int))]) fun (y1 : (Bool)) =>
    bif y1 then
      some true
    else some false
  else some false
theorem tb_IsSmall_eq (F : FnT) (p0_0 : Int) (p0_1 : Int) : semF (callP F Eb_IsSmall 20) s123 (loopT []) 400 a123 [PV.agg [PV.int .i64 p0_0, PV.int .i64 p0_1]] (fun rv => decR (RSh.one CK.bool) rv.pv) = tb_IsSmall F p0_0 p0_1 := by kernel_rfl
noncomputable abbrev Fb_IsSmall (args : List PV) := Fn env 123 (RSh.one CK.bool) args
theorem Fb_IsSmall_of  (p0_0 : Int) (p0_1 : Int) {res : (Bool)} (h : tb_IsSmall (Fn env) p0_0 p0_1 = some res) : Fb_IsSmall [PV.agg [PV.int .i64 p0_0, PV.int .i64 p0_1]] = some res :=
  fn_of Eb_IsSmall_ok rfl rfl lo_nil ((tb_IsSmall_eq _ _ _).trans h)
def Eb_RatioFrac : List Entry := [.out 122 (RSh.tup [(Prod.mk false [(CK.int .i64)]), (Prod.mk false [CK.bool])]), .out 123 (RSh.one CK.bool)]
theorem Eb_RatioFrac_ok : ∀ e ∈ Eb_RatioFrac, EntOK env e := (ent_out (ent_out ent_nil))
def tb_RatioFrac (F : FnT) (p0_0 : Int) (p0_1n : Nat) (p0_1c : List PV) (p0_2 : Int) (p0_3n : Nat) (p0_3c : List PV) : Option ((Int) × ((Int) × (Bool))) :=
  bindO (F 122 (RSh.tup [(Prod.mk false [(CK.int .i64)]), (Prod.mk false [CK.bool])]) [(PV.agg [(PV.int .i64 p0_0), (PV.list p0_1n p0_1c)])]) fun (y0 : ((Int) × (Bool))) =>
  bif y0.2 then
    bindO (F 122 (RSh.tup [(Prod.mk false [(CK.int .i64)]), (Prod.mk false [CK.bool])]) [(PV.agg [(PV.int .i64 p0_2), (PV.list p0_3n p0_3c)])]) fun (y1 : ((Int) × (Bool))) =>
    bif y1.2 then
      bindO (F 123 (RSh.one CK.bool) [(PV.agg [(PV.int .i64 y0.1), (PV.int .i64 y1.1)])]) fun (y2 : (Bool)) =>
      bif y2 then
        some (y0.1, (y1.1, true))
      else some ((0 : Int), ((0 : Int), false))
    else some ((0 : Int), ((0 : Int), false))
  else bindO (F 122 (RSh.tup [(Prod.mk false [(CK.int .i64)]), (Prod.mk false [CK.bool])]) [(PV.agg [(PV.int .i64 p0_2), (PV.list p0_3n p0_3c)])]) fun (y3 : ((Int) × (Bool))) =>
  bif y3.2 then
    some ((0 : Int), ((0 : Int), false))
  else some ((0 : Int), ((0 : Int), false))
theorem tb_RatioFrac_eq (F : FnT) (p0_0 : Int) (p0_1n : Nat) (p0_1c : List PV) (p0_2 : Int) (p0_3n : Nat) (p0_3c : List PV) : semF (callP F Eb_RatioFrac 20) s80 (loopT []) 400 a80 [PV.agg [PV.int .i64 p0_0, PV.list p0_1n p0_1c, PV.int .i64 p0_2, PV.list p0_3n p0_3c]] (fun rv => decR (RSh.tup [(Prod.mk true [(CK.int .i64), (CK.int .i64)]), (Prod.mk false [CK.bool])]) rv.pv) = tb_RatioFrac F p0_0 p0_1n p0_1c p0_2 p0_3n p0_3c := by kernel_rfl
noncomputable abbrev Fb_RatioFrac (args : List PV) := Fn env 80 (RSh.tup [(Prod.mk true [(CK.int .i64), (CK.int .i64)]), (Prod.mk false [CK.bool])]) args
theorem Fb_RatioFrac_of  (p0_0 : Int) (p0_1n : Nat) (p0_1c : List PV) (p0_2 : Int) (p0_3n : Nat) (p0_3c : List PV) {res : ((Int) × ((Int) × (Bool)))} (h : tb_RatioFrac (Fn env) p0_0 p0_1n p0_1c p0_2 p0_3n p0_3c = some res) : Fb_RatioFrac [PV.agg [PV.int .i64 p0_0, PV.list p0_1n p0_1c, PV.int .i64 p0_2, PV.list p0_3n p0_3c]] = some res :=
  fn_of Eb_RatioFrac_ok rfl rfl lo_nil ((tb_RatioFrac_eq _ _ _ _ _ _ _).trans h)
end Gv
