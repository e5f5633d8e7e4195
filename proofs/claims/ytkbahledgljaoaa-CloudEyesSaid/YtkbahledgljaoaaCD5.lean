import Derived.Test.YtkbahledgljaoaaCQ2

/- What the functions do, round by round: CD1. -/
namespace Gv
open Go
set_option maxRecDepth 100000

/-! ### cmp_isNaN_int_ -/

def Ecmp_isNaN_int_ : List Entry := []
theorem Ecmp_isNaN_int__ok : ∀ e ∈ Ecmp_isNaN_int_, EntOK env e := ent_nil
theorem Ucmp_isNaN_int_ : uniq ((blocksOf a103.body).map (·.1)) = true := by kernel_rfl
def tcmp_isNaN_int_ (_F : FnT) (p0 : Int) : Option (Bool) :=
  bif (p0 != p0) then
    some true
  else some false
theorem tcmp_isNaN_int__eq (F : FnT) (p0 : Int) : semF (callP F Ecmp_isNaN_int_ 20) s103 (loopT []) 400 a103 [PV.int IntKind.i64 p0] (fun rv => decR (RSh.one CK.bool) rv.pv) = tcmp_isNaN_int_ F p0 := by kernel_rfl
noncomputable abbrev Fcmp_isNaN_int_ (args : List PV) := Fn env 103 (RSh.one CK.bool) args
theorem Fcmp_isNaN_int__of  (p0 : Int) {res : (Bool)} (h : tcmp_isNaN_int_ (Fn env) p0 = some res) : Fcmp_isNaN_int_ [PV.int IntKind.i64 p0] = some res :=
  fn_of Ecmp_isNaN_int__ok rfl rfl lo_nil ((tcmp_isNaN_int__eq _ _).trans h)

/-! ### cmp_Compare_int_ -/

def Ecmp_Compare_int_ : List Entry := [.out 103 (RSh.one CK.bool)]
theorem Ecmp_Compare_int__ok : ∀ e ∈ Ecmp_Compare_int_, EntOK env e := (ent_out ent_nil)
theorem Ucmp_Compare_int_ : uniq ((blocksOf a79.body).map (·.1)) = true := by kernel_rfl
def tcmp_Compare_int_ (F : FnT) (p0 : Int) (p1 : Int) : Option (Int) :=
  bindO (F 103 (RSh.one CK.bool) [(PV.int IntKind.i64 p0)]) fun (y0 : (Bool)) =>
  bif y0 then
    bindO (F 103 (RSh.one CK.bool) [(PV.int IntKind.i64 p1)]) fun (y1 : (Bool)) =>
    bif y1 then
      some (0 : Int)
    else some (-1 : Int)
  else bindO (F 103 (RSh.one CK.bool) [(PV.int IntKind.i64 p1)]) fun (y2 : (Bool)) =>
  bif y2 then
    some (1 : Int)
  else bif (decide (p0 < p1)) then
    some (-1 : Int)
  else bif (decide (p0 > p1)) then
    some (1 : Int)
  else some (0 : Int)
theorem tcmp_Compare_int__eq (F : FnT) (p0 : Int) (p1 : Int) : semF (callP F Ecmp_Compare_int_ 20) s79 (loopT []) 400 a79 [PV.int IntKind.i64 p0, PV.int IntKind.i64 p1] (fun rv => decR (RSh.one (CK.int IntKind.i64)) rv.pv) = tcmp_Compare_int_ F p0 p1 := by kernel_rfl
noncomputable abbrev Fcmp_Compare_int_ (args : List PV) := Fn env 79 (RSh.one (CK.int IntKind.i64)) args
theorem Fcmp_Compare_int__of  (p0 : Int) (p1 : Int) {res : (Int)} (h : tcmp_Compare_int_ (Fn env) p0 p1 = some res) : Fcmp_Compare_int_ [PV.int IntKind.i64 p0, PV.int IntKind.i64 p1] = some res :=
  fn_of Ecmp_Compare_int__ok rfl rfl lo_nil ((tcmp_Compare_int__eq _ _ _).trans h)

/-! ### cmp_Or_3 -/

def Ecmp_Or_3 : List Entry := []
theorem Ecmp_Or_3_ok : ∀ e ∈ Ecmp_Or_3, EntOK env e := ent_nil
theorem Ucmp_Or_3 : uniq ((blocksOf a111.body).map (·.1)) = true := by kernel_rfl
def tcmp_Or_3 (_F : FnT)(a b c : Int) : Option (Int) :=
  bif (a != (0 : Int)) then
    some a
  else bif (b != (0 : Int)) then
    some b
  else bif (c != (0 : Int)) then
    some c
  else some (0 : Int)
theorem tcmp_Or_3_eq (F : FnT)(a b c : Int) : semF (callP F Ecmp_Or_3 20) s111 (loopT []) 400 a111 [.list 3 [.int .i64 a, .int .i64 b, .int .i64 c]] (fun rv => decR (RSh.one (CK.int IntKind.i64)) rv.pv) = tcmp_Or_3 F a b c := by kernel_rfl
noncomputable abbrev Fcmp_Or_3 (args : List PV) := Fn env 111 (RSh.one (CK.int IntKind.i64)) args
theorem Fcmp_Or_3_of (a b c : Int) {res : (Int)} (h : tcmp_Or_3 (Fn env) a b c = some res) : Fcmp_Or_3 [.list 3 [.int .i64 a, .int .i64 b, .int .i64 c]] = some res :=
  fn_of Ecmp_Or_3_ok rfl rfl lo_nil ((tcmp_Or_3_eq _ _ _ _).trans h)

/-! ### slices_Compare___int_int_ -/

def Eslices_Compare___int_int_ : List Entry := [.out 79 (RSh.one (CK.int IntKind.i64))]
theorem Eslices_Compare___int_int__ok : ∀ e ∈ Eslices_Compare___int_int_, EntOK env e := (ent_out ent_nil)
def Tslices_Compare___int_int__0a (n0 : Nat) (c1 : List PV) (n2 : Nat) (c3 : List PV) (n4 : Nat) (c5 : List PV) (i6 : Int) (i7 : Int) : Q := ⟨(tm 36 [(0, (AV.p (PV.list n0 c1))), (1, (AV.p (PV.list n2 c3))), (9, (AV.p (PV.list n4 c5))), (10, (AV.p (PV.int IntKind.i64 i6))), (11, (AV.p (PV.int IntKind.i64 i7)))]), (mm 36 [])⟩
def Xslices_Compare___int_int__0a (y : Int) : Ext × Q := (Ext.ret, ⟨(tm 36 [(4, (AV.p (PV.int IntKind.i64 y)))]), (mm 36 [])⟩)
def Islices_Compare___int_int__0a (q : Ext × S) : Int := (pP_int1 (pA_p (avT q.2 4)))
def Xslices_Compare___int_int__0b (y : Nat × List PV × Nat × List PV) : Ext × Q := (Ext.normal, ⟨(tm 36 [(0, (AV.p (PV.list y.1 y.2.1))), (1, (AV.p (PV.list y.2.2.1 y.2.2.2)))]), (mm 36 [])⟩)
def Islices_Compare___int_int__0b (q : Ext × S) : Nat × List PV × Nat × List PV := ((pP_list0 (pA_p (avT q.2 0))), (pP_list1 (pA_p (avT q.2 0))), (pP_list0 (pA_p (avT q.2 1))), (pP_list1 (pA_p (avT q.2 1))))
abbrev Yslices_Compare___int_int__0 : Type := (Int) ⊕ ((Nat × List PV × Nat × List PV))
def XLslices_Compare___int_int__0 : XL Yslices_Compare___int_int__0 := .more Xslices_Compare___int_int__0a (.one Xslices_Compare___int_int__0b)
def Islices_Compare___int_int__0 (q : Ext × S) : Yslices_Compare___int_int__0 := bif (cE q.1 == 2) then (Sum.inl (Islices_Compare___int_int__0a q)) else (Sum.inr (Islices_Compare___int_int__0b q))
theorem XIslices_Compare___int_int__0a (y : Int) : Islices_Compare___int_int__0 (xe (Xslices_Compare___int_int__0a y)) = (Sum.inl y) := rfl
theorem XIslices_Compare___int_int__0b (y : Nat × List PV × Nat × List PV) : Islices_Compare___int_int__0 (xe (Xslices_Compare___int_int__0b y)) = (Sum.inr y) := rfl
theorem XIslices_Compare___int_int__0 (y : Yslices_Compare___int_int__0) : Islices_Compare___int_int__0 (xe (XLslices_Compare___int_int__0.fn y)) = y := (match y with | .inl y => XIslices_Compare___int_int__0a y | .inr y => XIslices_Compare___int_int__0b y)
noncomputable abbrev Lslices_Compare___int_int__0 : Q → Option Yslices_Compare___int_int__0 := lpO env a112.body 0 XLslices_Compare___int_int__0
noncomputable abbrev Rslices_Compare___int_int__0 : Q → Option (Ext × S) := lpR env a112.body 0
theorem Lslices_Compare___int_int__0a_of {s : Q} {y : Int} (h : Rslices_Compare___int_int__0 s = exO (Xslices_Compare___int_int__0a y)) : Lslices_Compare___int_int__0 s = some (Sum.inl y) := lpO_of Islices_Compare___int_int__0 XIslices_Compare___int_int__0 (y := (Sum.inl y)) h
theorem Lslices_Compare___int_int__0b_of {s : Q} {y : Nat × List PV × Nat × List PV} (h : Rslices_Compare___int_int__0 s = exO (Xslices_Compare___int_int__0b y)) : Lslices_Compare___int_int__0 s = some (Sum.inr y) := lpO_of Islices_Compare___int_int__0 XIslices_Compare___int_int__0 (y := (Sum.inr y)) h
theorem Uslices_Compare___int_int_ : uniq ((blocksOf a112.body).map (·.1)) = true := by kernel_rfl
def Bslices_Compare___int_int__0a (F : FnT) (N : Q → Option (Ext × S)) (E : Ext × Q → Option (Ext × S)) (_L0 : Q → Option Yslices_Compare___int_int__0) (n0 : Nat) (c1 : List PV) (n2 : Nat) (c3 : List PV) (n4 : Nat) (c5 : List PV) (i6 : Int) (i7 : Int) : Option (Ext × S) :=
  bif (decide (i7 < i6)) then
    bif (decide (((0 : Int) ≤ i7) ∧ (i7 < (n4 : Int)))) then
      bindO (intC IntKind.i64 (c5[((Int.toNat i7) * 1)]?)) fun x0 =>
      bif (decide (i7 ≥ (n2 : Int))) then
        E (Xslices_Compare___int_int__0a (1 : Int))
      else bif (decide (((0 : Int) ≤ i7) ∧ (i7 < (n2 : Int)))) then
        bindO (intC IntKind.i64 (c3[((Int.toNat i7) * 1)]?)) fun x1 =>
        bindO (F 79 (RSh.one (CK.int IntKind.i64)) [(PV.int IntKind.i64 x0), (PV.int IntKind.i64 x1)]) fun (y2 : (Int)) =>
        bif (y2 != (0 : Int)) then
          E (Xslices_Compare___int_int__0a y2)
        else N (Tslices_Compare___int_int__0a n0 c1 n2 c3 n4 c5 i6 (w64 (i7 + (1 : Int))))
      else none
    else none
  else E (Xslices_Compare___int_int__0b (n0, c1, n2, c3))
theorem Bslices_Compare___int_int__0a_eq (F : FnT) (N : Q → Option (Ext × S)) (E : Ext × Q → Option (Ext × S)) (L0 : Q → Option Yslices_Compare___int_int__0) (n0 : Nat) (c1 : List PV) (n2 : Nat) (c3 : List PV) (n4 : Nat) (c5 : List PV) (i6 : Int) (i7 : Int) : semB (callP F Eslices_Compare___int_int_ 20) s112 (loopT [⟨0, Yslices_Compare___int_int__0, L0, XLslices_Compare___int_int__0⟩]) 400 (blkIn a112.body 0) N E (Tslices_Compare___int_int__0a n0 c1 n2 c3 n4 c5 i6 i7) = Bslices_Compare___int_int__0a F N E L0 n0 c1 n2 c3 n4 c5 i6 i7 := by kernel_rfl
theorem Rslices_Compare___int_int__0a_of  (n0 : Nat) (c1 : List PV) (n2 : Nat) (c3 : List PV) (n4 : Nat) (c5 : List PV) (i6 : Int) (i7 : Int) {r : Ext × S} (h : Bslices_Compare___int_int__0a (Fn env) Rslices_Compare___int_int__0 exO Lslices_Compare___int_int__0 n0 c1 n2 c3 n4 c5 i6 i7 = some r) : Rslices_Compare___int_int__0 (Tslices_Compare___int_int__0a n0 c1 n2 c3 n4 c5 i6 i7) = some r :=
  lp_of Eslices_Compare___int_int__ok (by kernel_rfl) (lo_cons (lpO_ok Uslices_Compare___int_int_) lo_nil) (by kernel_rfl) ((Bslices_Compare___int_int__0a_eq _ _ _ _ _ _ _ _ _ _ _ _).trans h)
def tslices_Compare___int_int_ (_F : FnT) (L0 : Q → Option Yslices_Compare___int_int__0) (p0n : Nat) (p0c : List PV) (p1n : Nat) (p1c : List PV) : Option (Int) :=
  bindO (L0 (Tslices_Compare___int_int__0a p0n p0c p1n p1c p0n p0c (p0n : Int) (0 : Int))) fun z =>
  Sum.elim (fun y0 =>
    some y0) (fun y1 =>
    bif (decide ((y1.1 : Int) < (y1.2.2.1 : Int))) then
      some (-1 : Int)
    else some (0 : Int)) z
theorem tslices_Compare___int_int__eq (F : FnT) (L0 : Q → Option Yslices_Compare___int_int__0) (p0n : Nat) (p0c : List PV) (p1n : Nat) (p1c : List PV) : semF (callP F Eslices_Compare___int_int_ 20) s112 (loopT [⟨0, Yslices_Compare___int_int__0, L0, XLslices_Compare___int_int__0⟩]) 400 a112 [PV.list p0n p0c, PV.list p1n p1c] (fun rv => decR (RSh.one (CK.int IntKind.i64)) rv.pv) = tslices_Compare___int_int_ F L0 p0n p0c p1n p1c := by kernel_rfl
noncomputable abbrev Fslices_Compare___int_int_ (args : List PV) := Fn env 112 (RSh.one (CK.int IntKind.i64)) args
theorem Fslices_Compare___int_int__of  (p0n : Nat) (p0c : List PV) (p1n : Nat) (p1c : List PV) {res : (Int)} (h : tslices_Compare___int_int_ (Fn env) Lslices_Compare___int_int__0 p0n p0c p1n p1c = some res) : Fslices_Compare___int_int_ [PV.list p0n p0c, PV.list p1n p1c] = some res :=
  fn_of Eslices_Compare___int_int__ok rfl rfl (lo_cons (lpO_ok Uslices_Compare___int_int_) lo_nil) ((tslices_Compare___int_int__eq _ _ _ _ _ _).trans h)

/-! ### _glidepath_cloud_division__compare -/

def E_glidepath_cloud_division__compare : List Entry := [.out 79 (RSh.one (CK.int IntKind.i64)), .out 112 (RSh.one (CK.int IntKind.i64)), .out 111 (RSh.one (CK.int IntKind.i64))]
theorem E_glidepath_cloud_division__compare_ok : ∀ e ∈ E_glidepath_cloud_division__compare, EntOK env e := (ent_out (ent_out (ent_out ent_nil)))
theorem U_glidepath_cloud_division__compare : uniq ((blocksOf a100.body).map (·.1)) = true := by kernel_rfl
def t_glidepath_cloud_division__compare (F : FnT) (p0_0n : Nat) (p0_0c : List PV) (p0_1 : Int) (p1_0n : Nat) (p1_0c : List PV) (p1_1 : Int) : Option (Int) :=
  bindO (F 79 (RSh.one (CK.int IntKind.i64)) [(PV.int IntKind.i64 p0_1), (PV.int IntKind.i64 p1_1)]) fun (y0 : (Int)) =>
  bindO (F 79 (RSh.one (CK.int IntKind.i64)) [(PV.int IntKind.i64 (p0_0n : Int)), (PV.int IntKind.i64 (p1_0n : Int))]) fun (y1 : (Int)) =>
  bindO (F 112 (RSh.one (CK.int IntKind.i64)) [(PV.list p0_0n p0_0c), (PV.list p1_0n p1_0c)]) fun (y2 : (Int)) =>
  bindO (F 111 (RSh.one (CK.int IntKind.i64)) [(PV.list 3 [(PV.int IntKind.i64 y0), (PV.int IntKind.i64 y1), (PV.int IntKind.i64 y2)])]) fun (y3 : (Int)) =>
  some y3
theorem t_glidepath_cloud_division__compare_eq (F : FnT) (p0_0n : Nat) (p0_0c : List PV) (p0_1 : Int) (p1_0n : Nat) (p1_0c : List PV) (p1_1 : Int) : semF (callP F E_glidepath_cloud_division__compare 20) s100 (loopT []) 400 a100 [PV.agg [PV.list p0_0n p0_0c, PV.int IntKind.i64 p0_1], PV.agg [PV.list p1_0n p1_0c, PV.int IntKind.i64 p1_1]] (fun rv => decR (RSh.one (CK.int IntKind.i64)) rv.pv) = t_glidepath_cloud_division__compare F p0_0n p0_0c p0_1 p1_0n p1_0c p1_1 := by kernel_rfl
noncomputable abbrev F_glidepath_cloud_division__compare (args : List PV) := Fn env 100 (RSh.one (CK.int IntKind.i64)) args
theorem F_glidepath_cloud_division__compare_of  (p0_0n : Nat) (p0_0c : List PV) (p0_1 : Int) (p1_0n : Nat) (p1_0c : List PV) (p1_1 : Int) {res : (Int)} (h : t_glidepath_cloud_division__compare (Fn env) p0_0n p0_0c p0_1 p1_0n p1_0c p1_1 = some res) : F_glidepath_cloud_division__compare [PV.agg [PV.list p0_0n p0_0c, PV.int IntKind.i64 p0_1], PV.agg [PV.list p1_0n p1_0c, PV.int IntKind.i64 p1_1]] = some res :=
  fn_of E_glidepath_cloud_division__compare_ok rfl rfl lo_nil ((t_glidepath_cloud_division__compare_eq _ _ _ _ _ _ _).trans h)

/-! ### slices_MinFunc_divisions -/

def Eslices_MinFunc_divisions : List Entry := [.out 100 (RSh.one (CK.int IntKind.i64))]
theorem Eslices_MinFunc_divisions_ok : ∀ e ∈ Eslices_MinFunc_divisions, EntOK env e := (ent_out ent_nil)
def Tslices_MinFunc_divisions_0a (n0 : Nat) (c1 : List PV) (i2 : Int) (n3 : Nat) (c4 : List PV) (i5 : Int) : Q := ⟨(tm 33 [(0, (AV.p (PV.list n0 c1))), (1, (AV.p (PV.fn 100 []))), (4, (AV.loc 4 0)), (5, (AV.loc 5 0)), (6, (AV.p (PV.int IntKind.i64 i2)))]), (mm 33 [(4, (Bk.cells true [AV.nilS, (AV.p (PV.int IntKind.i64 (0 : Int)))])), (5, (Bk.cells true [(AV.p (PV.list n3 c4)), (AV.p (PV.int IntKind.i64 i5))]))])⟩
def Xslices_MinFunc_divisions_0a (y : Nat × List PV × Int) : Ext × Q := (Ext.normal, ⟨(tm 33 [(4, (AV.loc 4 0)), (5, (AV.loc 5 0))]), (mm 33 [(4, (Bk.cells true [AV.nilS, (AV.p (PV.int IntKind.i64 (0 : Int)))])), (5, (Bk.cells true [(AV.p (PV.list y.1 y.2.1)), (AV.p (PV.int IntKind.i64 y.2.2))]))])⟩)
def Islices_MinFunc_divisions_0a (q : Ext × S) : Nat × List PV × Int := ((pP_list0 (pA_p (hdA (pB_cells1 (avM q.2 5))))), (pP_list1 (pA_p (hdA (pB_cells1 (avM q.2 5))))), (pP_int1 (pA_p (hdA (List.tail (pB_cells1 (avM q.2 5)))))))
abbrev Yslices_MinFunc_divisions_0 : Type := Nat × List PV × Int
def XLslices_MinFunc_divisions_0 : XL Yslices_MinFunc_divisions_0 := .one Xslices_MinFunc_divisions_0a
def Islices_MinFunc_divisions_0 (q : Ext × S) : Yslices_MinFunc_divisions_0 := (Islices_MinFunc_divisions_0a q)
theorem XIslices_MinFunc_divisions_0a (y : Nat × List PV × Int) : Islices_MinFunc_divisions_0 (xe (Xslices_MinFunc_divisions_0a y)) = y := rfl
theorem XIslices_MinFunc_divisions_0 (y : Yslices_MinFunc_divisions_0) : Islices_MinFunc_divisions_0 (xe (XLslices_MinFunc_divisions_0.fn y)) = y := XIslices_MinFunc_divisions_0a y
noncomputable abbrev Lslices_MinFunc_divisions_0 : Q → Option Yslices_MinFunc_divisions_0 := lpO env a99.body 0 XLslices_MinFunc_divisions_0
noncomputable abbrev Rslices_MinFunc_divisions_0 : Q → Option (Ext × S) := lpR env a99.body 0
theorem Lslices_MinFunc_divisions_0a_of {s : Q} {y : Nat × List PV × Int} (h : Rslices_MinFunc_divisions_0 s = exO (Xslices_MinFunc_divisions_0a y)) : Lslices_MinFunc_divisions_0 s = some y := lpO_of Islices_MinFunc_divisions_0 XIslices_MinFunc_divisions_0 (y := y) h
theorem Uslices_MinFunc_divisions : uniq ((blocksOf a99.body).map (·.1)) = true := by kernel_rfl
def Bslices_MinFunc_divisions_0a (F : FnT) (N : Q → Option (Ext × S)) (E : Ext × Q → Option (Ext × S)) (_L0 : Q → Option Yslices_MinFunc_divisions_0) (n0 : Nat) (c1 : List PV) (i2 : Int) (n3 : Nat) (c4 : List PV) (i5 : Int) : Option (Ext × S) :=
  bif (decide (i2 < (n0 : Int))) then
    bif (decide (((0 : Int) ≤ i2) ∧ (i2 < (n0 : Int)))) then
      bindO (listC (c1[((Int.toNat i2) * 2)]?)) fun x0 =>
      bindO (intC IntKind.i64 (c1[(((Int.toNat i2) * 2) + 1)]?)) fun x1 =>
      bindO (F 100 (RSh.one (CK.int IntKind.i64)) [(PV.agg [(PV.list x0.1 x0.2), (PV.int IntKind.i64 x1)]), (PV.agg [(PV.list n3 c4), (PV.int IntKind.i64 i5)])]) fun (y2 : (Int)) =>
      bif (decide (y2 < (0 : Int))) then
        bif (decide (((0 : Int) ≤ i2) ∧ (i2 < (n0 : Int)))) then
          bindO (listC (c1[((Int.toNat i2) * 2)]?)) fun x3 =>
          bindO (intC IntKind.i64 (c1[(((Int.toNat i2) * 2) + 1)]?)) fun x4 =>
          N (Tslices_MinFunc_divisions_0a n0 c1 (w64 (i2 + (1 : Int))) x3.1 x3.2 x4)
        else none
      else N (Tslices_MinFunc_divisions_0a n0 c1 (w64 (i2 + (1 : Int))) n3 c4 i5)
    else none
  else E (Xslices_MinFunc_divisions_0a (n3, c4, i5))
theorem Bslices_MinFunc_divisions_0a_eq (F : FnT) (N : Q → Option (Ext × S)) (E : Ext × Q → Option (Ext × S)) (L0 : Q → Option Yslices_MinFunc_divisions_0) (n0 : Nat) (c1 : List PV) (i2 : Int) (n3 : Nat) (c4 : List PV) (i5 : Int) : semB (callP F Eslices_MinFunc_divisions 20) s99 (loopT [⟨0, Yslices_MinFunc_divisions_0, L0, XLslices_MinFunc_divisions_0⟩]) 400 (blkIn a99.body 0) N E (Tslices_MinFunc_divisions_0a n0 c1 i2 n3 c4 i5) = Bslices_MinFunc_divisions_0a F N E L0 n0 c1 i2 n3 c4 i5 := by kernel_rfl
theorem Rslices_MinFunc_divisions_0a_of  (n0 : Nat) (c1 : List PV) (i2 : Int) (n3 : Nat) (c4 : List PV) (i5 : Int) {r : Ext × S} (h : Bslices_MinFunc_divisions_0a (Fn env) Rslices_MinFunc_divisions_0 exO Lslices_MinFunc_divisions_0 n0 c1 i2 n3 c4 i5 = some r) : Rslices_MinFunc_divisions_0 (Tslices_MinFunc_divisions_0a n0 c1 i2 n3 c4 i5) = some r :=
  lp_of Eslices_MinFunc_divisions_ok (by kernel_rfl) (lo_cons (lpO_ok Uslices_MinFunc_divisions) lo_nil) (by kernel_rfl) ((Bslices_MinFunc_divisions_0a_eq _ _ _ _ _ _ _ _ _ _).trans h)
def tslices_MinFunc_divisions (_F : FnT) (L0 : Q → Option Yslices_MinFunc_divisions_0)(n : Nat) (cs : List PV) : Option (((Nat) × (List PV)) × (Int)) :=
  bif (decide ((n : Int) < (1 : Int))) then
    none
  else bif (decide (((0 : Int) ≤ (0 : Int)) ∧ ((0 : Int) < (n : Int)))) then
    bindO (listC (cs[0]?)) fun x0 =>
    bindO (intC IntKind.i64 (cs[1]?)) fun x1 =>
    bindO (L0 (Tslices_MinFunc_divisions_0a n cs (1 : Int) x0.1 x0.2 x1)) fun y2 =>
    some ((y2.1, y2.2.1), y2.2.2)
  else none
theorem tslices_MinFunc_divisions_eq (F : FnT) (L0 : Q → Option Yslices_MinFunc_divisions_0)(n : Nat) (cs : List PV) : semF (callP F Eslices_MinFunc_divisions 20) s99 (loopT [⟨0, Yslices_MinFunc_divisions_0, L0, XLslices_MinFunc_divisions_0⟩]) 400 a99 [.list n cs, .fn 100 []] (fun rv => decR (RSh.agg [CK.list, (CK.int IntKind.i64)]) rv.pv) = tslices_MinFunc_divisions F L0 n cs := by kernel_rfl
noncomputable abbrev Fslices_MinFunc_divisions (args : List PV) := Fn env 99 (RSh.agg [CK.list, (CK.int IntKind.i64)]) args
theorem Fslices_MinFunc_divisions_of (n : Nat) (cs : List PV) {res : (((Nat) × (List PV)) × (Int))} (h : tslices_MinFunc_divisions (Fn env) Lslices_MinFunc_divisions_0 n cs = some res) : Fslices_MinFunc_divisions [.list n cs, .fn 100 []] = some res :=
  fn_of Eslices_MinFunc_divisions_ok rfl rfl (lo_cons (lpO_ok Uslices_MinFunc_divisions) lo_nil) ((tslices_MinFunc_divisions_eq _ _ _ _).trans h)

/-! ### _glidepath_cloud_profile__divisionAfter -/

def E_glidepath_cloud_profile__divisionAfter : List Entry := [.out 66 (RSh.one (CK.int IntKind.i64)), .out 98 (RSh.agg [CK.list, (CK.int IntKind.i64)]), .out 99 (RSh.agg [CK.list, (CK.int IntKind.i64)])]
theorem E_glidepath_cloud_profile__divisionAfter_ok : ∀ e ∈ E_glidepath_cloud_profile__divisionAfter, EntOK env e := (ent_out (ent_out (ent_out ent_nil)))
def T_glidepath_cloud_profile__divisionAfter_0a (n0 : Nat) (c1 : List PV) (n2 : Nat) (c3 : List PV) (i4 : Int) (n5 : Nat) (c6 : List PV) (i7 : Int) : Q := ⟨(tm 33 [(0, (AV.p (PV.list n0 c1))), (1, (AV.p (PV.list n2 c3))), (2, (AV.p (PV.int IntKind.i64 i4))), (6, (AV.loc 6 0)), (7, AV.nilS), (10, (AV.p (PV.list n5 c6))), (11, (AV.p (PV.int IntKind.i64 i7))), (12, (AV.p (PV.int IntKind.i64 (0 : Int))))]), (mm 33 [(6, (Bk.cells true [AV.nilS, (AV.p (PV.int IntKind.i64 (0 : Int)))]))])⟩
def T_glidepath_cloud_profile__divisionAfter_0b (n0 : Nat) (c1 : List PV) (n2 : Nat) (c3 : List PV) (i4 : Int) (n5 : Nat) (c6 : List PV) (n7 : Nat) (c8 : List PV) (i9 : Int) (i10 : Int) (n11 : Nat) : Q := ⟨(tm 33 [(0, (AV.p (PV.list n0 c1))), (1, (AV.p (PV.list n2 c3))), (2, (AV.p (PV.int IntKind.i64 i4))), (6, (AV.loc 6 0)), (7, (AV.app 29 n5 2 c6)), (10, (AV.p (PV.list n7 c8))), (11, (AV.p (PV.int IntKind.i64 i9))), (12, (AV.p (PV.int IntKind.i64 i10)))]), (mm 33 [(6, (Bk.cells true [AV.nilS, (AV.p (PV.int IntKind.i64 (0 : Int)))])), (29, (Bk.buf n11))])⟩
def X_glidepath_cloud_profile__divisionAfter_0a (_y : Unit) : Ext × Q := (Ext.normal, ⟨(tm 33 [(6, (AV.loc 6 0)), (7, AV.nilS)]), (mm 33 [(6, (Bk.cells true [AV.nilS, (AV.p (PV.int IntKind.i64 (0 : Int)))]))])⟩)
def I_glidepath_cloud_profile__divisionAfter_0a (_q : Ext × S) : Unit := ()
def X_glidepath_cloud_profile__divisionAfter_0b (y : Nat × List PV × Nat) : Ext × Q := (Ext.normal, ⟨(tm 33 [(6, (AV.loc 6 0)), (7, (AV.app 29 y.1 2 y.2.1))]), (mm 33 [(6, (Bk.cells true [AV.nilS, (AV.p (PV.int IntKind.i64 (0 : Int)))])), (29, (Bk.buf y.2.2))])⟩)
def I_glidepath_cloud_profile__divisionAfter_0b (q : Ext × S) : Nat × List PV × Nat := ((pA_app1 (avT q.2 7)), (pA_app3 (avT q.2 7)), (pB_buf0 (avM q.2 29)))
abbrev Y_glidepath_cloud_profile__divisionAfter_0 : Type := (Unit) ⊕ ((Nat × List PV × Nat))
def XL_glidepath_cloud_profile__divisionAfter_0 : XL Y_glidepath_cloud_profile__divisionAfter_0 := .more X_glidepath_cloud_profile__divisionAfter_0a (.one X_glidepath_cloud_profile__divisionAfter_0b)
def I_glidepath_cloud_profile__divisionAfter_0 (q : Ext × S) : Y_glidepath_cloud_profile__divisionAfter_0 := bif (cA (avT q.2 7) == 1) then (Sum.inl (I_glidepath_cloud_profile__divisionAfter_0a q)) else (Sum.inr (I_glidepath_cloud_profile__divisionAfter_0b q))
theorem XI_glidepath_cloud_profile__divisionAfter_0a (y : Unit) : I_glidepath_cloud_profile__divisionAfter_0 (xe (X_glidepath_cloud_profile__divisionAfter_0a y)) = (Sum.inl y) := rfl
theorem XI_glidepath_cloud_profile__divisionAfter_0b (y : Nat × List PV × Nat) : I_glidepath_cloud_profile__divisionAfter_0 (xe (X_glidepath_cloud_profile__divisionAfter_0b y)) = (Sum.inr y) := rfl
theorem XI_glidepath_cloud_profile__divisionAfter_0 (y : Y_glidepath_cloud_profile__divisionAfter_0) : I_glidepath_cloud_profile__divisionAfter_0 (xe (XL_glidepath_cloud_profile__divisionAfter_0.fn y)) = y := (match y with | .inl y => XI_glidepath_cloud_profile__divisionAfter_0a y | .inr y => XI_glidepath_cloud_profile__divisionAfter_0b y)
noncomputable abbrev L_glidepath_cloud_profile__divisionAfter_0 : Q → Option Y_glidepath_cloud_profile__divisionAfter_0 := lpO env a68.body 0 XL_glidepath_cloud_profile__divisionAfter_0
noncomputable abbrev R_glidepath_cloud_profile__divisionAfter_0 : Q → Option (Ext × S) := lpR env a68.body 0
theorem L_glidepath_cloud_profile__divisionAfter_0a_of {s : Q} {y : Unit} (h : R_glidepath_cloud_profile__divisionAfter_0 s = exO (X_glidepath_cloud_profile__divisionAfter_0a y)) : L_glidepath_cloud_profile__divisionAfter_0 s = some (Sum.inl y) := lpO_of I_glidepath_cloud_profile__divisionAfter_0 XI_glidepath_cloud_profile__divisionAfter_0 (y := (Sum.inl y)) h
theorem L_glidepath_cloud_profile__divisionAfter_0b_of {s : Q} {y : Nat × List PV × Nat} (h : R_glidepath_cloud_profile__divisionAfter_0 s = exO (X_glidepath_cloud_profile__divisionAfter_0b y)) : L_glidepath_cloud_profile__divisionAfter_0 s = some (Sum.inr y) := lpO_of I_glidepath_cloud_profile__divisionAfter_0 XI_glidepath_cloud_profile__divisionAfter_0 (y := (Sum.inr y)) h
theorem U_glidepath_cloud_profile__divisionAfter : uniq ((blocksOf a68.body).map (·.1)) = true := by kernel_rfl
def B_glidepath_cloud_profile__divisionAfter_0a (F : FnT) (N : Q → Option (Ext × S)) (E : Ext × Q → Option (Ext × S)) (_L0 : Q → Option Y_glidepath_cloud_profile__divisionAfter_0) (n0 : Nat) (c1 : List PV) (n2 : Nat) (c3 : List PV) (i4 : Int) (n5 : Nat) (c6 : List PV) (i7 : Int) : Option (Ext × S) :=
  bif (decide ((0 : Int) < i7)) then
    bif (decide (((0 : Int) ≤ (0 : Int)) ∧ ((0 : Int) < (n5 : Int)))) then
      bindO (listC (c6[0]?)) fun x0 =>
      bindO (intC IntKind.i64 (c6[1]?)) fun x1 =>
      bindO (F 66 (RSh.one (CK.int IntKind.i64)) [(PV.list n0 c1), (PV.int IntKind.i64 (0 : Int)), (PV.int IntKind.i64 (n2 : Int))]) fun (y2 : (Int)) =>
      bindO (F 98 (RSh.agg [CK.list, (CK.int IntKind.i64)]) [(PV.agg [(PV.list x0.1 x0.2), (PV.int IntKind.i64 x1)]), (PV.int IntKind.i64 (0 : Int)), (PV.int IntKind.i64 (w64 (y2 + i4)))]) fun (y3 : (((Nat) × (List PV)) × (Int))) =>
      N (T_glidepath_cloud_profile__divisionAfter_0b n0 c1 n2 c3 i4 1 [(PV.list y3.1.1 y3.1.2), (PV.int IntKind.i64 y3.2)] n5 c6 i7 (1 : Int) 1)
    else none
  else E (X_glidepath_cloud_profile__divisionAfter_0a ())
theorem B_glidepath_cloud_profile__divisionAfter_0a_eq (F : FnT) (N : Q → Option (Ext × S)) (E : Ext × Q → Option (Ext × S)) (L0 : Q → Option Y_glidepath_cloud_profile__divisionAfter_0) (n0 : Nat) (c1 : List PV) (n2 : Nat) (c3 : List PV) (i4 : Int) (n5 : Nat) (c6 : List PV) (i7 : Int) : semB (callP F E_glidepath_cloud_profile__divisionAfter 20) s68 (loopT [⟨0, Y_glidepath_cloud_profile__divisionAfter_0, L0, XL_glidepath_cloud_profile__divisionAfter_0⟩]) 400 (blkIn a68.body 0) N E (T_glidepath_cloud_profile__divisionAfter_0a n0 c1 n2 c3 i4 n5 c6 i7) = B_glidepath_cloud_profile__divisionAfter_0a F N E L0 n0 c1 n2 c3 i4 n5 c6 i7 := by kernel_rfl
theorem R_glidepath_cloud_profile__divisionAfter_0a_of  (n0 : Nat) (c1 : List PV) (n2 : Nat) (c3 : List PV) (i4 : Int) (n5 : Nat) (c6 : List PV) (i7 : Int) {r : Ext × S} (h : B_glidepath_cloud_profile__divisionAfter_0a (Fn env) R_glidepath_cloud_profile__divisionAfter_0 exO L_glidepath_cloud_profile__divisionAfter_0 n0 c1 n2 c3 i4 n5 c6 i7 = some r) : R_glidepath_cloud_profile__divisionAfter_0 (T_glidepath_cloud_profile__divisionAfter_0a n0 c1 n2 c3 i4 n5 c6 i7) = some r :=
  lp_of E_glidepath_cloud_profile__divisionAfter_ok (by kernel_rfl) (lo_cons (lpO_ok U_glidepath_cloud_profile__divisionAfter) lo_nil) (by kernel_rfl) ((B_glidepath_cloud_profile__divisionAfter_0a_eq _ _ _ _ _ _ _ _ _ _ _ _).trans h)
def B_glidepath_cloud_profile__divisionAfter_0b (F : FnT) (N : Q → Option (Ext × S)) (E : Ext × Q → Option (Ext × S)) (_L0 : Q → Option Y_glidepath_cloud_profile__divisionAfter_0) (n0 : Nat) (c1 : List PV) (n2 : Nat) (c3 : List PV) (i4 : Int) (n5 : Nat) (c6 : List PV) (n7 : Nat) (c8 : List PV) (i9 : Int) (i10 : Int) (n11 : Nat) : Option (Ext × S) :=
  bif (decide (i10 < i9)) then
    bif (decide (((0 : Int) ≤ i10) ∧ (i10 < (n7 : Int)))) then
      bindO (listC (c8[((Int.toNat i10) * 2)]?)) fun x0 =>
      bindO (intC IntKind.i64 (c8[(((Int.toNat i10) * 2) + 1)]?)) fun x1 =>
      bindO (F 66 (RSh.one (CK.int IntKind.i64)) [(PV.list n0 c1), (PV.int IntKind.i64 i10), (PV.int IntKind.i64 (n2 : Int))]) fun (y2 : (Int)) =>
      bindO (F 98 (RSh.agg [CK.list, (CK.int IntKind.i64)]) [(PV.agg [(PV.list x0.1 x0.2), (PV.int IntKind.i64 x1)]), (PV.int IntKind.i64 i10), (PV.int IntKind.i64 (w64 (y2 + i4)))]) fun (y3 : (((Nat) × (List PV)) × (Int))) =>
      bif (decide ((n11 = n5) ∧ ((n5 + 1) ≤ big))) then
        N (T_glidepath_cloud_profile__divisionAfter_0b n0 c1 n2 c3 i4 (n5 + 1) (c6 ++ [(PV.list y3.1.1 y3.1.2), (PV.int IntKind.i64 y3.2)]) n7 c8 i9 (w64 (i10 + (1 : Int))) (n5 + 1))
      else none
    else none
  else E (X_glidepath_cloud_profile__divisionAfter_0b (n5, c6, n11))
theorem B_glidepath_cloud_profile__divisionAfter_0b_eq (F : FnT) (N : Q → Option (Ext × S)) (E : Ext × Q → Option (Ext × S)) (L0 : Q → Option Y_glidepath_cloud_profile__divisionAfter_0) (n0 : Nat) (c1 : List PV) (n2 : Nat) (c3 : List PV) (i4 : Int) (n5 : Nat) (c6 : List PV) (n7 : Nat) (c8 : List PV) (i9 : Int) (i10 : Int) (n11 : Nat) : semB (callP F E_glidepath_cloud_profile__divisionAfter 20) s68 (loopT [⟨0, Y_glidepath_cloud_profile__divisionAfter_0, L0, XL_glidepath_cloud_profile__divisionAfter_0⟩]) 400 (blkIn a68.body 0) N E (T_glidepath_cloud_profile__divisionAfter_0b n0 c1 n2 c3 i4 n5 c6 n7 c8 i9 i10 n11) = B_glidepath_cloud_profile__divisionAfter_0b F N E L0 n0 c1 n2 c3 i4 n5 c6 n7 c8 i9 i10 n11 := by kernel_rfl
theorem R_glidepath_cloud_profile__divisionAfter_0b_of  (n0 : Nat) (c1 : List PV) (n2 : Nat) (c3 : List PV) (i4 : Int) (n5 : Nat) (c6 : List PV) (n7 : Nat) (c8 : List PV) (i9 : Int) (i10 : Int) (n11 : Nat) {r : Ext × S} (h : B_glidepath_cloud_profile__divisionAfter_0b (Fn env) R_glidepath_cloud_profile__divisionAfter_0 exO L_glidepath_cloud_profile__divisionAfter_0 n0 c1 n2 c3 i4 n5 c6 n7 c8 i9 i10 n11 = some r) : R_glidepath_cloud_profile__divisionAfter_0 (T_glidepath_cloud_profile__divisionAfter_0b n0 c1 n2 c3 i4 n5 c6 n7 c8 i9 i10 n11) = some r :=
  lp_of E_glidepath_cloud_profile__divisionAfter_ok (by kernel_rfl) (lo_cons (lpO_ok U_glidepath_cloud_profile__divisionAfter) lo_nil) (by kernel_rfl) ((B_glidepath_cloud_profile__divisionAfter_0b_eq _ _ _ _ _ _ _ _ _ _ _ _ _ _ _ _).trans h)
def t_glidepath_cloud_profile__divisionAfter (F : FnT) (L0 : Q → Option Y_glidepath_cloud_profile__divisionAfter_0) (p0n : Nat) (p0c : List PV) (p1n : Nat) (p1c : List PV) (p2 : Int) : Option (((Nat) × (List PV)) × (Int)) :=
  bindO (L0 (T_glidepath_cloud_profile__divisionAfter_0a p0n p0c p1n p1c p2 p1n p1c (p1n : Int))) fun z =>
  Sum.elim (fun _y0 =>
    bindO (F 99 (RSh.agg [CK.list, (CK.int IntKind.i64)]) [(PV.list 0 []), (PV.fn 100 [])]) fun (y1 : (((Nat) × (List PV)) × (Int))) =>
    some ((y1.1.1, y1.1.2), y1.2)) (fun y2 =>
    bindO (F 99 (RSh.agg [CK.list, (CK.int IntKind.i64)]) [(PV.list y2.1 y2.2.1), (PV.fn 100 [])]) fun (y3 : (((Nat) × (List PV)) × (Int))) =>
    some ((y3.1.1, y3.1.2), y3.2)) z
theorem t_glidepath_cloud_profile__divisionAfter_eq (F : FnT) (L0 : Q → Option Y_glidepath_cloud_profile__divisionAfter_0) (p0n : Nat) (p0c : List PV) (p1n : Nat) (p1c : List PV) (p2 : Int) : semF (callP F E_glidepath_cloud_profile__divisionAfter 20) s68 (loopT [⟨0, Y_glidepath_cloud_profile__divisionAfter_0, L0, XL_glidepath_cloud_profile__divisionAfter_0⟩]) 400 a68 [PV.list p0n p0c, PV.list p1n p1c, PV.int IntKind.i64 p2] (fun rv => decR (RSh.agg [CK.list, (CK.int IntKind.i64)]) rv.pv) = t_glidepath_cloud_profile__divisionAfter F L0 p0n p0c p1n p1c p2 := by kernel_rfl
noncomputable abbrev F_glidepath_cloud_profile__divisionAfter (args : List PV) := Fn env 68 (RSh.agg [CK.list, (CK.int IntKind.i64)]) args
theorem F_glidepath_cloud_profile__divisionAfter_of  (p0n : Nat) (p0c : List PV) (p1n : Nat) (p1c : List PV) (p2 : Int) {res : (((Nat) × (List PV)) × (Int))} (h : t_glidepath_cloud_profile__divisionAfter (Fn env) L_glidepath_cloud_profile__divisionAfter_0 p0n p0c p1n p1c p2 = some res) : F_glidepath_cloud_profile__divisionAfter [PV.list p0n p0c, PV.list p1n p1c, PV.int IntKind.i64 p2] = some res :=
  fn_of E_glidepath_cloud_profile__divisionAfter_ok rfl rfl (lo_cons (lpO_ok U_glidepath_cloud_profile__divisionAfter) lo_nil) ((t_glidepath_cloud_profile__divisionAfter_eq _ _ _ _ _ _ _).trans h)

/-! ### cloud_SegmentsOf -/

def Ecloud_SegmentsOf : List Entry := [.out 55 (RSh.one (CK.int IntKind.i64)), .out 67 (RSh.one (CK.int IntKind.i64)), .out 54 (RSh.one (CK.int IntKind.i64)), .out 68 (RSh.agg [CK.list, (CK.int IntKind.i64)])]
theorem Ecloud_SegmentsOf_ok : ∀ e ∈ Ecloud_SegmentsOf, EntOK env e := (ent_out (ent_out (ent_out (ent_out ent_nil))))
def Tcloud_SegmentsOf_0a (n0 : Nat) (c1 : List PV) (i2 : Int) (i3 : Int) : Q := ⟨(tm 42 [(0, (AV.p (PV.list n0 c1))), (1, (AV.p (PV.int IntKind.i64 i2))), (8, (AV.lit 1 2 [(PV.list 0 []), (PV.int IntKind.i64 (0 : Int))])), (22, (AV.p (PV.int IntKind.i64 i3))), (23, (AV.p (PV.int IntKind.i64 (0 : Int))))]), (mm 42 [])⟩
def Tcloud_SegmentsOf_0b (n0 : Nat) (c1 : List PV) (i2 : Int) (n3 : Nat) (c4 : List PV) (i5 : Int) (i6 : Int) (n7 : Nat) : Q := ⟨(tm 42 [(0, (AV.p (PV.list n0 c1))), (1, (AV.p (PV.int IntKind.i64 i2))), (8, (AV.app 31 n3 2 c4)), (22, (AV.p (PV.int IntKind.i64 i5))), (23, (AV.p (PV.int IntKind.i64 i6)))]), (mm 42 [(31, (Bk.buf n7))])⟩
def Xcloud_SegmentsOf_0a (y : Nat × List PV) : Ext × Q := (Ext.normal, ⟨(tm 42 [(0, (AV.p (PV.list y.1 y.2))), (8, (AV.lit 1 2 [(PV.list 0 []), (PV.int IntKind.i64 (0 : Int))]))]), (mm 42 [])⟩)
def Icloud_SegmentsOf_0a (q : Ext × S) : Nat × List PV := ((pP_list0 (pA_p (avT q.2 0))), (pP_list1 (pA_p (avT q.2 0))))
def Xcloud_SegmentsOf_0b (y : Nat × List PV × Nat × List PV × Nat) : Ext × Q := (Ext.normal, ⟨(tm 42 [(0, (AV.p (PV.list y.1 y.2.1))), (8, (AV.app 31 y.2.2.1 2 y.2.2.2.1))]), (mm 42 [(31, (Bk.buf y.2.2.2.2))])⟩)
def Icloud_SegmentsOf_0b (q : Ext × S) : Nat × List PV × Nat × List PV × Nat := ((pP_list0 (pA_p (avT q.2 0))), (pP_list1 (pA_p (avT q.2 0))), (pA_app1 (avT q.2 8)), (pA_app3 (avT q.2 8)), (pB_buf0 (avM q.2 31)))
abbrev Ycloud_SegmentsOf_0 : Type := (Nat × List PV) ⊕ ((Nat × List PV × Nat × List PV × Nat))
def XLcloud_SegmentsOf_0 : XL Ycloud_SegmentsOf_0 := .more Xcloud_SegmentsOf_0a (.one Xcloud_SegmentsOf_0b)
def Icloud_SegmentsOf_0 (q : Ext × S) : Ycloud_SegmentsOf_0 := bif (cA (avT q.2 8) == 4) then (Sum.inl (Icloud_SegmentsOf_0a q)) else (Sum.inr (Icloud_SegmentsOf_0b q))
theorem XIcloud_SegmentsOf_0a (y : Nat × List PV) : Icloud_SegmentsOf_0 (xe (Xcloud_SegmentsOf_0a y)) = (Sum.inl y) := rfl
theorem XIcloud_SegmentsOf_0b (y : Nat × List PV × Nat × List PV × Nat) : Icloud_SegmentsOf_0 (xe (Xcloud_SegmentsOf_0b y)) = (Sum.inr y) := rfl
theorem XIcloud_SegmentsOf_0 (y : Ycloud_SegmentsOf_0) : Icloud_SegmentsOf_0 (xe (XLcloud_SegmentsOf_0.fn y)) = y := (match y with | .inl y => XIcloud_SegmentsOf_0a y | .inr y => XIcloud_SegmentsOf_0b y)
noncomputable abbrev Lcloud_SegmentsOf_0 : Q → Option Ycloud_SegmentsOf_0 := lpO env a22.body 0 XLcloud_SegmentsOf_0
noncomputable abbrev Rcloud_SegmentsOf_0 : Q → Option (Ext × S) := lpR env a22.body 0
theorem Lcloud_SegmentsOf_0a_of {s : Q} {y : Nat × List PV} (h : Rcloud_SegmentsOf_0 s = exO (Xcloud_SegmentsOf_0a y)) : Lcloud_SegmentsOf_0 s = some (Sum.inl y) := lpO_of Icloud_SegmentsOf_0 XIcloud_SegmentsOf_0 (y := (Sum.inl y)) h
theorem Lcloud_SegmentsOf_0b_of {s : Q} {y : Nat × List PV × Nat × List PV × Nat} (h : Rcloud_SegmentsOf_0 s = exO (Xcloud_SegmentsOf_0b y)) : Lcloud_SegmentsOf_0 s = some (Sum.inr y) := lpO_of Icloud_SegmentsOf_0 XIcloud_SegmentsOf_0 (y := (Sum.inr y)) h
theorem Ucloud_SegmentsOf : uniq ((blocksOf a22.body).map (·.1)) = true := by kernel_rfl
def Bcloud_SegmentsOf_0a (F : FnT) (N : Q → Option (Ext × S)) (E : Ext × Q → Option (Ext × S)) (_L0 : Q → Option Ycloud_SegmentsOf_0) (n0 : Nat) (c1 : List PV) (i2 : Int) (i3 : Int) : Option (Ext × S) :=
  bif (decide ((0 : Int) < i3)) then
    bindO (F 68 (RSh.agg [CK.list, (CK.int IntKind.i64)]) [(PV.list n0 c1), (PV.list 1 [(PV.list 0 []), (PV.int IntKind.i64 (0 : Int))]), (PV.int IntKind.i64 i2)]) fun (y0 : (((Nat) × (List PV)) × (Int))) =>
    N (Tcloud_SegmentsOf_0b n0 c1 i2 2 [(PV.list 0 []), (PV.int IntKind.i64 (0 : Int)), (PV.list y0.1.1 y0.1.2), (PV.int IntKind.i64 y0.2)] i3 (1 : Int) 2)
  else E (Xcloud_SegmentsOf_0a (n0, c1))
theorem Bcloud_SegmentsOf_0a_eq (F : FnT) (N : Q → Option (Ext × S)) (E : Ext × Q → Option (Ext × S)) (L0 : Q → Option Ycloud_SegmentsOf_0) (n0 : Nat) (c1 : List PV) (i2 : Int) (i3 : Int) : semB (callP F Ecloud_SegmentsOf 20) s22 (loopT [⟨0, Ycloud_SegmentsOf_0, L0, XLcloud_SegmentsOf_0⟩]) 400 (blkIn a22.body 0) N E (Tcloud_SegmentsOf_0a n0 c1 i2 i3) = Bcloud_SegmentsOf_0a F N E L0 n0 c1 i2 i3 := by kernel_rfl
theorem Rcloud_SegmentsOf_0a_of  (n0 : Nat) (c1 : List PV) (i2 : Int) (i3 : Int) {r : Ext × S} (h : Bcloud_SegmentsOf_0a (Fn env) Rcloud_SegmentsOf_0 exO Lcloud_SegmentsOf_0 n0 c1 i2 i3 = some r) : Rcloud_SegmentsOf_0 (Tcloud_SegmentsOf_0a n0 c1 i2 i3) = some r :=
  lp_of Ecloud_SegmentsOf_ok (by kernel_rfl) (lo_cons (lpO_ok Ucloud_SegmentsOf) lo_nil) (by kernel_rfl) ((Bcloud_SegmentsOf_0a_eq _ _ _ _ _ _ _ _).trans h)
def Bcloud_SegmentsOf_0b (F : FnT) (N : Q → Option (Ext × S)) (E : Ext × Q → Option (Ext × S)) (_L0 : Q → Option Ycloud_SegmentsOf_0) (n0 : Nat) (c1 : List PV) (i2 : Int) (n3 : Nat) (c4 : List PV) (i5 : Int) (i6 : Int) (n7 : Nat) : Option (Ext × S) :=
  bif (decide (i6 < i5)) then
    bindO (F 68 (RSh.agg [CK.list, (CK.int IntKind.i64)]) [(PV.list n0 c1), (PV.list n3 c4), (PV.int IntKind.i64 i2)]) fun (y0 : (((Nat) × (List PV)) × (Int))) =>
    bif (decide ((n7 = n3) ∧ ((n3 + 1) ≤ big))) then
      N (Tcloud_SegmentsOf_0b n0 c1 i2 (n3 + 1) (c4 ++ [(PV.list y0.1.1 y0.1.2), (PV.int IntKind.i64 y0.2)]) i5 (w64 (i6 + (1 : Int))) (n3 + 1))
    else none
  else E (Xcloud_SegmentsOf_0b (n0, c1, n3, c4, n7))
theorem Bcloud_SegmentsOf_0b_eq (F : FnT) (N : Q → Option (Ext × S)) (E : Ext × Q → Option (Ext × S)) (L0 : Q → Option Ycloud_SegmentsOf_0) (n0 : Nat) (c1 : List PV) (i2 : Int) (n3 : Nat) (c4 : List PV) (i5 : Int) (i6 : Int) (n7 : Nat) : semB (callP F Ecloud_SegmentsOf 20) s22 (loopT [⟨0, Ycloud_SegmentsOf_0, L0, XLcloud_SegmentsOf_0⟩]) 400 (blkIn a22.body 0) N E (Tcloud_SegmentsOf_0b n0 c1 i2 n3 c4 i5 i6 n7) = Bcloud_SegmentsOf_0b F N E L0 n0 c1 i2 n3 c4 i5 i6 n7 := by kernel_rfl
theorem Rcloud_SegmentsOf_0b_of  (n0 : Nat) (c1 : List PV) (i2 : Int) (n3 : Nat) (c4 : List PV) (i5 : Int) (i6 : Int) (n7 : Nat) {r : Ext × S} (h : Bcloud_SegmentsOf_0b (Fn env) Rcloud_SegmentsOf_0 exO Lcloud_SegmentsOf_0 n0 c1 i2 n3 c4 i5 i6 n7 = some r) : Rcloud_SegmentsOf_0 (Tcloud_SegmentsOf_0b n0 c1 i2 n3 c4 i5 i6 n7) = some r :=
  lp_of Ecloud_SegmentsOf_ok (by kernel_rfl) (lo_cons (lpO_ok Ucloud_SegmentsOf) lo_nil) (by kernel_rfl) ((Bcloud_SegmentsOf_0b_eq _ _ _ _ _ _ _ _ _ _ _ _).trans h)
def tcloud_SegmentsOf (F : FnT) (L0 : Q → Option Ycloud_SegmentsOf_0) (p0n : Nat) (p0c : List PV) (p1 : Int) : Option (((Nat) × (List PV)) × ((Int) × (Int))) :=
  bindO (F 55 (RSh.one (CK.int IntKind.i64)) [(PV.list p0n p0c)]) fun (y0 : (Int)) =>
  bindO (F 67 (RSh.one (CK.int IntKind.i64)) [(PV.int IntKind.i64 p1)]) fun (y1 : (Int)) =>
  bindO (F 54 (RSh.one (CK.int IntKind.i64)) [(PV.list 2 [(PV.int IntKind.i64 y0), (PV.int IntKind.i64 y1)])]) fun (y2 : (Int)) =>
  bif (y2 != (0 : Int)) then
    some ((0, []), ((0 : Int), y2))
  else bindO (L0 (Tcloud_SegmentsOf_0a p0n p0c p1 (p0n : Int))) fun z =>
  Sum.elim (fun y3 =>
    bif (decide (((0 : Int) ≤ (y3.1 : Int)) ∧ ((y3.1 : Int) < (1 : Int)))) then
      bindO (listC ([(PV.list 0 []), (PV.int IntKind.i64 (0 : Int))][((Int.toNat (y3.1 : Int)) * 2)]?)) fun x4 =>
      bindO (intC IntKind.i64 ([(PV.list 0 []), (PV.int IntKind.i64 (0 : Int))][(((Int.toNat (y3.1 : Int)) * 2) + 1)]?)) fun x5 =>
      some ((x4.1, x4.2), (x5, (0 : Int)))
    else none) (fun y6 =>
    bif (decide (((0 : Int) ≤ (y6.1 : Int)) ∧ ((y6.1 : Int) < (y6.2.2.1 : Int)))) then
      bindO (listC (y6.2.2.2.1[((Int.toNat (y6.1 : Int)) * 2)]?)) fun x7 =>
      bindO (intC IntKind.i64 (y6.2.2.2.1[(((Int.toNat (y6.1 : Int)) * 2) + 1)]?)) fun x8 =>
      some ((x7.1, x7.2), (x8, (0 : Int)))
    else none) z
theorem tcloud_SegmentsOf_eq (F : FnT) (L0 : Q → Option Ycloud_SegmentsOf_0) (p0n : Nat) (p0c : List PV) (p1 : Int) : semF (callP F Ecloud_SegmentsOf 20) s22 (loopT [⟨0, Ycloud_SegmentsOf_0, L0, XLcloud_SegmentsOf_0⟩]) 400 a22 [PV.list p0n p0c, PV.int IntKind.i64 p1] (fun rv => decR (RSh.tup [(Prod.mk false [CK.list]), (Prod.mk false [(CK.int IntKind.i64)]), (Prod.mk false [(CK.int IntKind.i64)])]) rv.pv) = tcloud_SegmentsOf F L0 p0n p0c p1 := by kernel_rfl
noncomputable abbrev Fcloud_SegmentsOf (args : List PV) := Fn env 22 (RSh.tup [(Prod.mk false [CK.list]), (Prod.mk false [(CK.int IntKind.i64)]), (Prod.mk false [(CK.int IntKind.i64)])]) args
theorem Fcloud_SegmentsOf_of  (p0n : Nat) (p0c : List PV) (p1 : Int) {res : (((Nat) × (List PV)) × ((Int) × (Int)))} (h : tcloud_SegmentsOf (Fn env) Lcloud_SegmentsOf_0 p0n p0c p1 = some res) : Fcloud_SegmentsOf [PV.list p0n p0c, PV.int IntKind.i64 p1] = some res :=
  fn_of Ecloud_SegmentsOf_ok rfl rfl (lo_cons (lpO_ok Ucloud_SegmentsOf) lo_nil) ((tcloud_SegmentsOf_eq _ _ _ _ _).trans h)

/-! ### cloud_PotentialsOf -/

def Ecloud_PotentialsOf : List Entry := [.out 55 (RSh.one (CK.int IntKind.i64)), .out 67 (RSh.one (CK.int IntKind.i64)), .out 54 (RSh.one (CK.int IntKind.i64)), .out 69 (RSh.one (CK.int IntKind.i64))]
theorem Ecloud_PotentialsOf_ok : ∀ e ∈ Ecloud_PotentialsOf, EntOK env e := (ent_out (ent_out (ent_out (ent_out ent_nil))))
def Tcloud_PotentialsOf_0a (n0 : Nat) (c1 : List PV) (i2 : Int) (i3 : Int) : Q := ⟨(tm 31 [(0, (AV.p (PV.list n0 c1))), (1, (AV.p (PV.int IntKind.i64 i2))), (7, AV.nilS), (19, (AV.p (PV.int IntKind.i64 i3))), (20, (AV.p (PV.int IntKind.i64 (0 : Int))))]), (mm 31 [])⟩
def Tcloud_PotentialsOf_0b (n0 : Nat) (c1 : List PV) (i2 : Int) (n3 : Nat) (c4 : List PV) (i5 : Int) (i6 : Int) (n7 : Nat) : Q := ⟨(tm 31 [(0, (AV.p (PV.list n0 c1))), (1, (AV.p (PV.int IntKind.i64 i2))), (7, (AV.app 28 n3 1 c4)), (19, (AV.p (PV.int IntKind.i64 i5))), (20, (AV.p (PV.int IntKind.i64 i6)))]), (mm 31 [(28, (Bk.buf n7))])⟩
def Xcloud_PotentialsOf_0a (_y : Unit) : Ext × Q := (Ext.normal, ⟨(tm 31 [(7, AV.nilS)]), (mm 31 [])⟩)
def Icloud_PotentialsOf_0a (_q : Ext × S) : Unit := ()
def Xcloud_PotentialsOf_0b (y : Nat × List PV × Nat) : Ext × Q := (Ext.normal, ⟨(tm 31 [(7, (AV.app 28 y.1 1 y.2.1))]), (mm 31 [(28, (Bk.buf y.2.2))])⟩)
def Icloud_PotentialsOf_0b (q : Ext × S) : Nat × List PV × Nat := ((pA_app1 (avT q.2 7)), (pA_app3 (avT q.2 7)), (pB_buf0 (avM q.2 28)))
abbrev Ycloud_PotentialsOf_0 : Type := (Unit) ⊕ ((Nat × List PV × Nat))
def XLcloud_PotentialsOf_0 : XL Ycloud_PotentialsOf_0 := .more Xcloud_PotentialsOf_0a (.one Xcloud_PotentialsOf_0b)
def Icloud_PotentialsOf_0 (q : Ext × S) : Ycloud_PotentialsOf_0 := bif (cA (avT q.2 7) == 1) then (Sum.inl (Icloud_PotentialsOf_0a q)) else (Sum.inr (Icloud_PotentialsOf_0b q))
theorem XIcloud_PotentialsOf_0a (y : Unit) : Icloud_PotentialsOf_0 (xe (Xcloud_PotentialsOf_0a y)) = (Sum.inl y) := rfl
theorem XIcloud_PotentialsOf_0b (y : Nat × List PV × Nat) : Icloud_PotentialsOf_0 (xe (Xcloud_PotentialsOf_0b y)) = (Sum.inr y) := rfl
theorem XIcloud_PotentialsOf_0 (y : Ycloud_PotentialsOf_0) : Icloud_PotentialsOf_0 (xe (XLcloud_PotentialsOf_0.fn y)) = y := (match y with | .inl y => XIcloud_PotentialsOf_0a y | .inr y => XIcloud_PotentialsOf_0b y)
noncomputable abbrev Lcloud_PotentialsOf_0 : Q → Option Ycloud_PotentialsOf_0 := lpO env a23.body 0 XLcloud_PotentialsOf_0
noncomputable abbrev Rcloud_PotentialsOf_0 : Q → Option (Ext × S) := lpR env a23.body 0
theorem Lcloud_PotentialsOf_0a_of {s : Q} {y : Unit} (h : Rcloud_PotentialsOf_0 s = exO (Xcloud_PotentialsOf_0a y)) : Lcloud_PotentialsOf_0 s = some (Sum.inl y) := lpO_of Icloud_PotentialsOf_0 XIcloud_PotentialsOf_0 (y := (Sum.inl y)) h
theorem Lcloud_PotentialsOf_0b_of {s : Q} {y : Nat × List PV × Nat} (h : Rcloud_PotentialsOf_0 s = exO (Xcloud_PotentialsOf_0b y)) : Lcloud_PotentialsOf_0 s = some (Sum.inr y) := lpO_of Icloud_PotentialsOf_0 XIcloud_PotentialsOf_0 (y := (Sum.inr y)) h
theorem Ucloud_PotentialsOf : uniq ((blocksOf a23.body).map (·.1)) = true := by kernel_rfl
def Bcloud_PotentialsOf_0a (F : FnT) (N : Q → Option (Ext × S)) (E : Ext × Q → Option (Ext × S)) (_L0 : Q → Option Ycloud_PotentialsOf_0) (n0 : Nat) (c1 : List PV) (i2 : Int) (i3 : Int) : Option (Ext × S) :=
  bif (decide ((0 : Int) < i3)) then
    bindO (F 69 (RSh.one (CK.int IntKind.i64)) [(PV.list n0 c1), (PV.list 0 []), (PV.int IntKind.i64 i2)]) fun (y0 : (Int)) =>
    N (Tcloud_PotentialsOf_0b n0 c1 i2 1 [(PV.int IntKind.i64 y0)] i3 (1 : Int) 1)
  else E (Xcloud_PotentialsOf_0a ())
theorem Bcloud_PotentialsOf_0a_eq (F : FnT) (N : Q → Option (Ext × S)) (E : Ext × Q → Option (Ext × S)) (L0 : Q → Option Ycloud_PotentialsOf_0) (n0 : Nat) (c1 : List PV) (i2 : Int) (i3 : Int) : semB (callP F Ecloud_PotentialsOf 20) s23 (loopT [⟨0, Ycloud_PotentialsOf_0, L0, XLcloud_PotentialsOf_0⟩]) 400 (blkIn a23.body 0) N E (Tcloud_PotentialsOf_0a n0 c1 i2 i3) = Bcloud_PotentialsOf_0a F N E L0 n0 c1 i2 i3 := by kernel_rfl
theorem Rcloud_PotentialsOf_0a_of  (n0 : Nat) (c1 : List PV) (i2 : Int) (i3 : Int) {r : Ext × S} (h : Bcloud_PotentialsOf_0a (Fn env) Rcloud_PotentialsOf_0 exO Lcloud_PotentialsOf_0 n0 c1 i2 i3 = some r) : Rcloud_PotentialsOf_0 (Tcloud_PotentialsOf_0a n0 c1 i2 i3) = some r :=
  lp_of Ecloud_PotentialsOf_ok (by kernel_rfl) (lo_cons (lpO_ok Ucloud_PotentialsOf) lo_nil) (by kernel_rfl) ((Bcloud_PotentialsOf_0a_eq _ _ _ _ _ _ _ _).trans h)
def Bcloud_PotentialsOf_0b (F : FnT) (N : Q → Option (Ext × S)) (E : Ext × Q → Option (Ext × S)) (_L0 : Q → Option Ycloud_PotentialsOf_0) (n0 : Nat) (c1 : List PV) (i2 : Int) (n3 : Nat) (c4 : List PV) (i5 : Int) (i6 : Int) (n7 : Nat) : Option (Ext × S) :=
  bif (decide (i6 < i5)) then
    bindO (F 69 (RSh.one (CK.int IntKind.i64)) [(PV.list n0 c1), (PV.list n3 c4), (PV.int IntKind.i64 i2)]) fun (y0 : (Int)) =>
    bif (decide ((n7 = n3) ∧ ((n3 + 1) ≤ big))) then
      N (Tcloud_PotentialsOf_0b n0 c1 i2 (n3 + 1) (c4 ++ [(PV.int IntKind.i64 y0)]) i5 (w64 (i6 + (1 : Int))) (n3 + 1))
    else none
  else E (Xcloud_PotentialsOf_0b (n3, c4, n7))
theorem Bcloud_PotentialsOf_0b_eq (F : FnT) (N : Q → Option (Ext × S)) (E : Ext × Q → Option (Ext × S)) (L0 : Q → Option Ycloud_PotentialsOf_0) (n0 : Nat) (c1 : List PV) (i2 : Int) (n3 : Nat) (c4 : List PV) (i5 : Int) (i6 : Int) (n7 : Nat) : semB (callP F Ecloud_PotentialsOf 20) s23 (loopT [⟨0, Ycloud_PotentialsOf_0, L0, XLcloud_PotentialsOf_0⟩]) 400 (blkIn a23.body 0) N E (Tcloud_PotentialsOf_0b n0 c1 i2 n3 c4 i5 i6 n7) = Bcloud_PotentialsOf_0b F N E L0 n0 c1 i2 n3 c4 i5 i6 n7 := by kernel_rfl
theorem Rcloud_PotentialsOf_0b_of  (n0 : Nat) (c1 : List PV) (i2 : Int) (n3 : Nat) (c4 : List PV) (i5 : Int) (i6 : Int) (n7 : Nat) {r : Ext × S} (h : Bcloud_PotentialsOf_0b (Fn env) Rcloud_PotentialsOf_0 exO Lcloud_PotentialsOf_0 n0 c1 i2 n3 c4 i5 i6 n7 = some r) : Rcloud_PotentialsOf_0 (Tcloud_PotentialsOf_0b n0 c1 i2 n3 c4 i5 i6 n7) = some r :=
  lp_of Ecloud_PotentialsOf_ok (by kernel_rfl) (lo_cons (lpO_ok Ucloud_PotentialsOf) lo_nil) (by kernel_rfl) ((Bcloud_PotentialsOf_0b_eq _ _ _ _ _ _ _ _ _ _ _ _).trans h)
def tcloud_PotentialsOf (F : FnT) (L0 : Q → Option Ycloud_PotentialsOf_0) (p0n : Nat) (p0c : List PV) (p1 : Int) : Option (((Nat) × (List PV)) × (Int)) :=
  bindO (F 55 (RSh.one (CK.int IntKind.i64)) [(PV.list p0n p0c)]) fun (y0 : (Int)) =>
  bindO (F 67 (RSh.one (CK.int IntKind.i64)) [(PV.int IntKind.i64 p1)]) fun (y1 : (Int)) =>
  bindO (F 54 (RSh.one (CK.int IntKind.i64)) [(PV.list 2 [(PV.int IntKind.i64 y0), (PV.int IntKind.i64 y1)])]) fun (y2 : (Int)) =>
  bif (y2 != (0 : Int)) then
    some ((0, []), y2)
  else bindO (L0 (Tcloud_PotentialsOf_0a p0n p0c p1 (w64 ((p0n : Int) + (1 : Int))))) fun z =>
  Sum.elim (fun _y3 =>
    some ((0, []), (0 : Int))) (fun y4 =>
    some ((y4.1, y4.2.1), (0 : Int))) z
theorem tcloud_PotentialsOf_eq (F : FnT) (L0 : Q → Option Ycloud_PotentialsOf_0) (p0n : Nat) (p0c : List PV) (p1 : Int) : semF (callP F Ecloud_PotentialsOf 20) s23 (loopT [⟨0, Ycloud_PotentialsOf_0, L0, XLcloud_PotentialsOf_0⟩]) 400 a23 [PV.list p0n p0c, PV.int IntKind.i64 p1] (fun rv => decR (RSh.tup [(Prod.mk false [CK.list]), (Prod.mk false [(CK.int IntKind.i64)])]) rv.pv) = tcloud_PotentialsOf F L0 p0n p0c p1 := by kernel_rfl
noncomputable abbrev Fcloud_PotentialsOf (args : List PV) := Fn env 23 (RSh.tup [(Prod.mk false [CK.list]), (Prod.mk false [(CK.int IntKind.i64)])]) args
theorem Fcloud_PotentialsOf_of  (p0n : Nat) (p0c : List PV) (p1 : Int) {res : (((Nat) × (List PV)) × (Int))} (h : tcloud_PotentialsOf (Fn env) Lcloud_PotentialsOf_0 p0n p0c p1 = some res) : Fcloud_PotentialsOf [PV.list p0n p0c, PV.int IntKind.i64 p1] = some res :=
  fn_of Ecloud_PotentialsOf_ok rfl rfl (lo_cons (lpO_ok Ucloud_PotentialsOf) lo_nil) ((tcloud_PotentialsOf_eq _ _ _ _ _).trans h)

/-! ### cloud_missingError -/

def Ecloud_missingError : List Entry := [.out 62 (RSh.one (CK.int IntKind.i64))]
theorem Ecloud_missingError_ok : ∀ e ∈ Ecloud_missingError, EntOK env e := (ent_out ent_nil)
theorem Ucloud_missingError : uniq ((blocksOf a65.body).map (·.1)) = true := by kernel_rfl
def tcloud_missingError (F : FnT) (p0 : Int) (p1 : Int) : Option (Int) :=
  bif (decide (p0 < (0 : Int))) then
    bindO (F 62 (RSh.one (CK.int IntKind.i64)) [(PV.bool true), (PV.int IntKind.i64 (6 : Int))]) fun (y0 : (Int)) =>
    some y0
  else bif (decide (p0 ≥ p1)) then
    bindO (F 62 (RSh.one (CK.int IntKind.i64)) [(PV.bool true), (PV.int IntKind.i64 (6 : Int))]) fun (y1 : (Int)) =>
    some y1
  else bindO (F 62 (RSh.one (CK.int IntKind.i64)) [(PV.bool false), (PV.int IntKind.i64 (6 : Int))]) fun (y2 : (Int)) =>
  some y2
theorem tcloud_missingError_eq (F : FnT) (p0 : Int) (p1 : Int) : semF (callP F Ecloud_missingError 20) s65 (loopT []) 400 a65 [PV.int IntKind.i64 p0, PV.int IntKind.i64 p1] (fun rv => decR (RSh.one (CK.int IntKind.i64)) rv.pv) = tcloud_missingError F p0 p1 := by kernel_rfl
noncomputable abbrev Fcloud_missingError (args : List PV) := Fn env 65 (RSh.one (CK.int IntKind.i64)) args
theorem Fcloud_missingError_of  (p0 : Int) (p1 : Int) {res : (Int)} (h : tcloud_missingError (Fn env) p0 p1 = some res) : Fcloud_missingError [PV.int IntKind.i64 p0, PV.int IntKind.i64 p1] = some res :=
  fn_of Ecloud_missingError_ok rfl rfl lo_nil ((tcloud_missingError_eq _ _ _).trans h)

/-! ### cloud_SegmentCost -/

def Ecloud_SegmentCost : List Entry := [.out 55 (RSh.one (CK.int IntKind.i64)), .out 65 (RSh.one (CK.int IntKind.i64)), .out 62 (RSh.one (CK.int IntKind.i64)), .out 54 (RSh.one (CK.int IntKind.i64)), .out 66 (RSh.one (CK.int IntKind.i64))]
theorem Ecloud_SegmentCost_ok : ∀ e ∈ Ecloud_SegmentCost, EntOK env e := (ent_out (ent_out (ent_out (ent_out (ent_out ent_nil)))))
theorem Ucloud_SegmentCost : uniq ((blocksOf a21.body).map (·.1)) = true := by kernel_rfl
def tcloud_SegmentCost (F : FnT) (p0n : Nat) (p0c : List PV) (p1_0 : Int) (p1_1 : Int) : Option ((Int) × (Int)) :=
  bindO (F 55 (RSh.one (CK.int IntKind.i64)) [(PV.list p0n p0c)]) fun (y0 : (Int)) =>
  bindO (F 65 (RSh.one (CK.int IntKind.i64)) [(PV.int IntKind.i64 p1_0), (PV.int IntKind.i64 (p0n : Int))]) fun (y1 : (Int)) =>
  bindO (F 65 (RSh.one (CK.int IntKind.i64)) [(PV.int IntKind.i64 p1_1), (PV.int IntKind.i64 (p0n : Int))]) fun (y2 : (Int)) =>
  bif (decide (p1_0 > p1_1)) then
    bindO (F 62 (RSh.one (CK.int IntKind.i64)) [(PV.bool true), (PV.int IntKind.i64 (9 : Int))]) fun (y3 : (Int)) =>
    bindO (F 54 (RSh.one (CK.int IntKind.i64)) [(PV.list 4 [(PV.int IntKind.i64 y0), (PV.int IntKind.i64 y1), (PV.int IntKind.i64 y2), (PV.int IntKind.i64 y3)])]) fun (y4 : (Int)) =>
    bif (y4 != (0 : Int)) then
      some ((0 : Int), y4)
    else bindO (F 66 (RSh.one (CK.int IntKind.i64)) [(PV.list p0n p0c), (PV.int IntKind.i64 p1_0), (PV.int IntKind.i64 (w64 (p1_1 + (1 : Int))))]) fun (y5 : (Int)) =>
    some (y5, (0 : Int))
  else bindO (F 62 (RSh.one (CK.int IntKind.i64)) [(PV.bool false), (PV.int IntKind.i64 (9 : Int))]) fun (y6 : (Int)) =>
  bindO (F 54 (RSh.one (CK.int IntKind.i64)) [(PV.list 4 [(PV.int IntKind.i64 y0), (PV.int IntKind.i64 y1), (PV.int IntKind.i64 y2), (PV.int IntKind.i64 y6)])]) fun (y7 : (Int)) =>
  bif (y7 != (0 : Int)) then
    some ((0 : Int), y7)
  else bindO (F 66 (RSh.one (CK.int IntKind.i64)) [(PV.list p0n p0c), (PV.int IntKind.i64 p1_0), (PV.int IntKind.i64 (w64 (p1_1 + (1 : Int))))]) fun (y8 : (Int)) =>
  some (y8, (0 : Int))
theorem tcloud_SegmentCost_eq (F : FnT) (p0n : Nat) (p0c : List PV) (p1_0 : Int) (p1_1 : Int) : semF (callP F Ecloud_SegmentCost 20) s21 (loopT []) 400 a21 [PV.list p0n p0c, PV.agg [PV.int IntKind.i64 p1_0, PV.int IntKind.i64 p1_1]] (fun rv => decR (RSh.tup [(Prod.mk false [(CK.int IntKind.i64)]), (Prod.mk false [(CK.int IntKind.i64)])]) rv.pv) = tcloud_SegmentCost F p0n p0c p1_0 p1_1 := by kernel_rfl
noncomputable abbrev Fcloud_SegmentCost (args : List PV) := Fn env 21 (RSh.tup [(Prod.mk false [(CK.int IntKind.i64)]), (Prod.mk false [(CK.int IntKind.i64)])]) args
theorem Fcloud_SegmentCost_of  (p0n : Nat) (p0c : List PV) (p1_0 : Int) (p1_1 : Int) {res : ((Int) × (Int))} (h : tcloud_SegmentCost (Fn env) p0n p0c p1_0 p1_1 = some res) : Fcloud_SegmentCost [PV.list p0n p0c, PV.agg [PV.int IntKind.i64 p1_0, PV.int IntKind.i64 p1_1]] = some res :=
  fn_of Ecloud_SegmentCost_ok rfl rfl lo_nil ((tcloud_SegmentCost_eq _ _ _ _ _).trans h)

/-! ### glidepathref08_SegmentErr -/

def Eglidepathref08_SegmentErr : List Entry := [.out 14 (RSh.one CK.bool)]
theorem Eglidepathref08_SegmentErr_ok : ∀ e ∈ Eglidepathref08_SegmentErr, EntOK env e := (ent_out ent_nil)
theorem Uglidepathref08_SegmentErr : uniq ((blocksOf a24.body).map (·.1)) = true := by kernel_rfl
def tglidepathref08_SegmentErr (F : FnT) (p0n : Nat) (_p0c : List PV) (p1_0 : Int) (p1_1 : Int) : Option (Int) :=
  bindO (F 14 (RSh.one CK.bool) [(PV.int IntKind.i64 p1_0), (PV.int IntKind.i64 (0 : Int)), (PV.int IntKind.i64 (w64 ((p0n : Int) - (1 : Int))))]) fun (y0 : (Bool)) =>
  bif y0 then
    bindO (F 14 (RSh.one CK.bool) [(PV.int IntKind.i64 p1_1), (PV.int IntKind.i64 (0 : Int)), (PV.int IntKind.i64 (w64 ((p0n : Int) - (1 : Int))))]) fun (y1 : (Bool)) =>
    bif y1 then
      bif (decide (p1_0 > p1_1)) then
        some (9 : Int)
      else some (0 : Int)
    else some (6 : Int)
  else some (6 : Int)
theorem tglidepathref08_SegmentErr_eq (F : FnT) (p0n : Nat) (p0c : List PV) (p1_0 : Int) (p1_1 : Int) : semF (callP F Eglidepathref08_SegmentErr 20) s24 (loopT []) 400 a24 [PV.list p0n p0c, PV.agg [PV.int IntKind.i64 p1_0, PV.int IntKind.i64 p1_1]] (fun rv => decR (RSh.one (CK.int IntKind.i64)) rv.pv) = tglidepathref08_SegmentErr F p0n p0c p1_0 p1_1 := by kernel_rfl
noncomputable abbrev Fglidepathref08_SegmentErr (args : List PV) := Fn env 24 (RSh.one (CK.int IntKind.i64)) args
theorem Fglidepathref08_SegmentErr_of  (p0n : Nat) (p0c : List PV) (p1_0 : Int) (p1_1 : Int) {res : (Int)} (h : tglidepathref08_SegmentErr (Fn env) p0n p0c p1_0 p1_1 = some res) : Fglidepathref08_SegmentErr [PV.list p0n p0c, PV.agg [PV.int IntKind.i64 p1_0, PV.int IntKind.i64 p1_1]] = some res :=
  fn_of Eglidepathref08_SegmentErr_ok rfl rfl lo_nil ((tglidepathref08_SegmentErr_eq _ _ _ _ _).trans h)

/-! ### glidepathlaw08_divided -/

def Eglidepathlaw08_divided : List Entry := [.out 14 (RSh.one CK.bool), .out 16 (RSh.one CK.list), .out 21 (RSh.tup [(Prod.mk false [(CK.int IntKind.i64)]), (Prod.mk false [(CK.int IntKind.i64)])])]
theorem Eglidepathlaw08_divided_ok : ∀ e ∈ Eglidepathlaw08_divided, EntOK env e := (ent_out (ent_out (ent_out ent_nil)))
def Tglidepathlaw08_divided_0a (n0 : Nat) (c1 : List PV) (i2 : Int) (n3 : Nat) (c4 : List PV) (i5 : Int) (i6 : Int) : Q := ⟨(tm 82 [(0, (AV.p (PV.list n0 c1))), (1, (AV.p (PV.int IntKind.i64 i2))), (2, (AV.p (PV.list n3 c4))), (8, (AV.p (PV.int IntKind.i64 i5))), (9, (AV.p (PV.int IntKind.i64 i6)))]), (mm 82 [])⟩
def Xglidepathlaw08_divided_0a (_y : Unit) : Ext × Q := (Ext.ret, ⟨(tm 82 [(6, (AV.p (PV.int IntKind.i64 (0 : Int)))), (7, (AV.p (PV.bool false)))]), (mm 82 [])⟩)
def Iglidepathlaw08_divided_0a (_q : Ext × S) : Unit := ()
def Xglidepathlaw08_divided_0b (y : Int) : Ext × Q := (Ext.normal, ⟨(tm 82 [(8, (AV.p (PV.int IntKind.i64 y)))]), (mm 82 [])⟩)
def Iglidepathlaw08_divided_0b (q : Ext × S) : Int := (pP_int1 (pA_p (avT q.2 8)))
abbrev Yglidepathlaw08_divided_0 : Type := (Unit) ⊕ ((Int))
def XLglidepathlaw08_divided_0 : XL Yglidepathlaw08_divided_0 := .more Xglidepathlaw08_divided_0a (.one Xglidepathlaw08_divided_0b)
def Iglidepathlaw08_divided_0 (q : Ext × S) : Yglidepathlaw08_divided_0 := bif (cE q.1 == 2) then (Sum.inl (Iglidepathlaw08_divided_0a q)) else (Sum.inr (Iglidepathlaw08_divided_0b q))
theorem XIglidepathlaw08_divided_0a (y : Unit) : Iglidepathlaw08_divided_0 (xe (Xglidepathlaw08_divided_0a y)) = (Sum.inl y) := rfl
theorem XIglidepathlaw08_divided_0b (y : Int) : Iglidepathlaw08_divided_0 (xe (Xglidepathlaw08_divided_0b y)) = (Sum.inr y) := rfl
theorem XIglidepathlaw08_divided_0 (y : Yglidepathlaw08_divided_0) : Iglidepathlaw08_divided_0 (xe (XLglidepathlaw08_divided_0.fn y)) = y := (match y with | .inl y => XIglidepathlaw08_divided_0a y | .inr y => XIglidepathlaw08_divided_0b y)
noncomputable abbrev Lglidepathlaw08_divided_0 : Q → Option Yglidepathlaw08_divided_0 := lpO env a32.body 0 XLglidepathlaw08_divided_0
noncomputable abbrev Rglidepathlaw08_divided_0 : Q → Option (Ext × S) := lpR env a32.body 0
theorem Lglidepathlaw08_divided_0a_of {s : Q} {y : Unit} (h : Rglidepathlaw08_divided_0 s = exO (Xglidepathlaw08_divided_0a y)) : Lglidepathlaw08_divided_0 s = some (Sum.inl y) := lpO_of Iglidepathlaw08_divided_0 XIglidepathlaw08_divided_0 (y := (Sum.inl y)) h
theorem Lglidepathlaw08_divided_0b_of {s : Q} {y : Int} (h : Rglidepathlaw08_divided_0 s = exO (Xglidepathlaw08_divided_0b y)) : Lglidepathlaw08_divided_0 s = some (Sum.inr y) := lpO_of Iglidepathlaw08_divided_0 XIglidepathlaw08_divided_0 (y := (Sum.inr y)) h
theorem Uglidepathlaw08_divided : uniq ((blocksOf a32.body).map (·.1)) = true := by kernel_rfl
def Bglidepathlaw08_divided_0a (F : FnT) (N : Q → Option (Ext × S)) (E : Ext × Q → Option (Ext × S)) (_L0 : Q → Option Yglidepathlaw08_divided_0) (n0 : Nat) (c1 : List PV) (i2 : Int) (n3 : Nat) (c4 : List PV) (i5 : Int) (i6 : Int) : Option (Ext × S) :=
  bif (decide (i6 < (n3 : Int))) then
    bif (decide ((w64 (i6 + (1 : Int))) < (n3 : Int))) then
      bif (decide (((0 : Int) ≤ (w64 (i6 + (1 : Int)))) ∧ ((w64 (i6 + (1 : Int))) < (n3 : Int)))) then
        bindO (intC IntKind.i64 (c4[((Int.toNat (w64 (i6 + (1 : Int)))) * 1)]?)) fun x0 =>
        bif (decide (((0 : Int) ≤ i6) ∧ (i6 < (n3 : Int)))) then
          bindO (intC IntKind.i64 (c4[((Int.toNat i6) * 1)]?)) fun x1 =>
          bindO (F 14 (RSh.one CK.bool) [(PV.int IntKind.i64 x0), (PV.int IntKind.i64 (w64 (x1 + (1 : Int)))), (PV.int IntKind.i64 (w64 ((n0 : Int) - (1 : Int))))]) fun (y2 : (Bool)) =>
          bif y2 then
            bif (decide (((0 : Int) ≤ (w64 (i6 + (1 : Int)))) ∧ ((w64 (i6 + (1 : Int))) < (n3 : Int)))) then
              bindO (intC IntKind.i64 (c4[((Int.toNat (w64 (i6 + (1 : Int)))) * 1)]?)) fun x3 =>
              bindO (F 16 (RSh.one CK.list) [(PV.list n0 c1)]) fun (y4 : ((Nat) × (List PV))) =>
              bif (decide (((0 : Int) ≤ i6) ∧ (i6 < (n3 : Int)))) then
                bindO (intC IntKind.i64 (c4[((Int.toNat i6) * 1)]?)) fun x5 =>
                bindO (F 21 (RSh.tup [(Prod.mk false [(CK.int IntKind.i64)]), (Prod.mk false [(CK.int IntKind.i64)])]) [(PV.list y4.1 y4.2), (PV.agg [(PV.int IntKind.i64 x5), (PV.int IntKind.i64 (w64 (x3 - (1 : Int))))])]) fun (y6 : ((Int) × (Int))) =>
                bif (y6.2 != (0 : Int)) then
                  E (Xglidepathlaw08_divided_0a ())
                else bindO (F 14 (RSh.one CK.bool) [(PV.int IntKind.i64 y6.1), (PV.int IntKind.i64 (0 : Int)), (PV.int IntKind.i64 (1099511627776 : Int))]) fun (y7 : (Bool)) =>
                bif y7 then
                  N (Tglidepathlaw08_divided_0a n0 c1 i2 n3 c4 (w64 ((w64 (i5 + y6.1)) + i2)) (w64 (i6 + (1 : Int))))
                else E (Xglidepathlaw08_divided_0a ())
              else none
            else none
          else E (Xglidepathlaw08_divided_0a ())
        else none
      else none
    else bindO (F 16 (RSh.one CK.list) [(PV.list n0 c1)]) fun (y8 : ((Nat) × (List PV))) =>
    bif (decide (((0 : Int) ≤ i6) ∧ (i6 < (n3 : Int)))) then
      bindO (intC IntKind.i64 (c4[((Int.toNat i6) * 1)]?)) fun x9 =>
      bindO (F 21 (RSh.tup [(Prod.mk false [(CK.int IntKind.i64)]), (Prod.mk false [(CK.int IntKind.i64)])]) [(PV.list y8.1 y8.2), (PV.agg [(PV.int IntKind.i64 x9), (PV.int IntKind.i64 (w64 ((n0 : Int) - (1 : Int))))])]) fun (y10 : ((Int) × (Int))) =>
      bif (y10.2 != (0 : Int)) then
        E (Xglidepathlaw08_divided_0a ())
      else bindO (F 14 (RSh.one CK.bool) [(PV.int IntKind.i64 y10.1), (PV.int IntKind.i64 (0 : Int)), (PV.int IntKind.i64 (1099511627776 : Int))]) fun (y11 : (Bool)) =>
      bif y11 then
        N (Tglidepathlaw08_divided_0a n0 c1 i2 n3 c4 (w64 ((w64 (i5 + y10.1)) + i2)) (w64 (i6 + (1 : Int))))
      else E (Xglidepathlaw08_divided_0a ())
    else none
  else E (Xglidepathlaw08_divided_0b i5)
theorem Bglidepathlaw08_divided_0a_eq (F : FnT) (N : Q → Option (Ext × S)) (E : Ext × Q → Option (Ext × S)) (L0 : Q → Option Yglidepathlaw08_divided_0) (n0 : Nat) (c1 : List PV) (i2 : Int) (n3 : Nat) (c4 : List PV) (i5 : Int) (i6 : Int) : semB (callP F Eglidepathlaw08_divided 20) s32 (loopT [⟨0, Yglidepathlaw08_divided_0, L0, XLglidepathlaw08_divided_0⟩]) 400 (blkIn a32.body 0) N E (Tglidepathlaw08_divided_0a n0 c1 i2 n3 c4 i5 i6) = Bglidepathlaw08_divided_0a F N E L0 n0 c1 i2 n3 c4 i5 i6 := by kernel_rfl
theorem Rglidepathlaw08_divided_0a_of  (n0 : Nat) (c1 : List PV) (i2 : Int) (n3 : Nat) (c4 : List PV) (i5 : Int) (i6 : Int) {r : Ext × S} (h : Bglidepathlaw08_divided_0a (Fn env) Rglidepathlaw08_divided_0 exO Lglidepathlaw08_divided_0 n0 c1 i2 n3 c4 i5 i6 = some r) : Rglidepathlaw08_divided_0 (Tglidepathlaw08_divided_0a n0 c1 i2 n3 c4 i5 i6) = some r :=
  lp_of Eglidepathlaw08_divided_ok (by kernel_rfl) (lo_cons (lpO_ok Uglidepathlaw08_divided) lo_nil) (by kernel_rfl) ((Bglidepathlaw08_divided_0a_eq _ _ _ _ _ _ _ _ _ _ _).trans h)
def tglidepathlaw08_divided (_F : FnT) (L0 : Q → Option Yglidepathlaw08_divided_0) (p0n : Nat) (p0c : List PV) (p1 : Int) (p2n : Nat) (p2c : List PV) : Option ((Int) × (Bool)) :=
  bif ((p2n : Int) == (0 : Int)) then
    some ((0 : Int), false)
  else bif (decide (((0 : Int) ≤ (0 : Int)) ∧ ((0 : Int) < (p2n : Int)))) then
    bindO (intC IntKind.i64 (p2c[0]?)) fun x0 =>
    bif (x0 != (0 : Int)) then
      some ((0 : Int), false)
    else bindO (L0 (Tglidepathlaw08_divided_0a p0n p0c p1 p2n p2c (0 : Int) (0 : Int))) fun z =>
    Sum.elim (fun _y1 =>
      some ((0 : Int), false)) (fun y2 =>
      some (y2, true)) z
  else none
theorem tglidepathlaw08_divided_eq (F : FnT) (L0 : Q → Option Yglidepathlaw08_divided_0) (p0n : Nat) (p0c : List PV) (p1 : Int) (p2n : Nat) (p2c : List PV) : semF (callP F Eglidepathlaw08_divided 20) s32 (loopT [⟨0, Yglidepathlaw08_divided_0, L0, XLglidepathlaw08_divided_0⟩]) 400 a32 [PV.list p0n p0c, PV.int IntKind.i64 p1, PV.list p2n p2c] (fun rv => decR (RSh.tup [(Prod.mk false [(CK.int IntKind.i64)]), (Prod.mk false [CK.bool])]) rv.pv) = tglidepathlaw08_divided F L0 p0n p0c p1 p2n p2c := by kernel_rfl
noncomputable abbrev Fglidepathlaw08_divided (args : List PV) := Fn env 32 (RSh.tup [(Prod.mk false [(CK.int IntKind.i64)]), (Prod.mk false [CK.bool])]) args
theorem Fglidepathlaw08_divided_of  (p0n : Nat) (p0c : List PV) (p1 : Int) (p2n : Nat) (p2c : List PV) {res : ((Int) × (Bool))} (h : tglidepathlaw08_divided (Fn env) Lglidepathlaw08_divided_0 p0n p0c p1 p2n p2c = some res) : Fglidepathlaw08_divided [PV.list p0n p0c, PV.int IntKind.i64 p1, PV.list p2n p2c] = some res :=
  fn_of Eglidepathlaw08_divided_ok rfl rfl (lo_cons (lpO_ok Uglidepathlaw08_divided) lo_nil) ((tglidepathlaw08_divided_eq _ _ _ _ _ _ _).trans h)

end Gv

/- What the functions do, round by round: CD5. -/
namespace Gv
open Go
set_option maxRecDepth 100000

/-! ### cloud_firstError_2 -/

def Ecloud_firstError_2 : List Entry := []
theorem Ecloud_firstError_2_ok : ∀ e ∈ Ecloud_firstError_2, EntOK env e := ent_nil
theorem Ucloud_firstError_2 : uniq ((blocksOf a54.body).map (·.1)) = true := by kernel_rfl
def tcloud_firstError_2 (_F : FnT)(e0 e1 : Int) : Option (Int) :=
  bif (e0 != (0 : Int)) then
    some e0
  else bif (e1 != (0 : Int)) then
    some e1
  else some (0 : Int)
theorem tcloud_firstError_2_eq (F : FnT)(e0 e1 : Int) : semF (callP F Ecloud_firstError_2 20) s54 (loopT []) 400 a54 [.list 2 [.int .i64 e0, .int .i64 e1]] (fun rv => decR (RSh.one (CK.int IntKind.i64)) rv.pv) = tcloud_firstError_2 F e0 e1 := by kernel_rfl
noncomputable abbrev Fcloud_firstError_2 (args : List PV) := Fn env 54 (RSh.one (CK.int IntKind.i64)) args
theorem Fcloud_firstError_2_of (e0 e1 : Int) {res : (Int)} (h : tcloud_firstError_2 (Fn env) e0 e1 = some res) : Fcloud_firstError_2 [.list 2 [.int .i64 e0, .int .i64 e1]] = some res :=
  fn_of Ecloud_firstError_2_ok rfl rfl lo_nil ((tcloud_firstError_2_eq _ _ _).trans h)

end Gv
