/- What the functions do, round by round: P8. -/
import Derived.Test.YtpcpegneobkbdaaP3
namespace Gv
open Go
set_option maxRecDepth 100000

/-! ### pulse_openError -/

def Epulse_openError : List Entry := [.out 100 (Gv.RSh.one (Gv.CK.int Go.IntKind.i64)), .out 105 (Gv.RSh.one (Gv.CK.int Go.IntKind.i64))]
theorem Epulse_openError_ok : ∀ e ∈ Epulse_openError, EntOK env e := (ent_out (ent_out ent_nil))
theorem Upulse_openError : uniq ((blocksOf a98.body).map (·.1)) = true := by kernel_rfl
def tpulse_openError (F : FnT) (p0_0 : Int) (p0_1 : Int) (p0_2 : Int) (p0_3n : Nat) (p0_3c : List PV) (p1n : Nat) (p1c : List PV) (p2 : Int) : Option (Int) :=
  bindO (F 100 (Gv.RSh.one (Gv.CK.int Go.IntKind.i64)) [(Gv.PV.agg [(Gv.PV.int Go.IntKind.i64 p0_0), (Gv.PV.int Go.IntKind.i64 p0_1), (Gv.PV.int Go.IntKind.i64 p0_2), (Gv.PV.list p0_3n p0_3c)]), (Gv.PV.int Go.IntKind.i64 p2)]) fun (y0 : (Int)) =>
  bif (decide ((w64 (y0 + (p0_3n : Int))) > (p1n : Int))) then
    bindO (F 105 (Gv.RSh.one (Gv.CK.int Go.IntKind.i64)) [(Gv.PV.bool true), (Gv.PV.int Go.IntKind.i64 (19 : Int))]) fun (y1 : (Int)) =>
    some y1
  else bindO (F 105 (Gv.RSh.one (Gv.CK.int Go.IntKind.i64)) [(Gv.PV.bool false), (Gv.PV.int Go.IntKind.i64 (19 : Int))]) fun (y2 : (Int)) =>
  some y2
theorem tpulse_openError_eq (F : FnT) (p0_0 : Int) (p0_1 : Int) (p0_2 : Int) (p0_3n : Nat) (p0_3c : List PV) (p1n : Nat) (p1c : List PV) (p2 : Int) : semF (callP F Epulse_openError 20) s98 (loopT []) 400 a98 [PV.agg [PV.int Go.IntKind.i64 p0_0, PV.int Go.IntKind.i64 p0_1, PV.int Go.IntKind.i64 p0_2, PV.list p0_3n p0_3c], PV.list p1n p1c, PV.int Go.IntKind.i64 p2] (fun rv => decR (Gv.RSh.one (Gv.CK.int Go.IntKind.i64)) rv.pv) = tpulse_openError F p0_0 p0_1 p0_2 p0_3n p0_3c p1n p1c p2 := by kernel_rfl
noncomputable abbrev Fpulse_openError (args : List PV) := Fn env 98 (Gv.RSh.one (Gv.CK.int Go.IntKind.i64)) args
theorem Fpulse_openError_of  (p0_0 : Int) (p0_1 : Int) (p0_2 : Int) (p0_3n : Nat) (p0_3c : List PV) (p1n : Nat) (p1c : List PV) (p2 : Int) {res : (Int)} (h : tpulse_openError (Fn env) p0_0 p0_1 p0_2 p0_3n p0_3c p1n p1c p2 = some res) : Fpulse_openError [PV.agg [PV.int Go.IntKind.i64 p0_0, PV.int Go.IntKind.i64 p0_1, PV.int Go.IntKind.i64 p0_2, PV.list p0_3n p0_3c], PV.list p1n p1c, PV.int Go.IntKind.i64 p2] = some res :=
  fn_of Epulse_openError_ok rfl rfl lo_nil ((tpulse_openError_eq _ _ _ _ _ _ _ _ _).trans h)

/-! ### pulse_GateOf -/

def Epulse_GateOf : List Entry := [.out 95 (Gv.RSh.one (Gv.CK.int Go.IntKind.i64)), .out 96 (Gv.RSh.one (Gv.CK.int Go.IntKind.i64)), .out 97 (Gv.RSh.one (Gv.CK.int Go.IntKind.i64)), .out 98 (Gv.RSh.one (Gv.CK.int Go.IntKind.i64)), .out 91 (Gv.RSh.one (Gv.CK.int Go.IntKind.i64)), .out 100 (Gv.RSh.one (Gv.CK.int Go.IntKind.i64)), .out 99 (Gv.RSh.one Gv.CK.list)]
theorem Epulse_GateOf_ok : ∀ e ∈ Epulse_GateOf, EntOK env e := (ent_out (ent_out (ent_out (ent_out (ent_out (ent_out (ent_out ent_nil)))))))
theorem Upulse_GateOf : uniq ((blocksOf a22.body).map (·.1)) = true := by kernel_rfl
def tpulse_GateOf (F : FnT) (p0_0 : Int) (p0_1 : Int) (p0_2 : Int) (p0_3n : Nat) (p0_3c : List PV) (p1n : Nat) (p1c : List PV) (p2 : Int) : Option (((Nat) × (List PV)) × (Int)) :=
  bindO (F 95 (Gv.RSh.one (Gv.CK.int Go.IntKind.i64)) [(Gv.PV.agg [(Gv.PV.int Go.IntKind.i64 p0_0), (Gv.PV.int Go.IntKind.i64 p0_1), (Gv.PV.int Go.IntKind.i64 p0_2), (Gv.PV.list p0_3n p0_3c)])]) fun (y0 : (Int)) =>
  bindO (F 96 (Gv.RSh.one (Gv.CK.int Go.IntKind.i64)) [(Gv.PV.list p1n p1c)]) fun (y1 : (Int)) =>
  bindO (F 97 (Gv.RSh.one (Gv.CK.int Go.IntKind.i64)) [(Gv.PV.agg [(Gv.PV.int Go.IntKind.i64 p0_0), (Gv.PV.int Go.IntKind.i64 p0_1), (Gv.PV.int Go.IntKind.i64 p0_2), (Gv.PV.list p0_3n p0_3c)]), (Gv.PV.int Go.IntKind.i64 p2)]) fun (y2 : (Int)) =>
  bindO (F 98 (Gv.RSh.one (Gv.CK.int Go.IntKind.i64)) [(Gv.PV.agg [(Gv.PV.int Go.IntKind.i64 p0_0), (Gv.PV.int Go.IntKind.i64 p0_1), (Gv.PV.int Go.IntKind.i64 p0_2), (Gv.PV.list p0_3n p0_3c)]), (Gv.PV.list p1n p1c), (Gv.PV.int Go.IntKind.i64 p2)]) fun (y3 : (Int)) =>
  bindO (F 91 (Gv.RSh.one (Gv.CK.int Go.IntKind.i64)) [(Gv.PV.list 4 [(Gv.PV.int Go.IntKind.i64 y0), (Gv.PV.int Go.IntKind.i64 y1), (Gv.PV.int Go.IntKind.i64 y2), (Gv.PV.int Go.IntKind.i64 y3)])]) fun (y4 : (Int)) =>
  bif (y4 != (0 : Int)) then
    some ((0, []), y4)
  else bindO (F 100 (Gv.RSh.one (Gv.CK.int Go.IntKind.i64)) [(Gv.PV.agg [(Gv.PV.int Go.IntKind.i64 p0_0), (Gv.PV.int Go.IntKind.i64 p0_1), (Gv.PV.int Go.IntKind.i64 p0_2), (Gv.PV.list p0_3n p0_3c)]), (Gv.PV.int Go.IntKind.i64 p2)]) fun (y5 : (Int)) =>
  bindO (F 99 (Gv.RSh.one Gv.CK.list) [(Gv.PV.list p1n p1c), (Gv.PV.int Go.IntKind.i64 y5), (Gv.PV.list p0_3n p0_3c)]) fun (y6 : ((Nat) × (List PV))) =>
  some ((y6.1, y6.2), (0 : Int))
theorem tpulse_GateOf_eq (F : FnT) (p0_0 : Int) (p0_1 : Int) (p0_2 : Int) (p0_3n : Nat) (p0_3c : List PV) (p1n : Nat) (p1c : List PV) (p2 : Int) : semF (callP F Epulse_GateOf 20) s22 (loopT []) 400 a22 [PV.agg [PV.int Go.IntKind.i64 p0_0, PV.int Go.IntKind.i64 p0_1, PV.int Go.IntKind.i64 p0_2, PV.list p0_3n p0_3c], PV.list p1n p1c, PV.int Go.IntKind.i64 p2] (fun rv => decR (Gv.RSh.tup [(Prod.mk false [Gv.CK.list]), (Prod.mk false [(Gv.CK.int Go.IntKind.i64)])]) rv.pv) = tpulse_GateOf F p0_0 p0_1 p0_2 p0_3n p0_3c p1n p1c p2 := by kernel_rfl
noncomputable abbrev Fpulse_GateOf (args : List PV) := Fn env 22 (Gv.RSh.tup [(Prod.mk false [Gv.CK.list]), (Prod.mk false [(Gv.CK.int Go.IntKind.i64)])]) args
theorem Fpulse_GateOf_of  (p0_0 : Int) (p0_1 : Int) (p0_2 : Int) (p0_3n : Nat) (p0_3c : List PV) (p1n : Nat) (p1c : List PV) (p2 : Int) {res : (((Nat) × (List PV)) × (Int))} (h : tpulse_GateOf (Fn env) p0_0 p0_1 p0_2 p0_3n p0_3c p1n p1c p2 = some res) : Fpulse_GateOf [PV.agg [PV.int Go.IntKind.i64 p0_0, PV.int Go.IntKind.i64 p0_1, PV.int Go.IntKind.i64 p0_2, PV.list p0_3n p0_3c], PV.list p1n p1c, PV.int Go.IntKind.i64 p2] = some res :=
  fn_of Epulse_GateOf_ok rfl rfl lo_nil ((tpulse_GateOf_eq _ _ _ _ _ _ _ _ _).trans h)

/-! ### glidepathref01_OpenErr -/

def Eglidepathref01_OpenErr : List Entry := []
theorem Eglidepathref01_OpenErr_ok : ∀ e ∈ Eglidepathref01_OpenErr, EntOK env e := ent_nil
theorem Uglidepathref01_OpenErr : uniq ((blocksOf a31.body).map (·.1)) = true := by kernel_rfl
def tglidepathref01_OpenErr (F : FnT) (p0_0 : Int) (p0_1 : Int) (p0_2 : Int) (p0_3n : Nat) (p0_3c : List PV) (p1n : Nat) (p1c : List PV) (p2 : Int) : Option (Int) :=
  bif (decide ((w64 ((w64 (p0_0 + (w64 (p2 * p0_1)))) + (p0_3n : Int))) > (p1n : Int))) then
    some (19 : Int)
  else some (0 : Int)
theorem tglidepathref01_OpenErr_eq (F : FnT) (p0_0 : Int) (p0_1 : Int) (p0_2 : Int) (p0_3n : Nat) (p0_3c : List PV) (p1n : Nat) (p1c : List PV) (p2 : Int) : semF (callP F Eglidepathref01_OpenErr 20) s31 (loopT []) 400 a31 [PV.agg [PV.int Go.IntKind.i64 p0_0, PV.int Go.IntKind.i64 p0_1, PV.int Go.IntKind.i64 p0_2, PV.list p0_3n p0_3c], PV.list p1n p1c, PV.int Go.IntKind.i64 p2] (fun rv => decR (Gv.RSh.one (Gv.CK.int Go.IntKind.i64)) rv.pv) = tglidepathref01_OpenErr F p0_0 p0_1 p0_2 p0_3n p0_3c p1n p1c p2 := by kernel_rfl
noncomputable abbrev Fglidepathref01_OpenErr (args : List PV) := Fn env 31 (Gv.RSh.one (Gv.CK.int Go.IntKind.i64)) args
theorem Fglidepathref01_OpenErr_of  (p0_0 : Int) (p0_1 : Int) (p0_2 : Int) (p0_3n : Nat) (p0_3c : List PV) (p1n : Nat) (p1c : List PV) (p2 : Int) {res : (Int)} (h : tglidepathref01_OpenErr (Fn env) p0_0 p0_1 p0_2 p0_3n p0_3c p1n p1c p2 = some res) : Fglidepathref01_OpenErr [PV.agg [PV.int Go.IntKind.i64 p0_0, PV.int Go.IntKind.i64 p0_1, PV.int Go.IntKind.i64 p0_2, PV.list p0_3n p0_3c], PV.list p1n p1c, PV.int Go.IntKind.i64 p2] = some res :=
  fn_of Eglidepathref01_OpenErr_ok rfl rfl lo_nil ((tglidepathref01_OpenErr_eq _ _ _ _ _ _ _ _ _).trans h)

/-! ### glidepathref01_With -/

def Eglidepathref01_With : List Entry := []
theorem Eglidepathref01_With_ok : ∀ e ∈ Eglidepathref01_With, EntOK env e := ent_nil
def Tglidepathref01_With_0a (i0 : Int) (i1 : Int) (i2 : Int) (i3 : Int) (i4 : Int) (n5 : Nat) (c6 : List PV) : Q := ⟨(tm 37 [(1, (AV.p (PV.int Go.IntKind.i64 i0))), (2, (AV.loc 2 0)), (5, AV.nilS), (6, (AV.p (PV.int Go.IntKind.i64 i1)))]), (mm 37 [(2, (Bk.cells true [(AV.p (PV.int Go.IntKind.i64 i2)), (AV.p (PV.int Go.IntKind.i64 i3)), (AV.p (PV.int Go.IntKind.i64 i4)), (AV.p (PV.list n5 c6))]))])⟩
def Tglidepathref01_With_0b (i0 : Int) (n1 : Nat) (c2 : List PV) (i3 : Int) (i4 : Int) (i5 : Int) (i6 : Int) (n7 : Nat) (c8 : List PV) (n9 : Nat) : Q := ⟨(tm 37 [(1, (AV.p (PV.int Go.IntKind.i64 i0))), (2, (AV.loc 2 0)), (5, (AV.app 35 n1 1 c2)), (6, (AV.p (PV.int Go.IntKind.i64 i3)))]), (mm 37 [(2, (Bk.cells true [(AV.p (PV.int Go.IntKind.i64 i4)), (AV.p (PV.int Go.IntKind.i64 i5)), (AV.p (PV.int Go.IntKind.i64 i6)), (AV.p (PV.list n7 c8))])), (35, (Bk.buf n9))])⟩
def Xglidepathref01_With_0a (y : Int × Int × Int × Nat × List PV) : Ext × Q := (Ext.normal, ⟨(tm 37 [(5, AV.nilS)]), (mm 37 [(2, (Bk.cells true [(AV.p (PV.int Go.IntKind.i64 y.1)), (AV.p (PV.int Go.IntKind.i64 y.2.1)), (AV.p (PV.int Go.IntKind.i64 y.2.2.1)), (AV.p (PV.list y.2.2.2.1 y.2.2.2.2))]))])⟩)
def Iglidepathref01_With_0a (q : Ext × S) : Int × Int × Int × Nat × List PV := ((pP_int1 (pA_p (hdA (pB_cells1 (avM q.2 2))))), (pP_int1 (pA_p (hdA (List.tail (pB_cells1 (avM q.2 2)))))), (pP_int1 (pA_p (hdA (List.tail (List.tail (pB_cells1 (avM q.2 2))))))), (pP_list0 (pA_p (hdA (List.tail (List.tail (List.tail (pB_cells1 (avM q.2 2)))))))), (pP_list1 (pA_p (hdA (List.tail (List.tail (List.tail (pB_cells1 (avM q.2 2)))))))))
def Xglidepathref01_With_0b (y : Nat × List PV × Int × Int × Int × Nat × List PV × Nat) : Ext × Q := (Ext.normal, ⟨(tm 37 [(5, (AV.app 35 y.1 1 y.2.1))]), (mm 37 [(2, (Bk.cells true [(AV.p (PV.int Go.IntKind.i64 y.2.2.1)), (AV.p (PV.int Go.IntKind.i64 y.2.2.2.1)), (AV.p (PV.int Go.IntKind.i64 y.2.2.2.2.1)), (AV.p (PV.list y.2.2.2.2.2.1 y.2.2.2.2.2.2.1))])), (35, (Bk.buf y.2.2.2.2.2.2.2))])⟩)
def Iglidepathref01_With_0b (q : Ext × S) : Nat × List PV × Int × Int × Int × Nat × List PV × Nat := ((pA_app1 (avT q.2 5)), (pA_app3 (avT q.2 5)), (pP_int1 (pA_p (hdA (pB_cells1 (avM q.2 2))))), (pP_int1 (pA_p (hdA (List.tail (pB_cells1 (avM q.2 2)))))), (pP_int1 (pA_p (hdA (List.tail (List.tail (pB_cells1 (avM q.2 2))))))), (pP_list0 (pA_p (hdA (List.tail (List.tail (List.tail (pB_cells1 (avM q.2 2)))))))), (pP_list1 (pA_p (hdA (List.tail (List.tail (List.tail (pB_cells1 (avM q.2 2)))))))), (pB_buf0 (avM q.2 35)))
abbrev Yglidepathref01_With_0 : Type := (Int × Int × Int × Nat × List PV) ⊕ ((Nat × List PV × Int × Int × Int × Nat × List PV × Nat))
def XLglidepathref01_With_0 : XL Yglidepathref01_With_0 := .more Xglidepathref01_With_0a (.one Xglidepathref01_With_0b)
def Iglidepathref01_With_0 (q : Ext × S) : Yglidepathref01_With_0 := bif (cA (avT q.2 5) == 1) then (Sum.inl (Iglidepathref01_With_0a q)) else (Sum.inr (Iglidepathref01_With_0b q))
theorem XIglidepathref01_With_0a (y : Int × Int × Int × Nat × List PV) : Iglidepathref01_With_0 (xe (Xglidepathref01_With_0a y)) = (Sum.inl y) := rfl
theorem XIglidepathref01_With_0b (y : Nat × List PV × Int × Int × Int × Nat × List PV × Nat) : Iglidepathref01_With_0 (xe (Xglidepathref01_With_0b y)) = (Sum.inr y) := rfl
theorem XIglidepathref01_With_0 (y : Yglidepathref01_With_0) : Iglidepathref01_With_0 (xe (XLglidepathref01_With_0.fn y)) = y := (match y with | .inl y => XIglidepathref01_With_0a y | .inr y => XIglidepathref01_With_0b y)
noncomputable abbrev Lglidepathref01_With_0 : Q → Option Yglidepathref01_With_0 := lpO env a28.body 0 XLglidepathref01_With_0
noncomputable abbrev Rglidepathref01_With_0 : Q → Option (Ext × S) := lpR env a28.body 0
theorem Lglidepathref01_With_0a_of {s : Q} {y : Int × Int × Int × Nat × List PV} (h : Rglidepathref01_With_0 s = exO (Xglidepathref01_With_0a y)) : Lglidepathref01_With_0 s = some (Sum.inl y) := lpO_of Iglidepathref01_With_0 XIglidepathref01_With_0 (y := (Sum.inl y)) h
theorem Lglidepathref01_With_0b_of {s : Q} {y : Nat × List PV × Int × Int × Int × Nat × List PV × Nat} (h : Rglidepathref01_With_0 s = exO (Xglidepathref01_With_0b y)) : Lglidepathref01_With_0 s = some (Sum.inr y) := lpO_of Iglidepathref01_With_0 XIglidepathref01_With_0 (y := (Sum.inr y)) h
def Tglidepathref01_With_2a (i0 : Int) (i1 : Int) (i2 : Int) (i3 : Int) (i4 : Int) (i5 : Int) (n6 : Nat) (c7 : List PV) : Q := ⟨(tm 37 [(1, (AV.p (PV.int Go.IntKind.i64 i0))), (2, (AV.loc 2 0)), (5, AV.nilS), (6, (AV.p (PV.int Go.IntKind.i64 i1))), (7, (AV.p (PV.int Go.IntKind.i64 i2)))]), (mm 37 [(2, (Bk.cells true [(AV.p (PV.int Go.IntKind.i64 i3)), (AV.p (PV.int Go.IntKind.i64 i4)), (AV.p (PV.int Go.IntKind.i64 i5)), (AV.p (PV.list n6 c7))]))])⟩
def Tglidepathref01_With_2b (i0 : Int) (n1 : Nat) (c2 : List PV) (i3 : Int) (i4 : Int) (i5 : Int) (i6 : Int) (i7 : Int) (n8 : Nat) (c9 : List PV) (n10 : Nat) : Q := ⟨(tm 37 [(1, (AV.p (PV.int Go.IntKind.i64 i0))), (2, (AV.loc 2 0)), (5, (AV.app 35 n1 1 c2)), (6, (AV.p (PV.int Go.IntKind.i64 i3))), (7, (AV.p (PV.int Go.IntKind.i64 i4)))]), (mm 37 [(2, (Bk.cells true [(AV.p (PV.int Go.IntKind.i64 i5)), (AV.p (PV.int Go.IntKind.i64 i6)), (AV.p (PV.int Go.IntKind.i64 i7)), (AV.p (PV.list n8 c9))])), (35, (Bk.buf n10))])⟩
def Xglidepathref01_With_2a (y : Int × Int × Int × Int × Int × Nat × List PV) : Ext × Q := (Ext.normal, ⟨(tm 37 [(1, (AV.p (PV.int Go.IntKind.i64 y.1))), (2, (AV.loc 2 0)), (5, AV.nilS), (6, (AV.p (PV.int Go.IntKind.i64 y.2.1)))]), (mm 37 [(2, (Bk.cells true [(AV.p (PV.int Go.IntKind.i64 y.2.2.1)), (AV.p (PV.int Go.IntKind.i64 y.2.2.2.1)), (AV.p (PV.int Go.IntKind.i64 y.2.2.2.2.1)), (AV.p (PV.list y.2.2.2.2.2.1 y.2.2.2.2.2.2))]))])⟩)
def Iglidepathref01_With_2a (q : Ext × S) : Int × Int × Int × Int × Int × Nat × List PV := ((pP_int1 (pA_p (avT q.2 1))), (pP_int1 (pA_p (avT q.2 6))), (pP_int1 (pA_p (hdA (pB_cells1 (avM q.2 2))))), (pP_int1 (pA_p (hdA (List.tail (pB_cells1 (avM q.2 2)))))), (pP_int1 (pA_p (hdA (List.tail (List.tail (pB_cells1 (avM q.2 2))))))), (pP_list0 (pA_p (hdA (List.tail (List.tail (List.tail (pB_cells1 (avM q.2 2)))))))), (pP_list1 (pA_p (hdA (List.tail (List.tail (List.tail (pB_cells1 (avM q.2 2)))))))))
def Xglidepathref01_With_2b (y : Int × Nat × List PV × Int × Int × Int × Int × Nat × List PV × Nat) : Ext × Q := (Ext.normal, ⟨(tm 37 [(1, (AV.p (PV.int Go.IntKind.i64 y.1))), (2, (AV.loc 2 0)), (5, (AV.app 35 y.2.1 1 y.2.2.1)), (6, (AV.p (PV.int Go.IntKind.i64 y.2.2.2.1)))]), (mm 37 [(2, (Bk.cells true [(AV.p (PV.int Go.IntKind.i64 y.2.2.2.2.1)), (AV.p (PV.int Go.IntKind.i64 y.2.2.2.2.2.1)), (AV.p (PV.int Go.IntKind.i64 y.2.2.2.2.2.2.1)), (AV.p (PV.list y.2.2.2.2.2.2.2.1 y.2.2.2.2.2.2.2.2.1))])), (35, (Bk.buf y.2.2.2.2.2.2.2.2.2))])⟩)
def Iglidepathref01_With_2b (q : Ext × S) : Int × Nat × List PV × Int × Int × Int × Int × Nat × List PV × Nat := ((pP_int1 (pA_p (avT q.2 1))), (pA_app1 (avT q.2 5)), (pA_app3 (avT q.2 5)), (pP_int1 (pA_p (avT q.2 6))), (pP_int1 (pA_p (hdA (pB_cells1 (avM q.2 2))))), (pP_int1 (pA_p (hdA (List.tail (pB_cells1 (avM q.2 2)))))), (pP_int1 (pA_p (hdA (List.tail (List.tail (pB_cells1 (avM q.2 2))))))), (pP_list0 (pA_p (hdA (List.tail (List.tail (List.tail (pB_cells1 (avM q.2 2)))))))), (pP_list1 (pA_p (hdA (List.tail (List.tail (List.tail (pB_cells1 (avM q.2 2)))))))), (pB_buf0 (avM q.2 35)))
abbrev Yglidepathref01_With_2 : Type := (Int × Int × Int × Int × Int × Nat × List PV) ⊕ ((Int × Nat × List PV × Int × Int × Int × Int × Nat × List PV × Nat))
def XLglidepathref01_With_2 : XL Yglidepathref01_With_2 := .more Xglidepathref01_With_2a (.one Xglidepathref01_With_2b)
def Iglidepathref01_With_2 (q : Ext × S) : Yglidepathref01_With_2 := bif (cA (avT q.2 5) == 1) then (Sum.inl (Iglidepathref01_With_2a q)) else (Sum.inr (Iglidepathref01_With_2b q))
theorem XIglidepathref01_With_2a (y : Int × Int × Int × Int × Int × Nat × List PV) : Iglidepathref01_With_2 (xe (Xglidepathref01_With_2a y)) = (Sum.inl y) := rfl
theorem XIglidepathref01_With_2b (y : Int × Nat × List PV × Int × Int × Int × Int × Nat × List PV × Nat) : Iglidepathref01_With_2 (xe (Xglidepathref01_With_2b y)) = (Sum.inr y) := rfl
theorem XIglidepathref01_With_2 (y : Yglidepathref01_With_2) : Iglidepathref01_With_2 (xe (XLglidepathref01_With_2.fn y)) = y := (match y with | .inl y => XIglidepathref01_With_2a y | .inr y => XIglidepathref01_With_2b y)
noncomputable abbrev Lglidepathref01_With_2 : Q → Option Yglidepathref01_With_2 := lpO env a28.body 2 XLglidepathref01_With_2
noncomputable abbrev Rglidepathref01_With_2 : Q → Option (Ext × S) := lpR env a28.body 2
theorem Lglidepathref01_With_2a_of {s : Q} {y : Int × Int × Int × Int × Int × Nat × List PV} (h : Rglidepathref01_With_2 s = exO (Xglidepathref01_With_2a y)) : Lglidepathref01_With_2 s = some (Sum.inl y) := lpO_of Iglidepathref01_With_2 XIglidepathref01_With_2 (y := (Sum.inl y)) h
theorem Lglidepathref01_With_2b_of {s : Q} {y : Int × Nat × List PV × Int × Int × Int × Int × Nat × List PV × Nat} (h : Rglidepathref01_With_2 s = exO (Xglidepathref01_With_2b y)) : Lglidepathref01_With_2 s = some (Sum.inr y) := lpO_of Iglidepathref01_With_2 XIglidepathref01_With_2 (y := (Sum.inr y)) h
theorem Uglidepathref01_With : uniq ((blocksOf a28.body).map (·.1)) = true := by kernel_rfl
def Bglidepathref01_With_0a (F : FnT) (N : Q → Option (Ext × S)) (E : Ext × Q → Option (Ext × S)) (L0 : Q → Option Yglidepathref01_With_0) (L2 : Q → Option Yglidepathref01_With_2) (i0 : Int) (i1 : Int) (i2 : Int) (i3 : Int) (i4 : Int) (n5 : Nat) (c6 : List PV) : Option (Ext × S) :=
  bif (decide (i1 < i4)) then
    bindO (L2 (Tglidepathref01_With_2a i0 i1 (0 : Int) i2 i3 i4 n5 c6)) fun z =>
    Sum.elim (fun y0 =>
      N (Tglidepathref01_With_0a y0.1 (w64 (y0.2.1 + (1 : Int))) y0.2.2.1 y0.2.2.2.1 y0.2.2.2.2.1 y0.2.2.2.2.2.1 y0.2.2.2.2.2.2)) (fun y1 =>
      N (Tglidepathref01_With_0b y1.1 y1.2.1 y1.2.2.1 (w64 (y1.2.2.2.1 + (1 : Int))) y1.2.2.2.2.1 y1.2.2.2.2.2.1 y1.2.2.2.2.2.2.1 y1.2.2.2.2.2.2.2.1 y1.2.2.2.2.2.2.2.2.1 y1.2.2.2.2.2.2.2.2.2)) z
  else E (Xglidepathref01_With_0a (i2, i3, i4, n5, c6))
theorem Bglidepathref01_With_0a_eq (F : FnT) (N : Q → Option (Ext × S)) (E : Ext × Q → Option (Ext × S)) (L0 : Q → Option Yglidepathref01_With_0) (L2 : Q → Option Yglidepathref01_With_2) (i0 : Int) (i1 : Int) (i2 : Int) (i3 : Int) (i4 : Int) (n5 : Nat) (c6 : List PV) : semB (callP F Eglidepathref01_With 20) s28 (loopT [⟨0, Yglidepathref01_With_0, L0, XLglidepathref01_With_0⟩, ⟨2, Yglidepathref01_With_2, L2, XLglidepathref01_With_2⟩]) 400 (blkIn a28.body 0) N E (Tglidepathref01_With_0a i0 i1 i2 i3 i4 n5 c6) = Bglidepathref01_With_0a F N E L0 L2 i0 i1 i2 i3 i4 n5 c6 := by kernel_rfl
theorem Rglidepathref01_With_0a_of  (i0 : Int) (i1 : Int) (i2 : Int) (i3 : Int) (i4 : Int) (n5 : Nat) (c6 : List PV) {r : Ext × S} (h : Bglidepathref01_With_0a (Fn env) Rglidepathref01_With_0 exO Lglidepathref01_With_0 Lglidepathref01_With_2 i0 i1 i2 i3 i4 n5 c6 = some r) : Rglidepathref01_With_0 (Tglidepathref01_With_0a i0 i1 i2 i3 i4 n5 c6) = some r :=
  lp_of Eglidepathref01_With_ok (by kernel_rfl) (lo_cons (lpO_ok Uglidepathref01_With) (lo_cons (lpO_ok Uglidepathref01_With) lo_nil)) (by kernel_rfl) ((Bglidepathref01_With_0a_eq _ _ _ _ _ _ _ _ _ _ _ _).trans h)
def Bglidepathref01_With_0b (F : FnT) (N : Q → Option (Ext × S)) (E : Ext × Q → Option (Ext × S)) (L0 : Q → Option Yglidepathref01_With_0) (L2 : Q → Option Yglidepathref01_With_2) (i0 : Int) (n1 : Nat) (c2 : List PV) (i3 : Int) (i4 : Int) (i5 : Int) (i6 : Int) (n7 : Nat) (c8 : List PV) (n9 : Nat) : Option (Ext × S) :=
  bif (decide (i3 < i6)) then
    bindO (L2 (Tglidepathref01_With_2b i0 n1 c2 i3 (0 : Int) i4 i5 i6 n7 c8 n9)) fun z =>
    Sum.elim (fun y0 =>
      N (Tglidepathref01_With_0a y0.1 (w64 (y0.2.1 + (1 : Int))) y0.2.2.1 y0.2.2.2.1 y0.2.2.2.2.1 y0.2.2.2.2.2.1 y0.2.2.2.2.2.2)) (fun y1 =>
      N (Tglidepathref01_With_0b y1.1 y1.2.1 y1.2.2.1 (w64 (y1.2.2.2.1 + (1 : Int))) y1.2.2.2.2.1 y1.2.2.2.2.2.1 y1.2.2.2.2.2.2.1 y1.2.2.2.2.2.2.2.1 y1.2.2.2.2.2.2.2.2.1 y1.2.2.2.2.2.2.2.2.2)) z
  else E (Xglidepathref01_With_0b (n1, c2, i4, i5, i6, n7, c8, n9))
theorem Bglidepathref01_With_0b_eq (F : FnT) (N : Q → Option (Ext × S)) (E : Ext × Q → Option (Ext × S)) (L0 : Q → Option Yglidepathref01_With_0) (L2 : Q → Option Yglidepathref01_With_2) (i0 : Int) (n1 : Nat) (c2 : List PV) (i3 : Int) (i4 : Int) (i5 : Int) (i6 : Int) (n7 : Nat) (c8 : List PV) (n9 : Nat) : semB (callP F Eglidepathref01_With 20) s28 (loopT [⟨0, Yglidepathref01_With_0, L0, XLglidepathref01_With_0⟩, ⟨2, Yglidepathref01_With_2, L2, XLglidepathref01_With_2⟩]) 400 (blkIn a28.body 0) N E (Tglidepathref01_With_0b i0 n1 c2 i3 i4 i5 i6 n7 c8 n9) = Bglidepathref01_With_0b F N E L0 L2 i0 n1 c2 i3 i4 i5 i6 n7 c8 n9 := by kernel_rfl
theorem Rglidepathref01_With_0b_of  (i0 : Int) (n1 : Nat) (c2 : List PV) (i3 : Int) (i4 : Int) (i5 : Int) (i6 : Int) (n7 : Nat) (c8 : List PV) (n9 : Nat) {r : Ext × S} (h : Bglidepathref01_With_0b (Fn env) Rglidepathref01_With_0 exO Lglidepathref01_With_0 Lglidepathref01_With_2 i0 n1 c2 i3 i4 i5 i6 n7 c8 n9 = some r) : Rglidepathref01_With_0 (Tglidepathref01_With_0b i0 n1 c2 i3 i4 i5 i6 n7 c8 n9) = some r :=
  lp_of Eglidepathref01_With_ok (by kernel_rfl) (lo_cons (lpO_ok Uglidepathref01_With) (lo_cons (lpO_ok Uglidepathref01_With) lo_nil)) (by kernel_rfl) ((Bglidepathref01_With_0b_eq _ _ _ _ _ _ _ _ _ _ _ _ _ _ _).trans h)
def Bglidepathref01_With_2a (F : FnT) (N : Q → Option (Ext × S)) (E : Ext × Q → Option (Ext × S)) (L0 : Q → Option Yglidepathref01_With_0) (L2 : Q → Option Yglidepathref01_With_2) (i0 : Int) (i1 : Int) (i2 : Int) (i3 : Int) (i4 : Int) (i5 : Int) (n6 : Nat) (c7 : List PV) : Option (Ext × S) :=
  bif (decide (i2 < (n6 : Int))) then
    bif ((w64 ((w64 (i3 + (w64 (i1 * i4)))) + i2)) == i0) then
      N (Tglidepathref01_With_2b i0 1 [(Gv.PV.int Go.IntKind.i64 i1)] i1 (w64 (i2 + (1 : Int))) i3 i4 i5 n6 c7 1)
    else N (Tglidepathref01_With_2a i0 i1 (w64 (i2 + (1 : Int))) i3 i4 i5 n6 c7)
  else E (Xglidepathref01_With_2a (i0, i1, i3, i4, i5, n6, c7))
theorem Bglidepathref01_With_2a_eq (F : FnT) (N : Q → Option (Ext × S)) (E : Ext × Q → Option (Ext × S)) (L0 : Q → Option Yglidepathref01_With_0) (L2 : Q → Option Yglidepathref01_With_2) (i0 : Int) (i1 : Int) (i2 : Int) (i3 : Int) (i4 : Int) (i5 : Int) (n6 : Nat) (c7 : List PV) : semB (callP F Eglidepathref01_With 20) s28 (loopT [⟨0, Yglidepathref01_With_0, L0, XLglidepathref01_With_0⟩, ⟨2, Yglidepathref01_With_2, L2, XLglidepathref01_With_2⟩]) 400 (blkIn a28.body 2) N E (Tglidepathref01_With_2a i0 i1 i2 i3 i4 i5 n6 c7) = Bglidepathref01_With_2a F N E L0 L2 i0 i1 i2 i3 i4 i5 n6 c7 := by kernel_rfl
theorem Rglidepathref01_With_2a_of  (i0 : Int) (i1 : Int) (i2 : Int) (i3 : Int) (i4 : Int) (i5 : Int) (n6 : Nat) (c7 : List PV) {r : Ext × S} (h : Bglidepathref01_With_2a (Fn env) Rglidepathref01_With_2 exO Lglidepathref01_With_0 Lglidepathref01_With_2 i0 i1 i2 i3 i4 i5 n6 c7 = some r) : Rglidepathref01_With_2 (Tglidepathref01_With_2a i0 i1 i2 i3 i4 i5 n6 c7) = some r :=
  lp_of Eglidepathref01_With_ok (by kernel_rfl) (lo_cons (lpO_ok Uglidepathref01_With) (lo_cons (lpO_ok Uglidepathref01_With) lo_nil)) (by kernel_rfl) ((Bglidepathref01_With_2a_eq _ _ _ _ _ _ _ _ _ _ _ _ _).trans h)
def Bglidepathref01_With_2b (F : FnT) (N : Q → Option (Ext × S)) (E : Ext × Q → Option (Ext × S)) (L0 : Q → Option Yglidepathref01_With_0) (L2 : Q → Option Yglidepathref01_With_2) (i0 : Int) (n1 : Nat) (c2 : List PV) (i3 : Int) (i4 : Int) (i5 : Int) (i6 : Int) (i7 : Int) (n8 : Nat) (c9 : List PV) (n10 : Nat) : Option (Ext × S) :=
  bif (decide (i4 < (n8 : Int))) then
    bif ((w64 ((w64 (i5 + (w64 (i3 * i6)))) + i4)) == i0) then
      bif (decide ((n10 = n1) ∧ ((n1 + 1) ≤ Gv.big))) then
        N (Tglidepathref01_With_2b i0 (n1 + 1) (c2 ++ [(Gv.PV.int Go.IntKind.i64 i3)]) i3 (w64 (i4 + (1 : Int))) i5 i6 i7 n8 c9 (n1 + 1))
      else none
    else N (Tglidepathref01_With_2b i0 n1 c2 i3 (w64 (i4 + (1 : Int))) i5 i6 i7 n8 c9 n10)
  else E (Xglidepathref01_With_2b (i0, n1, c2, i3, i5, i6, i7, n8, c9, n10))
theorem Bglidepathref01_With_2b_eq (F : FnT) (N : Q → Option (Ext × S)) (E : Ext × Q → Option (Ext × S)) (L0 : Q → Option Yglidepathref01_With_0) (L2 : Q → Option Yglidepathref01_With_2) (i0 : Int) (n1 : Nat) (c2 : List PV) (i3 : Int) (i4 : Int) (i5 : Int) (i6 : Int) (i7 : Int) (n8 : Nat) (c9 : List PV) (n10 : Nat) : semB (callP F Eglidepathref01_With 20) s28 (loopT [⟨0, Yglidepathref01_With_0, L0, XLglidepathref01_With_0⟩, ⟨2, Yglidepathref01_With_2, L2, XLglidepathref01_With_2⟩]) 400 (blkIn a28.body 2) N E (Tglidepathref01_With_2b i0 n1 c2 i3 i4 i5 i6 i7 n8 c9 n10) = Bglidepathref01_With_2b F N E L0 L2 i0 n1 c2 i3 i4 i5 i6 i7 n8 c9 n10 := by kernel_rfl
theorem Rglidepathref01_With_2b_of  (i0 : Int) (n1 : Nat) (c2 : List PV) (i3 : Int) (i4 : Int) (i5 : Int) (i6 : Int) (i7 : Int) (n8 : Nat) (c9 : List PV) (n10 : Nat) {r : Ext × S} (h : Bglidepathref01_With_2b (Fn env) Rglidepathref01_With_2 exO Lglidepathref01_With_0 Lglidepathref01_With_2 i0 n1 c2 i3 i4 i5 i6 i7 n8 c9 n10 = some r) : Rglidepathref01_With_2 (Tglidepathref01_With_2b i0 n1 c2 i3 i4 i5 i6 i7 n8 c9 n10) = some r :=
  lp_of Eglidepathref01_With_ok (by kernel_rfl) (lo_cons (lpO_ok Uglidepathref01_With) (lo_cons (lpO_ok Uglidepathref01_With) lo_nil)) (by kernel_rfl) ((Bglidepathref01_With_2b_eq _ _ _ _ _ _ _ _ _ _ _ _ _ _ _ _).trans h)
def tglidepathref01_With (F : FnT) (L0 : Q → Option Yglidepathref01_With_0) (L2 : Q → Option Yglidepathref01_With_2) (p0_0 : Int) (p0_1 : Int) (p0_2 : Int) (p0_3n : Nat) (p0_3c : List PV) (p1 : Int) : Option ((Nat) × (List PV)) :=
  bindO (L0 (Tglidepathref01_With_0a p1 (0 : Int) p0_0 p0_1 p0_2 p0_3n p0_3c)) fun z =>
  Sum.elim (fun y0 =>
    some (0, [])) (fun y1 =>
    bif (decide (y1.2.2.2.2.2.2.2 = y1.1)) then
      some (y1.1, y1.2.1)
    else none) z
theorem tglidepathref01_With_eq (F : FnT) (L0 : Q → Option Yglidepathref01_With_0) (L2 : Q → Option Yglidepathref01_With_2) (p0_0 : Int) (p0_1 : Int) (p0_2 : Int) (p0_3n : Nat) (p0_3c : List PV) (p1 : Int) : semF (callP F Eglidepathref01_With 20) s28 (loopT [⟨0, Yglidepathref01_With_0, L0, XLglidepathref01_With_0⟩, ⟨2, Yglidepathref01_With_2, L2, XLglidepathref01_With_2⟩]) 400 a28 [PV.agg [PV.int Go.IntKind.i64 p0_0, PV.int Go.IntKind.i64 p0_1, PV.int Go.IntKind.i64 p0_2, PV.list p0_3n p0_3c], PV.int Go.IntKind.i64 p1] (fun rv => decR (Gv.RSh.one Gv.CK.list) rv.pv) = tglidepathref01_With F L0 L2 p0_0 p0_1 p0_2 p0_3n p0_3c p1 := by kernel_rfl
noncomputable abbrev Fglidepathref01_With (args : List PV) := Fn env 28 (Gv.RSh.one Gv.CK.list) args
theorem Fglidepathref01_With_of  (p0_0 : Int) (p0_1 : Int) (p0_2 : Int) (p0_3n : Nat) (p0_3c : List PV) (p1 : Int) {res : ((Nat) × (List PV))} (h : tglidepathref01_With (Fn env) Lglidepathref01_With_0 Lglidepathref01_With_2 p0_0 p0_1 p0_2 p0_3n p0_3c p1 = some res) : Fglidepathref01_With [PV.agg [PV.int Go.IntKind.i64 p0_0, PV.int Go.IntKind.i64 p0_1, PV.int Go.IntKind.i64 p0_2, PV.list p0_3n p0_3c], PV.int Go.IntKind.i64 p1] = some res :=
  fn_of Eglidepathref01_With_ok rfl rfl (lo_cons (lpO_ok Uglidepathref01_With) (lo_cons (lpO_ok Uglidepathref01_With) lo_nil)) ((tglidepathref01_With_eq _ _ _ _ _ _ _ _ _).trans h)

/-! ### glidepathbase_Has -/

def Eglidepathbase_Has : List Entry := []
theorem Eglidepathbase_Has_ok : ∀ e ∈ Eglidepathbase_Has, EntOK env e := ent_nil
def Tglidepathbase_Has_0a (n0 : Nat) (c1 : List PV) (i2 : Int) (i3 : Int) : Q := ⟨(tm 18 [(0, (AV.p (PV.list n0 c1))), (1, (AV.p (PV.int Go.IntKind.i64 i2))), (5, (AV.p (PV.int Go.IntKind.i64 i3)))]), (mm 18 [])⟩
def Xglidepathbase_Has_0a (y : Unit) : Ext × Q := (Ext.ret, ⟨(tm 18 [(4, (AV.p (PV.bool true)))]), (mm 18 [])⟩)
def Iglidepathbase_Has_0a (q : Ext × S) : Unit := ()
def Xglidepathbase_Has_0b (y : Unit) : Ext × Q := (Ext.normal, ⟨(tm 18 []), (mm 18 [])⟩)
def Iglidepathbase_Has_0b (q : Ext × S) : Unit := ()
abbrev Yglidepathbase_Has_0 : Type := (Unit) ⊕ ((Unit))
def XLglidepathbase_Has_0 : XL Yglidepathbase_Has_0 := .more Xglidepathbase_Has_0a (.one Xglidepathbase_Has_0b)
def Iglidepathbase_Has_0 (q : Ext × S) : Yglidepathbase_Has_0 := bif (cE q.1 == 2) then (Sum.inl (Iglidepathbase_Has_0a q)) else (Sum.inr (Iglidepathbase_Has_0b q))
theorem XIglidepathbase_Has_0a (y : Unit) : Iglidepathbase_Has_0 (xe (Xglidepathbase_Has_0a y)) = (Sum.inl y) := rfl
theorem XIglidepathbase_Has_0b (y : Unit) : Iglidepathbase_Has_0 (xe (Xglidepathbase_Has_0b y)) = (Sum.inr y) := rfl
theorem XIglidepathbase_Has_0 (y : Yglidepathbase_Has_0) : Iglidepathbase_Has_0 (xe (XLglidepathbase_Has_0.fn y)) = y := (match y with | .inl y => XIglidepathbase_Has_0a y | .inr y => XIglidepathbase_Has_0b y)
noncomputable abbrev Lglidepathbase_Has_0 : Q → Option Yglidepathbase_Has_0 := lpO env a36.body 0 XLglidepathbase_Has_0
noncomputable abbrev Rglidepathbase_Has_0 : Q → Option (Ext × S) := lpR env a36.body 0
theorem Lglidepathbase_Has_0a_of {s : Q} {y : Unit} (h : Rglidepathbase_Has_0 s = exO (Xglidepathbase_Has_0a y)) : Lglidepathbase_Has_0 s = some (Sum.inl y) := lpO_of Iglidepathbase_Has_0 XIglidepathbase_Has_0 (y := (Sum.inl y)) h
theorem Lglidepathbase_Has_0b_of {s : Q} {y : Unit} (h : Rglidepathbase_Has_0 s = exO (Xglidepathbase_Has_0b y)) : Lglidepathbase_Has_0 s = some (Sum.inr y) := lpO_of Iglidepathbase_Has_0 XIglidepathbase_Has_0 (y := (Sum.inr y)) h
theorem Uglidepathbase_Has : uniq ((blocksOf a36.body).map (·.1)) = true := by kernel_rfl
def Bglidepathbase_Has_0a (F : FnT) (N : Q → Option (Ext × S)) (E : Ext × Q → Option (Ext × S)) (L0 : Q → Option Yglidepathbase_Has_0) (n0 : Nat) (c1 : List PV) (i2 : Int) (i3 : Int) : Option (Ext × S) :=
  bif (decide (i3 < (n0 : Int))) then
    bif (decide (((0 : Int) ≤ i3) ∧ (i3 < (n0 : Int)))) then
      bindO (Gv.intC Go.IntKind.i64 (c1[((Int.toNat i3) * 1)]?)) fun x0 =>
      bif (x0 == i2) then
        E (Xglidepathbase_Has_0a ())
      else N (Tglidepathbase_Has_0a n0 c1 i2 (w64 (i3 + (1 : Int))))
    else none
  else E (Xglidepathbase_Has_0b ())
theorem Bglidepathbase_Has_0a_eq (F : FnT) (N : Q → Option (Ext × S)) (E : Ext × Q → Option (Ext × S)) (L0 : Q → Option Yglidepathbase_Has_0) (n0 : Nat) (c1 : List PV) (i2 : Int) (i3 : Int) : semB (callP F Eglidepathbase_Has 20) s36 (loopT [⟨0, Yglidepathbase_Has_0, L0, XLglidepathbase_Has_0⟩]) 400 (blkIn a36.body 0) N E (Tglidepathbase_Has_0a n0 c1 i2 i3) = Bglidepathbase_Has_0a F N E L0 n0 c1 i2 i3 := by kernel_rfl
theorem Rglidepathbase_Has_0a_of  (n0 : Nat) (c1 : List PV) (i2 : Int) (i3 : Int) {r : Ext × S} (h : Bglidepathbase_Has_0a (Fn env) Rglidepathbase_Has_0 exO Lglidepathbase_Has_0 n0 c1 i2 i3 = some r) : Rglidepathbase_Has_0 (Tglidepathbase_Has_0a n0 c1 i2 i3) = some r :=
  lp_of Eglidepathbase_Has_ok (by kernel_rfl) (lo_cons (lpO_ok Uglidepathbase_Has) lo_nil) (by kernel_rfl) ((Bglidepathbase_Has_0a_eq _ _ _ _ _ _ _ _).trans h)
def tglidepathbase_Has (F : FnT) (L0 : Q → Option Yglidepathbase_Has_0) (p0n : Nat) (p0c : List PV) (p1 : Int) : Option (Bool) :=
  bindO (L0 (Tglidepathbase_Has_0a p0n p0c p1 (0 : Int))) fun z =>
  Sum.elim (fun y0 =>
    some true) (fun y1 =>
    some false) z
theorem tglidepathbase_Has_eq (F : FnT) (L0 : Q → Option Yglidepathbase_Has_0) (p0n : Nat) (p0c : List PV) (p1 : Int) : semF (callP F Eglidepathbase_Has 20) s36 (loopT [⟨0, Yglidepathbase_Has_0, L0, XLglidepathbase_Has_0⟩]) 400 a36 [PV.list p0n p0c, PV.int Go.IntKind.i64 p1] (fun rv => decR (Gv.RSh.one Gv.CK.bool) rv.pv) = tglidepathbase_Has F L0 p0n p0c p1 := by kernel_rfl
noncomputable abbrev Fglidepathbase_Has (args : List PV) := Fn env 36 (Gv.RSh.one Gv.CK.bool) args
theorem Fglidepathbase_Has_of  (p0n : Nat) (p0c : List PV) (p1 : Int) {res : (Bool)} (h : tglidepathbase_Has (Fn env) Lglidepathbase_Has_0 p0n p0c p1 = some res) : Fglidepathbase_Has [PV.list p0n p0c, PV.int Go.IntKind.i64 p1] = some res :=
  fn_of Eglidepathbase_Has_ok rfl rfl (lo_cons (lpO_ok Uglidepathbase_Has) lo_nil) ((tglidepathbase_Has_eq _ _ _ _ _).trans h)

/-! ### pulse_gatesOf_1 -/

def Epulse_gatesOf_1 : List Entry := [.out 100 (Gv.RSh.one (Gv.CK.int Go.IntKind.i64))]
theorem Epulse_gatesOf_1_ok : ∀ e ∈ Epulse_gatesOf_1, EntOK env e := (ent_out ent_nil)
def Tpulse_gatesOf_1_0a (i0 : Int) (i1 : Int) (i2 : Int) (n3 : Nat) (c4 : List PV) (i5 : Int) (i6 : Int) (c7 : List (Option Nat)) (n8 : Nat) (n9 : Nat) (c10 : List PV) : Q := ⟨(tm 17 [(0, AV.yv), (1, (AV.p (PV.imm [(PV.int Go.IntKind.i64 i0), (PV.int Go.IntKind.i64 i1), (PV.int Go.IntKind.i64 i2), (PV.list n3 c4)] 0))), (5, (AV.p (PV.int Go.IntKind.i64 i5))), (6, (AV.p (PV.int Go.IntKind.i64 i6)))]), (mm 17 [(0, (Bk.log c7 n8 n9 c10))])⟩
def Xpulse_gatesOf_1_0a (y : List (Option Nat) × Nat × Nat × List PV) : Ext × Q := (Ext.ret, ⟨(tm 17 []), (mm 17 [(0, (Bk.log y.1 y.2.1 y.2.2.1 y.2.2.2))])⟩)
def Ipulse_gatesOf_1_0a (q : Ext × S) : List (Option Nat) × Nat × Nat × List PV := ((pB_log0 (avM q.2 0)), (pB_log1 (avM q.2 0)), (pB_log2 (avM q.2 0)), (pB_log3 (avM q.2 0)))
def Xpulse_gatesOf_1_0b (y : List (Option Nat) × Nat × Nat × List PV) : Ext × Q := (Ext.normal, ⟨(tm 17 []), (mm 17 [(0, (Bk.log y.1 y.2.1 y.2.2.1 y.2.2.2))])⟩)
def Ipulse_gatesOf_1_0b (q : Ext × S) : List (Option Nat) × Nat × Nat × List PV := ((pB_log0 (avM q.2 0)), (pB_log1 (avM q.2 0)), (pB_log2 (avM q.2 0)), (pB_log3 (avM q.2 0)))
abbrev Ypulse_gatesOf_1_0 : Type := (List (Option Nat) × Nat × Nat × List PV) ⊕ ((List (Option Nat) × Nat × Nat × List PV))
def XLpulse_gatesOf_1_0 : XL Ypulse_gatesOf_1_0 := .more Xpulse_gatesOf_1_0a (.one Xpulse_gatesOf_1_0b)
def Ipulse_gatesOf_1_0 (q : Ext × S) : Ypulse_gatesOf_1_0 := bif (cE q.1 == 2) then (Sum.inl (Ipulse_gatesOf_1_0a q)) else (Sum.inr (Ipulse_gatesOf_1_0b q))
theorem XIpulse_gatesOf_1_0a (y : List (Option Nat) × Nat × Nat × List PV) : Ipulse_gatesOf_1_0 (xe (Xpulse_gatesOf_1_0a y)) = (Sum.inl y) := rfl
theorem XIpulse_gatesOf_1_0b (y : List (Option Nat) × Nat × Nat × List PV) : Ipulse_gatesOf_1_0 (xe (Xpulse_gatesOf_1_0b y)) = (Sum.inr y) := rfl
theorem XIpulse_gatesOf_1_0 (y : Ypulse_gatesOf_1_0) : Ipulse_gatesOf_1_0 (xe (XLpulse_gatesOf_1_0.fn y)) = y := (match y with | .inl y => XIpulse_gatesOf_1_0a y | .inr y => XIpulse_gatesOf_1_0b y)
noncomputable abbrev Lpulse_gatesOf_1_0 : Q → Option Ypulse_gatesOf_1_0 := lpO env a141.body 0 XLpulse_gatesOf_1_0
noncomputable abbrev Rpulse_gatesOf_1_0 : Q → Option (Ext × S) := lpR env a141.body 0
theorem Lpulse_gatesOf_1_0a_of {s : Q} {y : List (Option Nat) × Nat × Nat × List PV} (h : Rpulse_gatesOf_1_0 s = exO (Xpulse_gatesOf_1_0a y)) : Lpulse_gatesOf_1_0 s = some (Sum.inl y) := lpO_of Ipulse_gatesOf_1_0 XIpulse_gatesOf_1_0 (y := (Sum.inl y)) h
theorem Lpulse_gatesOf_1_0b_of {s : Q} {y : List (Option Nat) × Nat × Nat × List PV} (h : Rpulse_gatesOf_1_0 s = exO (Xpulse_gatesOf_1_0b y)) : Lpulse_gatesOf_1_0 s = some (Sum.inr y) := lpO_of Ipulse_gatesOf_1_0 XIpulse_gatesOf_1_0 (y := (Sum.inr y)) h
theorem Upulse_gatesOf_1 : uniq ((blocksOf a141.body).map (·.1)) = true := by kernel_rfl
def Bpulse_gatesOf_1_0a (F : FnT) (N : Q → Option (Ext × S)) (E : Ext × Q → Option (Ext × S)) (L0 : Q → Option Ypulse_gatesOf_1_0) (i0 : Int) (i1 : Int) (i2 : Int) (n3 : Nat) (c4 : List PV) (i5 : Int) (i6 : Int) (c7 : List (Option Nat)) (n8 : Nat) (n9 : Nat) (c10 : List PV) : Option (Ext × S) :=
  bif (decide (i6 < i5)) then
    bindO (F 100 (Gv.RSh.one (Gv.CK.int Go.IntKind.i64)) [(Gv.PV.agg [(Gv.PV.int Go.IntKind.i64 i0), (Gv.PV.int Go.IntKind.i64 i1), (Gv.PV.int Go.IntKind.i64 i2), (Gv.PV.list (Prod.mk n3 c4).1 (Prod.mk n3 c4).2)]), (Gv.PV.int Go.IntKind.i64 i6)]) fun (y0 : (Int)) =>
    bif (decide (n9 ≤ n8)) then
      bif (Gv.shapeOK c7 [(Gv.PV.int Go.IntKind.i64 i6), (Gv.encR (Gv.RSh.one (Gv.CK.int Go.IntKind.i64)) y0)]) then
        bif (n9 != n8) then
          N (Tpulse_gatesOf_1_0a i0 i1 i2 n3 c4 i5 (w64 (i6 + (1 : Int))) c7 n8 (n9 + 1) (c10 ++ [(Gv.PV.int Go.IntKind.i64 i6), (Gv.PV.int Go.IntKind.i64 y0)]))
        else E (Xpulse_gatesOf_1_0a (c7, n8, (n9 + 1), (c10 ++ [(Gv.PV.int Go.IntKind.i64 i6), (Gv.PV.int Go.IntKind.i64 y0)])))
      else none
    else none
  else E (Xpulse_gatesOf_1_0b (c7, n8, n9, c10))
theorem Bpulse_gatesOf_1_0a_eq (F : FnT) (N : Q → Option (Ext × S)) (E : Ext × Q → Option (Ext × S)) (L0 : Q → Option Ypulse_gatesOf_1_0) (i0 : Int) (i1 : Int) (i2 : Int) (n3 : Nat) (c4 : List PV) (i5 : Int) (i6 : Int) (c7 : List (Option Nat)) (n8 : Nat) (n9 : Nat) (c10 : List PV) : semB (callP F Epulse_gatesOf_1 20) s141 (loopT [⟨0, Ypulse_gatesOf_1_0, L0, XLpulse_gatesOf_1_0⟩]) 400 (blkIn a141.body 0) N E (Tpulse_gatesOf_1_0a i0 i1 i2 n3 c4 i5 i6 c7 n8 n9 c10) = Bpulse_gatesOf_1_0a F N E L0 i0 i1 i2 n3 c4 i5 i6 c7 n8 n9 c10 := by kernel_rfl
theorem Rpulse_gatesOf_1_0a_of  (i0 : Int) (i1 : Int) (i2 : Int) (n3 : Nat) (c4 : List PV) (i5 : Int) (i6 : Int) (c7 : List (Option Nat)) (n8 : Nat) (n9 : Nat) (c10 : List PV) {r : Ext × S} (h : Bpulse_gatesOf_1_0a (Fn env) Rpulse_gatesOf_1_0 exO Lpulse_gatesOf_1_0 i0 i1 i2 n3 c4 i5 i6 c7 n8 n9 c10 = some r) : Rpulse_gatesOf_1_0 (Tpulse_gatesOf_1_0a i0 i1 i2 n3 c4 i5 i6 c7 n8 n9 c10) = some r :=
  lp_of Epulse_gatesOf_1_ok (by kernel_rfl) (lo_cons (lpO_ok Upulse_gatesOf_1) lo_nil) (by kernel_rfl) ((Bpulse_gatesOf_1_0a_eq _ _ _ _ _ _ _ _ _ _ _ _ _ _ _).trans h)
def tpulse_gatesOf_1 (F : FnT) (L0 : Q → Option Ypulse_gatesOf_1_0)(k : Nat) (a b c : Int) (n : Nat) (cs : List PV) : Option ((Nat) × (List PV)) :=
  bindO (L0 (Tpulse_gatesOf_1_0a a b c n cs c (0 : Int) [Option.none, Option.none] k 0 [])) fun z =>
  Sum.elim (fun y0 =>
    some (y0.2.2.1, y0.2.2.2)) (fun y1 =>
    some (y1.2.2.1, y1.2.2.2)) z
theorem tpulse_gatesOf_1_eq (F : FnT) (L0 : Q → Option Ypulse_gatesOf_1_0)(k : Nat) (a b c : Int) (n : Nat) (cs : List PV) : semF (callP F Epulse_gatesOf_1 20) s141 (loopT [⟨0, Ypulse_gatesOf_1_0, L0, XLpulse_gatesOf_1_0⟩]) 400 a141 [.it [none, none] (k + 1), .imm [.int .i64 a, .int .i64 b, .int .i64 c, .list n cs] 0] (fun rv => decR (Gv.RSh.one Gv.CK.list) rv.pv) = tpulse_gatesOf_1 F L0 k a b c n cs := by kernel_rfl
noncomputable abbrev Fpulse_gatesOf_1 (args : List PV) := Fn env 141 (Gv.RSh.one Gv.CK.list) args
theorem Fpulse_gatesOf_1_of (k : Nat) (a b c : Int) (n : Nat) (cs : List PV) {res : ((Nat) × (List PV))} (h : tpulse_gatesOf_1 (Fn env) Lpulse_gatesOf_1_0 k a b c n cs = some res) : Fpulse_gatesOf_1 [.it [none, none] (k + 1), .imm [.int .i64 a, .int .i64 b, .int .i64 c, .list n cs] 0] = some res :=
  fn_of Epulse_gatesOf_1_ok rfl rfl (lo_cons (lpO_ok Upulse_gatesOf_1) lo_nil) ((tpulse_gatesOf_1_eq _ _ _ _ _ _ _ _).trans h)

/-! ### pulse_GatesWith -/

def Epulse_GatesWith : List Entry := [.inl 101 a101 s101, .out 95 (Gv.RSh.one (Gv.CK.int Go.IntKind.i64)), .out 92 (Gv.RSh.one (Gv.CK.int Go.IntKind.i64)), .out 91 (Gv.RSh.one (Gv.CK.int Go.IntKind.i64)), .out 141 (Gv.RSh.one Gv.CK.list)]
theorem Epulse_GatesWith_ok : ∀ e ∈ Epulse_GatesWith, EntOK env e := (ent_inl rfl (ent_out (ent_out (ent_out (ent_out ent_nil)))))
def Tpulse_GatesWith_3000040a (n0 : Nat) (c1 : List PV) (i2 : Int) (i3 : Int) (i4 : Int) (i5 : Int) (n6 : Nat) (c7 : List PV) (i8 : Int) : Q := ⟨(tm 64 [(2, (AV.loc 2 0)), (3, (AV.loc 3 0)), (7, (AV.loc 7 0)), (40, (AV.p (PV.list n0 c1))), (41, (AV.p (PV.int Go.IntKind.i64 i2)))]), (mm 64 [(2, (Bk.cells true [(AV.p (PV.int Go.IntKind.i64 i3)), (AV.p (PV.int Go.IntKind.i64 i4)), (AV.p (PV.int Go.IntKind.i64 i5)), (AV.p (PV.list n6 c7))])), (3, (Bk.pcs true [(PV.int Go.IntKind.i64 i8)])), (7, (Bk.cells true [AV.nilS]))])⟩
def Tpulse_GatesWith_3000040b (n0 : Nat) (c1 : List PV) (i2 : Int) (i3 : Int) (i4 : Int) (i5 : Int) (n6 : Nat) (c7 : List PV) (i8 : Int) (n9 : Nat) (c10 : List PV) (n11 : Nat) : Q := ⟨(tm 64 [(2, (AV.loc 2 0)), (3, (AV.loc 3 0)), (7, (AV.loc 7 0)), (40, (AV.p (PV.list n0 c1))), (41, (AV.p (PV.int Go.IntKind.i64 i2)))]), (mm 64 [(2, (Bk.cells true [(AV.p (PV.int Go.IntKind.i64 i3)), (AV.p (PV.int Go.IntKind.i64 i4)), (AV.p (PV.int Go.IntKind.i64 i5)), (AV.p (PV.list n6 c7))])), (3, (Bk.pcs true [(PV.int Go.IntKind.i64 i8)])), (7, (Bk.cells true [(AV.app 38 n9 1 c10)])), (38, (Bk.buf n11))])⟩
def Xpulse_GatesWith_3000040a (y : Int × Int × Int × Nat × List PV × Int) : Ext × Q := (Ext.normal, ⟨(tm 64 [(2, (AV.loc 2 0)), (3, (AV.loc 3 0)), (7, (AV.loc 7 0))]), (mm 64 [(2, (Bk.cells true [(AV.p (PV.int Go.IntKind.i64 y.1)), (AV.p (PV.int Go.IntKind.i64 y.2.1)), (AV.p (PV.int Go.IntKind.i64 y.2.2.1)), (AV.p (PV.list y.2.2.2.1 y.2.2.2.2.1))])), (3, (Bk.pcs true [(PV.int Go.IntKind.i64 y.2.2.2.2.2)])), (7, (Bk.cells true [AV.nilS]))])⟩)
def Ipulse_GatesWith_3000040a (q : Ext × S) : Int × Int × Int × Nat × List PV × Int := ((pP_int1 (pA_p (hdA (pB_cells1 (avM q.2 2))))), (pP_int1 (pA_p (hdA (List.tail (pB_cells1 (avM q.2 2)))))), (pP_int1 (pA_p (hdA (List.tail (List.tail (pB_cells1 (avM q.2 2))))))), (pP_list0 (pA_p (hdA (List.tail (List.tail (List.tail (pB_cells1 (avM q.2 2)))))))), (pP_list1 (pA_p (hdA (List.tail (List.tail (List.tail (pB_cells1 (avM q.2 2)))))))), (pP_int1 (hdP (pB_pcs1 (avM q.2 3)))))
def Xpulse_GatesWith_3000040b (y : Int × Int × Int × Nat × List PV × Int × Nat × List PV × Nat) : Ext × Q := (Ext.normal, ⟨(tm 64 [(2, (AV.loc 2 0)), (3, (AV.loc 3 0)), (7, (AV.loc 7 0))]), (mm 64 [(2, (Bk.cells true [(AV.p (PV.int Go.IntKind.i64 y.1)), (AV.p (PV.int Go.IntKind.i64 y.2.1)), (AV.p (PV.int Go.IntKind.i64 y.2.2.1)), (AV.p (PV.list y.2.2.2.1 y.2.2.2.2.1))])), (3, (Bk.pcs true [(PV.int Go.IntKind.i64 y.2.2.2.2.2.1)])), (7, (Bk.cells true [(AV.app 38 y.2.2.2.2.2.2.1 1 y.2.2.2.2.2.2.2.1)])), (38, (Bk.buf y.2.2.2.2.2.2.2.2))])⟩)
def Ipulse_GatesWith_3000040b (q : Ext × S) : Int × Int × Int × Nat × List PV × Int × Nat × List PV × Nat := ((pP_int1 (pA_p (hdA (pB_cells1 (avM q.2 2))))), (pP_int1 (pA_p (hdA (List.tail (pB_cells1 (avM q.2 2)))))), (pP_int1 (pA_p (hdA (List.tail (List.tail (pB_cells1 (avM q.2 2))))))), (pP_list0 (pA_p (hdA (List.tail (List.tail (List.tail (pB_cells1 (avM q.2 2)))))))), (pP_list1 (pA_p (hdA (List.tail (List.tail (List.tail (pB_cells1 (avM q.2 2)))))))), (pP_int1 (hdP (pB_pcs1 (avM q.2 3)))), (pA_app1 (hdA (pB_cells1 (avM q.2 7)))), (pA_app3 (hdA (pB_cells1 (avM q.2 7)))), (pB_buf0 (avM q.2 38)))
abbrev Ypulse_GatesWith_3000040 : Type := (Int × Int × Int × Nat × List PV × Int) ⊕ ((Int × Int × Int × Nat × List PV × Int × Nat × List PV × Nat))
def XLpulse_GatesWith_3000040 : XL Ypulse_GatesWith_3000040 := .more Xpulse_GatesWith_3000040a (.one Xpulse_GatesWith_3000040b)
def Ipulse_GatesWith_3000040 (q : Ext × S) : Ypulse_GatesWith_3000040 := bif (cA (hdA (pB_cells1 (avM q.2 7))) == 1) then (Sum.inl (Ipulse_GatesWith_3000040a q)) else (Sum.inr (Ipulse_GatesWith_3000040b q))
theorem XIpulse_GatesWith_3000040a (y : Int × Int × Int × Nat × List PV × Int) : Ipulse_GatesWith_3000040 (xe (Xpulse_GatesWith_3000040a y)) = (Sum.inl y) := rfl
theorem XIpulse_GatesWith_3000040b (y : Int × Int × Int × Nat × List PV × Int × Nat × List PV × Nat) : Ipulse_GatesWith_3000040 (xe (Xpulse_GatesWith_3000040b y)) = (Sum.inr y) := rfl
theorem XIpulse_GatesWith_3000040 (y : Ypulse_GatesWith_3000040) : Ipulse_GatesWith_3000040 (xe (XLpulse_GatesWith_3000040.fn y)) = y := (match y with | .inl y => XIpulse_GatesWith_3000040a y | .inr y => XIpulse_GatesWith_3000040b y)
noncomputable abbrev Lpulse_GatesWith_3000040 : Q → Option Ypulse_GatesWith_3000040 := lpO env a23.body 3000040 XLpulse_GatesWith_3000040
noncomputable abbrev Rpulse_GatesWith_3000040 : Q → Option (Ext × S) := lpR env a23.body 3000040
theorem Lpulse_GatesWith_3000040a_of {s : Q} {y : Int × Int × Int × Nat × List PV × Int} (h : Rpulse_GatesWith_3000040 s = exO (Xpulse_GatesWith_3000040a y)) : Lpulse_GatesWith_3000040 s = some (Sum.inl y) := lpO_of Ipulse_GatesWith_3000040 XIpulse_GatesWith_3000040 (y := (Sum.inl y)) h
theorem Lpulse_GatesWith_3000040b_of {s : Q} {y : Int × Int × Int × Nat × List PV × Int × Nat × List PV × Nat} (h : Rpulse_GatesWith_3000040 s = exO (Xpulse_GatesWith_3000040b y)) : Lpulse_GatesWith_3000040 s = some (Sum.inr y) := lpO_of Ipulse_GatesWith_3000040 XIpulse_GatesWith_3000040 (y := (Sum.inr y)) h
theorem Upulse_GatesWith : uniq ((blocksOf a23.body).map (·.1)) = true := by kernel_rfl
def Bpulse_GatesWith_3000040a (F : FnT) (N : Q → Option (Ext × S)) (E : Ext × Q → Option (Ext × S)) (L3000040 : Q → Option Ypulse_GatesWith_3000040) (n0 : Nat) (c1 : List PV) (i2 : Int) (i3 : Int) (i4 : Int) (i5 : Int) (n6 : Nat) (c7 : List PV) (i8 : Int) : Option (Ext × S) :=
  bif (decide (i2 < (n0 : Int))) then
    bif (decide (((0 : Int) ≤ i2) ∧ (i2 < (n0 : Int)))) then
      bindO (Gv.intC Go.IntKind.i64 (c1[(((Int.toNat i2) * 2) + 0)]?)) fun x0 =>
      bindO (Gv.intC Go.IntKind.i64 (c1[(((Int.toNat i2) * 2) + 1)]?)) fun x1 =>
      bif (decide (x1 ≤ i8)) then
        bif (decide (i8 < (w64 (x1 + (n6 : Int))))) then
          N (Tpulse_GatesWith_3000040b n0 c1 (w64 (i2 + (1 : Int))) i3 i4 i5 n6 c7 i8 1 [(Gv.PV.int Go.IntKind.i64 x0)] 1)
        else N (Tpulse_GatesWith_3000040a n0 c1 (w64 (i2 + (1 : Int))) i3 i4 i5 n6 c7 i8)
      else N (Tpulse_GatesWith_3000040a n0 c1 (w64 (i2 + (1 : Int))) i3 i4 i5 n6 c7 i8)
    else none
  else E (Xpulse_GatesWith_3000040a (i3, i4, i5, n6, c7, i8))
theorem Bpulse_GatesWith_3000040a_eq (F : FnT) (N : Q → Option (Ext × S)) (E : Ext × Q → Option (Ext × S)) (L3000040 : Q → Option Ypulse_GatesWith_3000040) (n0 : Nat) (c1 : List PV) (i2 : Int) (i3 : Int) (i4 : Int) (i5 : Int) (n6 : Nat) (c7 : List PV) (i8 : Int) : semB (callP F Epulse_GatesWith 20) s23 (loopT [⟨3000040, Ypulse_GatesWith_3000040, L3000040, XLpulse_GatesWith_3000040⟩]) 400 (blkIn a23.body 3000040) N E (Tpulse_GatesWith_3000040a n0 c1 i2 i3 i4 i5 n6 c7 i8) = Bpulse_GatesWith_3000040a F N E L3000040 n0 c1 i2 i3 i4 i5 n6 c7 i8 := by kernel_rfl
theorem Rpulse_GatesWith_3000040a_of  (n0 : Nat) (c1 : List PV) (i2 : Int) (i3 : Int) (i4 : Int) (i5 : Int) (n6 : Nat) (c7 : List PV) (i8 : Int) {r : Ext × S} (h : Bpulse_GatesWith_3000040a (Fn env) Rpulse_GatesWith_3000040 exO Lpulse_GatesWith_3000040 n0 c1 i2 i3 i4 i5 n6 c7 i8 = some r) : Rpulse_GatesWith_3000040 (Tpulse_GatesWith_3000040a n0 c1 i2 i3 i4 i5 n6 c7 i8) = some r :=
  lp_of Epulse_GatesWith_ok (by kernel_rfl) (lo_cons (lpO_ok Upulse_GatesWith) lo_nil) (by kernel_rfl) ((Bpulse_GatesWith_3000040a_eq _ _ _ _ _ _ _ _ _ _ _ _ _).trans h)
def Bpulse_GatesWith_3000040b (F : FnT) (N : Q → Option (Ext × S)) (E : Ext × Q → Option (Ext × S)) (L3000040 : Q → Option Ypulse_GatesWith_3000040) (n0 : Nat) (c1 : List PV) (i2 : Int) (i3 : Int) (i4 : Int) (i5 : Int) (n6 : Nat) (c7 : List PV) (i8 : Int) (n9 : Nat) (c10 : List PV) (n11 : Nat) : Option (Ext × S) :=
  bif (decide (i2 < (n0 : Int))) then
    bif (decide (((0 : Int) ≤ i2) ∧ (i2 < (n0 : Int)))) then
      bindO (Gv.intC Go.IntKind.i64 (c1[(((Int.toNat i2) * 2) + 0)]?)) fun x0 =>
      bindO (Gv.intC Go.IntKind.i64 (c1[(((Int.toNat i2) * 2) + 1)]?)) fun x1 =>
      bif (decide (x1 ≤ i8)) then
        bif (decide (i8 < (w64 (x1 + (n6 : Int))))) then
          bif (decide ((n11 = n9) ∧ ((n9 + 1) ≤ Gv.big))) then
            N (Tpulse_GatesWith_3000040b n0 c1 (w64 (i2 + (1 : Int))) i3 i4 i5 n6 c7 i8 (n9 + 1) (c10 ++ [(Gv.PV.int Go.IntKind.i64 x0)]) (n9 + 1))
          else none
        else N (Tpulse_GatesWith_3000040b n0 c1 (w64 (i2 + (1 : Int))) i3 i4 i5 n6 c7 i8 n9 c10 n11)
      else N (Tpulse_GatesWith_3000040b n0 c1 (w64 (i2 + (1 : Int))) i3 i4 i5 n6 c7 i8 n9 c10 n11)
    else none
  else E (Xpulse_GatesWith_3000040b (i3, i4, i5, n6, c7, i8, n9, c10, n11))
theorem Bpulse_GatesWith_3000040b_eq (F : FnT) (N : Q → Option (Ext × S)) (E : Ext × Q → Option (Ext × S)) (L3000040 : Q → Option Ypulse_GatesWith_3000040) (n0 : Nat) (c1 : List PV) (i2 : Int) (i3 : Int) (i4 : Int) (i5 : Int) (n6 : Nat) (c7 : List PV) (i8 : Int) (n9 : Nat) (c10 : List PV) (n11 : Nat) : semB (callP F Epulse_GatesWith 20) s23 (loopT [⟨3000040, Ypulse_GatesWith_3000040, L3000040, XLpulse_GatesWith_3000040⟩]) 400 (blkIn a23.body 3000040) N E (Tpulse_GatesWith_3000040b n0 c1 i2 i3 i4 i5 n6 c7 i8 n9 c10 n11) = Bpulse_GatesWith_3000040b F N E L3000040 n0 c1 i2 i3 i4 i5 n6 c7 i8 n9 c10 n11 := by kernel_rfl
theorem Rpulse_GatesWith_3000040b_of  (n0 : Nat) (c1 : List PV) (i2 : Int) (i3 : Int) (i4 : Int) (i5 : Int) (n6 : Nat) (c7 : List PV) (i8 : Int) (n9 : Nat) (c10 : List PV) (n11 : Nat) {r : Ext × S} (h : Bpulse_GatesWith_3000040b (Fn env) Rpulse_GatesWith_3000040 exO Lpulse_GatesWith_3000040 n0 c1 i2 i3 i4 i5 n6 c7 i8 n9 c10 n11 = some r) : Rpulse_GatesWith_3000040 (Tpulse_GatesWith_3000040b n0 c1 i2 i3 i4 i5 n6 c7 i8 n9 c10 n11) = some r :=
  lp_of Epulse_GatesWith_ok (by kernel_rfl) (lo_cons (lpO_ok Upulse_GatesWith) lo_nil) (by kernel_rfl) ((Bpulse_GatesWith_3000040b_eq _ _ _ _ _ _ _ _ _ _ _ _ _ _ _ _).trans h)
def tpulse_GatesWith (F : FnT) (L3000040 : Q → Option Ypulse_GatesWith_3000040) (p0_0 : Int) (p0_1 : Int) (p0_2 : Int) (p0_3n : Nat) (p0_3c : List PV) (p1 : Int) : Option (((Nat) × (List PV)) × (Int)) :=
  bindO (F 95 (Gv.RSh.one (Gv.CK.int Go.IntKind.i64)) [(Gv.PV.agg [(Gv.PV.int Go.IntKind.i64 p0_0), (Gv.PV.int Go.IntKind.i64 p0_1), (Gv.PV.int Go.IntKind.i64 p0_2), (Gv.PV.list p0_3n p0_3c)])]) fun (y0 : (Int)) =>
  bindO (F 92 (Gv.RSh.one (Gv.CK.int Go.IntKind.i64)) [(Gv.PV.int Go.IntKind.i64 p1), (Gv.PV.int Go.IntKind.i64 (0 : Int)), (Gv.PV.int Go.IntKind.i64 (47 : Int))]) fun (y1 : (Int)) =>
  bindO (F 91 (Gv.RSh.one (Gv.CK.int Go.IntKind.i64)) [(Gv.PV.list 2 [(Gv.PV.int Go.IntKind.i64 y0), (Gv.PV.int Go.IntKind.i64 y1)])]) fun (y2 : (Int)) =>
  bif (y2 != (0 : Int)) then
    some ((0, []), y2)
  else bindO (F 141 (Gv.RSh.one Gv.CK.list) [(Gv.PV.it [Option.none, Option.none] 0), (Gv.PV.imm [(Gv.PV.int Go.IntKind.i64 p0_0), (Gv.PV.int Go.IntKind.i64 p0_1), (Gv.PV.int Go.IntKind.i64 p0_2), (Gv.PV.list p0_3n p0_3c)] 0)]) fun (y3 : ((Nat) × (List PV))) =>
  bindO (L3000040 (Tpulse_GatesWith_3000040a y3.1 y3.2 (0 : Int) p0_0 p0_1 p0_2 p0_3n p0_3c p1)) fun z =>
  Sum.elim (fun y4 =>
    some ((0, []), (0 : Int))) (fun y5 =>
    some ((y5.2.2.2.2.2.2.1, y5.2.2.2.2.2.2.2.1), (0 : Int))) z
theorem tpulse_GatesWith_eq (F : FnT) (L3000040 : Q → Option Ypulse_GatesWith_3000040) (p0_0 : Int) (p0_1 : Int) (p0_2 : Int) (p0_3n : Nat) (p0_3c : List PV) (p1 : Int) : semF (callP F Epulse_GatesWith 20) s23 (loopT [⟨3000040, Ypulse_GatesWith_3000040, L3000040, XLpulse_GatesWith_3000040⟩]) 400 a23 [PV.agg [PV.int Go.IntKind.i64 p0_0, PV.int Go.IntKind.i64 p0_1, PV.int Go.IntKind.i64 p0_2, PV.list p0_3n p0_3c], PV.int Go.IntKind.i64 p1] (fun rv => decR (Gv.RSh.tup [(Prod.mk false [Gv.CK.list]), (Prod.mk false [(Gv.CK.int Go.IntKind.i64)])]) rv.pv) = tpulse_GatesWith F L3000040 p0_0 p0_1 p0_2 p0_3n p0_3c p1 := by kernel_rfl
noncomputable abbrev Fpulse_GatesWith (args : List PV) := Fn env 23 (Gv.RSh.tup [(Prod.mk false [Gv.CK.list]), (Prod.mk false [(Gv.CK.int Go.IntKind.i64)])]) args
theorem Fpulse_GatesWith_of  (p0_0 : Int) (p0_1 : Int) (p0_2 : Int) (p0_3n : Nat) (p0_3c : List PV) (p1 : Int) {res : (((Nat) × (List PV)) × (Int))} (h : tpulse_GatesWith (Fn env) Lpulse_GatesWith_3000040 p0_0 p0_1 p0_2 p0_3n p0_3c p1 = some res) : Fpulse_GatesWith [PV.agg [PV.int Go.IntKind.i64 p0_0, PV.int Go.IntKind.i64 p0_1, PV.int Go.IntKind.i64 p0_2, PV.list p0_3n p0_3c], PV.int Go.IntKind.i64 p1] = some res :=
  fn_of Epulse_GatesWith_ok rfl rfl (lo_cons (lpO_ok Upulse_GatesWith) lo_nil) ((tpulse_GatesWith_eq _ _ _ _ _ _ _ _).trans h)

end Gv
