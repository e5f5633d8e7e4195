/- What the functions do, round by round: SH1. -/
import Derived.Test.YtnoifjomlmadkaaPO2
namespace Gv
open Go
set_option maxRecDepth 100000

/-! ### scan_firstError_4 -/

def Escan_firstError_4 : List Entry := []
theorem Escan_firstError_4_ok : ∀ e ∈ Escan_firstError_4, EntOK env e := ent_nil
theorem Uscan_firstError_4 : uniq ((blocksOf a59.body).map (·.1)) = true := by kernel_rfl
def tscan_firstError_4 (F : FnT)(e0 e1 e2 e3 : Int) : Option (Int) :=
  bif (e0 != (0 : Int)) then
    some e0
  else bif (e1 != (0 : Int)) then
    some e1
  else bif (e2 != (0 : Int)) then
    some e2
  else bif (e3 != (0 : Int)) then
    some e3
  else some (0 : Int)
theorem tscan_firstError_4_eq (F : FnT)(e0 e1 e2 e3 : Int) : semF (callP F Escan_firstError_4 20) s59 (loopT []) 400 a59 [.list 4 [.int .i64 e0, .int .i64 e1, .int .i64 e2, .int .i64 e3]] (fun rv => decR (Gv.RSh.one (Gv.CK.int Go.IntKind.i64)) rv.pv) = tscan_firstError_4 F e0 e1 e2 e3 := by kernel_rfl
noncomputable abbrev Fscan_firstError_4 (args : List PV) := Fn env 59 (Gv.RSh.one (Gv.CK.int Go.IntKind.i64)) args
theorem Fscan_firstError_4_of (e0 e1 e2 e3 : Int) {res : (Int)} (h : tscan_firstError_4 (Fn env) e0 e1 e2 e3 = some res) : Fscan_firstError_4 [.list 4 [.int .i64 e0, .int .i64 e1, .int .i64 e2, .int .i64 e3]] = some res :=
  fn_of Escan_firstError_4_ok rfl rfl lo_nil ((tscan_firstError_4_eq _ _ _ _ _).trans h)

/-! ### scan_firstError_5 -/

def Escan_firstError_5 : List Entry := []
theorem Escan_firstError_5_ok : ∀ e ∈ Escan_firstError_5, EntOK env e := ent_nil
theorem Uscan_firstError_5 : uniq ((blocksOf a59.body).map (·.1)) = true := by kernel_rfl
def tscan_firstError_5 (F : FnT)(e0 e1 e2 e3 e4 : Int) : Option (Int) :=
  bif (e0 != (0 : Int)) then
    some e0
  else bif (e1 != (0 : Int)) then
    some e1
  else bif (e2 != (0 : Int)) then
    some e2
  else bif (e3 != (0 : Int)) then
    some e3
  else bif (e4 != (0 : Int)) then
    some e4
  else some (0 : Int)
theorem tscan_firstError_5_eq (F : FnT)(e0 e1 e2 e3 e4 : Int) : semF (callP F Escan_firstError_5 20) s59 (loopT []) 400 a59 [.list 5 [.int .i64 e0, .int .i64 e1, .int .i64 e2, .int .i64 e3, .int .i64 e4]] (fun rv => decR (Gv.RSh.one (Gv.CK.int Go.IntKind.i64)) rv.pv) = tscan_firstError_5 F e0 e1 e2 e3 e4 := by kernel_rfl
noncomputable abbrev Fscan_firstError_5 (args : List PV) := Fn env 59 (Gv.RSh.one (Gv.CK.int Go.IntKind.i64)) args
theorem Fscan_firstError_5_of (e0 e1 e2 e3 e4 : Int) {res : (Int)} (h : tscan_firstError_5 (Fn env) e0 e1 e2 e3 e4 = some res) : Fscan_firstError_5 [.list 5 [.int .i64 e0, .int .i64 e1, .int .i64 e2, .int .i64 e3, .int .i64 e4]] = some res :=
  fn_of Escan_firstError_5_ok rfl rfl lo_nil ((tscan_firstError_5_eq _ _ _ _ _ _).trans h)

/-! ### scan_azimuthError -/

def Escan_azimuthError : List Entry := [.out 60 (Gv.RSh.one (Gv.CK.int Go.IntKind.i64))]
theorem Escan_azimuthError_ok : ∀ e ∈ Escan_azimuthError, EntOK env e := (ent_out ent_nil)
theorem Uscan_azimuthError : uniq ((blocksOf a102.body).map (·.1)) = true := by kernel_rfl
def tscan_azimuthError (F : FnT) (p0 : Int) : Option (Int) :=
  bindO (F 60 (Gv.RSh.one (Gv.CK.int Go.IntKind.i64)) [(Gv.PV.int Go.IntKind.i64 p0), (Gv.PV.int Go.IntKind.i64 (0 : Int)), (Gv.PV.int Go.IntKind.i64 (359 : Int))]) fun (y0 : (Int)) =>
  some y0
theorem tscan_azimuthError_eq (F : FnT) (p0 : Int) : semF (callP F Escan_azimuthError 20) s102 (loopT []) 400 a102 [PV.int Go.IntKind.i64 p0] (fun rv => decR (Gv.RSh.one (Gv.CK.int Go.IntKind.i64)) rv.pv) = tscan_azimuthError F p0 := by kernel_rfl
noncomputable abbrev Fscan_azimuthError (args : List PV) := Fn env 102 (Gv.RSh.one (Gv.CK.int Go.IntKind.i64)) args
theorem Fscan_azimuthError_of  (p0 : Int) {res : (Int)} (h : tscan_azimuthError (Fn env) p0 = some res) : Fscan_azimuthError [PV.int Go.IntKind.i64 p0] = some res :=
  fn_of Escan_azimuthError_ok rfl rfl lo_nil ((tscan_azimuthError_eq _ _).trans h)

/-! ### scan_elevationError -/

def Escan_elevationError : List Entry := [.out 60 (Gv.RSh.one (Gv.CK.int Go.IntKind.i64))]
theorem Escan_elevationError_ok : ∀ e ∈ Escan_elevationError, EntOK env e := (ent_out ent_nil)
theorem Uscan_elevationError : uniq ((blocksOf a103.body).map (·.1)) = true := by kernel_rfl
def tscan_elevationError (F : FnT) (p0 : Int) : Option (Int) :=
  bindO (F 60 (Gv.RSh.one (Gv.CK.int Go.IntKind.i64)) [(Gv.PV.int Go.IntKind.i64 p0), (Gv.PV.int Go.IntKind.i64 (0 : Int)), (Gv.PV.int Go.IntKind.i64 (90 : Int))]) fun (y0 : (Int)) =>
  some y0
theorem tscan_elevationError_eq (F : FnT) (p0 : Int) : semF (callP F Escan_elevationError 20) s103 (loopT []) 400 a103 [PV.int Go.IntKind.i64 p0] (fun rv => decR (Gv.RSh.one (Gv.CK.int Go.IntKind.i64)) rv.pv) = tscan_elevationError F p0 := by kernel_rfl
noncomputable abbrev Fscan_elevationError (args : List PV) := Fn env 103 (Gv.RSh.one (Gv.CK.int Go.IntKind.i64)) args
theorem Fscan_elevationError_of  (p0 : Int) {res : (Int)} (h : tscan_elevationError (Fn env) p0 = some res) : Fscan_elevationError [PV.int Go.IntKind.i64 p0] = some res :=
  fn_of Escan_elevationError_ok rfl rfl lo_nil ((tscan_elevationError_eq _ _).trans h)

/-! ### scan_directionError -/

def Escan_directionError : List Entry := [.out 102 (Gv.RSh.one (Gv.CK.int Go.IntKind.i64)), .out 103 (Gv.RSh.one (Gv.CK.int Go.IntKind.i64)), .out 59 (Gv.RSh.one (Gv.CK.int Go.IntKind.i64))]
theorem Escan_directionError_ok : ∀ e ∈ Escan_directionError, EntOK env e := (ent_out (ent_out (ent_out ent_nil)))
theorem Uscan_directionError : uniq ((blocksOf a71.body).map (·.1)) = true := by kernel_rfl
def tscan_directionError (F : FnT) (p0_0 : Int) (p0_1 : Int) : Option (Int) :=
  bindO (F 102 (Gv.RSh.one (Gv.CK.int Go.IntKind.i64)) [(Gv.PV.int Go.IntKind.i64 p0_0)]) fun (y0 : (Int)) =>
  bindO (F 103 (Gv.RSh.one (Gv.CK.int Go.IntKind.i64)) [(Gv.PV.int Go.IntKind.i64 p0_1)]) fun (y1 : (Int)) =>
  bindO (F 59 (Gv.RSh.one (Gv.CK.int Go.IntKind.i64)) [(Gv.PV.list 2 [(Gv.PV.int Go.IntKind.i64 y0), (Gv.PV.int Go.IntKind.i64 y1)])]) fun (y2 : (Int)) =>
  some y2
theorem tscan_directionError_eq (F : FnT) (p0_0 : Int) (p0_1 : Int) : semF (callP F Escan_directionError 20) s71 (loopT []) 400 a71 [PV.agg [PV.int Go.IntKind.i64 p0_0, PV.int Go.IntKind.i64 p0_1]] (fun rv => decR (Gv.RSh.one (Gv.CK.int Go.IntKind.i64)) rv.pv) = tscan_directionError F p0_0 p0_1 := by kernel_rfl
noncomputable abbrev Fscan_directionError (args : List PV) := Fn env 71 (Gv.RSh.one (Gv.CK.int Go.IntKind.i64)) args
theorem Fscan_directionError_of  (p0_0 : Int) (p0_1 : Int) {res : (Int)} (h : tscan_directionError (Fn env) p0_0 p0_1 = some res) : Fscan_directionError [PV.agg [PV.int Go.IntKind.i64 p0_0, PV.int Go.IntKind.i64 p0_1]] = some res :=
  fn_of Escan_directionError_ok rfl rfl lo_nil ((tscan_directionError_eq _ _ _).trans h)

/-! ### scan_sectorError -/

def Escan_sectorError : List Entry := [.out 102 (Gv.RSh.one (Gv.CK.int Go.IntKind.i64)), .out 103 (Gv.RSh.one (Gv.CK.int Go.IntKind.i64)), .out 65 (Gv.RSh.one (Gv.CK.int Go.IntKind.i64)), .out 59 (Gv.RSh.one (Gv.CK.int Go.IntKind.i64))]
theorem Escan_sectorError_ok : ∀ e ∈ Escan_sectorError, EntOK env e := (ent_out (ent_out (ent_out (ent_out ent_nil))))
theorem Uscan_sectorError : uniq ((blocksOf a73.body).map (·.1)) = true := by kernel_rfl
def tscan_sectorError (F : FnT) (p0_0 : Int) (p0_1 : Int) (p0_2 : Int) (p0_3 : Int) : Option (Int) :=
  bindO (F 102 (Gv.RSh.one (Gv.CK.int Go.IntKind.i64)) [(Gv.PV.int Go.IntKind.i64 p0_0)]) fun (y0 : (Int)) =>
  bindO (F 102 (Gv.RSh.one (Gv.CK.int Go.IntKind.i64)) [(Gv.PV.int Go.IntKind.i64 p0_1)]) fun (y1 : (Int)) =>
  bindO (F 103 (Gv.RSh.one (Gv.CK.int Go.IntKind.i64)) [(Gv.PV.int Go.IntKind.i64 p0_2)]) fun (y2 : (Int)) =>
  bindO (F 103 (Gv.RSh.one (Gv.CK.int Go.IntKind.i64)) [(Gv.PV.int Go.IntKind.i64 p0_3)]) fun (y3 : (Int)) =>
  bif (decide (p0_2 > p0_3)) then
    bindO (F 65 (Gv.RSh.one (Gv.CK.int Go.IntKind.i64)) [(Gv.PV.bool true), (Gv.PV.int Go.IntKind.i64 (9 : Int))]) fun (y4 : (Int)) =>
    bindO (F 59 (Gv.RSh.one (Gv.CK.int Go.IntKind.i64)) [(Gv.PV.list 5 [(Gv.PV.int Go.IntKind.i64 y0), (Gv.PV.int Go.IntKind.i64 y1), (Gv.PV.int Go.IntKind.i64 y2), (Gv.PV.int Go.IntKind.i64 y3), (Gv.PV.int Go.IntKind.i64 y4)])]) fun (y5 : (Int)) =>
    some y5
  else bindO (F 65 (Gv.RSh.one (Gv.CK.int Go.IntKind.i64)) [(Gv.PV.bool false), (Gv.PV.int Go.IntKind.i64 (9 : Int))]) fun (y6 : (Int)) =>
  bindO (F 59 (Gv.RSh.one (Gv.CK.int Go.IntKind.i64)) [(Gv.PV.list 5 [(Gv.PV.int Go.IntKind.i64 y0), (Gv.PV.int Go.IntKind.i64 y1), (Gv.PV.int Go.IntKind.i64 y2), (Gv.PV.int Go.IntKind.i64 y3), (Gv.PV.int Go.IntKind.i64 y6)])]) fun (y7 : (Int)) =>
  some y7
theorem tscan_sectorError_eq (F : FnT) (p0_0 : Int) (p0_1 : Int) (p0_2 : Int) (p0_3 : Int) : semF (callP F Escan_sectorError 20) s73 (loopT []) 400 a73 [PV.agg [PV.int Go.IntKind.i64 p0_0, PV.int Go.IntKind.i64 p0_1, PV.int Go.IntKind.i64 p0_2, PV.int Go.IntKind.i64 p0_3]] (fun rv => decR (Gv.RSh.one (Gv.CK.int Go.IntKind.i64)) rv.pv) = tscan_sectorError F p0_0 p0_1 p0_2 p0_3 := by kernel_rfl
noncomputable abbrev Fscan_sectorError (args : List PV) := Fn env 73 (Gv.RSh.one (Gv.CK.int Go.IntKind.i64)) args
theorem Fscan_sectorError_of  (p0_0 : Int) (p0_1 : Int) (p0_2 : Int) (p0_3 : Int) {res : (Int)} (h : tscan_sectorError (Fn env) p0_0 p0_1 p0_2 p0_3 = some res) : Fscan_sectorError [PV.agg [PV.int Go.IntKind.i64 p0_0, PV.int Go.IntKind.i64 p0_1, PV.int Go.IntKind.i64 p0_2, PV.int Go.IntKind.i64 p0_3]] = some res :=
  fn_of Escan_sectorError_ok rfl rfl lo_nil ((tscan_sectorError_eq _ _ _ _ _).trans h)

/-! ### scan_upwards -/

def Escan_upwards : List Entry := []
theorem Escan_upwards_ok : ∀ e ∈ Escan_upwards, EntOK env e := ent_nil
theorem Uscan_upwards : uniq ((blocksOf a123.body).map (·.1)) = true := by kernel_rfl
def tscan_upwards (F : FnT) (p0 : Int) (p1 : Int) : Option (Int) :=
  some (Int.tmod (w64 ((w64 (p1 - p0)) + (360 : Int))) (360 : Int))
theorem tscan_upwards_eq (F : FnT) (p0 : Int) (p1 : Int) : semF (callP F Escan_upwards 20) s123 (loopT []) 400 a123 [PV.int Go.IntKind.i64 p0, PV.int Go.IntKind.i64 p1] (fun rv => decR (Gv.RSh.one (Gv.CK.int Go.IntKind.i64)) rv.pv) = tscan_upwards F p0 p1 := by kernel_rfl
noncomputable abbrev Fscan_upwards (args : List PV) := Fn env 123 (Gv.RSh.one (Gv.CK.int Go.IntKind.i64)) args
theorem Fscan_upwards_of  (p0 : Int) (p1 : Int) {res : (Int)} (h : tscan_upwards (Fn env) p0 p1 = some res) : Fscan_upwards [PV.int Go.IntKind.i64 p0, PV.int Go.IntKind.i64 p1] = some res :=
  fn_of Escan_upwards_ok rfl rfl lo_nil ((tscan_upwards_eq _ _ _).trans h)

/-! ### scan_hasDirection -/

def Escan_hasDirection : List Entry := [.out 123 (Gv.RSh.one (Gv.CK.int Go.IntKind.i64))]
theorem Escan_hasDirection_ok : ∀ e ∈ Escan_hasDirection, EntOK env e := (ent_out ent_nil)
theorem Uscan_hasDirection : uniq ((blocksOf a106.body).map (·.1)) = true := by kernel_rfl
def tscan_hasDirection (F : FnT) (p0_0 : Int) (p0_1 : Int) (p0_2 : Int) (p0_3 : Int) (p1_0 : Int) (p1_1 : Int) : Option (Bool) :=
  bindO (F 123 (Gv.RSh.one (Gv.CK.int Go.IntKind.i64)) [(Gv.PV.int Go.IntKind.i64 p0_0), (Gv.PV.int Go.IntKind.i64 p1_0)]) fun (y0 : (Int)) =>
  bindO (F 123 (Gv.RSh.one (Gv.CK.int Go.IntKind.i64)) [(Gv.PV.int Go.IntKind.i64 p0_0), (Gv.PV.int Go.IntKind.i64 p0_1)]) fun (y1 : (Int)) =>
  bif (decide (y0 ≤ y1)) then
    bif (decide (p1_1 ≥ p0_2)) then
      bif (decide (p1_1 ≤ p0_3)) then
        some true
      else some false
    else some false
  else some false
theorem tscan_hasDirection_eq (F : FnT) (p0_0 : Int) (p0_1 : Int) (p0_2 : Int) (p0_3 : Int) (p1_0 : Int) (p1_1 : Int) : semF (callP F Escan_hasDirection 20) s106 (loopT []) 400 a106 [PV.agg [PV.int Go.IntKind.i64 p0_0, PV.int Go.IntKind.i64 p0_1, PV.int Go.IntKind.i64 p0_2, PV.int Go.IntKind.i64 p0_3], PV.agg [PV.int Go.IntKind.i64 p1_0, PV.int Go.IntKind.i64 p1_1]] (fun rv => decR (Gv.RSh.one Gv.CK.bool) rv.pv) = tscan_hasDirection F p0_0 p0_1 p0_2 p0_3 p1_0 p1_1 := by kernel_rfl
noncomputable abbrev Fscan_hasDirection (args : List PV) := Fn env 106 (Gv.RSh.one Gv.CK.bool) args
theorem Fscan_hasDirection_of  (p0_0 : Int) (p0_1 : Int) (p0_2 : Int) (p0_3 : Int) (p1_0 : Int) (p1_1 : Int) {res : (Bool)} (h : tscan_hasDirection (Fn env) p0_0 p0_1 p0_2 p0_3 p1_0 p1_1 = some res) : Fscan_hasDirection [PV.agg [PV.int Go.IntKind.i64 p0_0, PV.int Go.IntKind.i64 p0_1, PV.int Go.IntKind.i64 p0_2, PV.int Go.IntKind.i64 p0_3], PV.agg [PV.int Go.IntKind.i64 p1_0, PV.int Go.IntKind.i64 p1_1]] = some res :=
  fn_of Escan_hasDirection_ok rfl rfl lo_nil ((tscan_hasDirection_eq _ _ _ _ _ _ _).trans h)

/-! ### scan_itemError_sectors -/

def Escan_itemError_sectors : List Entry := [.out 73 (Gv.RSh.one (Gv.CK.int Go.IntKind.i64))]
theorem Escan_itemError_sectors_ok : ∀ e ∈ Escan_itemError_sectors, EntOK env e := (ent_out ent_nil)
def Tscan_itemError_sectors_0a (n0 : Nat) (c1 : List PV) (i2 : Int) (i3 : Int) : Q := ⟨(tm 24 [(1, (AV.p (PV.fn 73 []))), (9, (AV.p (PV.list n0 c1))), (10, (AV.p (PV.int Go.IntKind.i64 i2))), (11, (AV.p (PV.int Go.IntKind.i64 i3)))]), (mm 24 [])⟩
def Xscan_itemError_sectors_0a (y : Int × Int) : Ext × Q := (Ext.ret, ⟨(tm 24 [(4, (AV.p (PV.int Go.IntKind.i64 y.1))), (5, (AV.p (PV.int Go.IntKind.i64 y.2)))]), (mm 24 [])⟩)
def Iscan_itemError_sectors_0a (q : Ext × S) : Int × Int := ((pP_int1 (pA_p (avT q.2 4))), (pP_int1 (pA_p (avT q.2 5))))
def Xscan_itemError_sectors_0b (y : Unit) : Ext × Q := (Ext.normal, ⟨(tm 24 []), (mm 24 [])⟩)
def Iscan_itemError_sectors_0b (q : Ext × S) : Unit := ()
abbrev Yscan_itemError_sectors_0 : Type := (Int × Int) ⊕ ((Unit))
def XLscan_itemError_sectors_0 : XL Yscan_itemError_sectors_0 := .more Xscan_itemError_sectors_0a (.one Xscan_itemError_sectors_0b)
def Iscan_itemError_sectors_0 (q : Ext × S) : Yscan_itemError_sectors_0 := bif (cE q.1 == 2) then (Sum.inl (Iscan_itemError_sectors_0a q)) else (Sum.inr (Iscan_itemError_sectors_0b q))
theorem XIscan_itemError_sectors_0a (y : Int × Int) : Iscan_itemError_sectors_0 (xe (Xscan_itemError_sectors_0a y)) = (Sum.inl y) := rfl
theorem XIscan_itemError_sectors_0b (y : Unit) : Iscan_itemError_sectors_0 (xe (Xscan_itemError_sectors_0b y)) = (Sum.inr y) := rfl
theorem XIscan_itemError_sectors_0 (y : Yscan_itemError_sectors_0) : Iscan_itemError_sectors_0 (xe (XLscan_itemError_sectors_0.fn y)) = y := (match y with | .inl y => XIscan_itemError_sectors_0a y | .inr y => XIscan_itemError_sectors_0b y)
noncomputable abbrev Lscan_itemError_sectors_0 : Q → Option Yscan_itemError_sectors_0 := lpO env a72.body 0 XLscan_itemError_sectors_0
noncomputable abbrev Rscan_itemError_sectors_0 : Q → Option (Ext × S) := lpR env a72.body 0
theorem Lscan_itemError_sectors_0a_of {s : Q} {y : Int × Int} (h : Rscan_itemError_sectors_0 s = exO (Xscan_itemError_sectors_0a y)) : Lscan_itemError_sectors_0 s = some (Sum.inl y) := lpO_of Iscan_itemError_sectors_0 XIscan_itemError_sectors_0 (y := (Sum.inl y)) h
theorem Lscan_itemError_sectors_0b_of {s : Q} {y : Unit} (h : Rscan_itemError_sectors_0 s = exO (Xscan_itemError_sectors_0b y)) : Lscan_itemError_sectors_0 s = some (Sum.inr y) := lpO_of Iscan_itemError_sectors_0 XIscan_itemError_sectors_0 (y := (Sum.inr y)) h
theorem Uscan_itemError_sectors : uniq ((blocksOf a72.body).map (·.1)) = true := by kernel_rfl
def Bscan_itemError_sectors_0a (F : FnT) (N : Q → Option (Ext × S)) (E : Ext × Q → Option (Ext × S)) (L0 : Q → Option Yscan_itemError_sectors_0) (n0 : Nat) (c1 : List PV) (i2 : Int) (i3 : Int) : Option (Ext × S) :=
  bif (decide (i3 < i2)) then
    bif (decide (((0 : Int) ≤ i3) ∧ (i3 < (n0 : Int)))) then
      bindO (Gv.intC Go.IntKind.i64 (c1[((Int.toNat i3) * 4)]?)) fun x0 =>
      bindO (Gv.intC Go.IntKind.i64 (c1[(((Int.toNat i3) * 4) + 1)]?)) fun x1 =>
      bindO (Gv.intC Go.IntKind.i64 (c1[((((Int.toNat i3) * 4) + 1) + 1)]?)) fun x2 =>
      bindO (Gv.intC Go.IntKind.i64 (c1[(((((Int.toNat i3) * 4) + 1) + 1) + 1)]?)) fun x3 =>
      bindO (F 73 (Gv.RSh.one (Gv.CK.int Go.IntKind.i64)) [(Gv.PV.agg [(Gv.PV.int Go.IntKind.i64 x0), (Gv.PV.int Go.IntKind.i64 x1), (Gv.PV.int Go.IntKind.i64 x2), (Gv.PV.int Go.IntKind.i64 x3)])]) fun (y4 : (Int)) =>
      bif (y4 != (0 : Int)) then
        E (Xscan_itemError_sectors_0a (i3, y4))
      else N (Tscan_itemError_sectors_0a n0 c1 i2 (w64 (i3 + (1 : Int))))
    else none
  else E (Xscan_itemError_sectors_0b ())
theorem Bscan_itemError_sectors_0a_eq (F : FnT) (N : Q → Option (Ext × S)) (E : Ext × Q → Option (Ext × S)) (L0 : Q → Option Yscan_itemError_sectors_0) (n0 : Nat) (c1 : List PV) (i2 : Int) (i3 : Int) : semB (callP F Escan_itemError_sectors 20) s72 (loopT [⟨0, Yscan_itemError_sectors_0, L0, XLscan_itemError_sectors_0⟩]) 400 (blkIn a72.body 0) N E (Tscan_itemError_sectors_0a n0 c1 i2 i3) = Bscan_itemError_sectors_0a F N E L0 n0 c1 i2 i3 := by kernel_rfl
theorem Rscan_itemError_sectors_0a_of  (n0 : Nat) (c1 : List PV) (i2 : Int) (i3 : Int) {r : Ext × S} (h : Bscan_itemError_sectors_0a (Fn env) Rscan_itemError_sectors_0 exO Lscan_itemError_sectors_0 n0 c1 i2 i3 = some r) : Rscan_itemError_sectors_0 (Tscan_itemError_sectors_0a n0 c1 i2 i3) = some r :=
  lp_of Escan_itemError_sectors_ok (by kernel_rfl) (lo_cons (lpO_ok Uscan_itemError_sectors) lo_nil) (by kernel_rfl) ((Bscan_itemError_sectors_0a_eq _ _ _ _ _ _ _ _).trans h)
def tscan_itemError_sectors (F : FnT) (L0 : Q → Option Yscan_itemError_sectors_0)(n : Nat) (cs : List PV) : Option ((Int) × (Int)) :=
  bindO (L0 (Tscan_itemError_sectors_0a n cs (n : Int) (0 : Int))) fun z =>
  Sum.elim (fun y0 =>
    some (y0.1, y0.2)) (fun y1 =>
    some ((0 : Int), (0 : Int))) z
theorem tscan_itemError_sectors_eq (F : FnT) (L0 : Q → Option Yscan_itemError_sectors_0)(n : Nat) (cs : List PV) : semF (callP F Escan_itemError_sectors 20) s72 (loopT [⟨0, Yscan_itemError_sectors_0, L0, XLscan_itemError_sectors_0⟩]) 400 a72 [.list n cs, .fn 73 []] (fun rv => decR (Gv.RSh.tup [(Prod.mk false [(Gv.CK.int Go.IntKind.i64)]), (Prod.mk false [(Gv.CK.int Go.IntKind.i64)])]) rv.pv) = tscan_itemError_sectors F L0 n cs := by kernel_rfl
noncomputable abbrev Fscan_itemError_sectors (args : List PV) := Fn env 72 (Gv.RSh.tup [(Prod.mk false [(Gv.CK.int Go.IntKind.i64)]), (Prod.mk false [(Gv.CK.int Go.IntKind.i64)])]) args
theorem Fscan_itemError_sectors_of (n : Nat) (cs : List PV) {res : ((Int) × (Int))} (h : tscan_itemError_sectors (Fn env) Lscan_itemError_sectors_0 n cs = some res) : Fscan_itemError_sectors [.list n cs, .fn 73 []] = some res :=
  fn_of Escan_itemError_sectors_ok rfl rfl (lo_cons (lpO_ok Uscan_itemError_sectors) lo_nil) ((tscan_itemError_sectors_eq _ _ _ _).trans h)

/-! ### scan_isReserved_1 -/

def Escan_isReserved_1 : List Entry := [.out 106 (Gv.RSh.one Gv.CK.bool)]
theorem Escan_isReserved_1_ok : ∀ e ∈ Escan_isReserved_1, EntOK env e := (ent_out ent_nil)
theorem Uscan_isReserved_1 : uniq ((blocksOf a105.body).map (·.1)) = true := by kernel_rfl
def tscan_isReserved_1 (F : FnT)(a b c d x y : Int) : Option (Bool) :=
  bindO (F 106 (Gv.RSh.one Gv.CK.bool) [(Gv.PV.agg [(Gv.PV.int Go.IntKind.i64 a), (Gv.PV.int Go.IntKind.i64 b), (Gv.PV.int Go.IntKind.i64 c), (Gv.PV.int Go.IntKind.i64 d)]), (Gv.PV.agg [(Gv.PV.int Go.IntKind.i64 x), (Gv.PV.int Go.IntKind.i64 y)])]) fun (y0 : (Bool)) =>
  bif y0 then
    some true
  else some false
theorem tscan_isReserved_1_eq (F : FnT)(a b c d x y : Int) : semF (callP F Escan_isReserved_1 20) s105 (loopT []) 400 a105 [.agg [.int .i64 a, .int .i64 b, .int .i64 c, .int .i64 d], .imm [.int .i64 x, .int .i64 y] 0] (fun rv => decR (Gv.RSh.one Gv.CK.bool) rv.pv) = tscan_isReserved_1 F a b c d x y := by kernel_rfl
noncomputable abbrev Fscan_isReserved_1 (args : List PV) := Fn env 105 (Gv.RSh.one Gv.CK.bool) args
theorem Fscan_isReserved_1_of (a b c d x y : Int) {res : (Bool)} (h : tscan_isReserved_1 (Fn env) a b c d x y = some res) : Fscan_isReserved_1 [.agg [.int .i64 a, .int .i64 b, .int .i64 c, .int .i64 d], .imm [.int .i64 x, .int .i64 y] 0] = some res :=
  fn_of Escan_isReserved_1_ok rfl rfl lo_nil ((tscan_isReserved_1_eq _ _ _ _ _ _ _).trans h)

/-! ### ixSec -/

def EixSec : List Entry := [.out 105 (Gv.RSh.one Gv.CK.bool)]
theorem EixSec_ok : ∀ e ∈ EixSec, EntOK env e := (ent_out ent_nil)
def TixSec_0a (n0 : Nat) (c1 : List PV) (i2 : Int) (i3 : Int) (i4 : Int) (i5 : Int) : Q := ⟨(tm 19 [(0, (AV.p (PV.list n0 c1))), (1, (AV.p (PV.fn 105 [(PV.imm [(PV.int Go.IntKind.i64 i2), (PV.int Go.IntKind.i64 i3)] 0)]))), (7, (AV.p (PV.int Go.IntKind.i64 i4))), (8, (AV.p (PV.int Go.IntKind.i64 i5)))]), (mm 19 [])⟩
def XixSec_0a (y : Int) : Ext × Q := (Ext.ret, ⟨(tm 19 [(4, (AV.p (PV.int Go.IntKind.i64 y)))]), (mm 19 [])⟩)
def IixSec_0a (q : Ext × S) : Int := (pP_int1 (pA_p (avT q.2 4)))
def XixSec_0b (y : Unit) : Ext × Q := (Ext.normal, ⟨(tm 19 []), (mm 19 [])⟩)
def IixSec_0b (q : Ext × S) : Unit := ()
abbrev YixSec_0 : Type := (Int) ⊕ ((Unit))
def XLixSec_0 : XL YixSec_0 := .more XixSec_0a (.one XixSec_0b)
def IixSec_0 (q : Ext × S) : YixSec_0 := bif (cE q.1 == 2) then (Sum.inl (IixSec_0a q)) else (Sum.inr (IixSec_0b q))
theorem XIixSec_0a (y : Int) : IixSec_0 (xe (XixSec_0a y)) = (Sum.inl y) := rfl
theorem XIixSec_0b (y : Unit) : IixSec_0 (xe (XixSec_0b y)) = (Sum.inr y) := rfl
theorem XIixSec_0 (y : YixSec_0) : IixSec_0 (xe (XLixSec_0.fn y)) = y := (match y with | .inl y => XIixSec_0a y | .inr y => XIixSec_0b y)
noncomputable abbrev LixSec_0 : Q → Option YixSec_0 := lpO env a125.body 0 XLixSec_0
noncomputable abbrev RixSec_0 : Q → Option (Ext × S) := lpR env a125.body 0
theorem LixSec_0a_of {s : Q} {y : Int} (h : RixSec_0 s = exO (XixSec_0a y)) : LixSec_0 s = some (Sum.inl y) := lpO_of IixSec_0 XIixSec_0 (y := (Sum.inl y)) h
theorem LixSec_0b_of {s : Q} {y : Unit} (h : RixSec_0 s = exO (XixSec_0b y)) : LixSec_0 s = some (Sum.inr y) := lpO_of IixSec_0 XIixSec_0 (y := (Sum.inr y)) h
theorem UixSec : uniq ((blocksOf a125.body).map (·.1)) = true := by kernel_rfl
def BixSec_0a (F : FnT) (N : Q → Option (Ext × S)) (E : Ext × Q → Option (Ext × S)) (L0 : Q → Option YixSec_0) (n0 : Nat) (c1 : List PV) (i2 : Int) (i3 : Int) (i4 : Int) (i5 : Int) : Option (Ext × S) :=
  bif (decide (i5 < i4)) then
    bif (decide (((0 : Int) ≤ i5) ∧ (i5 < (n0 : Int)))) then
      bindO (Gv.intC Go.IntKind.i64 (c1[((Int.toNat i5) * 4)]?)) fun x0 =>
      bindO (Gv.intC Go.IntKind.i64 (c1[(((Int.toNat i5) * 4) + 1)]?)) fun x1 =>
      bindO (Gv.intC Go.IntKind.i64 (c1[((((Int.toNat i5) * 4) + 1) + 1)]?)) fun x2 =>
      bindO (Gv.intC Go.IntKind.i64 (c1[(((((Int.toNat i5) * 4) + 1) + 1) + 1)]?)) fun x3 =>
      bindO (F 105 (Gv.RSh.one Gv.CK.bool) [(Gv.PV.agg [(Gv.PV.int Go.IntKind.i64 x0), (Gv.PV.int Go.IntKind.i64 x1), (Gv.PV.int Go.IntKind.i64 x2), (Gv.PV.int Go.IntKind.i64 x3)]), (Gv.PV.imm [(Gv.PV.int Go.IntKind.i64 i2), (Gv.PV.int Go.IntKind.i64 i3)] 0)]) fun (y4 : (Bool)) =>
      bif y4 then
        E (XixSec_0a i5)
      else N (TixSec_0a n0 c1 i2 i3 i4 (w64 (i5 + (1 : Int))))
    else none
  else E (XixSec_0b ())
theorem BixSec_0a_eq (F : FnT) (N : Q → Option (Ext × S)) (E : Ext × Q → Option (Ext × S)) (L0 : Q → Option YixSec_0) (n0 : Nat) (c1 : List PV) (i2 : Int) (i3 : Int) (i4 : Int) (i5 : Int) : semB (callP F EixSec 20) s125 (loopT [⟨0, YixSec_0, L0, XLixSec_0⟩]) 400 (blkIn a125.body 0) N E (TixSec_0a n0 c1 i2 i3 i4 i5) = BixSec_0a F N E L0 n0 c1 i2 i3 i4 i5 := by kernel_rfl
theorem RixSec_0a_of  (n0 : Nat) (c1 : List PV) (i2 : Int) (i3 : Int) (i4 : Int) (i5 : Int) {r : Ext × S} (h : BixSec_0a (Fn env) RixSec_0 exO LixSec_0 n0 c1 i2 i3 i4 i5 = some r) : RixSec_0 (TixSec_0a n0 c1 i2 i3 i4 i5) = some r :=
  lp_of EixSec_ok (by kernel_rfl) (lo_cons (lpO_ok UixSec) lo_nil) (by kernel_rfl) ((BixSec_0a_eq _ _ _ _ _ _ _ _ _ _).trans h)
def tixSec (F : FnT) (L0 : Q → Option YixSec_0)(n : Nat) (cs : List PV) (x y : Int) : Option (Int) :=
  bindO (L0 (TixSec_0a n cs x y (n : Int) (0 : Int))) fun z =>
  Sum.elim (fun y0 =>
    some y0) (fun y1 =>
    some (-1 : Int)) z
theorem tixSec_eq (F : FnT) (L0 : Q → Option YixSec_0)(n : Nat) (cs : List PV) (x y : Int) : semF (callP F EixSec 20) s125 (loopT [⟨0, YixSec_0, L0, XLixSec_0⟩]) 400 a125 [.list n cs, .fn 105 [.imm [.int .i64 x, .int .i64 y] 0]] (fun rv => decR (Gv.RSh.one (Gv.CK.int Go.IntKind.i64)) rv.pv) = tixSec F L0 n cs x y := by kernel_rfl
noncomputable abbrev FixSec (args : List PV) := Fn env 125 (Gv.RSh.one (Gv.CK.int Go.IntKind.i64)) args
theorem FixSec_of (n : Nat) (cs : List PV) (x y : Int) {res : (Int)} (h : tixSec (Fn env) LixSec_0 n cs x y = some res) : FixSec [.list n cs, .fn 105 [.imm [.int .i64 x, .int .i64 y] 0]] = some res :=
  fn_of EixSec_ok rfl rfl (lo_cons (lpO_ok UixSec) lo_nil) ((tixSec_eq _ _ _ _ _ _).trans h)

/-! ### cfSec -/

def EcfSec : List Entry := [.out 125 (Gv.RSh.one (Gv.CK.int Go.IntKind.i64))]
theorem EcfSec_ok : ∀ e ∈ EcfSec, EntOK env e := (ent_out ent_nil)
theorem UcfSec : uniq ((blocksOf a104.body).map (·.1)) = true := by kernel_rfl
def tcfSec (F : FnT)(n : Nat) (cs : List PV) (x y : Int) : Option (Bool) :=
  bindO (F 125 (Gv.RSh.one (Gv.CK.int Go.IntKind.i64)) [(Gv.PV.list n cs), (Gv.PV.fn 105 [(Gv.PV.imm [(Gv.PV.int Go.IntKind.i64 x), (Gv.PV.int Go.IntKind.i64 y)] 0)])]) fun (y0 : (Int)) =>
  bif (decide (y0 ≥ (0 : Int))) then
    some true
  else some false
theorem tcfSec_eq (F : FnT)(n : Nat) (cs : List PV) (x y : Int) : semF (callP F EcfSec 20) s104 (loopT []) 400 a104 [.list n cs, .fn 105 [.imm [.int .i64 x, .int .i64 y] 0]] (fun rv => decR (Gv.RSh.one Gv.CK.bool) rv.pv) = tcfSec F n cs x y := by kernel_rfl
noncomputable abbrev FcfSec (args : List PV) := Fn env 104 (Gv.RSh.one Gv.CK.bool) args
theorem FcfSec_of (n : Nat) (cs : List PV) (x y : Int) {res : (Bool)} (h : tcfSec (Fn env) n cs x y = some res) : FcfSec [.list n cs, .fn 105 [.imm [.int .i64 x, .int .i64 y] 0]] = some res :=
  fn_of EcfSec_ok rfl rfl lo_nil ((tcfSec_eq _ _ _ _ _).trans h)

/-! ### scan_isReserved -/

def Escan_isReserved : List Entry := [.out 104 (Gv.RSh.one Gv.CK.bool)]
theorem Escan_isReserved_ok : ∀ e ∈ Escan_isReserved, EntOK env e := (ent_out ent_nil)
theorem Uscan_isReserved : uniq ((blocksOf a74.body).map (·.1)) = true := by kernel_rfl
def tscan_isReserved (F : FnT) (p0_0 : Int) (p0_1 : Int) (p0_2 : Int) (p0_3 : Int) (p0_4 : Int) (p0_5 : Int) (p0_6n : Nat) (p0_6c : List PV) (p1_0 : Int) (p1_1 : Int) : Option (Bool) :=
  bindO (F 104 (Gv.RSh.one Gv.CK.bool) [(Gv.PV.list p0_6n p0_6c), (Gv.PV.fn 105 [(Gv.PV.imm [(Gv.PV.int Go.IntKind.i64 p1_0), (Gv.PV.int Go.IntKind.i64 p1_1)] 0)])]) fun (y0 : (Bool)) =>
  bif y0 then
    some true
  else some false
theorem tscan_isReserved_eq (F : FnT) (p0_0 : Int) (p0_1 : Int) (p0_2 : Int) (p0_3 : Int) (p0_4 : Int) (p0_5 : Int) (p0_6n : Nat) (p0_6c : List PV) (p1_0 : Int) (p1_1 : Int) : semF (callP F Escan_isReserved 20) s74 (loopT []) 400 a74 [PV.agg [PV.int Go.IntKind.i64 p0_0, PV.int Go.IntKind.i64 p0_1, PV.int Go.IntKind.i64 p0_2, PV.int Go.IntKind.i64 p0_3, PV.int Go.IntKind.i64 p0_4, PV.int Go.IntKind.i64 p0_5, PV.list p0_6n p0_6c], PV.agg [PV.int Go.IntKind.i64 p1_0, PV.int Go.IntKind.i64 p1_1]] (fun rv => decR (Gv.RSh.one Gv.CK.bool) rv.pv) = tscan_isReserved F p0_0 p0_1 p0_2 p0_3 p0_4 p0_5 p0_6n p0_6c p1_0 p1_1 := by kernel_rfl
noncomputable abbrev Fscan_isReserved (args : List PV) := Fn env 74 (Gv.RSh.one Gv.CK.bool) args
theorem Fscan_isReserved_of  (p0_0 : Int) (p0_1 : Int) (p0_2 : Int) (p0_3 : Int) (p0_4 : Int) (p0_5 : Int) (p0_6n : Nat) (p0_6c : List PV) (p1_0 : Int) (p1_1 : Int) {res : (Bool)} (h : tscan_isReserved (Fn env) p0_0 p0_1 p0_2 p0_3 p0_4 p0_5 p0_6n p0_6c p1_0 p1_1 = some res) : Fscan_isReserved [PV.agg [PV.int Go.IntKind.i64 p0_0, PV.int Go.IntKind.i64 p0_1, PV.int Go.IntKind.i64 p0_2, PV.int Go.IntKind.i64 p0_3, PV.int Go.IntKind.i64 p0_4, PV.int Go.IntKind.i64 p0_5, PV.list p0_6n p0_6c], PV.agg [PV.int Go.IntKind.i64 p1_0, PV.int Go.IntKind.i64 p1_1]] = some res :=
  fn_of Escan_isReserved_ok rfl rfl lo_nil ((tscan_isReserved_eq _ _ _ _ _ _ _ _ _ _ _).trans h)

/-! ### scan_CheckHead -/

def Escan_CheckHead : List Entry := [.out 71 (Gv.RSh.one (Gv.CK.int Go.IntKind.i64)), .out 16 (Gv.RSh.one (Gv.CK.int Go.IntKind.i64)), .out 65 (Gv.RSh.one (Gv.CK.int Go.IntKind.i64)), .out 59 (Gv.RSh.one (Gv.CK.int Go.IntKind.i64)), .out 72 (Gv.RSh.tup [(Prod.mk false [(Gv.CK.int Go.IntKind.i64)]), (Prod.mk false [(Gv.CK.int Go.IntKind.i64)])]), .out 74 (Gv.RSh.one Gv.CK.bool)]
theorem Escan_CheckHead_ok : ∀ e ∈ Escan_CheckHead, EntOK env e := (ent_out (ent_out (ent_out (ent_out (ent_out (ent_out ent_nil))))))
theorem Uscan_CheckHead : uniq ((blocksOf a28.body).map (·.1)) = true := by kernel_rfl
def tscan_CheckHead (F : FnT) (p0_0 : Int) (p0_1 : Int) (p0_2 : Int) (p0_3 : Int) (p0_4 : Int) (p0_5 : Int) (p0_6n : Nat) (p0_6c : List PV) : Option ((Int) × (Int)) :=
  bindO (F 71 (Gv.RSh.one (Gv.CK.int Go.IntKind.i64)) [(Gv.PV.agg [(Gv.PV.int Go.IntKind.i64 p0_0), (Gv.PV.int Go.IntKind.i64 p0_1)])]) fun (y0 : (Int)) =>
  bindO (F 16 (Gv.RSh.one (Gv.CK.int Go.IntKind.i64)) [(Gv.PV.agg [(Gv.PV.int Go.IntKind.i64 p0_2), (Gv.PV.int Go.IntKind.i64 p0_3)])]) fun (y1 : (Int)) =>
  bindO (F 16 (Gv.RSh.one (Gv.CK.int Go.IntKind.i64)) [(Gv.PV.agg [(Gv.PV.int Go.IntKind.i64 p0_4), (Gv.PV.int Go.IntKind.i64 p0_5)])]) fun (y2 : (Int)) =>
  bif (decide ((p0_6n : Int) > (6 : Int))) then
    bindO (F 65 (Gv.RSh.one (Gv.CK.int Go.IntKind.i64)) [(Gv.PV.bool true), (Gv.PV.int Go.IntKind.i64 (8 : Int))]) fun (y3 : (Int)) =>
    bindO (F 59 (Gv.RSh.one (Gv.CK.int Go.IntKind.i64)) [(Gv.PV.list 4 [(Gv.PV.int Go.IntKind.i64 y0), (Gv.PV.int Go.IntKind.i64 y1), (Gv.PV.int Go.IntKind.i64 y2), (Gv.PV.int Go.IntKind.i64 y3)])]) fun (y4 : (Int)) =>
    bif (y4 != (0 : Int)) then
      some ((0 : Int), y4)
    else bindO (F 72 (Gv.RSh.tup [(Prod.mk false [(Gv.CK.int Go.IntKind.i64)]), (Prod.mk false [(Gv.CK.int Go.IntKind.i64)])]) [(Gv.PV.list p0_6n p0_6c), (Gv.PV.fn 73 [])]) fun (y5 : ((Int) × (Int))) =>
    bif (y5.2 != (0 : Int)) then
      some (y5.1, y5.2)
    else bindO (F 74 (Gv.RSh.one Gv.CK.bool) [(Gv.PV.agg [(Gv.PV.int Go.IntKind.i64 p0_0), (Gv.PV.int Go.IntKind.i64 p0_1), (Gv.PV.int Go.IntKind.i64 p0_2), (Gv.PV.int Go.IntKind.i64 p0_3), (Gv.PV.int Go.IntKind.i64 p0_4), (Gv.PV.int Go.IntKind.i64 p0_5), (Gv.PV.list p0_6n p0_6c)]), (Gv.PV.agg [(Gv.PV.int Go.IntKind.i64 p0_0), (Gv.PV.int Go.IntKind.i64 p0_1)])]) fun (y6 : (Bool)) =>
    bif y6 then
      bindO (F 65 (Gv.RSh.one (Gv.CK.int Go.IntKind.i64)) [(Gv.PV.bool true), (Gv.PV.int Go.IntKind.i64 (22 : Int))]) fun (y7 : (Int)) =>
      some ((0 : Int), y7)
    else bindO (F 65 (Gv.RSh.one (Gv.CK.int Go.IntKind.i64)) [(Gv.PV.bool false), (Gv.PV.int Go.IntKind.i64 (22 : Int))]) fun (y8 : (Int)) =>
    some ((0 : Int), y8)
  else bindO (F 65 (Gv.RSh.one (Gv.CK.int Go.IntKind.i64)) [(Gv.PV.bool false), (Gv.PV.int Go.IntKind.i64 (8 : Int))]) fun (y9 : (Int)) =>
  bindO (F 59 (Gv.RSh.one (Gv.CK.int Go.IntKind.i64)) [(Gv.PV.list 4 [(Gv.PV.int Go.IntKind.i64 y0), (Gv.PV.int Go.IntKind.i64 y1), (Gv.PV.int Go.IntKind.i64 y2), (Gv.PV.int Go.IntKind.i64 y9)])]) fun (y10 : (Int)) =>
  bif (y10 != (0 : Int)) then
    some ((0 : Int), y10)
  else bindO (F 72 (Gv.RSh.tup [(Prod.mk false [(Gv.CK.int Go.IntKind.i64)]), (Prod.mk false [(Gv.CK.int Go.IntKind.i64)])]) [(Gv.PV.list p0_6n p0_6c), (Gv.PV.fn 73 [])]) fun (y11 : ((Int) × (Int))) =>
  bif (y11.2 != (0 : Int)) then
    some (y11.1, y11.2)
  else bindO (F 74 (Gv.RSh.one Gv.CK.bool) [(Gv.PV.agg [(Gv.PV.int Go.IntKind.i64 p0_0), (Gv.PV.int Go.IntKind.i64 p0_1), (Gv.PV.int Go.IntKind.i64 p0_2), (Gv.PV.int Go.IntKind.i64 p0_3), (Gv.PV.int Go.IntKind.i64 p0_4), (Gv.PV.int Go.IntKind.i64 p0_5), (Gv.PV.list p0_6n p0_6c)]), (Gv.PV.agg [(Gv.PV.int Go.IntKind.i64 p0_0), (Gv.PV.int Go.IntKind.i64 p0_1)])]) fun (y12 : (Bool)) =>
  bif y12 then
    bindO (F 65 (Gv.RSh.one (Gv.CK.int Go.IntKind.i64)) [(Gv.PV.bool true), (Gv.PV.int Go.IntKind.i64 (22 : Int))]) fun (y13 : (Int)) =>
    some ((0 : Int), y13)
  else bindO (F 65 (Gv.RSh.one (Gv.CK.int Go.IntKind.i64)) [(Gv.PV.bool false), (Gv.PV.int Go.IntKind.i64 (22 : Int))]) fun (y14 : (Int)) =>
  some ((0 : Int), y14)
theorem tscan_CheckHead_eq (F : FnT) (p0_0 : Int) (p0_1 : Int) (p0_2 : Int) (p0_3 : Int) (p0_4 : Int) (p0_5 : Int) (p0_6n : Nat) (p0_6c : List PV) : semF (callP F Escan_CheckHead 20) s28 (loopT []) 400 a28 [PV.agg [PV.int Go.IntKind.i64 p0_0, PV.int Go.IntKind.i64 p0_1, PV.int Go.IntKind.i64 p0_2, PV.int Go.IntKind.i64 p0_3, PV.int Go.IntKind.i64 p0_4, PV.int Go.IntKind.i64 p0_5, PV.list p0_6n p0_6c]] (fun rv => decR (Gv.RSh.tup [(Prod.mk false [(Gv.CK.int Go.IntKind.i64)]), (Prod.mk false [(Gv.CK.int Go.IntKind.i64)])]) rv.pv) = tscan_CheckHead F p0_0 p0_1 p0_2 p0_3 p0_4 p0_5 p0_6n p0_6c := by kernel_rfl
noncomputable abbrev Fscan_CheckHead (args : List PV) := Fn env 28 (Gv.RSh.tup [(Prod.mk false [(Gv.CK.int Go.IntKind.i64)]), (Prod.mk false [(Gv.CK.int Go.IntKind.i64)])]) args
theorem Fscan_CheckHead_of  (p0_0 : Int) (p0_1 : Int) (p0_2 : Int) (p0_3 : Int) (p0_4 : Int) (p0_5 : Int) (p0_6n : Nat) (p0_6c : List PV) {res : ((Int) × (Int))} (h : tscan_CheckHead (Fn env) p0_0 p0_1 p0_2 p0_3 p0_4 p0_5 p0_6n p0_6c = some res) : Fscan_CheckHead [PV.agg [PV.int Go.IntKind.i64 p0_0, PV.int Go.IntKind.i64 p0_1, PV.int Go.IntKind.i64 p0_2, PV.int Go.IntKind.i64 p0_3, PV.int Go.IntKind.i64 p0_4, PV.int Go.IntKind.i64 p0_5, PV.list p0_6n p0_6c]] = some res :=
  fn_of Escan_CheckHead_ok rfl rfl lo_nil ((tscan_CheckHead_eq _ _ _ _ _ _ _ _ _).trans h)

/-! ### scan_headError -/

def Escan_headError : List Entry := [.out 28 (Gv.RSh.tup [(Prod.mk false [(Gv.CK.int Go.IntKind.i64)]), (Prod.mk false [(Gv.CK.int Go.IntKind.i64)])])]
theorem Escan_headError_ok : ∀ e ∈ Escan_headError, EntOK env e := (ent_out ent_nil)
theorem Uscan_headError : uniq ((blocksOf a75.body).map (·.1)) = true := by kernel_rfl
def tscan_headError (F : FnT) (p0_0 : Int) (p0_1 : Int) (p0_2 : Int) (p0_3 : Int) (p0_4 : Int) (p0_5 : Int) (p0_6n : Nat) (p0_6c : List PV) : Option (Int) :=
  bindO (F 28 (Gv.RSh.tup [(Prod.mk false [(Gv.CK.int Go.IntKind.i64)]), (Prod.mk false [(Gv.CK.int Go.IntKind.i64)])]) [(Gv.PV.agg [(Gv.PV.int Go.IntKind.i64 p0_0), (Gv.PV.int Go.IntKind.i64 p0_1), (Gv.PV.int Go.IntKind.i64 p0_2), (Gv.PV.int Go.IntKind.i64 p0_3), (Gv.PV.int Go.IntKind.i64 p0_4), (Gv.PV.int Go.IntKind.i64 p0_5), (Gv.PV.list p0_6n p0_6c)])]) fun (y0 : ((Int) × (Int))) =>
  some y0.2
theorem tscan_headError_eq (F : FnT) (p0_0 : Int) (p0_1 : Int) (p0_2 : Int) (p0_3 : Int) (p0_4 : Int) (p0_5 : Int) (p0_6n : Nat) (p0_6c : List PV) : semF (callP F Escan_headError 20) s75 (loopT []) 400 a75 [PV.agg [PV.int Go.IntKind.i64 p0_0, PV.int Go.IntKind.i64 p0_1, PV.int Go.IntKind.i64 p0_2, PV.int Go.IntKind.i64 p0_3, PV.int Go.IntKind.i64 p0_4, PV.int Go.IntKind.i64 p0_5, PV.list p0_6n p0_6c]] (fun rv => decR (Gv.RSh.one (Gv.CK.int Go.IntKind.i64)) rv.pv) = tscan_headError F p0_0 p0_1 p0_2 p0_3 p0_4 p0_5 p0_6n p0_6c := by kernel_rfl
noncomputable abbrev Fscan_headError (args : List PV) := Fn env 75 (Gv.RSh.one (Gv.CK.int Go.IntKind.i64)) args
theorem Fscan_headError_of  (p0_0 : Int) (p0_1 : Int) (p0_2 : Int) (p0_3 : Int) (p0_4 : Int) (p0_5 : Int) (p0_6n : Nat) (p0_6c : List PV) {res : (Int)} (h : tscan_headError (Fn env) p0_0 p0_1 p0_2 p0_3 p0_4 p0_5 p0_6n p0_6c = some res) : Fscan_headError [PV.agg [PV.int Go.IntKind.i64 p0_0, PV.int Go.IntKind.i64 p0_1, PV.int Go.IntKind.i64 p0_2, PV.int Go.IntKind.i64 p0_3, PV.int Go.IntKind.i64 p0_4, PV.int Go.IntKind.i64 p0_5, PV.list p0_6n p0_6c]] = some res :=
  fn_of Escan_headError_ok rfl rfl lo_nil ((tscan_headError_eq _ _ _ _ _ _ _ _ _).trans h)

/-! ### scan_IsReserved -/

def Escan_IsReserved : List Entry := [.out 75 (Gv.RSh.one (Gv.CK.int Go.IntKind.i64)), .out 71 (Gv.RSh.one (Gv.CK.int Go.IntKind.i64)), .out 59 (Gv.RSh.one (Gv.CK.int Go.IntKind.i64)), .out 74 (Gv.RSh.one Gv.CK.bool)]
theorem Escan_IsReserved_ok : ∀ e ∈ Escan_IsReserved, EntOK env e := (ent_out (ent_out (ent_out (ent_out ent_nil))))
theorem Uscan_IsReserved : uniq ((blocksOf a30.body).map (·.1)) = true := by kernel_rfl
def tscan_IsReserved (F : FnT) (p0_0 : Int) (p0_1 : Int) (p0_2 : Int) (p0_3 : Int) (p0_4 : Int) (p0_5 : Int) (p0_6n : Nat) (p0_6c : List PV) (p1_0 : Int) (p1_1 : Int) : Option ((Bool) × (Int)) :=
  bindO (F 75 (Gv.RSh.one (Gv.CK.int Go.IntKind.i64)) [(Gv.PV.agg [(Gv.PV.int Go.IntKind.i64 p0_0), (Gv.PV.int Go.IntKind.i64 p0_1), (Gv.PV.int Go.IntKind.i64 p0_2), (Gv.PV.int Go.IntKind.i64 p0_3), (Gv.PV.int Go.IntKind.i64 p0_4), (Gv.PV.int Go.IntKind.i64 p0_5), (Gv.PV.list p0_6n p0_6c)])]) fun (y0 : (Int)) =>
  bindO (F 71 (Gv.RSh.one (Gv.CK.int Go.IntKind.i64)) [(Gv.PV.agg [(Gv.PV.int Go.IntKind.i64 p1_0), (Gv.PV.int Go.IntKind.i64 p1_1)])]) fun (y1 : (Int)) =>
  bindO (F 59 (Gv.RSh.one (Gv.CK.int Go.IntKind.i64)) [(Gv.PV.list 2 [(Gv.PV.int Go.IntKind.i64 y0), (Gv.PV.int Go.IntKind.i64 y1)])]) fun (y2 : (Int)) =>
  bif (y2 != (0 : Int)) then
    some (false, y2)
  else bindO (F 74 (Gv.RSh.one Gv.CK.bool) [(Gv.PV.agg [(Gv.PV.int Go.IntKind.i64 p0_0), (Gv.PV.int Go.IntKind.i64 p0_1), (Gv.PV.int Go.IntKind.i64 p0_2), (Gv.PV.int Go.IntKind.i64 p0_3), (Gv.PV.int Go.IntKind.i64 p0_4), (Gv.PV.int Go.IntKind.i64 p0_5), (Gv.PV.list p0_6n p0_6c)]), (Gv.PV.agg [(Gv.PV.int Go.IntKind.i64 p1_0), (Gv.PV.int Go.IntKind.i64 p1_1)])]) fun (y3 : (Bool)) =>
  bif y3 then
    some (true, (0 : Int))
  else some (false, (0 : Int))
theorem tscan_IsReserved_eq (F : FnT) (p0_0 : Int) (p0_1 : Int) (p0_2 : Int) (p0_3 : Int) (p0_4 : Int) (p0_5 : Int) (p0_6n : Nat) (p0_6c : List PV) (p1_0 : Int) (p1_1 : Int) : semF (callP F Escan_IsReserved 20) s30 (loopT []) 400 a30 [PV.agg [PV.int Go.IntKind.i64 p0_0, PV.int Go.IntKind.i64 p0_1, PV.int Go.IntKind.i64 p0_2, PV.int Go.IntKind.i64 p0_3, PV.int Go.IntKind.i64 p0_4, PV.int Go.IntKind.i64 p0_5, PV.list p0_6n p0_6c], PV.agg [PV.int Go.IntKind.i64 p1_0, PV.int Go.IntKind.i64 p1_1]] (fun rv => decR (Gv.RSh.tup [(Prod.mk false [Gv.CK.bool]), (Prod.mk false [(Gv.CK.int Go.IntKind.i64)])]) rv.pv) = tscan_IsReserved F p0_0 p0_1 p0_2 p0_3 p0_4 p0_5 p0_6n p0_6c p1_0 p1_1 := by kernel_rfl
noncomputable abbrev Fscan_IsReserved (args : List PV) := Fn env 30 (Gv.RSh.tup [(Prod.mk false [Gv.CK.bool]), (Prod.mk false [(Gv.CK.int Go.IntKind.i64)])]) args
theorem Fscan_IsReserved_of  (p0_0 : Int) (p0_1 : Int) (p0_2 : Int) (p0_3 : Int) (p0_4 : Int) (p0_5 : Int) (p0_6n : Nat) (p0_6c : List PV) (p1_0 : Int) (p1_1 : Int) {res : ((Bool) × (Int))} (h : tscan_IsReserved (Fn env) p0_0 p0_1 p0_2 p0_3 p0_4 p0_5 p0_6n p0_6c p1_0 p1_1 = some res) : Fscan_IsReserved [PV.agg [PV.int Go.IntKind.i64 p0_0, PV.int Go.IntKind.i64 p0_1, PV.int Go.IntKind.i64 p0_2, PV.int Go.IntKind.i64 p0_3, PV.int Go.IntKind.i64 p0_4, PV.int Go.IntKind.i64 p0_5, PV.list p0_6n p0_6c], PV.agg [PV.int Go.IntKind.i64 p1_0, PV.int Go.IntKind.i64 p1_1]] = some res :=
  fn_of Escan_IsReserved_ok rfl rfl lo_nil ((tscan_IsReserved_eq _ _ _ _ _ _ _ _ _ _ _).trans h)

/-! ### L3_few -/

def EL3_few : List Entry := []
theorem EL3_few_ok : ∀ e ∈ EL3_few, EntOK env e := ent_nil
theorem UL3_few : uniq ((blocksOf a27.body).map (·.1)) = true := by kernel_rfl
def tL3_few (F : FnT) (p0_0 : Int) (p0_1 : Int) (p0_2 : Int) (p0_3 : Int) (p0_4 : Int) (p0_5 : Int) (p0_6n : Nat) (p0_6c : List PV) : Option (Bool) :=
  bif (decide ((p0_6n : Int) ≤ (8 : Int))) then
    some true
  else some false
theorem tL3_few_eq (F : FnT) (p0_0 : Int) (p0_1 : Int) (p0_2 : Int) (p0_3 : Int) (p0_4 : Int) (p0_5 : Int) (p0_6n : Nat) (p0_6c : List PV) : semF (callP F EL3_few 20) s27 (loopT []) 400 a27 [PV.agg [PV.int Go.IntKind.i64 p0_0, PV.int Go.IntKind.i64 p0_1, PV.int Go.IntKind.i64 p0_2, PV.int Go.IntKind.i64 p0_3, PV.int Go.IntKind.i64 p0_4, PV.int Go.IntKind.i64 p0_5, PV.list p0_6n p0_6c]] (fun rv => decR (Gv.RSh.one Gv.CK.bool) rv.pv) = tL3_few F p0_0 p0_1 p0_2 p0_3 p0_4 p0_5 p0_6n p0_6c := by kernel_rfl
noncomputable abbrev FL3_few (args : List PV) := Fn env 27 (Gv.RSh.one Gv.CK.bool) args
theorem FL3_few_of  (p0_0 : Int) (p0_1 : Int) (p0_2 : Int) (p0_3 : Int) (p0_4 : Int) (p0_5 : Int) (p0_6n : Nat) (p0_6c : List PV) {res : (Bool)} (h : tL3_few (Fn env) p0_0 p0_1 p0_2 p0_3 p0_4 p0_5 p0_6n p0_6c = some res) : FL3_few [PV.agg [PV.int Go.IntKind.i64 p0_0, PV.int Go.IntKind.i64 p0_1, PV.int Go.IntKind.i64 p0_2, PV.int Go.IntKind.i64 p0_3, PV.int Go.IntKind.i64 p0_4, PV.int Go.IntKind.i64 p0_5, PV.list p0_6n p0_6c]] = some res :=
  fn_of EL3_few_ok rfl rfl lo_nil ((tL3_few_eq _ _ _ _ _ _ _ _ _).trans h)

/-! ### R3_CopyHead -/

def ER3_CopyHead : List Entry := []
theorem ER3_CopyHead_ok : ∀ e ∈ ER3_CopyHead, EntOK env e := ent_nil
theorem UR3_CopyHead : uniq ((blocksOf a29.body).map (·.1)) = true := by kernel_rfl
def tR3_CopyHead (F : FnT) (p0_0 : Int) (p0_1 : Int) (p0_2 : Int) (p0_3 : Int) (p0_4 : Int) (p0_5 : Int) (p0_6n : Nat) (p0_6c : List PV) : Option ((Int) × ((Int) × ((Int) × ((Int) × ((Int) × ((Int) × ((Nat) × (List PV)))))))) :=
  bif (decide (p0_6n = 0)) then
    some (p0_0, (p0_1, (p0_2, (p0_3, (p0_4, (p0_5, (0, [])))))))
  else bif (decide ((List.length p0_6c) = (p0_6n * 4))) then
    bif (decide ((0 = 0) ∧ ((0 + p0_6n) ≤ Gv.big))) then
      some (p0_0, (p0_1, (p0_2, (p0_3, (p0_4, (p0_5, ((0 + p0_6n), ([] ++ p0_6c))))))))
    else none
  else none
theorem tR3_CopyHead_eq (F : FnT) (p0_0 : Int) (p0_1 : Int) (p0_2 : Int) (p0_3 : Int) (p0_4 : Int) (p0_5 : Int) (p0_6n : Nat) (p0_6c : List PV) : semF (callP F ER3_CopyHead 20) s29 (loopT []) 400 a29 [PV.agg [PV.int Go.IntKind.i64 p0_0, PV.int Go.IntKind.i64 p0_1, PV.int Go.IntKind.i64 p0_2, PV.int Go.IntKind.i64 p0_3, PV.int Go.IntKind.i64 p0_4, PV.int Go.IntKind.i64 p0_5, PV.list p0_6n p0_6c]] (fun rv => decR (Gv.RSh.agg [(Gv.CK.int Go.IntKind.i64), (Gv.CK.int Go.IntKind.i64), (Gv.CK.int Go.IntKind.i64), (Gv.CK.int Go.IntKind.i64), (Gv.CK.int Go.IntKind.i64), (Gv.CK.int Go.IntKind.i64), Gv.CK.list]) rv.pv) = tR3_CopyHead F p0_0 p0_1 p0_2 p0_3 p0_4 p0_5 p0_6n p0_6c := by kernel_rfl
noncomputable abbrev FR3_CopyHead (args : List PV) := Fn env 29 (Gv.RSh.agg [(Gv.CK.int Go.IntKind.i64), (Gv.CK.int Go.IntKind.i64), (Gv.CK.int Go.IntKind.i64), (Gv.CK.int Go.IntKind.i64), (Gv.CK.int Go.IntKind.i64), (Gv.CK.int Go.IntKind.i64), Gv.CK.list]) args
theorem FR3_CopyHead_of  (p0_0 : Int) (p0_1 : Int) (p0_2 : Int) (p0_3 : Int) (p0_4 : Int) (p0_5 : Int) (p0_6n : Nat) (p0_6c : List PV) {res : ((Int) × ((Int) × ((Int) × ((Int) × ((Int) × ((Int) × ((Nat) × (List PV))))))))} (h : tR3_CopyHead (Fn env) p0_0 p0_1 p0_2 p0_3 p0_4 p0_5 p0_6n p0_6c = some res) : FR3_CopyHead [PV.agg [PV.int Go.IntKind.i64 p0_0, PV.int Go.IntKind.i64 p0_1, PV.int Go.IntKind.i64 p0_2, PV.int Go.IntKind.i64 p0_3, PV.int Go.IntKind.i64 p0_4, PV.int Go.IntKind.i64 p0_5, PV.list p0_6n p0_6c]] = some res :=
  fn_of ER3_CopyHead_ok rfl rfl lo_nil ((tR3_CopyHead_eq _ _ _ _ _ _ _ _ _).trans h)

/-! ### R3_IsIn -/

def ER3_IsIn : List Entry := [.out 17 (Gv.RSh.one Gv.CK.bool), .out 42 (Gv.RSh.one (Gv.CK.int Go.IntKind.i64))]
theorem ER3_IsIn_ok : ∀ e ∈ ER3_IsIn, EntOK env e := (ent_out (ent_out ent_nil))
def TR3_IsIn_0a (i0 : Int) (i1 : Int) (i2 : Int) (i3 : Int) (i4 : Int) (i5 : Int) (i6 : Int) : Q := ⟨(tm 30 [(2, (AV.loc 2 0)), (3, (AV.loc 3 0)), (5, (AV.p (PV.int Go.IntKind.i64 i0)))]), (mm 30 [(2, (Bk.pcs true [(PV.int Go.IntKind.i64 i1), (PV.int Go.IntKind.i64 i2), (PV.int Go.IntKind.i64 i3), (PV.int Go.IntKind.i64 i4)])), (3, (Bk.pcs true [(PV.int Go.IntKind.i64 i5), (PV.int Go.IntKind.i64 i6)]))])⟩
def XR3_IsIn_0a (y : Bool) : Ext × Q := (Ext.ret, ⟨(tm 30 [(4, (AV.p (PV.bool y)))]), (mm 30 [])⟩)
def IR3_IsIn_0a (q : Ext × S) : Bool := (pP_bool0 (pA_p (avT q.2 4)))
abbrev YR3_IsIn_0 : Type := Bool
def XLR3_IsIn_0 : XL YR3_IsIn_0 := .one XR3_IsIn_0a
def IR3_IsIn_0 (q : Ext × S) : YR3_IsIn_0 := (IR3_IsIn_0a q)
theorem XIR3_IsIn_0a (y : Bool) : IR3_IsIn_0 (xe (XR3_IsIn_0a y)) = y := rfl
theorem XIR3_IsIn_0 (y : YR3_IsIn_0) : IR3_IsIn_0 (xe (XLR3_IsIn_0.fn y)) = y := XIR3_IsIn_0a y
noncomputable abbrev LR3_IsIn_0 : Q → Option YR3_IsIn_0 := lpO env a76.body 0 XLR3_IsIn_0
noncomputable abbrev RR3_IsIn_0 : Q → Option (Ext × S) := lpR env a76.body 0
theorem LR3_IsIn_0a_of {s : Q} {y : Bool} (h : RR3_IsIn_0 s = exO (XR3_IsIn_0a y)) : LR3_IsIn_0 s = some y := lpO_of IR3_IsIn_0 XIR3_IsIn_0 (y := y) h
theorem UR3_IsIn : uniq ((blocksOf a76.body).map (·.1)) = true := by kernel_rfl
def BR3_IsIn_0a (F : FnT) (N : Q → Option (Ext × S)) (E : Ext × Q → Option (Ext × S)) (L0 : Q → Option YR3_IsIn_0) (i0 : Int) (i1 : Int) (i2 : Int) (i3 : Int) (i4 : Int) (i5 : Int) (i6 : Int) : Option (Ext × S) :=
  bif (i0 == i5) then
    bindO (F 17 (Gv.RSh.one Gv.CK.bool) [(Gv.PV.int Go.IntKind.i64 i6), (Gv.PV.int Go.IntKind.i64 i3), (Gv.PV.int Go.IntKind.i64 i4)]) fun (y0 : (Bool)) =>
    bif y0 then
      E (XR3_IsIn_0a true)
    else E (XR3_IsIn_0a false)
  else bif (i0 == i2) then
    E (XR3_IsIn_0a false)
  else bindO (F 42 (Gv.RSh.one (Gv.CK.int Go.IntKind.i64)) [(Gv.PV.int Go.IntKind.i64 (w64 (i0 + (1 : Int)))), (Gv.PV.int Go.IntKind.i64 (360 : Int))]) fun (y1 : (Int)) =>
  N (TR3_IsIn_0a y1 i1 i2 i3 i4 i5 i6)
theorem BR3_IsIn_0a_eq (F : FnT) (N : Q → Option (Ext × S)) (E : Ext × Q → Option (Ext × S)) (L0 : Q → Option YR3_IsIn_0) (i0 : Int) (i1 : Int) (i2 : Int) (i3 : Int) (i4 : Int) (i5 : Int) (i6 : Int) : semB (callP F ER3_IsIn 20) s76 (loopT [⟨0, YR3_IsIn_0, L0, XLR3_IsIn_0⟩]) 400 (blkIn a76.body 0) N E (TR3_IsIn_0a i0 i1 i2 i3 i4 i5 i6) = BR3_IsIn_0a F N E L0 i0 i1 i2 i3 i4 i5 i6 := by kernel_rfl
theorem RR3_IsIn_0a_of  (i0 : Int) (i1 : Int) (i2 : Int) (i3 : Int) (i4 : Int) (i5 : Int) (i6 : Int) {r : Ext × S} (h : BR3_IsIn_0a (Fn env) RR3_IsIn_0 exO LR3_IsIn_0 i0 i1 i2 i3 i4 i5 i6 = some r) : RR3_IsIn_0 (TR3_IsIn_0a i0 i1 i2 i3 i4 i5 i6) = some r :=
  lp_of ER3_IsIn_ok (by kernel_rfl) (lo_cons (lpO_ok UR3_IsIn) lo_nil) (by kernel_rfl) ((BR3_IsIn_0a_eq _ _ _ _ _ _ _ _ _ _ _).trans h)
def tR3_IsIn (F : FnT) (L0 : Q → Option YR3_IsIn_0) (p0_0 : Int) (p0_1 : Int) (p0_2 : Int) (p0_3 : Int) (p1_0 : Int) (p1_1 : Int) : Option (Bool) :=
  bindO (L0 (TR3_IsIn_0a p0_0 p0_0 p0_1 p0_2 p0_3 p1_0 p1_1)) fun y0 =>
  some y0
theorem tR3_IsIn_eq (F : FnT) (L0 : Q → Option YR3_IsIn_0) (p0_0 : Int) (p0_1 : Int) (p0_2 : Int) (p0_3 : Int) (p1_0 : Int) (p1_1 : Int) : semF (callP F ER3_IsIn 20) s76 (loopT [⟨0, YR3_IsIn_0, L0, XLR3_IsIn_0⟩]) 400 a76 [PV.agg [PV.int Go.IntKind.i64 p0_0, PV.int Go.IntKind.i64 p0_1, PV.int Go.IntKind.i64 p0_2, PV.int Go.IntKind.i64 p0_3], PV.agg [PV.int Go.IntKind.i64 p1_0, PV.int Go.IntKind.i64 p1_1]] (fun rv => decR (Gv.RSh.one Gv.CK.bool) rv.pv) = tR3_IsIn F L0 p0_0 p0_1 p0_2 p0_3 p1_0 p1_1 := by kernel_rfl
noncomputable abbrev FR3_IsIn (args : List PV) := Fn env 76 (Gv.RSh.one Gv.CK.bool) args
theorem FR3_IsIn_of  (p0_0 : Int) (p0_1 : Int) (p0_2 : Int) (p0_3 : Int) (p1_0 : Int) (p1_1 : Int) {res : (Bool)} (h : tR3_IsIn (Fn env) LR3_IsIn_0 p0_0 p0_1 p0_2 p0_3 p1_0 p1_1 = some res) : FR3_IsIn [PV.agg [PV.int Go.IntKind.i64 p0_0, PV.int Go.IntKind.i64 p0_1, PV.int Go.IntKind.i64 p0_2, PV.int Go.IntKind.i64 p0_3], PV.agg [PV.int Go.IntKind.i64 p1_0, PV.int Go.IntKind.i64 p1_1]] = some res :=
  fn_of ER3_IsIn_ok rfl rfl (lo_cons (lpO_ok UR3_IsIn) lo_nil) ((tR3_IsIn_eq _ _ _ _ _ _ _ _).trans h)

/-! ### R3_IsReserved -/

def ER3_IsReserved : List Entry := [.out 76 (Gv.RSh.one Gv.CK.bool)]
theorem ER3_IsReserved_ok : ∀ e ∈ ER3_IsReserved, EntOK env e := (ent_out ent_nil)
def TR3_IsReserved_0a (i0 : Int) (i1 : Int) (i2 : Int) (i3 : Int) (i4 : Int) (i5 : Int) (i6 : Int) (n7 : Nat) (c8 : List PV) (i9 : Int) (i10 : Int) : Q := ⟨(tm 20 [(2, (AV.loc 2 0)), (3, (AV.loc 3 0)), (5, (AV.p (PV.int Go.IntKind.i64 i0)))]), (mm 20 [(2, (Bk.cells true [(AV.p (PV.int Go.IntKind.i64 i1)), (AV.p (PV.int Go.IntKind.i64 i2)), (AV.p (PV.int Go.IntKind.i64 i3)), (AV.p (PV.int Go.IntKind.i64 i4)), (AV.p (PV.int Go.IntKind.i64 i5)), (AV.p (PV.int Go.IntKind.i64 i6)), (AV.p (PV.list n7 c8))])), (3, (Bk.pcs true [(PV.int Go.IntKind.i64 i9), (PV.int Go.IntKind.i64 i10)]))])⟩
def XR3_IsReserved_0a (y : Unit) : Ext × Q := (Ext.ret, ⟨(tm 20 [(4, (AV.p (PV.bool true)))]), (mm 20 [])⟩)
def IR3_IsReserved_0a (q : Ext × S) : Unit := ()
def XR3_IsReserved_0b (y : Int × Int × Int × Int × Int × Int × Nat × List PV × Int × Int) : Ext × Q := (Ext.normal, ⟨(tm 20 []), (mm 20 [(2, (Bk.cells true [(AV.p (PV.int Go.IntKind.i64 y.1)), (AV.p (PV.int Go.IntKind.i64 y.2.1)), (AV.p (PV.int Go.IntKind.i64 y.2.2.1)), (AV.p (PV.int Go.IntKind.i64 y.2.2.2.1)), (AV.p (PV.int Go.IntKind.i64 y.2.2.2.2.1)), (AV.p (PV.int Go.IntKind.i64 y.2.2.2.2.2.1)), (AV.p (PV.list y.2.2.2.2.2.2.1 y.2.2.2.2.2.2.2.1))])), (3, (Bk.pcs true [(PV.int Go.IntKind.i64 y.2.2.2.2.2.2.2.2.1), (PV.int Go.IntKind.i64 y.2.2.2.2.2.2.2.2.2)]))])⟩)
def IR3_IsReserved_0b (q : Ext × S) : Int × Int × Int × Int × Int × Int × Nat × List PV × Int × Int := ((pP_int1 (pA_p (hdA (pB_cells1 (avM q.2 2))))), (pP_int1 (pA_p (hdA (List.tail (pB_cells1 (avM q.2 2)))))), (pP_int1 (pA_p (hdA (List.tail (List.tail (pB_cells1 (avM q.2 2))))))), (pP_int1 (pA_p (hdA (List.tail (List.tail (List.tail (pB_cells1 (avM q.2 2)))))))), (pP_int1 (pA_p (hdA (List.tail (List.tail (List.tail (List.tail (pB_cells1 (avM q.2 2))))))))), (pP_int1 (pA_p (hdA (List.tail (List.tail (List.tail (List.tail (List.tail (pB_cells1 (avM q.2 2)))))))))), (pP_list0 (pA_p (hdA (List.tail (List.tail (List.tail (List.tail (List.tail (List.tail (pB_cells1 (avM q.2 2))))))))))), (pP_list1 (pA_p (hdA (List.tail (List.tail (List.tail (List.tail (List.tail (List.tail (pB_cells1 (avM q.2 2))))))))))), (pP_int1 (hdP (pB_pcs1 (avM q.2 3)))), (pP_int1 (hdP (List.tail (pB_pcs1 (avM q.2 3))))))
abbrev YR3_IsReserved_0 : Type := (Unit) ⊕ ((Int × Int × Int × Int × Int × Int × Nat × List PV × Int × Int))
def XLR3_IsReserved_0 : XL YR3_IsReserved_0 := .more XR3_IsReserved_0a (.one XR3_IsReserved_0b)
def IR3_IsReserved_0 (q : Ext × S) : YR3_IsReserved_0 := bif (cE q.1 == 2) then (Sum.inl (IR3_IsReserved_0a q)) else (Sum.inr (IR3_IsReserved_0b q))
theorem XIR3_IsReserved_0a (y : Unit) : IR3_IsReserved_0 (xe (XR3_IsReserved_0a y)) = (Sum.inl y) := rfl
theorem XIR3_IsReserved_0b (y : Int × Int × Int × Int × Int × Int × Nat × List PV × Int × Int) : IR3_IsReserved_0 (xe (XR3_IsReserved_0b y)) = (Sum.inr y) := rfl
theorem XIR3_IsReserved_0 (y : YR3_IsReserved_0) : IR3_IsReserved_0 (xe (XLR3_IsReserved_0.fn y)) = y := (match y with | .inl y => XIR3_IsReserved_0a y | .inr y => XIR3_IsReserved_0b y)
noncomputable abbrev LR3_IsReserved_0 : Q → Option YR3_IsReserved_0 := lpO env a33.body 0 XLR3_IsReserved_0
noncomputable abbrev RR3_IsReserved_0 : Q → Option (Ext × S) := lpR env a33.body 0
theorem LR3_IsReserved_0a_of {s : Q} {y : Unit} (h : RR3_IsReserved_0 s = exO (XR3_IsReserved_0a y)) : LR3_IsReserved_0 s = some (Sum.inl y) := lpO_of IR3_IsReserved_0 XIR3_IsReserved_0 (y := (Sum.inl y)) h
theorem LR3_IsReserved_0b_of {s : Q} {y : Int × Int × Int × Int × Int × Int × Nat × List PV × Int × Int} (h : RR3_IsReserved_0 s = exO (XR3_IsReserved_0b y)) : LR3_IsReserved_0 s = some (Sum.inr y) := lpO_of IR3_IsReserved_0 XIR3_IsReserved_0 (y := (Sum.inr y)) h
theorem UR3_IsReserved : uniq ((blocksOf a33.body).map (·.1)) = true := by kernel_rfl
def BR3_IsReserved_0a (F : FnT) (N : Q → Option (Ext × S)) (E : Ext × Q → Option (Ext × S)) (L0 : Q → Option YR3_IsReserved_0) (i0 : Int) (i1 : Int) (i2 : Int) (i3 : Int) (i4 : Int) (i5 : Int) (i6 : Int) (n7 : Nat) (c8 : List PV) (i9 : Int) (i10 : Int) : Option (Ext × S) :=
  bif (decide (i0 < (n7 : Int))) then
    bif (decide (((0 : Int) ≤ i0) ∧ (i0 < (n7 : Int)))) then
      bindO (Gv.intC Go.IntKind.i64 (c8[((Int.toNat i0) * 4)]?)) fun x0 =>
      bindO (Gv.intC Go.IntKind.i64 (c8[(((Int.toNat i0) * 4) + 1)]?)) fun x1 =>
      bindO (Gv.intC Go.IntKind.i64 (c8[((((Int.toNat i0) * 4) + 1) + 1)]?)) fun x2 =>
      bindO (Gv.intC Go.IntKind.i64 (c8[(((((Int.toNat i0) * 4) + 1) + 1) + 1)]?)) fun x3 =>
      bindO (F 76 (Gv.RSh.one Gv.CK.bool) [(Gv.PV.agg [(Gv.PV.int Go.IntKind.i64 x0), (Gv.PV.int Go.IntKind.i64 x1), (Gv.PV.int Go.IntKind.i64 x2), (Gv.PV.int Go.IntKind.i64 x3)]), (Gv.PV.agg [(Gv.PV.int Go.IntKind.i64 i9), (Gv.PV.int Go.IntKind.i64 i10)])]) fun (y4 : (Bool)) =>
      bif y4 then
        E (XR3_IsReserved_0a ())
      else N (TR3_IsReserved_0a (w64 (i0 + (1 : Int))) i1 i2 i3 i4 i5 i6 n7 c8 i9 i10)
    else none
  else E (XR3_IsReserved_0b (i1, i2, i3, i4, i5, i6, n7, c8, i9, i10))
theorem BR3_IsReserved_0a_eq (F : FnT) (N : Q → Option (Ext × S)) (E : Ext × Q → Option (Ext × S)) (L0 : Q → Option YR3_IsReserved_0) (i0 : Int) (i1 : Int) (i2 : Int) (i3 : Int) (i4 : Int) (i5 : Int) (i6 : Int) (n7 : Nat) (c8 : List PV) (i9 : Int) (i10 : Int) : semB (callP F ER3_IsReserved 20) s33 (loopT [⟨0, YR3_IsReserved_0, L0, XLR3_IsReserved_0⟩]) 400 (blkIn a33.body 0) N E (TR3_IsReserved_0a i0 i1 i2 i3 i4 i5 i6 n7 c8 i9 i10) = BR3_IsReserved_0a F N E L0 i0 i1 i2 i3 i4 i5 i6 n7 c8 i9 i10 := by kernel_rfl
theorem RR3_IsReserved_0a_of  (i0 : Int) (i1 : Int) (i2 : Int) (i3 : Int) (i4 : Int) (i5 : Int) (i6 : Int) (n7 : Nat) (c8 : List PV) (i9 : Int) (i10 : Int) {r : Ext × S} (h : BR3_IsReserved_0a (Fn env) RR3_IsReserved_0 exO LR3_IsReserved_0 i0 i1 i2 i3 i4 i5 i6 n7 c8 i9 i10 = some r) : RR3_IsReserved_0 (TR3_IsReserved_0a i0 i1 i2 i3 i4 i5 i6 n7 c8 i9 i10) = some r :=
  lp_of ER3_IsReserved_ok (by kernel_rfl) (lo_cons (lpO_ok UR3_IsReserved) lo_nil) (by kernel_rfl) ((BR3_IsReserved_0a_eq _ _ _ _ _ _ _ _ _ _ _ _ _ _ _).trans h)
def tR3_IsReserved (F : FnT) (L0 : Q → Option YR3_IsReserved_0) (p0_0 : Int) (p0_1 : Int) (p0_2 : Int) (p0_3 : Int) (p0_4 : Int) (p0_5 : Int) (p0_6n : Nat) (p0_6c : List PV) (p1_0 : Int) (p1_1 : Int) : Option (Bool) :=
  bindO (L0 (TR3_IsReserved_0a (0 : Int) p0_0 p0_1 p0_2 p0_3 p0_4 p0_5 p0_6n p0_6c p1_0 p1_1)) fun z =>
  Sum.elim (fun y0 =>
    some true) (fun y1 =>
    some false) z
theorem tR3_IsReserved_eq (F : FnT) (L0 : Q → Option YR3_IsReserved_0) (p0_0 : Int) (p0_1 : Int) (p0_2 : Int) (p0_3 : Int) (p0_4 : Int) (p0_5 : Int) (p0_6n : Nat) (p0_6c : List PV) (p1_0 : Int) (p1_1 : Int) : semF (callP F ER3_IsReserved 20) s33 (loopT [⟨0, YR3_IsReserved_0, L0, XLR3_IsReserved_0⟩]) 400 a33 [PV.agg [PV.int Go.IntKind.i64 p0_0, PV.int Go.IntKind.i64 p0_1, PV.int Go.IntKind.i64 p0_2, PV.int Go.IntKind.i64 p0_3, PV.int Go.IntKind.i64 p0_4, PV.int Go.IntKind.i64 p0_5, PV.list p0_6n p0_6c], PV.agg [PV.int Go.IntKind.i64 p1_0, PV.int Go.IntKind.i64 p1_1]] (fun rv => decR (Gv.RSh.one Gv.CK.bool) rv.pv) = tR3_IsReserved F L0 p0_0 p0_1 p0_2 p0_3 p0_4 p0_5 p0_6n p0_6c p1_0 p1_1 := by kernel_rfl
noncomputable abbrev FR3_IsReserved (args : List PV) := Fn env 33 (Gv.RSh.one Gv.CK.bool) args
theorem FR3_IsReserved_of  (p0_0 : Int) (p0_1 : Int) (p0_2 : Int) (p0_3 : Int) (p0_4 : Int) (p0_5 : Int) (p0_6n : Nat) (p0_6c : List PV) (p1_0 : Int) (p1_1 : Int) {res : (Bool)} (h : tR3_IsReserved (Fn env) LR3_IsReserved_0 p0_0 p0_1 p0_2 p0_3 p0_4 p0_5 p0_6n p0_6c p1_0 p1_1 = some res) : FR3_IsReserved [PV.agg [PV.int Go.IntKind.i64 p0_0, PV.int Go.IntKind.i64 p0_1, PV.int Go.IntKind.i64 p0_2, PV.int Go.IntKind.i64 p0_3, PV.int Go.IntKind.i64 p0_4, PV.int Go.IntKind.i64 p0_5, PV.list p0_6n p0_6c], PV.agg [PV.int Go.IntKind.i64 p1_0, PV.int Go.IntKind.i64 p1_1]] = some res :=
  fn_of ER3_IsReserved_ok rfl rfl (lo_cons (lpO_ok UR3_IsReserved) lo_nil) ((tR3_IsReserved_eq _ _ _ _ _ _ _ _ _ _ _ _).trans h)

/-! ### R3_DirectionErr -/

def ER3_DirectionErr : List Entry := [.out 17 (Gv.RSh.one Gv.CK.bool)]
theorem ER3_DirectionErr_ok : ∀ e ∈ ER3_DirectionErr, EntOK env e := (ent_out ent_nil)
theorem UR3_DirectionErr : uniq ((blocksOf a32.body).map (·.1)) = true := by kernel_rfl
def tR3_DirectionErr (F : FnT) (p0_0 : Int) (p0_1 : Int) : Option (Int) :=
  bindO (F 17 (Gv.RSh.one Gv.CK.bool) [(Gv.PV.int Go.IntKind.i64 p0_0), (Gv.PV.int Go.IntKind.i64 (0 : Int)), (Gv.PV.int Go.IntKind.i64 (359 : Int))]) fun (y0 : (Bool)) =>
  bif y0 then
    bindO (F 17 (Gv.RSh.one Gv.CK.bool) [(Gv.PV.int Go.IntKind.i64 p0_1), (Gv.PV.int Go.IntKind.i64 (0 : Int)), (Gv.PV.int Go.IntKind.i64 (90 : Int))]) fun (y1 : (Bool)) =>
    bif y1 then
      some (0 : Int)
    else some (2 : Int)
  else some (2 : Int)
theorem tR3_DirectionErr_eq (F : FnT) (p0_0 : Int) (p0_1 : Int) : semF (callP F ER3_DirectionErr 20) s32 (loopT []) 400 a32 [PV.agg [PV.int Go.IntKind.i64 p0_0, PV.int Go.IntKind.i64 p0_1]] (fun rv => decR (Gv.RSh.one (Gv.CK.int Go.IntKind.i64)) rv.pv) = tR3_DirectionErr F p0_0 p0_1 := by kernel_rfl
noncomputable abbrev FR3_DirectionErr (args : List PV) := Fn env 32 (Gv.RSh.one (Gv.CK.int Go.IntKind.i64)) args
theorem FR3_DirectionErr_of  (p0_0 : Int) (p0_1 : Int) {res : (Int)} (h : tR3_DirectionErr (Fn env) p0_0 p0_1 = some res) : FR3_DirectionErr [PV.agg [PV.int Go.IntKind.i64 p0_0, PV.int Go.IntKind.i64 p0_1]] = some res :=
  fn_of ER3_DirectionErr_ok rfl rfl lo_nil ((tR3_DirectionErr_eq _ _ _).trans h)

/-! ### R3_CheckHead -/

def ER3_CheckHead : List Entry := [.out 32 (Gv.RSh.one (Gv.CK.int Go.IntKind.i64)), .out 13 (Gv.RSh.one (Gv.CK.int Go.IntKind.i64)), .out 17 (Gv.RSh.one Gv.CK.bool), .out 33 (Gv.RSh.one Gv.CK.bool)]
theorem ER3_CheckHead_ok : ∀ e ∈ ER3_CheckHead, EntOK env e := (ent_out (ent_out (ent_out (ent_out ent_nil))))
def TR3_CheckHead_0a (i0 : Int) (i1 : Int) (i2 : Int) (i3 : Int) (i4 : Int) (i5 : Int) (i6 : Int) (n7 : Nat) (c8 : List PV) : Q := ⟨(tm 82 [(1, (AV.loc 1 0)), (7, (AV.p (PV.int Go.IntKind.i64 i0)))]), (mm 82 [(1, (Bk.cells true [(AV.p (PV.int Go.IntKind.i64 i1)), (AV.p (PV.int Go.IntKind.i64 i2)), (AV.p (PV.int Go.IntKind.i64 i3)), (AV.p (PV.int Go.IntKind.i64 i4)), (AV.p (PV.int Go.IntKind.i64 i5)), (AV.p (PV.int Go.IntKind.i64 i6)), (AV.p (PV.list n7 c8))]))])⟩
def XR3_CheckHead_0a (y : Int × Int) : Ext × Q := (Ext.ret, ⟨(tm 82 [(2, (AV.p (PV.int Go.IntKind.i64 y.1))), (3, (AV.p (PV.int Go.IntKind.i64 y.2)))]), (mm 82 [])⟩)
def IR3_CheckHead_0a (q : Ext × S) : Int × Int := ((pP_int1 (pA_p (avT q.2 2))), (pP_int1 (pA_p (avT q.2 3))))
def XR3_CheckHead_0b (y : Int × Int × Int × Int × Int × Int × Nat × List PV) : Ext × Q := (Ext.normal, ⟨(tm 82 [(1, (AV.loc 1 0))]), (mm 82 [(1, (Bk.cells true [(AV.p (PV.int Go.IntKind.i64 y.1)), (AV.p (PV.int Go.IntKind.i64 y.2.1)), (AV.p (PV.int Go.IntKind.i64 y.2.2.1)), (AV.p (PV.int Go.IntKind.i64 y.2.2.2.1)), (AV.p (PV.int Go.IntKind.i64 y.2.2.2.2.1)), (AV.p (PV.int Go.IntKind.i64 y.2.2.2.2.2.1)), (AV.p (PV.list y.2.2.2.2.2.2.1 y.2.2.2.2.2.2.2))]))])⟩)
def IR3_CheckHead_0b (q : Ext × S) : Int × Int × Int × Int × Int × Int × Nat × List PV := ((pP_int1 (pA_p (hdA (pB_cells1 (avM q.2 1))))), (pP_int1 (pA_p (hdA (List.tail (pB_cells1 (avM q.2 1)))))), (pP_int1 (pA_p (hdA (List.tail (List.tail (pB_cells1 (avM q.2 1))))))), (pP_int1 (pA_p (hdA (List.tail (List.tail (List.tail (pB_cells1 (avM q.2 1)))))))), (pP_int1 (pA_p (hdA (List.tail (List.tail (List.tail (List.tail (pB_cells1 (avM q.2 1))))))))), (pP_int1 (pA_p (hdA (List.tail (List.tail (List.tail (List.tail (List.tail (pB_cells1 (avM q.2 1)))))))))), (pP_list0 (pA_p (hdA (List.tail (List.tail (List.tail (List.tail (List.tail (List.tail (pB_cells1 (avM q.2 1))))))))))), (pP_list1 (pA_p (hdA (List.tail (List.tail (List.tail (List.tail (List.tail (List.tail (pB_cells1 (avM q.2 1))))))))))))
abbrev YR3_CheckHead_0 : Type := (Int × Int) ⊕ ((Int × Int × Int × Int × Int × Int × Nat × List PV))
def XLR3_CheckHead_0 : XL YR3_CheckHead_0 := .more XR3_CheckHead_0a (.one XR3_CheckHead_0b)
def IR3_CheckHead_0 (q : Ext × S) : YR3_CheckHead_0 := bif (cE q.1 == 2) then (Sum.inl (IR3_CheckHead_0a q)) else (Sum.inr (IR3_CheckHead_0b q))
theorem XIR3_CheckHead_0a (y : Int × Int) : IR3_CheckHead_0 (xe (XR3_CheckHead_0a y)) = (Sum.inl y) := rfl
theorem XIR3_CheckHead_0b (y : Int × Int × Int × Int × Int × Int × Nat × List PV) : IR3_CheckHead_0 (xe (XR3_CheckHead_0b y)) = (Sum.inr y) := rfl
theorem XIR3_CheckHead_0 (y : YR3_CheckHead_0) : IR3_CheckHead_0 (xe (XLR3_CheckHead_0.fn y)) = y := (match y with | .inl y => XIR3_CheckHead_0a y | .inr y => XIR3_CheckHead_0b y)
noncomputable abbrev LR3_CheckHead_0 : Q → Option YR3_CheckHead_0 := lpO env a31.body 0 XLR3_CheckHead_0
noncomputable abbrev RR3_CheckHead_0 : Q → Option (Ext × S) := lpR env a31.body 0
theorem LR3_CheckHead_0a_of {s : Q} {y : Int × Int} (h : RR3_CheckHead_0 s = exO (XR3_CheckHead_0a y)) : LR3_CheckHead_0 s = some (Sum.inl y) := lpO_of IR3_CheckHead_0 XIR3_CheckHead_0 (y := (Sum.inl y)) h
theorem LR3_CheckHead_0b_of {s : Q} {y : Int × Int × Int × Int × Int × Int × Nat × List PV} (h : RR3_CheckHead_0 s = exO (XR3_CheckHead_0b y)) : LR3_CheckHead_0 s = some (Sum.inr y) := lpO_of IR3_CheckHead_0 XIR3_CheckHead_0 (y := (Sum.inr y)) h
theorem UR3_CheckHead : uniq ((blocksOf a31.body).map (·.1)) = true := by kernel_rfl
def BR3_CheckHead_0a (F : FnT) (N : Q → Option (Ext × S)) (E : Ext × Q → Option (Ext × S)) (L0 : Q → Option YR3_CheckHead_0) (i0 : Int) (i1 : Int) (i2 : Int) (i3 : Int) (i4 : Int) (i5 : Int) (i6 : Int) (n7 : Nat) (c8 : List PV) : Option (Ext × S) :=
  bif (decide (i0 < (n7 : Int))) then
    bif (decide (((0 : Int) ≤ i0) ∧ (i0 < (n7 : Int)))) then
      bindO (Gv.intC Go.IntKind.i64 (c8[((Int.toNat i0) * 4)]?)) fun x0 =>
      bindO (Gv.intC Go.IntKind.i64 (c8[(((Int.toNat i0) * 4) + 1)]?)) fun x1 =>
      bindO (Gv.intC Go.IntKind.i64 (c8[((((Int.toNat i0) * 4) + 1) + 1)]?)) fun x2 =>
      bindO (Gv.intC Go.IntKind.i64 (c8[(((((Int.toNat i0) * 4) + 1) + 1) + 1)]?)) fun x3 =>
      bindO (F 17 (Gv.RSh.one Gv.CK.bool) [(Gv.PV.int Go.IntKind.i64 x0), (Gv.PV.int Go.IntKind.i64 (0 : Int)), (Gv.PV.int Go.IntKind.i64 (359 : Int))]) fun (y4 : (Bool)) =>
      bif y4 then
        bindO (F 17 (Gv.RSh.one Gv.CK.bool) [(Gv.PV.int Go.IntKind.i64 x1), (Gv.PV.int Go.IntKind.i64 (0 : Int)), (Gv.PV.int Go.IntKind.i64 (359 : Int))]) fun (y5 : (Bool)) =>
        bif y5 then
          bindO (F 17 (Gv.RSh.one Gv.CK.bool) [(Gv.PV.int Go.IntKind.i64 x2), (Gv.PV.int Go.IntKind.i64 (0 : Int)), (Gv.PV.int Go.IntKind.i64 (90 : Int))]) fun (y6 : (Bool)) =>
          bif y6 then
            bindO (F 17 (Gv.RSh.one Gv.CK.bool) [(Gv.PV.int Go.IntKind.i64 x3), (Gv.PV.int Go.IntKind.i64 (0 : Int)), (Gv.PV.int Go.IntKind.i64 (90 : Int))]) fun (y7 : (Bool)) =>
            bif y7 then
              bif (decide (x2 > x3)) then
                E (XR3_CheckHead_0a (i0, (9 : Int)))
              else N (TR3_CheckHead_0a (w64 (i0 + (1 : Int))) i1 i2 i3 i4 i5 i6 n7 c8)
            else E (XR3_CheckHead_0a (i0, (2 : Int)))
          else E (XR3_CheckHead_0a (i0, (2 : Int)))
        else E (XR3_CheckHead_0a (i0, (2 : Int)))
      else E (XR3_CheckHead_0a (i0, (2 : Int)))
    else none
  else E (XR3_CheckHead_0b (i1, i2, i3, i4, i5, i6, n7, c8))
theorem BR3_CheckHead_0a_eq (F : FnT) (N : Q → Option (Ext × S)) (E : Ext × Q → Option (Ext × S)) (L0 : Q → Option YR3_CheckHead_0) (i0 : Int) (i1 : Int) (i2 : Int) (i3 : Int) (i4 : Int) (i5 : Int) (i6 : Int) (n7 : Nat) (c8 : List PV) : semB (callP F ER3_CheckHead 20) s31 (loopT [⟨0, YR3_CheckHead_0, L0, XLR3_CheckHead_0⟩]) 400 (blkIn a31.body 0) N E (TR3_CheckHead_0a i0 i1 i2 i3 i4 i5 i6 n7 c8) = BR3_CheckHead_0a F N E L0 i0 i1 i2 i3 i4 i5 i6 n7 c8 := by kernel_rfl
theorem RR3_CheckHead_0a_of  (i0 : Int) (i1 : Int) (i2 : Int) (i3 : Int) (i4 : Int) (i5 : Int) (i6 : Int) (n7 : Nat) (c8 : List PV) {r : Ext × S} (h : BR3_CheckHead_0a (Fn env) RR3_CheckHead_0 exO LR3_CheckHead_0 i0 i1 i2 i3 i4 i5 i6 n7 c8 = some r) : RR3_CheckHead_0 (TR3_CheckHead_0a i0 i1 i2 i3 i4 i5 i6 n7 c8) = some r :=
  lp_of ER3_CheckHead_ok (by kernel_rfl) (lo_cons (lpO_ok UR3_CheckHead) lo_nil) (by kernel_rfl) ((BR3_CheckHead_0a_eq _ _ _ _ _ _ _ _ _ _ _ _ _).trans h)
def tR3_CheckHead (F : FnT) (L0 : Q → Option YR3_CheckHead_0) (p0_0 : Int) (p0_1 : Int) (p0_2 : Int) (p0_3 : Int) (p0_4 : Int) (p0_5 : Int) (p0_6n : Nat) (p0_6c : List PV) : Option ((Int) × (Int)) :=
  bindO (F 32 (Gv.RSh.one (Gv.CK.int Go.IntKind.i64)) [(Gv.PV.agg [(Gv.PV.int Go.IntKind.i64 p0_0), (Gv.PV.int Go.IntKind.i64 p0_1)])]) fun (y0 : (Int)) =>
  bif (y0 != (0 : Int)) then
    some ((0 : Int), y0)
  else bindO (F 13 (Gv.RSh.one (Gv.CK.int Go.IntKind.i64)) [(Gv.PV.agg [(Gv.PV.int Go.IntKind.i64 p0_2), (Gv.PV.int Go.IntKind.i64 p0_3)])]) fun (y1 : (Int)) =>
  bif (y1 != (0 : Int)) then
    some ((0 : Int), y1)
  else bindO (F 13 (Gv.RSh.one (Gv.CK.int Go.IntKind.i64)) [(Gv.PV.agg [(Gv.PV.int Go.IntKind.i64 p0_4), (Gv.PV.int Go.IntKind.i64 p0_5)])]) fun (y2 : (Int)) =>
  bif (y2 != (0 : Int)) then
    some ((0 : Int), y2)
  else bif (decide ((p0_6n : Int) > (6 : Int))) then
    some ((0 : Int), (8 : Int))
  else bindO (L0 (TR3_CheckHead_0a (0 : Int) p0_0 p0_1 p0_2 p0_3 p0_4 p0_5 p0_6n p0_6c)) fun z =>
  Sum.elim (fun y3 =>
    some (y3.1, y3.2)) (fun y4 =>
    bindO (F 33 (Gv.RSh.one Gv.CK.bool) [(Gv.PV.agg [(Gv.PV.int Go.IntKind.i64 y4.1), (Gv.PV.int Go.IntKind.i64 y4.2.1), (Gv.PV.int Go.IntKind.i64 y4.2.2.1), (Gv.PV.int Go.IntKind.i64 y4.2.2.2.1), (Gv.PV.int Go.IntKind.i64 y4.2.2.2.2.1), (Gv.PV.int Go.IntKind.i64 y4.2.2.2.2.2.1), (Gv.PV.list y4.2.2.2.2.2.2.1 y4.2.2.2.2.2.2.2)]), (Gv.PV.agg [(Gv.PV.int Go.IntKind.i64 y4.1), (Gv.PV.int Go.IntKind.i64 y4.2.1)])]) fun (y5 : (Bool)) =>
    bif y5 then
      some ((0 : Int), (22 : Int))
    else some ((0 : Int), (0 : Int))) z
theorem tR3_CheckHead_eq (F : FnT) (L0 : Q → Option YR3_CheckHead_0) (p0_0 : Int) (p0_1 : Int) (p0_2 : Int) (p0_3 : Int) (p0_4 : Int) (p0_5 : Int) (p0_6n : Nat) (p0_6c : List PV) : semF (callP F ER3_CheckHead 20) s31 (loopT [⟨0, YR3_CheckHead_0, L0, XLR3_CheckHead_0⟩]) 400 a31 [PV.agg [PV.int Go.IntKind.i64 p0_0, PV.int Go.IntKind.i64 p0_1, PV.int Go.IntKind.i64 p0_2, PV.int Go.IntKind.i64 p0_3, PV.int Go.IntKind.i64 p0_4, PV.int Go.IntKind.i64 p0_5, PV.list p0_6n p0_6c]] (fun rv => decR (Gv.RSh.tup [(Prod.mk false [(Gv.CK.int Go.IntKind.i64)]), (Prod.mk false [(Gv.CK.int Go.IntKind.i64)])]) rv.pv) = tR3_CheckHead F L0 p0_0 p0_1 p0_2 p0_3 p0_4 p0_5 p0_6n p0_6c := by kernel_rfl
noncomputable abbrev FR3_CheckHead (args : List PV) := Fn env 31 (Gv.RSh.tup [(Prod.mk false [(Gv.CK.int Go.IntKind.i64)]), (Prod.mk false [(Gv.CK.int Go.IntKind.i64)])]) args
theorem FR3_CheckHead_of  (p0_0 : Int) (p0_1 : Int) (p0_2 : Int) (p0_3 : Int) (p0_4 : Int) (p0_5 : Int) (p0_6n : Nat) (p0_6c : List PV) {res : ((Int) × (Int))} (h : tR3_CheckHead (Fn env) LR3_CheckHead_0 p0_0 p0_1 p0_2 p0_3 p0_4 p0_5 p0_6n p0_6c = some res) : FR3_CheckHead [PV.agg [PV.int Go.IntKind.i64 p0_0, PV.int Go.IntKind.i64 p0_1, PV.int Go.IntKind.i64 p0_2, PV.int Go.IntKind.i64 p0_3, PV.int Go.IntKind.i64 p0_4, PV.int Go.IntKind.i64 p0_5, PV.list p0_6n p0_6c]] = some res :=
  fn_of ER3_CheckHead_ok rfl rfl (lo_cons (lpO_ok UR3_CheckHead) lo_nil) ((tR3_CheckHead_eq _ _ _ _ _ _ _ _ _ _).trans h)

end Gv
