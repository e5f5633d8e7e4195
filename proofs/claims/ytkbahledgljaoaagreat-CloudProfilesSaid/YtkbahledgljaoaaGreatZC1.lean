/- What the functions do, round by round: ZC1. -/
import Derived.Test.YtkbahledgljaoaaGreatGvEnv
namespace Gv
open Go
set_option maxRecDepth 100000

/-! ### cloud_errorIf -/

def Ecloud_errorIf : List Entry := []
theorem Ecloud_errorIf_ok : ∀ e ∈ Ecloud_errorIf, EntOK env e := ent_nil
theorem Ucloud_errorIf : uniq ((blocksOf a71.body).map (·.1)) = true := by kernel_rfl
def tcloud_errorIf (_F : FnT) (p0 : Bool) (p1 : Int) : Option (Int) :=
  bif p0 then
    some p1
  else some (0 : Int)
theorem tcloud_errorIf_eq (F : FnT) (p0 : Bool) (p1 : Int) : semF (callP F Ecloud_errorIf 20) s71 (loopT []) 400 a71 [PV.bool p0, PV.int IntKind.i64 p1] (fun rv => decR (RSh.one (CK.int IntKind.i64)) rv.pv) = tcloud_errorIf F p0 p1 := by kernel_rfl
noncomputable abbrev Fcloud_errorIf (args : List PV) := Fn env 71 (RSh.one (CK.int IntKind.i64)) args
theorem Fcloud_errorIf_of  (p0 : Bool) (p1 : Int) {res : (Int)} (h : tcloud_errorIf (Fn env) p0 p1 = some res) : Fcloud_errorIf [PV.bool p0, PV.int IntKind.i64 p1] = some res :=
  fn_of Ecloud_errorIf_ok rfl rfl lo_nil ((tcloud_errorIf_eq _ _ _).trans h)

/-! ### cloud_rangeError -/

def Ecloud_rangeError : List Entry := [.out 71 (RSh.one (CK.int IntKind.i64))]
theorem Ecloud_rangeError_ok : ∀ e ∈ Ecloud_rangeError, EntOK env e := (ent_out ent_nil)
theorem Ucloud_rangeError : uniq ((blocksOf a69.body).map (·.1)) = true := by kernel_rfl
def tcloud_rangeError (F : FnT) (p0 : Int) (p1 : Int) (p2 : Int) : Option (Int) :=
  bif (decide (p0 < p1)) then
    bindO (F 71 (RSh.one (CK.int IntKind.i64)) [(PV.bool true), (PV.int IntKind.i64 (2 : Int))]) fun (y0 : (Int)) =>
    some y0
  else bif (decide (p0 > p2)) then
    bindO (F 71 (RSh.one (CK.int IntKind.i64)) [(PV.bool true), (PV.int IntKind.i64 (2 : Int))]) fun (y1 : (Int)) =>
    some y1
  else bindO (F 71 (RSh.one (CK.int IntKind.i64)) [(PV.bool false), (PV.int IntKind.i64 (2 : Int))]) fun (y2 : (Int)) =>
  some y2
theorem tcloud_rangeError_eq (F : FnT) (p0 : Int) (p1 : Int) (p2 : Int) : semF (callP F Ecloud_rangeError 20) s69 (loopT []) 400 a69 [PV.int IntKind.i64 p0, PV.int IntKind.i64 p1, PV.int IntKind.i64 p2] (fun rv => decR (RSh.one (CK.int IntKind.i64)) rv.pv) = tcloud_rangeError F p0 p1 p2 := by kernel_rfl
noncomputable abbrev Fcloud_rangeError (args : List PV) := Fn env 69 (RSh.one (CK.int IntKind.i64)) args
theorem Fcloud_rangeError_of  (p0 : Int) (p1 : Int) (p2 : Int) {res : (Int)} (h : tcloud_rangeError (Fn env) p0 p1 p2 = some res) : Fcloud_rangeError [PV.int IntKind.i64 p0, PV.int IntKind.i64 p1, PV.int IntKind.i64 p2] = some res :=
  fn_of Ecloud_rangeError_ok rfl rfl lo_nil ((tcloud_rangeError_eq _ _ _ _).trans h)

/-! ### glidepathbase_CopyInts -/

def Eglidepathbase_CopyInts : List Entry := []
theorem Eglidepathbase_CopyInts_ok : ∀ e ∈ Eglidepathbase_CopyInts, EntOK env e := ent_nil
theorem Uglidepathbase_CopyInts : uniq ((blocksOf a11.body).map (·.1)) = true := by kernel_rfl
def tglidepathbase_CopyInts (_F : FnT) (p0n : Nat) (p0c : List PV) : Option ((Nat) × (List PV)) :=
  bif (decide (p0n = 0)) then
    some (0, [])
  else bif (decide ((List.length p0c) = (p0n * 1))) then
    bif (decide ((0 = 0) ∧ ((0 + p0n) ≤ big))) then
      bif (decide ((0 + p0n) = (0 + p0n))) then
        some ((0 + p0n), ([] ++ p0c))
      else none
    else none
  else none
theorem tglidepathbase_CopyInts_eq (F : FnT) (p0n : Nat) (p0c : List PV) : semF (callP F Eglidepathbase_CopyInts 20) s11 (loopT []) 400 a11 [PV.list p0n p0c] (fun rv => decR (RSh.one CK.list) rv.pv) = tglidepathbase_CopyInts F p0n p0c := by kernel_rfl
noncomputable abbrev Fglidepathbase_CopyInts (args : List PV) := Fn env 11 (RSh.one CK.list) args
theorem Fglidepathbase_CopyInts_of  (p0n : Nat) (p0c : List PV) {res : ((Nat) × (List PV))} (h : tglidepathbase_CopyInts (Fn env) p0n p0c = some res) : Fglidepathbase_CopyInts [PV.list p0n p0c] = some res :=
  fn_of Eglidepathbase_CopyInts_ok rfl rfl lo_nil ((tglidepathbase_CopyInts_eq _ _ _).trans h)

/-! ### glidepathbase_Within -/

def Eglidepathbase_Within : List Entry := []
theorem Eglidepathbase_Within_ok : ∀ e ∈ Eglidepathbase_Within, EntOK env e := ent_nil
theorem Uglidepathbase_Within : uniq ((blocksOf a31.body).map (·.1)) = true := by kernel_rfl
def tglidepathbase_Within (_F : FnT) (p0 : Int) (p1 : Int) (p2 : Int) : Option (Bool) :=
  bif (decide (p1 ≤ p0)) then
    bif (decide (p0 ≤ p2)) then
      some true
    else some false
  else some false
theorem tglidepathbase_Within_eq (F : FnT) (p0 : Int) (p1 : Int) (p2 : Int) : semF (callP F Eglidepathbase_Within 20) s31 (loopT []) 400 a31 [PV.int IntKind.i64 p0, PV.int IntKind.i64 p1, PV.int IntKind.i64 p2] (fun rv => decR (RSh.one CK.bool) rv.pv) = tglidepathbase_Within F p0 p1 p2 := by kernel_rfl
noncomputable abbrev Fglidepathbase_Within (args : List PV) := Fn env 31 (RSh.one CK.bool) args
theorem Fglidepathbase_Within_of  (p0 : Int) (p1 : Int) (p2 : Int) {res : (Bool)} (h : tglidepathbase_Within (Fn env) p0 p1 p2 = some res) : Fglidepathbase_Within [PV.int IntKind.i64 p0, PV.int IntKind.i64 p1, PV.int IntKind.i64 p2] = some res :=
  fn_of Eglidepathbase_Within_ok rfl rfl lo_nil ((tglidepathbase_Within_eq _ _ _ _).trans h)

/-! ### glidepathlaw08_both -/

def Eglidepathlaw08_both : List Entry := []
theorem Eglidepathlaw08_both_ok : ∀ e ∈ Eglidepathlaw08_both, EntOK env e := ent_nil
theorem Uglidepathlaw08_both : uniq ((blocksOf a16.body).map (·.1)) = true := by kernel_rfl
def tglidepathlaw08_both (_F : FnT) (p0 : Int) (p1 : Int) : Option (Int) :=
  bif (p0 != (0 : Int)) then
    some p0
  else some p1
theorem tglidepathlaw08_both_eq (F : FnT) (p0 : Int) (p1 : Int) : semF (callP F Eglidepathlaw08_both 20) s16 (loopT []) 400 a16 [PV.int IntKind.i64 p0, PV.int IntKind.i64 p1] (fun rv => decR (RSh.one (CK.int IntKind.i64)) rv.pv) = tglidepathlaw08_both F p0 p1 := by kernel_rfl
noncomputable abbrev Fglidepathlaw08_both (args : List PV) := Fn env 16 (RSh.one (CK.int IntKind.i64)) args
theorem Fglidepathlaw08_both_of  (p0 : Int) (p1 : Int) {res : (Int)} (h : tglidepathlaw08_both (Fn env) p0 p1 = some res) : Fglidepathlaw08_both [PV.int IntKind.i64 p0, PV.int IntKind.i64 p1] = some res :=
  fn_of Eglidepathlaw08_both_ok rfl rfl lo_nil ((tglidepathlaw08_both_eq _ _ _).trans h)

/-! ### glidepathlaw08_few -/

def Eglidepathlaw08_few : List Entry := []
theorem Eglidepathlaw08_few_ok : ∀ e ∈ Eglidepathlaw08_few, EntOK env e := ent_nil
theorem Uglidepathlaw08_few : uniq ((blocksOf a9.body).map (·.1)) = true := by kernel_rfl
def tglidepathlaw08_few (_F : FnT) (p0n : Nat) (_p0c : List PV) : Option (Bool) :=
  bif (decide ((p0n : Int) ≤ (26 : Int))) then
    some true
  else some false
theorem tglidepathlaw08_few_eq (F : FnT) (p0n : Nat) (p0c : List PV) : semF (callP F Eglidepathlaw08_few 20) s9 (loopT []) 400 a9 [PV.list p0n p0c] (fun rv => decR (RSh.one CK.bool) rv.pv) = tglidepathlaw08_few F p0n p0c := by kernel_rfl
noncomputable abbrev Fglidepathlaw08_few (args : List PV) := Fn env 9 (RSh.one CK.bool) args
theorem Fglidepathlaw08_few_of  (p0n : Nat) (p0c : List PV) {res : (Bool)} (h : tglidepathlaw08_few (Fn env) p0n p0c = some res) : Fglidepathlaw08_few [PV.list p0n p0c] = some res :=
  fn_of Eglidepathlaw08_few_ok rfl rfl lo_nil ((tglidepathlaw08_few_eq _ _ _).trans h)

/-! ### cloud_firstError_2 -/

def Ecloud_firstError_2 : List Entry := []
theorem Ecloud_firstError_2_ok : ∀ e ∈ Ecloud_firstError_2, EntOK env e := ent_nil
theorem Ucloud_firstError_2 : uniq ((blocksOf a62.body).map (·.1)) = true := by kernel_rfl
def tcloud_firstError_2 (_F : FnT)(e0 e1 : Int) : Option (Int) :=
  bif (e0 != (0 : Int)) then
    some e0
  else bif (e1 != (0 : Int)) then
    some e1
  else some (0 : Int)
theorem tcloud_firstError_2_eq (F : FnT)(e0 e1 : Int) : semF (callP F Ecloud_firstError_2 20) s62 (loopT []) 400 a62 [.list 2 [.int .i64 e0, .int .i64 e1]] (fun rv => decR (RSh.one (CK.int IntKind.i64)) rv.pv) = tcloud_firstError_2 F e0 e1 := by kernel_rfl
noncomputable abbrev Fcloud_firstError_2 (args : List PV) := Fn env 62 (RSh.one (CK.int IntKind.i64)) args
theorem Fcloud_firstError_2_of (e0 e1 : Int) {res : (Int)} (h : tcloud_firstError_2 (Fn env) e0 e1 = some res) : Fcloud_firstError_2 [.list 2 [.int .i64 e0, .int .i64 e1]] = some res :=
  fn_of Ecloud_firstError_2_ok rfl rfl lo_nil ((tcloud_firstError_2_eq _ _ _).trans h)

/-! ### cloud_firstError_3 -/

def Ecloud_firstError_3 : List Entry := []
theorem Ecloud_firstError_3_ok : ∀ e ∈ Ecloud_firstError_3, EntOK env e := ent_nil
theorem Ucloud_firstError_3 : uniq ((blocksOf a62.body).map (·.1)) = true := by kernel_rfl
def tcloud_firstError_3 (_F : FnT)(e0 e1 e2 : Int) : Option (Int) :=
  bif (e0 != (0 : Int)) then
    some e0
  else bif (e1 != (0 : Int)) then
    some e1
  else bif (e2 != (0 : Int)) then
    some e2
  else some (0 : Int)
theorem tcloud_firstError_3_eq (F : FnT)(e0 e1 e2 : Int) : semF (callP F Ecloud_firstError_3 20) s62 (loopT []) 400 a62 [.list 3 [.int .i64 e0, .int .i64 e1, .int .i64 e2]] (fun rv => decR (RSh.one (CK.int IntKind.i64)) rv.pv) = tcloud_firstError_3 F e0 e1 e2 := by kernel_rfl
noncomputable abbrev Fcloud_firstError_3 (args : List PV) := Fn env 62 (RSh.one (CK.int IntKind.i64)) args
theorem Fcloud_firstError_3_of (e0 e1 e2 : Int) {res : (Int)} (h : tcloud_firstError_3 (Fn env) e0 e1 e2 = some res) : Fcloud_firstError_3 [.list 3 [.int .i64 e0, .int .i64 e1, .int .i64 e2]] = some res :=
  fn_of Ecloud_firstError_3_ok rfl rfl lo_nil ((tcloud_firstError_3_eq _ _ _ _).trans h)

/-! ### cloud_firstError_4 -/

def Ecloud_firstError_4 : List Entry := []
theorem Ecloud_firstError_4_ok : ∀ e ∈ Ecloud_firstError_4, EntOK env e := ent_nil
theorem Ucloud_firstError_4 : uniq ((blocksOf a62.body).map (·.1)) = true := by kernel_rfl
def tcloud_firstError_4 (_F : FnT)(e0 e1 e2 e3 : Int) : Option (Int) :=
  bif (e0 != (0 : Int)) then
    some e0
  else bif (e1 != (0 : Int)) then
    some e1
  else bif (e2 != (0 : Int)) then
    some e2
  else bif (e3 != (0 : Int)) then
    some e3
  else some (0 : Int)
theorem tcloud_firstError_4_eq (F : FnT)(e0 e1 e2 e3 : Int) : semF (callP F Ecloud_firstError_4 20) s62 (loopT []) 400 a62 [.list 4 [.int .i64 e0, .int .i64 e1, .int .i64 e2, .int .i64 e3]] (fun rv => decR (RSh.one (CK.int IntKind.i64)) rv.pv) = tcloud_firstError_4 F e0 e1 e2 e3 := by kernel_rfl
noncomputable abbrev Fcloud_firstError_4 (args : List PV) := Fn env 62 (RSh.one (CK.int IntKind.i64)) args
theorem Fcloud_firstError_4_of (e0 e1 e2 e3 : Int) {res : (Int)} (h : tcloud_firstError_4 (Fn env) e0 e1 e2 e3 = some res) : Fcloud_firstError_4 [.list 4 [.int .i64 e0, .int .i64 e1, .int .i64 e2, .int .i64 e3]] = some res :=
  fn_of Ecloud_firstError_4_ok rfl rfl lo_nil ((tcloud_firstError_4_eq _ _ _ _ _).trans h)

/-! ### cloud_signalError -/

def Ecloud_signalError : List Entry := [.out 69 (RSh.one (CK.int IntKind.i64)), .out 62 (RSh.one (CK.int IntKind.i64))]
theorem Ecloud_signalError_ok : ∀ e ∈ Ecloud_signalError, EntOK env e := (ent_out (ent_out ent_nil))
theorem Ucloud_signalError : uniq ((blocksOf a91.body).map (·.1)) = true := by kernel_rfl
def tcloud_signalError (F : FnT) (p0_0 : Int) (p0_1 : Int) : Option (Int) :=
  bindO (F 69 (RSh.one (CK.int IntKind.i64)) [(PV.int IntKind.i64 p0_0), (PV.int IntKind.i64 (0 : Int)), (PV.int IntKind.i64 (10000 : Int))]) fun (y0 : (Int)) =>
  bindO (F 69 (RSh.one (CK.int IntKind.i64)) [(PV.int IntKind.i64 p0_1), (PV.int IntKind.i64 (0 : Int)), (PV.int IntKind.i64 (1000 : Int))]) fun (y1 : (Int)) =>
  bindO (F 62 (RSh.one (CK.int IntKind.i64)) [(PV.list 2 [(PV.int IntKind.i64 y0), (PV.int IntKind.i64 y1)])]) fun (y2 : (Int)) =>
  some y2
theorem tcloud_signalError_eq (F : FnT) (p0_0 : Int) (p0_1 : Int) : semF (callP F Ecloud_signalError 20) s91 (loopT []) 400 a91 [PV.agg [PV.int IntKind.i64 p0_0, PV.int IntKind.i64 p0_1]] (fun rv => decR (RSh.one (CK.int IntKind.i64)) rv.pv) = tcloud_signalError F p0_0 p0_1 := by kernel_rfl
noncomputable abbrev Fcloud_signalError (args : List PV) := Fn env 91 (RSh.one (CK.int IntKind.i64)) args
theorem Fcloud_signalError_of  (p0_0 : Int) (p0_1 : Int) {res : (Int)} (h : tcloud_signalError (Fn env) p0_0 p0_1 = some res) : Fcloud_signalError [PV.agg [PV.int IntKind.i64 p0_0, PV.int IntKind.i64 p0_1]] = some res :=
  fn_of Ecloud_signalError_ok rfl rfl lo_nil ((tcloud_signalError_eq _ _ _).trans h)

/-! ### cloud_CheckClasses_1 -/

def Ecloud_CheckClasses_1 : List Entry := [.out 91 (RSh.one (CK.int IntKind.i64)), .out 71 (RSh.one (CK.int IntKind.i64)), .out 62 (RSh.one (CK.int IntKind.i64))]
theorem Ecloud_CheckClasses_1_ok : ∀ e ∈ Ecloud_CheckClasses_1, EntOK env e := (ent_out (ent_out (ent_out ent_nil)))
theorem Ucloud_CheckClasses_1 : uniq ((blocksOf a90.body).map (·.1)) = true := by kernel_rfl
def tcloud_CheckClasses_1 (F : FnT)(_n : Nat) (_cs : List PV) (a b c d : Int) : Option (Int) :=
  bindO (F 91 (RSh.one (CK.int IntKind.i64)) [(PV.agg [(PV.int IntKind.i64 a), (PV.int IntKind.i64 c)])]) fun (y0 : (Int)) =>
  bindO (F 91 (RSh.one (CK.int IntKind.i64)) [(PV.agg [(PV.int IntKind.i64 b), (PV.int IntKind.i64 d)])]) fun (y1 : (Int)) =>
  bif (decide (a > b)) then
    bindO (F 71 (RSh.one (CK.int IntKind.i64)) [(PV.bool true), (PV.int IntKind.i64 (9 : Int))]) fun (y2 : (Int)) =>
    bindO (F 62 (RSh.one (CK.int IntKind.i64)) [(PV.list 3 [(PV.int IntKind.i64 y0), (PV.int IntKind.i64 y1), (PV.int IntKind.i64 y2)])]) fun (y3 : (Int)) =>
    some y3
  else bif (decide (c > d)) then
    bindO (F 71 (RSh.one (CK.int IntKind.i64)) [(PV.bool true), (PV.int IntKind.i64 (9 : Int))]) fun (y4 : (Int)) =>
    bindO (F 62 (RSh.one (CK.int IntKind.i64)) [(PV.list 3 [(PV.int IntKind.i64 y0), (PV.int IntKind.i64 y1), (PV.int IntKind.i64 y4)])]) fun (y5 : (Int)) =>
    some y5
  else bindO (F 71 (RSh.one (CK.int IntKind.i64)) [(PV.bool false), (PV.int IntKind.i64 (9 : Int))]) fun (y6 : (Int)) =>
  bindO (F 62 (RSh.one (CK.int IntKind.i64)) [(PV.list 3 [(PV.int IntKind.i64 y0), (PV.int IntKind.i64 y1), (PV.int IntKind.i64 y6)])]) fun (y7 : (Int)) =>
  some y7
theorem tcloud_CheckClasses_1_eq (F : FnT)(n : Nat) (cs : List PV) (a b c d : Int) : semF (callP F Ecloud_CheckClasses_1 20) s90 (loopT []) 400 a90 [.list n cs, .agg [.int .i64 a, .int .i64 b, .int .i64 c, .int .i64 d]] (fun rv => decR (RSh.one (CK.int IntKind.i64)) rv.pv) = tcloud_CheckClasses_1 F n cs a b c d := by kernel_rfl
noncomputable abbrev Fcloud_CheckClasses_1 (args : List PV) := Fn env 90 (RSh.one (CK.int IntKind.i64)) args
theorem Fcloud_CheckClasses_1_of (n : Nat) (cs : List PV) (a b c d : Int) {res : (Int)} (h : tcloud_CheckClasses_1 (Fn env) n cs a b c d = some res) : Fcloud_CheckClasses_1 [.list n cs, .agg [.int .i64 a, .int .i64 b, .int .i64 c, .int .i64 d]] = some res :=
  fn_of Ecloud_CheckClasses_1_ok rfl rfl lo_nil ((tcloud_CheckClasses_1_eq _ _ _ _ _ _ _).trans h)

/-! ### cloud_itemError_classes -/

def Ecloud_itemError_classes : List Entry := [.out 90 (RSh.one (CK.int IntKind.i64))]
theorem Ecloud_itemError_classes_ok : ∀ e ∈ Ecloud_itemError_classes, EntOK env e := (ent_out ent_nil)
def Tcloud_itemError_classes_0a (n0 : Nat) (c1 : List PV) (n2 : Nat) (c3 : List PV) (i4 : Int) (i5 : Int) : Q := ⟨(tm 27 [(0, (AV.p (PV.list n0 c1))), (1, (AV.p (PV.fn 90 []))), (9, (AV.p (PV.list n2 c3))), (10, (AV.p (PV.int IntKind.i64 i4))), (11, (AV.p (PV.int IntKind.i64 i5)))]), (mm 27 [])⟩
def Xcloud_itemError_classes_0a (y : Int × Int) : Ext × Q := (Ext.ret, ⟨(tm 27 [(4, (AV.p (PV.int IntKind.i64 y.1))), (5, (AV.p (PV.int IntKind.i64 y.2)))]), (mm 27 [])⟩)
def Icloud_itemError_classes_0a (q : Ext × S) : Int × Int := ((pP_int1 (pA_p (avT q.2 4))), (pP_int1 (pA_p (avT q.2 5))))
def Xcloud_itemError_classes_0b (_y : Unit) : Ext × Q := (Ext.normal, ⟨(tm 27 []), (mm 27 [])⟩)
def Icloud_itemError_classes_0b (_q : Ext × S) : Unit := ()
abbrev Ycloud_itemError_classes_0 : Type := (Int × Int) ⊕ ((Unit))
def XLcloud_itemError_classes_0 : XL Ycloud_itemError_classes_0 := .more Xcloud_itemError_classes_0a (.one Xcloud_itemError_classes_0b)
def Icloud_itemError_classes_0 (q : Ext × S) : Ycloud_itemError_classes_0 := bif (cE q.1 == 2) then (Sum.inl (Icloud_itemError_classes_0a q)) else (Sum.inr (Icloud_itemError_classes_0b q))
theorem XIcloud_itemError_classes_0a (y : Int × Int) : Icloud_itemError_classes_0 (xe (Xcloud_itemError_classes_0a y)) = (Sum.inl y) := rfl
theorem XIcloud_itemError_classes_0b (y : Unit) : Icloud_itemError_classes_0 (xe (Xcloud_itemError_classes_0b y)) = (Sum.inr y) := rfl
theorem XIcloud_itemError_classes_0 (y : Ycloud_itemError_classes_0) : Icloud_itemError_classes_0 (xe (XLcloud_itemError_classes_0.fn y)) = y := (match y with | .inl y => XIcloud_itemError_classes_0a y | .inr y => XIcloud_itemError_classes_0b y)
noncomputable abbrev Lcloud_itemError_classes_0 : Q → Option Ycloud_itemError_classes_0 := lpO env a151.body 0 XLcloud_itemError_classes_0
noncomputable abbrev Rcloud_itemError_classes_0 : Q → Option (Ext × S) := lpR env a151.body 0
theorem Lcloud_itemError_classes_0a_of {s : Q} {y : Int × Int} (h : Rcloud_itemError_classes_0 s = exO (Xcloud_itemError_classes_0a y)) : Lcloud_itemError_classes_0 s = some (Sum.inl y) := lpO_of Icloud_itemError_classes_0 XIcloud_itemError_classes_0 (y := (Sum.inl y)) h
theorem Lcloud_itemError_classes_0b_of {s : Q} {y : Unit} (h : Rcloud_itemError_classes_0 s = exO (Xcloud_itemError_classes_0b y)) : Lcloud_itemError_classes_0 s = some (Sum.inr y) := lpO_of Icloud_itemError_classes_0 XIcloud_itemError_classes_0 (y := (Sum.inr y)) h
theorem Ucloud_itemError_classes : uniq ((blocksOf a151.body).map (·.1)) = true := by kernel_rfl
def Bcloud_itemError_classes_0a (F : FnT) (N : Q → Option (Ext × S)) (E : Ext × Q → Option (Ext × S)) (_L0 : Q → Option Ycloud_itemError_classes_0) (n0 : Nat) (c1 : List PV) (n2 : Nat) (c3 : List PV) (i4 : Int) (i5 : Int) : Option (Ext × S) :=
  bif (decide (i5 < i4)) then
    bif (decide (((0 : Int) ≤ i5) ∧ (i5 < (n2 : Int)))) then
      bindO (intC IntKind.i64 (c3[((Int.toNat i5) * 4)]?)) fun x0 =>
      bindO (intC IntKind.i64 (c3[(((Int.toNat i5) * 4) + 1)]?)) fun x1 =>
      bindO (intC IntKind.i64 (c3[((((Int.toNat i5) * 4) + 1) + 1)]?)) fun x2 =>
      bindO (intC IntKind.i64 (c3[(((((Int.toNat i5) * 4) + 1) + 1) + 1)]?)) fun x3 =>
      bif (decide (((0 : Int) ≤ i5) ∧ (i5 ≤ ((Prod.mk n0 c1).1 : Int)))) then
        bif (decide ((0 = (Int.toNat i5)) ∨ (((0 * 4) + (((Int.toNat i5) - 0) * 4)) ≤ (List.length c1)))) then
          bindO (F 90 (RSh.one (CK.int IntKind.i64)) [(PV.list ((Int.toNat i5) - 0) (List.take (((Int.toNat i5) - 0) * 4) (List.drop 0 c1))), (PV.agg [(PV.int IntKind.i64 x0), (PV.int IntKind.i64 x1), (PV.int IntKind.i64 x2), (PV.int IntKind.i64 x3)])]) fun (y4 : (Int)) =>
          bif (y4 != (0 : Int)) then
            E (Xcloud_itemError_classes_0a (i5, y4))
          else N (Tcloud_itemError_classes_0a n0 c1 n2 c3 i4 (w64 (i5 + (1 : Int))))
        else none
      else none
    else none
  else E (Xcloud_itemError_classes_0b ())
theorem Bcloud_itemError_classes_0a_eq (F : FnT) (N : Q → Option (Ext × S)) (E : Ext × Q → Option (Ext × S)) (L0 : Q → Option Ycloud_itemError_classes_0) (n0 : Nat) (c1 : List PV) (n2 : Nat) (c3 : List PV) (i4 : Int) (i5 : Int) : semB (callP F Ecloud_itemError_classes 20) s151 (loopT [⟨0, Ycloud_itemError_classes_0, L0, XLcloud_itemError_classes_0⟩]) 400 (blkIn a151.body 0) N E (Tcloud_itemError_classes_0a n0 c1 n2 c3 i4 i5) = Bcloud_itemError_classes_0a F N E L0 n0 c1 n2 c3 i4 i5 := by kernel_rfl
theorem Rcloud_itemError_classes_0a_of  (n0 : Nat) (c1 : List PV) (n2 : Nat) (c3 : List PV) (i4 : Int) (i5 : Int) {r : Ext × S} (h : Bcloud_itemError_classes_0a (Fn env) Rcloud_itemError_classes_0 exO Lcloud_itemError_classes_0 n0 c1 n2 c3 i4 i5 = some r) : Rcloud_itemError_classes_0 (Tcloud_itemError_classes_0a n0 c1 n2 c3 i4 i5) = some r :=
  lp_of Ecloud_itemError_classes_ok (by kernel_rfl) (lo_cons (lpO_ok Ucloud_itemError_classes) lo_nil) (by kernel_rfl) ((Bcloud_itemError_classes_0a_eq _ _ _ _ _ _ _ _ _ _).trans h)
def tcloud_itemError_classes (_F : FnT) (L0 : Q → Option Ycloud_itemError_classes_0)(n : Nat) (cs : List PV) : Option ((Int) × (Int)) :=
  bindO (L0 (Tcloud_itemError_classes_0a n cs n cs (n : Int) (0 : Int))) fun z =>
  Sum.elim (fun y0 =>
    some (y0.1, y0.2)) (fun _y1 =>
    some ((0 : Int), (0 : Int))) z
theorem tcloud_itemError_classes_eq (F : FnT) (L0 : Q → Option Ycloud_itemError_classes_0)(n : Nat) (cs : List PV) : semF (callP F Ecloud_itemError_classes 20) s151 (loopT [⟨0, Ycloud_itemError_classes_0, L0, XLcloud_itemError_classes_0⟩]) 400 a151 [.list n cs, .fn 90 []] (fun rv => decR (RSh.tup [(Prod.mk false [(CK.int IntKind.i64)]), (Prod.mk false [(CK.int IntKind.i64)])]) rv.pv) = tcloud_itemError_classes F L0 n cs := by kernel_rfl
noncomputable abbrev Fcloud_itemError_classes (args : List PV) := Fn env 151 (RSh.tup [(Prod.mk false [(CK.int IntKind.i64)]), (Prod.mk false [(CK.int IntKind.i64)])]) args
theorem Fcloud_itemError_classes_of (n : Nat) (cs : List PV) {res : ((Int) × (Int))} (h : tcloud_itemError_classes (Fn env) Lcloud_itemError_classes_0 n cs = some res) : Fcloud_itemError_classes [.list n cs, .fn 90 []] = some res :=
  fn_of Ecloud_itemError_classes_ok rfl rfl (lo_cons (lpO_ok Ucloud_itemError_classes) lo_nil) ((tcloud_itemError_classes_eq _ _ _ _).trans h)

/-! ### cloud_listError_classes -/

def Ecloud_listError_classes : List Entry := [.out 151 (RSh.tup [(Prod.mk false [(CK.int IntKind.i64)]), (Prod.mk false [(CK.int IntKind.i64)])])]
theorem Ecloud_listError_classes_ok : ∀ e ∈ Ecloud_listError_classes, EntOK env e := (ent_out ent_nil)
theorem Ucloud_listError_classes : uniq ((blocksOf a126.body).map (·.1)) = true := by kernel_rfl
def tcloud_listError_classes (F : FnT)(n : Nat) (cs : List PV) (m : Int) : Option ((Int) × (Int)) :=
  bif (decide ((n : Int) > m)) then
    some ((0 : Int), (8 : Int))
  else bindO (F 151 (RSh.tup [(Prod.mk false [(CK.int IntKind.i64)]), (Prod.mk false [(CK.int IntKind.i64)])]) [(PV.list n cs), (PV.fn 90 [])]) fun (y0 : ((Int) × (Int))) =>
  some (y0.1, y0.2)
theorem tcloud_listError_classes_eq (F : FnT)(n : Nat) (cs : List PV) (m : Int) : semF (callP F Ecloud_listError_classes 20) s126 (loopT []) 400 a126 [.list n cs, .int .i64 m, .fn 90 []] (fun rv => decR (RSh.tup [(Prod.mk false [(CK.int IntKind.i64)]), (Prod.mk false [(CK.int IntKind.i64)])]) rv.pv) = tcloud_listError_classes F n cs m := by kernel_rfl
noncomputable abbrev Fcloud_listError_classes (args : List PV) := Fn env 126 (RSh.tup [(Prod.mk false [(CK.int IntKind.i64)]), (Prod.mk false [(CK.int IntKind.i64)])]) args
theorem Fcloud_listError_classes_of (n : Nat) (cs : List PV) (m : Int) {res : ((Int) × (Int))} (h : tcloud_listError_classes (Fn env) n cs m = some res) : Fcloud_listError_classes [.list n cs, .int .i64 m, .fn 90 []] = some res :=
  fn_of Ecloud_listError_classes_ok rfl rfl lo_nil ((tcloud_listError_classes_eq _ _ _ _).trans h)

/-! ### cloud_filledError_classes -/

def Ecloud_filledError_classes : List Entry := [.out 126 (RSh.tup [(Prod.mk false [(CK.int IntKind.i64)]), (Prod.mk false [(CK.int IntKind.i64)])])]
theorem Ecloud_filledError_classes_ok : ∀ e ∈ Ecloud_filledError_classes, EntOK env e := (ent_out ent_nil)
theorem Ucloud_filledError_classes : uniq ((blocksOf a89.body).map (·.1)) = true := by kernel_rfl
def tcloud_filledError_classes (F : FnT)(n : Nat) (cs : List PV) (m : Int) : Option ((Int) × (Int)) :=
  bif ((n : Int) == (0 : Int)) then
    some ((0 : Int), (10 : Int))
  else bindO (F 126 (RSh.tup [(Prod.mk false [(CK.int IntKind.i64)]), (Prod.mk false [(CK.int IntKind.i64)])]) [(PV.list n cs), (PV.int IntKind.i64 m), (PV.fn 90 [])]) fun (y0 : ((Int) × (Int))) =>
  some (y0.1, y0.2)
theorem tcloud_filledError_classes_eq (F : FnT)(n : Nat) (cs : List PV) (m : Int) : semF (callP F Ecloud_filledError_classes 20) s89 (loopT []) 400 a89 [.list n cs, .int .i64 m, .fn 90 []] (fun rv => decR (RSh.tup [(Prod.mk false [(CK.int IntKind.i64)]), (Prod.mk false [(CK.int IntKind.i64)])]) rv.pv) = tcloud_filledError_classes F n cs m := by kernel_rfl
noncomputable abbrev Fcloud_filledError_classes (args : List PV) := Fn env 89 (RSh.tup [(Prod.mk false [(CK.int IntKind.i64)]), (Prod.mk false [(CK.int IntKind.i64)])]) args
theorem Fcloud_filledError_classes_of (n : Nat) (cs : List PV) (m : Int) {res : ((Int) × (Int))} (h : tcloud_filledError_classes (Fn env) n cs m = some res) : Fcloud_filledError_classes [.list n cs, .int .i64 m, .fn 90 []] = some res :=
  fn_of Ecloud_filledError_classes_ok rfl rfl lo_nil ((tcloud_filledError_classes_eq _ _ _ _).trans h)

/-! ### cloud_CheckClasses -/

def Ecloud_CheckClasses : List Entry := [.out 89 (RSh.tup [(Prod.mk false [(CK.int IntKind.i64)]), (Prod.mk false [(CK.int IntKind.i64)])])]
theorem Ecloud_CheckClasses_ok : ∀ e ∈ Ecloud_CheckClasses, EntOK env e := (ent_out ent_nil)
theorem Ucloud_CheckClasses : uniq ((blocksOf a45.body).map (·.1)) = true := by kernel_rfl
def tcloud_CheckClasses (F : FnT) (p0n : Nat) (p0c : List PV) : Option ((Int) × (Int)) :=
  bindO (F 89 (RSh.tup [(Prod.mk false [(CK.int IntKind.i64)]), (Prod.mk false [(CK.int IntKind.i64)])]) [(PV.list p0n p0c), (PV.int IntKind.i64 (10 : Int)), (PV.fn 90 [])]) fun (y0 : ((Int) × (Int))) =>
  some (y0.1, y0.2)
theorem tcloud_CheckClasses_eq (F : FnT) (p0n : Nat) (p0c : List PV) : semF (callP F Ecloud_CheckClasses 20) s45 (loopT []) 400 a45 [PV.list p0n p0c] (fun rv => decR (RSh.tup [(Prod.mk false [(CK.int IntKind.i64)]), (Prod.mk false [(CK.int IntKind.i64)])]) rv.pv) = tcloud_CheckClasses F p0n p0c := by kernel_rfl
noncomputable abbrev Fcloud_CheckClasses (args : List PV) := Fn env 45 (RSh.tup [(Prod.mk false [(CK.int IntKind.i64)]), (Prod.mk false [(CK.int IntKind.i64)])]) args
theorem Fcloud_CheckClasses_of  (p0n : Nat) (p0c : List PV) {res : ((Int) × (Int))} (h : tcloud_CheckClasses (Fn env) p0n p0c = some res) : Fcloud_CheckClasses [PV.list p0n p0c] = some res :=
  fn_of Ecloud_CheckClasses_ok rfl rfl lo_nil ((tcloud_CheckClasses_eq _ _ _).trans h)

/-! ### cloud_classesError -/

def Ecloud_classesError : List Entry := [.out 45 (RSh.tup [(Prod.mk false [(CK.int IntKind.i64)]), (Prod.mk false [(CK.int IntKind.i64)])])]
theorem Ecloud_classesError_ok : ∀ e ∈ Ecloud_classesError, EntOK env e := (ent_out ent_nil)
theorem Ucloud_classesError : uniq ((blocksOf a92.body).map (·.1)) = true := by kernel_rfl
def tcloud_classesError (F : FnT) (p0n : Nat) (p0c : List PV) : Option (Int) :=
  bindO (F 45 (RSh.tup [(Prod.mk false [(CK.int IntKind.i64)]), (Prod.mk false [(CK.int IntKind.i64)])]) [(PV.list p0n p0c)]) fun (y0 : ((Int) × (Int))) =>
  some y0.2
theorem tcloud_classesError_eq (F : FnT) (p0n : Nat) (p0c : List PV) : semF (callP F Ecloud_classesError 20) s92 (loopT []) 400 a92 [PV.list p0n p0c] (fun rv => decR (RSh.one (CK.int IntKind.i64)) rv.pv) = tcloud_classesError F p0n p0c := by kernel_rfl
noncomputable abbrev Fcloud_classesError (args : List PV) := Fn env 92 (RSh.one (CK.int IntKind.i64)) args
theorem Fcloud_classesError_of  (p0n : Nat) (p0c : List PV) {res : (Int)} (h : tcloud_classesError (Fn env) p0n p0c = some res) : Fcloud_classesError [PV.list p0n p0c] = some res :=
  fn_of Ecloud_classesError_ok rfl rfl lo_nil ((tcloud_classesError_eq _ _ _).trans h)

/-! ### cloud_isIn -/

def Ecloud_isIn : List Entry := []
theorem Ecloud_isIn_ok : ∀ e ∈ Ecloud_isIn, EntOK env e := ent_nil
theorem Ucloud_isIn : uniq ((blocksOf a129.body).map (·.1)) = true := by kernel_rfl
def tcloud_isIn (_F : FnT) (p0_0 : Int) (p0_1 : Int) (p1 : Int) : Option (Bool) :=
  bif (decide (p1 ≥ p0_0)) then
    bif (decide (p1 ≤ p0_1)) then
      some true
    else some false
  else some false
theorem tcloud_isIn_eq (F : FnT) (p0_0 : Int) (p0_1 : Int) (p1 : Int) : semF (callP F Ecloud_isIn 20) s129 (loopT []) 400 a129 [PV.agg [PV.int IntKind.i64 p0_0, PV.int IntKind.i64 p0_1], PV.int IntKind.i64 p1] (fun rv => decR (RSh.one CK.bool) rv.pv) = tcloud_isIn F p0_0 p0_1 p1 := by kernel_rfl
noncomputable abbrev Fcloud_isIn (args : List PV) := Fn env 129 (RSh.one CK.bool) args
theorem Fcloud_isIn_of  (p0_0 : Int) (p0_1 : Int) (p1 : Int) {res : (Bool)} (h : tcloud_isIn (Fn env) p0_0 p0_1 p1 = some res) : Fcloud_isIn [PV.agg [PV.int IntKind.i64 p0_0, PV.int IntKind.i64 p0_1], PV.int IntKind.i64 p1] = some res :=
  fn_of Ecloud_isIn_ok rfl rfl lo_nil ((tcloud_isIn_eq _ _ _ _).trans h)

/-! ### cloud_classOf_1 -/

def Ecloud_classOf_1 : List Entry := [.out 129 (RSh.one CK.bool)]
theorem Ecloud_classOf_1_ok : ∀ e ∈ Ecloud_classOf_1, EntOK env e := (ent_out ent_nil)
theorem Ucloud_classOf_1 : uniq ((blocksOf a128.body).map (·.1)) = true := by kernel_rfl
def tcloud_classOf_1 (F : FnT)(a b c d x y : Int) : Option (Bool) :=
  bindO (F 129 (RSh.one CK.bool) [(PV.agg [(PV.int IntKind.i64 a), (PV.int IntKind.i64 b)]), (PV.int IntKind.i64 x)]) fun (y0 : (Bool)) =>
  bif y0 then
    bindO (F 129 (RSh.one CK.bool) [(PV.agg [(PV.int IntKind.i64 c), (PV.int IntKind.i64 d)]), (PV.int IntKind.i64 y)]) fun (y1 : (Bool)) =>
    bif y1 then
      some true
    else some false
  else some false
theorem tcloud_classOf_1_eq (F : FnT)(a b c d x y : Int) : semF (callP F Ecloud_classOf_1 20) s128 (loopT []) 400 a128 [.agg [.int .i64 a, .int .i64 b, .int .i64 c, .int .i64 d], .imm [.int .i64 x, .int .i64 y] 0] (fun rv => decR (RSh.one CK.bool) rv.pv) = tcloud_classOf_1 F a b c d x y := by kernel_rfl
noncomputable abbrev Fcloud_classOf_1 (args : List PV) := Fn env 128 (RSh.one CK.bool) args
theorem Fcloud_classOf_1_of (a b c d x y : Int) {res : (Bool)} (h : tcloud_classOf_1 (Fn env) a b c d x y = some res) : Fcloud_classOf_1 [.agg [.int .i64 a, .int .i64 b, .int .i64 c, .int .i64 d], .imm [.int .i64 x, .int .i64 y] 0] = some res :=
  fn_of Ecloud_classOf_1_ok rfl rfl lo_nil ((tcloud_classOf_1_eq _ _ _ _ _ _ _).trans h)

/-! ### slices_IndexFunc_classes -/

def Eslices_IndexFunc_classes : List Entry := [.out 128 (RSh.one CK.bool)]
theorem Eslices_IndexFunc_classes_ok : ∀ e ∈ Eslices_IndexFunc_classes, EntOK env e := (ent_out ent_nil)
def Tslices_IndexFunc_classes_0a (n0 : Nat) (c1 : List PV) (i2 : Int) (i3 : Int) (i4 : Int) (i5 : Int) : Q := ⟨(tm 19 [(0, (AV.p (PV.list n0 c1))), (1, (AV.p (PV.fn 128 [(PV.imm [(PV.int IntKind.i64 i2), (PV.int IntKind.i64 i3)] 0)]))), (7, (AV.p (PV.int IntKind.i64 i4))), (8, (AV.p (PV.int IntKind.i64 i5)))]), (mm 19 [])⟩
def Xslices_IndexFunc_classes_0a (y : Int) : Ext × Q := (Ext.ret, ⟨(tm 19 [(4, (AV.p (PV.int IntKind.i64 y)))]), (mm 19 [])⟩)
def Islices_IndexFunc_classes_0a (q : Ext × S) : Int := (pP_int1 (pA_p (avT q.2 4)))
def Xslices_IndexFunc_classes_0b (_y : Unit) : Ext × Q := (Ext.normal, ⟨(tm 19 []), (mm 19 [])⟩)
def Islices_IndexFunc_classes_0b (_q : Ext × S) : Unit := ()
abbrev Yslices_IndexFunc_classes_0 : Type := (Int) ⊕ ((Unit))
def XLslices_IndexFunc_classes_0 : XL Yslices_IndexFunc_classes_0 := .more Xslices_IndexFunc_classes_0a (.one Xslices_IndexFunc_classes_0b)
def Islices_IndexFunc_classes_0 (q : Ext × S) : Yslices_IndexFunc_classes_0 := bif (cE q.1 == 2) then (Sum.inl (Islices_IndexFunc_classes_0a q)) else (Sum.inr (Islices_IndexFunc_classes_0b q))
theorem XIslices_IndexFunc_classes_0a (y : Int) : Islices_IndexFunc_classes_0 (xe (Xslices_IndexFunc_classes_0a y)) = (Sum.inl y) := rfl
theorem XIslices_IndexFunc_classes_0b (y : Unit) : Islices_IndexFunc_classes_0 (xe (Xslices_IndexFunc_classes_0b y)) = (Sum.inr y) := rfl
theorem XIslices_IndexFunc_classes_0 (y : Yslices_IndexFunc_classes_0) : Islices_IndexFunc_classes_0 (xe (XLslices_IndexFunc_classes_0.fn y)) = y := (match y with | .inl y => XIslices_IndexFunc_classes_0a y | .inr y => XIslices_IndexFunc_classes_0b y)
noncomputable abbrev Lslices_IndexFunc_classes_0 : Q → Option Yslices_IndexFunc_classes_0 := lpO env a127.body 0 XLslices_IndexFunc_classes_0
noncomputable abbrev Rslices_IndexFunc_classes_0 : Q → Option (Ext × S) := lpR env a127.body 0
theorem Lslices_IndexFunc_classes_0a_of {s : Q} {y : Int} (h : Rslices_IndexFunc_classes_0 s = exO (Xslices_IndexFunc_classes_0a y)) : Lslices_IndexFunc_classes_0 s = some (Sum.inl y) := lpO_of Islices_IndexFunc_classes_0 XIslices_IndexFunc_classes_0 (y := (Sum.inl y)) h
theorem Lslices_IndexFunc_classes_0b_of {s : Q} {y : Unit} (h : Rslices_IndexFunc_classes_0 s = exO (Xslices_IndexFunc_classes_0b y)) : Lslices_IndexFunc_classes_0 s = some (Sum.inr y) := lpO_of Islices_IndexFunc_classes_0 XIslices_IndexFunc_classes_0 (y := (Sum.inr y)) h
theorem Uslices_IndexFunc_classes : uniq ((blocksOf a127.body).map (·.1)) = true := by kernel_rfl
def Bslices_IndexFunc_classes_0a (F : FnT) (N : Q → Option (Ext × S)) (E : Ext × Q → Option (Ext × S)) (_L0 : Q → Option Yslices_IndexFunc_classes_0) (n0 : Nat) (c1 : List PV) (i2 : Int) (i3 : Int) (i4 : Int) (i5 : Int) : Option (Ext × S) :=
  bif (decide (i5 < i4)) then
    bif (decide (((0 : Int) ≤ i5) ∧ (i5 < (n0 : Int)))) then
      bindO (intC IntKind.i64 (c1[((Int.toNat i5) * 4)]?)) fun x0 =>
      bindO (intC IntKind.i64 (c1[(((Int.toNat i5) * 4) + 1)]?)) fun x1 =>
      bindO (intC IntKind.i64 (c1[((((Int.toNat i5) * 4) + 1) + 1)]?)) fun x2 =>
      bindO (intC IntKind.i64 (c1[(((((Int.toNat i5) * 4) + 1) + 1) + 1)]?)) fun x3 =>
      bindO (F 128 (RSh.one CK.bool) [(PV.agg [(PV.int IntKind.i64 x0), (PV.int IntKind.i64 x1), (PV.int IntKind.i64 x2), (PV.int IntKind.i64 x3)]), (PV.imm [(PV.int IntKind.i64 i2), (PV.int IntKind.i64 i3)] 0)]) fun (y4 : (Bool)) =>
      bif y4 then
        E (Xslices_IndexFunc_classes_0a i5)
      else N (Tslices_IndexFunc_classes_0a n0 c1 i2 i3 i4 (w64 (i5 + (1 : Int))))
    else none
  else E (Xslices_IndexFunc_classes_0b ())
theorem Bslices_IndexFunc_classes_0a_eq (F : FnT) (N : Q → Option (Ext × S)) (E : Ext × Q → Option (Ext × S)) (L0 : Q → Option Yslices_IndexFunc_classes_0) (n0 : Nat) (c1 : List PV) (i2 : Int) (i3 : Int) (i4 : Int) (i5 : Int) : semB (callP F Eslices_IndexFunc_classes 20) s127 (loopT [⟨0, Yslices_IndexFunc_classes_0, L0, XLslices_IndexFunc_classes_0⟩]) 400 (blkIn a127.body 0) N E (Tslices_IndexFunc_classes_0a n0 c1 i2 i3 i4 i5) = Bslices_IndexFunc_classes_0a F N E L0 n0 c1 i2 i3 i4 i5 := by kernel_rfl
theorem Rslices_IndexFunc_classes_0a_of  (n0 : Nat) (c1 : List PV) (i2 : Int) (i3 : Int) (i4 : Int) (i5 : Int) {r : Ext × S} (h : Bslices_IndexFunc_classes_0a (Fn env) Rslices_IndexFunc_classes_0 exO Lslices_IndexFunc_classes_0 n0 c1 i2 i3 i4 i5 = some r) : Rslices_IndexFunc_classes_0 (Tslices_IndexFunc_classes_0a n0 c1 i2 i3 i4 i5) = some r :=
  lp_of Eslices_IndexFunc_classes_ok (by kernel_rfl) (lo_cons (lpO_ok Uslices_IndexFunc_classes) lo_nil) (by kernel_rfl) ((Bslices_IndexFunc_classes_0a_eq _ _ _ _ _ _ _ _ _ _).trans h)
def tslices_IndexFunc_classes (_F : FnT) (L0 : Q → Option Yslices_IndexFunc_classes_0)(n : Nat) (cs : List PV) (x y : Int) : Option (Int) :=
  bindO (L0 (Tslices_IndexFunc_classes_0a n cs x y (n : Int) (0 : Int))) fun z =>
  Sum.elim (fun y0 =>
    some y0) (fun _y1 =>
    some (-1 : Int)) z
theorem tslices_IndexFunc_classes_eq (F : FnT) (L0 : Q → Option Yslices_IndexFunc_classes_0)(n : Nat) (cs : List PV) (x y : Int) : semF (callP F Eslices_IndexFunc_classes 20) s127 (loopT [⟨0, Yslices_IndexFunc_classes_0, L0, XLslices_IndexFunc_classes_0⟩]) 400 a127 [.list n cs, .fn 128 [.imm [.int .i64 x, .int .i64 y] 0]] (fun rv => decR (RSh.one (CK.int IntKind.i64)) rv.pv) = tslices_IndexFunc_classes F L0 n cs x y := by kernel_rfl
noncomputable abbrev Fslices_IndexFunc_classes (args : List PV) := Fn env 127 (RSh.one (CK.int IntKind.i64)) args
theorem Fslices_IndexFunc_classes_of (n : Nat) (cs : List PV) (x y : Int) {res : (Int)} (h : tslices_IndexFunc_classes (Fn env) Lslices_IndexFunc_classes_0 n cs x y = some res) : Fslices_IndexFunc_classes [.list n cs, .fn 128 [.imm [.int .i64 x, .int .i64 y] 0]] = some res :=
  fn_of Eslices_IndexFunc_classes_ok rfl rfl (lo_cons (lpO_ok Uslices_IndexFunc_classes) lo_nil) ((tslices_IndexFunc_classes_eq _ _ _ _ _ _).trans h)

/-! ### cloud_classOf -/

def Ecloud_classOf : List Entry := [.out 127 (RSh.one (CK.int IntKind.i64))]
theorem Ecloud_classOf_ok : ∀ e ∈ Ecloud_classOf, EntOK env e := (ent_out ent_nil)
theorem Ucloud_classOf : uniq ((blocksOf a93.body).map (·.1)) = true := by kernel_rfl
def tcloud_classOf (F : FnT) (p0n : Nat) (p0c : List PV) (p1_0 : Int) (p1_1 : Int) : Option (Int) :=
  bindO (F 127 (RSh.one (CK.int IntKind.i64)) [(PV.list p0n p0c), (PV.fn 128 [(PV.imm [(PV.int IntKind.i64 p1_0), (PV.int IntKind.i64 p1_1)] 0)])]) fun (y0 : (Int)) =>
  some y0
theorem tcloud_classOf_eq (F : FnT) (p0n : Nat) (p0c : List PV) (p1_0 : Int) (p1_1 : Int) : semF (callP F Ecloud_classOf 20) s93 (loopT []) 400 a93 [PV.list p0n p0c, PV.agg [PV.int IntKind.i64 p1_0, PV.int IntKind.i64 p1_1]] (fun rv => decR (RSh.one (CK.int IntKind.i64)) rv.pv) = tcloud_classOf F p0n p0c p1_0 p1_1 := by kernel_rfl
noncomputable abbrev Fcloud_classOf (args : List PV) := Fn env 93 (RSh.one (CK.int IntKind.i64)) args
theorem Fcloud_classOf_of  (p0n : Nat) (p0c : List PV) (p1_0 : Int) (p1_1 : Int) {res : (Int)} (h : tcloud_classOf (Fn env) p0n p0c p1_0 p1_1 = some res) : Fcloud_classOf [PV.list p0n p0c, PV.agg [PV.int IntKind.i64 p1_0, PV.int IntKind.i64 p1_1]] = some res :=
  fn_of Ecloud_classOf_ok rfl rfl lo_nil ((tcloud_classOf_eq _ _ _ _ _).trans h)

/-! ### cloud_ClassOf -/

def Ecloud_ClassOf : List Entry := [.out 92 (RSh.one (CK.int IntKind.i64)), .out 91 (RSh.one (CK.int IntKind.i64)), .out 62 (RSh.one (CK.int IntKind.i64)), .out 93 (RSh.one (CK.int IntKind.i64))]
theorem Ecloud_ClassOf_ok : ∀ e ∈ Ecloud_ClassOf, EntOK env e := (ent_out (ent_out (ent_out (ent_out ent_nil))))
theorem Ucloud_ClassOf : uniq ((blocksOf a47.body).map (·.1)) = true := by kernel_rfl
def tcloud_ClassOf (F : FnT) (p0n : Nat) (p0c : List PV) (p1_0 : Int) (p1_1 : Int) : Option ((Int) × (Int)) :=
  bindO (F 92 (RSh.one (CK.int IntKind.i64)) [(PV.list p0n p0c)]) fun (y0 : (Int)) =>
  bindO (F 91 (RSh.one (CK.int IntKind.i64)) [(PV.agg [(PV.int IntKind.i64 p1_0), (PV.int IntKind.i64 p1_1)])]) fun (y1 : (Int)) =>
  bindO (F 62 (RSh.one (CK.int IntKind.i64)) [(PV.list 2 [(PV.int IntKind.i64 y0), (PV.int IntKind.i64 y1)])]) fun (y2 : (Int)) =>
  bif (y2 != (0 : Int)) then
    some ((0 : Int), y2)
  else bindO (F 93 (RSh.one (CK.int IntKind.i64)) [(PV.list p0n p0c), (PV.agg [(PV.int IntKind.i64 p1_0), (PV.int IntKind.i64 p1_1)])]) fun (y3 : (Int)) =>
  bif (decide (y3 < (0 : Int))) then
    some ((0 : Int), (12 : Int))
  else some (y3, (0 : Int))
theorem tcloud_ClassOf_eq (F : FnT) (p0n : Nat) (p0c : List PV) (p1_0 : Int) (p1_1 : Int) : semF (callP F Ecloud_ClassOf 20) s47 (loopT []) 400 a47 [PV.list p0n p0c, PV.agg [PV.int IntKind.i64 p1_0, PV.int IntKind.i64 p1_1]] (fun rv => decR (RSh.tup [(Prod.mk false [(CK.int IntKind.i64)]), (Prod.mk false [(CK.int IntKind.i64)])]) rv.pv) = tcloud_ClassOf F p0n p0c p1_0 p1_1 := by kernel_rfl
noncomputable abbrev Fcloud_ClassOf (args : List PV) := Fn env 47 (RSh.tup [(Prod.mk false [(CK.int IntKind.i64)]), (Prod.mk false [(CK.int IntKind.i64)])]) args
theorem Fcloud_ClassOf_of  (p0n : Nat) (p0c : List PV) (p1_0 : Int) (p1_1 : Int) {res : ((Int) × (Int))} (h : tcloud_ClassOf (Fn env) p0n p0c p1_0 p1_1 = some res) : Fcloud_ClassOf [PV.list p0n p0c, PV.agg [PV.int IntKind.i64 p1_0, PV.int IntKind.i64 p1_1]] = some res :=
  fn_of Ecloud_ClassOf_ok rfl rfl lo_nil ((tcloud_ClassOf_eq _ _ _ _ _).trans h)

/-! ### cloud_isSure -/

def Ecloud_isSure : List Entry := [.out 93 (RSh.one (CK.int IntKind.i64))]
theorem Ecloud_isSure_ok : ∀ e ∈ Ecloud_isSure, EntOK env e := (ent_out ent_nil)
def Tcloud_isSure_0a (n0 : Nat) (c1 : List PV) (i2 : Int) (i3 : Int) (i4 : Int) (i5 : Int) (i6 : Int) (i7 : Int) : Q := ⟨(tm 46 [(0, (AV.p (PV.list n0 c1))), (2, (AV.p (PV.int IntKind.i64 i2))), (4, (AV.loc 4 0)), (7, (AV.p (PV.int IntKind.i64 i3))), (16, (AV.p (PV.int IntKind.i64 i4))), (17, (AV.p (PV.int IntKind.i64 i5)))]), (mm 46 [(4, (Bk.pcs true [(PV.int IntKind.i64 i6), (PV.int IntKind.i64 i7)]))])⟩
def Xcloud_isSure_0a (y : Int × Int) : Ext × Q := (Ext.normal, ⟨(tm 46 []), (mm 46 [(4, (Bk.pcs true [(PV.int IntKind.i64 y.1), (PV.int IntKind.i64 y.2)]))])⟩)
def Icloud_isSure_0a (q : Ext × S) : Int × Int := ((pP_int1 (hdP (pB_pcs1 (avM q.2 4)))), (pP_int1 (hdP (List.tail (pB_pcs1 (avM q.2 4))))))
def Xcloud_isSure_0b (_y : Unit) : Ext × Q := (Ext.ret, ⟨(tm 46 [(6, (AV.p (PV.bool false)))]), (mm 46 [])⟩)
def Icloud_isSure_0b (_q : Ext × S) : Unit := ()
abbrev Ycloud_isSure_0 : Type := (Int × Int) ⊕ ((Unit))
def XLcloud_isSure_0 : XL Ycloud_isSure_0 := .more Xcloud_isSure_0a (.one Xcloud_isSure_0b)
def Icloud_isSure_0 (q : Ext × S) : Ycloud_isSure_0 := bif (cE q.1 == 0) then (Sum.inl (Icloud_isSure_0a q)) else (Sum.inr (Icloud_isSure_0b q))
theorem XIcloud_isSure_0a (y : Int × Int) : Icloud_isSure_0 (xe (Xcloud_isSure_0a y)) = (Sum.inl y) := rfl
theorem XIcloud_isSure_0b (y : Unit) : Icloud_isSure_0 (xe (Xcloud_isSure_0b y)) = (Sum.inr y) := rfl
theorem XIcloud_isSure_0 (y : Ycloud_isSure_0) : Icloud_isSure_0 (xe (XLcloud_isSure_0.fn y)) = y := (match y with | .inl y => XIcloud_isSure_0a y | .inr y => XIcloud_isSure_0b y)
noncomputable abbrev Lcloud_isSure_0 : Q → Option Ycloud_isSure_0 := lpO env a94.body 0 XLcloud_isSure_0
noncomputable abbrev Rcloud_isSure_0 : Q → Option (Ext × S) := lpR env a94.body 0
theorem Lcloud_isSure_0a_of {s : Q} {y : Int × Int} (h : Rcloud_isSure_0 s = exO (Xcloud_isSure_0a y)) : Lcloud_isSure_0 s = some (Sum.inl y) := lpO_of Icloud_isSure_0 XIcloud_isSure_0 (y := (Sum.inl y)) h
theorem Lcloud_isSure_0b_of {s : Q} {y : Unit} (h : Rcloud_isSure_0 s = exO (Xcloud_isSure_0b y)) : Lcloud_isSure_0 s = some (Sum.inr y) := lpO_of Icloud_isSure_0 XIcloud_isSure_0 (y := (Sum.inr y)) h
def Tcloud_isSure_2a (n0 : Nat) (c1 : List PV) (i2 : Int) (i3 : Int) (i4 : Int) (i5 : Int) (i6 : Int) (i7 : Int) (i8 : Int) (i9 : Int) (i10 : Int) : Q := ⟨(tm 46 [(0, (AV.p (PV.list n0 c1))), (2, (AV.p (PV.int IntKind.i64 i2))), (4, (AV.loc 4 0)), (7, (AV.p (PV.int IntKind.i64 i3))), (8, (AV.p (PV.int IntKind.i64 i4))), (16, (AV.p (PV.int IntKind.i64 i5))), (17, (AV.p (PV.int IntKind.i64 i6))), (22, (AV.p (PV.int IntKind.i64 i7))), (23, (AV.p (PV.int IntKind.i64 i8)))]), (mm 46 [(4, (Bk.pcs true [(PV.int IntKind.i64 i9), (PV.int IntKind.i64 i10)]))])⟩
def Xcloud_isSure_2a (_y : Unit) : Ext × Q := (Ext.ret, ⟨(tm 46 [(6, (AV.p (PV.bool false)))]), (mm 46 [])⟩)
def Icloud_isSure_2a (_q : Ext × S) : Unit := ()
def Xcloud_isSure_2b (y : Nat × List PV × Int × Int × Int × Int × Int × Int) : Ext × Q := (Ext.normal, ⟨(tm 46 [(0, (AV.p (PV.list y.1 y.2.1))), (2, (AV.p (PV.int IntKind.i64 y.2.2.1))), (4, (AV.loc 4 0)), (7, (AV.p (PV.int IntKind.i64 y.2.2.2.1))), (16, (AV.p (PV.int IntKind.i64 y.2.2.2.2.1))), (17, (AV.p (PV.int IntKind.i64 y.2.2.2.2.2.1)))]), (mm 46 [(4, (Bk.pcs true [(PV.int IntKind.i64 y.2.2.2.2.2.2.1), (PV.int IntKind.i64 y.2.2.2.2.2.2.2)]))])⟩)
def Icloud_isSure_2b (q : Ext × S) : Nat × List PV × Int × Int × Int × Int × Int × Int := ((pP_list0 (pA_p (avT q.2 0))), (pP_list1 (pA_p (avT q.2 0))), (pP_int1 (pA_p (avT q.2 2))), (pP_int1 (pA_p (avT q.2 7))), (pP_int1 (pA_p (avT q.2 16))), (pP_int1 (pA_p (avT q.2 17))), (pP_int1 (hdP (pB_pcs1 (avM q.2 4)))), (pP_int1 (hdP (List.tail (pB_pcs1 (avM q.2 4))))))
abbrev Ycloud_isSure_2 : Type := (Unit) ⊕ ((Nat × List PV × Int × Int × Int × Int × Int × Int))
def XLcloud_isSure_2 : XL Ycloud_isSure_2 := .more Xcloud_isSure_2a (.one Xcloud_isSure_2b)
def Icloud_isSure_2 (q : Ext × S) : Ycloud_isSure_2 := bif (cE q.1 == 2) then (Sum.inl (Icloud_isSure_2a q)) else (Sum.inr (Icloud_isSure_2b q))
theorem XIcloud_isSure_2a (y : Unit) : Icloud_isSure_2 (xe (Xcloud_isSure_2a y)) = (Sum.inl y) := rfl
theorem XIcloud_isSure_2b (y : Nat × List PV × Int × Int × Int × Int × Int × Int) : Icloud_isSure_2 (xe (Xcloud_isSure_2b y)) = (Sum.inr y) := rfl
theorem XIcloud_isSure_2 (y : Ycloud_isSure_2) : Icloud_isSure_2 (xe (XLcloud_isSure_2.fn y)) = y := (match y with | .inl y => XIcloud_isSure_2a y | .inr y => XIcloud_isSure_2b y)
noncomputable abbrev Lcloud_isSure_2 : Q → Option Ycloud_isSure_2 := lpO env a94.body 2 XLcloud_isSure_2
noncomputable abbrev Rcloud_isSure_2 : Q → Option (Ext × S) := lpR env a94.body 2
theorem Lcloud_isSure_2a_of {s : Q} {y : Unit} (h : Rcloud_isSure_2 s = exO (Xcloud_isSure_2a y)) : Lcloud_isSure_2 s = some (Sum.inl y) := lpO_of Icloud_isSure_2 XIcloud_isSure_2 (y := (Sum.inl y)) h
theorem Lcloud_isSure_2b_of {s : Q} {y : Nat × List PV × Int × Int × Int × Int × Int × Int} (h : Rcloud_isSure_2 s = exO (Xcloud_isSure_2b y)) : Lcloud_isSure_2 s = some (Sum.inr y) := lpO_of Icloud_isSure_2 XIcloud_isSure_2 (y := (Sum.inr y)) h
theorem Ucloud_isSure : uniq ((blocksOf a94.body).map (·.1)) = true := by kernel_rfl
def Bcloud_isSure_0a (_F : FnT) (N : Q → Option (Ext × S)) (E : Ext × Q → Option (Ext × S)) (_L0 : Q → Option Ycloud_isSure_0) (L2 : Q → Option Ycloud_isSure_2) (n0 : Nat) (c1 : List PV) (i2 : Int) (i3 : Int) (i4 : Int) (i5 : Int) (i6 : Int) (i7 : Int) : Option (Ext × S) :=
  bif (decide (i5 < i4)) then
    bindO (L2 (Tcloud_isSure_2a n0 c1 i2 i3 i5 i4 i5 (w64 ((w64 ((2 : Int) * i2)) + (1 : Int))) (0 : Int) i6 i7)) fun z =>
    Sum.elim (fun _y0 =>
      E (Xcloud_isSure_0b ())) (fun y1 =>
      N (Tcloud_isSure_0a y1.1 y1.2.1 y1.2.2.1 y1.2.2.2.1 y1.2.2.2.2.1 (w64 (y1.2.2.2.2.2.1 + (1 : Int))) y1.2.2.2.2.2.2.1 y1.2.2.2.2.2.2.2)) z
  else E (Xcloud_isSure_0a (i6, i7))
theorem Bcloud_isSure_0a_eq (F : FnT) (N : Q → Option (Ext × S)) (E : Ext × Q → Option (Ext × S)) (L0 : Q → Option Ycloud_isSure_0) (L2 : Q → Option Ycloud_isSure_2) (n0 : Nat) (c1 : List PV) (i2 : Int) (i3 : Int) (i4 : Int) (i5 : Int) (i6 : Int) (i7 : Int) : semB (callP F Ecloud_isSure 20) s94 (loopT [⟨0, Ycloud_isSure_0, L0, XLcloud_isSure_0⟩, ⟨2, Ycloud_isSure_2, L2, XLcloud_isSure_2⟩]) 400 (blkIn a94.body 0) N E (Tcloud_isSure_0a n0 c1 i2 i3 i4 i5 i6 i7) = Bcloud_isSure_0a F N E L0 L2 n0 c1 i2 i3 i4 i5 i6 i7 := by kernel_rfl
theorem Rcloud_isSure_0a_of  (n0 : Nat) (c1 : List PV) (i2 : Int) (i3 : Int) (i4 : Int) (i5 : Int) (i6 : Int) (i7 : Int) {r : Ext × S} (h : Bcloud_isSure_0a (Fn env) Rcloud_isSure_0 exO Lcloud_isSure_0 Lcloud_isSure_2 n0 c1 i2 i3 i4 i5 i6 i7 = some r) : Rcloud_isSure_0 (Tcloud_isSure_0a n0 c1 i2 i3 i4 i5 i6 i7) = some r :=
  lp_of Ecloud_isSure_ok (by kernel_rfl) (lo_cons (lpO_ok Ucloud_isSure) (lo_cons (lpO_ok Ucloud_isSure) lo_nil)) (by kernel_rfl) ((Bcloud_isSure_0a_eq _ _ _ _ _ _ _ _ _ _ _ _ _).trans h)
def Bcloud_isSure_2a (F : FnT) (N : Q → Option (Ext × S)) (E : Ext × Q → Option (Ext × S)) (_L0 : Q → Option Ycloud_isSure_0) (_L2 : Q → Option Ycloud_isSure_2) (n0 : Nat) (c1 : List PV) (i2 : Int) (i3 : Int) (i4 : Int) (i5 : Int) (i6 : Int) (i7 : Int) (i8 : Int) (i9 : Int) (i10 : Int) : Option (Ext × S) :=
  bif (decide (i8 < i7)) then
    bindO (F 93 (RSh.one (CK.int IntKind.i64)) [(PV.list n0 c1), (PV.agg [(PV.int IntKind.i64 (w64 ((w64 (i9 + i4)) - i2))), (PV.int IntKind.i64 (w64 ((w64 (i10 + i8)) - i2)))])]) fun (y0 : (Int)) =>
    bif (y0 != i3) then
      E (Xcloud_isSure_2a ())
    else N (Tcloud_isSure_2a n0 c1 i2 i3 i4 i5 i6 i7 (w64 (i8 + (1 : Int))) i9 i10)
  else E (Xcloud_isSure_2b (n0, c1, i2, i3, i5, i6, i9, i10))
theorem Bcloud_isSure_2a_eq (F : FnT) (N : Q → Option (Ext × S)) (E : Ext × Q → Option (Ext × S)) (L0 : Q → Option Ycloud_isSure_0) (L2 : Q → Option Ycloud_isSure_2) (n0 : Nat) (c1 : List PV) (i2 : Int) (i3 : Int) (i4 : Int) (i5 : Int) (i6 : Int) (i7 : Int) (i8 : Int) (i9 : Int) (i10 : Int) : semB (callP F Ecloud_isSure 20) s94 (loopT [⟨0, Ycloud_isSure_0, L0, XLcloud_isSure_0⟩, ⟨2, Ycloud_isSure_2, L2, XLcloud_isSure_2⟩]) 400 (blkIn a94.body 2) N E (Tcloud_isSure_2a n0 c1 i2 i3 i4 i5 i6 i7 i8 i9 i10) = Bcloud_isSure_2a F N E L0 L2 n0 c1 i2 i3 i4 i5 i6 i7 i8 i9 i10 := by kernel_rfl
theorem Rcloud_isSure_2a_of  (n0 : Nat) (c1 : List PV) (i2 : Int) (i3 : Int) (i4 : Int) (i5 : Int) (i6 : Int) (i7 : Int) (i8 : Int) (i9 : Int) (i10 : Int) {r : Ext × S} (h : Bcloud_isSure_2a (Fn env) Rcloud_isSure_2 exO Lcloud_isSure_0 Lcloud_isSure_2 n0 c1 i2 i3 i4 i5 i6 i7 i8 i9 i10 = some r) : Rcloud_isSure_2 (Tcloud_isSure_2a n0 c1 i2 i3 i4 i5 i6 i7 i8 i9 i10) = some r :=
  lp_of Ecloud_isSure_ok (by kernel_rfl) (lo_cons (lpO_ok Ucloud_isSure) (lo_cons (lpO_ok Ucloud_isSure) lo_nil)) (by kernel_rfl) ((Bcloud_isSure_2a_eq _ _ _ _ _ _ _ _ _ _ _ _ _ _ _ _).trans h)
def tcloud_isSure (F : FnT) (L0 : Q → Option Ycloud_isSure_0) (_L2 : Q → Option Ycloud_isSure_2) (p0n : Nat) (p0c : List PV) (p1_0 : Int) (p1_1 : Int) (p2 : Int) : Option (Bool) :=
  bindO (F 93 (RSh.one (CK.int IntKind.i64)) [(PV.list p0n p0c), (PV.agg [(PV.int IntKind.i64 p1_0), (PV.int IntKind.i64 p1_1)])]) fun (y0 : (Int)) =>
  bindO (L0 (Tcloud_isSure_0a p0n p0c p2 y0 (w64 ((w64 ((2 : Int) * p2)) + (1 : Int))) (0 : Int) p1_0 p1_1)) fun z =>
  Sum.elim (fun _y1 =>
    some true) (fun _y2 =>
    some false) z
theorem tcloud_isSure_eq (F : FnT) (L0 : Q → Option Ycloud_isSure_0) (L2 : Q → Option Ycloud_isSure_2) (p0n : Nat) (p0c : List PV) (p1_0 : Int) (p1_1 : Int) (p2 : Int) : semF (callP F Ecloud_isSure 20) s94 (loopT [⟨0, Ycloud_isSure_0, L0, XLcloud_isSure_0⟩, ⟨2, Ycloud_isSure_2, L2, XLcloud_isSure_2⟩]) 400 a94 [PV.list p0n p0c, PV.agg [PV.int IntKind.i64 p1_0, PV.int IntKind.i64 p1_1], PV.int IntKind.i64 p2] (fun rv => decR (RSh.one CK.bool) rv.pv) = tcloud_isSure F L0 L2 p0n p0c p1_0 p1_1 p2 := by kernel_rfl
noncomputable abbrev Fcloud_isSure (args : List PV) := Fn env 94 (RSh.one CK.bool) args
theorem Fcloud_isSure_of  (p0n : Nat) (p0c : List PV) (p1_0 : Int) (p1_1 : Int) (p2 : Int) {res : (Bool)} (h : tcloud_isSure (Fn env) Lcloud_isSure_0 Lcloud_isSure_2 p0n p0c p1_0 p1_1 p2 = some res) : Fcloud_isSure [PV.list p0n p0c, PV.agg [PV.int IntKind.i64 p1_0, PV.int IntKind.i64 p1_1], PV.int IntKind.i64 p2] = some res :=
  fn_of Ecloud_isSure_ok rfl rfl (lo_cons (lpO_ok Ucloud_isSure) (lo_cons (lpO_ok Ucloud_isSure) lo_nil)) ((tcloud_isSure_eq _ _ _ _ _ _ _ _).trans h)

/-! ### cloud_IsSureClass -/

def Ecloud_IsSureClass : List Entry := [.out 92 (RSh.one (CK.int IntKind.i64)), .out 91 (RSh.one (CK.int IntKind.i64)), .out 69 (RSh.one (CK.int IntKind.i64)), .out 93 (RSh.one (CK.int IntKind.i64)), .out 71 (RSh.one (CK.int IntKind.i64)), .out 62 (RSh.one (CK.int IntKind.i64)), .out 94 (RSh.one CK.bool)]
theorem Ecloud_IsSureClass_ok : ∀ e ∈ Ecloud_IsSureClass, EntOK env e := (ent_out (ent_out (ent_out (ent_out (ent_out (ent_out (ent_out ent_nil)))))))
theorem Ucloud_IsSureClass : uniq ((blocksOf a48.body).map (·.1)) = true := by kernel_rfl
def tcloud_IsSureClass (F : FnT) (p0n : Nat) (p0c : List PV) (p1_0 : Int) (p1_1 : Int) (p2 : Int) : Option ((Bool) × (Int)) :=
  bindO (F 92 (RSh.one (CK.int IntKind.i64)) [(PV.list p0n p0c)]) fun (y0 : (Int)) =>
  bindO (F 91 (RSh.one (CK.int IntKind.i64)) [(PV.agg [(PV.int IntKind.i64 p1_0), (PV.int IntKind.i64 p1_1)])]) fun (y1 : (Int)) =>
  bindO (F 69 (RSh.one (CK.int IntKind.i64)) [(PV.int IntKind.i64 p2), (PV.int IntKind.i64 (0 : Int)), (PV.int IntKind.i64 (10 : Int))]) fun (y2 : (Int)) =>
  bindO (F 93 (RSh.one (CK.int IntKind.i64)) [(PV.list p0n p0c), (PV.agg [(PV.int IntKind.i64 p1_0), (PV.int IntKind.i64 p1_1)])]) fun (y3 : (Int)) =>
  bif (decide (y3 < (0 : Int))) then
    bindO (F 71 (RSh.one (CK.int IntKind.i64)) [(PV.bool true), (PV.int IntKind.i64 (12 : Int))]) fun (y4 : (Int)) =>
    bindO (F 62 (RSh.one (CK.int IntKind.i64)) [(PV.list 4 [(PV.int IntKind.i64 y0), (PV.int IntKind.i64 y1), (PV.int IntKind.i64 y2), (PV.int IntKind.i64 y4)])]) fun (y5 : (Int)) =>
    bif (y5 != (0 : Int)) then
      some (false, y5)
    else bindO (F 94 (RSh.one CK.bool) [(PV.list p0n p0c), (PV.agg [(PV.int IntKind.i64 p1_0), (PV.int IntKind.i64 p1_1)]), (PV.int IntKind.i64 p2)]) fun (y6 : (Bool)) =>
    bif y6 then
      some (true, (0 : Int))
    else some (false, (0 : Int))
  else bindO (F 71 (RSh.one (CK.int IntKind.i64)) [(PV.bool false), (PV.int IntKind.i64 (12 : Int))]) fun (y7 : (Int)) =>
  bindO (F 62 (RSh.one (CK.int IntKind.i64)) [(PV.list 4 [(PV.int IntKind.i64 y0), (PV.int IntKind.i64 y1), (PV.int IntKind.i64 y2), (PV.int IntKind.i64 y7)])]) fun (y8 : (Int)) =>
  bif (y8 != (0 : Int)) then
    some (false, y8)
  else bindO (F 94 (RSh.one CK.bool) [(PV.list p0n p0c), (PV.agg [(PV.int IntKind.i64 p1_0), (PV.int IntKind.i64 p1_1)]), (PV.int IntKind.i64 p2)]) fun (y9 : (Bool)) =>
  bif y9 then
    some (true, (0 : Int))
  else some (false, (0 : Int))
theorem tcloud_IsSureClass_eq (F : FnT) (p0n : Nat) (p0c : List PV) (p1_0 : Int) (p1_1 : Int) (p2 : Int) : semF (callP F Ecloud_IsSureClass 20) s48 (loopT []) 400 a48 [PV.list p0n p0c, PV.agg [PV.int IntKind.i64 p1_0, PV.int IntKind.i64 p1_1], PV.int IntKind.i64 p2] (fun rv => decR (RSh.tup [(Prod.mk false [CK.bool]), (Prod.mk false [(CK.int IntKind.i64)])]) rv.pv) = tcloud_IsSureClass F p0n p0c p1_0 p1_1 p2 := by kernel_rfl
noncomputable abbrev Fcloud_IsSureClass (args : List PV) := Fn env 48 (RSh.tup [(Prod.mk false [CK.bool]), (Prod.mk false [(CK.int IntKind.i64)])]) args
theorem Fcloud_IsSureClass_of  (p0n : Nat) (p0c : List PV) (p1_0 : Int) (p1_1 : Int) (p2 : Int) {res : ((Bool) × (Int))} (h : tcloud_IsSureClass (Fn env) p0n p0c p1_0 p1_1 p2 = some res) : Fcloud_IsSureClass [PV.list p0n p0c, PV.agg [PV.int IntKind.i64 p1_0, PV.int IntKind.i64 p1_1], PV.int IntKind.i64 p2] = some res :=
  fn_of Ecloud_IsSureClass_ok rfl rfl lo_nil ((tcloud_IsSureClass_eq _ _ _ _ _ _).trans h)

/-! ### glidepathref08_CopyClasses -/

def Eglidepathref08_CopyClasses : List Entry := []
theorem Eglidepathref08_CopyClasses_ok : ∀ e ∈ Eglidepathref08_CopyClasses, EntOK env e := ent_nil
theorem Uglidepathref08_CopyClasses : uniq ((blocksOf a46.body).map (·.1)) = true := by kernel_rfl
def tglidepathref08_CopyClasses (_F : FnT) (p0n : Nat) (p0c : List PV) : Option ((Nat) × (List PV)) :=
  bif (decide (p0n = 0)) then
    some (0, [])
  else bif (decide ((List.length p0c) = (p0n * 4))) then
    bif (decide ((0 = 0) ∧ ((0 + p0n) ≤ big))) then
      bif (decide ((0 + p0n) = (0 + p0n))) then
        some ((0 + p0n), ([] ++ p0c))
      else none
    else none
  else none
theorem tglidepathref08_CopyClasses_eq (F : FnT) (p0n : Nat) (p0c : List PV) : semF (callP F Eglidepathref08_CopyClasses 20) s46 (loopT []) 400 a46 [PV.list p0n p0c] (fun rv => decR (RSh.one CK.list) rv.pv) = tglidepathref08_CopyClasses F p0n p0c := by kernel_rfl
noncomputable abbrev Fglidepathref08_CopyClasses (args : List PV) := Fn env 46 (RSh.one CK.list) args
theorem Fglidepathref08_CopyClasses_of  (p0n : Nat) (p0c : List PV) {res : ((Nat) × (List PV))} (h : tglidepathref08_CopyClasses (Fn env) p0n p0c = some res) : Fglidepathref08_CopyClasses [PV.list p0n p0c] = some res :=
  fn_of Eglidepathref08_CopyClasses_ok rfl rfl lo_nil ((tglidepathref08_CopyClasses_eq _ _ _).trans h)

/-! ### glidepathref08_CheckClasses -/

def Eglidepathref08_CheckClasses : List Entry := [.out 31 (RSh.one CK.bool)]
theorem Eglidepathref08_CheckClasses_ok : ∀ e ∈ Eglidepathref08_CheckClasses, EntOK env e := (ent_out ent_nil)
def Tglidepathref08_CheckClasses_0a (n0 : Nat) (c1 : List PV) (i2 : Int) : Q := ⟨(tm 65 [(0, (AV.p (PV.list n0 c1))), (4, (AV.p (PV.int IntKind.i64 i2)))]), (mm 65 [])⟩
def Xglidepathref08_CheckClasses_0a (y : Int × Int) : Ext × Q := (Ext.ret, ⟨(tm 65 [(2, (AV.p (PV.int IntKind.i64 y.1))), (3, (AV.p (PV.int IntKind.i64 y.2)))]), (mm 65 [])⟩)
def Iglidepathref08_CheckClasses_0a (q : Ext × S) : Int × Int := ((pP_int1 (pA_p (avT q.2 2))), (pP_int1 (pA_p (avT q.2 3))))
def Xglidepathref08_CheckClasses_0b (_y : Unit) : Ext × Q := (Ext.normal, ⟨(tm 65 []), (mm 65 [])⟩)
def Iglidepathref08_CheckClasses_0b (_q : Ext × S) : Unit := ()
abbrev Yglidepathref08_CheckClasses_0 : Type := (Int × Int) ⊕ ((Unit))
def XLglidepathref08_CheckClasses_0 : XL Yglidepathref08_CheckClasses_0 := .more Xglidepathref08_CheckClasses_0a (.one Xglidepathref08_CheckClasses_0b)
def Iglidepathref08_CheckClasses_0 (q : Ext × S) : Yglidepathref08_CheckClasses_0 := bif (cE q.1 == 2) then (Sum.inl (Iglidepathref08_CheckClasses_0a q)) else (Sum.inr (Iglidepathref08_CheckClasses_0b q))
theorem XIglidepathref08_CheckClasses_0a (y : Int × Int) : Iglidepathref08_CheckClasses_0 (xe (Xglidepathref08_CheckClasses_0a y)) = (Sum.inl y) := rfl
theorem XIglidepathref08_CheckClasses_0b (y : Unit) : Iglidepathref08_CheckClasses_0 (xe (Xglidepathref08_CheckClasses_0b y)) = (Sum.inr y) := rfl
theorem XIglidepathref08_CheckClasses_0 (y : Yglidepathref08_CheckClasses_0) : Iglidepathref08_CheckClasses_0 (xe (XLglidepathref08_CheckClasses_0.fn y)) = y := (match y with | .inl y => XIglidepathref08_CheckClasses_0a y | .inr y => XIglidepathref08_CheckClasses_0b y)
noncomputable abbrev Lglidepathref08_CheckClasses_0 : Q → Option Yglidepathref08_CheckClasses_0 := lpO env a49.body 0 XLglidepathref08_CheckClasses_0
noncomputable abbrev Rglidepathref08_CheckClasses_0 : Q → Option (Ext × S) := lpR env a49.body 0
theorem Lglidepathref08_CheckClasses_0a_of {s : Q} {y : Int × Int} (h : Rglidepathref08_CheckClasses_0 s = exO (Xglidepathref08_CheckClasses_0a y)) : Lglidepathref08_CheckClasses_0 s = some (Sum.inl y) := lpO_of Iglidepathref08_CheckClasses_0 XIglidepathref08_CheckClasses_0 (y := (Sum.inl y)) h
theorem Lglidepathref08_CheckClasses_0b_of {s : Q} {y : Unit} (h : Rglidepathref08_CheckClasses_0 s = exO (Xglidepathref08_CheckClasses_0b y)) : Lglidepathref08_CheckClasses_0 s = some (Sum.inr y) := lpO_of Iglidepathref08_CheckClasses_0 XIglidepathref08_CheckClasses_0 (y := (Sum.inr y)) h
theorem Uglidepathref08_CheckClasses : uniq ((blocksOf a49.body).map (·.1)) = true := by kernel_rfl
def Bglidepathref08_CheckClasses_0a (F : FnT) (N : Q → Option (Ext × S)) (E : Ext × Q → Option (Ext × S)) (_L0 : Q → Option Yglidepathref08_CheckClasses_0) (n0 : Nat) (c1 : List PV) (i2 : Int) : Option (Ext × S) :=
  bif (decide (i2 < (n0 : Int))) then
    bif (decide (((0 : Int) ≤ i2) ∧ (i2 < (n0 : Int)))) then
      bindO (intC IntKind.i64 (c1[(((Int.toNat i2) * 4) + 0)]?)) fun x0 =>
      bindO (intC IntKind.i64 (c1[((((Int.toNat i2) * 4) + 0) + 1)]?)) fun x1 =>
      bif (decide (((0 : Int) ≤ i2) ∧ (i2 < (n0 : Int)))) then
        bindO (intC IntKind.i64 (c1[(((Int.toNat i2) * 4) + 2)]?)) fun x2 =>
        bindO (intC IntKind.i64 (c1[((((Int.toNat i2) * 4) + 2) + 1)]?)) fun x3 =>
        bindO (F 31 (RSh.one CK.bool) [(PV.int IntKind.i64 x0), (PV.int IntKind.i64 (0 : Int)), (PV.int IntKind.i64 (10000 : Int))]) fun (y4 : (Bool)) =>
        bif y4 then
          bindO (F 31 (RSh.one CK.bool) [(PV.int IntKind.i64 x1), (PV.int IntKind.i64 (0 : Int)), (PV.int IntKind.i64 (10000 : Int))]) fun (y5 : (Bool)) =>
          bif y5 then
            bindO (F 31 (RSh.one CK.bool) [(PV.int IntKind.i64 x2), (PV.int IntKind.i64 (0 : Int)), (PV.int IntKind.i64 (1000 : Int))]) fun (y6 : (Bool)) =>
            bif y6 then
              bindO (F 31 (RSh.one CK.bool) [(PV.int IntKind.i64 x3), (PV.int IntKind.i64 (0 : Int)), (PV.int IntKind.i64 (1000 : Int))]) fun (y7 : (Bool)) =>
              bif y7 then
                bif (decide (x0 > x1)) then
                  E (Xglidepathref08_CheckClasses_0a (i2, (9 : Int)))
                else bif (decide (x2 > x3)) then
                  E (Xglidepathref08_CheckClasses_0a (i2, (9 : Int)))
                else N (Tglidepathref08_CheckClasses_0a n0 c1 (w64 (i2 + (1 : Int))))
              else E (Xglidepathref08_CheckClasses_0a (i2, (2 : Int)))
            else E (Xglidepathref08_CheckClasses_0a (i2, (2 : Int)))
          else E (Xglidepathref08_CheckClasses_0a (i2, (2 : Int)))
        else E (Xglidepathref08_CheckClasses_0a (i2, (2 : Int)))
      else none
    else none
  else E (Xglidepathref08_CheckClasses_0b ())
theorem Bglidepathref08_CheckClasses_0a_eq (F : FnT) (N : Q → Option (Ext × S)) (E : Ext × Q → Option (Ext × S)) (L0 : Q → Option Yglidepathref08_CheckClasses_0) (n0 : Nat) (c1 : List PV) (i2 : Int) : semB (callP F Eglidepathref08_CheckClasses 20) s49 (loopT [⟨0, Yglidepathref08_CheckClasses_0, L0, XLglidepathref08_CheckClasses_0⟩]) 400 (blkIn a49.body 0) N E (Tglidepathref08_CheckClasses_0a n0 c1 i2) = Bglidepathref08_CheckClasses_0a F N E L0 n0 c1 i2 := by kernel_rfl
theorem Rglidepathref08_CheckClasses_0a_of  (n0 : Nat) (c1 : List PV) (i2 : Int) {r : Ext × S} (h : Bglidepathref08_CheckClasses_0a (Fn env) Rglidepathref08_CheckClasses_0 exO Lglidepathref08_CheckClasses_0 n0 c1 i2 = some r) : Rglidepathref08_CheckClasses_0 (Tglidepathref08_CheckClasses_0a n0 c1 i2) = some r :=
  lp_of Eglidepathref08_CheckClasses_ok (by kernel_rfl) (lo_cons (lpO_ok Uglidepathref08_CheckClasses) lo_nil) (by kernel_rfl) ((Bglidepathref08_CheckClasses_0a_eq _ _ _ _ _ _ _).trans h)
def tglidepathref08_CheckClasses (_F : FnT) (L0 : Q → Option Yglidepathref08_CheckClasses_0) (p0n : Nat) (p0c : List PV) : Option ((Int) × (Int)) :=
  bif ((p0n : Int) == (0 : Int)) then
    some ((0 : Int), (10 : Int))
  else bif (decide ((p0n : Int) > (10 : Int))) then
    some ((0 : Int), (8 : Int))
  else bindO (L0 (Tglidepathref08_CheckClasses_0a p0n p0c (0 : Int))) fun z =>
  Sum.elim (fun y0 =>
    some (y0.1, y0.2)) (fun _y1 =>
    some ((0 : Int), (0 : Int))) z
theorem tglidepathref08_CheckClasses_eq (F : FnT) (L0 : Q → Option Yglidepathref08_CheckClasses_0) (p0n : Nat) (p0c : List PV) : semF (callP F Eglidepathref08_CheckClasses 20) s49 (loopT [⟨0, Yglidepathref08_CheckClasses_0, L0, XLglidepathref08_CheckClasses_0⟩]) 400 a49 [PV.list p0n p0c] (fun rv => decR (RSh.tup [(Prod.mk false [(CK.int IntKind.i64)]), (Prod.mk false [(CK.int IntKind.i64)])]) rv.pv) = tglidepathref08_CheckClasses F L0 p0n p0c := by kernel_rfl
noncomputable abbrev Fglidepathref08_CheckClasses (args : List PV) := Fn env 49 (RSh.tup [(Prod.mk false [(CK.int IntKind.i64)]), (Prod.mk false [(CK.int IntKind.i64)])]) args
theorem Fglidepathref08_CheckClasses_of  (p0n : Nat) (p0c : List PV) {res : ((Int) × (Int))} (h : tglidepathref08_CheckClasses (Fn env) Lglidepathref08_CheckClasses_0 p0n p0c = some res) : Fglidepathref08_CheckClasses [PV.list p0n p0c] = some res :=
  fn_of Eglidepathref08_CheckClasses_ok rfl rfl (lo_cons (lpO_ok Uglidepathref08_CheckClasses) lo_nil) ((tglidepathref08_CheckClasses_eq _ _ _ _).trans h)

/-! ### glidepathref08_SignalErr -/

def Eglidepathref08_SignalErr : List Entry := [.out 31 (RSh.one CK.bool)]
theorem Eglidepathref08_SignalErr_ok : ∀ e ∈ Eglidepathref08_SignalErr, EntOK env e := (ent_out ent_nil)
theorem Uglidepathref08_SignalErr : uniq ((blocksOf a50.body).map (·.1)) = true := by kernel_rfl
def tglidepathref08_SignalErr (F : FnT) (p0_0 : Int) (p0_1 : Int) : Option (Int) :=
  bindO (F 31 (RSh.one CK.bool) [(PV.int IntKind.i64 p0_0), (PV.int IntKind.i64 (0 : Int)), (PV.int IntKind.i64 (10000 : Int))]) fun (y0 : (Bool)) =>
  bif y0 then
    bindO (F 31 (RSh.one CK.bool) [(PV.int IntKind.i64 p0_1), (PV.int IntKind.i64 (0 : Int)), (PV.int IntKind.i64 (1000 : Int))]) fun (y1 : (Bool)) =>
    bif y1 then
      some (0 : Int)
    else some (2 : Int)
  else some (2 : Int)
theorem tglidepathref08_SignalErr_eq (F : FnT) (p0_0 : Int) (p0_1 : Int) : semF (callP F Eglidepathref08_SignalErr 20) s50 (loopT []) 400 a50 [PV.agg [PV.int IntKind.i64 p0_0, PV.int IntKind.i64 p0_1]] (fun rv => decR (RSh.one (CK.int IntKind.i64)) rv.pv) = tglidepathref08_SignalErr F p0_0 p0_1 := by kernel_rfl
noncomputable abbrev Fglidepathref08_SignalErr (args : List PV) := Fn env 50 (RSh.one (CK.int IntKind.i64)) args
theorem Fglidepathref08_SignalErr_of  (p0_0 : Int) (p0_1 : Int) {res : (Int)} (h : tglidepathref08_SignalErr (Fn env) p0_0 p0_1 = some res) : Fglidepathref08_SignalErr [PV.agg [PV.int IntKind.i64 p0_0, PV.int IntKind.i64 p0_1]] = some res :=
  fn_of Eglidepathref08_SignalErr_ok rfl rfl lo_nil ((tglidepathref08_SignalErr_eq _ _ _).trans h)

/-! ### glidepathref08_Class -/

def Eglidepathref08_Class : List Entry := [.out 31 (RSh.one CK.bool)]
theorem Eglidepathref08_Class_ok : ∀ e ∈ Eglidepathref08_Class, EntOK env e := (ent_out ent_nil)
def Tglidepathref08_Class_0a (n0 : Nat) (c1 : List PV) (i2 : Int) (i3 : Int) (i4 : Int) : Q := ⟨(tm 45 [(0, (AV.p (PV.list n0 c1))), (3, (AV.loc 3 0)), (5, (AV.p (PV.int IntKind.i64 i2)))]), (mm 45 [(3, (Bk.pcs true [(PV.int IntKind.i64 i3), (PV.int IntKind.i64 i4)]))])⟩
def Xglidepathref08_Class_0a (y : Int) : Ext × Q := (Ext.ret, ⟨(tm 45 [(4, (AV.p (PV.int IntKind.i64 y)))]), (mm 45 [])⟩)
def Iglidepathref08_Class_0a (q : Ext × S) : Int := (pP_int1 (pA_p (avT q.2 4)))
def Xglidepathref08_Class_0b (y : Int × Int) : Ext × Q := (Ext.normal, ⟨(tm 45 []), (mm 45 [(3, (Bk.pcs true [(PV.int IntKind.i64 y.1), (PV.int IntKind.i64 y.2)]))])⟩)
def Iglidepathref08_Class_0b (q : Ext × S) : Int × Int := ((pP_int1 (hdP (pB_pcs1 (avM q.2 3)))), (pP_int1 (hdP (List.tail (pB_pcs1 (avM q.2 3))))))
abbrev Yglidepathref08_Class_0 : Type := (Int) ⊕ ((Int × Int))
def XLglidepathref08_Class_0 : XL Yglidepathref08_Class_0 := .more Xglidepathref08_Class_0a (.one Xglidepathref08_Class_0b)
def Iglidepathref08_Class_0 (q : Ext × S) : Yglidepathref08_Class_0 := bif (cE q.1 == 2) then (Sum.inl (Iglidepathref08_Class_0a q)) else (Sum.inr (Iglidepathref08_Class_0b q))
theorem XIglidepathref08_Class_0a (y : Int) : Iglidepathref08_Class_0 (xe (Xglidepathref08_Class_0a y)) = (Sum.inl y) := rfl
theorem XIglidepathref08_Class_0b (y : Int × Int) : Iglidepathref08_Class_0 (xe (Xglidepathref08_Class_0b y)) = (Sum.inr y) := rfl
theorem XIglidepathref08_Class_0 (y : Yglidepathref08_Class_0) : Iglidepathref08_Class_0 (xe (XLglidepathref08_Class_0.fn y)) = y := (match y with | .inl y => XIglidepathref08_Class_0a y | .inr y => XIglidepathref08_Class_0b y)
noncomputable abbrev Lglidepathref08_Class_0 : Q → Option Yglidepathref08_Class_0 := lpO env a51.body 0 XLglidepathref08_Class_0
noncomputable abbrev Rglidepathref08_Class_0 : Q → Option (Ext × S) := lpR env a51.body 0
theorem Lglidepathref08_Class_0a_of {s : Q} {y : Int} (h : Rglidepathref08_Class_0 s = exO (Xglidepathref08_Class_0a y)) : Lglidepathref08_Class_0 s = some (Sum.inl y) := lpO_of Iglidepathref08_Class_0 XIglidepathref08_Class_0 (y := (Sum.inl y)) h
theorem Lglidepathref08_Class_0b_of {s : Q} {y : Int × Int} (h : Rglidepathref08_Class_0 s = exO (Xglidepathref08_Class_0b y)) : Lglidepathref08_Class_0 s = some (Sum.inr y) := lpO_of Iglidepathref08_Class_0 XIglidepathref08_Class_0 (y := (Sum.inr y)) h
theorem Uglidepathref08_Class : uniq ((blocksOf a51.body).map (·.1)) = true := by kernel_rfl
def Bglidepathref08_Class_0a (F : FnT) (N : Q → Option (Ext × S)) (E : Ext × Q → Option (Ext × S)) (_L0 : Q → Option Yglidepathref08_Class_0) (n0 : Nat) (c1 : List PV) (i2 : Int) (i3 : Int) (i4 : Int) : Option (Ext × S) :=
  bif (decide (i2 < (n0 : Int))) then
    bif (decide (((0 : Int) ≤ i2) ∧ (i2 < (n0 : Int)))) then
      bindO (intC IntKind.i64 (c1[((((Int.toNat i2) * 4) + 0) + 0)]?)) fun x0 =>
      bif (decide (((0 : Int) ≤ i2) ∧ (i2 < (n0 : Int)))) then
        bindO (intC IntKind.i64 (c1[((((Int.toNat i2) * 4) + 0) + 1)]?)) fun x1 =>
        bindO (F 31 (RSh.one CK.bool) [(PV.int IntKind.i64 i3), (PV.int IntKind.i64 x0), (PV.int IntKind.i64 x1)]) fun (y2 : (Bool)) =>
        bif y2 then
          bif (decide (((0 : Int) ≤ i2) ∧ (i2 < (n0 : Int)))) then
            bindO (intC IntKind.i64 (c1[((((Int.toNat i2) * 4) + 2) + 0)]?)) fun x3 =>
            bif (decide (((0 : Int) ≤ i2) ∧ (i2 < (n0 : Int)))) then
              bindO (intC IntKind.i64 (c1[((((Int.toNat i2) * 4) + 2) + 1)]?)) fun x4 =>
              bindO (F 31 (RSh.one CK.bool) [(PV.int IntKind.i64 i4), (PV.int IntKind.i64 x3), (PV.int IntKind.i64 x4)]) fun (y5 : (Bool)) =>
              bif y5 then
                E (Xglidepathref08_Class_0a i2)
              else N (Tglidepathref08_Class_0a n0 c1 (w64 (i2 + (1 : Int))) i3 i4)
            else none
          else none
        else N (Tglidepathref08_Class_0a n0 c1 (w64 (i2 + (1 : Int))) i3 i4)
      else none
    else none
  else E (Xglidepathref08_Class_0b (i3, i4))
theorem Bglidepathref08_Class_0a_eq (F : FnT) (N : Q → Option (Ext × S)) (E : Ext × Q → Option (Ext × S)) (L0 : Q → Option Yglidepathref08_Class_0) (n0 : Nat) (c1 : List PV) (i2 : Int) (i3 : Int) (i4 : Int) : semB (callP F Eglidepathref08_Class 20) s51 (loopT [⟨0, Yglidepathref08_Class_0, L0, XLglidepathref08_Class_0⟩]) 400 (blkIn a51.body 0) N E (Tglidepathref08_Class_0a n0 c1 i2 i3 i4) = Bglidepathref08_Class_0a F N E L0 n0 c1 i2 i3 i4 := by kernel_rfl
theorem Rglidepathref08_Class_0a_of  (n0 : Nat) (c1 : List PV) (i2 : Int) (i3 : Int) (i4 : Int) {r : Ext × S} (h : Bglidepathref08_Class_0a (Fn env) Rglidepathref08_Class_0 exO Lglidepathref08_Class_0 n0 c1 i2 i3 i4 = some r) : Rglidepathref08_Class_0 (Tglidepathref08_Class_0a n0 c1 i2 i3 i4) = some r :=
  lp_of Eglidepathref08_Class_ok (by kernel_rfl) (lo_cons (lpO_ok Uglidepathref08_Class) lo_nil) (by kernel_rfl) ((Bglidepathref08_Class_0a_eq _ _ _ _ _ _ _ _ _).trans h)
def tglidepathref08_Class (_F : FnT) (L0 : Q → Option Yglidepathref08_Class_0) (p0n : Nat) (p0c : List PV) (p1_0 : Int) (p1_1 : Int) : Option (Int) :=
  bindO (L0 (Tglidepathref08_Class_0a p0n p0c (0 : Int) p1_0 p1_1)) fun z =>
  Sum.elim (fun y0 =>
    some y0) (fun _y1 =>
    some (-1 : Int)) z
theorem tglidepathref08_Class_eq (F : FnT) (L0 : Q → Option Yglidepathref08_Class_0) (p0n : Nat) (p0c : List PV) (p1_0 : Int) (p1_1 : Int) : semF (callP F Eglidepathref08_Class 20) s51 (loopT [⟨0, Yglidepathref08_Class_0, L0, XLglidepathref08_Class_0⟩]) 400 a51 [PV.list p0n p0c, PV.agg [PV.int IntKind.i64 p1_0, PV.int IntKind.i64 p1_1]] (fun rv => decR (RSh.one (CK.int IntKind.i64)) rv.pv) = tglidepathref08_Class F L0 p0n p0c p1_0 p1_1 := by kernel_rfl
noncomputable abbrev Fglidepathref08_Class (args : List PV) := Fn env 51 (RSh.one (CK.int IntKind.i64)) args
theorem Fglidepathref08_Class_of  (p0n : Nat) (p0c : List PV) (p1_0 : Int) (p1_1 : Int) {res : (Int)} (h : tglidepathref08_Class (Fn env) Lglidepathref08_Class_0 p0n p0c p1_0 p1_1 = some res) : Fglidepathref08_Class [PV.list p0n p0c, PV.agg [PV.int IntKind.i64 p1_0, PV.int IntKind.i64 p1_1]] = some res :=
  fn_of Eglidepathref08_Class_ok rfl rfl (lo_cons (lpO_ok Uglidepathref08_Class) lo_nil) ((tglidepathref08_Class_eq _ _ _ _ _ _).trans h)

/-! ### glidepathref08_Sure -/

def Eglidepathref08_Sure : List Entry := [.out 51 (RSh.one (CK.int IntKind.i64))]
theorem Eglidepathref08_Sure_ok : ∀ e ∈ Eglidepathref08_Sure, EntOK env e := (ent_out ent_nil)
def Tglidepathref08_Sure_0a (n0 : Nat) (c1 : List PV) (i2 : Int) (i3 : Int) (i4 : Int) (i5 : Int) (i6 : Int) : Q := ⟨(tm 40 [(0, (AV.p (PV.list n0 c1))), (2, (AV.p (PV.int IntKind.i64 i2))), (4, (AV.loc 4 0)), (7, (AV.p (PV.int IntKind.i64 i3))), (8, (AV.p (PV.int IntKind.i64 i4)))]), (mm 40 [(4, (Bk.pcs true [(PV.int IntKind.i64 i5), (PV.int IntKind.i64 i6)]))])⟩
def Xglidepathref08_Sure_0a (y : Int × Int) : Ext × Q := (Ext.normal, ⟨(tm 40 []), (mm 40 [(4, (Bk.pcs true [(PV.int IntKind.i64 y.1), (PV.int IntKind.i64 y.2)]))])⟩)
def Iglidepathref08_Sure_0a (q : Ext × S) : Int × Int := ((pP_int1 (hdP (pB_pcs1 (avM q.2 4)))), (pP_int1 (hdP (List.tail (pB_pcs1 (avM q.2 4))))))
def Xglidepathref08_Sure_0b (_y : Unit) : Ext × Q := (Ext.ret, ⟨(tm 40 [(6, (AV.p (PV.bool false)))]), (mm 40 [])⟩)
def Iglidepathref08_Sure_0b (_q : Ext × S) : Unit := ()
abbrev Yglidepathref08_Sure_0 : Type := (Int × Int) ⊕ ((Unit))
def XLglidepathref08_Sure_0 : XL Yglidepathref08_Sure_0 := .more Xglidepathref08_Sure_0a (.one Xglidepathref08_Sure_0b)
def Iglidepathref08_Sure_0 (q : Ext × S) : Yglidepathref08_Sure_0 := bif (cE q.1 == 0) then (Sum.inl (Iglidepathref08_Sure_0a q)) else (Sum.inr (Iglidepathref08_Sure_0b q))
theorem XIglidepathref08_Sure_0a (y : Int × Int) : Iglidepathref08_Sure_0 (xe (Xglidepathref08_Sure_0a y)) = (Sum.inl y) := rfl
theorem XIglidepathref08_Sure_0b (y : Unit) : Iglidepathref08_Sure_0 (xe (Xglidepathref08_Sure_0b y)) = (Sum.inr y) := rfl
theorem XIglidepathref08_Sure_0 (y : Yglidepathref08_Sure_0) : Iglidepathref08_Sure_0 (xe (XLglidepathref08_Sure_0.fn y)) = y := (match y with | .inl y => XIglidepathref08_Sure_0a y | .inr y => XIglidepathref08_Sure_0b y)
noncomputable abbrev Lglidepathref08_Sure_0 : Q → Option Yglidepathref08_Sure_0 := lpO env a52.body 0 XLglidepathref08_Sure_0
noncomputable abbrev Rglidepathref08_Sure_0 : Q → Option (Ext × S) := lpR env a52.body 0
theorem Lglidepathref08_Sure_0a_of {s : Q} {y : Int × Int} (h : Rglidepathref08_Sure_0 s = exO (Xglidepathref08_Sure_0a y)) : Lglidepathref08_Sure_0 s = some (Sum.inl y) := lpO_of Iglidepathref08_Sure_0 XIglidepathref08_Sure_0 (y := (Sum.inl y)) h
theorem Lglidepathref08_Sure_0b_of {s : Q} {y : Unit} (h : Rglidepathref08_Sure_0 s = exO (Xglidepathref08_Sure_0b y)) : Lglidepathref08_Sure_0 s = some (Sum.inr y) := lpO_of Iglidepathref08_Sure_0 XIglidepathref08_Sure_0 (y := (Sum.inr y)) h
def Tglidepathref08_Sure_2a (n0 : Nat) (c1 : List PV) (i2 : Int) (i3 : Int) (i4 : Int) (i5 : Int) (i6 : Int) (i7 : Int) : Q := ⟨(tm 40 [(0, (AV.p (PV.list n0 c1))), (2, (AV.p (PV.int IntKind.i64 i2))), (4, (AV.loc 4 0)), (7, (AV.p (PV.int IntKind.i64 i3))), (8, (AV.p (PV.int IntKind.i64 i4))), (9, (AV.p (PV.int IntKind.i64 i5)))]), (mm 40 [(4, (Bk.pcs true [(PV.int IntKind.i64 i6), (PV.int IntKind.i64 i7)]))])⟩
def Xglidepathref08_Sure_2a (_y : Unit) : Ext × Q := (Ext.ret, ⟨(tm 40 [(6, (AV.p (PV.bool false)))]), (mm 40 [])⟩)
def Iglidepathref08_Sure_2a (_q : Ext × S) : Unit := ()
def Xglidepathref08_Sure_2b (y : Nat × List PV × Int × Int × Int × Int × Int) : Ext × Q := (Ext.normal, ⟨(tm 40 [(0, (AV.p (PV.list y.1 y.2.1))), (2, (AV.p (PV.int IntKind.i64 y.2.2.1))), (4, (AV.loc 4 0)), (7, (AV.p (PV.int IntKind.i64 y.2.2.2.1))), (8, (AV.p (PV.int IntKind.i64 y.2.2.2.2.1)))]), (mm 40 [(4, (Bk.pcs true [(PV.int IntKind.i64 y.2.2.2.2.2.1), (PV.int IntKind.i64 y.2.2.2.2.2.2)]))])⟩)
def Iglidepathref08_Sure_2b (q : Ext × S) : Nat × List PV × Int × Int × Int × Int × Int := ((pP_list0 (pA_p (avT q.2 0))), (pP_list1 (pA_p (avT q.2 0))), (pP_int1 (pA_p (avT q.2 2))), (pP_int1 (pA_p (avT q.2 7))), (pP_int1 (pA_p (avT q.2 8))), (pP_int1 (hdP (pB_pcs1 (avM q.2 4)))), (pP_int1 (hdP (List.tail (pB_pcs1 (avM q.2 4))))))
abbrev Yglidepathref08_Sure_2 : Type := (Unit) ⊕ ((Nat × List PV × Int × Int × Int × Int × Int))
def XLglidepathref08_Sure_2 : XL Yglidepathref08_Sure_2 := .more Xglidepathref08_Sure_2a (.one Xglidepathref08_Sure_2b)
def Iglidepathref08_Sure_2 (q : Ext × S) : Yglidepathref08_Sure_2 := bif (cE q.1 == 2) then (Sum.inl (Iglidepathref08_Sure_2a q)) else (Sum.inr (Iglidepathref08_Sure_2b q))
theorem XIglidepathref08_Sure_2a (y : Unit) : Iglidepathref08_Sure_2 (xe (Xglidepathref08_Sure_2a y)) = (Sum.inl y) := rfl
theorem XIglidepathref08_Sure_2b (y : Nat × List PV × Int × Int × Int × Int × Int) : Iglidepathref08_Sure_2 (xe (Xglidepathref08_Sure_2b y)) = (Sum.inr y) := rfl
theorem XIglidepathref08_Sure_2 (y : Yglidepathref08_Sure_2) : Iglidepathref08_Sure_2 (xe (XLglidepathref08_Sure_2.fn y)) = y := (match y with | .inl y => XIglidepathref08_Sure_2a y | .inr y => XIglidepathref08_Sure_2b y)
noncomputable abbrev Lglidepathref08_Sure_2 : Q → Option Yglidepathref08_Sure_2 := lpO env a52.body 2 XLglidepathref08_Sure_2
noncomputable abbrev Rglidepathref08_Sure_2 : Q → Option (Ext × S) := lpR env a52.body 2
theorem Lglidepathref08_Sure_2a_of {s : Q} {y : Unit} (h : Rglidepathref08_Sure_2 s = exO (Xglidepathref08_Sure_2a y)) : Lglidepathref08_Sure_2 s = some (Sum.inl y) := lpO_of Iglidepathref08_Sure_2 XIglidepathref08_Sure_2 (y := (Sum.inl y)) h
theorem Lglidepathref08_Sure_2b_of {s : Q} {y : Nat × List PV × Int × Int × Int × Int × Int} (h : Rglidepathref08_Sure_2 s = exO (Xglidepathref08_Sure_2b y)) : Lglidepathref08_Sure_2 s = some (Sum.inr y) := lpO_of Iglidepathref08_Sure_2 XIglidepathref08_Sure_2 (y := (Sum.inr y)) h
theorem Uglidepathref08_Sure : uniq ((blocksOf a52.body).map (·.1)) = true := by kernel_rfl
def Bglidepathref08_Sure_0a (_F : FnT) (N : Q → Option (Ext × S)) (E : Ext × Q → Option (Ext × S)) (_L0 : Q → Option Yglidepathref08_Sure_0) (L2 : Q → Option Yglidepathref08_Sure_2) (n0 : Nat) (c1 : List PV) (i2 : Int) (i3 : Int) (i4 : Int) (i5 : Int) (i6 : Int) : Option (Ext × S) :=
  bif (decide (i4 ≤ i2)) then
    bindO (L2 (Tglidepathref08_Sure_2a n0 c1 i2 i3 i4 (w64 ((0 : Int) - i2)) i5 i6)) fun z =>
    Sum.elim (fun _y0 =>
      E (Xglidepathref08_Sure_0b ())) (fun y1 =>
      N (Tglidepathref08_Sure_0a y1.1 y1.2.1 y1.2.2.1 y1.2.2.2.1 (w64 (y1.2.2.2.2.1 + (1 : Int))) y1.2.2.2.2.2.1 y1.2.2.2.2.2.2)) z
  else E (Xglidepathref08_Sure_0a (i5, i6))
theorem Bglidepathref08_Sure_0a_eq (F : FnT) (N : Q → Option (Ext × S)) (E : Ext × Q → Option (Ext × S)) (L0 : Q → Option Yglidepathref08_Sure_0) (L2 : Q → Option Yglidepathref08_Sure_2) (n0 : Nat) (c1 : List PV) (i2 : Int) (i3 : Int) (i4 : Int) (i5 : Int) (i6 : Int) : semB (callP F Eglidepathref08_Sure 20) s52 (loopT [⟨0, Yglidepathref08_Sure_0, L0, XLglidepathref08_Sure_0⟩, ⟨2, Yglidepathref08_Sure_2, L2, XLglidepathref08_Sure_2⟩]) 400 (blkIn a52.body 0) N E (Tglidepathref08_Sure_0a n0 c1 i2 i3 i4 i5 i6) = Bglidepathref08_Sure_0a F N E L0 L2 n0 c1 i2 i3 i4 i5 i6 := by kernel_rfl
theorem Rglidepathref08_Sure_0a_of  (n0 : Nat) (c1 : List PV) (i2 : Int) (i3 : Int) (i4 : Int) (i5 : Int) (i6 : Int) {r : Ext × S} (h : Bglidepathref08_Sure_0a (Fn env) Rglidepathref08_Sure_0 exO Lglidepathref08_Sure_0 Lglidepathref08_Sure_2 n0 c1 i2 i3 i4 i5 i6 = some r) : Rglidepathref08_Sure_0 (Tglidepathref08_Sure_0a n0 c1 i2 i3 i4 i5 i6) = some r :=
  lp_of Eglidepathref08_Sure_ok (by kernel_rfl) (lo_cons (lpO_ok Uglidepathref08_Sure) (lo_cons (lpO_ok Uglidepathref08_Sure) lo_nil)) (by kernel_rfl) ((Bglidepathref08_Sure_0a_eq _ _ _ _ _ _ _ _ _ _ _ _).trans h)
def Bglidepathref08_Sure_2a (F : FnT) (N : Q → Option (Ext × S)) (E : Ext × Q → Option (Ext × S)) (_L0 : Q → Option Yglidepathref08_Sure_0) (_L2 : Q → Option Yglidepathref08_Sure_2) (n0 : Nat) (c1 : List PV) (i2 : Int) (i3 : Int) (i4 : Int) (i5 : Int) (i6 : Int) (i7 : Int) : Option (Ext × S) :=
  bif (decide (i5 ≤ i2)) then
    bindO (F 51 (RSh.one (CK.int IntKind.i64)) [(PV.list n0 c1), (PV.agg [(PV.int IntKind.i64 (w64 (i6 + i4))), (PV.int IntKind.i64 (w64 (i7 + i5)))])]) fun (y0 : (Int)) =>
    bif (y0 != i3) then
      E (Xglidepathref08_Sure_2a ())
    else N (Tglidepathref08_Sure_2a n0 c1 i2 i3 i4 (w64 (i5 + (1 : Int))) i6 i7)
  else E (Xglidepathref08_Sure_2b (n0, c1, i2, i3, i4, i6, i7))
theorem Bglidepathref08_Sure_2a_eq (F : FnT) (N : Q → Option (Ext × S)) (E : Ext × Q → Option (Ext × S)) (L0 : Q → Option Yglidepathref08_Sure_0) (L2 : Q → Option Yglidepathref08_Sure_2) (n0 : Nat) (c1 : List PV) (i2 : Int) (i3 : Int) (i4 : Int) (i5 : Int) (i6 : Int) (i7 : Int) : semB (callP F Eglidepathref08_Sure 20) s52 (loopT [⟨0, Yglidepathref08_Sure_0, L0, XLglidepathref08_Sure_0⟩, ⟨2, Yglidepathref08_Sure_2, L2, XLglidepathref08_Sure_2⟩]) 400 (blkIn a52.body 2) N E (Tglidepathref08_Sure_2a n0 c1 i2 i3 i4 i5 i6 i7) = Bglidepathref08_Sure_2a F N E L0 L2 n0 c1 i2 i3 i4 i5 i6 i7 := by kernel_rfl
theorem Rglidepathref08_Sure_2a_of  (n0 : Nat) (c1 : List PV) (i2 : Int) (i3 : Int) (i4 : Int) (i5 : Int) (i6 : Int) (i7 : Int) {r : Ext × S} (h : Bglidepathref08_Sure_2a (Fn env) Rglidepathref08_Sure_2 exO Lglidepathref08_Sure_0 Lglidepathref08_Sure_2 n0 c1 i2 i3 i4 i5 i6 i7 = some r) : Rglidepathref08_Sure_2 (Tglidepathref08_Sure_2a n0 c1 i2 i3 i4 i5 i6 i7) = some r :=
  lp_of Eglidepathref08_Sure_ok (by kernel_rfl) (lo_cons (lpO_ok Uglidepathref08_Sure) (lo_cons (lpO_ok Uglidepathref08_Sure) lo_nil)) (by kernel_rfl) ((Bglidepathref08_Sure_2a_eq _ _ _ _ _ _ _ _ _ _ _ _ _).trans h)
def tglidepathref08_Sure (F : FnT) (L0 : Q → Option Yglidepathref08_Sure_0) (_L2 : Q → Option Yglidepathref08_Sure_2) (p0n : Nat) (p0c : List PV) (p1_0 : Int) (p1_1 : Int) (p2 : Int) : Option (Bool) :=
  bindO (F 51 (RSh.one (CK.int IntKind.i64)) [(PV.list p0n p0c), (PV.agg [(PV.int IntKind.i64 p1_0), (PV.int IntKind.i64 p1_1)])]) fun (y0 : (Int)) =>
  bindO (L0 (Tglidepathref08_Sure_0a p0n p0c p2 y0 (w64 ((0 : Int) - p2)) p1_0 p1_1)) fun z =>
  Sum.elim (fun _y1 =>
    some true) (fun _y2 =>
    some false) z
theorem tglidepathref08_Sure_eq (F : FnT) (L0 : Q → Option Yglidepathref08_Sure_0) (L2 : Q → Option Yglidepathref08_Sure_2) (p0n : Nat) (p0c : List PV) (p1_0 : Int) (p1_1 : Int) (p2 : Int) : semF (callP F Eglidepathref08_Sure 20) s52 (loopT [⟨0, Yglidepathref08_Sure_0, L0, XLglidepathref08_Sure_0⟩, ⟨2, Yglidepathref08_Sure_2, L2, XLglidepathref08_Sure_2⟩]) 400 a52 [PV.list p0n p0c, PV.agg [PV.int IntKind.i64 p1_0, PV.int IntKind.i64 p1_1], PV.int IntKind.i64 p2] (fun rv => decR (RSh.one CK.bool) rv.pv) = tglidepathref08_Sure F L0 L2 p0n p0c p1_0 p1_1 p2 := by kernel_rfl
noncomputable abbrev Fglidepathref08_Sure (args : List PV) := Fn env 52 (RSh.one CK.bool) args
theorem Fglidepathref08_Sure_of  (p0n : Nat) (p0c : List PV) (p1_0 : Int) (p1_1 : Int) (p2 : Int) {res : (Bool)} (h : tglidepathref08_Sure (Fn env) Lglidepathref08_Sure_0 Lglidepathref08_Sure_2 p0n p0c p1_0 p1_1 p2 = some res) : Fglidepathref08_Sure [PV.list p0n p0c, PV.agg [PV.int IntKind.i64 p1_0, PV.int IntKind.i64 p1_1], PV.int IntKind.i64 p2] = some res :=
  fn_of Eglidepathref08_Sure_ok rfl rfl (lo_cons (lpO_ok Uglidepathref08_Sure) (lo_cons (lpO_ok Uglidepathref08_Sure) lo_nil)) ((tglidepathref08_Sure_eq _ _ _ _ _ _ _ _).trans h)

end Gv
