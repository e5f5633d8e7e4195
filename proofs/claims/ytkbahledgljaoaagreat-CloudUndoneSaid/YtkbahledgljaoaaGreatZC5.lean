import Derived.Test.YtkbahledgljaoaaGreatGvEnv

/- What the functions do, round by round: ZC1. -/
namespace Gv
open Go
set_option maxRecDepth 100000

/-! ### cloud_errorIf -/

def Ecloud_errorIf : List Entry := []
theorem Ecloud_errorIf_ok : ∀ e ∈ Ecloud_errorIf, EntOK env e := ent_nil
theorem Ucloud_errorIf : uniq ((blocksOf a71.body).map (·.1)) = true := by kernel_rfl
def tcloud_errorIf (_F : FnT) (p0 : Bool) (p1 : Int) : Option (Int) :=
  bif p0 then
    some p1
  else some (0 : Int)
theorem tcloud_errorIf_eq (F : FnT) (p0 : Bool) (p1 : Int) : semF (callP F Ecloud_errorIf 20) s71 (loopT []) 400 a71 [PV.bool p0, PV.int IntKind.i64 p1] (fun rv => decR (RSh.one (CK.int IntKind.i64)) rv.pv) = tcloud_errorIf F p0 p1 := by kernel_rfl
noncomputable abbrev Fcloud_errorIf (args : List PV) := Fn env 71 (RSh.one (CK.int IntKind.i64)) args
theorem Fcloud_errorIf_of  (p0 : Bool) (p1 : Int) {res : (Int)} (h : tcloud_errorIf (Fn env) p0 p1 = some res) : Fcloud_errorIf [PV.bool p0, PV.int IntKind.i64 p1] = some res :=
  fn_of Ecloud_errorIf_ok rfl rfl lo_nil ((tcloud_errorIf_eq _ _ _).trans h)

/-! ### cloud_rangeError -/

def Ecloud_rangeError : List Entry := [.out 71 (RSh.one (CK.int IntKind.i64))]
theorem Ecloud_rangeError_ok : ∀ e ∈ Ecloud_rangeError, EntOK env e := (ent_out ent_nil)
theorem Ucloud_rangeError : uniq ((blocksOf a69.body).map (·.1)) = true := by kernel_rfl
def tcloud_rangeError (F : FnT) (p0 : Int) (p1 : Int) (p2 : Int) : Option (Int) :=
  bif (decide (p0 < p1)) then
    bindO (F 71 (RSh.one (CK.int IntKind.i64)) [(PV.bool true), (PV.int IntKind.i64 (2 : Int))]) fun (y0 : (Int)) =>
    some y0
  else bif (decide (p0 > p2)) then
    bindO (F 71 (RSh.one (CK.int IntKind.i64)) [(PV.bool true), (PV.int IntKind.i64 (2 : Int))]) fun (y1 : (Int)) =>
    some y1
  else bindO (F 71 (RSh.one (CK.int IntKind.i64)) [(PV.bool false), (PV.int IntKind.i64 (2 : Int))]) fun (y2 : (Int)) =>
  some y2
theorem tcloud_rangeError_eq (F : FnT) (p0 : Int) (p1 : Int) (p2 : Int) : semF (callP F Ecloud_rangeError 20) s69 (loopT []) 400 a69 [PV.int IntKind.i64 p0, PV.int IntKind.i64 p1, PV.int IntKind.i64 p2] (fun rv => decR (RSh.one (CK.int IntKind.i64)) rv.pv) = tcloud_rangeError F p0 p1 p2 := by kernel_rfl
noncomputable abbrev Fcloud_rangeError (args : List PV) := Fn env 69 (RSh.one (CK.int IntKind.i64)) args
theorem Fcloud_rangeError_of  (p0 : Int) (p1 : Int) (p2 : Int) {res : (Int)} (h : tcloud_rangeError (Fn env) p0 p1 p2 = some res) : Fcloud_rangeError [PV.int IntKind.i64 p0, PV.int IntKind.i64 p1, PV.int IntKind.i64 p2] = some res :=
  fn_of Ecloud_rangeError_ok rfl rfl lo_nil ((tcloud_rangeError_eq _ _ _ _).trans h)

/-! ### b_CopyInts -/

def Eb_CopyInts : List Entry := []
theorem Eb_CopyInts_ok : ∀ e ∈ Eb_CopyInts, EntOK env e := ent_nil
theorem Ub_CopyInts : uniq ((blocksOf a11.body).map (·.1)) = true := by kernel_rfl
def tb_CopyInts (_F : FnT) (p0n : Nat) (p0c : List PV) : Option ((Nat) × (List PV)) :=
  bif (decide (p0n = 0)) then
    some (0, [])
  else bif (decide ((List.length p0c) = (p0n * 1))) then
    bif (decide ((0 = 0) ∧ ((0 + p0n) ≤ big))) then
      bif (decide ((0 + p0n) = (0 + p0n))) then
        some ((0 + p0n), ([] ++ p0c))
      else none
    else none
  else none
theorem tb_CopyInts_eq (F : FnT) (p0n : Nat) (p0c : List PV) : semF (callP F Eb_CopyInts 20) s11 (loopT []) 400 a11 [PV.list p0n p0c] (fun rv => decR (RSh.one CK.list) rv.pv) = tb_CopyInts F p0n p0c := by kernel_rfl
noncomputable abbrev Fb_CopyInts (args : List PV) := Fn env 11 (RSh.one CK.list) args
theorem Fb_CopyInts_of  (p0n : Nat) (p0c : List PV) {res : ((Nat) × (List PV))} (h : tb_CopyInts (Fn env) p0n p0c = some res) : Fb_CopyInts [PV.list p0n p0c] = some res :=
  fn_of Eb_CopyInts_ok rfl rfl lo_nil ((tb_CopyInts_eq _ _ _).trans h)

/-! ### b_Within -/

def Eb_Within : List Entry := []
theorem Eb_Within_ok : ∀ e ∈ Eb_Within, EntOK env e := ent_nil
theorem Ub_Within : uniq ((blocksOf a31.body).map (·.1)) = true := by kernel_rfl
def tb_Within (_F : FnT) (p0 : Int) (p1 : Int) (p2 : Int) : Option (Bool) :=
  bif (decide (p1 ≤ p0)) then
    bif (decide (p0 ≤ p2)) then
      some true
    else some false
  else some false
theorem tb_Within_eq (F : FnT) (p0 : Int) (p1 : Int) (p2 : Int) : semF (callP F Eb_Within 20) s31 (loopT []) 400 a31 [PV.int IntKind.i64 p0, PV.int IntKind.i64 p1, PV.int IntKind.i64 p2] (fun rv => decR (RSh.one CK.bool) rv.pv) = tb_Within F p0 p1 p2 := by kernel_rfl
noncomputable abbrev Fb_Within (args : List PV) := Fn env 31 (RSh.one CK.bool) args
theorem Fb_Within_of  (p0 : Int) (p1 : Int) (p2 : Int) {res : (Bool)} (h : tb_Within (Fn env) p0 p1 p2 = some res) : Fb_Within [PV.int IntKind.i64 p0, PV.int IntKind.i64 p1, PV.int IntKind.i64 p2] = some res :=
  fn_of Eb_Within_ok rfl rfl lo_nil ((tb_Within_eq _ _ _ _).trans h)

/-! ### l8_both -/

def El8_both : List Entry := []
theorem El8_both_ok : ∀ e ∈ El8_both, EntOK env e := ent_nil
theorem Ul8_both : uniq ((blocksOf a16.body).map (·.1)) = true := by kernel_rfl
def tl8_both (_F : FnT) (p0 : Int) (p1 : Int) : Option (Int) :=
  bif (p0 != (0 : Int)) then
    some p0
  else some p1
theorem tl8_both_eq (F : FnT) (p0 : Int) (p1 : Int) : semF (callP F El8_both 20) s16 (loopT []) 400 a16 [PV.int IntKind.i64 p0, PV.int IntKind.i64 p1] (fun rv => decR (RSh.one (CK.int IntKind.i64)) rv.pv) = tl8_both F p0 p1 := by kernel_rfl
noncomputable abbrev Fl8_both (args : List PV) := Fn env 16 (RSh.one (CK.int IntKind.i64)) args
theorem Fl8_both_of  (p0 : Int) (p1 : Int) {res : (Int)} (h : tl8_both (Fn env) p0 p1 = some res) : Fl8_both [PV.int IntKind.i64 p0, PV.int IntKind.i64 p1] = some res :=
  fn_of El8_both_ok rfl rfl lo_nil ((tl8_both_eq _ _ _).trans h)

/-! ### l8_few -/

def El8_few : List Entry := []
theorem El8_few_ok : ∀ e ∈ El8_few, EntOK env e := ent_nil
theorem Ul8_few : uniq ((blocksOf a9.body).map (·.1)) = true := by kernel_rfl
def tl8_few (_F : FnT) (p0n : Nat) (_p0c : List PV) : Option (Bool) :=
  bif (decide ((p0n : Int) ≤ (26 : Int))) then
    some true
  else some false
theorem tl8_few_eq (F : FnT) (p0n : Nat) (p0c : List PV) : semF (callP F El8_few 20) s9 (loopT []) 400 a9 [PV.list p0n p0c] (fun rv => decR (RSh.one CK.bool) rv.pv) = tl8_few F p0n p0c := by kernel_rfl
noncomputable abbrev Fl8_few (args : List PV) := Fn env 9 (RSh.one CK.bool) args
theorem Fl8_few_of  (p0n : Nat) (p0c : List PV) {res : (Bool)} (h : tl8_few (Fn env) p0n p0c = some res) : Fl8_few [PV.list p0n p0c] = some res :=
  fn_of El8_few_ok rfl rfl lo_nil ((tl8_few_eq _ _ _).trans h)

/-! ### cloud_firstError_2 -/

def Ecloud_firstError_2 : List Entry := []
theorem Ecloud_firstError_2_ok : ∀ e ∈ Ecloud_firstError_2, EntOK env e := ent_nil
theorem Ucloud_firstError_2 : uniq ((blocksOf a62.body).map (·.1)) = true := by kernel_rfl
def tcloud_firstError_2 (_F : FnT)(e0 e1 : Int) : Option (Int) :=
  bif (e0 != (0 : Int)) then
    some e0
  else bif (e1 != (0 : Int)) then
    some e1
  else some (0 : Int)
theorem tcloud_firstError_2_eq (F : FnT)(e0 e1 : Int) : semF (callP F Ecloud_firstError_2 20) s62 (loopT []) 400 a62 [.list 2 [.int .i64 e0, .int .i64 e1]] (fun rv => decR (RSh.one (CK.int IntKind.i64)) rv.pv) = tcloud_firstError_2 F e0 e1 := by kernel_rfl
noncomputable abbrev Fcloud_firstError_2 (args : List PV) := Fn env 62 (RSh.one (CK.int IntKind.i64)) args
theorem Fcloud_firstError_2_of (e0 e1 : Int) {res : (Int)} (h : tcloud_firstError_2 (Fn env) e0 e1 = some res) : Fcloud_firstError_2 [.list 2 [.int .i64 e0, .int .i64 e1]] = some res :=
  fn_of Ecloud_firstError_2_ok rfl rfl lo_nil ((tcloud_firstError_2_eq _ _ _).trans h)

/-! ### cloud_firstError_3 -/

def Ecloud_firstError_3 : List Entry := []
theorem Ecloud_firstError_3_ok : ∀ e ∈ Ecloud_firstError_3, EntOK env e := ent_nil
theorem Ucloud_firstError_3 : uniq ((blocksOf a62.body).map (·.1)) = true := by kernel_rfl
def tcloud_firstError_3 (_F : FnT)(e0 e1 e2 : Int) : Option (Int) :=
  bif (e0 != (0 : Int)) then
    some e0
  else bif (e1 != (0 : Int)) then
    some e1
  else bif (e2 != (0 : Int)) then
    some e2
  else some (0 : Int)
theorem tcloud_firstError_3_eq (F : FnT)(e0 e1 e2 : Int) : semF (callP F Ecloud_firstError_3 20) s62 (loopT []) 400 a62 [.list 3 [.int .i64 e0, .int .i64 e1, .int .i64 e2]] (fun rv => decR (RSh.one (CK.int IntKind.i64)) rv.pv) = tcloud_firstError_3 F e0 e1 e2 := by kernel_rfl
noncomputable abbrev Fcloud_firstError_3 (args : List PV) := Fn env 62 (RSh.one (CK.int IntKind.i64)) args
theorem Fcloud_firstError_3_of (e0 e1 e2 : Int) {res : (Int)} (h : tcloud_firstError_3 (Fn env) e0 e1 e2 = some res) : Fcloud_firstError_3 [.list 3 [.int .i64 e0, .int .i64 e1, .int .i64 e2]] = some res :=
  fn_of Ecloud_firstError_3_ok rfl rfl lo_nil ((tcloud_firstError_3_eq _ _ _ _).trans h)

/-! ### cloud_firstError_4 -/

def Ecloud_firstError_4 : List Entry := []
theorem Ecloud_firstError_4_ok : ∀ e ∈ Ecloud_firstError_4, EntOK env e := ent_nil
theorem Ucloud_firstError_4 : uniq ((blocksOf a62.body).map (·.1)) = true := by kernel_rfl
def tcloud_firstError_4 (_F : FnT)(e0 e1 e2 e3 : Int) : Option (Int) :=
  bif (e0 != (0 : Int)) then
    some e0
  else bif (e1 != (0 : Int)) then
    some e1
  else bif (e2 != (0 : Int)) then
    some e2
  else bif (e3 != (0 : Int)) then
    some e3
  else some (0 : Int)
theorem tcloud_firstError_4_eq (F : FnT)(e0 e1 e2 e3 : Int) : semF (callP F Ecloud_firstError_4 20) s62 (loopT []) 400 a62 [.list 4 [.int .i64 e0, .int .i64 e1, .int .i64 e2, .int .i64 e3]] (fun rv => decR (RSh.one (CK.int IntKind.i64)) rv.pv) = tcloud_firstError_4 F e0 e1 e2 e3 := by kernel_rfl
noncomputable abbrev Fcloud_firstError_4 (args : List PV) := Fn env 62 (RSh.one (CK.int IntKind.i64)) args
theorem Fcloud_firstError_4_of (e0 e1 e2 e3 : Int) {res : (Int)} (h : tcloud_firstError_4 (Fn env) e0 e1 e2 e3 = some res) : Fcloud_firstError_4 [.list 4 [.int .i64 e0, .int .i64 e1, .int .i64 e2, .int .i64 e3]] = some res :=
  fn_of Ecloud_firstError_4_ok rfl rfl lo_nil ((tcloud_firstError_4_eq _ _ _ _ _).trans h)

/-! ### cloud_signalError -/

def Ecloud_signalError : List Entry := [.out 69 (RSh.one (CK.int IntKind.i64)), .out 62 (RSh.one (CK.int IntKind.i64))]
theorem Ecloud_signalError_ok : ∀ e ∈ Ecloud_signalError, EntOK env e := (ent_out (ent_out ent_nil))
theorem Ucloud_signalError : uniq ((blocksOf a91.body).map (·.1)) = true := by kernel_rfl
def tcloud_signalError (F : FnT) (p0_0 : Int) (p0_1 : Int) : Option (Int) :=
  bindO (F 69 (RSh.one (CK.int IntKind.i64)) [(PV.int IntKind.i64 p0_0), (PV.int IntKind.i64 (0 : Int)), (PV.int IntKind.i64 (10000 : Int))]) fun (y0 : (Int)) =>
  bindO (F 69 (RSh.one (CK.int IntKind.i64)) [(PV.int IntKind.i64 p0_1), (PV.int IntKind.i64 (0 : Int)), (PV.int IntKind.i64 (1000 : Int))]) fun (y1 : (Int)) =>
  bindO (F 62 (RSh.one (CK.int IntKind.i64)) [(PV.list 2 [(PV.int IntKind.i64 y0), (PV.int IntKind.i64 y1)])]) fun (y2 : (Int)) =>
  some y2
theorem tcloud_signalError_eq (F : FnT) (p0_0 : Int) (p0_1 : Int) : semF (callP F Ecloud_signalError 20) s91 (loopT []) 400 a91 [PV.agg [PV.int IntKind.i64 p0_0, PV.int IntKind.i64 p0_1]] (fun rv => decR (RSh.one (CK.int IntKind.i64)) rv.pv) = tcloud_signalError F p0_0 p0_1 := by kernel_rfl
noncomputable abbrev Fcloud_signalError (args : List PV) := Fn env 91 (RSh.one (CK.int IntKind.i64)) args
theorem Fcloud_signalError_of  (p0_0 : Int) (p0_1 : Int) {res : (Int)} (h : tcloud_signalError (Fn env) p0_0 p0_1 = some res) : Fcloud_signalError [PV.agg [PV.int IntKind.i64 p0_0, PV.int IntKind.i64 p0_1]] = some res :=
  fn_of Ecloud_signalError_ok rfl rfl lo_nil ((tcloud_signalError_eq _ _ _).trans h)

/-! ### cloud_CheckClasses_1 -/

def Ecloud_CheckClasses_1 : List Entry := [.out 91 (RSh.one (CK.int IntKind.i64)), .out 71 (RSh.one (CK.int IntKind.i64)), .out 62 (RSh.one (CK.int IntKind.i64))]
theorem Ecloud_CheckClasses_1_ok : ∀ e ∈ Ecloud_CheckClasses_1, EntOK env e := (ent_out (ent_out (ent_out ent_nil)))
theorem Ucloud_CheckClasses_1 : uniq ((blocksOf a90.body).map (·.1)) = true := by kernel_rfl
def tcloud_CheckClasses_1 (F : FnT)(_n : Nat) (_cs : List PV) (a b c d : Int) : Option (Int) :=
  bindO (F 91 (RSh.one (CK.int IntKind.i64)) [(PV.agg [(PV.int IntKind.i64 a), (PV.int IntKind.i64 c)])]) fun (y0 : (Int)) =>
  bindO (F 91 (RSh.one (CK.int IntKind.i64)) [(PV.agg [(PV.int IntKind.i64 b), (PV.int IntKind.i64 d)])]) fun (y1 : (Int)) =>
  bif (decide (a > b)) then
    bindO (F 71 (RSh.one (CK.int IntKind.i64)) [(PV.bool true), (PV.int IntKind.i64 (9 : Int))]) fun (y2 : (Int)) =>
    bindO (F 62 (RSh.one (CK.int IntKind.i64)) [(PV.list 3 [(PV.int IntKind.i64 y0), (PV.int IntKind.i64 y1), (PV.int IntKind.i64 y2)])]) fun (y3 : (Int)) =>
    some y3
  else bif (decide (c > d)) then
    bindO (F 71 (RSh.one (CK.int IntKind.i64)) [(PV.bool true), (PV.int IntKind.i64 (9 : Int))]) fun (y4 : (Int)) =>
    bindO (F 62 (RSh.one (CK.int IntKind.i64)) [(PV.list 3 [(PV.int IntKind.i64 y0), (PV.int IntKind.i64 y1), (PV.int IntKind.i64 y4)])]) fun (y5 : (Int)) =>
    some y5
  else bindO (F 71 (RSh.one (CK.int IntKind.i64)) [(PV.bool false), (PV.int IntKind.i64 (9 : Int))]) fun (y6 : (Int)) =>
  bindO (F 62 (RSh.one (CK.int IntKind.i64)) [(PV.list 3 [(PV.int IntKind.i64 y0), (PV.int IntKind.i64 y1), (PV.int IntKind.i64 y6)])]) fun (y7 : (Int)) =>
  some y7
theorem tcloud_CheckClasses_1_eq (F : FnT)(n : Nat) (cs : List PV) (a b c d : Int) : semF (callP F Ecloud_CheckClasses_1 20) s90 (loopT []) 400 a90 [.list n cs, .agg [.int .i64 a, .int .i64 b, .int .i64 c, .int .i64 d]] (fun rv => decR (RSh.one (CK.int IntKind.i64)) rv.pv) = tcloud_CheckClasses_1 F n cs a b c d := by kernel_rfl
noncomputable abbrev Fcloud_CheckClasses_1 (args : List PV) := Fn env 90 (RSh.one (CK.int IntKind.i64)) args
theorem Fcloud_CheckClasses_1_of (n : Nat) (cs : List PV) (a b c d : Int) {res : (Int)} (h : tcloud_CheckClasses_1 (Fn env) n cs a b c d = some res) : Fcloud_CheckClasses_1 [.list n cs, .agg [.int .i64 a, .int .i64 b, .int .i64 c, .int .i64 d]] = some res :=
  fn_of Ecloud_CheckClasses_1_ok rfl rfl lo_nil ((tcloud_CheckClasses_1_eq _ _ _ _ _ _ _).trans h)

/-! ### cloud_itemError_classes -/

def Ecloud_itemError_classes : List Entry := [.out 90 (RSh.one (CK.int IntKind.i64))]
theorem Ecloud_itemError_classes_ok : ∀ e ∈ Ecloud_itemError_classes, EntOK env e := (ent_out ent_nil)
def Tcloud_itemError_classes_0a (n0 : Nat) (c1 : List PV) (n2 : Nat) (c3 : List PV) (i4 : Int) (i5 : Int) : Q := ⟨(tm 27 [(0, (AV.p (PV.list n0 c1))), (1, (AV.p (PV.fn 90 []))), (9, (AV.p (PV.list n2 c3))), (10, (AV.p (PV.int IntKind.i64 i4))), (11, (AV.p (PV.int IntKind.i64 i5)))]), (mm 27 [])⟩
def Xcloud_itemError_classes_0a (y : Int × Int) : Ext × Q := (Ext.ret, ⟨(tm 27 [(4, (AV.p (PV.int IntKind.i64 y.1))), (5, (AV.p (PV.int IntKind.i64 y.2)))]), (mm 27 [])⟩)
def Icloud_itemError_classes_0a (q : Ext × S) : Int × Int := ((pP_int1 (pA_p (avT q.2 4))), (pP_int1 (pA_p (avT q.2 5))))
def Xcloud_itemError_classes_0b (_y : Unit) : Ext × Q := (Ext.normal, ⟨(tm 27 []), (mm 27 [])⟩)
def Icloud_itemError_classes_0b (_q : Ext × S) : Unit := ()
abbrev Ycloud_itemError_classes_0 : Type := (Int × Int) ⊕ ((Unit))
def XLcloud_itemError_classes_0 : XL Ycloud_itemError_classes_0 := .more Xcloud_itemError_classes_0a (.one Xcloud_itemError_classes_0b)
def Icloud_itemError_classes_0 (q : Ext × S) : Ycloud_itemError_classes_0 := bif (cE q.1 == 2) then (Sum.inl (Icloud_itemError_classes_0a q)) else (Sum.inr (Icloud_itemError_classes_0b q))
theorem XIcloud_itemError_classes_0a (y : Int × Int) : Icloud_itemError_classes_0 (xe (Xcloud_itemError_classes_0a y)) = (Sum.inl y) := rfl
theorem XIcloud_itemError_classes_0b (y : Unit) : Icloud_itemError_classes_0 (xe (Xcloud_itemError_classes_0b y)) = (Sum.inr y) := rfl
theorem XIcloud_itemError_classes_0 (y : Ycloud_itemError_classes_0) : Icloud_itemError_classes_0 (xe (XLcloud_itemError_classes_0.fn y)) = y := (match y with | .inl y => XIcloud_itemError_classes_0a y | .inr y => XIcloud_itemError_classes_0b y)
noncomputable abbrev Lcloud_itemError_classes_0 : Q → Option Ycloud_itemError_classes_0 := lpO env a151.body 0 XLcloud_itemError_classes_0
noncomputable abbrev Rcloud_itemError_classes_0 : Q → Option (Ext × S) := lpR env a151.body 0
theorem Lcloud_itemError_classes_0a_of {s : Q} {y : Int × Int} (h : Rcloud_itemError_classes_0 s = exO (Xcloud_itemError_classes_0a y)) : Lcloud_itemError_classes_0 s = some (Sum.inl y) := lpO_of Icloud_itemError_classes_0 XIcloud_itemError_classes_0 (y := (Sum.inl y)) h
theorem Lcloud_itemError_classes_0b_of {s : Q} {y : Unit} (h : Rcloud_itemError_classes_0 s = exO (Xcloud_itemError_classes_0b y)) : Lcloud_itemError_classes_0 s = some (Sum.inr y) := lpO_of Icloud_itemError_classes_0 XIcloud_itemError_classes_0 (y := (Sum.inr y)) h
theorem Ucloud_itemError_classes : uniq ((blocksOf a151.body).map (·.1)) = true := by kernel_rfl
def Bcloud_itemError_classes_0a (F : FnT) (N : Q → Option (Ext × S)) (E : Ext × Q → Option (Ext × S)) (_L0 : Q → Option Ycloud_itemError_classes_0) (n0 : Nat) (c1 : List PV) (n2 : Nat) (c3 : List PV) (i4 : Int) (i5 : Int) : Option (Ext × S) :=
  bif (decide (i5 < i4)) then
    bif (decide (((0 : Int) ≤ i5) ∧ (i5 < (n2 : Int)))) then
      bindO (intC IntKind.i64 (c3[((Int.toNat i5) * 4)]?)) fun x0 =>
      bindO (intC IntKind.i64 (c3[(((Int.toNat i5) * 4) + 1)]?)) fun x1 =>
      bindO (intC IntKind.i64 (c3[((((Int.toNat i5) * 4) + 1) + 1)]?)) fun x2 =>
      bindO (intC IntKind.i64 (c3[(((((Int.toNat i5) * 4) + 1) + 1) + 1)]?)) fun x3 =>
      bif (decide (((0 : Int) ≤ i5) ∧ (i5 ≤ ((Prod.mk n0 c1).1 : Int)))) then
        bif (decide ((0 = (Int.toNat i5)) ∨ (((0 * 4) + (((Int.toNat i5) - 0) * 4)) ≤ (List.length c1)))) then
          bindO (F 90 (RSh.one (CK.int IntKind.i64)) [(PV.list ((Int.toNat i5) - 0) (List.take (((Int.toNat i5) - 0) * 4) (List.drop 0 c1))), (PV.agg [(PV.int IntKind.i64 x0), (PV.int IntKind.i64 x1), (PV.int IntKind.i64 x2), (PV.int IntKind.i64 x3)])]) fun (y4 : (Int)) =>
          bif (y4 != (0 : Int)) then
            E (Xcloud_itemError_classes_0a (i5, y4))
          else N (Tcloud_itemError_classes_0a n0 c1 n2 c3 i4 (w64 (i5 + (1 : Int))))
        else none
      else none
    else none
  else E (Xcloud_itemError_classes_0b ())
theorem Bcloud_itemError_classes_0a_eq (F : FnT) (N : Q → Option (Ext × S)) (E : Ext × Q → Option (Ext × S)) (L0 : Q → Option Ycloud_itemError_classes_0) (n0 : Nat) (c1 : List PV) (n2 : Nat) (c3 : List PV) (i4 : Int) (i5 : Int) : semB (callP F Ecloud_itemError_classes 20) s151 (loopT [⟨0, Ycloud_itemError_classes_0, L0, XLcloud_itemError_classes_0⟩]) 400 (blkIn a151.body 0) N E (Tcloud_itemError_classes_0a n0 c1 n2 c3 i4 i5) = Bcloud_itemError_classes_0a F N E L0 n0 c1 n2 c3 i4 i5 := by kernel_rfl
theorem Rcloud_itemError_classes_0a_of  (n0 : Nat) (c1 : List PV) (n2 : Nat) (c3 : List PV) (i4 : Int) (i5 : Int) {r : Ext × S} (h : Bcloud_itemError_classes_0a (Fn env) Rcloud_itemError_classes_0 exO Lcloud_itemError_classes_0 n0 c1 n2 c3 i4 i5 = some r) : Rcloud_itemError_classes_0 (Tcloud_itemError_classes_0a n0 c1 n2 c3 i4 i5) = some r :=
  lp_of Ecloud_itemError_classes_ok (by kernel_rfl) (lo_cons (lpO_ok Ucloud_itemError_classes) lo_nil) (by kernel_rfl) ((Bcloud_itemError_classes_0a_eq _ _ _ _ _ _ _ _ _ _).trans h)
def tcloud_itemError_classes (_F : FnT) (L0 : Q → Option Ycloud_itemError_classes_0)(n : Nat) (cs : List PV) : Option ((Int) × (Int)) :=
  bindO (L0 (Tcloud_itemError_classes_0a n cs n cs (n : Int) (0 : Int))) fun z =>
  Sum.elim (fun y0 =>
    some (y0.1, y0.2)) (fun _y1 =>
    some ((0 : Int), (0 : Int))) z
theorem tcloud_itemError_classes_eq (F : FnT) (L0 : Q → Option Ycloud_itemError_classes_0)(n : Nat) (cs : List PV) : semF (callP F Ecloud_itemError_classes 20) s151 (loopT [⟨0, Ycloud_itemError_classes_0, L0, XLcloud_itemError_classes_0⟩]) 400 a151 [.list n cs, .fn 90 []] (fun rv => decR (RSh.tup [(Prod.mk false [(CK.int IntKind.i64)]), (Prod.mk false [(CK.int IntKind.i64)])]) rv.pv) = tcloud_itemError_classes F L0 n cs := by kernel_rfl
noncomputable abbrev Fcloud_itemError_classes (args : List PV) := Fn env 151 (RSh.tup [(Prod.mk false [(CK.int IntKind.i64)]), (Prod.mk false [(CK.int IntKind.i64)])]) args
theorem Fcloud_itemError_classes_of (n : Nat) (cs : List PV) {res : ((Int) × (Int))} (h : tcloud_itemError_classes (Fn env) Lcloud_itemError_classes_0 n cs = some res) : Fcloud_itemError_classes [.list n cs, .fn 90 []] = some res :=
  fn_of Ecloud_itemError_classes_ok rfl rfl (lo_cons (lpO_ok Ucloud_itemError_classes) lo_nil) ((tcloud_itemError_classes_eq _ _ _ _).trans h)

/-! ### cloud_listError_classes -/

def Ecloud_listError_classes : List Entry := [.out 151 (RSh.tup [(Prod.mk false [(CK.int IntKind.i64)]), (Prod.mk false [(CK.int IntKind.i64)])])]
theorem Ecloud_listError_classes_ok : ∀ e ∈ Ecloud_listError_classes, EntOK env e := (ent_out ent_nil)
theorem Ucloud_listError_classes : uniq ((blocksOf a126.body).map (·.1)) = true := by kernel_rfl
def tcloud_listError_classes (F : FnT)(n : Nat) (cs : List PV) (m : Int) : Option ((Int) × (Int)) :=
  bif (decide ((n : Int) > m)) then
    some ((0 : Int), (8 : Int))
  else bindO (F 151 (RSh.tup [(Prod.mk false [(CK.int IntKind.i64)]), (Prod.mk false [(CK.int IntKind.i64)])]) [(PV.list n cs), (PV.fn 90 [])]) fun (y0 : ((Int) × (Int))) =>
  some (y0.1, y0.2)
theorem tcloud_listError_classes_eq (F : FnT)(n : Nat) (cs : List PV) (m : Int) : semF (callP F Ecloud_listError_classes 20) s126 (loopT []) 400 a126 [.list n cs, .int .i64 m, .fn 90 []] (fun rv => decR (RSh.tup [(Prod.mk false [(CK.int IntKind.i64)]), (Prod.mk false [(CK.int IntKind.i64)])]) rv.pv) = tcloud_listError_classes F n cs m := by kernel_rfl
noncomputable abbrev Fcloud_listError_classes (args : List PV) := Fn env 126 (RSh.tup [(Prod.mk false [(CK.int IntKind.i64)]), (Prod.mk false [(CK.int IntKind.i64)])]) args
theorem Fcloud_listError_classes_of (n : Nat) (cs : List PV) (m : Int) {res : ((Int) × (Int))} (h : tcloud_listError_classes (Fn env) n cs m = some res) : Fcloud_listError_classes [.list n cs, .int .i64 m, .fn 90 []] = some res :=
  fn_of Ecloud_listError_classes_ok rfl rfl lo_nil ((tcloud_listError_classes_eq _ _ _ _).trans h)

/-! ### cloud_filledError_classes -/

def Ecloud_filledError_classes : List Entry := [.out 126 (RSh.tup [(Prod.mk false [(CK.int IntKind.i64)]), (Prod.mk false [(CK.int IntKind.i64)])])]
theorem Ecloud_filledError_classes_ok : ∀ e ∈ Ecloud_filledError_classes, EntOK env e := (ent_out ent_nil)
theorem Ucloud_filledError_classes : uniq ((blocksOf a89.body).map (·.1)) = true := by kernel_rfl
def tcloud_filledError_classes (F : FnT)(n : Nat) (cs : List PV) (m : Int) : Option ((Int) × (Int)) :=
  bif ((n : Int) == (0 : Int)) then
    some ((0 : Int), (10 : Int))
  else bindO (F 126 (RSh.tup [(Prod.mk false [(CK.int IntKind.i64)]), (Prod.mk false [(CK.int IntKind.i64)])]) [(PV.list n cs), (PV.int IntKind.i64 m), (PV.fn 90 [])]) fun (y0 : ((Int) × (Int))) =>
  some (y0.1, y0.2)
theorem tcloud_filledError_classes_eq (F : FnT)(n : Nat) (cs : List PV) (m : Int) : semF (callP F Ecloud_filledError_classes 20) s89 (loopT []) 400 a89 [.list n cs, .int .i64 m, .fn 90 []] (fun rv => decR (RSh.tup [(Prod.mk false [(CK.int IntKind.i64)]), (Prod.mk false [(CK.int IntKind.i64)])]) rv.pv) = tcloud_filledError_classes F n cs m := by kernel_rfl
noncomputable abbrev Fcloud_filledError_classes (args : List PV) := Fn env 89 (RSh.tup [(Prod.mk false [(CK.int IntKind.i64)]), (Prod.mk false [(CK.int IntKind.i64)])]) args
theorem Fcloud_filledError_classes_of (n : Nat) (cs : List PV) (m : Int) {res : ((Int) × (Int))} (h : tcloud_filledError_classes (Fn env) n cs m = some res) : Fcloud_filledError_classes [.list n cs, .int .i64 m, .fn 90 []] = some res :=
  fn_of Ecloud_filledError_classes_ok rfl rfl lo_nil ((tcloud_filledError_classes_eq _ _ _ _).trans h)

/-! ### cloud_CheckClasses -/

def Ecloud_CheckClasses : List Entry := [.out 89 (RSh.tup [(Prod.mk false [(CK.int IntKind.i64)]), (Prod.mk false [(CK.int IntKind.i64)])])]
theorem Ecloud_CheckClasses_ok : ∀ e ∈ Ecloud_CheckClasses, EntOK env e := (ent_out ent_nil)
theorem Ucloud_CheckClasses : uniq ((blocksOf a45.body).map (·.1)) = true := by kernel_rfl
def tcloud_CheckClasses (F : FnT) (p0n : Nat) (p0c : List PV) : Option ((Int) × (Int)) :=
  bindO (F 89 (RSh.tup [(Prod.mk false [(CK.int IntKind.i64)]), (Prod.mk false [(CK.int IntKind.i64)])]) [(PV.list p0n p0c), (PV.int IntKind.i64 (10 : Int)), (PV.fn 90 [])]) fun (y0 : ((Int) × (Int))) =>
  some (y0.1, y0.2)
theorem tcloud_CheckClasses_eq (F : FnT) (p0n : Nat) (p0c : List PV) : semF (callP F Ecloud_CheckClasses 20) s45 (loopT []) 400 a45 [PV.list p0n p0c] (fun rv => decR (RSh.tup [(Prod.mk false [(CK.int IntKind.i64)]), (Prod.mk false [(CK.int IntKind.i64)])]) rv.pv) = tcloud_CheckClasses F p0n p0c := by kernel_rfl
noncomputable abbrev Fcloud_CheckClasses (args : List PV) := Fn env 45 (RSh.tup [(Prod.mk false [(CK.int IntKind.i64)]), (Prod.mk false [(CK.int IntKind.i64)])]) args
theorem Fcloud_CheckClasses_of  (p0n : Nat) (p0c : List PV) {res : ((Int) × (Int))} (h : tcloud_CheckClasses (Fn env) p0n p0c = some res) : Fcloud_CheckClasses [PV.list p0n p0c] = some res :=
  fn_of Ecloud_CheckClasses_ok rfl rfl lo_nil ((tcloud_CheckClasses_eq _ _ _).trans h)

/-! ### cloud_classesError -/

def Ecloud_classesError : List Entry := [.out 45 (RSh.tup [(Prod.mk false [(CK.int IntKind.i64)]), (Prod.mk false [(CK.int IntKind.i64)])])]
theorem Ecloud_classesError_ok : ∀ e ∈ Ecloud_classesError, EntOK env e := (ent_out ent_nil)
theorem Ucloud_classesError : uniq ((blocksOf a92.body).map (·.1)) = true := by kernel_rfl
def tcloud_classesError (F : FnT) (p0n : Nat) (p0c : List PV) : Option (Int) :=
  bindO (F 45 (RSh.tup [(Prod.mk false [(CK.int IntKind.i64)]), (Prod.mk false [(CK.int IntKind.i64)])]) [(PV.list p0n p0c)]) fun (y0 : ((Int) × (Int))) =>
  some y0.2
theorem tcloud_classesError_eq (F : FnT) (p0n : Nat) (p0c : List PV) : semF (callP F Ecloud_classesError 20) s92 (loopT []) 400 a92 [PV.list p0n p0c] (fun rv => decR (RSh.one (CK.int IntKind.i64)) rv.pv) = tcloud_classesError F p0n p0c := by kernel_rfl
noncomputable abbrev Fcloud_classesError (args : List PV) := Fn env 92 (RSh.one (CK.int IntKind.i64)) args
theorem Fcloud_classesError_of  (p0n : Nat) (p0c : List PV) {res : (Int)} (h : tcloud_classesError (Fn env) p0n p0c = some res) : Fcloud_classesError [PV.list p0n p0c] = some res :=
  fn_of Ecloud_classesError_ok rfl rfl lo_nil ((tcloud_classesError_eq _ _ _).trans h)

/-! ### cloud_isIn -/

def Ecloud_isIn : List Entry := []
theorem Ecloud_isIn_ok : ∀ e ∈ Ecloud_isIn, EntOK env e := ent_nil
theorem Ucloud_isIn : uniq ((blocksOf a129.body).map (·.1)) = true := by kernel_rfl
def tcloud_isIn (_F : FnT) (p0_0 : Int) (p0_1 : Int) (p1 : Int) : Option (Bool) :=
  bif (decide (p1 ≥ p0_0)) then
    bif (decide (p1 ≤ p0_1)) then
      some true
    else some false
  else some false
theorem tcloud_isIn_eq (F : FnT) (p0_0 : Int) (p0_1 : Int) (p1 : Int) : semF (callP F Ecloud_isIn 20) s129 (loopT []) 400 a129 [PV.agg [PV.int IntKind.i64 p0_0, PV.int IntKind.i64 p0_1], PV.int IntKind.i64 p1] (fun rv => decR (RSh.one CK.bool) rv.pv) = tcloud_isIn F p0_0 p0_1 p1 := by kernel_rfl
noncomputable abbrev Fcloud_isIn (args : List PV) := Fn env 129 (RSh.one CK.bool) args
theorem Fcloud_isIn_of  (p0_0 : Int) (p0_1 : Int) (p1 : Int) {res : (Bool)} (h : tcloud_isIn (Fn env) p0_0 p0_1 p1 = some res) : Fcloud_isIn [PV.agg [PV.int IntKind.i64 p0_0, PV.int IntKind.i64 p0_1], PV.int IntKind.i64 p1] = some res :=
  fn_of Ecloud_isIn_ok rfl rfl lo_nil ((tcloud_isIn_eq _ _ _ _).trans h)

/-! ### cloud_classOf_1 -/

def Ecloud_classOf_1 : List Entry := [.out 129 (RSh.one CK.bool)]
theorem Ecloud_classOf_1_ok : ∀ e ∈ Ecloud_classOf_1, EntOK env e := (ent_out ent_nil)
theorem Ucloud_classOf_1 : uniq ((blocksOf a128.body).map (·.1)) = true := by kernel_rfl
def tcloud_classOf_1 (F : FnT)(a b c d x y : Int) : Option (Bool) :=
  bindO (F 129 (RSh.one CK.bool) [(PV.agg [(PV.int IntKind.i64 a), (PV.int IntKind.i64 b)]), (PV.int IntKind.i64 x)]) fun (y0 : (Bool)) =>
  bif y0 then
    bindO (F 129 (RSh.one CK.bool) [(PV.agg [(PV.int IntKind.i64 c), (PV.int IntKind.i64 d)]), (PV.int IntKind.i64 y)]) fun (y1 : (Bool)) =>
    bif y1 then
      some true
    else some false
  else some false
theorem tcloud_classOf_1_eq (F : FnT)(a b c d x y : Int) : semF (callP F Ecloud_classOf_1 20) s128 (loopT []) 400 a128 [.agg [.int .i64 a, .int .i64 b, .int .i64 c, .int .i64 d], .imm [.int .i64 x, .int .i64 y] 0] (fun rv => decR (RSh.one CK.bool) rv.pv) = tcloud_classOf_1 F a b c d x y := by kernel_rfl
noncomputable abbrev Fcloud_classOf_1 (args : List PV) := Fn env 128 (RSh.one CK.bool) args
theorem Fcloud_classOf_1_of (a b c d x y : Int) {res : (Bool)} (h : tcloud_classOf_1 (Fn env) a b c d x y = some res) : Fcloud_classOf_1 [.agg [.int .i64 a, .int .i64 b, .int .i64 c, .int .i64 d], .imm [.int .i64 x, .int .i64 y] 0] = some res :=
  fn_of Ecloud_classOf_1_ok rfl rfl lo_nil ((tcloud_classOf_1_eq _ _ _ _ _ _ _).trans h)

/-! ### slices_IndexFunc_classes -/

def Eslices_IndexFunc_classes : List Entry := [.out 128 (RSh.one CK.bool)]
theorem Eslices_IndexFunc_classes_ok : ∀ e ∈ Eslices_IndexFunc_classes, EntOK env e := (ent_out ent_nil)
def Tslices_IndexFunc_classes_0a (n0 : Nat) (c1 : List PV) (i2 : Int) (i3 : Int) (i4 : Int) (i5 : Int) : Q := ⟨(tm 19 [(0, (AV.p (PV.list n0 c1))), (1, (AV.p (PV.fn 128 [(PV.imm [(PV.int IntKind.i64 i2), (PV.int IntKind.i64 i3)] 0)]))), (7, (AV.p (PV.int IntKind.i64 i4))), (8, (AV.p (PV.int IntKind.i64 i5)))]), (mm 19 [])⟩
def Xslices_IndexFunc_classes_0a (y : Int) : Ext × Q := (Ext.ret, ⟨(tm 19 [(4, (AV.p (PV.int IntKind.i64 y)))]), (mm 19 [])⟩)
def Islices_IndexFunc_classes_0a (q : Ext × S) : Int := (pP_int1 (pA_p (avT q.2 4)))
def Xslices_IndexFunc_classes_0b (_y : Unit) : Ext × Q := (Ext.normal, ⟨(tm 19 []), (mm 19 [])⟩)
def Islices_IndexFunc_classes_0b (_q : Ext × S) : Unit := ()
abbrev Yslices_IndexFunc_classes_0 : Type := (Int) ⊕ ((Unit))
def XLslices_IndexFunc_classes_0 : XL Yslices_IndexFunc_classes_0 := .more Xslices_IndexFunc_classes_0a (.one Xslices_IndexFunc_classes_0b)
def Islices_IndexFunc_classes_0 (q : Ext × S) : Yslices_IndexFunc_classes_0 := bif (cE q.1 == 2) then (Sum.inl (Islices_IndexFunc_classes_0a q)) else (Sum.inr (Islices_IndexFunc_classes_0b q))
theorem XIslices_IndexFunc_classes_0a (y : Int) : Islices_IndexFunc_classes_0 (xe (Xslices_IndexFunc_classes_0a y)) = (Sum.inl y) := rfl
theorem XIslices_IndexFunc_classes_0b (y : Unit) : Islices_IndexFunc_classes_0 (xe (Xslices_IndexFunc_classes_0b y)) = (Sum.inr y) := rfl
theorem XIslices_IndexFunc_classes_0 (y : Yslices_IndexFunc_classes_0) : Islices_IndexFunc_classes_0 (xe (XLslices_IndexFunc_classes_0.fn y)) = y := (match y with | .inl y => XIslices_IndexFunc_classes_0a y | .inr y => XIslices_IndexFunc_classes_0b y)
noncomputable abbrev Lslices_IndexFunc_classes_0 : Q → Option Yslices_IndexFunc_classes_0 := lpO env a127.body 0 XLslices_IndexFunc_classes_0
noncomputable abbrev Rslices_IndexFunc_classes_0 : Q → Option (Ext × S) := lpR env a127.body 0
theorem Lslices_IndexFunc_classes_0a_of {s : Q} {y : Int} (h : Rslices_IndexFunc_classes_0 s = exO (Xslices_IndexFunc_classes_0a y)) : Lslices_IndexFunc_classes_0 s = some (Sum.inl y) := lpO_of Islices_IndexFunc_classes_0 XIslices_IndexFunc_classes_0 (y := (Sum.inl y)) h
theorem Lslices_IndexFunc_classes_0b_of {s : Q} {y : Unit} (h : Rslices_IndexFunc_classes_0 s = exO (Xslices_IndexFunc_classes_0b y)) : Lslices_IndexFunc_classes_0 s = some (Sum.inr y) := lpO_of Islices_IndexFunc_classes_0 XIslices_IndexFunc_classes_0 (y := (Sum.inr y)) h
theorem Uslices_IndexFunc_classes : uniq ((blocksOf a127.body).map (·.1)) = true := by kernel_rfl
def Bslices_IndexFunc_classes_0a (F : FnT) (N : Q → Option (Ext × S)) (E : Ext × Q → Option (Ext × S)) (_L0 : Q → Option Yslices_IndexFunc_classes_0) (n0 : Nat) (c1 : List PV) (i2 : Int) (i3 : Int) (i4 : Int) (i5 : Int) : Option (Ext × S) :=
  bif (decide (i5 < i4)) then
    bif (decide (((0 : Int) ≤ i5) ∧ (i5 < (n0 : Int)))) then
      bindO (intC IntKind.i64 (c1[((Int.toNat i5) * 4)]?)) fun x0 =>
      bindO (intC IntKind.i64 (c1[(((Int.toNat i5) * 4) + 1)]?)) fun x1 =>
      bindO (intC IntKind.i64 (c1[((((Int.toNat i5) * 4) + 1) + 1)]?)) fun x2 =>
      bindO (intC IntKind.i64 (c1[(((((Int.toNat i5) * 4) + 1) + 1) + 1)]?)) fun x3 =>
      bindO (F 128 (RSh.one CK.bool) [(PV.agg [(PV.int IntKind.i64 x0), (PV.int IntKind.i64 x1), (PV.int IntKind.i64 x2), (PV.int IntKind.i64 x3)]), (PV.imm [(PV.int IntKind.i64 i2), (PV.int IntKind.i64 i3)] 0)]) fun (y4 : (Bool)) =>
      bif y4 then
        E (Xslices_IndexFunc_classes_0a i5)
      else N (Tslices_IndexFunc_classes_0a n0 c1 i2 i3 i4 (w64 (i5 + (1 : Int))))
    else none
  else E (Xslices_IndexFunc_classes_0b ())
theorem Bslices_IndexFunc_classes_0a_eq (F : FnT) (N : Q → Option (Ext × S)) (E : Ext × Q → Option (Ext × S)) (L0 : Q → Option Yslices_IndexFunc_classes_0) (n0 : Nat) (c1 : List PV) (i2 : Int) (i3 : Int) (i4 : Int) (i5 : Int) : semB (callP F Eslices_IndexFunc_classes 20) s127 (loopT [⟨0, Yslices_IndexFunc_classes_0, L0, XLslices_IndexFunc_classes_0⟩]) 400 (blkIn a127.body 0) N E (Tslices_IndexFunc_classes_0a n0 c1 i2 i3 i4 i5) = Bslices_IndexFunc_classes_0a F N E L0 n0 c1 i2 i3 i4 i5 := by kernel_rfl
theorem Rslices_IndexFunc_classes_0a_of  (n0 : Nat) (c1 : List PV) (i2 : Int) (i3 : Int) (i4 : Int) (i5 : Int) {r : Ext × S} (h : Bslices_IndexFunc_classes_0a (Fn env) Rslices_IndexFunc_classes_0 exO Lslices_IndexFunc_classes_0 n0 c1 i2 i3 i4 i5 = some r) : Rslices_IndexFunc_classes_0 (Tslices_IndexFunc_classes_0a n0 c1 i2 i3 i4 i5) = some r :=
  lp_of Eslices_IndexFunc_classes_ok (by kernel_rfl) (lo_cons (lpO_ok Uslices_IndexFunc_classes) lo_nil) (by kernel_rfl) ((Bslices_IndexFunc_classes_0a_eq _ _ _ _ _ _ _ _ _ _).trans h)
def tslices_IndexFunc_classes (_F : FnT) (L0 : Q → Option Yslices_IndexFunc_classes_0)(n : Nat) (cs : List PV) (x y : Int) : Option (Int) :=
  bindO (L0 (Tslices_IndexFunc_classes_0a n cs x y (n : Int) (0 : Int))) fun z =>
  Sum.elim (fun y0 =>
    some y0) (fun _y1 =>
    some (-1 : Int)) z
theorem tslices_IndexFunc_classes_eq (F : FnT) (L0 : Q → Option Yslices_IndexFunc_classes_0)(n : Nat) (cs : List PV) (x y : Int) : semF (callP F Eslices_IndexFunc_classes 20) s127 (loopT [⟨0, Yslices_IndexFunc_classes_0, L0, XLslices_IndexFunc_classes_0⟩]) 400 a127 [.list n cs, .fn 128 [.imm [.int .i64 x, .int .i64 y] 0]] (fun rv => decR (RSh.one (CK.int IntKind.i64)) rv.pv) = tslices_IndexFunc_classes F L0 n cs x y := by kernel_rfl
noncomputable abbrev Fslices_IndexFunc_classes (args : List PV) := Fn env 127 (RSh.one (CK.int IntKind.i64)) args
theorem Fslices_IndexFunc_classes_of (n : Nat) (cs : List PV) (x y : Int) {res : (Int)} (h : tslices_IndexFunc_classes (Fn env) Lslices_IndexFunc_classes_0 n cs x y = some res) : Fslices_IndexFunc_classes [.list n cs, .fn 128 [.imm [.int .i64 x, .int .i64 y] 0]] = some res :=
  fn_of Eslices_IndexFunc_classes_ok rfl rfl (lo_cons (lpO_ok Uslices_IndexFunc_classes) lo_nil) ((tslices_IndexFunc_classes_eq _ _ _ _ _ _).trans h)

/-! ### cloud_classOf -/

def Ecloud_classOf : List Entry := [.out 127 (RSh.one (CK.int IntKind.i64))]
theorem Ecloud_classOf_ok : ∀ e ∈ Ecloud_classOf, EntOK env e := (ent_out ent_nil)
theorem Ucloud_classOf : uniq ((blocksOf a93.body).map (·.1)) = true := by kernel_rfl
def tcloud_classOf (F : FnT) (p0n : Nat) (p0c : List PV) (p1_0 : Int) (p1_1 : Int) : Option (Int) :=
  bindO (F 127 (RSh.one (CK.int IntKind.i64)) [(PV.list p0n p0c), (PV.fn 128 [(PV.imm [(PV.int IntKind.i64 p1_0), (PV.int IntKind.i64 p1_1)] 0)])]) fun (y0 : (Int)) =>
  some y0
theorem tcloud_classOf_eq (F : FnT) (p0n : Nat) (p0c : List PV) (p1_0 : Int) (p1_1 : Int) : semF (callP F Ecloud_classOf 20) s93 (loopT []) 400 a93 [PV.list p0n p0c, PV.agg [PV.int IntKind.i64 p1_0, PV.int IntKind.i64 p1_1]] (fun rv => decR (RSh.one (CK.int IntKind.i64)) rv.pv) = tcloud_classOf F p0n p0c p1_0 p1_1 := by kernel_rfl
noncomputable abbrev Fcloud_classOf (args : List PV) := Fn env 93 (RSh.one (CK.int IntKind.i64)) args
theorem Fcloud_classOf_of  (p0n : Nat) (p0c : List PV) (p1_0 : Int) (p1_1 : Int) {res : (Int)} (h : tcloud_classOf (Fn env) p0n p0c p1_0 p1_1 = some res) : Fcloud_classOf [PV.list p0n p0c, PV.agg [PV.int IntKind.i64 p1_0, PV.int IntKind.i64 p1_1]] = some res :=
  fn_of Ecloud_classOf_ok rfl rfl lo_nil ((tcloud_classOf_eq _ _ _ _ _).trans h)

/-! ### cloud_ClassOf -/

def Ecloud_ClassOf : List Entry := [.out 92 (RSh.one (CK.int IntKind.i64)), .out 91 (RSh.one (CK.int IntKind.i64)), .out 62 (RSh.one (CK.int IntKind.i64)), .out 93 (RSh.one (CK.int IntKind.i64))]
theorem Ecloud_ClassOf_ok : ∀ e ∈ Ecloud_ClassOf, EntOK env e := (ent_out (ent_out (ent_out (ent_out ent_nil))))
theorem Ucloud_ClassOf : uniq ((blocksOf a47.body).map (·.1)) = true := by kernel_rfl
def tcloud_ClassOf (F : FnT) (p0n : Nat) (p0c : List PV) (p1_0 : Int) (p1_1 : Int) : Option ((Int) × (Int)) :=
  bindO (F 92 (RSh.one (CK.int IntKind.i64)) [(PV.list p0n p0c)]) fun (y0 : (Int)) =>
  bindO (F 91 (RSh.one (CK.int IntKind.i64)) [(PV.agg [(PV.int IntKind.i64 p1_0), (PV.int IntKind.i64 p1_1)])]) fun (y1 : (Int)) =>
  bindO (F 62 (RSh.one (CK.int IntKind.i64)) [(PV.list 2 [(PV.int IntKind.i64 y0), (PV.int IntKind.i64 y1)])]) fun (y2 : (Int)) =>
  bif (y2 != (0 : Int)) then
    some ((0 : Int), y2)
  else bindO (F 93 (RSh.one (CK.int IntKind.i64)) [(PV.list p0n p0c), (PV.agg [(PV.int IntKind.i64 p1_0), (PV.int IntKind.i64 p1_1)])]) fun (y3 : (Int)) =>
  bif (decide (y3 < (0 : Int))) then
    some ((0 : Int), (12 : Int))
  else some (y3, (0 : Int))
theorem tcloud_ClassOf_eq (F : FnT) (p0n : Nat) (p0c : List PV) (p1_0 : Int) (p1_1 : Int) : semF (callP F Ecloud_ClassOf 20) s47 (loopT []) 400 a47 [PV.list p0n p0c, PV.agg [PV.int IntKind.i64 p1_0, PV.int IntKind.i64 p1_1]] (fun rv => decR (RSh.tup [(Prod.mk false [(CK.int IntKind.i64)]), (Prod.mk false [(CK.int IntKind.i64)])]) rv.pv) = tcloud_ClassOf F p0n p0c p1_0 p1_1 := by kernel_rfl
noncomputable abbrev Fcloud_ClassOf (args : List PV) := Fn env 47 (RSh.tup [(Prod.mk false [(CK.int IntKind.i64)]), (Prod.mk false [(CK.int IntKind.i64)])]) args
theorem Fcloud_ClassOf_of  (p0n : Nat) (p0c : List PV) (p1_0 : Int) (p1_1 : Int) {res : ((Int) × (Int))} (h : tcloud_ClassOf (Fn env) p0n p0c p1_0 p1_1 = some res) : Fcloud_ClassOf [PV.list p0n p0c, PV.agg [PV.int IntKind.i64 p1_0, PV.int IntKind.i64 p1_1]] = some res :=
  fn_of Ecloud_ClassOf_ok rfl rfl lo_nil ((tcloud_ClassOf_eq _ _ _ _ _).trans h)

/-! ### cloud_isSure -/

def Ecloud_isSure : List Entry := [.out 93 (RSh.one (CK.int IntKind.i64))]
theorem Ecloud_isSure_ok : ∀ e ∈ Ecloud_isSure, EntOK env e := (ent_out ent_nil)
def Tcloud_isSure_0a (n0 : Nat) (c1 : List PV) (i2 : Int) (i3 : Int) (i4 : Int) (i5 : Int) (i6 : Int) (i7 : Int) : Q := ⟨(tm 46 [(0, (AV.p (PV.list n0 c1))), (2, (AV.p (PV.int IntKind.i64 i2))), (4, (AV.loc 4 0)), (7, (AV.p (PV.int IntKind.i64 i3))), (16, (AV.p (PV.int IntKind.i64 i4))), (17, (AV.p (PV.int IntKind.i64 i5)))]), (mm 46 [(4, (Bk.pcs true [(PV.int IntKind.i64 i6), (PV.int IntKind.i64 i7)]))])⟩
def Xcloud_isSure_0a (y : Int × Int) : Ext × Q := (Ext.normal, ⟨(tm 46 []), (mm 46 [(4, (Bk.pcs true [(PV.int IntKind.i64 y.1), (PV.int IntKind.i64 y.2)]))])⟩)
def Icloud_isSure_0a (q : Ext × S) : Int × Int := ((pP_int1 (hdP (pB_pcs1 (avM q.2 4)))), (pP_int1 (hdP (List.tail (pB_pcs1 (avM q.2 4))))))
def Xcloud_isSure_0b (_y : Unit) : Ext × Q := (Ext.ret, ⟨(tm 46 [(6, (AV.p (PV.bool false)))]), (mm 46 [])⟩)
def Icloud_isSure_0b (_q : Ext × S) : Unit := ()
abbrev Ycloud_isSure_0 : Type := (Int × Int) ⊕ ((Unit))
def XLcloud_isSure_0 : XL Ycloud_isSure_0 := .more Xcloud_isSure_0a (.one Xcloud_isSure_0b)
def Icloud_isSure_0 (q : Ext × S) : Ycloud_isSure_0 := bif (cE q.1 == 0) then (Sum.inl (Icloud_isSure_0a q)) else (Sum.inr (Icloud_isSure_0b q))
theorem XIcloud_isSure_0a (y : Int × Int) : Icloud_isSure_0 (xe (Xcloud_isSure_0a y)) = (Sum.inl y) := rfl
theorem XIcloud_isSure_0b (y : Unit) : Icloud_isSure_0 (xe (Xcloud_isSure_0b y)) = (Sum.inr y) := rfl
theorem XIcloud_isSure_0 (y : Ycloud_isSure_0) : Icloud_isSure_0 (xe (XLcloud_isSure_0.fn y)) = y := (match y with | .inl y => XIcloud_isSure_0a y | .inr y => XIcloud_isSure_0b y)
noncomputable abbrev Lcloud_isSure_0 : Q → Option Ycloud_isSure_0 := lpO env a94.body 0 XLcloud_isSure_0
noncomputable abbrev Rcloud_isSure_0 : Q → Option (Ext × S) := lpR env a94.body 0
theorem Lcloud_isSure_0a_of {s : Q} {y : Int × Int} (h : Rcloud_isSure_0 s = exO (Xcloud_isSure_0a y)) : Lcloud_isSure_0 s = some (Sum.inl y) := lpO_of Icloud_isSure_0 XIcloud_isSure_0 (y := (Sum.inl y)) h
theorem Lcloud_isSure_0b_of {s : Q} {y : Unit} (h : Rcloud_isSure_0 s = exO (Xcloud_isSure_0b y)) : Lcloud_isSure_0 s = some (Sum.inr y) := lpO_of Icloud_isSure_0 XIcloud_isSure_0 (y := (Sum.inr y)) h
def Tcloud_isSure_2a (n0 : Nat) (c1 : List PV) (i2 : Int) (i3 : Int) (i4 : Int) (i5 : Int) (i6 : Int) (i7 : Int) (i8 : Int) (i9 : Int) (i10 : Int) : Q := ⟨(tm 46 [(0, (AV.p (PV.list n0 c1))), (2, (AV.p (PV.int IntKind.i64 i2))), (4, (AV.loc 4 0)), (7, (AV.p (PV.int IntKind.i64 i3))), (8, (AV.p (PV.int IntKind.i64 i4))), (16, (AV.p (PV.int IntKind.i64 i5))), (17, (AV.p (PV.int IntKind.i64 i6))), (22, (AV.p (PV.int IntKind.i64 i7))), (23, (AV.p (PV.int IntKind.i64 i8)))]), (mm 46 [(4, (Bk.pcs true [(PV.int IntKind.i64 i9), (PV.int IntKind.i64 i10)]))])⟩
def Xcloud_isSure_2a (_y : Unit) : Ext × Q := (Ext.ret, ⟨(tm 46 [(6, (AV.p (PV.bool false)))]), (mm 46 [])⟩)
def Icloud_isSure_2a (_q : Ext × S) : Unit := ()
def Xcloud_isSure_2b (y : Nat × List PV × Int × Int × Int × Int × Int × Int) : Ext × Q := (Ext.normal, ⟨(tm 46 [(0, (AV.p (PV.list y.1 y.2.1))), (2, (AV.p (PV.int IntKind.i64 y.2.2.1))), (4, (AV.loc 4 0)), (7, (AV.p (PV.int IntKind.i64 y.2.2.2.1))), (16, (AV.p (PV.int IntKind.i64 y.2.2.2.2.1))), (17, (AV.p (PV.int IntKind.i64 y.2.2.2.2.2.1)))]), (mm 46 [(4, (Bk.pcs true [(PV.int IntKind.i64 y.2.2.2.2.2.2.1), (PV.int IntKind.i64 y.2.2.2.2.2.2.2)]))])⟩)
def Icloud_isSure_2b (q : Ext × S) : Nat × List PV × Int × Int × Int × Int × Int × Int := ((pP_list0 (pA_p (avT q.2 0))), (pP_list1 (pA_p (avT q.2 0))), (pP_int1 (pA_p (avT q.2 2))), (pP_int1 (pA_p (avT q.2 7))), (pP_int1 (pA_p (avT q.2 16))), (pP_int1 (pA_p (avT q.2 17))), (pP_int1 (hdP (pB_pcs1 (avM q.2 4)))), (pP_int1 (hdP (List.tail (pB_pcs1 (avM q.2 4))))))
abbrev Ycloud_isSure_2 : Type := (Unit) ⊕ ((Nat × List PV × Int × Int × Int × Int × Int × Int))
def XLcloud_isSure_2 : XL Ycloud_isSure_2 := .more Xcloud_isSure_2a (.one Xcloud_isSure_2b)
def Icloud_isSure_2 (q : Ext × S) : Ycloud_isSure_2 := bif (cE q.1 == 2) then (Sum.inl (Icloud_isSure_2a q)) else (Sum.inr (Icloud_isSure_2b q))
theorem XIcloud_isSure_2a (y : Unit) : Icloud_isSure_2 (xe (Xcloud_isSure_2a y)) = (Sum.inl y) := rfl
theorem XIcloud_isSure_2b (y : Nat × List PV × Int × Int × Int × Int × Int × Int) : Icloud_isSure_2 (xe (Xcloud_isSure_2b y)) = (Sum.inr y) := rfl
theorem XIcloud_isSure_2 (y : Ycloud_isSure_2) : Icloud_isSure_2 (xe (XLcloud_isSure_2.fn y)) = y := (match y with | .inl y => XIcloud_isSure_2a y | .inr y => XIcloud_isSure_2b y)
noncomputable abbrev Lcloud_isSure_2 : Q → Option Ycloud_isSure_2 := lpO env a94.body 2 XLcloud_isSure_2
noncomputable abbrev Rcloud_isSure_2 : Q → Option (Ext × S) := lpR env a94.body 2
theorem Lcloud_isSure_2a_of {s : Q} {y : Unit} (h : Rcloud_isSure_2 s = exO (Xcloud_isSure_2a y)) : Lcloud_isSure_2 s = some (Sum.inl y) := lpO_of Icloud_isSure_2 XIcloud_isSure_2 (y := (Sum.inl y)) h
theorem Lcloud_isSure_2b_of {s : Q} {y : Nat × List PV × Int × Int × Int × Int × Int × Int} (h : Rcloud_isSure_2 s = exO (Xcloud_isSure_2b y)) : Lcloud_isSure_2 s = some (Sum.inr y) := lpO_of Icloud_isSure_2 XIcloud_isSure_2 (y := (Sum.inr y)) h
theorem Ucloud_isSure : uniq ((blocksOf a94.body).map (·.1)) = true := by kernel_rfl
def Bcloud_isSure_0a (_F : FnT) (N : Q → Option (Ext × S)) (E : Ext × Q → Option (Ext × S)) (_L0 : Q → Option Ycloud_isSure_0) (L2 : Q → Option Ycloud_isSure_2) (n0 : Nat) (c1 : List PV) (i2 : Int) (i3 : Int) (i4 : Int) (i5 : Int) (i6 : Int) (i7 : Int) : Option (Ext × S) :=
  bif (decide (i5 < i4)) then
    bindO (L2 (Tcloud_isSure_2a n0 c1 i2 i3 i5 i4 i5 (w64 ((w64 ((2 : Int) * i2)) + (1 : Int))) (0 : Int) i6 i7)) fun z =>
    Sum.elim (fun _y0 =>
      E (Xcloud_isSure_0b ())) (fun y1 =>
      N (Tcloud_isSure_0a y1.1 y1.2.1 y1.2.2.1 y1.2.2.2.1 y1.2.2.2.2.1 (w64 (y1.2.2.2.2.2.1 + (1 : Int))) y1.2.2.2.2.2.2.1 y1.2.2.2.2.2.2.2)) z
  else E (Xcloud_isSure_0a (i6, i7))
theorem Bcloud_isSure_0a_eq (F : FnT) (N : Q → Option (Ext × S)) (E : Ext × Q → Option (Ext × S)) (L0 : Q → Option Ycloud_isSure_0) (L2 : Q → Option Ycloud_isSure_2) (n0 : Nat) (c1 : List PV) (i2 : Int) (i3 : Int) (i4 : Int) (i5 : Int) (i6 : Int) (i7 : Int) : semB (callP F Ecloud_isSure 20) s94 (loopT [⟨0, Ycloud_isSure_0, L0, XLcloud_isSure_0⟩, ⟨2, Ycloud_isSure_2, L2, XLcloud_isSure_2⟩]) 400 (blkIn a94.body 0) N E (Tcloud_isSure_0a n0 c1 i2 i3 i4 i5 i6 i7) = Bcloud_isSure_0a F N E L0 L2 n0 c1 i2 i3 i4 i5 i6 i7 := by kernel_rfl
theorem Rcloud_isSure_0a_of  (n0 : Nat) (c1 : List PV) (i2 : Int) (i3 : Int) (i4 : Int) (i5 : Int) (i6 : Int) (i7 : Int) {r : Ext × S} (h : Bcloud_isSure_0a (Fn env) Rcloud_isSure_0 exO Lcloud_isSure_0 Lcloud_isSure_2 n0 c1 i2 i3 i4 i5 i6 i7 = some r) : Rcloud_isSure_0 (Tcloud_isSure_0a n0 c1 i2 i3 i4 i5 i6 i7) = some r :=
  lp_of Ecloud_isSure_ok (by kernel_rfl) (lo_cons (lpO_ok Ucloud_isSure) (lo_cons (lpO_ok Ucloud_isSure) lo_nil)) (by kernel_rfl) ((Bcloud_isSure_0a_eq _ _ _ _ _ _ _ _ _ _ _ _ _).trans h)
def Bcloud_isSure_2a (F : FnT) (N : Q → Option (Ext × S)) (E : Ext × Q → Option (Ext × S)) (_L0 : Q → Option Ycloud_isSure_0) (_L2 : Q → Option Ycloud_isSure_2) (n0 : Nat) (c1 : List PV) (i2 : Int) (i3 : Int) (i4 : Int) (i5 : Int) (i6 : Int) (i7 : Int) (i8 : Int) (i9 : Int) (i10 : Int) : Option (Ext × S) :=
  bif (decide (i8 < i7)) then
    bindO (F 93 (RSh.one (CK.int IntKind.i64)) [(PV.list n0 c1), (PV.agg [(PV.int IntKind.i64 (w64 ((w64 (i9 + i4)) - i2))), (PV.int IntKind.i64 (w64 ((w64 (i10 + i8)) - i2)))])]) fun (y0 : (Int)) =>
    bif (y0 != i3) then
      E (Xcloud_isSure_2a ())
    else N (Tcloud_isSure_2a n0 c1 i2 i3 i4 i5 i6 i7 (w64 (i8 + (1 : Int))) i9 i10)
  else E (Xcloud_isSure_2b (n0, c1, i2, i3, i5, i6, i9, i10))
theorem Bcloud_isSure_2a_eq (F : FnT) (N : Q → Option (Ext × S)) (E : Ext × Q → Option (Ext × S)) (L0 : Q → Option Ycloud_isSure_0) (L2 : Q → Option Ycloud_isSure_2) (n0 : Nat) (c1 : List PV) (i2 : Int) (i3 : Int) (i4 : Int) (i5 : Int) (i6 : Int) (i7 : Int) (i8 : Int) (i9 : Int) (i10 : Int) : semB (callP F Ecloud_isSure 20) s94 (loopT [⟨0, Ycloud_isSure_0, L0, XLcloud_isSure_0⟩, ⟨2, Ycloud_isSure_2, L2, XLcloud_isSure_2⟩]) 400 (blkIn a94.body 2) N E (Tcloud_isSure_2a n0 c1 i2 i3 i4 i5 i6 i7 i8 i9 i10) = Bcloud_isSure_2a F N E L0 L2 n0 c1 i2 i3 i4 i5 i6 i7 i8 i9 i10 := by kernel_rfl
theorem Rcloud_isSure_2a_of  (n0 : Nat) (c1 : List PV) (i2 : Int) (i3 : Int) (i4 : Int) (i5 : Int) (i6 : Int) (i7 : Int) (i8 : Int) (i9 : Int) (i10 : Int) {r : Ext × S} (h : Bcloud_isSure_2a (Fn env) Rcloud_isSure_2 exO Lcloud_isSure_0 Lcloud_isSure_2 n0 c1 i2 i3 i4 i5 i6 i7 i8 i9 i10 = some r) : Rcloud_isSure_2 (Tcloud_isSure_2a n0 c1 i2 i3 i4 i5 i6 i7 i8 i9 i10) = some r :=
  lp_of Ecloud_isSure_ok (by kernel_rfl) (lo_cons (lpO_ok Ucloud_isSure) (lo_cons (lpO_ok Ucloud_isSure) lo_nil)) (by kernel_rfl) ((Bcloud_isSure_2a_eq _ _ _ _ _ _ _ _ _ _ _ _ _ _ _ _).trans h)
def tcloud_isSure (F : FnT) (L0 : Q → Option Ycloud_isSure_0) (_L2 : Q → Option Ycloud_isSure_2) (p0n : Nat) (p0c : List PV) (p1_0 : Int) (p1_1 : Int) (p2 : Int) : Option (Bool) :=
  bindO (F 93 (RSh.one (CK.int IntKind.i64)) [(PV.list p0n p0c), (PV.agg [(PV.int IntKind.i64 p1_0), (PV.int IntKind.i64 p1_1)])]) fun (y0 : (Int)) =>
  bindO (L0 (Tcloud_isSure_0a p0n p0c p2 y0 (w64 ((w64 ((2 : Int) * p2)) + (1 : Int))) (0 : Int) p1_0 p1_1)) fun z =>
  Sum.elim (fun _y1 =>
    some true) (fun _y2 =>
    some false) z
theorem tcloud_isSure_eq (F : FnT) (L0 : Q → Option Ycloud_isSure_0) (L2 : Q → Option Ycloud_isSure_2) (p0n : Nat) (p0c : List PV) (p1_0 : Int) (p1_1 : Int) (p2 : Int) : semF (callP F Ecloud_isSure 20) s94 (loopT [⟨0, Ycloud_isSure_0, L0, XLcloud_isSure_0⟩, ⟨2, Ycloud_isSure_2, L2, XLcloud_isSure_2⟩]) 400 a94 [PV.list p0n p0c, PV.agg [PV.int IntKind.i64 p1_0, PV.int IntKind.i64 p1_1], PV.int IntKind.i64 p2] (fun rv => decR (RSh.one CK.bool) rv.pv) = tcloud_isSure F L0 L2 p0n p0c p1_0 p1_1 p2 := by kernel_rfl
noncomputable abbrev Fcloud_isSure (args : List PV) := Fn env 94 (RSh.one CK.bool) args
theorem Fcloud_isSure_of  (p0n : Nat) (p0c : List PV) (p1_0 : Int) (p1_1 : Int) (p2 : Int) {res : (Bool)} (h : tcloud_isSure (Fn env) Lcloud_isSure_0 Lcloud_isSure_2 p0n p0c p1_0 p1_1 p2 = some res) : Fcloud_isSure [PV.list p0n p0c, PV.agg [PV.int IntKind.i64 p1_0, PV.int IntKind.i64 p1_1], PV.int IntKind.i64 p2] = some res :=
  fn_of Ecloud_isSure_ok rfl rfl (lo_cons (lpO_ok Ucloud_isSure) (lo_cons (lpO_ok Ucloud_isSure) lo_nil)) ((tcloud_isSure_eq _ _ _ _ _ _ _ _).trans h)

/-! ### cloud_IsSureClass -/

def Ecloud_IsSureClass : List Entry := [.out 92 (RSh.one (CK.int IntKind.i64)), .out 91 (RSh.one (CK.int IntKind.i64)), .out 69 (RSh.one (CK.int IntKind.i64)), .out 93 (RSh.one (CK.int IntKind.i64)), .out 71 (RSh.one (CK.int IntKind.i64)), .out 62 (RSh.one (CK.int IntKind.i64)), .out 94 (RSh.one CK.bool)]
theorem Ecloud_IsSureClass_ok : ∀ e ∈ Ecloud_IsSureClass, EntOK env e := (ent_out (ent_out (ent_out (ent_out (ent_out (ent_out (ent_out ent_nil)))))))
theorem Ucloud_IsSureClass : uniq ((blocksOf a48.body).map (·.1)) = true := by kernel_rfl
def tcloud_IsSureClass (F : FnT) (p0n : Nat) (p0c : List PV) (p1_0 : Int) (p1_1 : Int) (p2 : Int) : Option ((Bool) × (Int)) :=
  bindO (F 92 (RSh.one (CK.int IntKind.i64)) [(PV.list p0n p0c)]) fun (y0 : (Int)) =>
  bindO (F 91 (RSh.one (CK.int IntKind.i64)) [(PV.agg [(PV.int IntKind.i64 p1_0), (PV.int IntKind.i64 p1_1)])]) fun (y1 : (Int)) =>
  bindO (F 69 (RSh.one (CK.int IntKind.i64)) [(PV.int IntKind.i64 p2), (PV.int IntKind.i64 (0 : Int)), (PV.int IntKind.i64 (10 : Int))]) fun (y2 : (Int)) =>
  bindO (F 93 (RSh.one (CK.int IntKind.i64)) [(PV.list p0n p0c), (PV.agg [(PV.int IntKind.i64 p1_0), (PV.int IntKind.i64 p1_1)])]) fun (y3 : (Int)) =>
  bif (decide (y3 < (0 : Int))) then
    bindO (F 71 (RSh.one (CK.int IntKind.i64)) [(PV.bool true), (PV.int IntKind.i64 (12 : Int))]) fun (y4 : (Int)) =>
    bindO (F 62 (RSh.one (CK.int IntKind.i64)) [(PV.list 4 [(PV.int IntKind.i64 y0), (PV.int IntKind.i64 y1), (PV.int IntKind.i64 y2), (PV.int IntKind.i64 y4)])]) fun (y5 : (Int)) =>
    bif (y5 != (0 : Int)) then
      some (false, y5)
    else bindO (F 94 (RSh.one CK.bool) [(PV.list p0n p0c), (PV.agg [(PV.int IntKind.i64 p1_0), (PV.int IntKind.i64 p1_1)]), (PV.int IntKind.i64 p2)]) fun (y6 : (Bool)) =>
    bif y6 then
      some (true, (0 : Int))
    else some (false, (0 : Int))
  else bindO (F 71 (RSh.one (CK.int IntKind.i64)) [(PV.bool false), (PV.int IntKind.i64 (12 : Int))]) fun (y7 : (Int)) =>
  bindO (F 62 (RSh.one (CK.int IntKind.i64)) [(PV.list 4 [(PV.int IntKind.i64 y0), (PV.int IntKind.i64 y1), (PV.int IntKind.i64 y2), (PV.int IntKind.i64 y7)])]) fun (y8 : (Int)) =>
  bif (y8 != (0 : Int)) then
    some (false, y8)
  else bindO (F 94 (RSh.one CK.bool) [(PV.list p0n p0c), (PV.agg [(PV.int IntKind.i64 p1_0), (PV.int IntKind.i64 p1_1)]), (PV.int IntKind.i64 p2)]) fun (y9 : (Bool)) =>
  bif y9 then
    some (true, (0 : Int))
  else some (false, (0 : Int))
theorem tcloud_IsSureClass_eq (F : FnT) (p0n : Nat) (p0c : List PV) (p1_0 : Int) (p1_1 : Int) (p2 : Int) : semF (callP F Ecloud_IsSureClass 20) s48 (loopT []) 400 a48 [PV.list p0n p0c, PV.agg [PV.int IntKind.i64 p1_0, PV.int IntKind.i64 p1_1], PV.int IntKind.i64 p2] (fun rv => decR (RSh.tup [(Prod.mk false [CK.bool]), (Prod.mk false [(CK.int IntKind.i64)])]) rv.pv) = tcloud_IsSureClass F p0n p0c p1_0 p1_1 p2 := by kernel_rfl
noncomputable abbrev Fcloud_IsSureClass (args : List PV) := Fn env 48 (RSh.tup [(Prod.mk false [CK.bool]), (Prod.mk false [(CK.int IntKind.i64)])]) args
theorem Fcloud_IsSureClass_of  (p0n : Nat) (p0c : List PV) (p1_0 : Int) (p1_1 : Int) (p2 : Int) {res : ((Bool) × (Int))} (h : tcloud_IsSureClass (Fn env) p0n p0c p1_0 p1_1 p2 = some res) : Fcloud_IsSureClass [PV.list p0n p0c, PV.agg [PV.int IntKind.i64 p1_0, PV.int IntKind.i64 p1_1], PV.int IntKind.i64 p2] = some res :=
  fn_of Ecloud_IsSureClass_ok rfl rfl lo_nil ((tcloud_IsSureClass_eq _ _ _ _ _ _).trans h)

/-! ### r8_CopyClasses -/

def Er8_CopyClasses : List Entry := []
theorem Er8_CopyClasses_ok : ∀ e ∈ Er8_CopyClasses, EntOK env e := ent_nil
theorem Ur8_CopyClasses : uniq ((blocksOf a46.body).map (·.1)) = true := by kernel_rfl
def tr8_CopyClasses (_F : FnT) (p0n : Nat) (p0c : List PV) : Option ((Nat) × (List PV)) :=
  bif (decide (p0n = 0)) then
    some (0, [])
  else bif (decide ((List.length p0c) = (p0n * 4))) then
    bif (decide ((0 = 0) ∧ ((0 + p0n) ≤ big))) then
      bif (decide ((0 + p0n) = (0 + p0n))) then
        some ((0 + p0n), ([] ++ p0c))
      else none
    else none
  else none
theorem tr8_CopyClasses_eq (F : FnT) (p0n : Nat) (p0c : List PV) : semF (callP F Er8_CopyClasses 20) s46 (loopT []) 400 a46 [PV.list p0n p0c] (fun rv => decR (RSh.one CK.list) rv.pv) = tr8_CopyClasses F p0n p0c := by kernel_rfl
noncomputable abbrev Fr8_CopyClasses (args : List PV) := Fn env 46 (RSh.one CK.list) args
theorem Fr8_CopyClasses_of  (p0n : Nat) (p0c : List PV) {res : ((Nat) × (List PV))} (h : tr8_CopyClasses (Fn env) p0n p0c = some res) : Fr8_CopyClasses [PV.list p0n p0c] = some res :=
  fn_of Er8_CopyClasses_ok rfl rfl lo_nil ((tr8_CopyClasses_eq _ _ _).trans h)

/-! ### r8_CheckClasses -/

def Er8_CheckClasses : List Entry := [.out 31 (RSh.one CK.bool)]
theorem Er8_CheckClasses_ok : ∀ e ∈ Er8_CheckClasses, EntOK env e := (ent_out ent_nil)
def Tr8_CheckClasses_0a (n0 : Nat) (c1 : List PV) (i2 : Int) : Q := ⟨(tm 65 [(0, (AV.p (PV.list n0 c1))), (4, (AV.p (PV.int IntKind.i64 i2)))]), (mm 65 [])⟩
def Xr8_CheckClasses_0a (y : Int × Int) : Ext × Q := (Ext.ret, ⟨(tm 65 [(2, (AV.p (PV.int IntKind.i64 y.1))), (3, (AV.p (PV.int IntKind.i64 y.2)))]), (mm 65 [])⟩)
def Ir8_CheckClasses_0a (q : Ext × S) : Int × Int := ((pP_int1 (pA_p (avT q.2 2))), (pP_int1 (pA_p (avT q.2 3))))
def Xr8_CheckClasses_0b (_y : Unit) : Ext × Q := (Ext.normal, ⟨(tm 65 []), (mm 65 [])⟩)
def Ir8_CheckClasses_0b (_q : Ext × S) : Unit := ()
abbrev Yr8_CheckClasses_0 : Type := (Int × Int) ⊕ ((Unit))
def XLr8_CheckClasses_0 : XL Yr8_CheckClasses_0 := .more Xr8_CheckClasses_0a (.one Xr8_CheckClasses_0b)
def Ir8_CheckClasses_0 (q : Ext × S) : Yr8_CheckClasses_0 := bif (cE q.1 == 2) then (Sum.inl (Ir8_CheckClasses_0a q)) else (Sum.inr (Ir8_CheckClasses_0b q))
theorem XIr8_CheckClasses_0a (y : Int × Int) : Ir8_CheckClasses_0 (xe (Xr8_CheckClasses_0a y)) = (Sum.inl y) := rfl
theorem XIr8_CheckClasses_0b (y : Unit) : Ir8_CheckClasses_0 (xe (Xr8_CheckClasses_0b y)) = (Sum.inr y) := rfl
theorem XIr8_CheckClasses_0 (y : Yr8_CheckClasses_0) : Ir8_CheckClasses_0 (xe (XLr8_CheckClasses_0.fn y)) = y := (match y with | .inl y => XIr8_CheckClasses_0a y | .inr y => XIr8_CheckClasses_0b y)
noncomputable abbrev Lr8_CheckClasses_0 : Q → Option Yr8_CheckClasses_0 := lpO env a49.body 0 XLr8_CheckClasses_0
noncomputable abbrev Rr8_CheckClasses_0 : Q → Option (Ext × S) := lpR env a49.body 0
theorem Lr8_CheckClasses_0a_of {s : Q} {y : Int × Int} (h : Rr8_CheckClasses_0 s = exO (Xr8_CheckClasses_0a y)) : Lr8_CheckClasses_0 s = some (Sum.inl y) := lpO_of Ir8_CheckClasses_0 XIr8_CheckClasses_0 (y := (Sum.inl y)) h
theorem Lr8_CheckClasses_0b_of {s : Q} {y : Unit} (h : Rr8_CheckClasses_0 s = exO (Xr8_CheckClasses_0b y)) : Lr8_CheckClasses_0 s = some (Sum.inr y) := lpO_of Ir8_CheckClasses_0 XIr8_CheckClasses_0 (y := (Sum.inr y)) h
theorem Ur8_CheckClasses : uniq ((blocksOf a49.body).map (·.1)) = true := by kernel_rfl
def Br8_CheckClasses_0a (F : FnT) (N : Q → Option (Ext × S)) (E : Ext × Q → Option (Ext × S)) (_L0 : Q → Option Yr8_CheckClasses_0) (n0 : Nat) (c1 : List PV) (i2 : Int) : Option (Ext × S) :=
  bif (decide (i2 < (n0 : Int))) then
    bif (decide (((0 : Int) ≤ i2) ∧ (i2 < (n0 : Int)))) then
      bindO (intC IntKind.i64 (c1[(((Int.toNat i2) * 4) + 0)]?)) fun x0 =>
      bindO (intC IntKind.i64 (c1[((((Int.toNat i2) * 4) + 0) + 1)]?)) fun x1 =>
      bif (decide (((0 : Int) ≤ i2) ∧ (i2 < (n0 : Int)))) then
        bindO (intC IntKind.i64 (c1[(((Int.toNat i2) * 4) + 2)]?)) fun x2 =>
        bindO (intC IntKind.i64 (c1[((((Int.toNat i2) * 4) + 2) + 1)]?)) fun x3 =>
        bindO (F 31 (RSh.one CK.bool) [(PV.int IntKind.i64 x0), (PV.int IntKind.i64 (0 : Int)), (PV.int IntKind.i64 (10000 : Int))]) fun (y4 : (Bool)) =>
        bif y4 then
          bindO (F 31 (RSh.one CK.bool) [(PV.int IntKind.i64 x1), (PV.int IntKind.i64 (0 : Int)), (PV.int IntKind.i64 (10000 : Int))]) fun (y5 : (Bool)) =>
          bif y5 then
            bindO (F 31 (RSh.one CK.bool) [(PV.int IntKind.i64 x2), (PV.int IntKind.i64 (0 : Int)), (PV.int IntKind.i64 (1000 : Int))]) fun (y6 : (Bool)) =>
            bif y6 then
              bindO (F 31 (RSh.one CK.bool) [(PV.int IntKind.i64 x3), (PV.int IntKind.i64 (0 : Int)), (PV.int IntKind.i64 (1000 : Int))]) fun (y7 : (Bool)) =>
              bif y7 then
                bif (decide (x0 > x1)) then
                  E (Xr8_CheckClasses_0a (i2, (9 : Int)))
                else bif (decide (x2 > x3)) then
                  E (Xr8_CheckClasses_0a (i2, (9 : Int)))
                else N (Tr8_CheckClasses_0a n0 c1 (w64 (i2 + (1 : Int))))
              else E (Xr8_CheckClasses_0a (i2, (2 : Int)))
            else E (Xr8_CheckClasses_0a (i2, (2 : Int)))
          else E (Xr8_CheckClasses_0a (i2, (2 : Int)))
        else E (Xr8_CheckClasses_0a (i2, (2 : Int)))
      else none
    else none
  else E (Xr8_CheckClasses_0b ())
theorem Br8_CheckClasses_0a_eq (F : FnT) (N : Q → Option (Ext × S)) (E : Ext × Q → Option (Ext × S)) (L0 : Q → Option Yr8_CheckClasses_0) (n0 : Nat) (c1 : List PV) (i2 : Int) : semB (callP F Er8_CheckClasses 20) s49 (loopT [⟨0, Yr8_CheckClasses_0, L0, XLr8_CheckClasses_0⟩]) 400 (blkIn a49.body 0) N E (Tr8_CheckClasses_0a n0 c1 i2) = Br8_CheckClasses_0a F N E L0 n0 c1 i2 := by kernel_rfl
theorem Rr8_CheckClasses_0a_of  (n0 : Nat) (c1 : List PV) (i2 : Int) {r : Ext × S} (h : Br8_CheckClasses_0a (Fn env) Rr8_CheckClasses_0 exO Lr8_CheckClasses_0 n0 c1 i2 = some r) : Rr8_CheckClasses_0 (Tr8_CheckClasses_0a n0 c1 i2) = some r :=
  lp_of Er8_CheckClasses_ok (by kernel_rfl) (lo_cons (lpO_ok Ur8_CheckClasses) lo_nil) (by kernel_rfl) ((Br8_CheckClasses_0a_eq _ _ _ _ _ _ _).trans h)
def tr8_CheckClasses (_F : FnT) (L0 : Q → Option Yr8_CheckClasses_0) (p0n : Nat) (p0c : List PV) : Option ((Int) × (Int)) :=
  bif ((p0n : Int) == (0 : Int)) then
    some ((0 : Int), (10 : Int))
  else bif (decide ((p0n : Int) > (10 : Int))) then
    some ((0 : Int), (8 : Int))
  else bindO (L0 (Tr8_CheckClasses_0a p0n p0c (0 : Int))) fun z =>
  Sum.elim (fun y0 =>
    some (y0.1, y0.2)) (fun _y1 =>
    some ((0 : Int), (0 : Int))) z
theorem tr8_CheckClasses_eq (F : FnT) (L0 : Q → Option Yr8_CheckClasses_0) (p0n : Nat) (p0c : List PV) : semF (callP F Er8_CheckClasses 20) s49 (loopT [⟨0, Yr8_CheckClasses_0, L0, XLr8_CheckClasses_0⟩]) 400 a49 [PV.list p0n p0c] (fun rv => decR (RSh.tup [(Prod.mk false [(CK.int IntKind.i64)]), (Prod.mk false [(CK.int IntKind.i64)])]) rv.pv) = tr8_CheckClasses F L0 p0n p0c := by kernel_rfl
noncomputable abbrev Fr8_CheckClasses (args : List PV) := Fn env 49 (RSh.tup [(Prod.mk false [(CK.int IntKind.i64)]), (Prod.mk false [(CK.int IntKind.i64)])]) args
theorem Fr8_CheckClasses_of  (p0n : Nat) (p0c : List PV) {res : ((Int) × (Int))} (h : tr8_CheckClasses (Fn env) Lr8_CheckClasses_0 p0n p0c = some res) : Fr8_CheckClasses [PV.list p0n p0c] = some res :=
  fn_of Er8_CheckClasses_ok rfl rfl (lo_cons (lpO_ok Ur8_CheckClasses) lo_nil) ((tr8_CheckClasses_eq _ _ _ _).trans h)

/-! ### r8_SignalErr -/

def Er8_SignalErr : List Entry := [.out 31 (RSh.one CK.bool)]
theorem Er8_SignalErr_ok : ∀ e ∈ Er8_SignalErr, EntOK env e := (ent_out ent_nil)
theorem Ur8_SignalErr : uniq ((blocksOf a50.body).map (·.1)) = true := by kernel_rfl
def tr8_SignalErr (F : FnT) (p0_0 : Int) (p0_1 : Int) : Option (Int) :=
  bindO (F 31 (RSh.one CK.bool) [(PV.int IntKind.i64 p0_0), (PV.int IntKind.i64 (0 : Int)), (PV.int IntKind.i64 (10000 : Int))]) fun (y0 : (Bool)) =>
  bif y0 then
    bindO (F 31 (RSh.one CK.bool) [(PV.int IntKind.i64 p0_1), (PV.int IntKind.i64 (0 : Int)), (PV.int IntKind.i64 (1000 : Int))]) fun (y1 : (Bool)) =>
    bif y1 then
      some (0 : Int)
    else some (2 : Int)
  else some (2 : Int)
theorem tr8_SignalErr_eq (F : FnT) (p0_0 : Int) (p0_1 : Int) : semF (callP F Er8_SignalErr 20) s50 (loopT []) 400 a50 [PV.agg [PV.int IntKind.i64 p0_0, PV.int IntKind.i64 p0_1]] (fun rv => decR (RSh.one (CK.int IntKind.i64)) rv.pv) = tr8_SignalErr F p0_0 p0_1 := by kernel_rfl
noncomputable abbrev Fr8_SignalErr (args : List PV) := Fn env 50 (RSh.one (CK.int IntKind.i64)) args
theorem Fr8_SignalErr_of  (p0_0 : Int) (p0_1 : Int) {res : (Int)} (h : tr8_SignalErr (Fn env) p0_0 p0_1 = some res) : Fr8_SignalErr [PV.agg [PV.int IntKind.i64 p0_0, PV.int IntKind.i64 p0_1]] = some res :=
  fn_of Er8_SignalErr_ok rfl rfl lo_nil ((tr8_SignalErr_eq _ _ _).trans h)

/-! ### r8_Class -/

def Er8_Class : List Entry := [.out 31 (RSh.one CK.bool)]
theorem Er8_Class_ok : ∀ e ∈ Er8_Class, EntOK env e := (ent_out ent_nil)
def Tr8_Class_0a (n0 : Nat) (c1 : List PV) (i2 : Int) (i3 : Int) (i4 : Int) : Q := ⟨(tm 45 [(0, (AV.p (PV.list n0 c1))), (3, (AV.loc 3 0)), (5, (AV.p (PV.int IntKind.i64 i2)))]), (mm 45 [(3, (Bk.pcs true [(PV.int IntKind.i64 i3), (PV.int IntKind.i64 i4)]))])⟩
def Xr8_Class_0a (y : Int) : Ext × Q := (Ext.ret, ⟨(tm 45 [(4, (AV.p (PV.int IntKind.i64 y)))]), (mm 45 [])⟩)
def Ir8_Class_0a (q : Ext × S) : Int := (pP_int1 (pA_p (avT q.2 4)))
def Xr8_Class_0b (y : Int × Int) : Ext × Q := (Ext.normal, ⟨(tm 45 []), (mm 45 [(3, (Bk.pcs true [(PV.int IntKind.i64 y.1), (PV.int IntKind.i64 y.2)]))])⟩)
def Ir8_Class_0b (q : Ext × S) : Int × Int := ((pP_int1 (hdP (pB_pcs1 (avM q.2 3)))), (pP_int1 (hdP (List.tail (pB_pcs1 (avM q.2 3))))))
abbrev Yr8_Class_0 : Type := (Int) ⊕ ((Int × Int))
def XLr8_Class_0 : XL Yr8_Class_0 := .more Xr8_Class_0a (.one Xr8_Class_0b)
def Ir8_Class_0 (q : Ext × S) : Yr8_Class_0 := bif (cE q.1 == 2) then (Sum.inl (Ir8_Class_0a q)) else (Sum.inr (Ir8_Class_0b q))
theorem XIr8_Class_0a (y : Int) : Ir8_Class_0 (xe (Xr8_Class_0a y)) = (Sum.inl y) := rfl
theorem XIr8_Class_0b (y : Int × Int) : Ir8_Class_0 (xe (Xr8_Class_0b y)) = (Sum.inr y) := rfl
theorem XIr8_Class_0 (y : Yr8_Class_0) : Ir8_Class_0 (xe (XLr8_Class_0.fn y)) = y := (match y with | .inl y => XIr8_Class_0a y | .inr y => XIr8_Class_0b y)
noncomputable abbrev Lr8_Class_0 : Q → Option Yr8_Class_0 := lpO env a51.body 0 XLr8_Class_0
noncomputable abbrev Rr8_Class_0 : Q → Option (Ext × S) := lpR env a51.body 0
theorem Lr8_Class_0a_of {s : Q} {y : Int} (h : Rr8_Class_0 s = exO (Xr8_Class_0a y)) : Lr8_Class_0 s = some (Sum.inl y) := lpO_of Ir8_Class_0 XIr8_Class_0 (y := (Sum.inl y)) h
theorem Lr8_Class_0b_of {s : Q} {y : Int × Int} (h : Rr8_Class_0 s = exO (Xr8_Class_0b y)) : Lr8_Class_0 s = some (Sum.inr y) := lpO_of Ir8_Class_0 XIr8_Class_0 (y := (Sum.inr y)) h
theorem Ur8_Class : uniq ((blocksOf a51.body).map (·.1)) = true := by kernel_rfl
def Br8_Class_0a (F : FnT) (N : Q → Option (Ext × S)) (E : Ext × Q → Option (Ext × S)) (_L0 : Q → Option Yr8_Class_0) (n0 : Nat) (c1 : List PV) (i2 : Int) (i3 : Int) (i4 : Int) : Option (Ext × S) :=
  bif (decide (i2 < (n0 : Int))) then
    bif (decide (((0 : Int) ≤ i2) ∧ (i2 < (n0 : Int)))) then
      bindO (intC IntKind.i64 (c1[((((Int.toNat i2) * 4) + 0) + 0)]?)) fun x0 =>
      bif (decide (((0 : Int) ≤ i2) ∧ (i2 < (n0 : Int)))) then
        bindO (intC IntKind.i64 (c1[((((Int.toNat i2) * 4) + 0) + 1)]?)) fun x1 =>
        bindO (F 31 (RSh.one CK.bool) [(PV.int IntKind.i64 i3), (PV.int IntKind.i64 x0), (PV.int IntKind.i64 x1)]) fun (y2 : (Bool)) =>
        bif y2 then
          bif (decide (((0 : Int) ≤ i2) ∧ (i2 < (n0 : Int)))) then
            bindO (intC IntKind.i64 (c1[((((Int.toNat i2) * 4) + 2) + 0)]?)) fun x3 =>
            bif (decide (((0 : Int) ≤ i2) ∧ (i2 < (n0 : Int)))) then
              bindO (intC IntKind.i64 (c1[((((Int.toNat i2) * 4) + 2) + 1)]?)) fun x4 =>
              bindO (F 31 (RSh.one CK.bool) [(PV.int IntKind.i64 i4), (PV.int IntKind.i64 x3), (PV.int IntKind.i64 x4)]) fun (y5 : (Bool)) =>
              bif y5 then
                E (Xr8_Class_0a i2)
              else N (Tr8_Class_0a n0 c1 (w64 (i2 + (1 : Int))) i3 i4)
            else none
          else none
        else N (Tr8_Class_0a n0 c1 (w64 (i2 + (1 : Int))) i3 i4)
      else none
    else none
  else E (Xr8_Class_0b (i3, i4))
theorem Br8_Class_0a_eq (F : FnT) (N : Q → Option (Ext × S)) (E : Ext × Q → Option (Ext × S)) (L0 : Q → Option Yr8_Class_0) (n0 : Nat) (c1 : List PV) (i2 : Int) (i3 : Int) (i4 : Int) : semB (callP F Er8_Class 20) s51 (loopT [⟨0, Yr8_Class_0, L0, XLr8_Class_0⟩]) 400 (blkIn a51.body 0) N E (Tr8_Class_0a n0 c1 i2 i3 i4) = Br8_Class_0a F N E L0 n0 c1 i2 i3 i4 := by kernel_rfl
theorem Rr8_Class_0a_of  (n0 : Nat) (c1 : List PV) (i2 : Int) (i3 : Int) (i4 : Int) {r : Ext × S} (h : Br8_Class_0a (Fn env) Rr8_Class_0 exO Lr8_Class_0 n0 c1 i2 i3 i4 = some r) : Rr8_Class_0 (Tr8_Class_0a n0 c1 i2 i3 i4) = some r :=
  lp_of Er8_Class_ok (by kernel_rfl) (lo_cons (lpO_ok Ur8_Class) lo_nil) (by kernel_rfl) ((Br8_Class_0a_eq _ _ _ _ _ _ _ _ _).trans h)
def tr8_Class (_F : FnT) (L0 : Q → Option Yr8_Class_0) (p0n : Nat) (p0c : List PV) (p1_0 : Int) (p1_1 : Int) : Option (Int) :=
  bindO (L0 (Tr8_Class_0a p0n p0c (0 : Int) p1_0 p1_1)) fun z =>
  Sum.elim (fun y0 =>
    some y0) (fun _y1 =>
    some (-1 : Int)) z
theorem tr8_Class_eq (F : FnT) (L0 : Q → Option Yr8_Class_0) (p0n : Nat) (p0c : List PV) (p1_0 : Int) (p1_1 : Int) : semF (callP F Er8_Class 20) s51 (loopT [⟨0, Yr8_Class_0, L0, XLr8_Class_0⟩]) 400 a51 [PV.list p0n p0c, PV.agg [PV.int IntKind.i64 p1_0, PV.int IntKind.i64 p1_1]] (fun rv => decR (RSh.one (CK.int IntKind.i64)) rv.pv) = tr8_Class F L0 p0n p0c p1_0 p1_1 := by kernel_rfl
noncomputable abbrev Fr8_Class (args : List PV) := Fn env 51 (RSh.one (CK.int IntKind.i64)) args
theorem Fr8_Class_of  (p0n : Nat) (p0c : List PV) (p1_0 : Int) (p1_1 : Int) {res : (Int)} (h : tr8_Class (Fn env) Lr8_Class_0 p0n p0c p1_0 p1_1 = some res) : Fr8_Class [PV.list p0n p0c, PV.agg [PV.int IntKind.i64 p1_0, PV.int IntKind.i64 p1_1]] = some res :=
  fn_of Er8_Class_ok rfl rfl (lo_cons (lpO_ok Ur8_Class) lo_nil) ((tr8_Class_eq _ _ _ _ _ _).trans h)

/-! ### r8_Sure -/

def Er8_Sure : List Entry := [.out 51 (RSh.one (CK.int IntKind.i64))]
theorem Er8_Sure_ok : ∀ e ∈ Er8_Sure, EntOK env e := (ent_out ent_nil)
def Tr8_Sure_0a (n0 : Nat) (c1 : List PV) (i2 : Int) (i3 : Int) (i4 : Int) (i5 : Int) (i6 : Int) : Q := ⟨(tm 40 [(0, (AV.p (PV.list n0 c1))), (2, (AV.p (PV.int IntKind.i64 i2))), (4, (AV.loc 4 0)), (7, (AV.p (PV.int IntKind.i64 i3))), (8, (AV.p (PV.int IntKind.i64 i4)))]), (mm 40 [(4, (Bk.pcs true [(PV.int IntKind.i64 i5), (PV.int IntKind.i64 i6)]))])⟩
def Xr8_Sure_0a (y : Int × Int) : Ext × Q := (Ext.normal, ⟨(tm 40 []), (mm 40 [(4, (Bk.pcs true [(PV.int IntKind.i64 y.1), (PV.int IntKind.i64 y.2)]))])⟩)
def Ir8_Sure_0a (q : Ext × S) : Int × Int := ((pP_int1 (hdP (pB_pcs1 (avM q.2 4)))), (pP_int1 (hdP (List.tail (pB_pcs1 (avM q.2 4))))))
def Xr8_Sure_0b (_y : Unit) : Ext × Q := (Ext.ret, ⟨(tm 40 [(6, (AV.p (PV.bool false)))]), (mm 40 [])⟩)
def Ir8_Sure_0b (_q : Ext × S) : Unit := ()
abbrev Yr8_Sure_0 : Type := (Int × Int) ⊕ ((Unit))
def XLr8_Sure_0 : XL Yr8_Sure_0 := .more Xr8_Sure_0a (.one Xr8_Sure_0b)
def Ir8_Sure_0 (q : Ext × S) : Yr8_Sure_0 := bif (cE q.1 == 0) then (Sum.inl (Ir8_Sure_0a q)) else (Sum.inr (Ir8_Sure_0b q))
theorem XIr8_Sure_0a (y : Int × Int) : Ir8_Sure_0 (xe (Xr8_Sure_0a y)) = (Sum.inl y) := rfl
theorem XIr8_Sure_0b (y : Unit) : Ir8_Sure_0 (xe (Xr8_Sure_0b y)) = (Sum.inr y) := rfl
theorem XIr8_Sure_0 (y : Yr8_Sure_0) : Ir8_Sure_0 (xe (XLr8_Sure_0.fn y)) = y := (match y with | .inl y => XIr8_Sure_0a y | .inr y => XIr8_Sure_0b y)
noncomputable abbrev Lr8_Sure_0 : Q → Option Yr8_Sure_0 := lpO env a52.body 0 XLr8_Sure_0
noncomputable abbrev Rr8_Sure_0 : Q → Option (Ext × S) := lpR env a52.body 0
theorem Lr8_Sure_0a_of {s : Q} {y : Int × Int} (h : Rr8_Sure_0 s = exO (Xr8_Sure_0a y)) : Lr8_Sure_0 s = some (Sum.inl y) := lpO_of Ir8_Sure_0 XIr8_Sure_0 (y := (Sum.inl y)) h
theorem Lr8_Sure_0b_of {s : Q} {y : Unit} (h : Rr8_Sure_0 s = exO (Xr8_Sure_0b y)) : Lr8_Sure_0 s = some (Sum.inr y) := lpO_of Ir8_Sure_0 XIr8_Sure_0 (y := (Sum.inr y)) h
def Tr8_Sure_2a (n0 : Nat) (c1 : List PV) (i2 : Int) (i3 : Int) (i4 : Int) (i5 : Int) (i6 : Int) (i7 : Int) : Q := ⟨(tm 40 [(0, (AV.p (PV.list n0 c1))), (2, (AV.p (PV.int IntKind.i64 i2))), (4, (AV.loc 4 0)), (7, (AV.p (PV.int IntKind.i64 i3))), (8, (AV.p (PV.int IntKind.i64 i4))), (9, (AV.p (PV.int IntKind.i64 i5)))]), (mm 40 [(4, (Bk.pcs true [(PV.int IntKind.i64 i6), (PV.int IntKind.i64 i7)]))])⟩
def Xr8_Sure_2a (_y : Unit) : Ext × Q := (Ext.ret, ⟨(tm 40 [(6, (AV.p (PV.bool false)))]), (mm 40 [])⟩)
def Ir8_Sure_2a (_q : Ext × S) : Unit := ()
def Xr8_Sure_2b (y : Nat × List PV × Int × Int × Int × Int × Int) : Ext × Q := (Ext.normal, ⟨(tm 40 [(0, (AV.p (PV.list y.1 y.2.1))), (2, (AV.p (PV.int IntKind.i64 y.2.2.1))), (4, (AV.loc 4 0)), (7, (AV.p (PV.int IntKind.i64 y.2.2.2.1))), (8, (AV.p (PV.int IntKind.i64 y.2.2.2.2.1)))]), (mm 40 [(4, (Bk.pcs true [(PV.int IntKind.i64 y.2.2.2.2.2.1), (PV.int IntKind.i64 y.2.2.2.2.2.2)]))])⟩)
def Ir8_Sure_2b (q : Ext × S) : Nat × List PV × Int × Int × Int × Int × Int := ((pP_list0 (pA_p (avT q.2 0))), (pP_list1 (pA_p (avT q.2 0))), (pP_int1 (pA_p (avT q.2 2))), (pP_int1 (pA_p (avT q.2 7))), (pP_int1 (pA_p (avT q.2 8))), (pP_int1 (hdP (pB_pcs1 (avM q.2 4)))), (pP_int1 (hdP (List.tail (pB_pcs1 (avM q.2 4))))))
abbrev Yr8_Sure_2 : Type := (Unit) ⊕ ((Nat × List PV × Int × Int × Int × Int × Int))
def XLr8_Sure_2 : XL Yr8_Sure_2 := .more Xr8_Sure_2a (.one Xr8_Sure_2b)
def Ir8_Sure_2 (q : Ext × S) : Yr8_Sure_2 := bif (cE q.1 == 2) then (Sum.inl (Ir8_Sure_2a q)) else (Sum.inr (Ir8_Sure_2b q))
theorem XIr8_Sure_2a (y : Unit) : Ir8_Sure_2 (xe (Xr8_Sure_2a y)) = (Sum.inl y) := rfl
theorem XIr8_Sure_2b (y : Nat × List PV × Int × Int × Int × Int × Int) : Ir8_Sure_2 (xe (Xr8_Sure_2b y)) = (Sum.inr y) := rfl
theorem XIr8_Sure_2 (y : Yr8_Sure_2) : Ir8_Sure_2 (xe (XLr8_Sure_2.fn y)) = y := (match y with | .inl y => XIr8_Sure_2a y | .inr y => XIr8_Sure_2b y)
noncomputable abbrev Lr8_Sure_2 : Q → Option Yr8_Sure_2 := lpO env a52.body 2 XLr8_Sure_2
noncomputable abbrev Rr8_Sure_2 : Q → Option (Ext × S) := lpR env a52.body 2
theorem Lr8_Sure_2a_of {s : Q} {y : Unit} (h : Rr8_Sure_2 s = exO (Xr8_Sure_2a y)) : Lr8_Sure_2 s = some (Sum.inl y) := lpO_of Ir8_Sure_2 XIr8_Sure_2 (y := (Sum.inl y)) h
theorem Lr8_Sure_2b_of {s : Q} {y : Nat × List PV × Int × Int × Int × Int × Int} (h : Rr8_Sure_2 s = exO (Xr8_Sure_2b y)) : Lr8_Sure_2 s = some (Sum.inr y) := lpO_of Ir8_Sure_2 XIr8_Sure_2 (y := (Sum.inr y)) h
theorem Ur8_Sure : uniq ((blocksOf a52.body).map (·.1)) = true := by kernel_rfl
def Br8_Sure_0a (_F : FnT) (N : Q → Option (Ext × S)) (E : Ext × Q → Option (Ext × S)) (_L0 : Q → Option Yr8_Sure_0) (L2 : Q → Option Yr8_Sure_2) (n0 : Nat) (c1 : List PV) (i2 : Int) (i3 : Int) (i4 : Int) (i5 : Int) (i6 : Int) : Option (Ext × S) :=
  bif (decide (i4 ≤ i2)) then
    bindO (L2 (Tr8_Sure_2a n0 c1 i2 i3 i4 (w64 ((0 : Int) - i2)) i5 i6)) fun z =>
    Sum.elim (fun _y0 =>
      E (Xr8_Sure_0b ())) (fun y1 =>
      N (Tr8_Sure_0a y1.1 y1.2.1 y1.2.2.1 y1.2.2.2.1 (w64 (y1.2.2.2.2.1 + (1 : Int))) y1.2.2.2.2.2.1 y1.2.2.2.2.2.2)) z
  else E (Xr8_Sure_0a (i5, i6))
theorem Br8_Sure_0a_eq (F : FnT) (N : Q → Option (Ext × S)) (E : Ext × Q → Option (Ext × S)) (L0 : Q → Option Yr8_Sure_0) (L2 : Q → Option Yr8_Sure_2) (n0 : Nat) (c1 : List PV) (i2 : Int) (i3 : Int) (i4 : Int) (i5 : Int) (i6 : Int) : semB (callP F Er8_Sure 20) s52 (loopT [⟨0, Yr8_Sure_0, L0, XLr8_Sure_0⟩, ⟨2, Yr8_Sure_2, L2, XLr8_Sure_2⟩]) 400 (blkIn a52.body 0) N E (Tr8_Sure_0a n0 c1 i2 i3 i4 i5 i6) = Br8_Sure_0a F N E L0 L2 n0 c1 i2 i3 i4 i5 i6 := by kernel_rfl
theorem Rr8_Sure_0a_of  (n0 : Nat) (c1 : List PV) (i2 : Int) (i3 : Int) (i4 : Int) (i5 : Int) (i6 : Int) {r : Ext × S} (h : Br8_Sure_0a (Fn env) Rr8_Sure_0 exO Lr8_Sure_0 Lr8_Sure_2 n0 c1 i2 i3 i4 i5 i6 = some r) : Rr8_Sure_0 (Tr8_Sure_0a n0 c1 i2 i3 i4 i5 i6) = some r :=
  lp_of Er8_Sure_ok (by kernel_rfl) (lo_cons (lpO_ok Ur8_Sure) (lo_cons (lpO_ok Ur8_Sure) lo_nil)) (by kernel_rfl) ((Br8_Sure_0a_eq _ _ _ _ _ _ _ _ _ _ _ _).trans h)
def Br8_Sure_2a (F : FnT) (N : Q → Option (Ext × S)) (E : Ext × Q → Option (Ext × S)) (_L0 : Q → Option Yr8_Sure_0) (_L2 : Q → Option Yr8_Sure_2) (n0 : Nat) (c1 : List PV) (i2 : Int) (i3 : Int) (i4 : Int) (i5 : Int) (i6 : Int) (i7 : Int) : Option (Ext × S) :=
  bif (decide (i5 ≤ i2)) then
    bindO (F 51 (RSh.one (CK.int IntKind.i64)) [(PV.list n0 c1), (PV.agg [(PV.int IntKind.i64 (w64 (i6 + i4))), (PV.int IntKind.i64 (w64 (i7 + i5)))])]) fun (y0 : (Int)) =>
    bif (y0 != i3) then
      E (Xr8_Sure_2a ())
    else N (Tr8_Sure_2a n0 c1 i2 i3 i4 (w64 (i5 + (1 : Int))) i6 i7)
  else E (Xr8_Sure_2b (n0, c1, i2, i3, i4, i6, i7))
theorem Br8_Sure_2a_eq (F : FnT) (N : Q → Option (Ext × S)) (E : Ext × Q → Option (Ext × S)) (L0 : Q → Option Yr8_Sure_0) (L2 : Q → Option Yr8_Sure_2) (n0 : Nat) (c1 : List PV) (i2 : Int) (i3 : Int) (i4 : Int) (i5 : Int) (i6 : Int) (i7 : Int) : semB (callP F Er8_Sure 20) s52 (loopT [⟨0, Yr8_Sure_0, L0, XLr8_Sure_0⟩, ⟨2, Yr8_Sure_2, L2, XLr8_Sure_2⟩]) 400 (blkIn a52.body 2) N E (Tr8_Sure_2a n0 c1 i2 i3 i4 i5 i6 i7) = Br8_Sure_2a F N E L0 L2 n0 c1 i2 i3 i4 i5 i6 i7 := by kernel_rfl
theorem Rr8_Sure_2a_of  (n0 : Nat) (c1 : List PV) (i2 : Int) (i3 : Int) (i4 : Int) (i5 : Int) (i6 : Int) (i7 : Int) {r : Ext × S} (h : Br8_Sure_2a (Fn env) Rr8_Sure_2 exO Lr8_Sure_0 Lr8_Sure_2 n0 c1 i2 i3 i4 i5 i6 i7 = some r) : Rr8_Sure_2 (Tr8_Sure_2a n0 c1 i2 i3 i4 i5 i6 i7) = some r :=
  lp_of Er8_Sure_ok (by kernel_rfl) (lo_cons (lpO_ok Ur8_Sure) (lo_cons (lpO_ok Ur8_Sure) lo_nil)) (by kernel_rfl) ((Br8_Sure_2a_eq _ _ _ _ _ _ _ _ _ _ _ _ _).trans h)
def tr8_Sure (F : FnT) (L0 : Q → Option Yr8_Sure_0) (_L2 : Q → Option Yr8_Sure_2) (p0n : Nat) (p0c : List PV) (p1_0 : Int) (p1_1 : Int) (p2 : Int) : Option (Bool) :=
  bindO (F 51 (RSh.one (CK.int IntKind.i64)) [(PV.list p0n p0c), (PV.agg [(PV.int IntKind.i64 p1_0), (PV.int IntKind.i64 p1_1)])]) fun (y0 : (Int)) =>
  bindO (L0 (Tr8_Sure_0a p0n p0c p2 y0 (w64 ((0 : Int) - p2)) p1_0 p1_1)) fun z =>
  Sum.elim (fun _y1 =>
    some true) (fun _y2 =>
    some false) z
theorem tr8_Sure_eq (F : FnT) (L0 : Q → Option Yr8_Sure_0) (L2 : Q → Option Yr8_Sure_2) (p0n : Nat) (p0c : List PV) (p1_0 : Int) (p1_1 : Int) (p2 : Int) : semF (callP F Er8_Sure 20) s52 (loopT [⟨0, Yr8_Sure_0, L0, XLr8_Sure_0⟩, ⟨2, Yr8_Sure_2, L2, XLr8_Sure_2⟩]) 400 a52 [PV.list p0n p0c, PV.agg [PV.int IntKind.i64 p1_0, PV.int IntKind.i64 p1_1], PV.int IntKind.i64 p2] (fun rv => decR (RSh.one CK.bool) rv.pv) = tr8_Sure F L0 L2 p0n p0c p1_0 p1_1 p2 := by kernel_rfl
noncomputable abbrev Fr8_Sure (args : List PV) := Fn env 52 (RSh.one CK.bool) args
theorem Fr8_Sure_of  (p0n : Nat) (p0c : List PV) (p1_0 : Int) (p1_1 : Int) (p2 : Int) {res : (Bool)} (h : tr8_Sure (Fn env) Lr8_Sure_0 Lr8_Sure_2 p0n p0c p1_0 p1_1 p2 = some res) : Fr8_Sure [PV.list p0n p0c, PV.agg [PV.int IntKind.i64 p1_0, PV.int IntKind.i64 p1_1], PV.int IntKind.i64 p2] = some res :=
  fn_of Er8_Sure_ok rfl rfl (lo_cons (lpO_ok Ur8_Sure) (lo_cons (lpO_ok Ur8_Sure) lo_nil)) ((tr8_Sure_eq _ _ _ _ _ _ _ _).trans h)

end Gv

/- What the functions do, round by round: ZC2. -/
namespace Gv
open Go
set_option maxRecDepth 100000

/-! ### cloud_within_1 -/

def Ecloud_within_1 : List Entry := [.out 69 (RSh.one (CK.int IntKind.i64))]
theorem Ecloud_within_1_ok : ∀ e ∈ Ecloud_within_1, EntOK env e := (ent_out ent_nil)
theorem Ucloud_within_1 : uniq ((blocksOf a111.body).map (·.1)) = true := by kernel_rfl
def tcloud_within_1 (F : FnT)(_n : Nat) (_cs : List PV) (x lo hi : Int) : Option (Int) :=
  bindO (F 69 (RSh.one (CK.int IntKind.i64)) [(PV.int IntKind.i64 x), (PV.int IntKind.i64 lo), (PV.int IntKind.i64 hi)]) fun (y0 : (Int)) =>
  some y0
theorem tcloud_within_1_eq (F : FnT)(n : Nat) (cs : List PV) (x lo hi : Int) : semF (callP F Ecloud_within_1 20) s111 (loopT []) 400 a111 [.list n cs, .int .i64 x, .imm [.int .i64 lo] 0, .imm [.int .i64 hi] 0] (fun rv => decR (RSh.one (CK.int IntKind.i64)) rv.pv) = tcloud_within_1 F n cs x lo hi := by kernel_rfl
noncomputable abbrev Fcloud_within_1 (args : List PV) := Fn env 111 (RSh.one (CK.int IntKind.i64)) args
theorem Fcloud_within_1_of (n : Nat) (cs : List PV) (x lo hi : Int) {res : (Int)} (h : tcloud_within_1 (Fn env) n cs x lo hi = some res) : Fcloud_within_1 [.list n cs, .int .i64 x, .imm [.int .i64 lo] 0, .imm [.int .i64 hi] 0] = some res :=
  fn_of Ecloud_within_1_ok rfl rfl lo_nil ((tcloud_within_1_eq _ _ _ _ _ _).trans h)

/-! ### cloud_itemError_within -/

def Ecloud_itemError_within : List Entry := [.out 111 (RSh.one (CK.int IntKind.i64))]
theorem Ecloud_itemError_within_ok : ∀ e ∈ Ecloud_itemError_within, EntOK env e := (ent_out ent_nil)
def Tcloud_itemError_within_0a (n0 : Nat) (c1 : List PV) (i2 : Int) (i3 : Int) (n4 : Nat) (c5 : List PV) (i6 : Int) (i7 : Int) : Q := ⟨(tm 27 [(0, (AV.p (PV.list n0 c1))), (1, (AV.p (PV.fn 111 [(PV.imm [(PV.int IntKind.i64 i2)] 0), (PV.imm [(PV.int IntKind.i64 i3)] 0)]))), (9, (AV.p (PV.list n4 c5))), (10, (AV.p (PV.int IntKind.i64 i6))), (11, (AV.p (PV.int IntKind.i64 i7)))]), (mm 27 [])⟩
def Xcloud_itemError_within_0a (y : Int × Int) : Ext × Q := (Ext.ret, ⟨(tm 27 [(4, (AV.p (PV.int IntKind.i64 y.1))), (5, (AV.p (PV.int IntKind.i64 y.2)))]), (mm 27 [])⟩)
def Icloud_itemError_within_0a (q : Ext × S) : Int × Int := ((pP_int1 (pA_p (avT q.2 4))), (pP_int1 (pA_p (avT q.2 5))))
def Xcloud_itemError_within_0b (_y : Unit) : Ext × Q := (Ext.normal, ⟨(tm 27 []), (mm 27 [])⟩)
def Icloud_itemError_within_0b (_q : Ext × S) : Unit := ()
abbrev Ycloud_itemError_within_0 : Type := (Int × Int) ⊕ ((Unit))
def XLcloud_itemError_within_0 : XL Ycloud_itemError_within_0 := .more Xcloud_itemError_within_0a (.one Xcloud_itemError_within_0b)
def Icloud_itemError_within_0 (q : Ext × S) : Ycloud_itemError_within_0 := bif (cE q.1 == 2) then (Sum.inl (Icloud_itemError_within_0a q)) else (Sum.inr (Icloud_itemError_within_0b q))
theorem XIcloud_itemError_within_0a (y : Int × Int) : Icloud_itemError_within_0 (xe (Xcloud_itemError_within_0a y)) = (Sum.inl y) := rfl
theorem XIcloud_itemError_within_0b (y : Unit) : Icloud_itemError_within_0 (xe (Xcloud_itemError_within_0b y)) = (Sum.inr y) := rfl
theorem XIcloud_itemError_within_0 (y : Ycloud_itemError_within_0) : Icloud_itemError_within_0 (xe (XLcloud_itemError_within_0.fn y)) = y := (match y with | .inl y => XIcloud_itemError_within_0a y | .inr y => XIcloud_itemError_within_0b y)
noncomputable abbrev Lcloud_itemError_within_0 : Q → Option Ycloud_itemError_within_0 := lpO env a140.body 0 XLcloud_itemError_within_0
noncomputable abbrev Rcloud_itemError_within_0 : Q → Option (Ext × S) := lpR env a140.body 0
theorem Lcloud_itemError_within_0a_of {s : Q} {y : Int × Int} (h : Rcloud_itemError_within_0 s = exO (Xcloud_itemError_within_0a y)) : Lcloud_itemError_within_0 s = some (Sum.inl y) := lpO_of Icloud_itemError_within_0 XIcloud_itemError_within_0 (y := (Sum.inl y)) h
theorem Lcloud_itemError_within_0b_of {s : Q} {y : Unit} (h : Rcloud_itemError_within_0 s = exO (Xcloud_itemError_within_0b y)) : Lcloud_itemError_within_0 s = some (Sum.inr y) := lpO_of Icloud_itemError_within_0 XIcloud_itemError_within_0 (y := (Sum.inr y)) h
theorem Ucloud_itemError_within : uniq ((blocksOf a140.body).map (·.1)) = true := by kernel_rfl
def Bcloud_itemError_within_0a (F : FnT) (N : Q → Option (Ext × S)) (E : Ext × Q → Option (Ext × S)) (_L0 : Q → Option Ycloud_itemError_within_0) (n0 : Nat) (c1 : List PV) (i2 : Int) (i3 : Int) (n4 : Nat) (c5 : List PV) (i6 : Int) (i7 : Int) : Option (Ext × S) :=
  bif (decide (i7 < i6)) then
    bif (decide (((0 : Int) ≤ i7) ∧ (i7 < (n4 : Int)))) then
      bindO (intC IntKind.i64 (c5[((Int.toNat i7) * 1)]?)) fun x0 =>
      bif (decide (((0 : Int) ≤ i7) ∧ (i7 ≤ ((Prod.mk n0 c1).1 : Int)))) then
        bif (decide ((0 = (Int.toNat i7)) ∨ (((0 * 1) + (((Int.toNat i7) - 0) * 1)) ≤ (List.length c1)))) then
          bindO (F 111 (RSh.one (CK.int IntKind.i64)) [(PV.list ((Int.toNat i7) - 0) (List.take (((Int.toNat i7) - 0) * 1) (List.drop 0 c1))), (PV.int IntKind.i64 x0), (PV.imm [(PV.int IntKind.i64 i2)] 0), (PV.imm [(PV.int IntKind.i64 i3)] 0)]) fun (y1 : (Int)) =>
          bif (y1 != (0 : Int)) then
            E (Xcloud_itemError_within_0a (i7, y1))
          else N (Tcloud_itemError_within_0a n0 c1 i2 i3 n4 c5 i6 (w64 (i7 + (1 : Int))))
        else none
      else none
    else none
  else E (Xcloud_itemError_within_0b ())
theorem Bcloud_itemError_within_0a_eq (F : FnT) (N : Q → Option (Ext × S)) (E : Ext × Q → Option (Ext × S)) (L0 : Q → Option Ycloud_itemError_within_0) (n0 : Nat) (c1 : List PV) (i2 : Int) (i3 : Int) (n4 : Nat) (c5 : List PV) (i6 : Int) (i7 : Int) : semB (callP F Ecloud_itemError_within 20) s140 (loopT [⟨0, Ycloud_itemError_within_0, L0, XLcloud_itemError_within_0⟩]) 400 (blkIn a140.body 0) N E (Tcloud_itemError_within_0a n0 c1 i2 i3 n4 c5 i6 i7) = Bcloud_itemError_within_0a F N E L0 n0 c1 i2 i3 n4 c5 i6 i7 := by kernel_rfl
theorem Rcloud_itemError_within_0a_of  (n0 : Nat) (c1 : List PV) (i2 : Int) (i3 : Int) (n4 : Nat) (c5 : List PV) (i6 : Int) (i7 : Int) {r : Ext × S} (h : Bcloud_itemError_within_0a (Fn env) Rcloud_itemError_within_0 exO Lcloud_itemError_within_0 n0 c1 i2 i3 n4 c5 i6 i7 = some r) : Rcloud_itemError_within_0 (Tcloud_itemError_within_0a n0 c1 i2 i3 n4 c5 i6 i7) = some r :=
  lp_of Ecloud_itemError_within_ok (by kernel_rfl) (lo_cons (lpO_ok Ucloud_itemError_within) lo_nil) (by kernel_rfl) ((Bcloud_itemError_within_0a_eq _ _ _ _ _ _ _ _ _ _ _ _).trans h)
def tcloud_itemError_within (_F : FnT) (L0 : Q → Option Ycloud_itemError_within_0)(n : Nat) (cs : List PV) (lo hi : Int) : Option ((Int) × (Int)) :=
  bindO (L0 (Tcloud_itemError_within_0a n cs lo hi n cs (n : Int) (0 : Int))) fun z =>
  Sum.elim (fun y0 =>
    some (y0.1, y0.2)) (fun _y1 =>
    some ((0 : Int), (0 : Int))) z
theorem tcloud_itemError_within_eq (F : FnT) (L0 : Q → Option Ycloud_itemError_within_0)(n : Nat) (cs : List PV) (lo hi : Int) : semF (callP F Ecloud_itemError_within 20) s140 (loopT [⟨0, Ycloud_itemError_within_0, L0, XLcloud_itemError_within_0⟩]) 400 a140 [.list n cs, .fn 111 [.imm [.int .i64 lo] 0, .imm [.int .i64 hi] 0]] (fun rv => decR (RSh.tup [(Prod.mk false [(CK.int IntKind.i64)]), (Prod.mk false [(CK.int IntKind.i64)])]) rv.pv) = tcloud_itemError_within F L0 n cs lo hi := by kernel_rfl
noncomputable abbrev Fcloud_itemError_within (args : List PV) := Fn env 140 (RSh.tup [(Prod.mk false [(CK.int IntKind.i64)]), (Prod.mk false [(CK.int IntKind.i64)])]) args
theorem Fcloud_itemError_within_of (n : Nat) (cs : List PV) (lo hi : Int) {res : ((Int) × (Int))} (h : tcloud_itemError_within (Fn env) Lcloud_itemError_within_0 n cs lo hi = some res) : Fcloud_itemError_within [.list n cs, .fn 111 [.imm [.int .i64 lo] 0, .imm [.int .i64 hi] 0]] = some res :=
  fn_of Ecloud_itemError_within_ok rfl rfl (lo_cons (lpO_ok Ucloud_itemError_within) lo_nil) ((tcloud_itemError_within_eq _ _ _ _ _ _).trans h)

/-! ### cloud_listError_within -/

def Ecloud_listError_within : List Entry := [.out 140 (RSh.tup [(Prod.mk false [(CK.int IntKind.i64)]), (Prod.mk false [(CK.int IntKind.i64)])])]
theorem Ecloud_listError_within_ok : ∀ e ∈ Ecloud_listError_within, EntOK env e := (ent_out ent_nil)
theorem Ucloud_listError_within : uniq ((blocksOf a110.body).map (·.1)) = true := by kernel_rfl
def tcloud_listError_within (F : FnT)(n : Nat) (cs : List PV) (m lo hi : Int) : Option ((Int) × (Int)) :=
  bif (decide ((n : Int) > m)) then
    some ((0 : Int), (8 : Int))
  else bindO (F 140 (RSh.tup [(Prod.mk false [(CK.int IntKind.i64)]), (Prod.mk false [(CK.int IntKind.i64)])]) [(PV.list n cs), (PV.fn 111 [(PV.imm [(PV.int IntKind.i64 lo)] 0), (PV.imm [(PV.int IntKind.i64 hi)] 0)])]) fun (y0 : ((Int) × (Int))) =>
  some (y0.1, y0.2)
theorem tcloud_listError_within_eq (F : FnT)(n : Nat) (cs : List PV) (m lo hi : Int) : semF (callP F Ecloud_listError_within 20) s110 (loopT []) 400 a110 [.list n cs, .int .i64 m, .fn 111 [.imm [.int .i64 lo] 0, .imm [.int .i64 hi] 0]] (fun rv => decR (RSh.tup [(Prod.mk false [(CK.int IntKind.i64)]), (Prod.mk false [(CK.int IntKind.i64)])]) rv.pv) = tcloud_listError_within F n cs m lo hi := by kernel_rfl
noncomputable abbrev Fcloud_listError_within (args : List PV) := Fn env 110 (RSh.tup [(Prod.mk false [(CK.int IntKind.i64)]), (Prod.mk false [(CK.int IntKind.i64)])]) args
theorem Fcloud_listError_within_of (n : Nat) (cs : List PV) (m lo hi : Int) {res : ((Int) × (Int))} (h : tcloud_listError_within (Fn env) n cs m lo hi = some res) : Fcloud_listError_within [.list n cs, .int .i64 m, .fn 111 [.imm [.int .i64 lo] 0, .imm [.int .i64 hi] 0]] = some res :=
  fn_of Ecloud_listError_within_ok rfl rfl lo_nil ((tcloud_listError_within_eq _ _ _ _ _ _).trans h)

/-! ### cloud_filledError_within -/

def Ecloud_filledError_within : List Entry := [.out 110 (RSh.tup [(Prod.mk false [(CK.int IntKind.i64)]), (Prod.mk false [(CK.int IntKind.i64)])])]
theorem Ecloud_filledError_within_ok : ∀ e ∈ Ecloud_filledError_within, EntOK env e := (ent_out ent_nil)
theorem Ucloud_filledError_within : uniq ((blocksOf a60.body).map (·.1)) = true := by kernel_rfl
def tcloud_filledError_within (F : FnT)(n : Nat) (cs : List PV) (m lo hi : Int) : Option ((Int) × (Int)) :=
  bif ((n : Int) == (0 : Int)) then
    some ((0 : Int), (10 : Int))
  else bindO (F 110 (RSh.tup [(Prod.mk false [(CK.int IntKind.i64)]), (Prod.mk false [(CK.int IntKind.i64)])]) [(PV.list n cs), (PV.int IntKind.i64 m), (PV.fn 111 [(PV.imm [(PV.int IntKind.i64 lo)] 0), (PV.imm [(PV.int IntKind.i64 hi)] 0)])]) fun (y0 : ((Int) × (Int))) =>
  some (y0.1, y0.2)
theorem tcloud_filledError_within_eq (F : FnT)(n : Nat) (cs : List PV) (m lo hi : Int) : semF (callP F Ecloud_filledError_within 20) s60 (loopT []) 400 a60 [.list n cs, .int .i64 m, .fn 111 [.imm [.int .i64 lo] 0, .imm [.int .i64 hi] 0]] (fun rv => decR (RSh.tup [(Prod.mk false [(CK.int IntKind.i64)]), (Prod.mk false [(CK.int IntKind.i64)])]) rv.pv) = tcloud_filledError_within F n cs m lo hi := by kernel_rfl
noncomputable abbrev Fcloud_filledError_within (args : List PV) := Fn env 60 (RSh.tup [(Prod.mk false [(CK.int IntKind.i64)]), (Prod.mk false [(CK.int IntKind.i64)])]) args
theorem Fcloud_filledError_within_of (n : Nat) (cs : List PV) (m lo hi : Int) {res : ((Int) × (Int))} (h : tcloud_filledError_within (Fn env) n cs m lo hi = some res) : Fcloud_filledError_within [.list n cs, .int .i64 m, .fn 111 [.imm [.int .i64 lo] 0, .imm [.int .i64 hi] 0]] = some res :=
  fn_of Ecloud_filledError_within_ok rfl rfl lo_nil ((tcloud_filledError_within_eq _ _ _ _ _ _).trans h)

/-! ### cloud_CheckProfile -/

def Ecloud_CheckProfile : List Entry := [.inl 61 a61 s61, .out 60 (RSh.tup [(Prod.mk false [(CK.int IntKind.i64)]), (Prod.mk false [(CK.int IntKind.i64)])])]
theorem Ecloud_CheckProfile_ok : ∀ e ∈ Ecloud_CheckProfile, EntOK env e := (ent_inl rfl (ent_out ent_nil))
theorem Ucloud_CheckProfile : uniq ((blocksOf a10.body).map (·.1)) = true := by kernel_rfl
def tcloud_CheckProfile (F : FnT) (p0n : Nat) (p0c : List PV) : Option ((Int) × (Int)) :=
  bindO (F 60 (RSh.tup [(Prod.mk false [(CK.int IntKind.i64)]), (Prod.mk false [(CK.int IntKind.i64)])]) [(PV.list p0n p0c), (PV.int IntKind.i64 (24 : Int)), (PV.fn 111 [(PV.imm [(PV.int IntKind.i64 (0 : Int))] 0), (PV.imm [(PV.int IntKind.i64 (10000 : Int))] 0)])]) fun (y0 : ((Int) × (Int))) =>
  some (y0.1, y0.2)
theorem tcloud_CheckProfile_eq (F : FnT) (p0n : Nat) (p0c : List PV) : semF (callP F Ecloud_CheckProfile 20) s10 (loopT []) 400 a10 [PV.list p0n p0c] (fun rv => decR (RSh.tup [(Prod.mk false [(CK.int IntKind.i64)]), (Prod.mk false [(CK.int IntKind.i64)])]) rv.pv) = tcloud_CheckProfile F p0n p0c := by kernel_rfl
noncomputable abbrev Fcloud_CheckProfile (args : List PV) := Fn env 10 (RSh.tup [(Prod.mk false [(CK.int IntKind.i64)]), (Prod.mk false [(CK.int IntKind.i64)])]) args
theorem Fcloud_CheckProfile_of  (p0n : Nat) (p0c : List PV) {res : ((Int) × (Int))} (h : tcloud_CheckProfile (Fn env) p0n p0c = some res) : Fcloud_CheckProfile [PV.list p0n p0c] = some res :=
  fn_of Ecloud_CheckProfile_ok rfl rfl lo_nil ((tcloud_CheckProfile_eq _ _ _).trans h)

/-! ### cloud_profileError -/

def Ecloud_profileError : List Entry := [.out 10 (RSh.tup [(Prod.mk false [(CK.int IntKind.i64)]), (Prod.mk false [(CK.int IntKind.i64)])])]
theorem Ecloud_profileError_ok : ∀ e ∈ Ecloud_profileError, EntOK env e := (ent_out ent_nil)
theorem Ucloud_profileError : uniq ((blocksOf a63.body).map (·.1)) = true := by kernel_rfl
def tcloud_profileError (F : FnT) (p0n : Nat) (p0c : List PV) : Option (Int) :=
  bindO (F 10 (RSh.tup [(Prod.mk false [(CK.int IntKind.i64)]), (Prod.mk false [(CK.int IntKind.i64)])]) [(PV.list p0n p0c)]) fun (y0 : ((Int) × (Int))) =>
  some y0.2
theorem tcloud_profileError_eq (F : FnT) (p0n : Nat) (p0c : List PV) : semF (callP F Ecloud_profileError 20) s63 (loopT []) 400 a63 [PV.list p0n p0c] (fun rv => decR (RSh.one (CK.int IntKind.i64)) rv.pv) = tcloud_profileError F p0n p0c := by kernel_rfl
noncomputable abbrev Fcloud_profileError (args : List PV) := Fn env 63 (RSh.one (CK.int IntKind.i64)) args
theorem Fcloud_profileError_of  (p0n : Nat) (p0c : List PV) {res : (Int)} (h : tcloud_profileError (Fn env) p0n p0c = some res) : Fcloud_profileError [PV.list p0n p0c] = some res :=
  fn_of Ecloud_profileError_ok rfl rfl lo_nil ((tcloud_profileError_eq _ _ _).trans h)

/-! ### cloud_constantError -/

def Ecloud_constantError : List Entry := [.out 69 (RSh.one (CK.int IntKind.i64))]
theorem Ecloud_constantError_ok : ∀ e ∈ Ecloud_constantError, EntOK env e := (ent_out ent_nil)
theorem Ucloud_constantError : uniq ((blocksOf a64.body).map (·.1)) = true := by kernel_rfl
def tcloud_constantError (F : FnT) (p0 : Int) : Option (Int) :=
  bindO (F 69 (RSh.one (CK.int IntKind.i64)) [(PV.int IntKind.i64 p0), (PV.int IntKind.i64 (1 : Int)), (PV.int IntKind.i64 (1000000 : Int))]) fun (y0 : (Int)) =>
  some y0
theorem tcloud_constantError_eq (F : FnT) (p0 : Int) : semF (callP F Ecloud_constantError 20) s64 (loopT []) 400 a64 [PV.int IntKind.i64 p0] (fun rv => decR (RSh.one (CK.int IntKind.i64)) rv.pv) = tcloud_constantError F p0 := by kernel_rfl
noncomputable abbrev Fcloud_constantError (args : List PV) := Fn env 64 (RSh.one (CK.int IntKind.i64)) args
theorem Fcloud_constantError_of  (p0 : Int) {res : (Int)} (h : tcloud_constantError (Fn env) p0 = some res) : Fcloud_constantError [PV.int IntKind.i64 p0] = some res :=
  fn_of Ecloud_constantError_ok rfl rfl lo_nil ((tcloud_constantError_eq _ _).trans h)

/-! ### pf_sum -/

def Epf_sum : List Entry := []
theorem Epf_sum_ok : ∀ e ∈ Epf_sum, EntOK env e := ent_nil
def Tpf_sum_0a (i0 : Int) (n1 : Nat) (c2 : List PV) (i3 : Int) (i4 : Int) : Q := ⟨(tm 17 [(3, (AV.p (PV.int IntKind.i64 i0))), (6, (AV.p (PV.list n1 c2))), (7, (AV.p (PV.int IntKind.i64 i3))), (8, (AV.p (PV.int IntKind.i64 i4)))]), (mm 17 [])⟩
def Xpf_sum_0a (y : Int) : Ext × Q := (Ext.normal, ⟨(tm 17 [(3, (AV.p (PV.int IntKind.i64 y)))]), (mm 17 [])⟩)
def Ipf_sum_0a (q : Ext × S) : Int := (pP_int1 (pA_p (avT q.2 3)))
abbrev Ypf_sum_0 : Type := Int
def XLpf_sum_0 : XL Ypf_sum_0 := .one Xpf_sum_0a
def Ipf_sum_0 (q : Ext × S) : Ypf_sum_0 := (Ipf_sum_0a q)
theorem XIpf_sum_0a (y : Int) : Ipf_sum_0 (xe (Xpf_sum_0a y)) = y := rfl
theorem XIpf_sum_0 (y : Ypf_sum_0) : Ipf_sum_0 (xe (XLpf_sum_0.fn y)) = y := XIpf_sum_0a y
noncomputable abbrev Lpf_sum_0 : Q → Option Ypf_sum_0 := lpO env a83.body 0 XLpf_sum_0
noncomputable abbrev Rpf_sum_0 : Q → Option (Ext × S) := lpR env a83.body 0
theorem Lpf_sum_0a_of {s : Q} {y : Int} (h : Rpf_sum_0 s = exO (Xpf_sum_0a y)) : Lpf_sum_0 s = some y := lpO_of Ipf_sum_0 XIpf_sum_0 (y := y) h
theorem Upf_sum : uniq ((blocksOf a83.body).map (·.1)) = true := by kernel_rfl
def Bpf_sum_0a (_F : FnT) (N : Q → Option (Ext × S)) (E : Ext × Q → Option (Ext × S)) (_L0 : Q → Option Ypf_sum_0) (i0 : Int) (n1 : Nat) (c2 : List PV) (i3 : Int) (i4 : Int) : Option (Ext × S) :=
  bif (decide (i4 < i3)) then
    bif (decide (((0 : Int) ≤ i4) ∧ (i4 < (n1 : Int)))) then
      bindO (intC IntKind.i64 (c2[((Int.toNat i4) * 1)]?)) fun x0 =>
      N (Tpf_sum_0a (w64 (i0 + x0)) n1 c2 i3 (w64 (i4 + (1 : Int))))
    else none
  else E (Xpf_sum_0a i0)
theorem Bpf_sum_0a_eq (F : FnT) (N : Q → Option (Ext × S)) (E : Ext × Q → Option (Ext × S)) (L0 : Q → Option Ypf_sum_0) (i0 : Int) (n1 : Nat) (c2 : List PV) (i3 : Int) (i4 : Int) : semB (callP F Epf_sum 20) s83 (loopT [⟨0, Ypf_sum_0, L0, XLpf_sum_0⟩]) 400 (blkIn a83.body 0) N E (Tpf_sum_0a i0 n1 c2 i3 i4) = Bpf_sum_0a F N E L0 i0 n1 c2 i3 i4 := by kernel_rfl
theorem Rpf_sum_0a_of  (i0 : Int) (n1 : Nat) (c2 : List PV) (i3 : Int) (i4 : Int) {r : Ext × S} (h : Bpf_sum_0a (Fn env) Rpf_sum_0 exO Lpf_sum_0 i0 n1 c2 i3 i4 = some r) : Rpf_sum_0 (Tpf_sum_0a i0 n1 c2 i3 i4) = some r :=
  lp_of Epf_sum_ok (by kernel_rfl) (lo_cons (lpO_ok Upf_sum) lo_nil) (by kernel_rfl) ((Bpf_sum_0a_eq _ _ _ _ _ _ _ _ _).trans h)
def tpf_sum (_F : FnT) (L0 : Q → Option Ypf_sum_0) (p0n : Nat) (p0c : List PV) : Option (Int) :=
  bindO (L0 (Tpf_sum_0a (0 : Int) p0n p0c (p0n : Int) (0 : Int))) fun y0 =>
  some y0
theorem tpf_sum_eq (F : FnT) (L0 : Q → Option Ypf_sum_0) (p0n : Nat) (p0c : List PV) : semF (callP F Epf_sum 20) s83 (loopT [⟨0, Ypf_sum_0, L0, XLpf_sum_0⟩]) 400 a83 [PV.list p0n p0c] (fun rv => decR (RSh.one (CK.int IntKind.i64)) rv.pv) = tpf_sum F L0 p0n p0c := by kernel_rfl
noncomputable abbrev Fpf_sum (args : List PV) := Fn env 83 (RSh.one (CK.int IntKind.i64)) args
theorem Fpf_sum_of  (p0n : Nat) (p0c : List PV) {res : (Int)} (h : tpf_sum (Fn env) Lpf_sum_0 p0n p0c = some res) : Fpf_sum [PV.list p0n p0c] = some res :=
  fn_of Epf_sum_ok rfl rfl (lo_cons (lpO_ok Upf_sum) lo_nil) ((tpf_sum_eq _ _ _ _).trans h)

/-! ### pf_restBefore -/

def Epf_restBefore : List Entry := [.out 83 (RSh.one (CK.int IntKind.i64))]
theorem Epf_restBefore_ok : ∀ e ∈ Epf_restBefore, EntOK env e := (ent_out ent_nil)
theorem Upf_restBefore : uniq ((blocksOf a84.body).map (·.1)) = true := by kernel_rfl
def tpf_restBefore (F : FnT) (p0n : Nat) (p0c : List PV) (p1 : Int) (p2 : Int) : Option (Int) :=
  bif (decide (((0 : Int) ≤ p1) ∧ (p1 ≤ ((Prod.mk p0n p0c).1 : Int)))) then
    bif (decide ((0 = (Int.toNat p1)) ∨ (((0 * 1) + (((Int.toNat p1) - 0) * 1)) ≤ (List.length p0c)))) then
      bindO (F 83 (RSh.one (CK.int IntKind.i64)) [(PV.list ((Int.toNat p1) - 0) (List.take (((Int.toNat p1) - 0) * 1) (List.drop 0 p0c)))]) fun (y0 : (Int)) =>
      some (w64 (p2 - y0))
    else none
  else none
theorem tpf_restBefore_eq (F : FnT) (p0n : Nat) (p0c : List PV) (p1 : Int) (p2 : Int) : semF (callP F Epf_restBefore 20) s84 (loopT []) 400 a84 [PV.list p0n p0c, PV.int IntKind.i64 p1, PV.int IntKind.i64 p2] (fun rv => decR (RSh.one (CK.int IntKind.i64)) rv.pv) = tpf_restBefore F p0n p0c p1 p2 := by kernel_rfl
noncomputable abbrev Fpf_restBefore (args : List PV) := Fn env 84 (RSh.one (CK.int IntKind.i64)) args
theorem Fpf_restBefore_of  (p0n : Nat) (p0c : List PV) (p1 : Int) (p2 : Int) {res : (Int)} (h : tpf_restBefore (Fn env) p0n p0c p1 p2 = some res) : Fpf_restBefore [PV.list p0n p0c, PV.int IntKind.i64 p1, PV.int IntKind.i64 p2] = some res :=
  fn_of Epf_restBefore_ok rfl rfl lo_nil ((tpf_restBefore_eq _ _ _ _ _).trans h)

/-! ### pf_breakError -/

def Epf_breakError : List Entry := [.out 83 (RSh.one (CK.int IntKind.i64)), .out 71 (RSh.one (CK.int IntKind.i64)), .out 84 (RSh.one (CK.int IntKind.i64))]
theorem Epf_breakError_ok : ∀ e ∈ Epf_breakError, EntOK env e := (ent_out (ent_out (ent_out ent_nil)))
theorem Upf_breakError : uniq ((blocksOf a65.body).map (·.1)) = true := by kernel_rfl
def tpf_breakError (F : FnT) (p0n : Nat) (p0c : List PV) (p1 : Int) : Option (Int) :=
  bindO (F 83 (RSh.one (CK.int IntKind.i64)) [(PV.list p0n p0c)]) fun (y0 : (Int)) =>
  bif (decide (y0 > p1)) then
    bindO (F 71 (RSh.one (CK.int IntKind.i64)) [(PV.bool true), (PV.int IntKind.i64 (20 : Int))]) fun (y1 : (Int)) =>
    some y1
  else bindO (F 84 (RSh.one (CK.int IntKind.i64)) [(PV.list p0n p0c), (PV.int IntKind.i64 (w64 ((p0n : Int) - (1 : Int)))), (PV.int IntKind.i64 p1)]) fun (y2 : (Int)) =>
  bif (y2 == (0 : Int)) then
    bindO (F 71 (RSh.one (CK.int IntKind.i64)) [(PV.bool true), (PV.int IntKind.i64 (20 : Int))]) fun (y3 : (Int)) =>
    some y3
  else bindO (F 71 (RSh.one (CK.int IntKind.i64)) [(PV.bool false), (PV.int IntKind.i64 (20 : Int))]) fun (y4 : (Int)) =>
  some y4
theorem tpf_breakError_eq (F : FnT) (p0n : Nat) (p0c : List PV) (p1 : Int) : semF (callP F Epf_breakError 20) s65 (loopT []) 400 a65 [PV.list p0n p0c, PV.int IntKind.i64 p1] (fun rv => decR (RSh.one (CK.int IntKind.i64)) rv.pv) = tpf_breakError F p0n p0c p1 := by kernel_rfl
noncomputable abbrev Fpf_breakError (args : List PV) := Fn env 65 (RSh.one (CK.int IntKind.i64)) args
theorem Fpf_breakError_of  (p0n : Nat) (p0c : List PV) (p1 : Int) {res : (Int)} (h : tpf_breakError (Fn env) p0n p0c p1 = some res) : Fpf_breakError [PV.list p0n p0c, PV.int IntKind.i64 p1] = some res :=
  fn_of Epf_breakError_ok rfl rfl lo_nil ((tpf_breakError_eq _ _ _ _).trans h)

/-! ### cloud_divisorOf -/

def Ecloud_divisorOf : List Entry := []
theorem Ecloud_divisorOf_ok : ∀ e ∈ Ecloud_divisorOf, EntOK env e := ent_nil
def Tcloud_divisorOf_0a (i0 : Int) (i1 : Int) : Q := ⟨(tm 15 [(0, (AV.p (PV.int IntKind.i64 i0))), (1, (AV.p (PV.int IntKind.i64 i1)))]), (mm 15 [])⟩
def Xcloud_divisorOf_0a (y : Int) : Ext × Q := (Ext.normal, ⟨(tm 15 [(0, (AV.p (PV.int IntKind.i64 y)))]), (mm 15 [])⟩)
def Icloud_divisorOf_0a (q : Ext × S) : Int := (pP_int1 (pA_p (avT q.2 0)))
abbrev Ycloud_divisorOf_0 : Type := Int
def XLcloud_divisorOf_0 : XL Ycloud_divisorOf_0 := .one Xcloud_divisorOf_0a
def Icloud_divisorOf_0 (q : Ext × S) : Ycloud_divisorOf_0 := (Icloud_divisorOf_0a q)
theorem XIcloud_divisorOf_0a (y : Int) : Icloud_divisorOf_0 (xe (Xcloud_divisorOf_0a y)) = y := rfl
theorem XIcloud_divisorOf_0 (y : Ycloud_divisorOf_0) : Icloud_divisorOf_0 (xe (XLcloud_divisorOf_0.fn y)) = y := XIcloud_divisorOf_0a y
noncomputable abbrev Lcloud_divisorOf_0 : Q → Option Ycloud_divisorOf_0 := lpO env a116.body 0 XLcloud_divisorOf_0
noncomputable abbrev Rcloud_divisorOf_0 : Q → Option (Ext × S) := lpR env a116.body 0
theorem Lcloud_divisorOf_0a_of {s : Q} {y : Int} (h : Rcloud_divisorOf_0 s = exO (Xcloud_divisorOf_0a y)) : Lcloud_divisorOf_0 s = some y := lpO_of Icloud_divisorOf_0 XIcloud_divisorOf_0 (y := y) h
theorem Ucloud_divisorOf : uniq ((blocksOf a116.body).map (·.1)) = true := by kernel_rfl
def Bcloud_divisorOf_0a (_F : FnT) (N : Q → Option (Ext × S)) (E : Ext × Q → Option (Ext × S)) (_L0 : Q → Option Ycloud_divisorOf_0) (i0 : Int) (i1 : Int) : Option (Ext × S) :=
  bif (i1 != (0 : Int)) then
    bif (decide (i1 ≠ (0 : Int))) then
      N (Tcloud_divisorOf_0a i1 (Int.tmod i0 i1))
    else none
  else E (Xcloud_divisorOf_0a i0)
theorem Bcloud_divisorOf_0a_eq (F : FnT) (N : Q → Option (Ext × S)) (E : Ext × Q → Option (Ext × S)) (L0 : Q → Option Ycloud_divisorOf_0) (i0 : Int) (i1 : Int) : semB (callP F Ecloud_divisorOf 20) s116 (loopT [⟨0, Ycloud_divisorOf_0, L0, XLcloud_divisorOf_0⟩]) 400 (blkIn a116.body 0) N E (Tcloud_divisorOf_0a i0 i1) = Bcloud_divisorOf_0a F N E L0 i0 i1 := by kernel_rfl
theorem Rcloud_divisorOf_0a_of  (i0 : Int) (i1 : Int) {r : Ext × S} (h : Bcloud_divisorOf_0a (Fn env) Rcloud_divisorOf_0 exO Lcloud_divisorOf_0 i0 i1 = some r) : Rcloud_divisorOf_0 (Tcloud_divisorOf_0a i0 i1) = some r :=
  lp_of Ecloud_divisorOf_ok (by kernel_rfl) (lo_cons (lpO_ok Ucloud_divisorOf) lo_nil) (by kernel_rfl) ((Bcloud_divisorOf_0a_eq _ _ _ _ _ _).trans h)
def tcloud_divisorOf (_F : FnT) (L0 : Q → Option Ycloud_divisorOf_0) (p0 : Int) (p1 : Int) : Option (Int) :=
  bindO (L0 (Tcloud_divisorOf_0a p0 p1)) fun y0 =>
  some (if ((w64 ((0 : Int) - y0)) > y0) then (w64 ((0 : Int) - y0)) else y0)
theorem tcloud_divisorOf_eq (F : FnT) (L0 : Q → Option Ycloud_divisorOf_0) (p0 : Int) (p1 : Int) : semF (callP F Ecloud_divisorOf 20) s116 (loopT [⟨0, Ycloud_divisorOf_0, L0, XLcloud_divisorOf_0⟩]) 400 a116 [PV.int IntKind.i64 p0, PV.int IntKind.i64 p1] (fun rv => decR (RSh.one (CK.int IntKind.i64)) rv.pv) = tcloud_divisorOf F L0 p0 p1 := by kernel_rfl
noncomputable abbrev Fcloud_divisorOf (args : List PV) := Fn env 116 (RSh.one (CK.int IntKind.i64)) args
theorem Fcloud_divisorOf_of  (p0 : Int) (p1 : Int) {res : (Int)} (h : tcloud_divisorOf (Fn env) Lcloud_divisorOf_0 p0 p1 = some res) : Fcloud_divisorOf [PV.int IntKind.i64 p0, PV.int IntKind.i64 p1] = some res :=
  fn_of Ecloud_divisorOf_ok rfl rfl (lo_cons (lpO_ok Ucloud_divisorOf) lo_nil) ((tcloud_divisorOf_eq _ _ _ _).trans h)

/-! ### cloud_lowest -/

def Ecloud_lowest : List Entry := [.out 116 (RSh.one (CK.int IntKind.i64))]
theorem Ecloud_lowest_ok : ∀ e ∈ Ecloud_lowest, EntOK env e := (ent_out ent_nil)
theorem Ucloud_lowest : uniq ((blocksOf a112.body).map (·.1)) = true := by kernel_rfl
def tcloud_lowest (F : FnT) (p0 : Int) (p1 : Int) : Option ((Int) × (Int)) :=
  bindO (F 116 (RSh.one (CK.int IntKind.i64)) [(PV.int IntKind.i64 p0), (PV.int IntKind.i64 p1)]) fun (y0 : (Int)) =>
  bif (decide (y0 ≠ (0 : Int))) then
    bif (decide (y0 ≠ (0 : Int))) then
      some ((w64 (Int.tdiv p0 y0)), (w64 (Int.tdiv p1 y0)))
    else none
  else none
theorem tcloud_lowest_eq (F : FnT) (p0 : Int) (p1 : Int) : semF (callP F Ecloud_lowest 20) s112 (loopT []) 400 a112 [PV.int IntKind.i64 p0, PV.int IntKind.i64 p1] (fun rv => decR (RSh.agg [(CK.int IntKind.i64), (CK.int IntKind.i64)]) rv.pv) = tcloud_lowest F p0 p1 := by kernel_rfl
noncomputable abbrev Fcloud_lowest (args : List PV) := Fn env 112 (RSh.agg [(CK.int IntKind.i64), (CK.int IntKind.i64)]) args
theorem Fcloud_lowest_of  (p0 : Int) (p1 : Int) {res : ((Int) × (Int))} (h : tcloud_lowest (Fn env) p0 p1 = some res) : Fcloud_lowest [PV.int IntKind.i64 p0, PV.int IntKind.i64 p1] = some res :=
  fn_of Ecloud_lowest_ok rfl rfl lo_nil ((tcloud_lowest_eq _ _ _).trans h)

/-! ### pf_shares -/

def Epf_shares : List Entry := [.out 84 (RSh.one (CK.int IntKind.i64)), .out 112 (RSh.agg [(CK.int IntKind.i64), (CK.int IntKind.i64)])]
theorem Epf_shares_ok : ∀ e ∈ Epf_shares, EntOK env e := (ent_out (ent_out ent_nil))
def Tpf_shares_0a (n0 : Nat) (c1 : List PV) (i2 : Int) (n3 : Nat) (n4 : Nat) (c5 : List PV) (i6 : Int) (i7 : Int) (c8 : List PV) : Q := ⟨(tm 29 [(0, (AV.p (PV.list n0 c1))), (1, (AV.p (PV.int IntKind.i64 i2))), (5, (AV.msl 10 0 n3 2)), (11, (AV.p (PV.list n4 c5))), (12, (AV.p (PV.int IntKind.i64 i6))), (13, (AV.p (PV.int IntKind.i64 i7)))]), (mm 29 [(10, (Bk.pcs true c8))])⟩
def Xpf_shares_0a (y : Nat × List PV) : Ext × Q := (Ext.normal, ⟨(tm 29 [(5, (AV.msl 10 0 y.1 2))]), (mm 29 [(10, (Bk.pcs true y.2))])⟩)
def Ipf_shares_0a (q : Ext × S) : Nat × List PV := ((pA_msl2 (avT q.2 5)), (pB_pcs1 (avM q.2 10)))
abbrev Ypf_shares_0 : Type := Nat × List PV
def XLpf_shares_0 : XL Ypf_shares_0 := .one Xpf_shares_0a
def Ipf_shares_0 (q : Ext × S) : Ypf_shares_0 := (Ipf_shares_0a q)
theorem XIpf_shares_0a (y : Nat × List PV) : Ipf_shares_0 (xe (Xpf_shares_0a y)) = y := (show Ipf_shares_0 (xe (Xpf_shares_0a y)) = (y.1, ((y.2.map AV.p).map pA_p)) from rfl).trans (by simp only [map_back])
theorem XIpf_shares_0 (y : Ypf_shares_0) : Ipf_shares_0 (xe (XLpf_shares_0.fn y)) = y := XIpf_shares_0a y
noncomputable abbrev Lpf_shares_0 : Q → Option Ypf_shares_0 := lpO env a66.body 0 XLpf_shares_0
noncomputable abbrev Rpf_shares_0 : Q → Option (Ext × S) := lpR env a66.body 0
theorem Lpf_shares_0a_of {s : Q} {y : Nat × List PV} (h : Rpf_shares_0 s = exO (Xpf_shares_0a y)) : Lpf_shares_0 s = some y := lpO_of Ipf_shares_0 XIpf_shares_0 (y := y) h
theorem Upf_shares : uniq ((blocksOf a66.body).map (·.1)) = true := by kernel_rfl
def Bpf_shares_0a (F : FnT) (N : Q → Option (Ext × S)) (E : Ext × Q → Option (Ext × S)) (_L0 : Q → Option Ypf_shares_0) (n0 : Nat) (c1 : List PV) (i2 : Int) (n3 : Nat) (n4 : Nat) (c5 : List PV) (i6 : Int) (i7 : Int) (c8 : List PV) : Option (Ext × S) :=
  bif (decide (i7 < i6)) then
    bif (decide (((0 : Int) ≤ i7) ∧ (i7 < (n4 : Int)))) then
      bindO (intC IntKind.i64 (c5[((Int.toNat i7) * 1)]?)) fun x0 =>
      bindO (F 84 (RSh.one (CK.int IntKind.i64)) [(PV.list n0 c1), (PV.int IntKind.i64 i7), (PV.int IntKind.i64 i2)]) fun (y1 : (Int)) =>
      bindO (F 112 (RSh.agg [(CK.int IntKind.i64), (CK.int IntKind.i64)]) [(PV.int IntKind.i64 x0), (PV.int IntKind.i64 y1)]) fun (y2 : ((Int) × (Int))) =>
      bif (decide (((0 : Int) ≤ i7) ∧ (i7 < (n3 : Int)))) then
        bindO (Gv.overO c8 (0 + ((Int.toNat i7) * 2)) [(PV.int IntKind.i64 y2.1), (PV.int IntKind.i64 y2.2)]) fun x3 =>
        N (Tpf_shares_0a n0 c1 i2 n3 n4 c5 i6 (w64 (i7 + (1 : Int))) x3)
      else none
    else none
  else E (Xpf_shares_0a (n3, c8))
theorem Bpf_shares_0a_eq (F : FnT) (N : Q → Option (Ext × S)) (E : Ext × Q → Option (Ext × S)) (L0 : Q → Option Ypf_shares_0) (n0 : Nat) (c1 : List PV) (i2 : Int) (n3 : Nat) (n4 : Nat) (c5 : List PV) (i6 : Int) (i7 : Int) (c8 : List PV) : semB (callP F Epf_shares 20) s66 (loopT [⟨0, Ypf_shares_0, L0, XLpf_shares_0⟩]) 400 (blkIn a66.body 0) N E (Tpf_shares_0a n0 c1 i2 n3 n4 c5 i6 i7 c8) = Bpf_shares_0a F N E L0 n0 c1 i2 n3 n4 c5 i6 i7 c8 := by kernel_rfl
theorem Rpf_shares_0a_of  (n0 : Nat) (c1 : List PV) (i2 : Int) (n3 : Nat) (n4 : Nat) (c5 : List PV) (i6 : Int) (i7 : Int) (c8 : List PV) {r : Ext × S} (h : Bpf_shares_0a (Fn env) Rpf_shares_0 exO Lpf_shares_0 n0 c1 i2 n3 n4 c5 i6 i7 c8 = some r) : Rpf_shares_0 (Tpf_shares_0a n0 c1 i2 n3 n4 c5 i6 i7 c8) = some r :=
  lp_of Epf_shares_ok (by kernel_rfl) (lo_cons (lpO_ok Upf_shares) lo_nil) (by kernel_rfl) ((Bpf_shares_0a_eq _ _ _ _ _ _ _ _ _ _ _ _ _).trans h)
def tpf_shares (_F : FnT) (L0 : Q → Option Ypf_shares_0) (p0n : Nat) (p0c : List PV) (p1 : Int) : Option ((Nat) × (List PV)) :=
  bif (decide (((p0n : Int) = (p0n : Int)) ∧ (((0 : Int) ≤ (p0n : Int)) ∧ ((p0n : Int) ≤ (big : Int))))) then
    bindO (L0 (Tpf_shares_0a p0n p0c p1 (Int.toNat (p0n : Int)) p0n p0c (p0n : Int) (0 : Int) (rep [(PV.int IntKind.i64 (0 : Int)), (PV.int IntKind.i64 (0 : Int))] (Int.toNat (p0n : Int))))) fun y0 =>
    bif (decide ((0 + (y0.1 * 2)) ≤ (List.length y0.2))) then
      some (y0.1, (List.take (y0.1 * 2) (List.drop 0 y0.2)))
    else none
  else none
theorem tpf_shares_eq (F : FnT) (L0 : Q → Option Ypf_shares_0) (p0n : Nat) (p0c : List PV) (p1 : Int) : semF (callP F Epf_shares 20) s66 (loopT [⟨0, Ypf_shares_0, L0, XLpf_shares_0⟩]) 400 a66 [PV.list p0n p0c, PV.int IntKind.i64 p1] (fun rv => decR (RSh.one CK.list) rv.pv) = tpf_shares F L0 p0n p0c p1 := by kernel_rfl
noncomputable abbrev Fpf_shares (args : List PV) := Fn env 66 (RSh.one CK.list) args
theorem Fpf_shares_of  (p0n : Nat) (p0c : List PV) (p1 : Int) {res : ((Nat) × (List PV))} (h : tpf_shares (Fn env) Lpf_shares_0 p0n p0c p1 = some res) : Fpf_shares [PV.list p0n p0c, PV.int IntKind.i64 p1] = some res :=
  fn_of Epf_shares_ok rfl rfl (lo_cons (lpO_ok Upf_shares) lo_nil) ((tpf_shares_eq _ _ _ _ _).trans h)

/-! ### cloud_Undone -/

def Ecloud_Undone : List Entry := [.out 63 (RSh.one (CK.int IntKind.i64)), .out 64 (RSh.one (CK.int IntKind.i64)), .out 62 (RSh.one (CK.int IntKind.i64)), .out 65 (RSh.one (CK.int IntKind.i64)), .out 66 (RSh.one CK.list)]
theorem Ecloud_Undone_ok : ∀ e ∈ Ecloud_Undone, EntOK env e := (ent_out (ent_out (ent_out (ent_out (ent_out ent_nil)))))
theorem Ucloud_Undone : uniq ((blocksOf a12.body).map (·.1)) = true := by kernel_rfl
def tcloud_Undone (F : FnT) (p0n : Nat) (p0c : List PV) (p1 : Int) : Option (((Nat) × (List PV)) × (Int)) :=
  bindO (F 63 (RSh.one (CK.int IntKind.i64)) [(PV.list p0n p0c)]) fun (y0 : (Int)) =>
  bindO (F 64 (RSh.one (CK.int IntKind.i64)) [(PV.int IntKind.i64 p1)]) fun (y1 : (Int)) =>
  bindO (F 62 (RSh.one (CK.int IntKind.i64)) [(PV.list 2 [(PV.int IntKind.i64 y0), (PV.int IntKind.i64 y1)])]) fun (y2 : (Int)) =>
  bif (y2 != (0 : Int)) then
    some ((0, []), y2)
  else bindO (F 65 (RSh.one (CK.int IntKind.i64)) [(PV.list p0n p0c), (PV.int IntKind.i64 p1)]) fun (y3 : (Int)) =>
  bif (y3 != (0 : Int)) then
    some ((0, []), y3)
  else bindO (F 66 (RSh.one CK.list) [(PV.list p0n p0c), (PV.int IntKind.i64 p1)]) fun (y4 : ((Nat) × (List PV))) =>
  some ((y4.1, y4.2), (0 : Int))
theorem tcloud_Undone_eq (F : FnT) (p0n : Nat) (p0c : List PV) (p1 : Int) : semF (callP F Ecloud_Undone 20) s12 (loopT []) 400 a12 [PV.list p0n p0c, PV.int IntKind.i64 p1] (fun rv => decR (RSh.tup [(Prod.mk false [CK.list]), (Prod.mk false [(CK.int IntKind.i64)])]) rv.pv) = tcloud_Undone F p0n p0c p1 := by kernel_rfl
noncomputable abbrev Fcloud_Undone (args : List PV) := Fn env 12 (RSh.tup [(Prod.mk false [CK.list]), (Prod.mk false [(CK.int IntKind.i64)])]) args
theorem Fcloud_Undone_of  (p0n : Nat) (p0c : List PV) (p1 : Int) {res : (((Nat) × (List PV)) × (Int))} (h : tcloud_Undone (Fn env) p0n p0c p1 = some res) : Fcloud_Undone [PV.list p0n p0c, PV.int IntKind.i64 p1] = some res :=
  fn_of Ecloud_Undone_ok rfl rfl lo_nil ((tcloud_Undone_eq _ _ _ _).trans h)

/-! ### cloud_ConstantOf_1 -/

def Ecloud_ConstantOf_1 : List Entry := [.out 69 (RSh.one (CK.int IntKind.i64)), .out 62 (RSh.one (CK.int IntKind.i64))]
theorem Ecloud_ConstantOf_1_ok : ∀ e ∈ Ecloud_ConstantOf_1, EntOK env e := (ent_out (ent_out ent_nil))
theorem Ucloud_ConstantOf_1 : uniq ((blocksOf a68.body).map (·.1)) = true := by kernel_rfl
def tcloud_ConstantOf_1 (F : FnT)(_n : Nat) (_cs : List PV) (a b : Int) : Option (Int) :=
  bindO (F 69 (RSh.one (CK.int IntKind.i64)) [(PV.int IntKind.i64 a), (PV.int IntKind.i64 (1 : Int)), (PV.int IntKind.i64 (1000000 : Int))]) fun (y0 : (Int)) =>
  bindO (F 69 (RSh.one (CK.int IntKind.i64)) [(PV.int IntKind.i64 b), (PV.int IntKind.i64 (0 : Int)), (PV.int IntKind.i64 (1000000 : Int))]) fun (y1 : (Int)) =>
  bindO (F 62 (RSh.one (CK.int IntKind.i64)) [(PV.list 2 [(PV.int IntKind.i64 y0), (PV.int IntKind.i64 y1)])]) fun (y2 : (Int)) =>
  some y2
theorem tcloud_ConstantOf_1_eq (F : FnT)(n : Nat) (cs : List PV) (a b : Int) : semF (callP F Ecloud_ConstantOf_1 20) s68 (loopT []) 400 a68 [.list n cs, .agg [.int .i64 a, .int .i64 b]] (fun rv => decR (RSh.one (CK.int IntKind.i64)) rv.pv) = tcloud_ConstantOf_1 F n cs a b := by kernel_rfl
noncomputable abbrev Fcloud_ConstantOf_1 (args : List PV) := Fn env 68 (RSh.one (CK.int IntKind.i64)) args
theorem Fcloud_ConstantOf_1_of (n : Nat) (cs : List PV) (a b : Int) {res : (Int)} (h : tcloud_ConstantOf_1 (Fn env) n cs a b = some res) : Fcloud_ConstantOf_1 [.list n cs, .agg [.int .i64 a, .int .i64 b]] = some res :=
  fn_of Ecloud_ConstantOf_1_ok rfl rfl lo_nil ((tcloud_ConstantOf_1_eq _ _ _ _ _).trans h)

/-! ### cloud_itemError_points -/

def Ecloud_itemError_points : List Entry := [.out 68 (RSh.one (CK.int IntKind.i64))]
theorem Ecloud_itemError_points_ok : ∀ e ∈ Ecloud_itemError_points, EntOK env e := (ent_out ent_nil)
def Tcloud_itemError_points_0a (n0 : Nat) (c1 : List PV) (n2 : Nat) (c3 : List PV) (i4 : Int) (i5 : Int) : Q := ⟨(tm 27 [(0, (AV.p (PV.list n0 c1))), (1, (AV.p (PV.fn 68 []))), (9, (AV.p (PV.list n2 c3))), (10, (AV.p (PV.int IntKind.i64 i4))), (11, (AV.p (PV.int IntKind.i64 i5)))]), (mm 27 [])⟩
def Xcloud_itemError_points_0a (y : Int × Int) : Ext × Q := (Ext.ret, ⟨(tm 27 [(4, (AV.p (PV.int IntKind.i64 y.1))), (5, (AV.p (PV.int IntKind.i64 y.2)))]), (mm 27 [])⟩)
def Icloud_itemError_points_0a (q : Ext × S) : Int × Int := ((pP_int1 (pA_p (avT q.2 4))), (pP_int1 (pA_p (avT q.2 5))))
def Xcloud_itemError_points_0b (_y : Unit) : Ext × Q := (Ext.normal, ⟨(tm 27 []), (mm 27 [])⟩)
def Icloud_itemError_points_0b (_q : Ext × S) : Unit := ()
abbrev Ycloud_itemError_points_0 : Type := (Int × Int) ⊕ ((Unit))
def XLcloud_itemError_points_0 : XL Ycloud_itemError_points_0 := .more Xcloud_itemError_points_0a (.one Xcloud_itemError_points_0b)
def Icloud_itemError_points_0 (q : Ext × S) : Ycloud_itemError_points_0 := bif (cE q.1 == 2) then (Sum.inl (Icloud_itemError_points_0a q)) else (Sum.inr (Icloud_itemError_points_0b q))
theorem XIcloud_itemError_points_0a (y : Int × Int) : Icloud_itemError_points_0 (xe (Xcloud_itemError_points_0a y)) = (Sum.inl y) := rfl
theorem XIcloud_itemError_points_0b (y : Unit) : Icloud_itemError_points_0 (xe (Xcloud_itemError_points_0b y)) = (Sum.inr y) := rfl
theorem XIcloud_itemError_points_0 (y : Ycloud_itemError_points_0) : Icloud_itemError_points_0 (xe (XLcloud_itemError_points_0.fn y)) = y := (match y with | .inl y => XIcloud_itemError_points_0a y | .inr y => XIcloud_itemError_points_0b y)
noncomputable abbrev Lcloud_itemError_points_0 : Q → Option Ycloud_itemError_points_0 := lpO env a141.body 0 XLcloud_itemError_points_0
noncomputable abbrev Rcloud_itemError_points_0 : Q → Option (Ext × S) := lpR env a141.body 0
theorem Lcloud_itemError_points_0a_of {s : Q} {y : Int × Int} (h : Rcloud_itemError_points_0 s = exO (Xcloud_itemError_points_0a y)) : Lcloud_itemError_points_0 s = some (Sum.inl y) := lpO_of Icloud_itemError_points_0 XIcloud_itemError_points_0 (y := (Sum.inl y)) h
theorem Lcloud_itemError_points_0b_of {s : Q} {y : Unit} (h : Rcloud_itemError_points_0 s = exO (Xcloud_itemError_points_0b y)) : Lcloud_itemError_points_0 s = some (Sum.inr y) := lpO_of Icloud_itemError_points_0 XIcloud_itemError_points_0 (y := (Sum.inr y)) h
theorem Ucloud_itemError_points : uniq ((blocksOf a141.body).map (·.1)) = true := by kernel_rfl
def Bcloud_itemError_points_0a (F : FnT) (N : Q → Option (Ext × S)) (E : Ext × Q → Option (Ext × S)) (_L0 : Q → Option Ycloud_itemError_points_0) (n0 : Nat) (c1 : List PV) (n2 : Nat) (c3 : List PV) (i4 : Int) (i5 : Int) : Option (Ext × S) :=
  bif (decide (i5 < i4)) then
    bif (decide (((0 : Int) ≤ i5) ∧ (i5 < (n2 : Int)))) then
      bindO (intC IntKind.i64 (c3[((Int.toNat i5) * 2)]?)) fun x0 =>
      bindO (intC IntKind.i64 (c3[(((Int.toNat i5) * 2) + 1)]?)) fun x1 =>
      bif (decide (((0 : Int) ≤ i5) ∧ (i5 ≤ ((Prod.mk n0 c1).1 : Int)))) then
        bif (decide ((0 = (Int.toNat i5)) ∨ (((0 * 2) + (((Int.toNat i5) - 0) * 2)) ≤ (List.length c1)))) then
          bindO (F 68 (RSh.one (CK.int IntKind.i64)) [(PV.list ((Int.toNat i5) - 0) (List.take (((Int.toNat i5) - 0) * 2) (List.drop 0 c1))), (PV.agg [(PV.int IntKind.i64 x0), (PV.int IntKind.i64 x1)])]) fun (y2 : (Int)) =>
          bif (y2 != (0 : Int)) then
            E (Xcloud_itemError_points_0a (i5, y2))
          else N (Tcloud_itemError_points_0a n0 c1 n2 c3 i4 (w64 (i5 + (1 : Int))))
        else none
      else none
    else none
  else E (Xcloud_itemError_points_0b ())
theorem Bcloud_itemError_points_0a_eq (F : FnT) (N : Q → Option (Ext × S)) (E : Ext × Q → Option (Ext × S)) (L0 : Q → Option Ycloud_itemError_points_0) (n0 : Nat) (c1 : List PV) (n2 : Nat) (c3 : List PV) (i4 : Int) (i5 : Int) : semB (callP F Ecloud_itemError_points 20) s141 (loopT [⟨0, Ycloud_itemError_points_0, L0, XLcloud_itemError_points_0⟩]) 400 (blkIn a141.body 0) N E (Tcloud_itemError_points_0a n0 c1 n2 c3 i4 i5) = Bcloud_itemError_points_0a F N E L0 n0 c1 n2 c3 i4 i5 := by kernel_rfl
theorem Rcloud_itemError_points_0a_of  (n0 : Nat) (c1 : List PV) (n2 : Nat) (c3 : List PV) (i4 : Int) (i5 : Int) {r : Ext × S} (h : Bcloud_itemError_points_0a (Fn env) Rcloud_itemError_points_0 exO Lcloud_itemError_points_0 n0 c1 n2 c3 i4 i5 = some r) : Rcloud_itemError_points_0 (Tcloud_itemError_points_0a n0 c1 n2 c3 i4 i5) = some r :=
  lp_of Ecloud_itemError_points_ok (by kernel_rfl) (lo_cons (lpO_ok Ucloud_itemError_points) lo_nil) (by kernel_rfl) ((Bcloud_itemError_points_0a_eq _ _ _ _ _ _ _ _ _ _).trans h)
def tcloud_itemError_points (_F : FnT) (L0 : Q → Option Ycloud_itemError_points_0)(n : Nat) (cs : List PV) : Option ((Int) × (Int)) :=
  bindO (L0 (Tcloud_itemError_points_0a n cs n cs (n : Int) (0 : Int))) fun z =>
  Sum.elim (fun y0 =>
    some (y0.1, y0.2)) (fun _y1 =>
    some ((0 : Int), (0 : Int))) z
theorem tcloud_itemError_points_eq (F : FnT) (L0 : Q → Option Ycloud_itemError_points_0)(n : Nat) (cs : List PV) : semF (callP F Ecloud_itemError_points 20) s141 (loopT [⟨0, Ycloud_itemError_points_0, L0, XLcloud_itemError_points_0⟩]) 400 a141 [.list n cs, .fn 68 []] (fun rv => decR (RSh.tup [(Prod.mk false [(CK.int IntKind.i64)]), (Prod.mk false [(CK.int IntKind.i64)])]) rv.pv) = tcloud_itemError_points F L0 n cs := by kernel_rfl
noncomputable abbrev Fcloud_itemError_points (args : List PV) := Fn env 141 (RSh.tup [(Prod.mk false [(CK.int IntKind.i64)]), (Prod.mk false [(CK.int IntKind.i64)])]) args
theorem Fcloud_itemError_points_of (n : Nat) (cs : List PV) {res : ((Int) × (Int))} (h : tcloud_itemError_points (Fn env) Lcloud_itemError_points_0 n cs = some res) : Fcloud_itemError_points [.list n cs, .fn 68 []] = some res :=
  fn_of Ecloud_itemError_points_ok rfl rfl (lo_cons (lpO_ok Ucloud_itemError_points) lo_nil) ((tcloud_itemError_points_eq _ _ _ _).trans h)

/-! ### cloud_listError_points -/

def Ecloud_listError_points : List Entry := [.out 141 (RSh.tup [(Prod.mk false [(CK.int IntKind.i64)]), (Prod.mk false [(CK.int IntKind.i64)])])]
theorem Ecloud_listError_points_ok : ∀ e ∈ Ecloud_listError_points, EntOK env e := (ent_out ent_nil)
theorem Ucloud_listError_points : uniq ((blocksOf a113.body).map (·.1)) = true := by kernel_rfl
def tcloud_listError_points (F : FnT)(n : Nat) (cs : List PV) (m : Int) : Option ((Int) × (Int)) :=
  bif (decide ((n : Int) > m)) then
    some ((0 : Int), (8 : Int))
  else bindO (F 141 (RSh.tup [(Prod.mk false [(CK.int IntKind.i64)]), (Prod.mk false [(CK.int IntKind.i64)])]) [(PV.list n cs), (PV.fn 68 [])]) fun (y0 : ((Int) × (Int))) =>
  some (y0.1, y0.2)
theorem tcloud_listError_points_eq (F : FnT)(n : Nat) (cs : List PV) (m : Int) : semF (callP F Ecloud_listError_points 20) s113 (loopT []) 400 a113 [.list n cs, .int .i64 m, .fn 68 []] (fun rv => decR (RSh.tup [(Prod.mk false [(CK.int IntKind.i64)]), (Prod.mk false [(CK.int IntKind.i64)])]) rv.pv) = tcloud_listError_points F n cs m := by kernel_rfl
noncomputable abbrev Fcloud_listError_points (args : List PV) := Fn env 113 (RSh.tup [(Prod.mk false [(CK.int IntKind.i64)]), (Prod.mk false [(CK.int IntKind.i64)])]) args
theorem Fcloud_listError_points_of (n : Nat) (cs : List PV) (m : Int) {res : ((Int) × (Int))} (h : tcloud_listError_points (Fn env) n cs m = some res) : Fcloud_listError_points [.list n cs, .int .i64 m, .fn 68 []] = some res :=
  fn_of Ecloud_listError_points_ok rfl rfl lo_nil ((tcloud_listError_points_eq _ _ _ _).trans h)

/-! ### cloud_filledError_points -/

def Ecloud_filledError_points : List Entry := [.out 113 (RSh.tup [(Prod.mk false [(CK.int IntKind.i64)]), (Prod.mk false [(CK.int IntKind.i64)])])]
theorem Ecloud_filledError_points_ok : ∀ e ∈ Ecloud_filledError_points, EntOK env e := (ent_out ent_nil)
theorem Ucloud_filledError_points : uniq ((blocksOf a67.body).map (·.1)) = true := by kernel_rfl
def tcloud_filledError_points (F : FnT)(n : Nat) (cs : List PV) (m : Int) : Option ((Int) × (Int)) :=
  bif ((n : Int) == (0 : Int)) then
    some ((0 : Int), (10 : Int))
  else bindO (F 113 (RSh.tup [(Prod.mk false [(CK.int IntKind.i64)]), (Prod.mk false [(CK.int IntKind.i64)])]) [(PV.list n cs), (PV.int IntKind.i64 m), (PV.fn 68 [])]) fun (y0 : ((Int) × (Int))) =>
  some (y0.1, y0.2)
theorem tcloud_filledError_points_eq (F : FnT)(n : Nat) (cs : List PV) (m : Int) : semF (callP F Ecloud_filledError_points 20) s67 (loopT []) 400 a67 [.list n cs, .int .i64 m, .fn 68 []] (fun rv => decR (RSh.tup [(Prod.mk false [(CK.int IntKind.i64)]), (Prod.mk false [(CK.int IntKind.i64)])]) rv.pv) = tcloud_filledError_points F n cs m := by kernel_rfl
noncomputable abbrev Fcloud_filledError_points (args : List PV) := Fn env 67 (RSh.tup [(Prod.mk false [(CK.int IntKind.i64)]), (Prod.mk false [(CK.int IntKind.i64)])]) args
theorem Fcloud_filledError_points_of (n : Nat) (cs : List PV) (m : Int) {res : ((Int) × (Int))} (h : tcloud_filledError_points (Fn env) n cs m = some res) : Fcloud_filledError_points [.list n cs, .int .i64 m, .fn 68 []] = some res :=
  fn_of Ecloud_filledError_points_ok rfl rfl lo_nil ((tcloud_filledError_points_eq _ _ _ _).trans h)

/-! ### cloud_ConstantOf -/

def Ecloud_ConstantOf : List Entry := [.out 67 (RSh.tup [(Prod.mk false [(CK.int IntKind.i64)]), (Prod.mk false [(CK.int IntKind.i64)])])]
theorem Ecloud_ConstantOf_ok : ∀ e ∈ Ecloud_ConstantOf, EntOK env e := (ent_out ent_nil)
def Tcloud_ConstantOf_0a (n0 : Nat) (c1 : List PV) (i2 : Int) (i3 : Int) (i4 : Int) (i5 : Int) : Q := ⟨(tm 69 [(2, (AV.loc 2 0)), (6, (AV.loc 6 0)), (37, (AV.p (PV.list n0 c1))), (38, (AV.p (PV.int IntKind.i64 i2))), (39, (AV.p (PV.int IntKind.i64 i3)))]), (mm 69 [(2, (Bk.pcs true [(PV.int IntKind.i64 (0 : Int)), (PV.int IntKind.i64 (0 : Int))])), (6, (Bk.pcs true [(PV.int IntKind.i64 i4), (PV.int IntKind.i64 i5)]))])⟩
def Xcloud_ConstantOf_0a (y : Int × Int) : Ext × Q := (Ext.normal, ⟨(tm 69 [(2, (AV.loc 2 0)), (6, (AV.loc 6 0))]), (mm 69 [(2, (Bk.pcs true [(PV.int IntKind.i64 (0 : Int)), (PV.int IntKind.i64 (0 : Int))])), (6, (Bk.pcs true [(PV.int IntKind.i64 y.1), (PV.int IntKind.i64 y.2)]))])⟩)
def Icloud_ConstantOf_0a (q : Ext × S) : Int × Int := ((pP_int1 (hdP (pB_pcs1 (avM q.2 6)))), (pP_int1 (hdP (List.tail (pB_pcs1 (avM q.2 6))))))
abbrev Ycloud_ConstantOf_0 : Type := Int × Int
def XLcloud_ConstantOf_0 : XL Ycloud_ConstantOf_0 := .one Xcloud_ConstantOf_0a
def Icloud_ConstantOf_0 (q : Ext × S) : Ycloud_ConstantOf_0 := (Icloud_ConstantOf_0a q)
theorem XIcloud_ConstantOf_0a (y : Int × Int) : Icloud_ConstantOf_0 (xe (Xcloud_ConstantOf_0a y)) = y := rfl
theorem XIcloud_ConstantOf_0 (y : Ycloud_ConstantOf_0) : Icloud_ConstantOf_0 (xe (XLcloud_ConstantOf_0.fn y)) = y := XIcloud_ConstantOf_0a y
noncomputable abbrev Lcloud_ConstantOf_0 : Q → Option Ycloud_ConstantOf_0 := lpO env a13.body 0 XLcloud_ConstantOf_0
noncomputable abbrev Rcloud_ConstantOf_0 : Q → Option (Ext × S) := lpR env a13.body 0
theorem Lcloud_ConstantOf_0a_of {s : Q} {y : Int × Int} (h : Rcloud_ConstantOf_0 s = exO (Xcloud_ConstantOf_0a y)) : Lcloud_ConstantOf_0 s = some y := lpO_of Icloud_ConstantOf_0 XIcloud_ConstantOf_0 (y := y) h
theorem Ucloud_ConstantOf : uniq ((blocksOf a13.body).map (·.1)) = true := by kernel_rfl
def Bcloud_ConstantOf_0a (_F : FnT) (N : Q → Option (Ext × S)) (E : Ext × Q → Option (Ext × S)) (_L0 : Q → Option Ycloud_ConstantOf_0) (n0 : Nat) (c1 : List PV) (i2 : Int) (i3 : Int) (i4 : Int) (i5 : Int) : Option (Ext × S) :=
  bif (decide (i3 < i2)) then
    bif (decide (((0 : Int) ≤ i3) ∧ (i3 < (n0 : Int)))) then
      bindO (intC IntKind.i64 (c1[((Int.toNat i3) * 2)]?)) fun x0 =>
      bindO (intC IntKind.i64 (c1[(((Int.toNat i3) * 2) + 1)]?)) fun x1 =>
      N (Tcloud_ConstantOf_0a n0 c1 i2 (w64 (i3 + (1 : Int))) (if ((w64 (x0 - x1)) > i4) then (w64 (x0 - x1)) else i4) (if ((w64 (x0 + x1)) < i5) then (w64 (x0 + x1)) else i5))
    else none
  else E (Xcloud_ConstantOf_0a (i4, i5))
theorem Bcloud_ConstantOf_0a_eq (F : FnT) (N : Q → Option (Ext × S)) (E : Ext × Q → Option (Ext × S)) (L0 : Q → Option Ycloud_ConstantOf_0) (n0 : Nat) (c1 : List PV) (i2 : Int) (i3 : Int) (i4 : Int) (i5 : Int) : semB (callP F Ecloud_ConstantOf 20) s13 (loopT [⟨0, Ycloud_ConstantOf_0, L0, XLcloud_ConstantOf_0⟩]) 400 (blkIn a13.body 0) N E (Tcloud_ConstantOf_0a n0 c1 i2 i3 i4 i5) = Bcloud_ConstantOf_0a F N E L0 n0 c1 i2 i3 i4 i5 := by kernel_rfl
theorem Rcloud_ConstantOf_0a_of  (n0 : Nat) (c1 : List PV) (i2 : Int) (i3 : Int) (i4 : Int) (i5 : Int) {r : Ext × S} (h : Bcloud_ConstantOf_0a (Fn env) Rcloud_ConstantOf_0 exO Lcloud_ConstantOf_0 n0 c1 i2 i3 i4 i5 = some r) : Rcloud_ConstantOf_0 (Tcloud_ConstantOf_0a n0 c1 i2 i3 i4 i5) = some r :=
  lp_of Ecloud_ConstantOf_ok (by kernel_rfl) (lo_cons (lpO_ok Ucloud_ConstantOf) lo_nil) (by kernel_rfl) ((Bcloud_ConstantOf_0a_eq _ _ _ _ _ _ _ _ _ _).trans h)
def tcloud_ConstantOf (F : FnT) (L0 : Q → Option Ycloud_ConstantOf_0) (p0n : Nat) (p0c : List PV) : Option ((Int) × ((Int) × (Int))) :=
  bindO (F 67 (RSh.tup [(Prod.mk false [(CK.int IntKind.i64)]), (Prod.mk false [(CK.int IntKind.i64)])]) [(PV.list p0n p0c), (PV.int IntKind.i64 (12 : Int)), (PV.fn 68 [])]) fun (y0 : ((Int) × (Int))) =>
  bif (y0.2 != (0 : Int)) then
    some ((0 : Int), ((0 : Int), y0.2))
  else bif (decide (((0 : Int) ≤ (0 : Int)) ∧ ((0 : Int) < (p0n : Int)))) then
    bindO (intC IntKind.i64 (p0c[0]?)) fun x1 =>
    bif (decide (((0 : Int) ≤ (0 : Int)) ∧ ((0 : Int) < (p0n : Int)))) then
      bindO (intC IntKind.i64 (p0c[1]?)) fun x2 =>
      bif (decide (((0 : Int) ≤ (0 : Int)) ∧ ((0 : Int) < (p0n : Int)))) then
        bindO (intC IntKind.i64 (p0c[0]?)) fun x3 =>
        bif (decide (((0 : Int) ≤ (0 : Int)) ∧ ((0 : Int) < (p0n : Int)))) then
          bindO (intC IntKind.i64 (p0c[1]?)) fun x4 =>
          bindO (L0 (Tcloud_ConstantOf_0a p0n p0c (p0n : Int) (0 : Int) (w64 (x1 - x2)) (w64 (x3 + x4)))) fun y5 =>
          bif (decide (y5.1 > y5.2)) then
            some ((0 : Int), ((0 : Int), (12 : Int)))
          else some (y5.1, (y5.2, (0 : Int)))
        else none
      else none
    else none
  else none
theorem tcloud_ConstantOf_eq (F : FnT) (L0 : Q → Option Ycloud_ConstantOf_0) (p0n : Nat) (p0c : List PV) : semF (callP F Ecloud_ConstantOf 20) s13 (loopT [⟨0, Ycloud_ConstantOf_0, L0, XLcloud_ConstantOf_0⟩]) 400 a13 [PV.list p0n p0c] (fun rv => decR (RSh.tup [(Prod.mk true [(CK.int IntKind.i64), (CK.int IntKind.i64)]), (Prod.mk false [(CK.int IntKind.i64)])]) rv.pv) = tcloud_ConstantOf F L0 p0n p0c := by kernel_rfl
noncomputable abbrev Fcloud_ConstantOf (args : List PV) := Fn env 13 (RSh.tup [(Prod.mk true [(CK.int IntKind.i64), (CK.int IntKind.i64)]), (Prod.mk false [(CK.int IntKind.i64)])]) args
theorem Fcloud_ConstantOf_of  (p0n : Nat) (p0c : List PV) {res : ((Int) × ((Int) × (Int)))} (h : tcloud_ConstantOf (Fn env) Lcloud_ConstantOf_0 p0n p0c = some res) : Fcloud_ConstantOf [PV.list p0n p0c] = some res :=
  fn_of Ecloud_ConstantOf_ok rfl rfl (lo_cons (lpO_ok Ucloud_ConstantOf) lo_nil) ((tcloud_ConstantOf_eq _ _ _ _).trans h)

/-! ### r8_CheckProfile -/

def Er8_CheckProfile : List Entry := [.out 31 (RSh.one CK.bool)]
theorem Er8_CheckProfile_ok : ∀ e ∈ Er8_CheckProfile, EntOK env e := (ent_out ent_nil)
def Tr8_CheckProfile_0a (n0 : Nat) (c1 : List PV) (i2 : Int) : Q := ⟨(tm 24 [(0, (AV.p (PV.list n0 c1))), (4, (AV.p (PV.int IntKind.i64 i2)))]), (mm 24 [])⟩
def Xr8_CheckProfile_0a (y : Int) : Ext × Q := (Ext.ret, ⟨(tm 24 [(2, (AV.p (PV.int IntKind.i64 y))), (3, (AV.p (PV.int IntKind.i64 (2 : Int))))]), (mm 24 [])⟩)
def Ir8_CheckProfile_0a (q : Ext × S) : Int := (pP_int1 (pA_p (avT q.2 2)))
def Xr8_CheckProfile_0b (_y : Unit) : Ext × Q := (Ext.normal, ⟨(tm 24 []), (mm 24 [])⟩)
def Ir8_CheckProfile_0b (_q : Ext × S) : Unit := ()
abbrev Yr8_CheckProfile_0 : Type := (Int) ⊕ ((Unit))
def XLr8_CheckProfile_0 : XL Yr8_CheckProfile_0 := .more Xr8_CheckProfile_0a (.one Xr8_CheckProfile_0b)
def Ir8_CheckProfile_0 (q : Ext × S) : Yr8_CheckProfile_0 := bif (cE q.1 == 2) then (Sum.inl (Ir8_CheckProfile_0a q)) else (Sum.inr (Ir8_CheckProfile_0b q))
theorem XIr8_CheckProfile_0a (y : Int) : Ir8_CheckProfile_0 (xe (Xr8_CheckProfile_0a y)) = (Sum.inl y) := rfl
theorem XIr8_CheckProfile_0b (y : Unit) : Ir8_CheckProfile_0 (xe (Xr8_CheckProfile_0b y)) = (Sum.inr y) := rfl
theorem XIr8_CheckProfile_0 (y : Yr8_CheckProfile_0) : Ir8_CheckProfile_0 (xe (XLr8_CheckProfile_0.fn y)) = y := (match y with | .inl y => XIr8_CheckProfile_0a y | .inr y => XIr8_CheckProfile_0b y)
noncomputable abbrev Lr8_CheckProfile_0 : Q → Option Yr8_CheckProfile_0 := lpO env a15.body 0 XLr8_CheckProfile_0
noncomputable abbrev Rr8_CheckProfile_0 : Q → Option (Ext × S) := lpR env a15.body 0
theorem Lr8_CheckProfile_0a_of {s : Q} {y : Int} (h : Rr8_CheckProfile_0 s = exO (Xr8_CheckProfile_0a y)) : Lr8_CheckProfile_0 s = some (Sum.inl y) := lpO_of Ir8_CheckProfile_0 XIr8_CheckProfile_0 (y := (Sum.inl y)) h
theorem Lr8_CheckProfile_0b_of {s : Q} {y : Unit} (h : Rr8_CheckProfile_0 s = exO (Xr8_CheckProfile_0b y)) : Lr8_CheckProfile_0 s = some (Sum.inr y) := lpO_of Ir8_CheckProfile_0 XIr8_CheckProfile_0 (y := (Sum.inr y)) h
theorem Ur8_CheckProfile : uniq ((blocksOf a15.body).map (·.1)) = true := by kernel_rfl
def Br8_CheckProfile_0a (F : FnT) (N : Q → Option (Ext × S)) (E : Ext × Q → Option (Ext × S)) (_L0 : Q → Option Yr8_CheckProfile_0) (n0 : Nat) (c1 : List PV) (i2 : Int) : Option (Ext × S) :=
  bif (decide (i2 < (n0 : Int))) then
    bif (decide (((0 : Int) ≤ i2) ∧ (i2 < (n0 : Int)))) then
      bindO (intC IntKind.i64 (c1[((Int.toNat i2) * 1)]?)) fun x0 =>
      bindO (F 31 (RSh.one CK.bool) [(PV.int IntKind.i64 x0), (PV.int IntKind.i64 (0 : Int)), (PV.int IntKind.i64 (10000 : Int))]) fun (y1 : (Bool)) =>
      bif y1 then
        N (Tr8_CheckProfile_0a n0 c1 (w64 (i2 + (1 : Int))))
      else E (Xr8_CheckProfile_0a i2)
    else none
  else E (Xr8_CheckProfile_0b ())
theorem Br8_CheckProfile_0a_eq (F : FnT) (N : Q → Option (Ext × S)) (E : Ext × Q → Option (Ext × S)) (L0 : Q → Option Yr8_CheckProfile_0) (n0 : Nat) (c1 : List PV) (i2 : Int) : semB (callP F Er8_CheckProfile 20) s15 (loopT [⟨0, Yr8_CheckProfile_0, L0, XLr8_CheckProfile_0⟩]) 400 (blkIn a15.body 0) N E (Tr8_CheckProfile_0a n0 c1 i2) = Br8_CheckProfile_0a F N E L0 n0 c1 i2 := by kernel_rfl
theorem Rr8_CheckProfile_0a_of  (n0 : Nat) (c1 : List PV) (i2 : Int) {r : Ext × S} (h : Br8_CheckProfile_0a (Fn env) Rr8_CheckProfile_0 exO Lr8_CheckProfile_0 n0 c1 i2 = some r) : Rr8_CheckProfile_0 (Tr8_CheckProfile_0a n0 c1 i2) = some r :=
  lp_of Er8_CheckProfile_ok (by kernel_rfl) (lo_cons (lpO_ok Ur8_CheckProfile) lo_nil) (by kernel_rfl) ((Br8_CheckProfile_0a_eq _ _ _ _ _ _ _).trans h)
def tr8_CheckProfile (_F : FnT) (L0 : Q → Option Yr8_CheckProfile_0) (p0n : Nat) (p0c : List PV) : Option ((Int) × (Int)) :=
  bif ((p0n : Int) == (0 : Int)) then
    some ((0 : Int), (10 : Int))
  else bif (decide ((p0n : Int) > (24 : Int))) then
    some ((0 : Int), (8 : Int))
  else bindO (L0 (Tr8_CheckProfile_0a p0n p0c (0 : Int))) fun z =>
  Sum.elim (fun y0 =>
    some (y0, (2 : Int))) (fun _y1 =>
    some ((0 : Int), (0 : Int))) z
theorem tr8_CheckProfile_eq (F : FnT) (L0 : Q → Option Yr8_CheckProfile_0) (p0n : Nat) (p0c : List PV) : semF (callP F Er8_CheckProfile 20) s15 (loopT [⟨0, Yr8_CheckProfile_0, L0, XLr8_CheckProfile_0⟩]) 400 a15 [PV.list p0n p0c] (fun rv => decR (RSh.tup [(Prod.mk false [(CK.int IntKind.i64)]), (Prod.mk false [(CK.int IntKind.i64)])]) rv.pv) = tr8_CheckProfile F L0 p0n p0c := by kernel_rfl
noncomputable abbrev Fr8_CheckProfile (args : List PV) := Fn env 15 (RSh.tup [(Prod.mk false [(CK.int IntKind.i64)]), (Prod.mk false [(CK.int IntKind.i64)])]) args
theorem Fr8_CheckProfile_of  (p0n : Nat) (p0c : List PV) {res : ((Int) × (Int))} (h : tr8_CheckProfile (Fn env) Lr8_CheckProfile_0 p0n p0c = some res) : Fr8_CheckProfile [PV.list p0n p0c] = some res :=
  fn_of Er8_CheckProfile_ok rfl rfl (lo_cons (lpO_ok Ur8_CheckProfile) lo_nil) ((tr8_CheckProfile_eq _ _ _ _).trans h)

/-! ### r8_ProfileErr -/

def Er8_ProfileErr : List Entry := [.out 15 (RSh.tup [(Prod.mk false [(CK.int IntKind.i64)]), (Prod.mk false [(CK.int IntKind.i64)])])]
theorem Er8_ProfileErr_ok : ∀ e ∈ Er8_ProfileErr, EntOK env e := (ent_out ent_nil)
theorem Ur8_ProfileErr : uniq ((blocksOf a26.body).map (·.1)) = true := by kernel_rfl
def tr8_ProfileErr (F : FnT) (p0n : Nat) (p0c : List PV) : Option (Int) :=
  bindO (F 15 (RSh.tup [(Prod.mk false [(CK.int IntKind.i64)]), (Prod.mk false [(CK.int IntKind.i64)])]) [(PV.list p0n p0c)]) fun (y0 : ((Int) × (Int))) =>
  some y0.2
theorem tr8_ProfileErr_eq (F : FnT) (p0n : Nat) (p0c : List PV) : semF (callP F Er8_ProfileErr 20) s26 (loopT []) 400 a26 [PV.list p0n p0c] (fun rv => decR (RSh.one (CK.int IntKind.i64)) rv.pv) = tr8_ProfileErr F p0n p0c := by kernel_rfl
noncomputable abbrev Fr8_ProfileErr (args : List PV) := Fn env 26 (RSh.one (CK.int IntKind.i64)) args
theorem Fr8_ProfileErr_of  (p0n : Nat) (p0c : List PV) {res : (Int)} (h : tr8_ProfileErr (Fn env) p0n p0c = some res) : Fr8_ProfileErr [PV.list p0n p0c] = some res :=
  fn_of Er8_ProfileErr_ok rfl rfl lo_nil ((tr8_ProfileErr_eq _ _ _).trans h)

/-! ### r8_ConstantErr -/

def Er8_ConstantErr : List Entry := [.out 31 (RSh.one CK.bool)]
theorem Er8_ConstantErr_ok : ∀ e ∈ Er8_ConstantErr, EntOK env e := (ent_out ent_nil)
theorem Ur8_ConstantErr : uniq ((blocksOf a17.body).map (·.1)) = true := by kernel_rfl
def tr8_ConstantErr (F : FnT) (p0 : Int) : Option (Int) :=
  bindO (F 31 (RSh.one CK.bool) [(PV.int IntKind.i64 p0), (PV.int IntKind.i64 (1 : Int)), (PV.int IntKind.i64 (1000000 : Int))]) fun (y0 : (Bool)) =>
  bif y0 then
    some (0 : Int)
  else some (2 : Int)
theorem tr8_ConstantErr_eq (F : FnT) (p0 : Int) : semF (callP F Er8_ConstantErr 20) s17 (loopT []) 400 a17 [PV.int IntKind.i64 p0] (fun rv => decR (RSh.one (CK.int IntKind.i64)) rv.pv) = tr8_ConstantErr F p0 := by kernel_rfl
noncomputable abbrev Fr8_ConstantErr (args : List PV) := Fn env 17 (RSh.one (CK.int IntKind.i64)) args
theorem Fr8_ConstantErr_of  (p0 : Int) {res : (Int)} (h : tr8_ConstantErr (Fn env) p0 = some res) : Fr8_ConstantErr [PV.int IntKind.i64 p0] = some res :=
  fn_of Er8_ConstantErr_ok rfl rfl lo_nil ((tr8_ConstantErr_eq _ _).trans h)

/-! ### r8_Rest -/

def Er8_Rest : List Entry := []
theorem Er8_Rest_ok : ∀ e ∈ Er8_Rest, EntOK env e := ent_nil
def Tr8_Rest_0a (n0 : Nat) (c1 : List PV) (i2 : Int) (i3 : Int) (i4 : Int) : Q := ⟨(tm 20 [(0, (AV.p (PV.list n0 c1))), (1, (AV.p (PV.int IntKind.i64 i2))), (2, (AV.p (PV.int IntKind.i64 i3))), (7, (AV.p (PV.int IntKind.i64 i4)))]), (mm 20 [])⟩
def Xr8_Rest_0a (y : Int) : Ext × Q := (Ext.normal, ⟨(tm 20 [(1, (AV.p (PV.int IntKind.i64 y)))]), (mm 20 [])⟩)
def Ir8_Rest_0a (q : Ext × S) : Int := (pP_int1 (pA_p (avT q.2 1)))
abbrev Yr8_Rest_0 : Type := Int
def XLr8_Rest_0 : XL Yr8_Rest_0 := .one Xr8_Rest_0a
def Ir8_Rest_0 (q : Ext × S) : Yr8_Rest_0 := (Ir8_Rest_0a q)
theorem XIr8_Rest_0a (y : Int) : Ir8_Rest_0 (xe (Xr8_Rest_0a y)) = y := rfl
theorem XIr8_Rest_0 (y : Yr8_Rest_0) : Ir8_Rest_0 (xe (XLr8_Rest_0.fn y)) = y := XIr8_Rest_0a y
noncomputable abbrev Lr8_Rest_0 : Q → Option Yr8_Rest_0 := lpO env a38.body 0 XLr8_Rest_0
noncomputable abbrev Rr8_Rest_0 : Q → Option (Ext × S) := lpR env a38.body 0
theorem Lr8_Rest_0a_of {s : Q} {y : Int} (h : Rr8_Rest_0 s = exO (Xr8_Rest_0a y)) : Lr8_Rest_0 s = some y := lpO_of Ir8_Rest_0 XIr8_Rest_0 (y := y) h
theorem Ur8_Rest : uniq ((blocksOf a38.body).map (·.1)) = true := by kernel_rfl
def Br8_Rest_0a (_F : FnT) (N : Q → Option (Ext × S)) (E : Ext × Q → Option (Ext × S)) (_L0 : Q → Option Yr8_Rest_0) (n0 : Nat) (c1 : List PV) (i2 : Int) (i3 : Int) (i4 : Int) : Option (Ext × S) :=
  bif (decide (i4 < i3)) then
    bif (decide (((0 : Int) ≤ i4) ∧ (i4 < (n0 : Int)))) then
      bindO (intC IntKind.i64 (c1[((Int.toNat i4) * 1)]?)) fun x0 =>
      N (Tr8_Rest_0a n0 c1 (w64 (i2 - x0)) i3 (w64 (i4 + (1 : Int))))
    else none
  else E (Xr8_Rest_0a i2)
theorem Br8_Rest_0a_eq (F : FnT) (N : Q → Option (Ext × S)) (E : Ext × Q → Option (Ext × S)) (L0 : Q → Option Yr8_Rest_0) (n0 : Nat) (c1 : List PV) (i2 : Int) (i3 : Int) (i4 : Int) : semB (callP F Er8_Rest 20) s38 (loopT [⟨0, Yr8_Rest_0, L0, XLr8_Rest_0⟩]) 400 (blkIn a38.body 0) N E (Tr8_Rest_0a n0 c1 i2 i3 i4) = Br8_Rest_0a F N E L0 n0 c1 i2 i3 i4 := by kernel_rfl
theorem Rr8_Rest_0a_of  (n0 : Nat) (c1 : List PV) (i2 : Int) (i3 : Int) (i4 : Int) {r : Ext × S} (h : Br8_Rest_0a (Fn env) Rr8_Rest_0 exO Lr8_Rest_0 n0 c1 i2 i3 i4 = some r) : Rr8_Rest_0 (Tr8_Rest_0a n0 c1 i2 i3 i4) = some r :=
  lp_of Er8_Rest_ok (by kernel_rfl) (lo_cons (lpO_ok Ur8_Rest) lo_nil) (by kernel_rfl) ((Br8_Rest_0a_eq _ _ _ _ _ _ _ _ _).trans h)
def tr8_Rest (_F : FnT) (L0 : Q → Option Yr8_Rest_0) (p0n : Nat) (p0c : List PV) (p1 : Int) (p2 : Int) : Option (Int) :=
  bindO (L0 (Tr8_Rest_0a p0n p0c p1 p2 (0 : Int))) fun y0 =>
  some y0
theorem tr8_Rest_eq (F : FnT) (L0 : Q → Option Yr8_Rest_0) (p0n : Nat) (p0c : List PV) (p1 : Int) (p2 : Int) : semF (callP F Er8_Rest 20) s38 (loopT [⟨0, Yr8_Rest_0, L0, XLr8_Rest_0⟩]) 400 a38 [PV.list p0n p0c, PV.int IntKind.i64 p1, PV.int IntKind.i64 p2] (fun rv => decR (RSh.one (CK.int IntKind.i64)) rv.pv) = tr8_Rest F L0 p0n p0c p1 p2 := by kernel_rfl
noncomputable abbrev Fr8_Rest (args : List PV) := Fn env 38 (RSh.one (CK.int IntKind.i64)) args
theorem Fr8_Rest_of  (p0n : Nat) (p0c : List PV) (p1 : Int) (p2 : Int) {res : (Int)} (h : tr8_Rest (Fn env) Lr8_Rest_0 p0n p0c p1 p2 = some res) : Fr8_Rest [PV.list p0n p0c, PV.int IntKind.i64 p1, PV.int IntKind.i64 p2] = some res :=
  fn_of Er8_Rest_ok rfl rfl (lo_cons (lpO_ok Ur8_Rest) lo_nil) ((tr8_Rest_eq _ _ _ _ _ _).trans h)

/-! ### r8_BreakErr -/

def Er8_BreakErr : List Entry := [.out 38 (RSh.one (CK.int IntKind.i64))]
theorem Er8_BreakErr_ok : ∀ e ∈ Er8_BreakErr, EntOK env e := (ent_out ent_nil)
def Tr8_BreakErr_0a (n0 : Nat) (c1 : List PV) (i2 : Int) (i3 : Int) : Q := ⟨(tm 23 [(0, (AV.p (PV.list n0 c1))), (1, (AV.p (PV.int IntKind.i64 i2))), (5, (AV.p (PV.int IntKind.i64 i3)))]), (mm 23 [])⟩
def Xr8_BreakErr_0a (_y : Unit) : Ext × Q := (Ext.ret, ⟨(tm 23 [(4, (AV.p (PV.int IntKind.i64 (20 : Int))))]), (mm 23 [])⟩)
def Ir8_BreakErr_0a (_q : Ext × S) : Unit := ()
def Xr8_BreakErr_0b (y : Nat × List PV × Int) : Ext × Q := (Ext.normal, ⟨(tm 23 [(0, (AV.p (PV.list y.1 y.2.1))), (1, (AV.p (PV.int IntKind.i64 y.2.2)))]), (mm 23 [])⟩)
def Ir8_BreakErr_0b (q : Ext × S) : Nat × List PV × Int := ((pP_list0 (pA_p (avT q.2 0))), (pP_list1 (pA_p (avT q.2 0))), (pP_int1 (pA_p (avT q.2 1))))
abbrev Yr8_BreakErr_0 : Type := (Unit) ⊕ ((Nat × List PV × Int))
def XLr8_BreakErr_0 : XL Yr8_BreakErr_0 := .more Xr8_BreakErr_0a (.one Xr8_BreakErr_0b)
def Ir8_BreakErr_0 (q : Ext × S) : Yr8_BreakErr_0 := bif (cE q.1 == 2) then (Sum.inl (Ir8_BreakErr_0a q)) else (Sum.inr (Ir8_BreakErr_0b q))
theorem XIr8_BreakErr_0a (y : Unit) : Ir8_BreakErr_0 (xe (Xr8_BreakErr_0a y)) = (Sum.inl y) := rfl
theorem XIr8_BreakErr_0b (y : Nat × List PV × Int) : Ir8_BreakErr_0 (xe (Xr8_BreakErr_0b y)) = (Sum.inr y) := rfl
theorem XIr8_BreakErr_0 (y : Yr8_BreakErr_0) : Ir8_BreakErr_0 (xe (XLr8_BreakErr_0.fn y)) = y := (match y with | .inl y => XIr8_BreakErr_0a y | .inr y => XIr8_BreakErr_0b y)
noncomputable abbrev Lr8_BreakErr_0 : Q → Option Yr8_BreakErr_0 := lpO env a18.body 0 XLr8_BreakErr_0
noncomputable abbrev Rr8_BreakErr_0 : Q → Option (Ext × S) := lpR env a18.body 0
theorem Lr8_BreakErr_0a_of {s : Q} {y : Unit} (h : Rr8_BreakErr_0 s = exO (Xr8_BreakErr_0a y)) : Lr8_BreakErr_0 s = some (Sum.inl y) := lpO_of Ir8_BreakErr_0 XIr8_BreakErr_0 (y := (Sum.inl y)) h
theorem Lr8_BreakErr_0b_of {s : Q} {y : Nat × List PV × Int} (h : Rr8_BreakErr_0 s = exO (Xr8_BreakErr_0b y)) : Lr8_BreakErr_0 s = some (Sum.inr y) := lpO_of Ir8_BreakErr_0 XIr8_BreakErr_0 (y := (Sum.inr y)) h
theorem Ur8_BreakErr : uniq ((blocksOf a18.body).map (·.1)) = true := by kernel_rfl
def Br8_BreakErr_0a (F : FnT) (N : Q → Option (Ext × S)) (E : Ext × Q → Option (Ext × S)) (_L0 : Q → Option Yr8_BreakErr_0) (n0 : Nat) (c1 : List PV) (i2 : Int) (i3 : Int) : Option (Ext × S) :=
  bif (decide (i3 < (n0 : Int))) then
    bindO (F 38 (RSh.one (CK.int IntKind.i64)) [(PV.list n0 c1), (PV.int IntKind.i64 i2), (PV.int IntKind.i64 i3)]) fun (y0 : (Int)) =>
    bif (decide (y0 ≤ (0 : Int))) then
      E (Xr8_BreakErr_0a ())
    else N (Tr8_BreakErr_0a n0 c1 i2 (w64 (i3 + (1 : Int))))
  else E (Xr8_BreakErr_0b (n0, c1, i2))
theorem Br8_BreakErr_0a_eq (F : FnT) (N : Q → Option (Ext × S)) (E : Ext × Q → Option (Ext × S)) (L0 : Q → Option Yr8_BreakErr_0) (n0 : Nat) (c1 : List PV) (i2 : Int) (i3 : Int) : semB (callP F Er8_BreakErr 20) s18 (loopT [⟨0, Yr8_BreakErr_0, L0, XLr8_BreakErr_0⟩]) 400 (blkIn a18.body 0) N E (Tr8_BreakErr_0a n0 c1 i2 i3) = Br8_BreakErr_0a F N E L0 n0 c1 i2 i3 := by kernel_rfl
theorem Rr8_BreakErr_0a_of  (n0 : Nat) (c1 : List PV) (i2 : Int) (i3 : Int) {r : Ext × S} (h : Br8_BreakErr_0a (Fn env) Rr8_BreakErr_0 exO Lr8_BreakErr_0 n0 c1 i2 i3 = some r) : Rr8_BreakErr_0 (Tr8_BreakErr_0a n0 c1 i2 i3) = some r :=
  lp_of Er8_BreakErr_ok (by kernel_rfl) (lo_cons (lpO_ok Ur8_BreakErr) lo_nil) (by kernel_rfl) ((Br8_BreakErr_0a_eq _ _ _ _ _ _ _ _).trans h)
def tr8_BreakErr (F : FnT) (L0 : Q → Option Yr8_BreakErr_0) (p0n : Nat) (p0c : List PV) (p1 : Int) : Option (Int) :=
  bindO (L0 (Tr8_BreakErr_0a p0n p0c p1 (0 : Int))) fun z =>
  Sum.elim (fun _y0 =>
    some (20 : Int)) (fun y1 =>
    bindO (F 38 (RSh.one (CK.int IntKind.i64)) [(PV.list y1.1 y1.2.1), (PV.int IntKind.i64 y1.2.2), (PV.int IntKind.i64 (y1.1 : Int))]) fun (y2 : (Int)) =>
    bif (decide (y2 < (0 : Int))) then
      some (20 : Int)
    else some (0 : Int)) z
theorem tr8_BreakErr_eq (F : FnT) (L0 : Q → Option Yr8_BreakErr_0) (p0n : Nat) (p0c : List PV) (p1 : Int) : semF (callP F Er8_BreakErr 20) s18 (loopT [⟨0, Yr8_BreakErr_0, L0, XLr8_BreakErr_0⟩]) 400 a18 [PV.list p0n p0c, PV.int IntKind.i64 p1] (fun rv => decR (RSh.one (CK.int IntKind.i64)) rv.pv) = tr8_BreakErr F L0 p0n p0c p1 := by kernel_rfl
noncomputable abbrev Fr8_BreakErr (args : List PV) := Fn env 18 (RSh.one (CK.int IntKind.i64)) args
theorem Fr8_BreakErr_of  (p0n : Nat) (p0c : List PV) (p1 : Int) {res : (Int)} (h : tr8_BreakErr (Fn env) Lr8_BreakErr_0 p0n p0c p1 = some res) : Fr8_BreakErr [PV.list p0n p0c, PV.int IntKind.i64 p1] = some res :=
  fn_of Er8_BreakErr_ok rfl rfl (lo_cons (lpO_ok Ur8_BreakErr) lo_nil) ((tr8_BreakErr_eq _ _ _ _ _).trans h)

/-! ### b_Gcd -/

def Eb_Gcd : List Entry := [.out 142 (RSh.one (CK.int IntKind.i64))]
theorem Eb_Gcd_ok : ∀ e ∈ Eb_Gcd, EntOK env e := (ent_out ent_nil)
def Tb_Gcd_0a (i0 : Int) (i1 : Int) : Q := ⟨(tm 13 [(0, (AV.p (PV.int IntKind.i64 i0))), (1, (AV.p (PV.int IntKind.i64 i1)))]), (mm 13 [])⟩
def Xb_Gcd_0a (y : Int) : Ext × Q := (Ext.normal, ⟨(tm 13 [(0, (AV.p (PV.int IntKind.i64 y)))]), (mm 13 [])⟩)
def Ib_Gcd_0a (q : Ext × S) : Int := (pP_int1 (pA_p (avT q.2 0)))
abbrev Yb_Gcd_0 : Type := Int
def XLb_Gcd_0 : XL Yb_Gcd_0 := .one Xb_Gcd_0a
def Ib_Gcd_0 (q : Ext × S) : Yb_Gcd_0 := (Ib_Gcd_0a q)
theorem XIb_Gcd_0a (y : Int) : Ib_Gcd_0 (xe (Xb_Gcd_0a y)) = y := rfl
theorem XIb_Gcd_0 (y : Yb_Gcd_0) : Ib_Gcd_0 (xe (XLb_Gcd_0.fn y)) = y := XIb_Gcd_0a y
noncomputable abbrev Lb_Gcd_0 : Q → Option Yb_Gcd_0 := lpO env a114.body 0 XLb_Gcd_0
noncomputable abbrev Rb_Gcd_0 : Q → Option (Ext × S) := lpR env a114.body 0
theorem Lb_Gcd_0a_of {s : Q} {y : Int} (h : Rb_Gcd_0 s = exO (Xb_Gcd_0a y)) : Lb_Gcd_0 s = some y := lpO_of Ib_Gcd_0 XIb_Gcd_0 (y := y) h
theorem Ub_Gcd : uniq ((blocksOf a114.body).map (·.1)) = true := by kernel_rfl
def Bb_Gcd_0a (_F : FnT) (N : Q → Option (Ext × S)) (E : Ext × Q → Option (Ext × S)) (_L0 : Q → Option Yb_Gcd_0) (i0 : Int) (i1 : Int) : Option (Ext × S) :=
  bif (i1 != (0 : Int)) then
    bif (decide (i1 ≠ (0 : Int))) then
      N (Tb_Gcd_0a i1 (Int.tmod i0 i1))
    else none
  else E (Xb_Gcd_0a i0)
theorem Bb_Gcd_0a_eq (F : FnT) (N : Q → Option (Ext × S)) (E : Ext × Q → Option (Ext × S)) (L0 : Q → Option Yb_Gcd_0) (i0 : Int) (i1 : Int) : semB (callP F Eb_Gcd 20) s114 (loopT [⟨0, Yb_Gcd_0, L0, XLb_Gcd_0⟩]) 400 (blkIn a114.body 0) N E (Tb_Gcd_0a i0 i1) = Bb_Gcd_0a F N E L0 i0 i1 := by kernel_rfl
theorem Rb_Gcd_0a_of  (i0 : Int) (i1 : Int) {r : Ext × S} (h : Bb_Gcd_0a (Fn env) Rb_Gcd_0 exO Lb_Gcd_0 i0 i1 = some r) : Rb_Gcd_0 (Tb_Gcd_0a i0 i1) = some r :=
  lp_of Eb_Gcd_ok (by kernel_rfl) (lo_cons (lpO_ok Ub_Gcd) lo_nil) (by kernel_rfl) ((Bb_Gcd_0a_eq _ _ _ _ _ _).trans h)
def tb_Gcd (F : FnT) (L0 : Q → Option Yb_Gcd_0) (p0 : Int) (p1 : Int) : Option (Int) :=
  bindO (L0 (Tb_Gcd_0a p0 p1)) fun y0 =>
  bindO (F 142 (RSh.one (CK.int IntKind.i64)) [(PV.int IntKind.i64 y0)]) fun (y1 : (Int)) =>
  some y1
theorem tb_Gcd_eq (F : FnT) (L0 : Q → Option Yb_Gcd_0) (p0 : Int) (p1 : Int) : semF (callP F Eb_Gcd 20) s114 (loopT [⟨0, Yb_Gcd_0, L0, XLb_Gcd_0⟩]) 400 a114 [PV.int IntKind.i64 p0, PV.int IntKind.i64 p1] (fun rv => decR (RSh.one (CK.int IntKind.i64)) rv.pv) = tb_Gcd F L0 p0 p1 := by kernel_rfl
noncomputable abbrev Fb_Gcd (args : List PV) := Fn env 114 (RSh.one (CK.int IntKind.i64)) args
theorem Fb_Gcd_of  (p0 : Int) (p1 : Int) {res : (Int)} (h : tb_Gcd (Fn env) Lb_Gcd_0 p0 p1 = some res) : Fb_Gcd [PV.int IntKind.i64 p0, PV.int IntKind.i64 p1] = some res :=
  fn_of Eb_Gcd_ok rfl rfl (lo_cons (lpO_ok Ub_Gcd) lo_nil) ((tb_Gcd_eq _ _ _ _).trans h)

/-! ### b_Lowest -/

def Eb_Lowest : List Entry := [.out 114 (RSh.one (CK.int IntKind.i64))]
theorem Eb_Lowest_ok : ∀ e ∈ Eb_Lowest, EntOK env e := (ent_out ent_nil)
theorem Ub_Lowest : uniq ((blocksOf a70.body).map (·.1)) = true := by kernel_rfl
def tb_Lowest (F : FnT) (p0 : Int) (p1 : Int) : Option ((Int) × (Int)) :=
  bindO (F 114 (RSh.one (CK.int IntKind.i64)) [(PV.int IntKind.i64 p0), (PV.int IntKind.i64 p1)]) fun (y0 : (Int)) =>
  bif (decide (p1 < (0 : Int))) then
    bif (decide ((w64 ((0 : Int) - y0)) ≠ (0 : Int))) then
      bif (decide ((w64 ((0 : Int) - y0)) ≠ (0 : Int))) then
        some ((w64 (Int.tdiv p0 (w64 ((0 : Int) - y0)))), (w64 (Int.tdiv p1 (w64 ((0 : Int) - y0)))))
      else none
    else none
  else bif (decide (y0 ≠ (0 : Int))) then
    bif (decide (y0 ≠ (0 : Int))) then
      some ((w64 (Int.tdiv p0 y0)), (w64 (Int.tdiv p1 y0)))
    else none
  else none
theorem tb_Lowest_eq (F : FnT) (p0 : Int) (p1 : Int) : semF (callP F Eb_Lowest 20) s70 (loopT []) 400 a70 [PV.int IntKind.i64 p0, PV.int IntKind.i64 p1] (fun rv => decR (RSh.agg [(CK.int IntKind.i64), (CK.int IntKind.i64)]) rv.pv) = tb_Lowest F p0 p1 := by kernel_rfl
noncomputable abbrev Fb_Lowest (args : List PV) := Fn env 70 (RSh.agg [(CK.int IntKind.i64), (CK.int IntKind.i64)]) args
theorem Fb_Lowest_of  (p0 : Int) (p1 : Int) {res : ((Int) × (Int))} (h : tb_Lowest (Fn env) p0 p1 = some res) : Fb_Lowest [PV.int IntKind.i64 p0, PV.int IntKind.i64 p1] = some res :=
  fn_of Eb_Lowest_ok rfl rfl lo_nil ((tb_Lowest_eq _ _ _).trans h)

/-! ### r8_Shares -/

def Er8_Shares : List Entry := [.out 38 (RSh.one (CK.int IntKind.i64)), .out 70 (RSh.agg [(CK.int IntKind.i64), (CK.int IntKind.i64)])]
theorem Er8_Shares_ok : ∀ e ∈ Er8_Shares, EntOK env e := (ent_out (ent_out ent_nil))
def Tr8_Shares_0a (n0 : Nat) (c1 : List PV) (i2 : Int) : Q := ⟨(tm 26 [(0, (AV.p (PV.list n0 c1))), (1, (AV.p (PV.int IntKind.i64 i2))), (5, AV.nilS), (6, (AV.p (PV.int IntKind.i64 (0 : Int))))]), (mm 26 [])⟩
def Tr8_Shares_0b (n0 : Nat) (c1 : List PV) (i2 : Int) (n3 : Nat) (c4 : List PV) (i5 : Int) (n6 : Nat) : Q := ⟨(tm 26 [(0, (AV.p (PV.list n0 c1))), (1, (AV.p (PV.int IntKind.i64 i2))), (5, (AV.app 24 n3 2 c4)), (6, (AV.p (PV.int IntKind.i64 i5)))]), (mm 26 [(24, (Bk.buf n6))])⟩
def Xr8_Shares_0a (_y : Unit) : Ext × Q := (Ext.normal, ⟨(tm 26 [(5, AV.nilS)]), (mm 26 [])⟩)
def Ir8_Shares_0a (_q : Ext × S) : Unit := ()
def Xr8_Shares_0b (y : Nat × List PV × Nat) : Ext × Q := (Ext.normal, ⟨(tm 26 [(5, (AV.app 24 y.1 2 y.2.1))]), (mm 26 [(24, (Bk.buf y.2.2))])⟩)
def Ir8_Shares_0b (q : Ext × S) : Nat × List PV × Nat := ((pA_app1 (avT q.2 5)), (pA_app3 (avT q.2 5)), (pB_buf0 (avM q.2 24)))
abbrev Yr8_Shares_0 : Type := (Unit) ⊕ ((Nat × List PV × Nat))
def XLr8_Shares_0 : XL Yr8_Shares_0 := .more Xr8_Shares_0a (.one Xr8_Shares_0b)
def Ir8_Shares_0 (q : Ext × S) : Yr8_Shares_0 := bif (cA (avT q.2 5) == 1) then (Sum.inl (Ir8_Shares_0a q)) else (Sum.inr (Ir8_Shares_0b q))
theorem XIr8_Shares_0a (y : Unit) : Ir8_Shares_0 (xe (Xr8_Shares_0a y)) = (Sum.inl y) := rfl
theorem XIr8_Shares_0b (y : Nat × List PV × Nat) : Ir8_Shares_0 (xe (Xr8_Shares_0b y)) = (Sum.inr y) := rfl
theorem XIr8_Shares_0 (y : Yr8_Shares_0) : Ir8_Shares_0 (xe (XLr8_Shares_0.fn y)) = y := (match y with | .inl y => XIr8_Shares_0a y | .inr y => XIr8_Shares_0b y)
noncomputable abbrev Lr8_Shares_0 : Q → Option Yr8_Shares_0 := lpO env a20.body 0 XLr8_Shares_0
noncomputable abbrev Rr8_Shares_0 : Q → Option (Ext × S) := lpR env a20.body 0
theorem Lr8_Shares_0a_of {s : Q} {y : Unit} (h : Rr8_Shares_0 s = exO (Xr8_Shares_0a y)) : Lr8_Shares_0 s = some (Sum.inl y) := lpO_of Ir8_Shares_0 XIr8_Shares_0 (y := (Sum.inl y)) h
theorem Lr8_Shares_0b_of {s : Q} {y : Nat × List PV × Nat} (h : Rr8_Shares_0 s = exO (Xr8_Shares_0b y)) : Lr8_Shares_0 s = some (Sum.inr y) := lpO_of Ir8_Shares_0 XIr8_Shares_0 (y := (Sum.inr y)) h
theorem Ur8_Shares : uniq ((blocksOf a20.body).map (·.1)) = true := by kernel_rfl
def Br8_Shares_0a (F : FnT) (N : Q → Option (Ext × S)) (E : Ext × Q → Option (Ext × S)) (_L0 : Q → Option Yr8_Shares_0) (n0 : Nat) (c1 : List PV) (i2 : Int) : Option (Ext × S) :=
  bif (decide ((0 : Int) < (n0 : Int))) then
    bif (decide (((0 : Int) ≤ (0 : Int)) ∧ ((0 : Int) < (n0 : Int)))) then
      bindO (intC IntKind.i64 (c1[0]?)) fun x0 =>
      bindO (F 38 (RSh.one (CK.int IntKind.i64)) [(PV.list n0 c1), (PV.int IntKind.i64 i2), (PV.int IntKind.i64 (0 : Int))]) fun (y1 : (Int)) =>
      bindO (F 70 (RSh.agg [(CK.int IntKind.i64), (CK.int IntKind.i64)]) [(PV.int IntKind.i64 x0), (PV.int IntKind.i64 y1)]) fun (y2 : ((Int) × (Int))) =>
      N (Tr8_Shares_0b n0 c1 i2 1 [(PV.int IntKind.i64 y2.1), (PV.int IntKind.i64 y2.2)] (1 : Int) 1)
    else none
  else E (Xr8_Shares_0a ())
theorem Br8_Shares_0a_eq (F : FnT) (N : Q → Option (Ext × S)) (E : Ext × Q → Option (Ext × S)) (L0 : Q → Option Yr8_Shares_0) (n0 : Nat) (c1 : List PV) (i2 : Int) : semB (callP F Er8_Shares 20) s20 (loopT [⟨0, Yr8_Shares_0, L0, XLr8_Shares_0⟩]) 400 (blkIn a20.body 0) N E (Tr8_Shares_0a n0 c1 i2) = Br8_Shares_0a F N E L0 n0 c1 i2 := by kernel_rfl
theorem Rr8_Shares_0a_of  (n0 : Nat) (c1 : List PV) (i2 : Int) {r : Ext × S} (h : Br8_Shares_0a (Fn env) Rr8_Shares_0 exO Lr8_Shares_0 n0 c1 i2 = some r) : Rr8_Shares_0 (Tr8_Shares_0a n0 c1 i2) = some r :=
  lp_of Er8_Shares_ok (by kernel_rfl) (lo_cons (lpO_ok Ur8_Shares) lo_nil) (by kernel_rfl) ((Br8_Shares_0a_eq _ _ _ _ _ _ _).trans h)
def Br8_Shares_0b (F : FnT) (N : Q → Option (Ext × S)) (E : Ext × Q → Option (Ext × S)) (_L0 : Q → Option Yr8_Shares_0) (n0 : Nat) (c1 : List PV) (i2 : Int) (n3 : Nat) (c4 : List PV) (i5 : Int) (n6 : Nat) : Option (Ext × S) :=
  bif (decide (i5 < (n0 : Int))) then
    bif (decide (((0 : Int) ≤ i5) ∧ (i5 < (n0 : Int)))) then
      bindO (intC IntKind.i64 (c1[((Int.toNat i5) * 1)]?)) fun x0 =>
      bindO (F 38 (RSh.one (CK.int IntKind.i64)) [(PV.list n0 c1), (PV.int IntKind.i64 i2), (PV.int IntKind.i64 i5)]) fun (y1 : (Int)) =>
      bindO (F 70 (RSh.agg [(CK.int IntKind.i64), (CK.int IntKind.i64)]) [(PV.int IntKind.i64 x0), (PV.int IntKind.i64 y1)]) fun (y2 : ((Int) × (Int))) =>
      bif (decide ((n6 = n3) ∧ ((n3 + 1) ≤ big))) then
        N (Tr8_Shares_0b n0 c1 i2 (n3 + 1) (c4 ++ [(PV.int IntKind.i64 y2.1), (PV.int IntKind.i64 y2.2)]) (w64 (i5 + (1 : Int))) (n3 + 1))
      else none
    else none
  else E (Xr8_Shares_0b (n3, c4, n6))
theorem Br8_Shares_0b_eq (F : FnT) (N : Q → Option (Ext × S)) (E : Ext × Q → Option (Ext × S)) (L0 : Q → Option Yr8_Shares_0) (n0 : Nat) (c1 : List PV) (i2 : Int) (n3 : Nat) (c4 : List PV) (i5 : Int) (n6 : Nat) : semB (callP F Er8_Shares 20) s20 (loopT [⟨0, Yr8_Shares_0, L0, XLr8_Shares_0⟩]) 400 (blkIn a20.body 0) N E (Tr8_Shares_0b n0 c1 i2 n3 c4 i5 n6) = Br8_Shares_0b F N E L0 n0 c1 i2 n3 c4 i5 n6 := by kernel_rfl
theorem Rr8_Shares_0b_of  (n0 : Nat) (c1 : List PV) (i2 : Int) (n3 : Nat) (c4 : List PV) (i5 : Int) (n6 : Nat) {r : Ext × S} (h : Br8_Shares_0b (Fn env) Rr8_Shares_0 exO Lr8_Shares_0 n0 c1 i2 n3 c4 i5 n6 = some r) : Rr8_Shares_0 (Tr8_Shares_0b n0 c1 i2 n3 c4 i5 n6) = some r :=
  lp_of Er8_Shares_ok (by kernel_rfl) (lo_cons (lpO_ok Ur8_Shares) lo_nil) (by kernel_rfl) ((Br8_Shares_0b_eq _ _ _ _ _ _ _ _ _ _ _).trans h)
def tr8_Shares (_F : FnT) (L0 : Q → Option Yr8_Shares_0) (p0n : Nat) (p0c : List PV) (p1 : Int) : Option ((Nat) × (List PV)) :=
  bindO (L0 (Tr8_Shares_0a p0n p0c p1)) fun z =>
  Sum.elim (fun _y0 =>
    some (0, [])) (fun y1 =>
    bif (decide (y1.2.2 = y1.1)) then
      some (y1.1, y1.2.1)
    else none) z
theorem tr8_Shares_eq (F : FnT) (L0 : Q → Option Yr8_Shares_0) (p0n : Nat) (p0c : List PV) (p1 : Int) : semF (callP F Er8_Shares 20) s20 (loopT [⟨0, Yr8_Shares_0, L0, XLr8_Shares_0⟩]) 400 a20 [PV.list p0n p0c, PV.int IntKind.i64 p1] (fun rv => decR (RSh.one CK.list) rv.pv) = tr8_Shares F L0 p0n p0c p1 := by kernel_rfl
noncomputable abbrev Fr8_Shares (args : List PV) := Fn env 20 (RSh.one CK.list) args
theorem Fr8_Shares_of  (p0n : Nat) (p0c : List PV) (p1 : Int) {res : ((Nat) × (List PV))} (h : tr8_Shares (Fn env) Lr8_Shares_0 p0n p0c p1 = some res) : Fr8_Shares [PV.list p0n p0c, PV.int IntKind.i64 p1] = some res :=
  fn_of Er8_Shares_ok rfl rfl (lo_cons (lpO_ok Ur8_Shares) lo_nil) ((tr8_Shares_eq _ _ _ _ _).trans h)

/-! ### b_Fracs -/

def Eb_Fracs : List Entry := []
theorem Eb_Fracs_ok : ∀ e ∈ Eb_Fracs, EntOK env e := ent_nil
def Tb_Fracs_0a (n0 : Nat) (c1 : List PV) (n2 : Nat) (c3 : List PV) (i4 : Int) : Q := ⟨(tm 26 [(0, (AV.p (PV.list n0 c1))), (1, (AV.p (PV.list n2 c3))), (5, (AV.p (PV.int IntKind.i64 i4)))]), (mm 26 [])⟩
def Xb_Fracs_0a (_y : Unit) : Ext × Q := (Ext.ret, ⟨(tm 26 [(4, (AV.p (PV.bool false)))]), (mm 26 [])⟩)
def Ib_Fracs_0a (_q : Ext × S) : Unit := ()
def Xb_Fracs_0b (_y : Unit) : Ext × Q := (Ext.normal, ⟨(tm 26 []), (mm 26 [])⟩)
def Ib_Fracs_0b (_q : Ext × S) : Unit := ()
abbrev Yb_Fracs_0 : Type := (Unit) ⊕ ((Unit))
def XLb_Fracs_0 : XL Yb_Fracs_0 := .more Xb_Fracs_0a (.one Xb_Fracs_0b)
def Ib_Fracs_0 (q : Ext × S) : Yb_Fracs_0 := bif (cE q.1 == 2) then (Sum.inl (Ib_Fracs_0a q)) else (Sum.inr (Ib_Fracs_0b q))
theorem XIb_Fracs_0a (y : Unit) : Ib_Fracs_0 (xe (Xb_Fracs_0a y)) = (Sum.inl y) := rfl
theorem XIb_Fracs_0b (y : Unit) : Ib_Fracs_0 (xe (Xb_Fracs_0b y)) = (Sum.inr y) := rfl
theorem XIb_Fracs_0 (y : Yb_Fracs_0) : Ib_Fracs_0 (xe (XLb_Fracs_0.fn y)) = y := (match y with | .inl y => XIb_Fracs_0a y | .inr y => XIb_Fracs_0b y)
noncomputable abbrev Lb_Fracs_0 : Q → Option Yb_Fracs_0 := lpO env a19.body 0 XLb_Fracs_0
noncomputable abbrev Rb_Fracs_0 : Q → Option (Ext × S) := lpR env a19.body 0
theorem Lb_Fracs_0a_of {s : Q} {y : Unit} (h : Rb_Fracs_0 s = exO (Xb_Fracs_0a y)) : Lb_Fracs_0 s = some (Sum.inl y) := lpO_of Ib_Fracs_0 XIb_Fracs_0 (y := (Sum.inl y)) h
theorem Lb_Fracs_0b_of {s : Q} {y : Unit} (h : Rb_Fracs_0 s = exO (Xb_Fracs_0b y)) : Lb_Fracs_0 s = some (Sum.inr y) := lpO_of Ib_Fracs_0 XIb_Fracs_0 (y := (Sum.inr y)) h
theorem Ub_Fracs : uniq ((blocksOf a19.body).map (·.1)) = true := by kernel_rfl
def Bb_Fracs_0a (_F : FnT) (N : Q → Option (Ext × S)) (E : Ext × Q → Option (Ext × S)) (_L0 : Q → Option Yb_Fracs_0) (n0 : Nat) (c1 : List PV) (n2 : Nat) (c3 : List PV) (i4 : Int) : Option (Ext × S) :=
  bif (decide (i4 < (n0 : Int))) then
    bif (decide (((0 : Int) ≤ i4) ∧ (i4 < (n0 : Int)))) then
      bindO (intC IntKind.i64 (c1[((Int.toNat i4) * 2)]?)) fun x0 =>
      bindO (intC IntKind.i64 (c1[(((Int.toNat i4) * 2) + 1)]?)) fun x1 =>
      bif (decide (((0 : Int) ≤ i4) ∧ (i4 < (n2 : Int)))) then
        bindO (intC IntKind.i64 (c3[((Int.toNat i4) * 2)]?)) fun x2 =>
        bindO (intC IntKind.i64 (c3[(((Int.toNat i4) * 2) + 1)]?)) fun x3 =>
        bif (!((x0 == x2) && ((x1 == x3) && true))) then
          E (Xb_Fracs_0a ())
        else N (Tb_Fracs_0a n0 c1 n2 c3 (w64 (i4 + (1 : Int))))
      else none
    else none
  else E (Xb_Fracs_0b ())
theorem Bb_Fracs_0a_eq (F : FnT) (N : Q → Option (Ext × S)) (E : Ext × Q → Option (Ext × S)) (L0 : Q → Option Yb_Fracs_0) (n0 : Nat) (c1 : List PV) (n2 : Nat) (c3 : List PV) (i4 : Int) : semB (callP F Eb_Fracs 20) s19 (loopT [⟨0, Yb_Fracs_0, L0, XLb_Fracs_0⟩]) 400 (blkIn a19.body 0) N E (Tb_Fracs_0a n0 c1 n2 c3 i4) = Bb_Fracs_0a F N E L0 n0 c1 n2 c3 i4 := by kernel_rfl
theorem Rb_Fracs_0a_of  (n0 : Nat) (c1 : List PV) (n2 : Nat) (c3 : List PV) (i4 : Int) {r : Ext × S} (h : Bb_Fracs_0a (Fn env) Rb_Fracs_0 exO Lb_Fracs_0 n0 c1 n2 c3 i4 = some r) : Rb_Fracs_0 (Tb_Fracs_0a n0 c1 n2 c3 i4) = some r :=
  lp_of Eb_Fracs_ok (by kernel_rfl) (lo_cons (lpO_ok Ub_Fracs) lo_nil) (by kernel_rfl) ((Bb_Fracs_0a_eq _ _ _ _ _ _ _ _ _).trans h)
def tb_Fracs (_F : FnT) (L0 : Q → Option Yb_Fracs_0) (p0n : Nat) (p0c : List PV) (p1n : Nat) (p1c : List PV) : Option (Bool) :=
  bif ((p0n : Int) != (p1n : Int)) then
    some false
  else bindO (L0 (Tb_Fracs_0a p0n p0c p1n p1c (0 : Int))) fun z =>
  Sum.elim (fun _y0 =>
    some false) (fun _y1 =>
    some true) z
theorem tb_Fracs_eq (F : FnT) (L0 : Q → Option Yb_Fracs_0) (p0n : Nat) (p0c : List PV) (p1n : Nat) (p1c : List PV) : semF (callP F Eb_Fracs 20) s19 (loopT [⟨0, Yb_Fracs_0, L0, XLb_Fracs_0⟩]) 400 a19 [PV.list p0n p0c, PV.list p1n p1c] (fun rv => decR (RSh.one CK.bool) rv.pv) = tb_Fracs F L0 p0n p0c p1n p1c := by kernel_rfl
noncomputable abbrev Fb_Fracs (args : List PV) := Fn env 19 (RSh.one CK.bool) args
theorem Fb_Fracs_of  (p0n : Nat) (p0c : List PV) (p1n : Nat) (p1c : List PV) {res : (Bool)} (h : tb_Fracs (Fn env) Lb_Fracs_0 p0n p0c p1n p1c = some res) : Fb_Fracs [PV.list p0n p0c, PV.list p1n p1c] = some res :=
  fn_of Eb_Fracs_ok rfl rfl (lo_cons (lpO_ok Ub_Fracs) lo_nil) ((tb_Fracs_eq _ _ _ _ _ _).trans h)

/-! ### r8_CopyPoints -/

def Er8_CopyPoints : List Entry := []
theorem Er8_CopyPoints_ok : ∀ e ∈ Er8_CopyPoints, EntOK env e := ent_nil
theorem Ur8_CopyPoints : uniq ((blocksOf a14.body).map (·.1)) = true := by kernel_rfl
def tr8_CopyPoints (_F : FnT) (p0n : Nat) (p0c : List PV) : Option ((Nat) × (List PV)) :=
  bif (decide (p0n = 0)) then
    some (0, [])
  else bif (decide ((List.length p0c) = (p0n * 2))) then
    bif (decide ((0 = 0) ∧ ((0 + p0n) ≤ big))) then
      bif (decide ((0 + p0n) = (0 + p0n))) then
        some ((0 + p0n), ([] ++ p0c))
      else none
    else none
  else none
theorem tr8_CopyPoints_eq (F : FnT) (p0n : Nat) (p0c : List PV) : semF (callP F Er8_CopyPoints 20) s14 (loopT []) 400 a14 [PV.list p0n p0c] (fun rv => decR (RSh.one CK.list) rv.pv) = tr8_CopyPoints F p0n p0c := by kernel_rfl
noncomputable abbrev Fr8_CopyPoints (args : List PV) := Fn env 14 (RSh.one CK.list) args
theorem Fr8_CopyPoints_of  (p0n : Nat) (p0c : List PV) {res : ((Nat) × (List PV))} (h : tr8_CopyPoints (Fn env) p0n p0c = some res) : Fr8_CopyPoints [PV.list p0n p0c] = some res :=
  fn_of Er8_CopyPoints_ok rfl rfl lo_nil ((tr8_CopyPoints_eq _ _ _).trans h)

/-! ### r8_PointsErr -/

def Er8_PointsErr : List Entry := [.out 31 (RSh.one CK.bool)]
theorem Er8_PointsErr_ok : ∀ e ∈ Er8_PointsErr, EntOK env e := (ent_out ent_nil)
def Tr8_PointsErr_0a (n0 : Nat) (c1 : List PV) (i2 : Int) : Q := ⟨(tm 32 [(0, (AV.p (PV.list n0 c1))), (3, (AV.p (PV.int IntKind.i64 i2)))]), (mm 32 [])⟩
def Xr8_PointsErr_0a (_y : Unit) : Ext × Q := (Ext.ret, ⟨(tm 32 [(2, (AV.p (PV.int IntKind.i64 (2 : Int))))]), (mm 32 [])⟩)
def Ir8_PointsErr_0a (_q : Ext × S) : Unit := ()
def Xr8_PointsErr_0b (_y : Unit) : Ext × Q := (Ext.normal, ⟨(tm 32 []), (mm 32 [])⟩)
def Ir8_PointsErr_0b (_q : Ext × S) : Unit := ()
abbrev Yr8_PointsErr_0 : Type := (Unit) ⊕ ((Unit))
def XLr8_PointsErr_0 : XL Yr8_PointsErr_0 := .more Xr8_PointsErr_0a (.one Xr8_PointsErr_0b)
def Ir8_PointsErr_0 (q : Ext × S) : Yr8_PointsErr_0 := bif (cE q.1 == 2) then (Sum.inl (Ir8_PointsErr_0a q)) else (Sum.inr (Ir8_PointsErr_0b q))
theorem XIr8_PointsErr_0a (y : Unit) : Ir8_PointsErr_0 (xe (Xr8_PointsErr_0a y)) = (Sum.inl y) := rfl
theorem XIr8_PointsErr_0b (y : Unit) : Ir8_PointsErr_0 (xe (Xr8_PointsErr_0b y)) = (Sum.inr y) := rfl
theorem XIr8_PointsErr_0 (y : Yr8_PointsErr_0) : Ir8_PointsErr_0 (xe (XLr8_PointsErr_0.fn y)) = y := (match y with | .inl y => XIr8_PointsErr_0a y | .inr y => XIr8_PointsErr_0b y)
noncomputable abbrev Lr8_PointsErr_0 : Q → Option Yr8_PointsErr_0 := lpO env a21.body 0 XLr8_PointsErr_0
noncomputable abbrev Rr8_PointsErr_0 : Q → Option (Ext × S) := lpR env a21.body 0
theorem Lr8_PointsErr_0a_of {s : Q} {y : Unit} (h : Rr8_PointsErr_0 s = exO (Xr8_PointsErr_0a y)) : Lr8_PointsErr_0 s = some (Sum.inl y) := lpO_of Ir8_PointsErr_0 XIr8_PointsErr_0 (y := (Sum.inl y)) h
theorem Lr8_PointsErr_0b_of {s : Q} {y : Unit} (h : Rr8_PointsErr_0 s = exO (Xr8_PointsErr_0b y)) : Lr8_PointsErr_0 s = some (Sum.inr y) := lpO_of Ir8_PointsErr_0 XIr8_PointsErr_0 (y := (Sum.inr y)) h
theorem Ur8_PointsErr : uniq ((blocksOf a21.body).map (·.1)) = true := by kernel_rfl
def Br8_PointsErr_0a (F : FnT) (N : Q → Option (Ext × S)) (E : Ext × Q → Option (Ext × S)) (_L0 : Q → Option Yr8_PointsErr_0) (n0 : Nat) (c1 : List PV) (i2 : Int) : Option (Ext × S) :=
  bif (decide (i2 < (n0 : Int))) then
    bif (decide (((0 : Int) ≤ i2) ∧ (i2 < (n0 : Int)))) then
      bindO (intC IntKind.i64 (c1[(((Int.toNat i2) * 2) + 0)]?)) fun x0 =>
      bindO (F 31 (RSh.one CK.bool) [(PV.int IntKind.i64 x0), (PV.int IntKind.i64 (1 : Int)), (PV.int IntKind.i64 (1000000 : Int))]) fun (y1 : (Bool)) =>
      bif y1 then
        bif (decide (((0 : Int) ≤ i2) ∧ (i2 < (n0 : Int)))) then
          bindO (intC IntKind.i64 (c1[(((Int.toNat i2) * 2) + 1)]?)) fun x2 =>
          bindO (F 31 (RSh.one CK.bool) [(PV.int IntKind.i64 x2), (PV.int IntKind.i64 (0 : Int)), (PV.int IntKind.i64 (1000000 : Int))]) fun (y3 : (Bool)) =>
          bif y3 then
            N (Tr8_PointsErr_0a n0 c1 (w64 (i2 + (1 : Int))))
          else E (Xr8_PointsErr_0a ())
        else none
      else E (Xr8_PointsErr_0a ())
    else none
  else E (Xr8_PointsErr_0b ())
theorem Br8_PointsErr_0a_eq (F : FnT) (N : Q → Option (Ext × S)) (E : Ext × Q → Option (Ext × S)) (L0 : Q → Option Yr8_PointsErr_0) (n0 : Nat) (c1 : List PV) (i2 : Int) : semB (callP F Er8_PointsErr 20) s21 (loopT [⟨0, Yr8_PointsErr_0, L0, XLr8_PointsErr_0⟩]) 400 (blkIn a21.body 0) N E (Tr8_PointsErr_0a n0 c1 i2) = Br8_PointsErr_0a F N E L0 n0 c1 i2 := by kernel_rfl
theorem Rr8_PointsErr_0a_of  (n0 : Nat) (c1 : List PV) (i2 : Int) {r : Ext × S} (h : Br8_PointsErr_0a (Fn env) Rr8_PointsErr_0 exO Lr8_PointsErr_0 n0 c1 i2 = some r) : Rr8_PointsErr_0 (Tr8_PointsErr_0a n0 c1 i2) = some r :=
  lp_of Er8_PointsErr_ok (by kernel_rfl) (lo_cons (lpO_ok Ur8_PointsErr) lo_nil) (by kernel_rfl) ((Br8_PointsErr_0a_eq _ _ _ _ _ _ _).trans h)
def tr8_PointsErr (_F : FnT) (L0 : Q → Option Yr8_PointsErr_0) (p0n : Nat) (p0c : List PV) : Option (Int) :=
  bif ((p0n : Int) == (0 : Int)) then
    some (10 : Int)
  else bif (decide ((p0n : Int) > (12 : Int))) then
    some (8 : Int)
  else bindO (L0 (Tr8_PointsErr_0a p0n p0c (0 : Int))) fun z =>
  Sum.elim (fun _y0 =>
    some (2 : Int)) (fun _y1 =>
    some (0 : Int)) z
theorem tr8_PointsErr_eq (F : FnT) (L0 : Q → Option Yr8_PointsErr_0) (p0n : Nat) (p0c : List PV) : semF (callP F Er8_PointsErr 20) s21 (loopT [⟨0, Yr8_PointsErr_0, L0, XLr8_PointsErr_0⟩]) 400 a21 [PV.list p0n p0c] (fun rv => decR (RSh.one (CK.int IntKind.i64)) rv.pv) = tr8_PointsErr F L0 p0n p0c := by kernel_rfl
noncomputable abbrev Fr8_PointsErr (args : List PV) := Fn env 21 (RSh.one (CK.int IntKind.i64)) args
theorem Fr8_PointsErr_of  (p0n : Nat) (p0c : List PV) {res : (Int)} (h : tr8_PointsErr (Fn env) Lr8_PointsErr_0 p0n p0c = some res) : Fr8_PointsErr [PV.list p0n p0c] = some res :=
  fn_of Er8_PointsErr_ok rfl rfl (lo_cons (lpO_ok Ur8_PointsErr) lo_nil) ((tr8_PointsErr_eq _ _ _ _).trans h)

/-! ### r8_Constants -/

def Er8_Constants : List Entry := []
theorem Er8_Constants_ok : ∀ e ∈ Er8_Constants, EntOK env e := ent_nil
def Tr8_Constants_0a (n0 : Nat) (c1 : List PV) (i2 : Int) (i3 : Int) (i4 : Int) : Q := ⟨(tm 67 [(0, (AV.p (PV.list n0 c1))), (2, (AV.loc 2 0)), (4, (AV.loc 4 0)), (5, (AV.p (PV.int IntKind.i64 i2)))]), (mm 67 [(2, (Bk.pcs true [(PV.int IntKind.i64 (0 : Int)), (PV.int IntKind.i64 (0 : Int))])), (4, (Bk.pcs true [(PV.int IntKind.i64 i3), (PV.int IntKind.i64 i4)]))])⟩
def Xr8_Constants_0a (y : Int × Int) : Ext × Q := (Ext.normal, ⟨(tm 67 [(2, (AV.loc 2 0)), (4, (AV.loc 4 0))]), (mm 67 [(2, (Bk.pcs true [(PV.int IntKind.i64 (0 : Int)), (PV.int IntKind.i64 (0 : Int))])), (4, (Bk.pcs true [(PV.int IntKind.i64 y.1), (PV.int IntKind.i64 y.2)]))])⟩)
def Ir8_Constants_0a (q : Ext × S) : Int × Int := ((pP_int1 (hdP (pB_pcs1 (avM q.2 4)))), (pP_int1 (hdP (List.tail (pB_pcs1 (avM q.2 4))))))
abbrev Yr8_Constants_0 : Type := Int × Int
def XLr8_Constants_0 : XL Yr8_Constants_0 := .one Xr8_Constants_0a
def Ir8_Constants_0 (q : Ext × S) : Yr8_Constants_0 := (Ir8_Constants_0a q)
theorem XIr8_Constants_0a (y : Int × Int) : Ir8_Constants_0 (xe (Xr8_Constants_0a y)) = y := rfl
theorem XIr8_Constants_0 (y : Yr8_Constants_0) : Ir8_Constants_0 (xe (XLr8_Constants_0.fn y)) = y := XIr8_Constants_0a y
noncomputable abbrev Lr8_Constants_0 : Q → Option Yr8_Constants_0 := lpO env a22.body 0 XLr8_Constants_0
noncomputable abbrev Rr8_Constants_0 : Q → Option (Ext × S) := lpR env a22.body 0
theorem Lr8_Constants_0a_of {s : Q} {y : Int × Int} (h : Rr8_Constants_0 s = exO (Xr8_Constants_0a y)) : Lr8_Constants_0 s = some y := lpO_of Ir8_Constants_0 XIr8_Constants_0 (y := y) h
theorem Ur8_Constants : uniq ((blocksOf a22.body).map (·.1)) = true := by kernel_rfl
def Br8_Constants_0a (_F : FnT) (N : Q → Option (Ext × S)) (E : Ext × Q → Option (Ext × S)) (_L0 : Q → Option Yr8_Constants_0) (n0 : Nat) (c1 : List PV) (i2 : Int) (i3 : Int) (i4 : Int) : Option (Ext × S) :=
  bif (decide (i2 < (n0 : Int))) then
    bif (decide (((0 : Int) ≤ i2) ∧ (i2 < (n0 : Int)))) then
      bindO (intC IntKind.i64 (c1[(((Int.toNat i2) * 2) + 0)]?)) fun x0 =>
      bif (decide (((0 : Int) ≤ i2) ∧ (i2 < (n0 : Int)))) then
        bindO (intC IntKind.i64 (c1[(((Int.toNat i2) * 2) + 1)]?)) fun x1 =>
        bif (decide (((0 : Int) ≤ i2) ∧ (i2 < (n0 : Int)))) then
          bindO (intC IntKind.i64 (c1[(((Int.toNat i2) * 2) + 0)]?)) fun x2 =>
          bif (decide (((0 : Int) ≤ i2) ∧ (i2 < (n0 : Int)))) then
            bindO (intC IntKind.i64 (c1[(((Int.toNat i2) * 2) + 1)]?)) fun x3 =>
            N (Tr8_Constants_0a n0 c1 (w64 (i2 + (1 : Int))) (if ((w64 (x0 - x1)) > i3) then (w64 (x0 - x1)) else i3) (if ((w64 (x2 + x3)) < i4) then (w64 (x2 + x3)) else i4))
          else none
        else none
      else none
    else none
  else E (Xr8_Constants_0a (i3, i4))
theorem Br8_Constants_0a_eq (F : FnT) (N : Q → Option (Ext × S)) (E : Ext × Q → Option (Ext × S)) (L0 : Q → Option Yr8_Constants_0) (n0 : Nat) (c1 : List PV) (i2 : Int) (i3 : Int) (i4 : Int) : semB (callP F Er8_Constants 20) s22 (loopT [⟨0, Yr8_Constants_0, L0, XLr8_Constants_0⟩]) 400 (blkIn a22.body 0) N E (Tr8_Constants_0a n0 c1 i2 i3 i4) = Br8_Constants_0a F N E L0 n0 c1 i2 i3 i4 := by kernel_rfl
theorem Rr8_Constants_0a_of  (n0 : Nat) (c1 : List PV) (i2 : Int) (i3 : Int) (i4 : Int) {r : Ext × S} (h : Br8_Constants_0a (Fn env) Rr8_Constants_0 exO Lr8_Constants_0 n0 c1 i2 i3 i4 = some r) : Rr8_Constants_0 (Tr8_Constants_0a n0 c1 i2 i3 i4) = some r :=
  lp_of Er8_Constants_ok (by kernel_rfl) (lo_cons (lpO_ok Ur8_Constants) lo_nil) (by kernel_rfl) ((Br8_Constants_0a_eq _ _ _ _ _ _ _ _ _).trans h)
def tr8_Constants (_F : FnT) (L0 : Q → Option Yr8_Constants_0) (p0n : Nat) (p0c : List PV) : Option ((Int) × ((Int) × (Bool))) :=
  bif (decide (((0 : Int) ≤ (0 : Int)) ∧ ((0 : Int) < (p0n : Int)))) then
    bindO (intC IntKind.i64 (p0c[0]?)) fun x0 =>
    bif (decide (((0 : Int) ≤ (0 : Int)) ∧ ((0 : Int) < (p0n : Int)))) then
      bindO (intC IntKind.i64 (p0c[1]?)) fun x1 =>
      bif (decide (((0 : Int) ≤ (0 : Int)) ∧ ((0 : Int) < (p0n : Int)))) then
        bindO (intC IntKind.i64 (p0c[0]?)) fun x2 =>
        bif (decide (((0 : Int) ≤ (0 : Int)) ∧ ((0 : Int) < (p0n : Int)))) then
          bindO (intC IntKind.i64 (p0c[1]?)) fun x3 =>
          bindO (L0 (Tr8_Constants_0a p0n p0c (1 : Int) (w64 (x0 - x1)) (w64 (x2 + x3)))) fun y4 =>
          bif (decide (y4.1 > y4.2)) then
            some ((0 : Int), ((0 : Int), false))
          else some (y4.1, (y4.2, true))
        else none
      else none
    else none
  else none
theorem tr8_Constants_eq (F : FnT) (L0 : Q → Option Yr8_Constants_0) (p0n : Nat) (p0c : List PV) : semF (callP F Er8_Constants 20) s22 (loopT [⟨0, Yr8_Constants_0, L0, XLr8_Constants_0⟩]) 400 a22 [PV.list p0n p0c] (fun rv => decR (RSh.tup [(Prod.mk true [(CK.int IntKind.i64), (CK.int IntKind.i64)]), (Prod.mk false [CK.bool])]) rv.pv) = tr8_Constants F L0 p0n p0c := by kernel_rfl
noncomputable abbrev Fr8_Constants (args : List PV) := Fn env 22 (RSh.tup [(Prod.mk true [(CK.int IntKind.i64), (CK.int IntKind.i64)]), (Prod.mk false [CK.bool])]) args
theorem Fr8_Constants_of  (p0n : Nat) (p0c : List PV) {res : ((Int) × ((Int) × (Bool)))} (h : tr8_Constants (Fn env) Lr8_Constants_0 p0n p0c = some res) : Fr8_Constants [PV.list p0n p0c] = some res :=
  fn_of Er8_Constants_ok rfl rfl (lo_cons (lpO_ok Ur8_Constants) lo_nil) ((tr8_Constants_eq _ _ _ _).trans h)

end Gv

/- What the functions do, round by round: ZC5. -/
namespace Gv
open Go
set_option maxRecDepth 100000

/-! ### b_Size -/

def Eb_Size : List Entry := []
theorem Eb_Size_ok : ∀ e ∈ Eb_Size, EntOK env e := ent_nil
theorem Ub_Size : uniq ((blocksOf a142.body).map (·.1)) = true := by kernel_rfl
def tb_Size (F : FnT) (p0 : Int) : Option (Int) :=
  some (if ((w64 ((0 : Int) - p0)) > p0) then (w64 ((0 : Int) - p0)) else p0)
theorem tb_Size_eq (F : FnT) (p0 : Int) : semF (callP F Eb_Size 20) s142 (loopT []) 400 a142 [PV.int IntKind.i64 p0] (fun rv => decR (RSh.one (CK.int IntKind.i64)) rv.pv) = tb_Size F p0 := by kernel_rfl
noncomputable abbrev Fb_Size (args : List PV) := Fn env 142 (RSh.one (CK.int IntKind.i64)) args
theorem Fb_Size_of  (p0 : Int) {res : (Int)} (h : tb_Size (Fn env) p0 = some res) : Fb_Size [PV.int IntKind.i64 p0] = some res :=
  fn_of Eb_Size_ok rfl rfl lo_nil ((tb_Size_eq _ _).trans h)

end Gv
