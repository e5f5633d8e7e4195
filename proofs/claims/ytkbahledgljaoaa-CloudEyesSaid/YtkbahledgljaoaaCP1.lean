/- What the functions do, round by round: CP1. -/
import Derived.Test.YtkbahledgljaoaaGvEnv
namespace Gv
open Go
set_option maxRecDepth 100000

/-! ### cloud_errorIf -/

def Ecloud_errorIf : List Entry := []
theorem Ecloud_errorIf_ok : ∀ e ∈ Ecloud_errorIf, EntOK env e := ent_nil
theorem Ucloud_errorIf : uniq ((blocksOf a62.body).map (·.1)) = true := by kernel_rfl
def tcloud_errorIf (F : FnT) (p0 : Bool) (p1 : Int) : Option (Int) :=
  bif p0 then
    some p1
  else some (0 : Int)
theorem tcloud_errorIf_eq (F : FnT) (p0 : Bool) (p1 : Int) : semF (callP F Ecloud_errorIf 20) s62 (loopT []) 400 a62 [PV.bool p0, PV.int IntKind.i64 p1] (fun rv => decR (RSh.one (CK.int IntKind.i64)) rv.pv) = tcloud_errorIf F p0 p1 := by kernel_rfl
noncomputable abbrev Fcloud_errorIf (args : List PV) := Fn env 62 (RSh.one (CK.int IntKind.i64)) args
theorem Fcloud_errorIf_of  (p0 : Bool) (p1 : Int) {res : (Int)} (h : tcloud_errorIf (Fn env) p0 p1 = some res) : Fcloud_errorIf [PV.bool p0, PV.int IntKind.i64 p1] = some res :=
  fn_of Ecloud_errorIf_ok rfl rfl lo_nil ((tcloud_errorIf_eq _ _ _).trans h)

/-! ### cloud_rangeError -/

def Ecloud_rangeError : List Entry := [.out 62 (RSh.one (CK.int IntKind.i64))]
theorem Ecloud_rangeError_ok : ∀ e ∈ Ecloud_rangeError, EntOK env e := (ent_out ent_nil)
theorem Ucloud_rangeError : uniq ((blocksOf a56.body).map (·.1)) = true := by kernel_rfl
def tcloud_rangeError (F : FnT) (p0 : Int) (p1 : Int) (p2 : Int) : Option (Int) :=
  bif (decide (p0 < p1)) then
    bindO (F 62 (RSh.one (CK.int IntKind.i64)) [(PV.bool true), (PV.int IntKind.i64 (2 : Int))]) fun (y0 : (Int)) =>
    some y0
  else bif (decide (p0 > p2)) then
    bindO (F 62 (RSh.one (CK.int IntKind.i64)) [(PV.bool true), (PV.int IntKind.i64 (2 : Int))]) fun (y1 : (Int)) =>
    some y1
  else bindO (F 62 (RSh.one (CK.int IntKind.i64)) [(PV.bool false), (PV.int IntKind.i64 (2 : Int))]) fun (y2 : (Int)) =>
  some y2
theorem tcloud_rangeError_eq (F : FnT) (p0 : Int) (p1 : Int) (p2 : Int) : semF (callP F Ecloud_rangeError 20) s56 (loopT []) 400 a56 [PV.int IntKind.i64 p0, PV.int IntKind.i64 p1, PV.int IntKind.i64 p2] (fun rv => decR (RSh.one (CK.int IntKind.i64)) rv.pv) = tcloud_rangeError F p0 p1 p2 := by kernel_rfl
noncomputable abbrev Fcloud_rangeError (args : List PV) := Fn env 56 (RSh.one (CK.int IntKind.i64)) args
theorem Fcloud_rangeError_of  (p0 : Int) (p1 : Int) (p2 : Int) {res : (Int)} (h : tcloud_rangeError (Fn env) p0 p1 p2 = some res) : Fcloud_rangeError [PV.int IntKind.i64 p0, PV.int IntKind.i64 p1, PV.int IntKind.i64 p2] = some res :=
  fn_of Ecloud_rangeError_ok rfl rfl lo_nil ((tcloud_rangeError_eq _ _ _ _).trans h)

/-! ### glidepathbase_CopyInts -/

def Eglidepathbase_CopyInts : List Entry := []
theorem Eglidepathbase_CopyInts_ok : ∀ e ∈ Eglidepathbase_CopyInts, EntOK env e := ent_nil
theorem Uglidepathbase_CopyInts : uniq ((blocksOf a16.body).map (·.1)) = true := by kernel_rfl
def tglidepathbase_CopyInts (F : FnT) (p0n : Nat) (p0c : List PV) : Option ((Nat) × (List PV)) :=
  bif (decide (p0n = 0)) then
    some (0, [])
  else bif (decide ((List.length p0c) = (p0n * 1))) then
    bif (decide ((0 = 0) ∧ ((0 + p0n) ≤ big))) then
      bif (decide ((0 + p0n) = (0 + p0n))) then
        some ((0 + p0n), ([] ++ p0c))
      else none
    else none
  else none
theorem tglidepathbase_CopyInts_eq (F : FnT) (p0n : Nat) (p0c : List PV) : semF (callP F Eglidepathbase_CopyInts 20) s16 (loopT []) 400 a16 [PV.list p0n p0c] (fun rv => decR (RSh.one CK.list) rv.pv) = tglidepathbase_CopyInts F p0n p0c := by kernel_rfl
noncomputable abbrev Fglidepathbase_CopyInts (args : List PV) := Fn env 16 (RSh.one CK.list) args
theorem Fglidepathbase_CopyInts_of  (p0n : Nat) (p0c : List PV) {res : ((Nat) × (List PV))} (h : tglidepathbase_CopyInts (Fn env) p0n p0c = some res) : Fglidepathbase_CopyInts [PV.list p0n p0c] = some res :=
  fn_of Eglidepathbase_CopyInts_ok rfl rfl lo_nil ((tglidepathbase_CopyInts_eq _ _ _).trans h)

/-! ### glidepathbase_Within -/

def Eglidepathbase_Within : List Entry := []
theorem Eglidepathbase_Within_ok : ∀ e ∈ Eglidepathbase_Within, EntOK env e := ent_nil
theorem Uglidepathbase_Within : uniq ((blocksOf a14.body).map (·.1)) = true := by kernel_rfl
def tglidepathbase_Within (F : FnT) (p0 : Int) (p1 : Int) (p2 : Int) : Option (Bool) :=
  bif (decide (p1 ≤ p0)) then
    bif (decide (p0 ≤ p2)) then
      some true
    else some false
  else some false
theorem tglidepathbase_Within_eq (F : FnT) (p0 : Int) (p1 : Int) (p2 : Int) : semF (callP F Eglidepathbase_Within 20) s14 (loopT []) 400 a14 [PV.int IntKind.i64 p0, PV.int IntKind.i64 p1, PV.int IntKind.i64 p2] (fun rv => decR (RSh.one CK.bool) rv.pv) = tglidepathbase_Within F p0 p1 p2 := by kernel_rfl
noncomputable abbrev Fglidepathbase_Within (args : List PV) := Fn env 14 (RSh.one CK.bool) args
theorem Fglidepathbase_Within_of  (p0 : Int) (p1 : Int) (p2 : Int) {res : (Bool)} (h : tglidepathbase_Within (Fn env) p0 p1 p2 = some res) : Fglidepathbase_Within [PV.int IntKind.i64 p0, PV.int IntKind.i64 p1, PV.int IntKind.i64 p2] = some res :=
  fn_of Eglidepathbase_Within_ok rfl rfl lo_nil ((tglidepathbase_Within_eq _ _ _ _).trans h)

/-! ### glidepathref08_HeightsErr -/

def Eglidepathref08_HeightsErr : List Entry := [.out 14 (RSh.one CK.bool)]
theorem Eglidepathref08_HeightsErr_ok : ∀ e ∈ Eglidepathref08_HeightsErr, EntOK env e := (ent_out ent_nil)
def Tglidepathref08_HeightsErr_0a (n0 : Nat) (c1 : List PV) (i2 : Int) : Q := ⟨(tm 22 [(0, (AV.p (PV.list n0 c1))), (3, (AV.p (PV.int IntKind.i64 i2)))]), (mm 22 [])⟩
def Xglidepathref08_HeightsErr_0a (y : Unit) : Ext × Q := (Ext.ret, ⟨(tm 22 [(2, (AV.p (PV.int IntKind.i64 (2 : Int))))]), (mm 22 [])⟩)
def Iglidepathref08_HeightsErr_0a (q : Ext × S) : Unit := ()
def Xglidepathref08_HeightsErr_0b (y : Unit) : Ext × Q := (Ext.normal, ⟨(tm 22 []), (mm 22 [])⟩)
def Iglidepathref08_HeightsErr_0b (q : Ext × S) : Unit := ()
abbrev Yglidepathref08_HeightsErr_0 : Type := (Unit) ⊕ ((Unit))
def XLglidepathref08_HeightsErr_0 : XL Yglidepathref08_HeightsErr_0 := .more Xglidepathref08_HeightsErr_0a (.one Xglidepathref08_HeightsErr_0b)
def Iglidepathref08_HeightsErr_0 (q : Ext × S) : Yglidepathref08_HeightsErr_0 := bif (cE q.1 == 2) then (Sum.inl (Iglidepathref08_HeightsErr_0a q)) else (Sum.inr (Iglidepathref08_HeightsErr_0b q))
theorem XIglidepathref08_HeightsErr_0a (y : Unit) : Iglidepathref08_HeightsErr_0 (xe (Xglidepathref08_HeightsErr_0a y)) = (Sum.inl y) := rfl
theorem XIglidepathref08_HeightsErr_0b (y : Unit) : Iglidepathref08_HeightsErr_0 (xe (Xglidepathref08_HeightsErr_0b y)) = (Sum.inr y) := rfl
theorem XIglidepathref08_HeightsErr_0 (y : Yglidepathref08_HeightsErr_0) : Iglidepathref08_HeightsErr_0 (xe (XLglidepathref08_HeightsErr_0.fn y)) = y := (match y with | .inl y => XIglidepathref08_HeightsErr_0a y | .inr y => XIglidepathref08_HeightsErr_0b y)
noncomputable abbrev Lglidepathref08_HeightsErr_0 : Q → Option Yglidepathref08_HeightsErr_0 := lpO env a38.body 0 XLglidepathref08_HeightsErr_0
noncomputable abbrev Rglidepathref08_HeightsErr_0 : Q → Option (Ext × S) := lpR env a38.body 0
theorem Lglidepathref08_HeightsErr_0a_of {s : Q} {y : Unit} (h : Rglidepathref08_HeightsErr_0 s = exO (Xglidepathref08_HeightsErr_0a y)) : Lglidepathref08_HeightsErr_0 s = some (Sum.inl y) := lpO_of Iglidepathref08_HeightsErr_0 XIglidepathref08_HeightsErr_0 (y := (Sum.inl y)) h
theorem Lglidepathref08_HeightsErr_0b_of {s : Q} {y : Unit} (h : Rglidepathref08_HeightsErr_0 s = exO (Xglidepathref08_HeightsErr_0b y)) : Lglidepathref08_HeightsErr_0 s = some (Sum.inr y) := lpO_of Iglidepathref08_HeightsErr_0 XIglidepathref08_HeightsErr_0 (y := (Sum.inr y)) h
theorem Uglidepathref08_HeightsErr : uniq ((blocksOf a38.body).map (·.1)) = true := by kernel_rfl
def Bglidepathref08_HeightsErr_0a (F : FnT) (N : Q → Option (Ext × S)) (E : Ext × Q → Option (Ext × S)) (L0 : Q → Option Yglidepathref08_HeightsErr_0) (n0 : Nat) (c1 : List PV) (i2 : Int) : Option (Ext × S) :=
  bif (decide (i2 < (n0 : Int))) then
    bif (decide (((0 : Int) ≤ i2) ∧ (i2 < (n0 : Int)))) then
      bindO (intC IntKind.i64 (c1[((Int.toNat i2) * 1)]?)) fun x0 =>
      bindO (F 14 (RSh.one CK.bool) [(PV.int IntKind.i64 x0), (PV.int IntKind.i64 (0 : Int)), (PV.int IntKind.i64 (20000 : Int))]) fun (y1 : (Bool)) =>
      bif y1 then
        N (Tglidepathref08_HeightsErr_0a n0 c1 (w64 (i2 + (1 : Int))))
      else E (Xglidepathref08_HeightsErr_0a ())
    else none
  else E (Xglidepathref08_HeightsErr_0b ())
theorem Bglidepathref08_HeightsErr_0a_eq (F : FnT) (N : Q → Option (Ext × S)) (E : Ext × Q → Option (Ext × S)) (L0 : Q → Option Yglidepathref08_HeightsErr_0) (n0 : Nat) (c1 : List PV) (i2 : Int) : semB (callP F Eglidepathref08_HeightsErr 20) s38 (loopT [⟨0, Yglidepathref08_HeightsErr_0, L0, XLglidepathref08_HeightsErr_0⟩]) 400 (blkIn a38.body 0) N E (Tglidepathref08_HeightsErr_0a n0 c1 i2) = Bglidepathref08_HeightsErr_0a F N E L0 n0 c1 i2 := by kernel_rfl
theorem Rglidepathref08_HeightsErr_0a_of  (n0 : Nat) (c1 : List PV) (i2 : Int) {r : Ext × S} (h : Bglidepathref08_HeightsErr_0a (Fn env) Rglidepathref08_HeightsErr_0 exO Lglidepathref08_HeightsErr_0 n0 c1 i2 = some r) : Rglidepathref08_HeightsErr_0 (Tglidepathref08_HeightsErr_0a n0 c1 i2) = some r :=
  lp_of Eglidepathref08_HeightsErr_ok (by kernel_rfl) (lo_cons (lpO_ok Uglidepathref08_HeightsErr) lo_nil) (by kernel_rfl) ((Bglidepathref08_HeightsErr_0a_eq _ _ _ _ _ _ _).trans h)
def tglidepathref08_HeightsErr (F : FnT) (L0 : Q → Option Yglidepathref08_HeightsErr_0) (p0n : Nat) (p0c : List PV) : Option (Int) :=
  bif ((p0n : Int) == (0 : Int)) then
    some (10 : Int)
  else bif (decide ((p0n : Int) > (15 : Int))) then
    some (8 : Int)
  else bindO (L0 (Tglidepathref08_HeightsErr_0a p0n p0c (0 : Int))) fun z =>
  Sum.elim (fun y0 =>
    some (2 : Int)) (fun y1 =>
    some (0 : Int)) z
theorem tglidepathref08_HeightsErr_eq (F : FnT) (L0 : Q → Option Yglidepathref08_HeightsErr_0) (p0n : Nat) (p0c : List PV) : semF (callP F Eglidepathref08_HeightsErr 20) s38 (loopT [⟨0, Yglidepathref08_HeightsErr_0, L0, XLglidepathref08_HeightsErr_0⟩]) 400 a38 [PV.list p0n p0c] (fun rv => decR (RSh.one (CK.int IntKind.i64)) rv.pv) = tglidepathref08_HeightsErr F L0 p0n p0c := by kernel_rfl
noncomputable abbrev Fglidepathref08_HeightsErr (args : List PV) := Fn env 38 (RSh.one (CK.int IntKind.i64)) args
theorem Fglidepathref08_HeightsErr_of  (p0n : Nat) (p0c : List PV) {res : (Int)} (h : tglidepathref08_HeightsErr (Fn env) Lglidepathref08_HeightsErr_0 p0n p0c = some res) : Fglidepathref08_HeightsErr [PV.list p0n p0c] = some res :=
  fn_of Eglidepathref08_HeightsErr_ok rfl rfl (lo_cons (lpO_ok Uglidepathref08_HeightsErr) lo_nil) ((tglidepathref08_HeightsErr_eq _ _ _ _).trans h)

/-! ### cloud_within_1 -/

def Ecloud_within_1 : List Entry := [.out 56 (RSh.one (CK.int IntKind.i64))]
theorem Ecloud_within_1_ok : ∀ e ∈ Ecloud_within_1, EntOK env e := (ent_out ent_nil)
theorem Ucloud_within_1 : uniq ((blocksOf a105.body).map (·.1)) = true := by kernel_rfl
def tcloud_within_1 (F : FnT)(n : Nat) (cs : List PV) (x lo hi : Int) : Option (Int) :=
  bindO (F 56 (RSh.one (CK.int IntKind.i64)) [(PV.int IntKind.i64 x), (PV.int IntKind.i64 lo), (PV.int IntKind.i64 hi)]) fun (y0 : (Int)) =>
  some y0
theorem tcloud_within_1_eq (F : FnT)(n : Nat) (cs : List PV) (x lo hi : Int) : semF (callP F Ecloud_within_1 20) s105 (loopT []) 400 a105 [.list n cs, .int .i64 x, .imm [.int .i64 lo] 0, .imm [.int .i64 hi] 0] (fun rv => decR (RSh.one (CK.int IntKind.i64)) rv.pv) = tcloud_within_1 F n cs x lo hi := by kernel_rfl
noncomputable abbrev Fcloud_within_1 (args : List PV) := Fn env 105 (RSh.one (CK.int IntKind.i64)) args
theorem Fcloud_within_1_of (n : Nat) (cs : List PV) (x lo hi : Int) {res : (Int)} (h : tcloud_within_1 (Fn env) n cs x lo hi = some res) : Fcloud_within_1 [.list n cs, .int .i64 x, .imm [.int .i64 lo] 0, .imm [.int .i64 hi] 0] = some res :=
  fn_of Ecloud_within_1_ok rfl rfl lo_nil ((tcloud_within_1_eq _ _ _ _ _ _).trans h)

/-! ### cloud_itemError_within -/

def Ecloud_itemError_within : List Entry := [.out 105 (RSh.one (CK.int IntKind.i64))]
theorem Ecloud_itemError_within_ok : ∀ e ∈ Ecloud_itemError_within, EntOK env e := (ent_out ent_nil)
def Tcloud_itemError_within_0a (n0 : Nat) (c1 : List PV) (i2 : Int) (i3 : Int) (n4 : Nat) (c5 : List PV) (i6 : Int) (i7 : Int) : Q := ⟨(tm 27 [(0, (AV.p (PV.list n0 c1))), (1, (AV.p (PV.fn 105 [(PV.imm [(PV.int IntKind.i64 i2)] 0), (PV.imm [(PV.int IntKind.i64 i3)] 0)]))), (9, (AV.p (PV.list n4 c5))), (10, (AV.p (PV.int IntKind.i64 i6))), (11, (AV.p (PV.int IntKind.i64 i7)))]), (mm 27 [])⟩
def Xcloud_itemError_within_0a (y : Int × Int) : Ext × Q := (Ext.ret, ⟨(tm 27 [(4, (AV.p (PV.int IntKind.i64 y.1))), (5, (AV.p (PV.int IntKind.i64 y.2)))]), (mm 27 [])⟩)
def Icloud_itemError_within_0a (q : Ext × S) : Int × Int := ((pP_int1 (pA_p (avT q.2 4))), (pP_int1 (pA_p (avT q.2 5))))
def Xcloud_itemError_within_0b (y : Unit) : Ext × Q := (Ext.normal, ⟨(tm 27 []), (mm 27 [])⟩)
def Icloud_itemError_within_0b (q : Ext × S) : Unit := ()
abbrev Ycloud_itemError_within_0 : Type := (Int × Int) ⊕ ((Unit))
def XLcloud_itemError_within_0 : XL Ycloud_itemError_within_0 := .more Xcloud_itemError_within_0a (.one Xcloud_itemError_within_0b)
def Icloud_itemError_within_0 (q : Ext × S) : Ycloud_itemError_within_0 := bif (cE q.1 == 2) then (Sum.inl (Icloud_itemError_within_0a q)) else (Sum.inr (Icloud_itemError_within_0b q))
theorem XIcloud_itemError_within_0a (y : Int × Int) : Icloud_itemError_within_0 (xe (Xcloud_itemError_within_0a y)) = (Sum.inl y) := rfl
theorem XIcloud_itemError_within_0b (y : Unit) : Icloud_itemError_within_0 (xe (Xcloud_itemError_within_0b y)) = (Sum.inr y) := rfl
theorem XIcloud_itemError_within_0 (y : Ycloud_itemError_within_0) : Icloud_itemError_within_0 (xe (XLcloud_itemError_within_0.fn y)) = y := (match y with | .inl y => XIcloud_itemError_within_0a y | .inr y => XIcloud_itemError_within_0b y)
noncomputable abbrev Lcloud_itemError_within_0 : Q → Option Ycloud_itemError_within_0 := lpO env a71.body 0 XLcloud_itemError_within_0
noncomputable abbrev Rcloud_itemError_within_0 : Q → Option (Ext × S) := lpR env a71.body 0
theorem Lcloud_itemError_within_0a_of {s : Q} {y : Int × Int} (h : Rcloud_itemError_within_0 s = exO (Xcloud_itemError_within_0a y)) : Lcloud_itemError_within_0 s = some (Sum.inl y) := lpO_of Icloud_itemError_within_0 XIcloud_itemError_within_0 (y := (Sum.inl y)) h
theorem Lcloud_itemError_within_0b_of {s : Q} {y : Unit} (h : Rcloud_itemError_within_0 s = exO (Xcloud_itemError_within_0b y)) : Lcloud_itemError_within_0 s = some (Sum.inr y) := lpO_of Icloud_itemError_within_0 XIcloud_itemError_within_0 (y := (Sum.inr y)) h
theorem Ucloud_itemError_within : uniq ((blocksOf a71.body).map (·.1)) = true := by kernel_rfl
def Bcloud_itemError_within_0a (F : FnT) (N : Q → Option (Ext × S)) (E : Ext × Q → Option (Ext × S)) (L0 : Q → Option Ycloud_itemError_within_0) (n0 : Nat) (c1 : List PV) (i2 : Int) (i3 : Int) (n4 : Nat) (c5 : List PV) (i6 : Int) (i7 : Int) : Option (Ext × S) :=
  bif (decide (i7 < i6)) then
    bif (decide (((0 : Int) ≤ i7) ∧ (i7 < (n4 : Int)))) then
      bindO (intC IntKind.i64 (c5[((Int.toNat i7) * 1)]?)) fun x0 =>
      bif (decide (((0 : Int) ≤ i7) ∧ (i7 ≤ ((Prod.mk n0 c1).1 : Int)))) then
        bif (decide ((0 = (Int.toNat i7)) ∨ (((0 * 1) + (((Int.toNat i7) - 0) * 1)) ≤ (List.length c1)))) then
          bindO (F 105 (RSh.one (CK.int IntKind.i64)) [(PV.list ((Int.toNat i7) - 0) (List.take (((Int.toNat i7) - 0) * 1) (List.drop 0 c1))), (PV.int IntKind.i64 x0), (PV.imm [(PV.int IntKind.i64 i2)] 0), (PV.imm [(PV.int IntKind.i64 i3)] 0)]) fun (y1 : (Int)) =>
          bif (y1 != (0 : Int)) then
            E (Xcloud_itemError_within_0a (i7, y1))
          else N (Tcloud_itemError_within_0a n0 c1 i2 i3 n4 c5 i6 (w64 (i7 + (1 : Int))))
        else none
      else none
    else none
  else E (Xcloud_itemError_within_0b ())
theorem Bcloud_itemError_within_0a_eq (F : FnT) (N : Q → Option (Ext × S)) (E : Ext × Q → Option (Ext × S)) (L0 : Q → Option Ycloud_itemError_within_0) (n0 : Nat) (c1 : List PV) (i2 : Int) (i3 : Int) (n4 : Nat) (c5 : List PV) (i6 : Int) (i7 : Int) : semB (callP F Ecloud_itemError_within 20) s71 (loopT [⟨0, Ycloud_itemError_within_0, L0, XLcloud_itemError_within_0⟩]) 400 (blkIn a71.body 0) N E (Tcloud_itemError_within_0a n0 c1 i2 i3 n4 c5 i6 i7) = Bcloud_itemError_within_0a F N E L0 n0 c1 i2 i3 n4 c5 i6 i7 := by kernel_rfl
theorem Rcloud_itemError_within_0a_of  (n0 : Nat) (c1 : List PV) (i2 : Int) (i3 : Int) (n4 : Nat) (c5 : List PV) (i6 : Int) (i7 : Int) {r : Ext × S} (h : Bcloud_itemError_within_0a (Fn env) Rcloud_itemError_within_0 exO Lcloud_itemError_within_0 n0 c1 i2 i3 n4 c5 i6 i7 = some r) : Rcloud_itemError_within_0 (Tcloud_itemError_within_0a n0 c1 i2 i3 n4 c5 i6 i7) = some r :=
  lp_of Ecloud_itemError_within_ok (by kernel_rfl) (lo_cons (lpO_ok Ucloud_itemError_within) lo_nil) (by kernel_rfl) ((Bcloud_itemError_within_0a_eq _ _ _ _ _ _ _ _ _ _ _ _).trans h)
def tcloud_itemError_within (F : FnT) (L0 : Q → Option Ycloud_itemError_within_0)(n : Nat) (cs : List PV) (lo hi : Int) : Option ((Int) × (Int)) :=
  bindO (L0 (Tcloud_itemError_within_0a n cs lo hi n cs (n : Int) (0 : Int))) fun z =>
  Sum.elim (fun y0 =>
    some (y0.1, y0.2)) (fun y1 =>
    some ((0 : Int), (0 : Int))) z
theorem tcloud_itemError_within_eq (F : FnT) (L0 : Q → Option Ycloud_itemError_within_0)(n : Nat) (cs : List PV) (lo hi : Int) : semF (callP F Ecloud_itemError_within 20) s71 (loopT [⟨0, Ycloud_itemError_within_0, L0, XLcloud_itemError_within_0⟩]) 400 a71 [.list n cs, .fn 105 [.imm [.int .i64 lo] 0, .imm [.int .i64 hi] 0]] (fun rv => decR (RSh.tup [(Prod.mk false [(CK.int IntKind.i64)]), (Prod.mk false [(CK.int IntKind.i64)])]) rv.pv) = tcloud_itemError_within F L0 n cs lo hi := by kernel_rfl
noncomputable abbrev Fcloud_itemError_within (args : List PV) := Fn env 71 (RSh.tup [(Prod.mk false [(CK.int IntKind.i64)]), (Prod.mk false [(CK.int IntKind.i64)])]) args
theorem Fcloud_itemError_within_of (n : Nat) (cs : List PV) (lo hi : Int) {res : ((Int) × (Int))} (h : tcloud_itemError_within (Fn env) Lcloud_itemError_within_0 n cs lo hi = some res) : Fcloud_itemError_within [.list n cs, .fn 105 [.imm [.int .i64 lo] 0, .imm [.int .i64 hi] 0]] = some res :=
  fn_of Ecloud_itemError_within_ok rfl rfl (lo_cons (lpO_ok Ucloud_itemError_within) lo_nil) ((tcloud_itemError_within_eq _ _ _ _ _ _).trans h)

/-! ### cloud_listError_within -/

def Ecloud_listError_within : List Entry := [.out 71 (RSh.tup [(Prod.mk false [(CK.int IntKind.i64)]), (Prod.mk false [(CK.int IntKind.i64)])])]
theorem Ecloud_listError_within_ok : ∀ e ∈ Ecloud_listError_within, EntOK env e := (ent_out ent_nil)
theorem Ucloud_listError_within : uniq ((blocksOf a104.body).map (·.1)) = true := by kernel_rfl
def tcloud_listError_within (F : FnT)(n : Nat) (cs : List PV) (m lo hi : Int) : Option ((Int) × (Int)) :=
  bif (decide ((n : Int) > m)) then
    some ((0 : Int), (8 : Int))
  else bindO (F 71 (RSh.tup [(Prod.mk false [(CK.int IntKind.i64)]), (Prod.mk false [(CK.int IntKind.i64)])]) [(PV.list n cs), (PV.fn 105 [(PV.imm [(PV.int IntKind.i64 lo)] 0), (PV.imm [(PV.int IntKind.i64 hi)] 0)])]) fun (y0 : ((Int) × (Int))) =>
  some (y0.1, y0.2)
theorem tcloud_listError_within_eq (F : FnT)(n : Nat) (cs : List PV) (m lo hi : Int) : semF (callP F Ecloud_listError_within 20) s104 (loopT []) 400 a104 [.list n cs, .int .i64 m, .fn 105 [.imm [.int .i64 lo] 0, .imm [.int .i64 hi] 0]] (fun rv => decR (RSh.tup [(Prod.mk false [(CK.int IntKind.i64)]), (Prod.mk false [(CK.int IntKind.i64)])]) rv.pv) = tcloud_listError_within F n cs m lo hi := by kernel_rfl
noncomputable abbrev Fcloud_listError_within (args : List PV) := Fn env 104 (RSh.tup [(Prod.mk false [(CK.int IntKind.i64)]), (Prod.mk false [(CK.int IntKind.i64)])]) args
theorem Fcloud_listError_within_of (n : Nat) (cs : List PV) (m lo hi : Int) {res : ((Int) × (Int))} (h : tcloud_listError_within (Fn env) n cs m lo hi = some res) : Fcloud_listError_within [.list n cs, .int .i64 m, .fn 105 [.imm [.int .i64 lo] 0, .imm [.int .i64 hi] 0]] = some res :=
  fn_of Ecloud_listError_within_ok rfl rfl lo_nil ((tcloud_listError_within_eq _ _ _ _ _ _).trans h)

/-! ### cloud_filledError_within -/

def Ecloud_filledError_within : List Entry := [.out 104 (RSh.tup [(Prod.mk false [(CK.int IntKind.i64)]), (Prod.mk false [(CK.int IntKind.i64)])])]
theorem Ecloud_filledError_within_ok : ∀ e ∈ Ecloud_filledError_within, EntOK env e := (ent_out ent_nil)
theorem Ucloud_filledError_within : uniq ((blocksOf a80.body).map (·.1)) = true := by kernel_rfl
def tcloud_filledError_within (F : FnT)(n : Nat) (cs : List PV) (m lo hi : Int) : Option ((Int) × (Int)) :=
  bif ((n : Int) == (0 : Int)) then
    some ((0 : Int), (10 : Int))
  else bindO (F 104 (RSh.tup [(Prod.mk false [(CK.int IntKind.i64)]), (Prod.mk false [(CK.int IntKind.i64)])]) [(PV.list n cs), (PV.int IntKind.i64 m), (PV.fn 105 [(PV.imm [(PV.int IntKind.i64 lo)] 0), (PV.imm [(PV.int IntKind.i64 hi)] 0)])]) fun (y0 : ((Int) × (Int))) =>
  some (y0.1, y0.2)
theorem tcloud_filledError_within_eq (F : FnT)(n : Nat) (cs : List PV) (m lo hi : Int) : semF (callP F Ecloud_filledError_within 20) s80 (loopT []) 400 a80 [.list n cs, .int .i64 m, .fn 105 [.imm [.int .i64 lo] 0, .imm [.int .i64 hi] 0]] (fun rv => decR (RSh.tup [(Prod.mk false [(CK.int IntKind.i64)]), (Prod.mk false [(CK.int IntKind.i64)])]) rv.pv) = tcloud_filledError_within F n cs m lo hi := by kernel_rfl
noncomputable abbrev Fcloud_filledError_within (args : List PV) := Fn env 80 (RSh.tup [(Prod.mk false [(CK.int IntKind.i64)]), (Prod.mk false [(CK.int IntKind.i64)])]) args
theorem Fcloud_filledError_within_of (n : Nat) (cs : List PV) (m lo hi : Int) {res : ((Int) × (Int))} (h : tcloud_filledError_within (Fn env) n cs m lo hi = some res) : Fcloud_filledError_within [.list n cs, .int .i64 m, .fn 105 [.imm [.int .i64 lo] 0, .imm [.int .i64 hi] 0]] = some res :=
  fn_of Ecloud_filledError_within_ok rfl rfl lo_nil ((tcloud_filledError_within_eq _ _ _ _ _ _).trans h)

/-! ### cloud_MiddleOf -/

def Ecloud_MiddleOf : List Entry := [.inl 81 a81 s81, .out 80 (RSh.tup [(Prod.mk false [(CK.int IntKind.i64)]), (Prod.mk false [(CK.int IntKind.i64)])]), .out 82 (RSh.one (CK.int IntKind.i64))]
theorem Ecloud_MiddleOf_ok : ∀ e ∈ Ecloud_MiddleOf, EntOK env e := (ent_inl rfl (ent_out (ent_out ent_nil)))
theorem Ucloud_MiddleOf : uniq ((blocksOf a36.body).map (·.1)) = true := by kernel_rfl
def tcloud_MiddleOf (F : FnT) (p0n : Nat) (p0c : List PV) : Option ((Int) × (Int)) :=
  bindO (F 80 (RSh.tup [(Prod.mk false [(CK.int IntKind.i64)]), (Prod.mk false [(CK.int IntKind.i64)])]) [(PV.list p0n p0c), (PV.int IntKind.i64 (15 : Int)), (PV.fn 105 [(PV.imm [(PV.int IntKind.i64 (0 : Int))] 0), (PV.imm [(PV.int IntKind.i64 (20000 : Int))] 0)])]) fun (y0 : ((Int) × (Int))) =>
  bif (y0.2 != (0 : Int)) then
    some ((0 : Int), y0.2)
  else bindO (F 82 (RSh.one (CK.int IntKind.i64)) [(PV.list p0n p0c)]) fun (y1 : (Int)) =>
  some (y1, (0 : Int))
theorem tcloud_MiddleOf_eq (F : FnT) (p0n : Nat) (p0c : List PV) : semF (callP F Ecloud_MiddleOf 20) s36 (loopT []) 400 a36 [PV.list p0n p0c] (fun rv => decR (RSh.tup [(Prod.mk false [(CK.int IntKind.i64)]), (Prod.mk false [(CK.int IntKind.i64)])]) rv.pv) = tcloud_MiddleOf F p0n p0c := by kernel_rfl
noncomputable abbrev Fcloud_MiddleOf (args : List PV) := Fn env 36 (RSh.tup [(Prod.mk false [(CK.int IntKind.i64)]), (Prod.mk false [(CK.int IntKind.i64)])]) args
theorem Fcloud_MiddleOf_of  (p0n : Nat) (p0c : List PV) {res : ((Int) × (Int))} (h : tcloud_MiddleOf (Fn env) p0n p0c = some res) : Fcloud_MiddleOf [PV.list p0n p0c] = some res :=
  fn_of Ecloud_MiddleOf_ok rfl rfl lo_nil ((tcloud_MiddleOf_eq _ _ _).trans h)

end Gv
