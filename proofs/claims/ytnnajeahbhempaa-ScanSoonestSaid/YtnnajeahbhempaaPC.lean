/- What the functions do, round by round: PC. -/
import Derived.Test.YtnnajeahbhempaaGvEnv0
namespace Gv
open Go
set_option maxRecDepth 100000

/-! ### slices_Index___int_int_ -/

def Eslices_Index___int_int_ : List Entry := []
theorem Eslices_Index___int_int__ok : ∀ e ∈ Eslices_Index___int_int_, EntOK env0 e := ent_nil
def Tslices_Index___int_int__0a (n0 : Nat) (c1 : List PV) (i2 : Int) (i3 : Int) (i4 : Int) : Q := ⟨(tm 19 [(0, (AV.p (PV.list n0 c1))), (1, (AV.p (PV.int IntKind.i64 i2))), (7, (AV.p (PV.int IntKind.i64 i3))), (8, (AV.p (PV.int IntKind.i64 i4)))]), (mm 19 [])⟩
def Xslices_Index___int_int__0a (y : Int) : Ext × Q := (Ext.ret, ⟨(tm 19 [(4, (AV.p (PV.int IntKind.i64 y)))]), (mm 19 [])⟩)
def Islices_Index___int_int__0a (q : Ext × S) : Int := (pP_int1 (pA_p (avT q.2 4)))
def Xslices_Index___int_int__0b (y : Unit) : Ext × Q := (Ext.normal, ⟨(tm 19 []), (mm 19 [])⟩)
def Islices_Index___int_int__0b (q : Ext × S) : Unit := ()
abbrev Yslices_Index___int_int__0 : Type := (Int) ⊕ ((Unit))
def XLslices_Index___int_int__0 : XL Yslices_Index___int_int__0 := .more Xslices_Index___int_int__0a (.one Xslices_Index___int_int__0b)
def Islices_Index___int_int__0 (q : Ext × S) : Yslices_Index___int_int__0 := bif (cE q.1 == 2) then (Sum.inl (Islices_Index___int_int__0a q)) else (Sum.inr (Islices_Index___int_int__0b q))
theorem XIslices_Index___int_int__0a (y : Int) : Islices_Index___int_int__0 (xe (Xslices_Index___int_int__0a y)) = (Sum.inl y) := rfl
theorem XIslices_Index___int_int__0b (y : Unit) : Islices_Index___int_int__0 (xe (Xslices_Index___int_int__0b y)) = (Sum.inr y) := rfl
theorem XIslices_Index___int_int__0 (y : Yslices_Index___int_int__0) : Islices_Index___int_int__0 (xe (XLslices_Index___int_int__0.fn y)) = y := (match y with | .inl y => XIslices_Index___int_int__0a y | .inr y => XIslices_Index___int_int__0b y)
noncomputable abbrev Lslices_Index___int_int__0 : Q → Option Yslices_Index___int_int__0 := lpO env0 a128.body 0 XLslices_Index___int_int__0
noncomputable abbrev Rslices_Index___int_int__0 : Q → Option (Ext × S) := lpR env0 a128.body 0
theorem Lslices_Index___int_int__0a_of {s : Q} {y : Int} (h : Rslices_Index___int_int__0 s = exO (Xslices_Index___int_int__0a y)) : Lslices_Index___int_int__0 s = some (Sum.inl y) := lpO_of Islices_Index___int_int__0 XIslices_Index___int_int__0 (y := (Sum.inl y)) h
theorem Lslices_Index___int_int__0b_of {s : Q} {y : Unit} (h : Rslices_Index___int_int__0 s = exO (Xslices_Index___int_int__0b y)) : Lslices_Index___int_int__0 s = some (Sum.inr y) := lpO_of Islices_Index___int_int__0 XIslices_Index___int_int__0 (y := (Sum.inr y)) h
theorem Uslices_Index___int_int_ : uniq ((blocksOf a128.body).map (·.1)) = true := by kernel_rfl
def Bslices_Index___int_int__0a (F : FnT) (N : Q → Option (Ext × S)) (E : Ext × Q → Option (Ext × S)) (L0 : Q → Option Yslices_Index___int_int__0) (n0 : Nat) (c1 : List PV) (i2 : Int) (i3 : Int) (i4 : Int) : Option (Ext × S) :=
  bif (decide (i4 < i3)) then
    bif (decide (((0 : Int) ≤ i4) ∧ (i4 < (n0 : Int)))) then
      bindO (intC IntKind.i64 (c1[((Int.toNat i4) * 1)]?)) fun x0 =>
      bif (i2 == x0) then
        E (Xslices_Index___int_int__0a i4)
      else N (Tslices_Index___int_int__0a n0 c1 i2 i3 (w64 (i4 + (1 : Int))))
    else none
  else E (Xslices_Index___int_int__0b ())
theorem Bslices_Index___int_int__0a_eq (F : FnT) (N : Q → Option (Ext × S)) (E : Ext × Q → Option (Ext × S)) (L0 : Q → Option Yslices_Index___int_int__0) (n0 : Nat) (c1 : List PV) (i2 : Int) (i3 : Int) (i4 : Int) : semB (callP F Eslices_Index___int_int_ 20) s128 (loopT [⟨0, Yslices_Index___int_int__0, L0, XLslices_Index___int_int__0⟩]) 400 (blkIn a128.body 0) N E (Tslices_Index___int_int__0a n0 c1 i2 i3 i4) = Bslices_Index___int_int__0a F N E L0 n0 c1 i2 i3 i4 := by kernel_rfl
theorem Rslices_Index___int_int__0a_of  (n0 : Nat) (c1 : List PV) (i2 : Int) (i3 : Int) (i4 : Int) {r : Ext × S} (h : Bslices_Index___int_int__0a (Fn env0) Rslices_Index___int_int__0 exO Lslices_Index___int_int__0 n0 c1 i2 i3 i4 = some r) : Rslices_Index___int_int__0 (Tslices_Index___int_int__0a n0 c1 i2 i3 i4) = some r :=
  lp_of Eslices_Index___int_int__ok (by kernel_rfl) (lo_cons (lpO_ok Uslices_Index___int_int_) lo_nil) (by kernel_rfl) ((Bslices_Index___int_int__0a_eq _ _ _ _ _ _ _ _ _).trans h)
def tslices_Index___int_int_ (F : FnT) (L0 : Q → Option Yslices_Index___int_int__0) (p0n : Nat) (p0c : List PV) (p1 : Int) : Option (Int) :=
  bindO (L0 (Tslices_Index___int_int__0a p0n p0c p1 (p0n : Int) (0 : Int))) fun z =>
  Sum.elim (fun y0 =>
    some y0) (fun y1 =>
    some (-1 : Int)) z
theorem tslices_Index___int_int__eq (F : FnT) (L0 : Q → Option Yslices_Index___int_int__0) (p0n : Nat) (p0c : List PV) (p1 : Int) : semF (callP F Eslices_Index___int_int_ 20) s128 (loopT [⟨0, Yslices_Index___int_int__0, L0, XLslices_Index___int_int__0⟩]) 400 a128 [PV.list p0n p0c, PV.int IntKind.i64 p1] (fun rv => decR (RSh.one (CK.int IntKind.i64)) rv.pv) = tslices_Index___int_int_ F L0 p0n p0c p1 := by kernel_rfl
noncomputable abbrev Fslices_Index___int_int_ (args : List PV) := Fn env0 128 (RSh.one (CK.int IntKind.i64)) args
theorem Fslices_Index___int_int__of  (p0n : Nat) (p0c : List PV) (p1 : Int) {res : (Int)} (h : tslices_Index___int_int_ (Fn env0) Lslices_Index___int_int__0 p0n p0c p1 = some res) : Fslices_Index___int_int_ [PV.list p0n p0c, PV.int IntKind.i64 p1] = some res :=
  fn_of Eslices_Index___int_int__ok rfl rfl (lo_cons (lpO_ok Uslices_Index___int_int_) lo_nil) ((tslices_Index___int_int__eq _ _ _ _ _).trans h)

/-! ### slices_Contains___int_int_ -/

def Eslices_Contains___int_int_ : List Entry := [.out 128 (RSh.one (CK.int IntKind.i64))]
theorem Eslices_Contains___int_int__ok : ∀ e ∈ Eslices_Contains___int_int_, EntOK env0 e := (ent_out ent_nil)
theorem Uslices_Contains___int_int_ : uniq ((blocksOf a118.body).map (·.1)) = true := by kernel_rfl
def tslices_Contains___int_int_ (F : FnT) (p0n : Nat) (p0c : List PV) (p1 : Int) : Option (Bool) :=
  bindO (F 128 (RSh.one (CK.int IntKind.i64)) [(PV.list p0n p0c), (PV.int IntKind.i64 p1)]) fun (y0 : (Int)) =>
  bif (decide (y0 ≥ (0 : Int))) then
    some true
  else some false
theorem tslices_Contains___int_int__eq (F : FnT) (p0n : Nat) (p0c : List PV) (p1 : Int) : semF (callP F Eslices_Contains___int_int_ 20) s118 (loopT []) 400 a118 [PV.list p0n p0c, PV.int IntKind.i64 p1] (fun rv => decR (RSh.one CK.bool) rv.pv) = tslices_Contains___int_int_ F p0n p0c p1 := by kernel_rfl
noncomputable abbrev Fslices_Contains___int_int_ (args : List PV) := Fn env0 118 (RSh.one CK.bool) args
theorem Fslices_Contains___int_int__of  (p0n : Nat) (p0c : List PV) (p1 : Int) {res : (Bool)} (h : tslices_Contains___int_int_ (Fn env0) p0n p0c p1 = some res) : Fslices_Contains___int_int_ [PV.list p0n p0c, PV.int IntKind.i64 p1] = some res :=
  fn_of Eslices_Contains___int_int__ok rfl rfl lo_nil ((tslices_Contains___int_int__eq _ _ _ _).trans h)

end Gv
