/- What the functions do, round by round: P5b. -/
import Derived.Test.YtggnifebabjoiaaGvEnv
namespace Gv
open Go
set_option maxRecDepth 100000
def ErCopE : List Entry := []
theorem ErCopE_ok : ∀ e ∈ ErCopE, EntOK env e := ent_nil
def trCopE (_F : FnT) (p0n : Nat) (p0c : List PV) : Option ((Nat) × (List PV)) :=
  bif (decide (p0n = 0)) then
    some (0, [])
  else bif (decide ((List.length p0c) = (p0n * 3))) then
    bif (decide ((0 = 0) ∧ ((0 + p0n) ≤ big))) then
      bif (decide ((0 + p0n) = (0 + p0n))) then
        some ((0 + p0n), ([] ++ p0c))
      else none
    else none
  else none
theorem trCopE_eq (F : FnT) (p0n : Nat) (p0c : List PV) : semF (callP F ErCopE 20) s55 (loopT []) 400 a55 [PV.list p0n p0c] (fun rv => decR (RSh.one CK.list) rv.pv) = trCopE F p0n p0c := by kernel_rfl
noncomputable abbrev FrCopE (args : List PV) := Fn env 55 (RSh.one CK.list) args
theorem FrCopE_of  (p0n : Nat) (p0c : List PV) {res : ((Nat) × (List PV))} (h : trCopE (Fn env) p0n p0c = some res) : FrCopE [PV.list p0n p0c] = some res :=
  fn_of ErCopE_ok rfl rfl lo_nil ((trCopE_eq _ _ _).trans h)
def EfewE : List Entry := []
theorem EfewE_ok : ∀ e ∈ EfewE, EntOK env e := ent_nil
def tfewE (_F : FnT) (p0n : Nat) (_p0c : List PV) : Option (Bool) :=
  bif (decide ((p0n : Int) ≤ (42 : Int))) then
    some true
  else some false
theorem tfewE_eq (F : FnT) (p0n : Nat) (p0c : List PV) : semF (callP F EfewE 20) s53 (loopT []) 400 a53 [PV.list p0n p0c] (fun rv => decR (RSh.one CK.bool) rv.pv) = tfewE F p0n p0c := by kernel_rfl
noncomputable abbrev FfewE (args : List PV) := Fn env 53 (RSh.one CK.bool) args
theorem FfewE_of  (p0n : Nat) (p0c : List PV) {res : (Bool)} (h : tfewE (Fn env) p0n p0c = some res) : FfewE [PV.list p0n p0c] = some res :=
  fn_of EfewE_ok rfl rfl lo_nil ((tfewE_eq _ _ _).trans h)
def ElStd : List Entry := [.out 29 (RSh.one CK.bool)]
theorem ElStd_ok : ∀ e ∈ ElStd, EntOK env e := (ent_out ent_nil)
def TlStd_0a (n0 : Nat) (c1 : List PV) (i2 i3 : Int) : Q := ⟨(tm 24 [(0, (AV.p (PV.list n0 c1))), (1, (AV.p (PV.int .i64 i2))), (5, (AV.p (PV.int .i64 i3)))]), (mm 24 [])⟩
def XlStd_0a (_y : Unit) : Ext × Q := (Ext.ret, ⟨(tm 24 [(4, (AV.p (PV.bool true)))]), (mm 24 [])⟩)
def IlStd_0a (_q : Ext × S) : Unit := ()
def XlStd_0b (_y : Unit) : Ext × Q := (Ext.normal, ⟨(tm 24 []), (mm 24 [])⟩)
def IlStd_0b (_q : Ext × S) : Unit := ()
abbrev YlStd_0 : Type := (Unit) ⊕ ((Unit))
def XLlStd_0 : XL YlStd_0 := .more XlStd_0a (.one XlStd_0b)
def IlStd_0 (q : Ext × S) : YlStd_0 := bif (cE q.1 == 2) then (Sum.inl (IlStd_0a q)) else (Sum.inr (IlStd_0b q))
theorem XIlStd_0a (y : Unit) : IlStd_0 (xe (XlStd_0a y)) = (Sum.inl y) := by kernel_rfl
theorem XIlStd_0b (y : Unit) : IlStd_0 (xe (XlStd_0b y)) = (Sum.inr y) := by kernel_rfl
theorem XIlStd_0 (y : YlStd_0) : IlStd_0 (xe (XLlStd_0.fn y)) = y := (match y with | .inl y => XIlStd_0a y | .inr y => XIlStd_0b y)
noncomputable abbrev LlStd_0 : Q → Option YlStd_0 := lpO env a64.body 0 XLlStd_0
noncomputable abbrev RlStd_0 : Q → Option (Ext × S) := lpR env a64.body 0
theorem UlStd : uniq ((blocksOf a64.body).map (·.1)) = true := by kernel_rfl
def BlStd_0a (F : FnT) (N : QO) (E : EO) (_L0 : Q → Option YlStd_0) (n0 : Nat) (c1 : List PV) (i2 i3 : Int) : Option (Ext × S) :=
  bif (decide (i3 < (n0 : Int))) then
    bif (decide (((0 : Int) ≤ i3) ∧ (i3 < (n0 : Int)))) then
      bindO (intC .i64 (c1[(((Int.toNat i3) * 3) + 1)]?)) fun x0 =>
      bif (decide (((0 : Int) ≤ i3) ∧ (i3 < (n0 : Int)))) then
        bindO (intC .i64 (c1[(((Int.toNat i3) * 3) + 2)]?)) fun x1 =>
        bindO (F 29 (RSh.one CK.bool) [(PV.int .i64 i2), (PV.int .i64 x0), (PV.int .i64 x1)]) fun (y2 : (Bool)) =>
        bif y2 then
          E (XlStd_0a ())
        else N (TlStd_0a n0 c1 i2 (w64 (i3 + (1 : Int))))
      else none
    else none
  else E (XlStd_0b ())
theorem BlStd_0a_eq (F : FnT) (N : QO) (E : EO) (L0 : Q → Option YlStd_0) (n0 : Nat) (c1 : List PV) (i2 i3 : Int) : semB (callP F ElStd 20) s64 (loopT [⟨0, YlStd_0, L0, XLlStd_0⟩]) 400 (blkIn a64.body 0) N E (TlStd_0a n0 c1 i2 i3) = BlStd_0a F N E L0 n0 c1 i2 i3 := by kernel_rfl
theorem RlStd_0a_of  (n0 : Nat) (c1 : List PV) (i2 i3 : Int) {r : Ext × S} (h : BlStd_0a (Fn env) RlStd_0 exO LlStd_0 n0 c1 i2 i3 = some r) : RlStd_0 (TlStd_0a n0 c1 i2 i3) = some r :=
  lp_of ElStd_ok (by kernel_rfl) (lo_cons (lpO_ok UlStd) lo_nil) (by kernel_rfl) ((BlStd_0a_eq _ _ _ _ _ _ _ _).trans h)
def tlStd (_F : FnT) (L0 : Q → Option YlStd_0) (p0n : Nat) (p0c : List PV) (p1 : Int) : Option (Bool) :=
  bindO (L0 (TlStd_0a p0n p0c p1 (0 : Int))) fun z =>
  Sum.elim (fun _y0 =>
    some true) (fun _y1 =>
    some false) z
theorem tlStd_eq (F : FnT) (L0 : Q → Option YlStd_0) (p0n : Nat) (p0c : List PV) (p1 : Int) : semF (callP F ElStd 20) s64 (loopT [⟨0, YlStd_0, L0, XLlStd_0⟩]) 400 a64 [PV.list p0n p0c, PV.int .i64 p1] (fun rv => decR (RSh.one CK.bool) rv.pv) = tlStd F L0 p0n p0c p1 := by kernel_rfl
noncomputable abbrev FlStd (args : List PV) := Fn env 64 (RSh.one CK.bool) args
theorem FlStd_of  (p0n : Nat) (p0c : List PV) (p1 : Int) {res : (Bool)} (h : tlStd (Fn env) LlStd_0 p0n p0c p1 = some res) : FlStd [PV.list p0n p0c, PV.int .i64 p1] = some res :=
  fn_of ElStd_ok rfl rfl (lo_cons (lpO_ok UlStd) lo_nil) ((tlStd_eq _ _ _ _ _).trans h)
end Gv
