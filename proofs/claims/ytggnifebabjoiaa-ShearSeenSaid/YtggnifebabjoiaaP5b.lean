/- What the functions do, round by round: P5b. -/
import Derived.Test.YtggnifebabjoiaaGvEnv
namespace Gv
open Go
set_option maxRecDepth 100000
def ErCopP : List Entry := []
theorem ErCopP_ok : ∀ e ∈ ErCopP, EntOK env e := ent_nil
def trCopP (_F : FnT) (p0n : Nat) (p0c : List PV) : Option ((Nat) × (List PV)) :=
  bif (decide (p0n = 0)) then
    some (0, [])
  else bif (decide ((List.length p0c) = (p0n * 3))) then
    bif (decide ((0 = 0) ∧ ((0 + p0n) ≤ big))) then
      bif (decide ((0 + p0n) = (0 + p0n))) then
        some ((0 + p0n), ([] ++ p0c))
      else none
    else none
  else none
theorem trCopP_eq (F : FnT) (p0n : Nat) (p0c : List PV) : semF (callP F ErCopP 20) s22 (loopT []) 400 a22 [PV.list p0n p0c] (fun rv => decR (RSh.one CK.list) rv.pv) = trCopP F p0n p0c := by kernel_rfl
noncomputable abbrev FrCopP (args : List PV) := Fn env 22 (RSh.one CK.list) args
theorem FrCopP_of  (p0n : Nat) (p0c : List PV) {res : ((Nat) × (List PV))} (h : trCopP (Fn env) p0n p0c = some res) : FrCopP [PV.list p0n p0c] = some res :=
  fn_of ErCopP_ok rfl rfl lo_nil ((trCopP_eq _ _ _).trans h)
def Efew : List Entry := []
theorem Efew_ok : ∀ e ∈ Efew, EntOK env e := ent_nil
def tfew (_F : FnT) (p0n : Nat) (_p0c : List PV) : Option (Bool) :=
  bif (decide ((p0n : Int) ≤ (22 : Int))) then
    some true
  else some false
theorem tfew_eq (F : FnT) (p0n : Nat) (p0c : List PV) : semF (callP F Efew 20) s20 (loopT []) 400 a20 [PV.list p0n p0c] (fun rv => decR (RSh.one CK.bool) rv.pv) = tfew F p0n p0c := by kernel_rfl
noncomputable abbrev Ffew (args : List PV) := Fn env 20 (RSh.one CK.bool) args
theorem Ffew_of  (p0n : Nat) (p0c : List PV) {res : (Bool)} (h : tfew (Fn env) p0n p0c = some res) : Ffew [PV.list p0n p0c] = some res :=
  fn_of Efew_ok rfl rfl lo_nil ((tfew_eq _ _ _).trans h)
def ElIn : List Entry := [.out 29 (RSh.one CK.bool)]
theorem ElIn_ok : ∀ e ∈ ElIn, EntOK env e := (ent_out ent_nil)
def TlIn_0a (n0 : Nat) (c1 : List PV) (i2 : Int) (i3 : Int) : Q := ⟨(tm 24 [(0, (AV.p (PV.list n0 c1))), (1, (AV.p (PV.int .i64 i2))), (5, (AV.p (PV.int .i64 i3)))]), (mm 24 [])⟩
def XlIn_0a (_y : Unit) : Ext × Q := (Ext.ret, ⟨(tm 24 [(4, (AV.p (PV.bool true)))]), (mm 24 [])⟩)
def IlIn_0a (_q : Ext × S) : Unit := ()
def XlIn_0b (_y : Unit) : Ext × Q := (Ext.normal, ⟨(tm 24 []), (mm 24 [])⟩)
def IlIn_0b (_q : Ext × S) : Unit := ()
abbrev YlIn_0 : Type := (Unit) ⊕ ((Unit))
def XLlIn_0 : XL YlIn_0 := .more XlIn_0a (.one XlIn_0b)
def IlIn_0 (q : Ext × S) : YlIn_0 := bif (cE q.1 == 2) then (Sum.inl (IlIn_0a q)) else (Sum.inr (IlIn_0b q))
theorem XIlIn_0a (y : Unit) : IlIn_0 (xe (XlIn_0a y)) = (Sum.inl y) := rfl
theorem XIlIn_0b (y : Unit) : IlIn_0 (xe (XlIn_0b y)) = (Sum.inr y) := rfl
theorem XIlIn_0 (y : YlIn_0) : IlIn_0 (xe (XLlIn_0.fn y)) = y := (match y with | .inl y => XIlIn_0a y | .inr y => XIlIn_0b y)
noncomputable abbrev LlIn_0 : Q → Option YlIn_0 := lpO env a44.body 0 XLlIn_0
noncomputable abbrev RlIn_0 : Q → Option (Ext × S) := lpR env a44.body 0
theorem UlIn : uniq ((blocksOf a44.body).map (·.1)) = true := by kernel_rfl
def BlIn_0a (F : FnT) (N : QO) (E : EO) (_L0 : Q → Option YlIn_0) (n0 : Nat) (c1 : List PV) (i2 : Int) (i3 : Int) : Option (Ext × S) :=
  bif (decide (i3 < (n0 : Int))) then
    bif (decide (((0 : Int) ≤ i3) ∧ (i3 < (n0 : Int)))) then
      bindO (intC .i64 (c1[(((Int.toNat i3) * 2) + 0)]?)) fun x0 =>
      bif (decide (((0 : Int) ≤ i3) ∧ (i3 < (n0 : Int)))) then
        bindO (intC .i64 (c1[(((Int.toNat i3) * 2) + 1)]?)) fun x1 =>
        bindO (F 29 (RSh.one CK.bool) [(PV.int .i64 i2), (PV.int .i64 x0), (PV.int .i64 x1)]) fun (y2 : (Bool)) =>
        bif y2 then
          E (XlIn_0a ())
        else N (TlIn_0a n0 c1 i2 (w64 (i3 + (1 : Int))))
      else none
    else none
  else E (XlIn_0b ())
theorem BlIn_0a_eq (F : FnT) (N : QO) (E : EO) (L0 : Q → Option YlIn_0) (n0 : Nat) (c1 : List PV) (i2 : Int) (i3 : Int) : semB (callP F ElIn 20) s44 (loopT [⟨0, YlIn_0, L0, XLlIn_0⟩]) 400 (blkIn a44.body 0) N E (TlIn_0a n0 c1 i2 i3) = BlIn_0a F N E L0 n0 c1 i2 i3 := by kernel_rfl
theorem RlIn_0a_of  (n0 : Nat) (c1 : List PV) (i2 : Int) (i3 : Int) {r : Ext × S} (h : BlIn_0a (Fn env) RlIn_0 exO LlIn_0 n0 c1 i2 i3 = some r) : RlIn_0 (TlIn_0a n0 c1 i2 i3) = some r :=
  lp_of ElIn_ok (by kernel_rfl) (lo_cons (lpO_ok UlIn) lo_nil) (by kernel_rfl) ((BlIn_0a_eq _ _ _ _ _ _ _ _).trans h)
def tlIn (_F : FnT) (L0 : Q → Option YlIn_0) (p0n : Nat) (p0c : List PV) (p1 : Int) : Option (Bool) :=
  bindO (L0 (TlIn_0a p0n p0c p1 (0 : Int))) fun z =>
  Sum.elim (fun _y0 =>
    some true) (fun _y1 =>
    some false) z
theorem tlIn_eq (F : FnT) (L0 : Q → Option YlIn_0) (p0n : Nat) (p0c : List PV) (p1 : Int) : semF (callP F ElIn 20) s44 (loopT [⟨0, YlIn_0, L0, XLlIn_0⟩]) 400 a44 [PV.list p0n p0c, PV.int .i64 p1] (fun rv => decR (RSh.one CK.bool) rv.pv) = tlIn F L0 p0n p0c p1 := by kernel_rfl
noncomputable abbrev FlIn (args : List PV) := Fn env 44 (RSh.one CK.bool) args
theorem FlIn_of  (p0n : Nat) (p0c : List PV) (p1 : Int) {res : (Bool)} (h : tlIn (Fn env) LlIn_0 p0n p0c p1 = some res) : FlIn [PV.list p0n p0c, PV.int .i64 p1] = some res :=
  fn_of ElIn_ok rfl rfl (lo_cons (lpO_ok UlIn) lo_nil) ((tlIn_eq _ _ _ _ _).trans h)
end Gv
