/- What the functions do, round by round: CQ3. -/
import Derived.Test.YtkbahledgljaoaaCQ2
namespace Gv
open Go
set_option maxRecDepth 100000

/-! ### glidepathlaw08_CloudPotentials -/

def Eglidepathlaw08_CloudPotentials : List Entry := [.out 10 (RSh.one CK.bool), .out 11 (RSh.one CK.bool), .out 16 (RSh.one CK.list), .out 31 (RSh.tup [(Prod.mk false [(CK.int IntKind.i64)]), (Prod.mk false [(CK.int IntKind.i64)])]), .out 12 (RSh.one (CK.int IntKind.i64)), .out 27 (RSh.one (CK.int IntKind.i64)), .out 26 (RSh.one (CK.int IntKind.i64)), .out 30 (RSh.one CK.list)]
theorem Eglidepathlaw08_CloudPotentials_ok : ∀ e ∈ Eglidepathlaw08_CloudPotentials, EntOK env e := (ent_out (ent_out (ent_out (ent_out (ent_out (ent_out (ent_out (ent_out ent_nil))))))))
def Tglidepathlaw08_CloudPotentials_0a (n0 : Nat) (c1 : List PV) (n2 : Nat) (c3 : List PV) (i4 : Int) (i5 : Int) (n6 : Nat) (c7 : List PV) (i8 : Int) : Q := ⟨(tm 93 [(0, (AV.p (PV.list n0 c1))), (2, (AV.p (PV.list n2 c3))), (7, (AV.p (PV.int IntKind.i64 i4))), (8, (AV.p (PV.int IntKind.i64 i5))), (10, (AV.p (PV.list n6 c7))), (11, (AV.p (PV.int IntKind.i64 i8)))]), (mm 93 [])⟩
def Xglidepathlaw08_CloudPotentials_0a (y : Bool) : Ext × Q := (Ext.ret, ⟨(tm 93 [(6, (AV.p (PV.bool y)))]), (mm 93 [])⟩)
def Iglidepathlaw08_CloudPotentials_0a (q : Ext × S) : Bool := (pP_bool0 (pA_p (avT q.2 6)))
def Xglidepathlaw08_CloudPotentials_0b (y : Nat × List PV × Int × Int × Nat × List PV) : Ext × Q := (Ext.normal, ⟨(tm 93 [(0, (AV.p (PV.list y.1 y.2.1))), (7, (AV.p (PV.int IntKind.i64 y.2.2.1))), (8, (AV.p (PV.int IntKind.i64 y.2.2.2.1))), (10, (AV.p (PV.list y.2.2.2.2.1 y.2.2.2.2.2)))]), (mm 93 [])⟩)
def Iglidepathlaw08_CloudPotentials_0b (q : Ext × S) : Nat × List PV × Int × Int × Nat × List PV := ((pP_list0 (pA_p (avT q.2 0))), (pP_list1 (pA_p (avT q.2 0))), (pP_int1 (pA_p (avT q.2 7))), (pP_int1 (pA_p (avT q.2 8))), (pP_list0 (pA_p (avT q.2 10))), (pP_list1 (pA_p (avT q.2 10))))
abbrev Yglidepathlaw08_CloudPotentials_0 : Type := (Bool) ⊕ ((Nat × List PV × Int × Int × Nat × List PV))
def XLglidepathlaw08_CloudPotentials_0 : XL Yglidepathlaw08_CloudPotentials_0 := .more Xglidepathlaw08_CloudPotentials_0a (.one Xglidepathlaw08_CloudPotentials_0b)
def Iglidepathlaw08_CloudPotentials_0 (q : Ext × S) : Yglidepathlaw08_CloudPotentials_0 := bif (cE q.1 == 2) then (Sum.inl (Iglidepathlaw08_CloudPotentials_0a q)) else (Sum.inr (Iglidepathlaw08_CloudPotentials_0b q))
theorem XIglidepathlaw08_CloudPotentials_0a (y : Bool) : Iglidepathlaw08_CloudPotentials_0 (xe (Xglidepathlaw08_CloudPotentials_0a y)) = (Sum.inl y) := rfl
theorem XIglidepathlaw08_CloudPotentials_0b (y : Nat × List PV × Int × Int × Nat × List PV) : Iglidepathlaw08_CloudPotentials_0 (xe (Xglidepathlaw08_CloudPotentials_0b y)) = (Sum.inr y) := rfl
theorem XIglidepathlaw08_CloudPotentials_0 (y : Yglidepathlaw08_CloudPotentials_0) : Iglidepathlaw08_CloudPotentials_0 (xe (XLglidepathlaw08_CloudPotentials_0.fn y)) = y := (match y with | .inl y => XIglidepathlaw08_CloudPotentials_0a y | .inr y => XIglidepathlaw08_CloudPotentials_0b y)
noncomputable abbrev Lglidepathlaw08_CloudPotentials_0 : Q → Option Yglidepathlaw08_CloudPotentials_0 := lpO env a5.body 0 XLglidepathlaw08_CloudPotentials_0
noncomputable abbrev Rglidepathlaw08_CloudPotentials_0 : Q → Option (Ext × S) := lpR env a5.body 0
theorem Lglidepathlaw08_CloudPotentials_0a_of {s : Q} {y : Bool} (h : Rglidepathlaw08_CloudPotentials_0 s = exO (Xglidepathlaw08_CloudPotentials_0a y)) : Lglidepathlaw08_CloudPotentials_0 s = some (Sum.inl y) := lpO_of Iglidepathlaw08_CloudPotentials_0 XIglidepathlaw08_CloudPotentials_0 (y := (Sum.inl y)) h
theorem Lglidepathlaw08_CloudPotentials_0b_of {s : Q} {y : Nat × List PV × Int × Int × Nat × List PV} (h : Rglidepathlaw08_CloudPotentials_0 s = exO (Xglidepathlaw08_CloudPotentials_0b y)) : Lglidepathlaw08_CloudPotentials_0 s = some (Sum.inr y) := lpO_of Iglidepathlaw08_CloudPotentials_0 XIglidepathlaw08_CloudPotentials_0 (y := (Sum.inr y)) h
def Tglidepathlaw08_CloudPotentials_1000046a (n0 : Nat) (c1 : List PV) (i2 : Int) (n3 : Nat) (c4 : List PV) : Q := ⟨(tm 93 [(0, (AV.p (PV.list n0 c1))), (1, (AV.p (PV.int IntKind.i64 i2))), (2, (AV.p (PV.list n3 c4)))]), (mm 93 [])⟩
def Xglidepathlaw08_CloudPotentials_1000046a (_y : Unit) : Ext × Q := (Ext.ret, ⟨(tm 93 [(6, (AV.p (PV.bool true)))]), (mm 93 [])⟩)
def Iglidepathlaw08_CloudPotentials_1000046a (_q : Ext × S) : Unit := ()
def Xglidepathlaw08_CloudPotentials_1000046b (y : Nat × List PV × Int × Nat × List PV) : Ext × Q := (Ext.normal, ⟨(tm 93 [(0, (AV.p (PV.list y.1 y.2.1))), (1, (AV.p (PV.int IntKind.i64 y.2.2.1))), (2, (AV.p (PV.list y.2.2.2.1 y.2.2.2.2)))]), (mm 93 [])⟩)
def Iglidepathlaw08_CloudPotentials_1000046b (q : Ext × S) : Nat × List PV × Int × Nat × List PV := ((pP_list0 (pA_p (avT q.2 0))), (pP_list1 (pA_p (avT q.2 0))), (pP_int1 (pA_p (avT q.2 1))), (pP_list0 (pA_p (avT q.2 2))), (pP_list1 (pA_p (avT q.2 2))))
abbrev Yglidepathlaw08_CloudPotentials_1000046 : Type := (Unit) ⊕ ((Nat × List PV × Int × Nat × List PV))
def XLglidepathlaw08_CloudPotentials_1000046 : XL Yglidepathlaw08_CloudPotentials_1000046 := .more Xglidepathlaw08_CloudPotentials_1000046a (.one Xglidepathlaw08_CloudPotentials_1000046b)
def Iglidepathlaw08_CloudPotentials_1000046 (q : Ext × S) : Yglidepathlaw08_CloudPotentials_1000046 := bif (cE q.1 == 2) then (Sum.inl (Iglidepathlaw08_CloudPotentials_1000046a q)) else (Sum.inr (Iglidepathlaw08_CloudPotentials_1000046b q))
theorem XIglidepathlaw08_CloudPotentials_1000046a (y : Unit) : Iglidepathlaw08_CloudPotentials_1000046 (xe (Xglidepathlaw08_CloudPotentials_1000046a y)) = (Sum.inl y) := rfl
theorem XIglidepathlaw08_CloudPotentials_1000046b (y : Nat × List PV × Int × Nat × List PV) : Iglidepathlaw08_CloudPotentials_1000046 (xe (Xglidepathlaw08_CloudPotentials_1000046b y)) = (Sum.inr y) := rfl
theorem XIglidepathlaw08_CloudPotentials_1000046 (y : Yglidepathlaw08_CloudPotentials_1000046) : Iglidepathlaw08_CloudPotentials_1000046 (xe (XLglidepathlaw08_CloudPotentials_1000046.fn y)) = y := (match y with | .inl y => XIglidepathlaw08_CloudPotentials_1000046a y | .inr y => XIglidepathlaw08_CloudPotentials_1000046b y)
noncomputable abbrev Lglidepathlaw08_CloudPotentials_1000046 : Q → Option Yglidepathlaw08_CloudPotentials_1000046 := lpO env a5.body 1000046 XLglidepathlaw08_CloudPotentials_1000046
noncomputable abbrev Rglidepathlaw08_CloudPotentials_1000046 : Q → Option (Ext × S) := lpR env a5.body 1000046
theorem Lglidepathlaw08_CloudPotentials_1000046a_of {s : Q} {y : Unit} (h : Rglidepathlaw08_CloudPotentials_1000046 s = exO (Xglidepathlaw08_CloudPotentials_1000046a y)) : Lglidepathlaw08_CloudPotentials_1000046 s = some (Sum.inl y) := lpO_of Iglidepathlaw08_CloudPotentials_1000046 XIglidepathlaw08_CloudPotentials_1000046 (y := (Sum.inl y)) h
theorem Lglidepathlaw08_CloudPotentials_1000046b_of {s : Q} {y : Nat × List PV × Int × Nat × List PV} (h : Rglidepathlaw08_CloudPotentials_1000046 s = exO (Xglidepathlaw08_CloudPotentials_1000046b y)) : Lglidepathlaw08_CloudPotentials_1000046 s = some (Sum.inr y) := lpO_of Iglidepathlaw08_CloudPotentials_1000046 XIglidepathlaw08_CloudPotentials_1000046 (y := (Sum.inr y)) h
theorem Uglidepathlaw08_CloudPotentials : uniq ((blocksOf a5.body).map (·.1)) = true := by kernel_rfl
def Bglidepathlaw08_CloudPotentials_0a (_F : FnT) (N : Q → Option (Ext × S)) (E : Ext × Q → Option (Ext × S)) (_L0 : Q → Option Yglidepathlaw08_CloudPotentials_0) (_L1000046 : Q → Option Yglidepathlaw08_CloudPotentials_1000046) (n0 : Nat) (c1 : List PV) (n2 : Nat) (c3 : List PV) (i4 : Int) (i5 : Int) (n6 : Nat) (c7 : List PV) (i8 : Int) : Option (Ext × S) :=
  bif (decide (i8 < (n2 : Int))) then
    bif (decide (((0 : Int) ≤ i8) ∧ (i8 < (n2 : Int)))) then
      bindO (intC IntKind.i64 (c3[((Int.toNat i8) * 1)]?)) fun x0 =>
      bif (decide (((0 : Int) ≤ i8) ∧ (i8 < (n6 : Int)))) then
        bindO (intC IntKind.i64 (c7[((Int.toNat i8) * 1)]?)) fun x1 =>
        bif (x0 != x1) then
          bif (i5 == (17 : Int)) then
            bif (i4 == i8) then
              E (Xglidepathlaw08_CloudPotentials_0a true)
            else E (Xglidepathlaw08_CloudPotentials_0a false)
          else E (Xglidepathlaw08_CloudPotentials_0a false)
        else N (Tglidepathlaw08_CloudPotentials_0a n0 c1 n2 c3 i4 i5 n6 c7 (w64 (i8 + (1 : Int))))
      else none
    else none
  else E (Xglidepathlaw08_CloudPotentials_0b (n0, c1, i4, i5, n6, c7))
theorem Bglidepathlaw08_CloudPotentials_0a_eq (F : FnT) (N : Q → Option (Ext × S)) (E : Ext × Q → Option (Ext × S)) (L0 : Q → Option Yglidepathlaw08_CloudPotentials_0) (L1000046 : Q → Option Yglidepathlaw08_CloudPotentials_1000046) (n0 : Nat) (c1 : List PV) (n2 : Nat) (c3 : List PV) (i4 : Int) (i5 : Int) (n6 : Nat) (c7 : List PV) (i8 : Int) : semB (callP F Eglidepathlaw08_CloudPotentials 20) s5 (loopT [⟨0, Yglidepathlaw08_CloudPotentials_0, L0, XLglidepathlaw08_CloudPotentials_0⟩, ⟨1000046, Yglidepathlaw08_CloudPotentials_1000046, L1000046, XLglidepathlaw08_CloudPotentials_1000046⟩]) 400 (blkIn a5.body 0) N E (Tglidepathlaw08_CloudPotentials_0a n0 c1 n2 c3 i4 i5 n6 c7 i8) = Bglidepathlaw08_CloudPotentials_0a F N E L0 L1000046 n0 c1 n2 c3 i4 i5 n6 c7 i8 := by kernel_rfl
theorem Rglidepathlaw08_CloudPotentials_0a_of  (n0 : Nat) (c1 : List PV) (n2 : Nat) (c3 : List PV) (i4 : Int) (i5 : Int) (n6 : Nat) (c7 : List PV) (i8 : Int) {r : Ext × S} (h : Bglidepathlaw08_CloudPotentials_0a (Fn env) Rglidepathlaw08_CloudPotentials_0 exO Lglidepathlaw08_CloudPotentials_0 Lglidepathlaw08_CloudPotentials_1000046 n0 c1 n2 c3 i4 i5 n6 c7 i8 = some r) : Rglidepathlaw08_CloudPotentials_0 (Tglidepathlaw08_CloudPotentials_0a n0 c1 n2 c3 i4 i5 n6 c7 i8) = some r :=
  lp_of Eglidepathlaw08_CloudPotentials_ok (by kernel_rfl) (lo_cons (lpO_ok Uglidepathlaw08_CloudPotentials) (lo_cons (lpO_ok Uglidepathlaw08_CloudPotentials) lo_nil)) (by kernel_rfl) ((Bglidepathlaw08_CloudPotentials_0a_eq _ _ _ _ _ _ _ _ _ _ _ _ _ _).trans h)
def Bglidepathlaw08_CloudPotentials_1000046a (F : FnT) (_N : Q → Option (Ext × S)) (E : Ext × Q → Option (Ext × S)) (_L0 : Q → Option Yglidepathlaw08_CloudPotentials_0) (_L1000046 : Q → Option Yglidepathlaw08_CloudPotentials_1000046) (n0 : Nat) (c1 : List PV) (i2 : Int) (n3 : Nat) (c4 : List PV) : Option (Ext × S) :=
  bindO (F 11 (RSh.one CK.bool) [(PV.list n0 c1)]) fun (y0 : (Bool)) =>
  bif y0 then
    bif (decide ((n3 : Int) > (28 : Int))) then
      E (Xglidepathlaw08_CloudPotentials_1000046a ())
    else E (Xglidepathlaw08_CloudPotentials_1000046b (n0, c1, i2, n3, c4))
  else E (Xglidepathlaw08_CloudPotentials_1000046a ())
theorem Bglidepathlaw08_CloudPotentials_1000046a_eq (F : FnT) (N : Q → Option (Ext × S)) (E : Ext × Q → Option (Ext × S)) (L0 : Q → Option Yglidepathlaw08_CloudPotentials_0) (L1000046 : Q → Option Yglidepathlaw08_CloudPotentials_1000046) (n0 : Nat) (c1 : List PV) (i2 : Int) (n3 : Nat) (c4 : List PV) : semN (callP F Eglidepathlaw08_CloudPotentials 20) s5 (loopT [⟨0, Yglidepathlaw08_CloudPotentials_0, L0, XLglidepathlaw08_CloudPotentials_0⟩, ⟨1000046, Yglidepathlaw08_CloudPotentials_1000046, L1000046, XLglidepathlaw08_CloudPotentials_1000046⟩]) 400 (blkIn a5.body 1000046) E (Tglidepathlaw08_CloudPotentials_1000046a n0 c1 i2 n3 c4) = Bglidepathlaw08_CloudPotentials_1000046a F N E L0 L1000046 n0 c1 i2 n3 c4 := by kernel_rfl
theorem Rglidepathlaw08_CloudPotentials_1000046a_of  (n0 : Nat) (c1 : List PV) (i2 : Int) (n3 : Nat) (c4 : List PV) {r : Ext × S} (h : Bglidepathlaw08_CloudPotentials_1000046a (Fn env) Rglidepathlaw08_CloudPotentials_1000046 exO Lglidepathlaw08_CloudPotentials_0 Lglidepathlaw08_CloudPotentials_1000046 n0 c1 i2 n3 c4 = some r) : Rglidepathlaw08_CloudPotentials_1000046 (Tglidepathlaw08_CloudPotentials_1000046a n0 c1 i2 n3 c4) = some r :=
  nd_of Eglidepathlaw08_CloudPotentials_ok (by kernel_rfl) (lo_cons (lpO_ok Uglidepathlaw08_CloudPotentials) (lo_cons (lpO_ok Uglidepathlaw08_CloudPotentials) lo_nil)) (by kernel_rfl) ((Bglidepathlaw08_CloudPotentials_1000046a_eq _ Rglidepathlaw08_CloudPotentials_1000046 _ _ _ _ _ _ _ _).trans h)
def tglidepathlaw08_CloudPotentials (F : FnT) (L0 : Q → Option Yglidepathlaw08_CloudPotentials_0) (L1000046 : Q → Option Yglidepathlaw08_CloudPotentials_1000046) (p0n : Nat) (p0c : List PV) (p1 : Int) (p2n : Nat) (p2c : List PV) : Option (Bool) :=
  bindO (F 10 (RSh.one CK.bool) []) fun (y0 : (Bool)) =>
  bif y0 then
    bindO (L1000046 (Tglidepathlaw08_CloudPotentials_1000046a p0n p0c p1 p2n p2c)) fun z =>
    Sum.elim (fun _y1 =>
      some true) (fun y2 =>
      bindO (F 16 (RSh.one CK.list) [(PV.list y2.1 y2.2.1)]) fun (y3 : ((Nat) × (List PV))) =>
      bindO (F 16 (RSh.one CK.list) [(PV.list y2.2.2.2.1 y2.2.2.2.2)]) fun (y4 : ((Nat) × (List PV))) =>
      bindO (F 31 (RSh.tup [(Prod.mk false [(CK.int IntKind.i64)]), (Prod.mk false [(CK.int IntKind.i64)])]) [(PV.list y3.1 y3.2), (PV.int IntKind.i64 y2.2.2.1), (PV.list y4.1 y4.2)]) fun (y5 : ((Int) × (Int))) =>
      bindO (F 12 (RSh.one (CK.int IntKind.i64)) [(PV.list y2.1 y2.2.1)]) fun (y6 : (Int)) =>
      bindO (F 27 (RSh.one (CK.int IntKind.i64)) [(PV.int IntKind.i64 y2.2.2.1)]) fun (y7 : (Int)) =>
      bindO (F 26 (RSh.one (CK.int IntKind.i64)) [(PV.int IntKind.i64 y6), (PV.int IntKind.i64 y7)]) fun (y8 : (Int)) =>
      bif (y8 != (0 : Int)) then
        bif (y5.2 == y8) then
          bif (y5.1 == (0 : Int)) then
            some true
          else some false
        else some false
      else bif ((y2.2.2.2.1 : Int) != (w64 ((y2.1 : Int) + (1 : Int)))) then
        bif (y5.2 == (10 : Int)) then
          bif (y5.1 == (0 : Int)) then
            some true
          else some false
        else some false
      else bindO (F 30 (RSh.one CK.list) [(PV.list y2.1 y2.2.1), (PV.int IntKind.i64 y2.2.2.1)]) fun (y9 : ((Nat) × (List PV))) =>
      bindO (L0 (Tglidepathlaw08_CloudPotentials_0a y2.1 y2.2.1 y2.2.2.2.1 y2.2.2.2.2 y5.1 y5.2 y9.1 y9.2 (0 : Int))) fun z =>
      Sum.elim (fun y10 =>
        some y10) (fun y11 =>
        bif (y11.2.2.2.1 == (0 : Int)) then
          bif (decide (((0 : Int) ≤ (y11.1 : Int)) ∧ ((y11.1 : Int) < (y11.2.2.2.2.1 : Int)))) then
            bindO (intC IntKind.i64 (y11.2.2.2.2.2[((Int.toNat (y11.1 : Int)) * 1)]?)) fun x12 =>
            bif (y11.2.2.1 == x12) then
              some true
            else some false
          else none
        else some false) z) z
  else some false
theorem tglidepathlaw08_CloudPotentials_eq (F : FnT) (L0 : Q → Option Yglidepathlaw08_CloudPotentials_0) (L1000046 : Q → Option Yglidepathlaw08_CloudPotentials_1000046) (p0n : Nat) (p0c : List PV) (p1 : Int) (p2n : Nat) (p2c : List PV) : semF (callP F Eglidepathlaw08_CloudPotentials 20) s5 (loopT [⟨0, Yglidepathlaw08_CloudPotentials_0, L0, XLglidepathlaw08_CloudPotentials_0⟩, ⟨1000046, Yglidepathlaw08_CloudPotentials_1000046, L1000046, XLglidepathlaw08_CloudPotentials_1000046⟩]) 400 a5 [PV.list p0n p0c, PV.int IntKind.i64 p1, PV.list p2n p2c] (fun rv => decR (RSh.one CK.bool) rv.pv) = tglidepathlaw08_CloudPotentials F L0 L1000046 p0n p0c p1 p2n p2c := by kernel_rfl
noncomputable abbrev Fglidepathlaw08_CloudPotentials (args : List PV) := Fn env 5 (RSh.one CK.bool) args
theorem Fglidepathlaw08_CloudPotentials_of  (p0n : Nat) (p0c : List PV) (p1 : Int) (p2n : Nat) (p2c : List PV) {res : (Bool)} (h : tglidepathlaw08_CloudPotentials (Fn env) Lglidepathlaw08_CloudPotentials_0 Lglidepathlaw08_CloudPotentials_1000046 p0n p0c p1 p2n p2c = some res) : Fglidepathlaw08_CloudPotentials [PV.list p0n p0c, PV.int IntKind.i64 p1, PV.list p2n p2c] = some res :=
  fn_of Eglidepathlaw08_CloudPotentials_ok rfl rfl (lo_cons (lpO_ok Uglidepathlaw08_CloudPotentials) (lo_cons (lpO_ok Uglidepathlaw08_CloudPotentials) lo_nil)) ((tglidepathlaw08_CloudPotentials_eq _ _ _ _ _ _ _ _).trans h)

end Gv
