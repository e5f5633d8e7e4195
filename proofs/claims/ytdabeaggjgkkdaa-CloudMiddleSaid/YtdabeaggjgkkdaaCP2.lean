/- What the functions do, round by round: CP2. -/
import Derived.Test.YtdabeaggjgkkdaaCP1
namespace Gv
open Go
set_option maxRecDepth 100000

/-! ### glidepathlaw08_CloudMiddle -/

def Eglidepathlaw08_CloudMiddle : List Entry := [.inl 16 a16 s16, .out 10 (RSh.one CK.bool), .out 38 (RSh.one (CK.int IntKind.i64)), .out 36 (RSh.tup [(Prod.mk false [(CK.int IntKind.i64)]), (Prod.mk false [(CK.int IntKind.i64)])]), .out 14 (RSh.one CK.bool)]
theorem Eglidepathlaw08_CloudMiddle_ok : ∀ e ∈ Eglidepathlaw08_CloudMiddle, EntOK env e := (ent_inl rfl (ent_out (ent_out (ent_out (ent_out ent_nil)))))
def Tglidepathlaw08_CloudMiddle_0a (n0 : Nat) (c1 : List PV) (n2 : Nat) (c3 : List PV) (n4 : Nat) (c5 : List PV) (i6 : Int) (i7 : Int) (i8 : Int) (n9 : Nat) : Q := ⟨(tm 101 [(0, (AV.p (PV.list n0 c1))), (1, (AV.p (PV.list n2 c3))), (5, (AV.app 40 n4 1 c5)), (6, (AV.p (PV.int IntKind.i64 i6))), (7, (AV.p (PV.int IntKind.i64 i7))), (8, (AV.p (PV.int IntKind.i64 i8)))]), (mm 101 [(40, (Bk.buf n9))])⟩
def Xglidepathlaw08_CloudMiddle_0a (y : Nat × List PV × Nat × List PV × Nat × List PV × Int × Int × Nat) : Ext × Q := (Ext.normal, ⟨(tm 101 [(0, (AV.p (PV.list y.1 y.2.1))), (1, (AV.p (PV.list y.2.2.1 y.2.2.2.1))), (5, (AV.app 40 y.2.2.2.2.1 1 y.2.2.2.2.2.1)), (6, (AV.p (PV.int IntKind.i64 y.2.2.2.2.2.2.1))), (7, (AV.p (PV.int IntKind.i64 y.2.2.2.2.2.2.2.1)))]), (mm 101 [(40, (Bk.buf y.2.2.2.2.2.2.2.2))])⟩)
def Iglidepathlaw08_CloudMiddle_0a (q : Ext × S) : Nat × List PV × Nat × List PV × Nat × List PV × Int × Int × Nat := ((pP_list0 (pA_p (avT q.2 0))), (pP_list1 (pA_p (avT q.2 0))), (pP_list0 (pA_p (avT q.2 1))), (pP_list1 (pA_p (avT q.2 1))), (pA_app1 (avT q.2 5)), (pA_app3 (avT q.2 5)), (pP_int1 (pA_p (avT q.2 6))), (pP_int1 (pA_p (avT q.2 7))), (pB_buf0 (avM q.2 40)))
abbrev Yglidepathlaw08_CloudMiddle_0 : Type := Nat × List PV × Nat × List PV × Nat × List PV × Int × Int × Nat
def XLglidepathlaw08_CloudMiddle_0 : XL Yglidepathlaw08_CloudMiddle_0 := .one Xglidepathlaw08_CloudMiddle_0a
def Iglidepathlaw08_CloudMiddle_0 (q : Ext × S) : Yglidepathlaw08_CloudMiddle_0 := (Iglidepathlaw08_CloudMiddle_0a q)
theorem XIglidepathlaw08_CloudMiddle_0a (y : Nat × List PV × Nat × List PV × Nat × List PV × Int × Int × Nat) : Iglidepathlaw08_CloudMiddle_0 (xe (Xglidepathlaw08_CloudMiddle_0a y)) = y := rfl
theorem XIglidepathlaw08_CloudMiddle_0 (y : Yglidepathlaw08_CloudMiddle_0) : Iglidepathlaw08_CloudMiddle_0 (xe (XLglidepathlaw08_CloudMiddle_0.fn y)) = y := XIglidepathlaw08_CloudMiddle_0a y
noncomputable abbrev Lglidepathlaw08_CloudMiddle_0 : Q → Option Yglidepathlaw08_CloudMiddle_0 := lpO env a8.body 0 XLglidepathlaw08_CloudMiddle_0
noncomputable abbrev Rglidepathlaw08_CloudMiddle_0 : Q → Option (Ext × S) := lpR env a8.body 0
theorem Lglidepathlaw08_CloudMiddle_0a_of {s : Q} {y : Nat × List PV × Nat × List PV × Nat × List PV × Int × Int × Nat} (h : Rglidepathlaw08_CloudMiddle_0 s = exO (Xglidepathlaw08_CloudMiddle_0a y)) : Lglidepathlaw08_CloudMiddle_0 s = some y := lpO_of Iglidepathlaw08_CloudMiddle_0 XIglidepathlaw08_CloudMiddle_0 (y := y) h
def Tglidepathlaw08_CloudMiddle_1000036a (n0 : Nat) (c1 : List PV) (n2 : Nat) (c3 : List PV) : Q := ⟨(tm 101 [(0, (AV.p (PV.list n0 c1))), (1, (AV.p (PV.list n2 c3)))]), (mm 101 [])⟩
def Xglidepathlaw08_CloudMiddle_1000036a (y : Unit) : Ext × Q := (Ext.ret, ⟨(tm 101 [(4, (AV.p (PV.bool true)))]), (mm 101 [])⟩)
def Iglidepathlaw08_CloudMiddle_1000036a (q : Ext × S) : Unit := ()
def Xglidepathlaw08_CloudMiddle_1000036b (y : Nat × List PV × Nat × List PV) : Ext × Q := (Ext.normal, ⟨(tm 101 [(0, (AV.p (PV.list y.1 y.2.1))), (1, (AV.p (PV.list y.2.2.1 y.2.2.2)))]), (mm 101 [])⟩)
def Iglidepathlaw08_CloudMiddle_1000036b (q : Ext × S) : Nat × List PV × Nat × List PV := ((pP_list0 (pA_p (avT q.2 0))), (pP_list1 (pA_p (avT q.2 0))), (pP_list0 (pA_p (avT q.2 1))), (pP_list1 (pA_p (avT q.2 1))))
abbrev Yglidepathlaw08_CloudMiddle_1000036 : Type := (Unit) ⊕ ((Nat × List PV × Nat × List PV))
def XLglidepathlaw08_CloudMiddle_1000036 : XL Yglidepathlaw08_CloudMiddle_1000036 := .more Xglidepathlaw08_CloudMiddle_1000036a (.one Xglidepathlaw08_CloudMiddle_1000036b)
def Iglidepathlaw08_CloudMiddle_1000036 (q : Ext × S) : Yglidepathlaw08_CloudMiddle_1000036 := bif (cE q.1 == 2) then (Sum.inl (Iglidepathlaw08_CloudMiddle_1000036a q)) else (Sum.inr (Iglidepathlaw08_CloudMiddle_1000036b q))
theorem XIglidepathlaw08_CloudMiddle_1000036a (y : Unit) : Iglidepathlaw08_CloudMiddle_1000036 (xe (Xglidepathlaw08_CloudMiddle_1000036a y)) = (Sum.inl y) := rfl
theorem XIglidepathlaw08_CloudMiddle_1000036b (y : Nat × List PV × Nat × List PV) : Iglidepathlaw08_CloudMiddle_1000036 (xe (Xglidepathlaw08_CloudMiddle_1000036b y)) = (Sum.inr y) := rfl
theorem XIglidepathlaw08_CloudMiddle_1000036 (y : Yglidepathlaw08_CloudMiddle_1000036) : Iglidepathlaw08_CloudMiddle_1000036 (xe (XLglidepathlaw08_CloudMiddle_1000036.fn y)) = y := (match y with | .inl y => XIglidepathlaw08_CloudMiddle_1000036a y | .inr y => XIglidepathlaw08_CloudMiddle_1000036b y)
noncomputable abbrev Lglidepathlaw08_CloudMiddle_1000036 : Q → Option Yglidepathlaw08_CloudMiddle_1000036 := lpO env a8.body 1000036 XLglidepathlaw08_CloudMiddle_1000036
noncomputable abbrev Rglidepathlaw08_CloudMiddle_1000036 : Q → Option (Ext × S) := lpR env a8.body 1000036
theorem Lglidepathlaw08_CloudMiddle_1000036a_of {s : Q} {y : Unit} (h : Rglidepathlaw08_CloudMiddle_1000036 s = exO (Xglidepathlaw08_CloudMiddle_1000036a y)) : Lglidepathlaw08_CloudMiddle_1000036 s = some (Sum.inl y) := lpO_of Iglidepathlaw08_CloudMiddle_1000036 XIglidepathlaw08_CloudMiddle_1000036 (y := (Sum.inl y)) h
theorem Lglidepathlaw08_CloudMiddle_1000036b_of {s : Q} {y : Nat × List PV × Nat × List PV} (h : Rglidepathlaw08_CloudMiddle_1000036 s = exO (Xglidepathlaw08_CloudMiddle_1000036b y)) : Lglidepathlaw08_CloudMiddle_1000036 s = some (Sum.inr y) := lpO_of Iglidepathlaw08_CloudMiddle_1000036 XIglidepathlaw08_CloudMiddle_1000036 (y := (Sum.inr y)) h
theorem Uglidepathlaw08_CloudMiddle : uniq ((blocksOf a8.body).map (·.1)) = true := by kernel_rfl
def Bglidepathlaw08_CloudMiddle_0a (F : FnT) (N : Q → Option (Ext × S)) (E : Ext × Q → Option (Ext × S)) (L0 : Q → Option Yglidepathlaw08_CloudMiddle_0) (L1000036 : Q → Option Yglidepathlaw08_CloudMiddle_1000036) (n0 : Nat) (c1 : List PV) (n2 : Nat) (c3 : List PV) (n4 : Nat) (c5 : List PV) (i6 : Int) (i7 : Int) (i8 : Int) (n9 : Nat) : Option (Ext × S) :=
  bif (decide (i8 < (n0 : Int))) then
    bif (decide (((0 : Int) ≤ i8) ∧ (i8 < (n0 : Int)))) then
      bindO (intC IntKind.i64 (c1[((Int.toNat i8) * 1)]?)) fun x0 =>
      bif (decide (((0 : Int) ≤ i8) ∧ (i8 < (n0 : Int)))) then
        bindO (intC IntKind.i64 (c1[((Int.toNat i8) * 1)]?)) fun x1 =>
        N (Tglidepathlaw08_CloudMiddle_0a n0 c1 n2 c3 n4 c5 (if (x0 < i6) then x0 else i6) (if (x1 > i7) then x1 else i7) (w64 (i8 + (1 : Int))) n9)
      else none
    else none
  else E (Xglidepathlaw08_CloudMiddle_0a (n0, c1, n2, c3, n4, c5, i6, i7, n9))
theorem Bglidepathlaw08_CloudMiddle_0a_eq (F : FnT) (N : Q → Option (Ext × S)) (E : Ext × Q → Option (Ext × S)) (L0 : Q → Option Yglidepathlaw08_CloudMiddle_0) (L1000036 : Q → Option Yglidepathlaw08_CloudMiddle_1000036) (n0 : Nat) (c1 : List PV) (n2 : Nat) (c3 : List PV) (n4 : Nat) (c5 : List PV) (i6 : Int) (i7 : Int) (i8 : Int) (n9 : Nat) : semB (callP F Eglidepathlaw08_CloudMiddle 20) s8 (loopT [⟨0, Yglidepathlaw08_CloudMiddle_0, L0, XLglidepathlaw08_CloudMiddle_0⟩, ⟨1000036, Yglidepathlaw08_CloudMiddle_1000036, L1000036, XLglidepathlaw08_CloudMiddle_1000036⟩]) 400 (blkIn a8.body 0) N E (Tglidepathlaw08_CloudMiddle_0a n0 c1 n2 c3 n4 c5 i6 i7 i8 n9) = Bglidepathlaw08_CloudMiddle_0a F N E L0 L1000036 n0 c1 n2 c3 n4 c5 i6 i7 i8 n9 := by kernel_rfl
theorem Rglidepathlaw08_CloudMiddle_0a_of  (n0 : Nat) (c1 : List PV) (n2 : Nat) (c3 : List PV) (n4 : Nat) (c5 : List PV) (i6 : Int) (i7 : Int) (i8 : Int) (n9 : Nat) {r : Ext × S} (h : Bglidepathlaw08_CloudMiddle_0a (Fn env) Rglidepathlaw08_CloudMiddle_0 exO Lglidepathlaw08_CloudMiddle_0 Lglidepathlaw08_CloudMiddle_1000036 n0 c1 n2 c3 n4 c5 i6 i7 i8 n9 = some r) : Rglidepathlaw08_CloudMiddle_0 (Tglidepathlaw08_CloudMiddle_0a n0 c1 n2 c3 n4 c5 i6 i7 i8 n9) = some r :=
  lp_of Eglidepathlaw08_CloudMiddle_ok (by kernel_rfl) (lo_cons (lpO_ok Uglidepathlaw08_CloudMiddle) (lo_cons (lpO_ok Uglidepathlaw08_CloudMiddle) lo_nil)) (by kernel_rfl) ((Bglidepathlaw08_CloudMiddle_0a_eq _ _ _ _ _ _ _ _ _ _ _ _ _ _ _).trans h)
def Bglidepathlaw08_CloudMiddle_1000036a (F : FnT) (N : Q → Option (Ext × S)) (E : Ext × Q → Option (Ext × S)) (L0 : Q → Option Yglidepathlaw08_CloudMiddle_0) (L1000036 : Q → Option Yglidepathlaw08_CloudMiddle_1000036) (n0 : Nat) (c1 : List PV) (n2 : Nat) (c3 : List PV) : Option (Ext × S) :=
  bif ((n0 : Int) == (0 : Int)) then
    E (Xglidepathlaw08_CloudMiddle_1000036a ())
  else bif (decide ((n0 : Int) > (7 : Int))) then
    E (Xglidepathlaw08_CloudMiddle_1000036a ())
  else bif (decide ((n2 : Int) ≥ (n0 : Int))) then
    E (Xglidepathlaw08_CloudMiddle_1000036a ())
  else bif ((Int.tmod (w64 ((n0 : Int) + (n2 : Int))) (2 : Int)) == (0 : Int)) then
    E (Xglidepathlaw08_CloudMiddle_1000036a ())
  else E (Xglidepathlaw08_CloudMiddle_1000036b (n0, c1, n2, c3))
theorem Bglidepathlaw08_CloudMiddle_1000036a_eq (F : FnT) (N : Q → Option (Ext × S)) (E : Ext × Q → Option (Ext × S)) (L0 : Q → Option Yglidepathlaw08_CloudMiddle_0) (L1000036 : Q → Option Yglidepathlaw08_CloudMiddle_1000036) (n0 : Nat) (c1 : List PV) (n2 : Nat) (c3 : List PV) : semN (callP F Eglidepathlaw08_CloudMiddle 20) s8 (loopT [⟨0, Yglidepathlaw08_CloudMiddle_0, L0, XLglidepathlaw08_CloudMiddle_0⟩, ⟨1000036, Yglidepathlaw08_CloudMiddle_1000036, L1000036, XLglidepathlaw08_CloudMiddle_1000036⟩]) 400 (blkIn a8.body 1000036) E (Tglidepathlaw08_CloudMiddle_1000036a n0 c1 n2 c3) = Bglidepathlaw08_CloudMiddle_1000036a F N E L0 L1000036 n0 c1 n2 c3 := by kernel_rfl
theorem Rglidepathlaw08_CloudMiddle_1000036a_of  (n0 : Nat) (c1 : List PV) (n2 : Nat) (c3 : List PV) {r : Ext × S} (h : Bglidepathlaw08_CloudMiddle_1000036a (Fn env) Rglidepathlaw08_CloudMiddle_1000036 exO Lglidepathlaw08_CloudMiddle_0 Lglidepathlaw08_CloudMiddle_1000036 n0 c1 n2 c3 = some r) : Rglidepathlaw08_CloudMiddle_1000036 (Tglidepathlaw08_CloudMiddle_1000036a n0 c1 n2 c3) = some r :=
  nd_of Eglidepathlaw08_CloudMiddle_ok (by kernel_rfl) (lo_cons (lpO_ok Uglidepathlaw08_CloudMiddle) (lo_cons (lpO_ok Uglidepathlaw08_CloudMiddle) lo_nil)) (by kernel_rfl) ((Bglidepathlaw08_CloudMiddle_1000036a_eq _ Rglidepathlaw08_CloudMiddle_1000036 _ _ _ _ _ _ _).trans h)
def tglidepathlaw08_CloudMiddle (F : FnT) (L0 : Q → Option Yglidepathlaw08_CloudMiddle_0) (L1000036 : Q → Option Yglidepathlaw08_CloudMiddle_1000036) (p0n : Nat) (p0c : List PV) (p1n : Nat) (p1c : List PV) : Option (Bool) :=
  bindO (F 10 (RSh.one CK.bool) []) fun (y0 : (Bool)) =>
  bif y0 then
    bindO (L1000036 (Tglidepathlaw08_CloudMiddle_1000036a p0n p0c p1n p1c)) fun z =>
    Sum.elim (fun y1 =>
      some true) (fun y2 =>
      bif (decide (y2.2.2.1 = 0)) then
        bif (decide (y2.1 = 0)) then
          bindO (F 38 (RSh.one (CK.int IntKind.i64)) [(PV.list 0 [])]) fun (y3 : (Int)) =>
          bif (y3 != (0 : Int)) then
            some true
          else bif (decide (((0 : Int) ≤ (0 : Int)) ∧ ((0 : Int) < (y2.1 : Int)))) then
            bindO (intC IntKind.i64 (y2.2.1[0]?)) fun x4 =>
            bif (decide (((0 : Int) ≤ (0 : Int)) ∧ ((0 : Int) < (y2.1 : Int)))) then
              bindO (intC IntKind.i64 (y2.2.1[0]?)) fun x5 =>
              bindO (L0 (Tglidepathlaw08_CloudMiddle_0a y2.1 y2.2.1 y2.2.2.1 y2.2.2.2 0 [] x4 x5 (1 : Int) 0)) fun y6 =>
              bif (decide (y6.2.2.2.2.1 = 0)) then
                bindO (F 36 (RSh.tup [(Prod.mk false [(CK.int IntKind.i64)]), (Prod.mk false [(CK.int IntKind.i64)])]) [(PV.list 0 [])]) fun (y7 : ((Int) × (Int))) =>
                bif (decide (y6.1 = 0)) then
                  bif (decide (y6.2.2.1 = 0)) then
                    bindO (F 36 (RSh.tup [(Prod.mk false [(CK.int IntKind.i64)]), (Prod.mk false [(CK.int IntKind.i64)])]) [(PV.list 0 [])]) fun (y8 : ((Int) × (Int))) =>
                    bif (y7.2 == (0 : Int)) then
                      bindO (F 14 (RSh.one CK.bool) [(PV.int IntKind.i64 y7.1), (PV.int IntKind.i64 y6.2.2.2.2.2.2.1), (PV.int IntKind.i64 y6.2.2.2.2.2.2.2.1)]) fun (y9 : (Bool)) =>
                      bif y9 then
                        bif (y8.2 == (0 : Int)) then
                          bif (y8.1 == y7.1) then
                            some true
                          else some false
                        else some false
                      else some false
                    else some false
                  else bif (decide ((List.length y6.2.2.2.1) = (y6.2.2.1 * 1))) then
                    bif (decide ((0 = 0) ∧ ((0 + y6.2.2.1) ≤ big))) then
                      bindO (F 36 (RSh.tup [(Prod.mk false [(CK.int IntKind.i64)]), (Prod.mk false [(CK.int IntKind.i64)])]) [(PV.list (0 + y6.2.2.1) ([] ++ y6.2.2.2.1))]) fun (y10 : ((Int) × (Int))) =>
                      bif (y7.2 == (0 : Int)) then
                        bindO (F 14 (RSh.one CK.bool) [(PV.int IntKind.i64 y7.1), (PV.int IntKind.i64 y6.2.2.2.2.2.2.1), (PV.int IntKind.i64 y6.2.2.2.2.2.2.2.1)]) fun (y11 : (Bool)) =>
                        bif y11 then
                          bif (y10.2 == (0 : Int)) then
                            bif (y10.1 == y7.1) then
                              some true
                            else some false
                          else some false
                        else some false
                      else some false
                    else none
                  else none
                else bif (decide ((List.length y6.2.1) = (y6.1 * 1))) then
                  bif (decide ((0 = 0) ∧ ((0 + y6.1) ≤ big))) then
                    bif (decide ((0 + y6.1) = (0 + y6.1))) then
                      bif (decide (y6.2.2.1 = 0)) then
                        bindO (F 36 (RSh.tup [(Prod.mk false [(CK.int IntKind.i64)]), (Prod.mk false [(CK.int IntKind.i64)])]) [(PV.list (0 + y6.1) ([] ++ y6.2.1))]) fun (y12 : ((Int) × (Int))) =>
                        bif (y7.2 == (0 : Int)) then
                          bindO (F 14 (RSh.one CK.bool) [(PV.int IntKind.i64 y7.1), (PV.int IntKind.i64 y6.2.2.2.2.2.2.1), (PV.int IntKind.i64 y6.2.2.2.2.2.2.2.1)]) fun (y13 : (Bool)) =>
                          bif y13 then
                            bif (y12.2 == (0 : Int)) then
                              bif (y12.1 == y7.1) then
                                some true
                              else some false
                            else some false
                          else some false
                        else some false
                      else bif (decide ((List.length y6.2.2.2.1) = (y6.2.2.1 * 1))) then
                        bif (decide (((0 + y6.1) = (0 + y6.1)) ∧ (((0 + y6.1) + y6.2.2.1) ≤ big))) then
                          bindO (F 36 (RSh.tup [(Prod.mk false [(CK.int IntKind.i64)]), (Prod.mk false [(CK.int IntKind.i64)])]) [(PV.list ((0 + y6.1) + y6.2.2.1) (([] ++ y6.2.1) ++ y6.2.2.2.1))]) fun (y14 : ((Int) × (Int))) =>
                          bif (y7.2 == (0 : Int)) then
                            bindO (F 14 (RSh.one CK.bool) [(PV.int IntKind.i64 y7.1), (PV.int IntKind.i64 y6.2.2.2.2.2.2.1), (PV.int IntKind.i64 y6.2.2.2.2.2.2.2.1)]) fun (y15 : (Bool)) =>
                            bif y15 then
                              bif (y14.2 == (0 : Int)) then
                                bif (y14.1 == y7.1) then
                                  some true
                                else some false
                              else some false
                            else some false
                          else some false
                        else none
                      else none
                    else none
                  else none
                else none
              else bif (decide ((List.length y6.2.2.2.2.2.1) = (y6.2.2.2.2.1 * 1))) then
                bif (decide ((0 = 0) ∧ ((0 + y6.2.2.2.2.1) ≤ big))) then
                  bif (decide ((0 + y6.2.2.2.2.1) = (0 + y6.2.2.2.2.1))) then
                    bindO (F 36 (RSh.tup [(Prod.mk false [(CK.int IntKind.i64)]), (Prod.mk false [(CK.int IntKind.i64)])]) [(PV.list (0 + y6.2.2.2.2.1) ([] ++ y6.2.2.2.2.2.1))]) fun (y16 : ((Int) × (Int))) =>
                    bif (decide (y6.1 = 0)) then
                      bif (decide (y6.2.2.1 = 0)) then
                        bindO (F 36 (RSh.tup [(Prod.mk false [(CK.int IntKind.i64)]), (Prod.mk false [(CK.int IntKind.i64)])]) [(PV.list 0 [])]) fun (y17 : ((Int) × (Int))) =>
                        bif (y16.2 == (0 : Int)) then
                          bindO (F 14 (RSh.one CK.bool) [(PV.int IntKind.i64 y16.1), (PV.int IntKind.i64 y6.2.2.2.2.2.2.1), (PV.int IntKind.i64 y6.2.2.2.2.2.2.2.1)]) fun (y18 : (Bool)) =>
                          bif y18 then
                            bif (y17.2 == (0 : Int)) then
                              bif (y17.1 == y16.1) then
                                some true
                              else some false
                            else some false
                          else some false
                        else some false
                      else bif (decide ((List.length y6.2.2.2.1) = (y6.2.2.1 * 1))) then
                        bif (decide ((0 = 0) ∧ ((0 + y6.2.2.1) ≤ big))) then
                          bindO (F 36 (RSh.tup [(Prod.mk false [(CK.int IntKind.i64)]), (Prod.mk false [(CK.int IntKind.i64)])]) [(PV.list (0 + y6.2.2.1) ([] ++ y6.2.2.2.1))]) fun (y19 : ((Int) × (Int))) =>
                          bif (y16.2 == (0 : Int)) then
                            bindO (F 14 (RSh.one CK.bool) [(PV.int IntKind.i64 y16.1), (PV.int IntKind.i64 y6.2.2.2.2.2.2.1), (PV.int IntKind.i64 y6.2.2.2.2.2.2.2.1)]) fun (y20 : (Bool)) =>
                            bif y20 then
                              bif (y19.2 == (0 : Int)) then
                                bif (y19.1 == y16.1) then
                                  some true
                                else some false
                              else some false
                            else some false
                          else some false
                        else none
                      else none
                    else bif (decide ((List.length y6.2.1) = (y6.1 * 1))) then
                      bif (decide ((0 = 0) ∧ ((0 + y6.1) ≤ big))) then
                        bif (decide ((0 + y6.1) = (0 + y6.1))) then
                          bif (decide (y6.2.2.1 = 0)) then
                            bindO (F 36 (RSh.tup [(Prod.mk false [(CK.int IntKind.i64)]), (Prod.mk false [(CK.int IntKind.i64)])]) [(PV.list (0 + y6.1) ([] ++ y6.2.1))]) fun (y21 : ((Int) × (Int))) =>
                            bif (y16.2 == (0 : Int)) then
                              bindO (F 14 (RSh.one CK.bool) [(PV.int IntKind.i64 y16.1), (PV.int IntKind.i64 y6.2.2.2.2.2.2.1), (PV.int IntKind.i64 y6.2.2.2.2.2.2.2.1)]) fun (y22 : (Bool)) =>
                              bif y22 then
                                bif (y21.2 == (0 : Int)) then
                                  bif (y21.1 == y16.1) then
                                    some true
                                  else some false
                                else some false
                              else some false
                            else some false
                          else bif (decide ((List.length y6.2.2.2.1) = (y6.2.2.1 * 1))) then
                            bif (decide (((0 + y6.1) = (0 + y6.1)) ∧ (((0 + y6.1) + y6.2.2.1) ≤ big))) then
                              bindO (F 36 (RSh.tup [(Prod.mk false [(CK.int IntKind.i64)]), (Prod.mk false [(CK.int IntKind.i64)])]) [(PV.list ((0 + y6.1) + y6.2.2.1) (([] ++ y6.2.1) ++ y6.2.2.2.1))]) fun (y23 : ((Int) × (Int))) =>
                              bif (y16.2 == (0 : Int)) then
                                bindO (F 14 (RSh.one CK.bool) [(PV.int IntKind.i64 y16.1), (PV.int IntKind.i64 y6.2.2.2.2.2.2.1), (PV.int IntKind.i64 y6.2.2.2.2.2.2.2.1)]) fun (y24 : (Bool)) =>
                                bif y24 then
                                  bif (y23.2 == (0 : Int)) then
                                    bif (y23.1 == y16.1) then
                                      some true
                                    else some false
                                  else some false
                                else some false
                              else some false
                            else none
                          else none
                        else none
                      else none
                    else none
                  else none
                else none
              else none
            else none
          else none
        else bif (decide ((List.length y2.2.1) = (y2.1 * 1))) then
          bif (decide ((0 = 0) ∧ ((0 + y2.1) ≤ big))) then
            bindO (F 38 (RSh.one (CK.int IntKind.i64)) [(PV.list (0 + y2.1) ([] ++ y2.2.1))]) fun (y25 : (Int)) =>
            bif (y25 != (0 : Int)) then
              some true
            else bif (decide (((0 : Int) ≤ (0 : Int)) ∧ ((0 : Int) < (y2.1 : Int)))) then
              bindO (intC IntKind.i64 (y2.2.1[0]?)) fun x26 =>
              bif (decide (((0 : Int) ≤ (0 : Int)) ∧ ((0 : Int) < (y2.1 : Int)))) then
                bindO (intC IntKind.i64 (y2.2.1[0]?)) fun x27 =>
                bindO (L0 (Tglidepathlaw08_CloudMiddle_0a y2.1 y2.2.1 y2.2.2.1 y2.2.2.2 (0 + y2.1) ([] ++ y2.2.1) x26 x27 (1 : Int) (0 + y2.1))) fun y28 =>
                bif (decide (y28.2.2.2.2.1 = 0)) then
                  bindO (F 36 (RSh.tup [(Prod.mk false [(CK.int IntKind.i64)]), (Prod.mk false [(CK.int IntKind.i64)])]) [(PV.list 0 [])]) fun (y29 : ((Int) × (Int))) =>
                  bif (decide (y28.1 = 0)) then
                    bif (decide (y28.2.2.1 = 0)) then
                      bindO (F 36 (RSh.tup [(Prod.mk false [(CK.int IntKind.i64)]), (Prod.mk false [(CK.int IntKind.i64)])]) [(PV.list 0 [])]) fun (y30 : ((Int) × (Int))) =>
                      bif (y29.2 == (0 : Int)) then
                        bindO (F 14 (RSh.one CK.bool) [(PV.int IntKind.i64 y29.1), (PV.int IntKind.i64 y28.2.2.2.2.2.2.1), (PV.int IntKind.i64 y28.2.2.2.2.2.2.2.1)]) fun (y31 : (Bool)) =>
                        bif y31 then
                          bif (y30.2 == (0 : Int)) then
                            bif (y30.1 == y29.1) then
                              some true
                            else some false
                          else some false
                        else some false
                      else some false
                    else bif (decide ((List.length y28.2.2.2.1) = (y28.2.2.1 * 1))) then
                      bif (decide ((0 = 0) ∧ ((0 + y28.2.2.1) ≤ big))) then
                        bindO (F 36 (RSh.tup [(Prod.mk false [(CK.int IntKind.i64)]), (Prod.mk false [(CK.int IntKind.i64)])]) [(PV.list (0 + y28.2.2.1) ([] ++ y28.2.2.2.1))]) fun (y32 : ((Int) × (Int))) =>
                        bif (y29.2 == (0 : Int)) then
                          bindO (F 14 (RSh.one CK.bool) [(PV.int IntKind.i64 y29.1), (PV.int IntKind.i64 y28.2.2.2.2.2.2.1), (PV.int IntKind.i64 y28.2.2.2.2.2.2.2.1)]) fun (y33 : (Bool)) =>
                          bif y33 then
                            bif (y32.2 == (0 : Int)) then
                              bif (y32.1 == y29.1) then
                                some true
                              else some false
                            else some false
                          else some false
                        else some false
                      else none
                    else none
                  else bif (decide ((List.length y28.2.1) = (y28.1 * 1))) then
                    bif (decide ((0 = 0) ∧ ((0 + y28.1) ≤ big))) then
                      bif (decide ((0 + y28.1) = (0 + y28.1))) then
                        bif (decide (y28.2.2.1 = 0)) then
                          bindO (F 36 (RSh.tup [(Prod.mk false [(CK.int IntKind.i64)]), (Prod.mk false [(CK.int IntKind.i64)])]) [(PV.list (0 + y28.1) ([] ++ y28.2.1))]) fun (y34 : ((Int) × (Int))) =>
                          bif (y29.2 == (0 : Int)) then
                            bindO (F 14 (RSh.one CK.bool) [(PV.int IntKind.i64 y29.1), (PV.int IntKind.i64 y28.2.2.2.2.2.2.1), (PV.int IntKind.i64 y28.2.2.2.2.2.2.2.1)]) fun (y35 : (Bool)) =>
                            bif y35 then
                              bif (y34.2 == (0 : Int)) then
                                bif (y34.1 == y29.1) then
                                  some true
                                else some false
                              else some false
                            else some false
                          else some false
                        else bif (decide ((List.length y28.2.2.2.1) = (y28.2.2.1 * 1))) then
                          bif (decide (((0 + y28.1) = (0 + y28.1)) ∧ (((0 + y28.1) + y28.2.2.1) ≤ big))) then
                            bindO (F 36 (RSh.tup [(Prod.mk false [(CK.int IntKind.i64)]), (Prod.mk false [(CK.int IntKind.i64)])]) [(PV.list ((0 + y28.1) + y28.2.2.1) (([] ++ y28.2.1) ++ y28.2.2.2.1))]) fun (y36 : ((Int) × (Int))) =>
                            bif (y29.2 == (0 : Int)) then
                              bindO (F 14 (RSh.one CK.bool) [(PV.int IntKind.i64 y29.1), (PV.int IntKind.i64 y28.2.2.2.2.2.2.1), (PV.int IntKind.i64 y28.2.2.2.2.2.2.2.1)]) fun (y37 : (Bool)) =>
                              bif y37 then
                                bif (y36.2 == (0 : Int)) then
                                  bif (y36.1 == y29.1) then
                                    some true
                                  else some false
                                else some false
                              else some false
                            else some false
                          else none
                        else none
                      else none
                    else none
                  else none
                else bif (decide ((List.length y28.2.2.2.2.2.1) = (y28.2.2.2.2.1 * 1))) then
                  bif (decide ((0 = 0) ∧ ((0 + y28.2.2.2.2.1) ≤ big))) then
                    bif (decide ((0 + y28.2.2.2.2.1) = (0 + y28.2.2.2.2.1))) then
                      bindO (F 36 (RSh.tup [(Prod.mk false [(CK.int IntKind.i64)]), (Prod.mk false [(CK.int IntKind.i64)])]) [(PV.list (0 + y28.2.2.2.2.1) ([] ++ y28.2.2.2.2.2.1))]) fun (y38 : ((Int) × (Int))) =>
                      bif (decide (y28.1 = 0)) then
                        bif (decide (y28.2.2.1 = 0)) then
                          bindO (F 36 (RSh.tup [(Prod.mk false [(CK.int IntKind.i64)]), (Prod.mk false [(CK.int IntKind.i64)])]) [(PV.list 0 [])]) fun (y39 : ((Int) × (Int))) =>
                          bif (y38.2 == (0 : Int)) then
                            bindO (F 14 (RSh.one CK.bool) [(PV.int IntKind.i64 y38.1), (PV.int IntKind.i64 y28.2.2.2.2.2.2.1), (PV.int IntKind.i64 y28.2.2.2.2.2.2.2.1)]) fun (y40 : (Bool)) =>
                            bif y40 then
                              bif (y39.2 == (0 : Int)) then
                                bif (y39.1 == y38.1) then
                                  some true
                                else some false
                              else some false
                            else some false
                          else some false
                        else bif (decide ((List.length y28.2.2.2.1) = (y28.2.2.1 * 1))) then
                          bif (decide ((0 = 0) ∧ ((0 + y28.2.2.1) ≤ big))) then
                            bindO (F 36 (RSh.tup [(Prod.mk false [(CK.int IntKind.i64)]), (Prod.mk false [(CK.int IntKind.i64)])]) [(PV.list (0 + y28.2.2.1) ([] ++ y28.2.2.2.1))]) fun (y41 : ((Int) × (Int))) =>
                            bif (y38.2 == (0 : Int)) then
                              bindO (F 14 (RSh.one CK.bool) [(PV.int IntKind.i64 y38.1), (PV.int IntKind.i64 y28.2.2.2.2.2.2.1), (PV.int IntKind.i64 y28.2.2.2.2.2.2.2.1)]) fun (y42 : (Bool)) =>
                              bif y42 then
                                bif (y41.2 == (0 : Int)) then
                                  bif (y41.1 == y38.1) then
                                    some true
                                  else some false
                                else some false
                              else some false
                            else some false
                          else none
                        else none
                      else bif (decide ((List.length y28.2.1) = (y28.1 * 1))) then
                        bif (decide ((0 = 0) ∧ ((0 + y28.1) ≤ big))) then
                          bif (decide ((0 + y28.1) = (0 + y28.1))) then
                            bif (decide (y28.2.2.1 = 0)) then
                              bindO (F 36 (RSh.tup [(Prod.mk false [(CK.int IntKind.i64)]), (Prod.mk false [(CK.int IntKind.i64)])]) [(PV.list (0 + y28.1) ([] ++ y28.2.1))]) fun (y43 : ((Int) × (Int))) =>
                              bif (y38.2 == (0 : Int)) then
                                bindO (F 14 (RSh.one CK.bool) [(PV.int IntKind.i64 y38.1), (PV.int IntKind.i64 y28.2.2.2.2.2.2.1), (PV.int IntKind.i64 y28.2.2.2.2.2.2.2.1)]) fun (y44 : (Bool)) =>
                                bif y44 then
                                  bif (y43.2 == (0 : Int)) then
                                    bif (y43.1 == y38.1) then
                                      some true
                                    else some false
                                  else some false
                                else some false
                              else some false
                            else bif (decide ((List.length y28.2.2.2.1) = (y28.2.2.1 * 1))) then
                              bif (decide (((0 + y28.1) = (0 + y28.1)) ∧ (((0 + y28.1) + y28.2.2.1) ≤ big))) then
                                bindO (F 36 (RSh.tup [(Prod.mk false [(CK.int IntKind.i64)]), (Prod.mk false [(CK.int IntKind.i64)])]) [(PV.list ((0 + y28.1) + y28.2.2.1) (([] ++ y28.2.1) ++ y28.2.2.2.1))]) fun (y45 : ((Int) × (Int))) =>
                                bif (y38.2 == (0 : Int)) then
                                  bindO (F 14 (RSh.one CK.bool) [(PV.int IntKind.i64 y38.1), (PV.int IntKind.i64 y28.2.2.2.2.2.2.1), (PV.int IntKind.i64 y28.2.2.2.2.2.2.2.1)]) fun (y46 : (Bool)) =>
                                  bif y46 then
                                    bif (y45.2 == (0 : Int)) then
                                      bif (y45.1 == y38.1) then
                                        some true
                                      else some false
                                    else some false
                                  else some false
                                else some false
                              else none
                            else none
                          else none
                        else none
                      else none
                    else none
                  else none
                else none
              else none
            else none
          else none
        else none
      else bif (decide ((List.length y2.2.2.2) = (y2.2.2.1 * 1))) then
        bif (decide ((0 = 0) ∧ ((0 + y2.2.2.1) ≤ big))) then
          bif (decide ((0 + y2.2.2.1) = (0 + y2.2.2.1))) then
            bif (decide (y2.1 = 0)) then
              bindO (F 38 (RSh.one (CK.int IntKind.i64)) [(PV.list (0 + y2.2.2.1) ([] ++ y2.2.2.2))]) fun (y47 : (Int)) =>
              bif (y47 != (0 : Int)) then
                some true
              else bif (decide (((0 : Int) ≤ (0 : Int)) ∧ ((0 : Int) < (y2.1 : Int)))) then
                bindO (intC IntKind.i64 (y2.2.1[0]?)) fun x48 =>
                bif (decide (((0 : Int) ≤ (0 : Int)) ∧ ((0 : Int) < (y2.1 : Int)))) then
                  bindO (intC IntKind.i64 (y2.2.1[0]?)) fun x49 =>
                  bindO (L0 (Tglidepathlaw08_CloudMiddle_0a y2.1 y2.2.1 y2.2.2.1 y2.2.2.2 (0 + y2.2.2.1) ([] ++ y2.2.2.2) x48 x49 (1 : Int) (0 + y2.2.2.1))) fun y50 =>
                  bif (decide (y50.2.2.2.2.1 = 0)) then
                    bindO (F 36 (RSh.tup [(Prod.mk false [(CK.int IntKind.i64)]), (Prod.mk false [(CK.int IntKind.i64)])]) [(PV.list 0 [])]) fun (y51 : ((Int) × (Int))) =>
                    bif (decide (y50.1 = 0)) then
                      bif (decide (y50.2.2.1 = 0)) then
                        bindO (F 36 (RSh.tup [(Prod.mk false [(CK.int IntKind.i64)]), (Prod.mk false [(CK.int IntKind.i64)])]) [(PV.list 0 [])]) fun (y52 : ((Int) × (Int))) =>
                        bif (y51.2 == (0 : Int)) then
                          bindO (F 14 (RSh.one CK.bool) [(PV.int IntKind.i64 y51.1), (PV.int IntKind.i64 y50.2.2.2.2.2.2.1), (PV.int IntKind.i64 y50.2.2.2.2.2.2.2.1)]) fun (y53 : (Bool)) =>
                          bif y53 then
                            bif (y52.2 == (0 : Int)) then
                              bif (y52.1 == y51.1) then
                                some true
                              else some false
                            else some false
                          else some false
                        else some false
                      else bif (decide ((List.length y50.2.2.2.1) = (y50.2.2.1 * 1))) then
                        bif (decide ((0 = 0) ∧ ((0 + y50.2.2.1) ≤ big))) then
                          bindO (F 36 (RSh.tup [(Prod.mk false [(CK.int IntKind.i64)]), (Prod.mk false [(CK.int IntKind.i64)])]) [(PV.list (0 + y50.2.2.1) ([] ++ y50.2.2.2.1))]) fun (y54 : ((Int) × (Int))) =>
                          bif (y51.2 == (0 : Int)) then
                            bindO (F 14 (RSh.one CK.bool) [(PV.int IntKind.i64 y51.1), (PV.int IntKind.i64 y50.2.2.2.2.2.2.1), (PV.int IntKind.i64 y50.2.2.2.2.2.2.2.1)]) fun (y55 : (Bool)) =>
                            bif y55 then
                              bif (y54.2 == (0 : Int)) then
                                bif (y54.1 == y51.1) then
                                  some true
                                else some false
                              else some false
                            else some false
                          else some false
                        else none
                      else none
                    else bif (decide ((List.length y50.2.1) = (y50.1 * 1))) then
                      bif (decide ((0 = 0) ∧ ((0 + y50.1) ≤ big))) then
                        bif (decide ((0 + y50.1) = (0 + y50.1))) then
                          bif (decide (y50.2.2.1 = 0)) then
                            bindO (F 36 (RSh.tup [(Prod.mk false [(CK.int IntKind.i64)]), (Prod.mk false [(CK.int IntKind.i64)])]) [(PV.list (0 + y50.1) ([] ++ y50.2.1))]) fun (y56 : ((Int) × (Int))) =>
                            bif (y51.2 == (0 : Int)) then
                              bindO (F 14 (RSh.one CK.bool) [(PV.int IntKind.i64 y51.1), (PV.int IntKind.i64 y50.2.2.2.2.2.2.1), (PV.int IntKind.i64 y50.2.2.2.2.2.2.2.1)]) fun (y57 : (Bool)) =>
                              bif y57 then
                                bif (y56.2 == (0 : Int)) then
                                  bif (y56.1 == y51.1) then
                                    some true
                                  else some false
                                else some false
                              else some false
                            else some false
                          else bif (decide ((List.length y50.2.2.2.1) = (y50.2.2.1 * 1))) then
                            bif (decide (((0 + y50.1) = (0 + y50.1)) ∧ (((0 + y50.1) + y50.2.2.1) ≤ big))) then
                              bindO (F 36 (RSh.tup [(Prod.mk false [(CK.int IntKind.i64)]), (Prod.mk false [(CK.int IntKind.i64)])]) [(PV.list ((0 + y50.1) + y50.2.2.1) (([] ++ y50.2.1) ++ y50.2.2.2.1))]) fun (y58 : ((Int) × (Int))) =>
                              bif (y51.2 == (0 : Int)) then
                                bindO (F 14 (RSh.one CK.bool) [(PV.int IntKind.i64 y51.1), (PV.int IntKind.i64 y50.2.2.2.2.2.2.1), (PV.int IntKind.i64 y50.2.2.2.2.2.2.2.1)]) fun (y59 : (Bool)) =>
                                bif y59 then
                                  bif (y58.2 == (0 : Int)) then
                                    bif (y58.1 == y51.1) then
                                      some true
                                    else some false
                                  else some false
                                else some false
                              else some false
                            else none
                          else none
                        else none
                      else none
                    else none
                  else bif (decide ((List.length y50.2.2.2.2.2.1) = (y50.2.2.2.2.1 * 1))) then
                    bif (decide ((0 = 0) ∧ ((0 + y50.2.2.2.2.1) ≤ big))) then
                      bif (decide ((0 + y50.2.2.2.2.1) = (0 + y50.2.2.2.2.1))) then
                        bindO (F 36 (RSh.tup [(Prod.mk false [(CK.int IntKind.i64)]), (Prod.mk false [(CK.int IntKind.i64)])]) [(PV.list (0 + y50.2.2.2.2.1) ([] ++ y50.2.2.2.2.2.1))]) fun (y60 : ((Int) × (Int))) =>
                        bif (decide (y50.1 = 0)) then
                          bif (decide (y50.2.2.1 = 0)) then
                            bindO (F 36 (RSh.tup [(Prod.mk false [(CK.int IntKind.i64)]), (Prod.mk false [(CK.int IntKind.i64)])]) [(PV.list 0 [])]) fun (y61 : ((Int) × (Int))) =>
                            bif (y60.2 == (0 : Int)) then
                              bindO (F 14 (RSh.one CK.bool) [(PV.int IntKind.i64 y60.1), (PV.int IntKind.i64 y50.2.2.2.2.2.2.1), (PV.int IntKind.i64 y50.2.2.2.2.2.2.2.1)]) fun (y62 : (Bool)) =>
                              bif y62 then
                                bif (y61.2 == (0 : Int)) then
                                  bif (y61.1 == y60.1) then
                                    some true
                                  else some false
                                else some false
                              else some false
                            else some false
                          else bif (decide ((List.length y50.2.2.2.1) = (y50.2.2.1 * 1))) then
                            bif (decide ((0 = 0) ∧ ((0 + y50.2.2.1) ≤ big))) then
                              bindO (F 36 (RSh.tup [(Prod.mk false [(CK.int IntKind.i64)]), (Prod.mk false [(CK.int IntKind.i64)])]) [(PV.list (0 + y50.2.2.1) ([] ++ y50.2.2.2.1))]) fun (y63 : ((Int) × (Int))) =>
                              bif (y60.2 == (0 : Int)) then
                                bindO (F 14 (RSh.one CK.bool) [(PV.int IntKind.i64 y60.1), (PV.int IntKind.i64 y50.2.2.2.2.2.2.1), (PV.int IntKind.i64 y50.2.2.2.2.2.2.2.1)]) fun (y64 : (Bool)) =>
                                bif y64 then
                                  bif (y63.2 == (0 : Int)) then
                                    bif (y63.1 == y60.1) then
                                      some true
                                    else some false
                                  else some false
                                else some false
                              else some false
                            else none
                          else none
                        else bif (decide ((List.length y50.2.1) = (y50.1 * 1))) then
                          bif (decide ((0 = 0) ∧ ((0 + y50.1) ≤ big))) then
                            bif (decide ((0 + y50.1) = (0 + y50.1))) then
                              bif (decide (y50.2.2.1 = 0)) then
                                bindO (F 36 (RSh.tup [(Prod.mk false [(CK.int IntKind.i64)]), (Prod.mk false [(CK.int IntKind.i64)])]) [(PV.list (0 + y50.1) ([] ++ y50.2.1))]) fun (y65 : ((Int) × (Int))) =>
                                bif (y60.2 == (0 : Int)) then
                                  bindO (F 14 (RSh.one CK.bool) [(PV.int IntKind.i64 y60.1), (PV.int IntKind.i64 y50.2.2.2.2.2.2.1), (PV.int IntKind.i64 y50.2.2.2.2.2.2.2.1)]) fun (y66 : (Bool)) =>
                                  bif y66 then
                                    bif (y65.2 == (0 : Int)) then
                                      bif (y65.1 == y60.1) then
                                        some true
                                      else some false
                                    else some false
                                  else some false
                                else some false
                              else bif (decide ((List.length y50.2.2.2.1) = (y50.2.2.1 * 1))) then
                                bif (decide (((0 + y50.1) = (0 + y50.1)) ∧ (((0 + y50.1) + y50.2.2.1) ≤ big))) then
                                  bindO (F 36 (RSh.tup [(Prod.mk false [(CK.int IntKind.i64)]), (Prod.mk false [(CK.int IntKind.i64)])]) [(PV.list ((0 + y50.1) + y50.2.2.1) (([] ++ y50.2.1) ++ y50.2.2.2.1))]) fun (y67 : ((Int) × (Int))) =>
                                  bif (y60.2 == (0 : Int)) then
                                    bindO (F 14 (RSh.one CK.bool) [(PV.int IntKind.i64 y60.1), (PV.int IntKind.i64 y50.2.2.2.2.2.2.1), (PV.int IntKind.i64 y50.2.2.2.2.2.2.2.1)]) fun (y68 : (Bool)) =>
                                    bif y68 then
                                      bif (y67.2 == (0 : Int)) then
                                        bif (y67.1 == y60.1) then
                                          some true
                                        else some false
                                      else some false
                                    else some false
                                  else some false
                                else none
                              else none
                            else none
                          else none
                        else none
                      else none
                    else none
                  else none
                else none
              else none
            else bif (decide ((List.length y2.2.1) = (y2.1 * 1))) then
              bif (decide (((0 + y2.2.2.1) = (0 + y2.2.2.1)) ∧ (((0 + y2.2.2.1) + y2.1) ≤ big))) then
                bindO (F 38 (RSh.one (CK.int IntKind.i64)) [(PV.list ((0 + y2.2.2.1) + y2.1) (([] ++ y2.2.2.2) ++ y2.2.1))]) fun (y69 : (Int)) =>
                bif (y69 != (0 : Int)) then
                  some true
                else bif (decide (((0 : Int) ≤ (0 : Int)) ∧ ((0 : Int) < (y2.1 : Int)))) then
                  bindO (intC IntKind.i64 (y2.2.1[0]?)) fun x70 =>
                  bif (decide (((0 : Int) ≤ (0 : Int)) ∧ ((0 : Int) < (y2.1 : Int)))) then
                    bindO (intC IntKind.i64 (y2.2.1[0]?)) fun x71 =>
                    bindO (L0 (Tglidepathlaw08_CloudMiddle_0a y2.1 y2.2.1 y2.2.2.1 y2.2.2.2 ((0 + y2.2.2.1) + y2.1) (([] ++ y2.2.2.2) ++ y2.2.1) x70 x71 (1 : Int) ((0 + y2.2.2.1) + y2.1))) fun y72 =>
                    bif (decide (y72.2.2.2.2.1 = 0)) then
                      bindO (F 36 (RSh.tup [(Prod.mk false [(CK.int IntKind.i64)]), (Prod.mk false [(CK.int IntKind.i64)])]) [(PV.list 0 [])]) fun (y73 : ((Int) × (Int))) =>
                      bif (decide (y72.1 = 0)) then
                        bif (decide (y72.2.2.1 = 0)) then
                          bindO (F 36 (RSh.tup [(Prod.mk false [(CK.int IntKind.i64)]), (Prod.mk false [(CK.int IntKind.i64)])]) [(PV.list 0 [])]) fun (y74 : ((Int) × (Int))) =>
                          bif (y73.2 == (0 : Int)) then
                            bindO (F 14 (RSh.one CK.bool) [(PV.int IntKind.i64 y73.1), (PV.int IntKind.i64 y72.2.2.2.2.2.2.1), (PV.int IntKind.i64 y72.2.2.2.2.2.2.2.1)]) fun (y75 : (Bool)) =>
                            bif y75 then
                              bif (y74.2 == (0 : Int)) then
                                bif (y74.1 == y73.1) then
                                  some true
                                else some false
                              else some false
                            else some false
                          else some false
                        else bif (decide ((List.length y72.2.2.2.1) = (y72.2.2.1 * 1))) then
                          bif (decide ((0 = 0) ∧ ((0 + y72.2.2.1) ≤ big))) then
                            bindO (F 36 (RSh.tup [(Prod.mk false [(CK.int IntKind.i64)]), (Prod.mk false [(CK.int IntKind.i64)])]) [(PV.list (0 + y72.2.2.1) ([] ++ y72.2.2.2.1))]) fun (y76 : ((Int) × (Int))) =>
                            bif (y73.2 == (0 : Int)) then
                              bindO (F 14 (RSh.one CK.bool) [(PV.int IntKind.i64 y73.1), (PV.int IntKind.i64 y72.2.2.2.2.2.2.1), (PV.int IntKind.i64 y72.2.2.2.2.2.2.2.1)]) fun (y77 : (Bool)) =>
                              bif y77 then
                                bif (y76.2 == (0 : Int)) then
                                  bif (y76.1 == y73.1) then
                                    some true
                                  else some false
                                else some false
                              else some false
                            else some false
                          else none
                        else none
                      else bif (decide ((List.length y72.2.1) = (y72.1 * 1))) then
                        bif (decide ((0 = 0) ∧ ((0 + y72.1) ≤ big))) then
                          bif (decide ((0 + y72.1) = (0 + y72.1))) then
                            bif (decide (y72.2.2.1 = 0)) then
                              bindO (F 36 (RSh.tup [(Prod.mk false [(CK.int IntKind.i64)]), (Prod.mk false [(CK.int IntKind.i64)])]) [(PV.list (0 + y72.1) ([] ++ y72.2.1))]) fun (y78 : ((Int) × (Int))) =>
                              bif (y73.2 == (0 : Int)) then
                                bindO (F 14 (RSh.one CK.bool) [(PV.int IntKind.i64 y73.1), (PV.int IntKind.i64 y72.2.2.2.2.2.2.1), (PV.int IntKind.i64 y72.2.2.2.2.2.2.2.1)]) fun (y79 : (Bool)) =>
                                bif y79 then
                                  bif (y78.2 == (0 : Int)) then
                                    bif (y78.1 == y73.1) then
                                      some true
                                    else some false
                                  else some false
                                else some false
                              else some false
                            else bif (decide ((List.length y72.2.2.2.1) = (y72.2.2.1 * 1))) then
                              bif (decide (((0 + y72.1) = (0 + y72.1)) ∧ (((0 + y72.1) + y72.2.2.1) ≤ big))) then
                                bindO (F 36 (RSh.tup [(Prod.mk false [(CK.int IntKind.i64)]), (Prod.mk false [(CK.int IntKind.i64)])]) [(PV.list ((0 + y72.1) + y72.2.2.1) (([] ++ y72.2.1) ++ y72.2.2.2.1))]) fun (y80 : ((Int) × (Int))) =>
                                bif (y73.2 == (0 : Int)) then
                                  bindO (F 14 (RSh.one CK.bool) [(PV.int IntKind.i64 y73.1), (PV.int IntKind.i64 y72.2.2.2.2.2.2.1), (PV.int IntKind.i64 y72.2.2.2.2.2.2.2.1)]) fun (y81 : (Bool)) =>
                                  bif y81 then
                                    bif (y80.2 == (0 : Int)) then
                                      bif (y80.1 == y73.1) then
                                        some true
                                      else some false
                                    else some false
                                  else some false
                                else some false
                              else none
                            else none
                          else none
                        else none
                      else none
                    else bif (decide ((List.length y72.2.2.2.2.2.1) = (y72.2.2.2.2.1 * 1))) then
                      bif (decide ((0 = 0) ∧ ((0 + y72.2.2.2.2.1) ≤ big))) then
                        bif (decide ((0 + y72.2.2.2.2.1) = (0 + y72.2.2.2.2.1))) then
                          bindO (F 36 (RSh.tup [(Prod.mk false [(CK.int IntKind.i64)]), (Prod.mk false [(CK.int IntKind.i64)])]) [(PV.list (0 + y72.2.2.2.2.1) ([] ++ y72.2.2.2.2.2.1))]) fun (y82 : ((Int) × (Int))) =>
                          bif (decide (y72.1 = 0)) then
                            bif (decide (y72.2.2.1 = 0)) then
                              bindO (F 36 (RSh.tup [(Prod.mk false [(CK.int IntKind.i64)]), (Prod.mk false [(CK.int IntKind.i64)])]) [(PV.list 0 [])]) fun (y83 : ((Int) × (Int))) =>
                              bif (y82.2 == (0 : Int)) then
                                bindO (F 14 (RSh.one CK.bool) [(PV.int IntKind.i64 y82.1), (PV.int IntKind.i64 y72.2.2.2.2.2.2.1), (PV.int IntKind.i64 y72.2.2.2.2.2.2.2.1)]) fun (y84 : (Bool)) =>
                                bif y84 then
                                  bif (y83.2 == (0 : Int)) then
                                    bif (y83.1 == y82.1) then
                                      some true
                                    else some false
                                  else some false
                                else some false
                              else some false
                            else bif (decide ((List.length y72.2.2.2.1) = (y72.2.2.1 * 1))) then
                              bif (decide ((0 = 0) ∧ ((0 + y72.2.2.1) ≤ big))) then
                                bindO (F 36 (RSh.tup [(Prod.mk false [(CK.int IntKind.i64)]), (Prod.mk false [(CK.int IntKind.i64)])]) [(PV.list (0 + y72.2.2.1) ([] ++ y72.2.2.2.1))]) fun (y85 : ((Int) × (Int))) =>
                                bif (y82.2 == (0 : Int)) then
                                  bindO (F 14 (RSh.one CK.bool) [(PV.int IntKind.i64 y82.1), (PV.int IntKind.i64 y72.2.2.2.2.2.2.1), (PV.int IntKind.i64 y72.2.2.2.2.2.2.2.1)]) fun (y86 : (Bool)) =>
                                  bif y86 then
                                    bif (y85.2 == (0 : Int)) then
                                      bif (y85.1 == y82.1) then
                                        some true
                                      else some false
                                    else some false
                                  else some false
                                else some false
                              else none
                            else none
                          else bif (decide ((List.length y72.2.1) = (y72.1 * 1))) then
                            bif (decide ((0 = 0) ∧ ((0 + y72.1) ≤ big))) then
                              bif (decide ((0 + y72.1) = (0 + y72.1))) then
                                bif (decide (y72.2.2.1 = 0)) then
                                  bindO (F 36 (RSh.tup [(Prod.mk false [(CK.int IntKind.i64)]), (Prod.mk false [(CK.int IntKind.i64)])]) [(PV.list (0 + y72.1) ([] ++ y72.2.1))]) fun (y87 : ((Int) × (Int))) =>
                                  bif (y82.2 == (0 : Int)) then
                                    bindO (F 14 (RSh.one CK.bool) [(PV.int IntKind.i64 y82.1), (PV.int IntKind.i64 y72.2.2.2.2.2.2.1), (PV.int IntKind.i64 y72.2.2.2.2.2.2.2.1)]) fun (y88 : (Bool)) =>
                                    bif y88 then
                                      bif (y87.2 == (0 : Int)) then
                                        bif (y87.1 == y82.1) then
                                          some true
                                        else some false
                                      else some false
                                    else some false
                                  else some false
                                else bif (decide ((List.length y72.2.2.2.1) = (y72.2.2.1 * 1))) then
                                  bif (decide (((0 + y72.1) = (0 + y72.1)) ∧ (((0 + y72.1) + y72.2.2.1) ≤ big))) then
                                    bindO (F 36 (RSh.tup [(Prod.mk false [(CK.int IntKind.i64)]), (Prod.mk false [(CK.int IntKind.i64)])]) [(PV.list ((0 + y72.1) + y72.2.2.1) (([] ++ y72.2.1) ++ y72.2.2.2.1))]) fun (y89 : ((Int) × (Int))) =>
                                    bif (y82.2 == (0 : Int)) then
                                      bindO (F 14 (RSh.one CK.bool) [(PV.int IntKind.i64 y82.1), (PV.int IntKind.i64 y72.2.2.2.2.2.2.1), (PV.int IntKind.i64 y72.2.2.2.2.2.2.2.1)]) fun (y90 : (Bool)) =>
                                      bif y90 then
                                        bif (y89.2 == (0 : Int)) then
                                          bif (y89.1 == y82.1) then
                                            some true
                                          else some false
                                        else some false
                                      else some false
                                    else some false
                                  else none
                                else none
                              else none
                            else none
                          else none
                        else none
                      else none
                    else none
                  else none
                else none
              else none
            else none
          else none
        else none
      else none) z
  else some false
theorem tglidepathlaw08_CloudMiddle_eq (F : FnT) (L0 : Q → Option Yglidepathlaw08_CloudMiddle_0) (L1000036 : Q → Option Yglidepathlaw08_CloudMiddle_1000036) (p0n : Nat) (p0c : List PV) (p1n : Nat) (p1c : List PV) : semF (callP F Eglidepathlaw08_CloudMiddle 20) s8 (loopT [⟨0, Yglidepathlaw08_CloudMiddle_0, L0, XLglidepathlaw08_CloudMiddle_0⟩, ⟨1000036, Yglidepathlaw08_CloudMiddle_1000036, L1000036, XLglidepathlaw08_CloudMiddle_1000036⟩]) 400 a8 [PV.list p0n p0c, PV.list p1n p1c] (fun rv => decR (RSh.one CK.bool) rv.pv) = tglidepathlaw08_CloudMiddle F L0 L1000036 p0n p0c p1n p1c := by kernel_rfl
noncomputable abbrev Fglidepathlaw08_CloudMiddle (args : List PV) := Fn env 8 (RSh.one CK.bool) args
theorem Fglidepathlaw08_CloudMiddle_of  (p0n : Nat) (p0c : List PV) (p1n : Nat) (p1c : List PV) {res : (Bool)} (h : tglidepathlaw08_CloudMiddle (Fn env) Lglidepathlaw08_CloudMiddle_0 Lglidepathlaw08_CloudMiddle_1000036 p0n p0c p1n p1c = some res) : Fglidepathlaw08_CloudMiddle [PV.list p0n p0c, PV.list p1n p1c] = some res :=
  fn_of Eglidepathlaw08_CloudMiddle_ok rfl rfl (lo_cons (lpO_ok Uglidepathlaw08_CloudMiddle) (lo_cons (lpO_ok Uglidepathlaw08_CloudMiddle) lo_nil)) ((tglidepathlaw08_CloudMiddle_eq _ _ _ _ _ _ _).trans h)

end Gv
