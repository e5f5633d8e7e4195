/- What the functions do, round by round: ZL4. -/
import Derived.Test.YtpbpkbckgifhdaaGreatGvEnv
namespace Gv
open Go
set_option maxRecDepth 100000
def Elaw4 : List Entry := [.out 6 (RSh.one CK.bool), .out 20 (RSh.one CK.bool), .out 21 (RSh.one (CK.int .i64)), .out 23 (RSh.one CK.list), .out 22 (RSh.tup [(Prod.mk false [CK.list]), (Prod.mk false [(CK.int .i64)])]), .out 24 (RSh.tup [(Prod.mk false [CK.list]), (Prod.mk false [(CK.int .i64)])]), .out 25 (RSh.one CK.list), .out 15 (RSh.one CK.bool), .out 26 (RSh.one CK.list)]
theorem Elaw4_ok : ∀ e ∈ Elaw4, EntOK env e := (ent_out (ent_out (ent_out (ent_out (ent_out (ent_out (ent_out (ent_out (ent_out ent_nil)))))))))
def Tlaw4_0a (n0 : Nat) (c1 : List PV) (n2 : Nat) (c3 : List PV) (i4 : Int) (n5 : Nat) (c6 : List PV) (n7 : Nat) (c8 : List PV) (i9 : Int) (n10 : Nat) (c11 : List PV) (i12 : Int) : Q := ⟨(tm 118 [(0, (AV.p (PV.list n0 c1))), (1, (AV.p (PV.list n2 c3))), (2, (AV.p (PV.int .i64 i4))), (7, (AV.p (PV.list n5 c6))), (9, (AV.p (PV.list n7 c8))), (10, (AV.p (PV.int .i64 i9))), (12, (AV.p (PV.list n10 c11))), (13, (AV.p (PV.int .i64 i12)))]), (mm 118 [])⟩
def Xlaw4_0a (_y : Unit) : Ext × Q := (Ext.ret, ⟨(tm 118 [(6, (AV.p (PV.bool false)))]), (mm 118 [])⟩)
def Ilaw4_0a (_q : Ext × S) : Unit := ()
def Xlaw4_0b (y : Nat × List PV × Nat × List PV × Int × Nat × List PV × Int) : Ext × Q := (Ext.normal, ⟨(tm 118 [(0, (AV.p (PV.list y.1 y.2.1))), (1, (AV.p (PV.list y.2.2.1 y.2.2.2.1))), (2, (AV.p (PV.int .i64 y.2.2.2.2.1))), (9, (AV.p (PV.list y.2.2.2.2.2.1 y.2.2.2.2.2.2.1))), (10, (AV.p (PV.int .i64 y.2.2.2.2.2.2.2)))]), (mm 118 [])⟩)
def Ilaw4_0b (q : Ext × S) : Nat × List PV × Nat × List PV × Int × Nat × List PV × Int := ((pP_list0 (pA_p (avT q.2 0))), (pP_list1 (pA_p (avT q.2 0))), (pP_list0 (pA_p (avT q.2 1))), (pP_list1 (pA_p (avT q.2 1))), (pP_int1 (pA_p (avT q.2 2))), (pP_list0 (pA_p (avT q.2 9))), (pP_list1 (pA_p (avT q.2 9))), (pP_int1 (pA_p (avT q.2 10))))
abbrev Ylaw4_0 : Type := (Unit) ⊕ ((Nat × List PV × Nat × List PV × Int × Nat × List PV × Int))
def XLlaw4_0 : XL Ylaw4_0 := .more Xlaw4_0a (.one Xlaw4_0b)
def Ilaw4_0 (q : Ext × S) : Ylaw4_0 := bif (cE q.1 == 2) then (Sum.inl (Ilaw4_0a q)) else (Sum.inr (Ilaw4_0b q))
theorem XIlaw4_0a (y) : Ilaw4_0 (xe (Xlaw4_0a y)) = (Sum.inl y) := by kernel_rfl
theorem XIlaw4_0b (y) : Ilaw4_0 (xe (Xlaw4_0b y)) = (Sum.inr y) := by kernel_rfl
theorem XIlaw4_0 (y) : Ilaw4_0 (xe (XLlaw4_0.fn y)) = y := (match y with | .inl y => XIlaw4_0a y | .inr y => XIlaw4_0b y)
noncomputable abbrev Llaw4_0 : Q → Option Ylaw4_0 := lpO env a4.body 0 XLlaw4_0
noncomputable abbrev Rlaw4_0 : Q → Option (Ext × S) := lpR env a4.body 0
theorem Llaw4_0b_of {s y} (h : Rlaw4_0 s = exO (Xlaw4_0b y)) : Llaw4_0 s = some (Sum.inr y) := lpO_of Ilaw4_0 XIlaw4_0 (y := (Sum.inr y)) h
def Tlaw4_z48a (n0 : Nat) (c1 : List PV) (n2 : Nat) (c3 : List PV) (i4 : Int) : Q := ⟨(tm 118 [(0, (AV.p (PV.list n0 c1))), (1, (AV.p (PV.list n2 c3))), (2, (AV.p (PV.int .i64 i4)))]), (mm 118 [])⟩
def Xlaw4_z48a (_y : Unit) : Ext × Q := (Ext.ret, ⟨(tm 118 [(6, (AV.p (PV.bool true)))]), (mm 118 [])⟩)
def Ilaw4_z48a (_q : Ext × S) : Unit := ()
def Xlaw4_z48b (y : Nat × List PV × Nat × List PV × Int) : Ext × Q := (Ext.normal, ⟨(tm 118 [(0, (AV.p (PV.list y.1 y.2.1))), (1, (AV.p (PV.list y.2.2.1 y.2.2.2.1))), (2, (AV.p (PV.int .i64 y.2.2.2.2)))]), (mm 118 [])⟩)
def Ilaw4_z48b (q : Ext × S) : Nat × List PV × Nat × List PV × Int := ((pP_list0 (pA_p (avT q.2 0))), (pP_list1 (pA_p (avT q.2 0))), (pP_list0 (pA_p (avT q.2 1))), (pP_list1 (pA_p (avT q.2 1))), (pP_int1 (pA_p (avT q.2 2))))
abbrev Ylaw4_z48 : Type := (Unit) ⊕ ((Nat × List PV × Nat × List PV × Int))
def XLlaw4_z48 : XL Ylaw4_z48 := .more Xlaw4_z48a (.one Xlaw4_z48b)
def Ilaw4_z48 (q : Ext × S) : Ylaw4_z48 := bif (cE q.1 == 2) then (Sum.inl (Ilaw4_z48a q)) else (Sum.inr (Ilaw4_z48b q))
theorem XIlaw4_z48a (y) : Ilaw4_z48 (xe (Xlaw4_z48a y)) = (Sum.inl y) := by kernel_rfl
theorem XIlaw4_z48b (y) : Ilaw4_z48 (xe (Xlaw4_z48b y)) = (Sum.inr y) := by kernel_rfl
theorem XIlaw4_z48 (y) : Ilaw4_z48 (xe (XLlaw4_z48.fn y)) = y := (match y with | .inl y => XIlaw4_z48a y | .inr y => XIlaw4_z48b y)
noncomputable abbrev Llaw4_z48 : Q → Option Ylaw4_z48 := lpO env a4.body 1000048 XLlaw4_z48
noncomputable abbrev Rlaw4_z48 : Q → Option (Ext × S) := lpR env a4.body 1000048
theorem Llaw4_z48a_of {s y} (h : Rlaw4_z48 s = exO (Xlaw4_z48a y)) : Llaw4_z48 s = some (Sum.inl y) := lpO_of Ilaw4_z48 XIlaw4_z48 (y := (Sum.inl y)) h
theorem Llaw4_z48b_of {s y} (h : Rlaw4_z48 s = exO (Xlaw4_z48b y)) : Llaw4_z48 s = some (Sum.inr y) := lpO_of Ilaw4_z48 XIlaw4_z48 (y := (Sum.inr y)) h
def Tlaw4_z26a (n0 : Nat) (c1 : List PV) (n2 : Nat) (c3 : List PV) (i4 : Int) (n5 : Nat) (c6 : List PV) (i7 : Int) (n8 : Nat) (c9 : List PV) (i10 : Int) (n11 : Nat) (c12 : List PV) : Q := ⟨(tm 118 [(0, (AV.p (PV.list n0 c1))), (1, (AV.p (PV.list n2 c3))), (2, (AV.p (PV.int .i64 i4))), (7, (AV.p (PV.list n5 c6))), (8, (AV.p (PV.int .i64 i7))), (9, (AV.p (PV.list n8 c9))), (10, (AV.p (PV.int .i64 i10))), (12, (AV.p (PV.list n11 c12)))]), (mm 118 [])⟩
def Xlaw4_z26a (_y : Unit) : Ext × Q := (Ext.ret, ⟨(tm 118 [(6, (AV.p (PV.bool false)))]), (mm 118 [])⟩)
def Ilaw4_z26a (_q : Ext × S) : Unit := ()
def Xlaw4_z26b (y : Nat × List PV × Nat × List PV × Int × Nat × List PV × Nat × List PV × Int × Nat × List PV) : Ext × Q := (Ext.normal, ⟨(tm 118 [(0, (AV.p (PV.list y.1 y.2.1))), (1, (AV.p (PV.list y.2.2.1 y.2.2.2.1))), (2, (AV.p (PV.int .i64 y.2.2.2.2.1))), (7, (AV.p (PV.list y.2.2.2.2.2.1 y.2.2.2.2.2.2.1))), (9, (AV.p (PV.list y.2.2.2.2.2.2.2.1 y.2.2.2.2.2.2.2.2.1))), (10, (AV.p (PV.int .i64 y.2.2.2.2.2.2.2.2.2.1))), (12, (AV.p (PV.list y.2.2.2.2.2.2.2.2.2.2.1 y.2.2.2.2.2.2.2.2.2.2.2)))]), (mm 118 [])⟩)
def Ilaw4_z26b (q : Ext × S) : Nat × List PV × Nat × List PV × Int × Nat × List PV × Nat × List PV × Int × Nat × List PV := ((pP_list0 (pA_p (avT q.2 0))), (pP_list1 (pA_p (avT q.2 0))), (pP_list0 (pA_p (avT q.2 1))), (pP_list1 (pA_p (avT q.2 1))), (pP_int1 (pA_p (avT q.2 2))), (pP_list0 (pA_p (avT q.2 7))), (pP_list1 (pA_p (avT q.2 7))), (pP_list0 (pA_p (avT q.2 9))), (pP_list1 (pA_p (avT q.2 9))), (pP_int1 (pA_p (avT q.2 10))), (pP_list0 (pA_p (avT q.2 12))), (pP_list1 (pA_p (avT q.2 12))))
abbrev Ylaw4_z26 : Type := (Unit) ⊕ ((Nat × List PV × Nat × List PV × Int × Nat × List PV × Nat × List PV × Int × Nat × List PV))
def XLlaw4_z26 : XL Ylaw4_z26 := .more Xlaw4_z26a (.one Xlaw4_z26b)
def Ilaw4_z26 (q : Ext × S) : Ylaw4_z26 := bif (cE q.1 == 2) then (Sum.inl (Ilaw4_z26a q)) else (Sum.inr (Ilaw4_z26b q))
theorem XIlaw4_z26a (y) : Ilaw4_z26 (xe (Xlaw4_z26a y)) = (Sum.inl y) := by kernel_rfl
theorem XIlaw4_z26b (y) : Ilaw4_z26 (xe (Xlaw4_z26b y)) = (Sum.inr y) := by kernel_rfl
theorem XIlaw4_z26 (y) : Ilaw4_z26 (xe (XLlaw4_z26.fn y)) = y := (match y with | .inl y => XIlaw4_z26a y | .inr y => XIlaw4_z26b y)
noncomputable abbrev Llaw4_z26 : Q → Option Ylaw4_z26 := lpO env a4.body 1000026 XLlaw4_z26
noncomputable abbrev Rlaw4_z26 : Q → Option (Ext × S) := lpR env a4.body 1000026
theorem Llaw4_z26b_of {s y} (h : Rlaw4_z26 s = exO (Xlaw4_z26b y)) : Llaw4_z26 s = some (Sum.inr y) := lpO_of Ilaw4_z26 XIlaw4_z26 (y := (Sum.inr y)) h
theorem Ulaw4 : uniq ((blocksOf a4.body).map (·.1)) = true := by kernel_rfl
def Blaw4_0a (F : FnT) (N : QO) (E : EO) (_L0 : QQ Ylaw4_0) (_L1000048 : QQ Ylaw4_z48) (_L1000026 : QQ Ylaw4_z26) (n0 : Nat) (c1 : List PV) (n2 : Nat) (c3 : List PV) (i4 : Int) (n5 : Nat) (c6 : List PV) (n7 : Nat) (c8 : List PV) (i9 : Int) (n10 : Nat) (c11 : List PV) (i12 : Int) : OX :=
 bif (decide (i12 < (n10 : Int))) then
  bif (decide (((0 : Int) ≤ i12) ∧ (i12 < (n5 : Int)))) then
   bindO (listC (c6[((Int.toNat i12) * 1)]?)) fun x0 =>
   bif (decide (((0 : Int) ≤ i12) ∧ (i12 < (n10 : Int)))) then
    bindO (listC (c11[((Int.toNat i12) * 1)]?)) fun x1 =>
    bindO (F 15 (RSh.one CK.bool) [(PV.list x0.1 x0.2), (PV.list x1.1 x1.2)]) fun (y2 : (Bool)) =>
    bif y2 then
     N (Tlaw4_0a n0 c1 n2 c3 i4 n5 c6 n7 c8 i9 n10 c11 (w64 (i12 + (1 : Int))))
    else E (Xlaw4_0a ())
   else none
  else none
 else E (Xlaw4_0b (n0, c1, n2, c3, i4, n7, c8, i9))
abbrev qZL4_1 (L0 : QQ Ylaw4_0) (Lz48 : QQ Ylaw4_z48) (Lz26 : QQ Ylaw4_z26) : List LoopO := [⟨0, Ylaw4_0, L0, XLlaw4_0⟩, ⟨1000048, Ylaw4_z48, Lz48, XLlaw4_z48⟩, ⟨1000026, Ylaw4_z26, Lz26, XLlaw4_z26⟩]
theorem Blaw4_0a_eq (F N E L0 Lz48 Lz26 n0 c1 n2 c3 i4 n5 c6 n7 c8 i9 n10 c11 i12) : semB (callP F Elaw4 20) s4 (loopT (qZL4_1 L0 Lz48 Lz26)) 400 (blkIn a4.body 0) N E (Tlaw4_0a n0 c1 n2 c3 i4 n5 c6 n7 c8 i9 n10 c11 i12) = Blaw4_0a F N E L0 Lz48 Lz26 n0 c1 n2 c3 i4 n5 c6 n7 c8 i9 n10 c11 i12 := by kernel_rfl
theorem oqZL4_1 : ∀ o ∈ qZL4_1 Llaw4_0 Llaw4_z48 Llaw4_z26, LoopOOK env a4.body o := lo_cons (lpO_ok Ulaw4) (lo_cons (lpO_ok Ulaw4) (lo_cons (lpO_ok Ulaw4) lo_nil))
theorem Rlaw4_0a_of (n0 c1 n2 c3 i4 n5 c6 n7 c8 i9 n10 c11 i12) {r} (h : Blaw4_0a (Fn env) Rlaw4_0 exO Llaw4_0 Llaw4_z48 Llaw4_z26 n0 c1 n2 c3 i4 n5 c6 n7 c8 i9 n10 c11 i12 = some r) : Rlaw4_0 (Tlaw4_0a n0 c1 n2 c3 i4 n5 c6 n7 c8 i9 n10 c11 i12) = some r :=
 lp_of Elaw4_ok (by kernel_rfl) oqZL4_1 (by kernel_rfl) ((Blaw4_0a_eq _ _ _ _ _ _ _ _ _ _ _ _ _ _ _ _ _ _ _).trans h)
def Blaw4_z48a (F : FnT) (_N : QO) (E : EO) (_L0 : QQ Ylaw4_0) (_L1000048 : QQ Ylaw4_z48) (_L1000026 : QQ Ylaw4_z26) (n0 : Nat) (c1 : List PV) (n2 : Nat) (c3 : List PV) (i4 : Int) : OX :=
 bindO (F 20 (RSh.one CK.bool) [(PV.list n0 c1)]) fun (y0 : (Bool)) =>
 bif y0 then
  bindO (F 20 (RSh.one CK.bool) [(PV.list n2 c3)]) fun (y1 : (Bool)) =>
  bif y1 then
   bif (decide ((w64 ((n0 : Int) + (n2 : Int))) > (5 : Int))) then
    bindO (F 21 (RSh.one (CK.int .i64)) [(PV.list n0 c1), (PV.list n2 c3), (PV.int .i64 i4)]) fun (y2 : (Int)) =>
    bif (y2 == (0 : Int)) then
     E (Xlaw4_z48a ())
    else E (Xlaw4_z48b (n0, c1, n2, c3, i4))
   else E (Xlaw4_z48b (n0, c1, n2, c3, i4))
  else E (Xlaw4_z48a ())
 else E (Xlaw4_z48a ())
theorem Blaw4_z48a_eq (F N E L0 Lz48 Lz26 n0 c1 n2 c3 i4) : semN (callP F Elaw4 20) s4 (loopT (qZL4_1 L0 Lz48 Lz26)) 400 (blkIn a4.body 1000048) E (Tlaw4_z48a n0 c1 n2 c3 i4) = Blaw4_z48a F N E L0 Lz48 Lz26 n0 c1 n2 c3 i4 := by kernel_rfl
theorem Rlaw4_z48a_of (n0 c1 n2 c3 i4) {r} (h : Blaw4_z48a (Fn env) Rlaw4_z48 exO Llaw4_0 Llaw4_z48 Llaw4_z26 n0 c1 n2 c3 i4 = some r) : Rlaw4_z48 (Tlaw4_z48a n0 c1 n2 c3 i4) = some r :=
 nd_of Elaw4_ok (by kernel_rfl) oqZL4_1 (by kernel_rfl) ((Blaw4_z48a_eq _ Rlaw4_z48 _ _ _ _ _ _ _ _ _).trans h)
def Blaw4_z26a (_F : FnT) (_N : QO) (E : EO) (_L0 : QQ Ylaw4_0) (_L1000048 : QQ Ylaw4_z48) (_L1000026 : QQ Ylaw4_z26) (n0 : Nat) (c1 : List PV) (n2 : Nat) (c3 : List PV) (i4 : Int) (n5 : Nat) (c6 : List PV) (i7 : Int) (n8 : Nat) (c9 : List PV) (i10 : Int) (n11 : Nat) (c12 : List PV) : OX :=
 bif (i7 != (0 : Int)) then
  E (Xlaw4_z26a ())
 else bif ((n5 : Int) != (n11 : Int)) then
  E (Xlaw4_z26a ())
 else E (Xlaw4_z26b (n0, c1, n2, c3, i4, n5, c6, n8, c9, i10, n11, c12))
theorem Blaw4_z26a_eq (F N E L0 Lz48 Lz26 n0 c1 n2 c3 i4 n5 c6 i7 n8 c9 i10 n11 c12) : semN (callP F Elaw4 20) s4 (loopT (qZL4_1 L0 Lz48 Lz26)) 400 (blkIn a4.body 1000026) E (Tlaw4_z26a n0 c1 n2 c3 i4 n5 c6 i7 n8 c9 i10 n11 c12) = Blaw4_z26a F N E L0 Lz48 Lz26 n0 c1 n2 c3 i4 n5 c6 i7 n8 c9 i10 n11 c12 := by kernel_rfl
theorem Rlaw4_z26a_of (n0 c1 n2 c3 i4 n5 c6 i7 n8 c9 i10 n11 c12) {r} (h : Blaw4_z26a (Fn env) Rlaw4_z26 exO Llaw4_0 Llaw4_z48 Llaw4_z26 n0 c1 n2 c3 i4 n5 c6 i7 n8 c9 i10 n11 c12 = some r) : Rlaw4_z26 (Tlaw4_z26a n0 c1 n2 c3 i4 n5 c6 i7 n8 c9 i10 n11 c12) = some r :=
 nd_of Elaw4_ok (by kernel_rfl) oqZL4_1 (by kernel_rfl) ((Blaw4_z26a_eq _ Rlaw4_z26 _ _ _ _ _ _ _ _ _ _ _ _ _ _ _ _ _).trans h)
def tlaw4 (F : FnT) (L0 : QQ Ylaw4_0) (Lz48 : QQ Ylaw4_z48) (Lz26 : QQ Ylaw4_z26) (p0n : Nat) (p0c : List PV) (p1n : Nat) (p1c : List PV) (p2 : Int) : Option (Bool) :=
 bindO (F 6 (RSh.one CK.bool) []) fun (y0 : (Bool)) =>
 bif y0 then
  bindO (Lz48 (Tlaw4_z48a p0n p0c p1n p1c p2)) fun z =>
  Sum.elim (fun _y1 =>
   some true) (fun y2 =>
   bindO (F 23 (RSh.one CK.list) [(PV.list y2.1 y2.2.1)]) fun (y3 : ((Nat) × (List PV))) =>
   bindO (F 23 (RSh.one CK.list) [(PV.list y2.2.2.1 y2.2.2.2.1)]) fun (y4 : ((Nat) × (List PV))) =>
   bindO (F 22 (RSh.tup [(Prod.mk false [CK.list]), (Prod.mk false [(CK.int .i64)])]) [(PV.list y3.1 y3.2), (PV.list y4.1 y4.2), (PV.int .i64 y2.2.2.2.2)]) fun (y5 : (((Nat) × (List PV)) × (Int))) =>
   bindO (F 23 (RSh.one CK.list) [(PV.list y2.1 y2.2.1)]) fun (y6 : ((Nat) × (List PV))) =>
   bindO (F 23 (RSh.one CK.list) [(PV.list y2.2.2.1 y2.2.2.2.1)]) fun (y7 : ((Nat) × (List PV))) =>
   bindO (F 24 (RSh.tup [(Prod.mk false [CK.list]), (Prod.mk false [(CK.int .i64)])]) [(PV.list y6.1 y6.2), (PV.list y7.1 y7.2), (PV.int .i64 y2.2.2.2.2)]) fun (y8 : (((Nat) × (List PV)) × (Int))) =>
   bindO (F 21 (RSh.one (CK.int .i64)) [(PV.list y2.1 y2.2.1), (PV.list y2.2.2.1 y2.2.2.2.1), (PV.int .i64 y2.2.2.2.2)]) fun (y9 : (Int)) =>
   bif (y9 != (0 : Int)) then
    bif (y5.2 == y9) then
     bif (y8.2 == y9) then
      bif ((w64 ((y5.1.1 : Int) + (y8.1.1 : Int))) == (0 : Int)) then
       some true
      else some false
     else some false
    else some false
   else bindO (F 25 (RSh.one CK.list) [(PV.list y2.1 y2.2.1), (PV.list y2.2.2.1 y2.2.2.2.1), (PV.int .i64 y2.2.2.2.2)]) fun (y10 : ((Nat) × (List PV))) =>
   bindO (Lz26 (Tlaw4_z26a y2.1 y2.2.1 y2.2.2.1 y2.2.2.2.1 y2.2.2.2.2 y5.1.1 y5.1.2 y5.2 y8.1.1 y8.1.2 y8.2 y10.1 y10.2)) fun z =>
   Sum.elim (fun _y11 =>
    some false) (fun y12 =>
    bindO (L0 (Tlaw4_0a y12.1 y12.2.1 y12.2.2.1 y12.2.2.2.1 y12.2.2.2.2.1 y12.2.2.2.2.2.1 y12.2.2.2.2.2.2.1 y12.2.2.2.2.2.2.2.1 y12.2.2.2.2.2.2.2.2.1 y12.2.2.2.2.2.2.2.2.2.1 y12.2.2.2.2.2.2.2.2.2.2.1 y12.2.2.2.2.2.2.2.2.2.2.2 (0 : Int))) fun z =>
    Sum.elim (fun _y13 =>
     some false) (fun y14 =>
     bif (y14.2.2.2.2.2.2.2 == (0 : Int)) then
      bindO (F 26 (RSh.one CK.list) [(PV.list y14.1 y14.2.1), (PV.list y14.2.2.1 y14.2.2.2.1), (PV.int .i64 y14.2.2.2.2.1)]) fun (y15 : ((Nat) × (List PV))) =>
      bindO (F 15 (RSh.one CK.bool) [(PV.list y14.2.2.2.2.2.1 y14.2.2.2.2.2.2.1), (PV.list y15.1 y15.2)]) fun (y16 : (Bool)) =>
      bif y16 then
       some true
      else some false
     else some false) z) z) z
 else some false
theorem tlaw4_eq (F L0 Lz48 Lz26 p0n p0c p1n p1c p2) : semF (callP F Elaw4 20) s4 (loopT (qZL4_1 L0 Lz48 Lz26)) 400 a4 [PV.list p0n p0c, PV.list p1n p1c, PV.int .i64 p2] (fun rv => decR (RSh.one CK.bool) rv.pv) = tlaw4 F L0 Lz48 Lz26 p0n p0c p1n p1c p2 := by kernel_rfl
noncomputable abbrev Flaw4 (args : List PV) := Fn env 4 (RSh.one CK.bool) args
theorem Flaw4_of  (p0n : Nat) (p0c : List PV) (p1n : Nat) (p1c : List PV) (p2 : Int) {res : (Bool)} (h : tlaw4 (Fn env) Llaw4_0 Llaw4_z48 Llaw4_z26 p0n p0c p1n p1c p2 = some res) : Flaw4 [PV.list p0n p0c, PV.list p1n p1c, PV.int .i64 p2] = some res :=
 fn_of Elaw4_ok rfl rfl oqZL4_1 ((tlaw4_eq _ _ _ _ _ _ _ _ _).trans h)
end Gv
