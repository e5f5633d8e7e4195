/- What the functions do, round by round: BL4. -/
import Derived.Test.YtpbpkbckgifhdaaGvEnv
namespace Gv
open Go
set_option maxRecDepth 100000
def Elaw4 : List Entry := [.out 12 (RSh.one CK.bool), .out 25 (RSh.one CK.bool), .out 27 (RSh.one CK.list), .out 26 (RSh.tup [(Prod.mk false [(CK.int .i64)]), (Prod.mk false [(CK.int .i64)])]), .out 28 (RSh.tup [(Prod.mk false [CK.list]), (Prod.mk false [(CK.int .i64)]), (Prod.mk false [(CK.int .i64)])]), .out 29 (RSh.tup [(Prod.mk false [CK.list]), (Prod.mk false [(CK.int .i64)])]), .out 30 (RSh.tup [(Prod.mk false [(CK.int .i64)]), (Prod.mk false [(CK.int .i64)])]), .out 31 (RSh.tup [(Prod.mk false [CK.list]), (Prod.mk false [(CK.int .i64)])]), .out 32 (RSh.one CK.bool), .out 33 (RSh.one CK.list)]
theorem Elaw4_ok : ∀ e ∈ Elaw4, EntOK env e := (ent_out (ent_out (ent_out (ent_out (ent_out (ent_out (ent_out (ent_out (ent_out (ent_out ent_nil))))))))))
def Tlaw4_1000017a (n0 : Nat) (c1 : List PV) (i2 i3 : Int) (n4 : Nat) (c5 : List PV) (i6 i7 : Int) (n8 : Nat) (c9 : List PV) (i10 i11 i12 : Int) : Q := ⟨(tm 102 [(0, (AV.p (PV.list n0 c1))), (3, (AV.p (PV.int .i64 i2))), (4, (AV.p (PV.int .i64 i3))), (5, (AV.p (PV.list n4 c5))), (6, (AV.p (PV.int .i64 i6))), (7, (AV.p (PV.int .i64 i7))), (8, (AV.p (PV.list n8 c9))), (9, (AV.p (PV.int .i64 i10))), (10, (AV.p (PV.int .i64 i11))), (11, (AV.p (PV.int .i64 i12)))]), (mm 102 [])⟩
def Xlaw4_1000017a (y : Unit) : Ext × Q := (Ext.ret, ⟨(tm 102 [(2, (AV.p (PV.bool false)))]), (mm 102 [])⟩)
def Ilaw4_1000017a (q : Ext × S) : Unit := ()
def Xlaw4_1000017b (y : Nat × List PV × Nat × List PV × Int × Int × Nat × List PV × Int × Int) : Ext × Q := (Ext.normal, ⟨(tm 102 [(0, (AV.p (PV.list y.1 y.2.1))), (5, (AV.p (PV.list y.2.2.1 y.2.2.2.1))), (6, (AV.p (PV.int .i64 y.2.2.2.2.1))), (7, (AV.p (PV.int .i64 y.2.2.2.2.2.1))), (8, (AV.p (PV.list y.2.2.2.2.2.2.1 y.2.2.2.2.2.2.2.1))), (9, (AV.p (PV.int .i64 y.2.2.2.2.2.2.2.2.1))), (11, (AV.p (PV.int .i64 y.2.2.2.2.2.2.2.2.2)))]), (mm 102 [])⟩)
def Ilaw4_1000017b (q : Ext × S) : Nat × List PV × Nat × List PV × Int × Int × Nat × List PV × Int × Int := ((pP_list0 (pA_p (avT q.2 0))), (pP_list1 (pA_p (avT q.2 0))), (pP_list0 (pA_p (avT q.2 5))), (pP_list1 (pA_p (avT q.2 5))), (pP_int1 (pA_p (avT q.2 6))), (pP_int1 (pA_p (avT q.2 7))), (pP_list0 (pA_p (avT q.2 8))), (pP_list1 (pA_p (avT q.2 8))), (pP_int1 (pA_p (avT q.2 9))), (pP_int1 (pA_p (avT q.2 11))))
abbrev Ylaw4_1000017 : Type := (Unit) ⊕ ((Nat × List PV × Nat × List PV × Int × Int × Nat × List PV × Int × Int))
def XLlaw4_1000017 : XL Ylaw4_1000017 := .more Xlaw4_1000017a (.one Xlaw4_1000017b)
def Ilaw4_1000017 (q : Ext × S) : Ylaw4_1000017 := bif (cE q.1 == 2) then (Sum.inl (Ilaw4_1000017a q)) else (Sum.inr (Ilaw4_1000017b q))
theorem XIlaw4_1000017a (y : Unit) : Ilaw4_1000017 (xe (Xlaw4_1000017a y)) = (Sum.inl y) := by kernel_rfl
theorem XIlaw4_1000017b (y : Nat × List PV × Nat × List PV × Int × Int × Nat × List PV × Int × Int) : Ilaw4_1000017 (xe (Xlaw4_1000017b y)) = (Sum.inr y) := by kernel_rfl
theorem XIlaw4_1000017 (y : Ylaw4_1000017) : Ilaw4_1000017 (xe (XLlaw4_1000017.fn y)) = y := (match y with | .inl y => XIlaw4_1000017a y | .inr y => XIlaw4_1000017b y)
noncomputable abbrev Llaw4_1000017 : Q → Option Ylaw4_1000017 := lpO env a4.body 1000017 XLlaw4_1000017
noncomputable abbrev Rlaw4_1000017 : Q → Option (Ext × S) := lpR env a4.body 1000017
theorem Llaw4_1000017b_of {s : Q} {y : Nat × List PV × Nat × List PV × Int × Int × Nat × List PV × Int × Int} (h : Rlaw4_1000017 s = exO (Xlaw4_1000017b y)) : Llaw4_1000017 s = some (Sum.inr y) := lpO_of Ilaw4_1000017 XIlaw4_1000017 (y := (Sum.inr y)) h
theorem Ulaw4 : uniq ((blocksOf a4.body).map (·.1)) = true := by kernel_rfl
def Blaw4_1000017a (F : FnT) (N : QO) (E : EO) (L1000017 : Q → Option Ylaw4_1000017) (n0 : Nat) (c1 : List PV) (i2 i3 : Int) (n4 : Nat) (c5 : List PV) (i6 i7 : Int) (n8 : Nat) (c9 : List PV) (i10 i11 i12 : Int) : Option (Ext × S) :=
  bif (i3 != i12) then
    E (Xlaw4_1000017a ())
  else bif (i2 != i11) then
    E (Xlaw4_1000017a ())
  else E (Xlaw4_1000017b (n0, c1, n4, c5, i6, i7, n8, c9, i10, i12))
theorem Blaw4_1000017a_eq (F : FnT) (N : QO) (E : EO) (L1000017 : Q → Option Ylaw4_1000017) (n0 : Nat) (c1 : List PV) (i2 i3 : Int) (n4 : Nat) (c5 : List PV) (i6 i7 : Int) (n8 : Nat) (c9 : List PV) (i10 i11 i12 : Int) : semN (callP F Elaw4 20) s4 (loopT [⟨1000017, Ylaw4_1000017, L1000017, XLlaw4_1000017⟩]) 400 (blkIn a4.body 1000017) E (Tlaw4_1000017a n0 c1 i2 i3 n4 c5 i6 i7 n8 c9 i10 i11 i12) = Blaw4_1000017a F N E L1000017 n0 c1 i2 i3 n4 c5 i6 i7 n8 c9 i10 i11 i12 := by kernel_rfl
theorem Rlaw4_1000017a_of  (n0 : Nat) (c1 : List PV) (i2 i3 : Int) (n4 : Nat) (c5 : List PV) (i6 i7 : Int) (n8 : Nat) (c9 : List PV) (i10 i11 i12 : Int) {r : Ext × S} (h : Blaw4_1000017a (Fn env) Rlaw4_1000017 exO Llaw4_1000017 n0 c1 i2 i3 n4 c5 i6 i7 n8 c9 i10 i11 i12 = some r) : Rlaw4_1000017 (Tlaw4_1000017a n0 c1 i2 i3 n4 c5 i6 i7 n8 c9 i10 i11 i12) = some r :=
  nd_of Elaw4_ok (by kernel_rfl) (lo_cons (lpO_ok Ulaw4) lo_nil) (by kernel_rfl) ((Blaw4_1000017a_eq _ Rlaw4_1000017 _ _ _ _ _ _ _ _ _ _ _ _ _ _ _).trans h)
def tlaw4 (F : FnT) (L1000017 : Q → Option Ylaw4_1000017) (p0n : Nat) (p0c : List PV) : Option (Bool) :=
  bindO (F 12 (RSh.one CK.bool) []) fun (y0 : (Bool)) =>
  bif y0 then
    bindO (F 25 (RSh.one CK.bool) [(PV.list p0n p0c)]) fun (y1 : (Bool)) =>
    bif y1 then
      bindO (F 27 (RSh.one CK.list) [(PV.list p0n p0c)]) fun (y2 : ((Nat) × (List PV))) =>
      bindO (F 26 (RSh.tup [(Prod.mk false [(CK.int .i64)]), (Prod.mk false [(CK.int .i64)])]) [(PV.list y2.1 y2.2)]) fun (y3 : ((Int) × (Int))) =>
      bindO (F 27 (RSh.one CK.list) [(PV.list p0n p0c)]) fun (y4 : ((Nat) × (List PV))) =>
      bindO (F 28 (RSh.tup [(Prod.mk false [CK.list]), (Prod.mk false [(CK.int .i64)]), (Prod.mk false [(CK.int .i64)])]) [(PV.list y4.1 y4.2)]) fun (y5 : (((Nat) × (List PV)) × ((Int) × (Int)))) =>
      bindO (F 27 (RSh.one CK.list) [(PV.list p0n p0c)]) fun (y6 : ((Nat) × (List PV))) =>
      bindO (F 29 (RSh.tup [(Prod.mk false [CK.list]), (Prod.mk false [(CK.int .i64)])]) [(PV.list y6.1 y6.2)]) fun (y7 : (((Nat) × (List PV)) × (Int))) =>
      bindO (F 30 (RSh.tup [(Prod.mk false [(CK.int .i64)]), (Prod.mk false [(CK.int .i64)])]) [(PV.list p0n p0c)]) fun (y8 : ((Int) × (Int))) =>
      bindO (L1000017 (Tlaw4_1000017a p0n p0c y3.1 y3.2 y5.1.1 y5.1.2 y5.2.1 y5.2.2 y7.1.1 y7.1.2 y7.2 y8.1 y8.2)) fun z =>
      Sum.elim (fun y9 =>
        some false) (fun y10 =>
        bif (y10.2.2.2.2.2.2.2.2.2 != (0 : Int)) then
          bif (y10.2.2.2.2.2.1 == y10.2.2.2.2.2.2.2.2.2) then
            bif (y10.2.2.2.2.2.2.2.2.1 == y10.2.2.2.2.2.2.2.2.2) then
              bif ((w64 ((y10.2.2.1 : Int) + (y10.2.2.2.2.2.2.1 : Int))) == (0 : Int)) then
                bif (y10.2.2.2.2.1 == (0 : Int)) then
                  some true
                else some false
              else some false
            else some false
          else some false
        else bindO (F 31 (RSh.tup [(Prod.mk false [CK.list]), (Prod.mk false [(CK.int .i64)])]) [(PV.list y10.1 y10.2.1)]) fun (y11 : (((Nat) × (List PV)) × (Int))) =>
        bif (y10.2.2.2.2.2.1 == (0 : Int)) then
          bif (decide (((0 : Int) ≤ (0 : Int)) ∧ ((0 : Int) < (y11.1.1 : Int)))) then
            bindO (listC (y11.1.2[0]?)) fun x12 =>
            bindO (F 32 (RSh.one CK.bool) [(PV.list y10.2.2.1 y10.2.2.2.1), (PV.list x12.1 x12.2)]) fun (y13 : (Bool)) =>
            bif y13 then
              bif (y10.2.2.2.2.1 == y11.2) then
                bif (y10.2.2.2.2.2.2.2.2.1 == (0 : Int)) then
                  bindO (F 33 (RSh.one CK.list) [(PV.list y10.1 y10.2.1)]) fun (y14 : ((Nat) × (List PV))) =>
                  bindO (F 32 (RSh.one CK.bool) [(PV.list y10.2.2.2.2.2.2.1 y10.2.2.2.2.2.2.2.1), (PV.list y14.1 y14.2)]) fun (y15 : (Bool)) =>
                  bif y15 then
                    some true
                  else some false
                else some false
              else some false
            else some false
          else none
        else some false) z
    else some true
  else some false
theorem tlaw4_eq (F : FnT) (L1000017 : Q → Option Ylaw4_1000017) (p0n : Nat) (p0c : List PV) : semF (callP F Elaw4 20) s4 (loopT [⟨1000017, Ylaw4_1000017, L1000017, XLlaw4_1000017⟩]) 400 a4 [PV.list p0n p0c] (fun rv => decR (RSh.one CK.bool) rv.pv) = tlaw4 F L1000017 p0n p0c := by kernel_rfl
noncomputable abbrev Flaw4 (args : List PV) := Fn env 4 (RSh.one CK.bool) args
theorem Flaw4_of  (p0n : Nat) (p0c : List PV) {res : (Bool)} (h : tlaw4 (Fn env) Llaw4_1000017 p0n p0c = some res) : Flaw4 [PV.list p0n p0c] = some res :=
  fn_of Elaw4_ok rfl rfl (lo_cons (lpO_ok Ulaw4) lo_nil) ((tlaw4_eq _ _ _ _).trans h)
end Gv
