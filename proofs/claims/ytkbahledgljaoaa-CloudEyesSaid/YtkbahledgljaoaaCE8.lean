/- What the functions do, round by round: CE8. -/
import Derived.Test.YtkbahledgljaoaaCE5
namespace Gv
open Go
set_option maxRecDepth 100000

/-! ### lE -/

def ElE : List Entry := [.out 10 (RSh.one CK.bool), .out 42 (RSh.one CK.list), .out 41 (RSh.tup [(Prod.mk false [(CK.int IntKind.i64)]), (Prod.mk false [(CK.int IntKind.i64)])]), .out 43 (RSh.tup [(Prod.mk false [(CK.int IntKind.i64)]), (Prod.mk false [(CK.int IntKind.i64)])]), .out 44 (RSh.one (CK.int IntKind.i64)), .out 45 (RSh.one (CK.int IntKind.i64)), .out 26 (RSh.one (CK.int IntKind.i64)), .out 46 (RSh.one (CK.int IntKind.i64)), .out 14 (RSh.one CK.bool), .out 47 (RSh.tup [(Prod.mk false [(CK.int IntKind.i64)]), (Prod.mk false [CK.bool])]), .out 48 (RSh.one (CK.int IntKind.i64))]
theorem ElE_ok : ∀ e ∈ ElE, EntOK env e := (ent_out (ent_out (ent_out (ent_out (ent_out (ent_out (ent_out (ent_out (ent_out (ent_out (ent_out ent_nil)))))))))))
def TlE_1000040a (n0 : Nat) (c1 : List PV) (i2 : Int) (i3 : Int) (i4 : Int) (i5 : Int) (i6 : Int) (i7 : Int) : Q := ⟨(tm 143 [(0, (AV.p (PV.list n0 c1))), (3, (AV.loc 3 0)), (5, (AV.p (PV.int IntKind.i64 i2))), (6, (AV.p (PV.int IntKind.i64 i3))), (7, (AV.p (PV.int IntKind.i64 i4))), (8, (AV.p (PV.int IntKind.i64 i5)))]), (mm 143 [(3, (Bk.pcs true [(PV.int IntKind.i64 i6), (PV.int IntKind.i64 i7)]))])⟩
def XlE_1000040a (_y : Unit) : Ext × Q := (Ext.ret, ⟨(tm 143 [(4, (AV.p (PV.bool false)))]), (mm 143 [])⟩)
def IlE_1000040a (_q : Ext × S) : Unit := ()
def XlE_1000040b (y : Nat × List PV × Int × Int × Int × Int × Int) : Ext × Q := (Ext.normal, ⟨(tm 143 [(0, (AV.p (PV.list y.1 y.2.1))), (3, (AV.loc 3 0)), (5, (AV.p (PV.int IntKind.i64 y.2.2.1))), (7, (AV.p (PV.int IntKind.i64 y.2.2.2.1))), (8, (AV.p (PV.int IntKind.i64 y.2.2.2.2.1)))]), (mm 143 [(3, (Bk.pcs true [(PV.int IntKind.i64 y.2.2.2.2.2.1), (PV.int IntKind.i64 y.2.2.2.2.2.2)]))])⟩)
def IlE_1000040b (q : Ext × S) : Nat × List PV × Int × Int × Int × Int × Int := ((pP_list0 (pA_p (avT q.2 0))), (pP_list1 (pA_p (avT q.2 0))), (pP_int1 (pA_p (avT q.2 5))), (pP_int1 (pA_p (avT q.2 7))), (pP_int1 (pA_p (avT q.2 8))), (pP_int1 (hdP (pB_pcs1 (avM q.2 3)))), (pP_int1 (hdP (List.tail (pB_pcs1 (avM q.2 3))))))
abbrev YlE_1000040 : Type := (Unit) ⊕ ((Nat × List PV × Int × Int × Int × Int × Int))
def XLlE_1000040 : XL YlE_1000040 := .more XlE_1000040a (.one XlE_1000040b)
def IlE_1000040 (q : Ext × S) : YlE_1000040 := bif (cE q.1 == 2) then (Sum.inl (IlE_1000040a q)) else (Sum.inr (IlE_1000040b q))
theorem XIlE_1000040a (y : Unit) : IlE_1000040 (xe (XlE_1000040a y)) = (Sum.inl y) := rfl
theorem XIlE_1000040b (y : Nat × List PV × Int × Int × Int × Int × Int) : IlE_1000040 (xe (XlE_1000040b y)) = (Sum.inr y) := rfl
theorem XIlE_1000040 (y : YlE_1000040) : IlE_1000040 (xe (XLlE_1000040.fn y)) = y := (match y with | .inl y => XIlE_1000040a y | .inr y => XIlE_1000040b y)
noncomputable abbrev LlE_1000040 : Q → Option YlE_1000040 := lpO env a9.body 1000040 XLlE_1000040
noncomputable abbrev RlE_1000040 : Q → Option (Ext × S) := lpR env a9.body 1000040
theorem LlE_1000040a_of {s : Q} {y : Unit} (h : RlE_1000040 s = exO (XlE_1000040a y)) : LlE_1000040 s = some (Sum.inl y) := lpO_of IlE_1000040 XIlE_1000040 (y := (Sum.inl y)) h
theorem LlE_1000040b_of {s : Q} {y : Nat × List PV × Int × Int × Int × Int × Int} (h : RlE_1000040 s = exO (XlE_1000040b y)) : LlE_1000040 s = some (Sum.inr y) := lpO_of IlE_1000040 XIlE_1000040 (y := (Sum.inr y)) h
def TlE_1000024a (n0 : Nat) (c1 : List PV) (i2 : Int) (i3 : Int) (i4 : Int) (i5 : Int) (i6 : Int) (i7 : Int) (i8 : Int) : Q := ⟨(tm 143 [(0, (AV.p (PV.list n0 c1))), (3, (AV.loc 3 0)), (5, (AV.p (PV.int IntKind.i64 i2))), (7, (AV.p (PV.int IntKind.i64 i3))), (8, (AV.p (PV.int IntKind.i64 i4))), (10, (AV.p (PV.int IntKind.i64 i5))), (11, (AV.p (PV.int IntKind.i64 i6)))]), (mm 143 [(3, (Bk.pcs true [(PV.int IntKind.i64 i7), (PV.int IntKind.i64 i8)]))])⟩
def XlE_1000024a (_y : Unit) : Ext × Q := (Ext.ret, ⟨(tm 143 [(4, (AV.p (PV.bool false)))]), (mm 143 [])⟩)
def IlE_1000024a (_q : Ext × S) : Unit := ()
def XlE_1000024b (y : Nat × List PV × Int × Int × Int × Int × Int) : Ext × Q := (Ext.normal, ⟨(tm 143 [(0, (AV.p (PV.list y.1 y.2.1))), (3, (AV.loc 3 0)), (5, (AV.p (PV.int IntKind.i64 y.2.2.1))), (7, (AV.p (PV.int IntKind.i64 y.2.2.2.1))), (8, (AV.p (PV.int IntKind.i64 y.2.2.2.2.1)))]), (mm 143 [(3, (Bk.pcs true [(PV.int IntKind.i64 y.2.2.2.2.2.1), (PV.int IntKind.i64 y.2.2.2.2.2.2)]))])⟩)
def IlE_1000024b (q : Ext × S) : Nat × List PV × Int × Int × Int × Int × Int := ((pP_list0 (pA_p (avT q.2 0))), (pP_list1 (pA_p (avT q.2 0))), (pP_int1 (pA_p (avT q.2 5))), (pP_int1 (pA_p (avT q.2 7))), (pP_int1 (pA_p (avT q.2 8))), (pP_int1 (hdP (pB_pcs1 (avM q.2 3)))), (pP_int1 (hdP (List.tail (pB_pcs1 (avM q.2 3))))))
abbrev YlE_1000024 : Type := (Unit) ⊕ ((Nat × List PV × Int × Int × Int × Int × Int))
def XLlE_1000024 : XL YlE_1000024 := .more XlE_1000024a (.one XlE_1000024b)
def IlE_1000024 (q : Ext × S) : YlE_1000024 := bif (cE q.1 == 2) then (Sum.inl (IlE_1000024a q)) else (Sum.inr (IlE_1000024b q))
theorem XIlE_1000024a (y : Unit) : IlE_1000024 (xe (XlE_1000024a y)) = (Sum.inl y) := rfl
theorem XIlE_1000024b (y : Nat × List PV × Int × Int × Int × Int × Int) : IlE_1000024 (xe (XlE_1000024b y)) = (Sum.inr y) := rfl
theorem XIlE_1000024 (y : YlE_1000024) : IlE_1000024 (xe (XLlE_1000024.fn y)) = y := (match y with | .inl y => XIlE_1000024a y | .inr y => XIlE_1000024b y)
noncomputable abbrev LlE_1000024 : Q → Option YlE_1000024 := lpO env a9.body 1000024 XLlE_1000024
noncomputable abbrev RlE_1000024 : Q → Option (Ext × S) := lpR env a9.body 1000024
theorem LlE_1000024a_of {s : Q} {y : Unit} (h : RlE_1000024 s = exO (XlE_1000024a y)) : LlE_1000024 s = some (Sum.inl y) := lpO_of IlE_1000024 XIlE_1000024 (y := (Sum.inl y)) h
theorem LlE_1000024b_of {s : Q} {y : Nat × List PV × Int × Int × Int × Int × Int} (h : RlE_1000024 s = exO (XlE_1000024b y)) : LlE_1000024 s = some (Sum.inr y) := lpO_of IlE_1000024 XIlE_1000024 (y := (Sum.inr y)) h
theorem UlE : uniq ((blocksOf a9.body).map (·.1)) = true := by kernel_rfl
def BlE_1000040a (F : FnT) (_N : Q → Option (Ext × S)) (E : Ext × Q → Option (Ext × S)) (_L1000040 : Q → Option YlE_1000040) (_L1000024 : Q → Option YlE_1000024) (n0 : Nat) (c1 : List PV) (i2 : Int) (i3 : Int) (i4 : Int) (i5 : Int) (i6 : Int) (i7 : Int) : Option (Ext × S) :=
  bif (i3 != (0 : Int)) then
    E (XlE_1000040a ())
  else bindO (F 46 (RSh.one (CK.int IntKind.i64)) [(PV.list n0 c1), (PV.int IntKind.i64 i6)]) fun (y0 : (Int)) =>
  bif (i2 != y0) then
    E (XlE_1000040a ())
  else E (XlE_1000040b (n0, c1, i2, i4, i5, i6, i7))
theorem BlE_1000040a_eq (F : FnT) (N : Q → Option (Ext × S)) (E : Ext × Q → Option (Ext × S)) (L1000040 : Q → Option YlE_1000040) (L1000024 : Q → Option YlE_1000024) (n0 : Nat) (c1 : List PV) (i2 : Int) (i3 : Int) (i4 : Int) (i5 : Int) (i6 : Int) (i7 : Int) : semN (callP F ElE 20) s9 (loopT [⟨1000040, YlE_1000040, L1000040, XLlE_1000040⟩, ⟨1000024, YlE_1000024, L1000024, XLlE_1000024⟩]) 400 (blkIn a9.body 1000040) E (TlE_1000040a n0 c1 i2 i3 i4 i5 i6 i7) = BlE_1000040a F N E L1000040 L1000024 n0 c1 i2 i3 i4 i5 i6 i7 := by kernel_rfl
theorem RlE_1000040a_of  (n0 : Nat) (c1 : List PV) (i2 : Int) (i3 : Int) (i4 : Int) (i5 : Int) (i6 : Int) (i7 : Int) {r : Ext × S} (h : BlE_1000040a (Fn env) RlE_1000040 exO LlE_1000040 LlE_1000024 n0 c1 i2 i3 i4 i5 i6 i7 = some r) : RlE_1000040 (TlE_1000040a n0 c1 i2 i3 i4 i5 i6 i7) = some r :=
  nd_of ElE_ok (by kernel_rfl) (lo_cons (lpO_ok UlE) (lo_cons (lpO_ok UlE) lo_nil)) (by kernel_rfl) ((BlE_1000040a_eq _ RlE_1000040 _ _ _ _ _ _ _ _ _ _ _).trans h)
def BlE_1000024a (_F : FnT) (_N : Q → Option (Ext × S)) (E : Ext × Q → Option (Ext × S)) (_L1000040 : Q → Option YlE_1000040) (_L1000024 : Q → Option YlE_1000024) (n0 : Nat) (c1 : List PV) (i2 : Int) (i3 : Int) (i4 : Int) (i5 : Int) (i6 : Int) (i7 : Int) (i8 : Int) : Option (Ext × S) :=
  bif (i6 != (0 : Int)) then
    E (XlE_1000024a ())
  else bif (decide (i5 > i2)) then
    E (XlE_1000024a ())
  else E (XlE_1000024b (n0, c1, i2, i3, i4, i7, i8))
theorem BlE_1000024a_eq (F : FnT) (N : Q → Option (Ext × S)) (E : Ext × Q → Option (Ext × S)) (L1000040 : Q → Option YlE_1000040) (L1000024 : Q → Option YlE_1000024) (n0 : Nat) (c1 : List PV) (i2 : Int) (i3 : Int) (i4 : Int) (i5 : Int) (i6 : Int) (i7 : Int) (i8 : Int) : semN (callP F ElE 20) s9 (loopT [⟨1000040, YlE_1000040, L1000040, XLlE_1000040⟩, ⟨1000024, YlE_1000024, L1000024, XLlE_1000024⟩]) 400 (blkIn a9.body 1000024) E (TlE_1000024a n0 c1 i2 i3 i4 i5 i6 i7 i8) = BlE_1000024a F N E L1000040 L1000024 n0 c1 i2 i3 i4 i5 i6 i7 i8 := by kernel_rfl
theorem RlE_1000024a_of  (n0 : Nat) (c1 : List PV) (i2 : Int) (i3 : Int) (i4 : Int) (i5 : Int) (i6 : Int) (i7 : Int) (i8 : Int) {r : Ext × S} (h : BlE_1000024a (Fn env) RlE_1000024 exO LlE_1000040 LlE_1000024 n0 c1 i2 i3 i4 i5 i6 i7 i8 = some r) : RlE_1000024 (TlE_1000024a n0 c1 i2 i3 i4 i5 i6 i7 i8) = some r :=
  nd_of ElE_ok (by kernel_rfl) (lo_cons (lpO_ok UlE) (lo_cons (lpO_ok UlE) lo_nil)) (by kernel_rfl) ((BlE_1000024a_eq _ RlE_1000024 _ _ _ _ _ _ _ _ _ _ _ _).trans h)
def tlE (F : FnT) (L1000040 : Q → Option YlE_1000040) (L1000024 : Q → Option YlE_1000024) (p0n : Nat) (p0c : List PV) (p1_0 : Int) (p1_1 : Int) : Option (Bool) :=
  bindO (F 10 (RSh.one CK.bool) []) fun (y0 : (Bool)) =>
  bif y0 then
    bif (decide ((p0n : Int) > (22 : Int))) then
      some true
    else bindO (F 42 (RSh.one CK.list) [(PV.list p0n p0c)]) fun (y1 : ((Nat) × (List PV))) =>
    bindO (F 41 (RSh.tup [(Prod.mk false [(CK.int IntKind.i64)]), (Prod.mk false [(CK.int IntKind.i64)])]) [(PV.list y1.1 y1.2), (PV.int IntKind.i64 p1_0)]) fun (y2 : ((Int) × (Int))) =>
    bindO (F 42 (RSh.one CK.list) [(PV.list p0n p0c)]) fun (y3 : ((Nat) × (List PV))) =>
    bindO (F 43 (RSh.tup [(Prod.mk false [(CK.int IntKind.i64)]), (Prod.mk false [(CK.int IntKind.i64)])]) [(PV.list y3.1 y3.2), (PV.agg [(PV.int IntKind.i64 p1_0), (PV.int IntKind.i64 p1_1)])]) fun (y4 : ((Int) × (Int))) =>
    bindO (F 44 (RSh.one (CK.int IntKind.i64)) [(PV.list p0n p0c)]) fun (y5 : (Int)) =>
    bindO (F 45 (RSh.one (CK.int IntKind.i64)) [(PV.int IntKind.i64 p1_0)]) fun (y6 : (Int)) =>
    bindO (F 26 (RSh.one (CK.int IntKind.i64)) [(PV.int IntKind.i64 y5), (PV.int IntKind.i64 y6)]) fun (y7 : (Int)) =>
    bif (y7 != (0 : Int)) then
      bif (y2.2 == y7) then
        bif (y2.1 == (0 : Int)) then
          bif (y4.2 == y7) then
            bif (y4.1 == (0 : Int)) then
              some true
            else some false
          else some false
        else some false
      else some false
    else bindO (L1000040 (TlE_1000040a p0n p0c y2.1 y2.2 y4.1 y4.2 p1_0 p1_1)) fun z =>
    Sum.elim (fun _y8 =>
      some false) (fun y9 =>
      bindO (F 14 (RSh.one CK.bool) [(PV.int IntKind.i64 y9.2.2.2.2.2.2), (PV.int IntKind.i64 (0 : Int)), (PV.int IntKind.i64 (1000000000000 : Int))]) fun (y10 : (Bool)) =>
      bif y10 then
        bindO (F 42 (RSh.one CK.list) [(PV.list y9.1 y9.2.1)]) fun (y11 : ((Nat) × (List PV))) =>
        bindO (F 41 (RSh.tup [(Prod.mk false [(CK.int IntKind.i64)]), (Prod.mk false [(CK.int IntKind.i64)])]) [(PV.list y11.1 y11.2), (PV.int IntKind.i64 (w64 (Int.tdiv (w64 (y9.2.2.2.2.2.1 + (1 : Int))) (2 : Int))))]) fun (y12 : ((Int) × (Int))) =>
        bindO (L1000024 (TlE_1000024a y9.1 y9.2.1 y9.2.2.1 y9.2.2.2.1 y9.2.2.2.2.1 y12.1 y12.2 y9.2.2.2.2.2.1 y9.2.2.2.2.2.2)) fun z =>
        Sum.elim (fun _y13 =>
          some false) (fun y14 =>
          bindO (F 47 (RSh.tup [(Prod.mk false [(CK.int IntKind.i64)]), (Prod.mk false [CK.bool])]) [(PV.list y14.1 y14.2.1), (PV.agg [(PV.int IntKind.i64 y14.2.2.2.2.2.1), (PV.int IntKind.i64 y14.2.2.2.2.2.2)])]) fun (y15 : ((Int) × (Bool))) =>
          bif y15.2 then
            bif (decide (y14.2.2.1 > y14.2.2.2.2.2.2)) then
              bif (y14.2.2.2.2.1 == (0 : Int)) then
                bif (y14.2.2.2.1 == y15.1) then
                  bindO (F 48 (RSh.one (CK.int IntKind.i64)) [(PV.list y14.1 y14.2.1), (PV.int IntKind.i64 y14.2.2.2.2.2.1), (PV.int IntKind.i64 y14.2.2.2.1)]) fun (y16 : (Int)) =>
                  bif (decide (y16 > y14.2.2.2.2.2.2)) then
                    bindO (F 48 (RSh.one (CK.int IntKind.i64)) [(PV.list y14.1 y14.2.1), (PV.int IntKind.i64 y14.2.2.2.2.2.1), (PV.int IntKind.i64 (w64 (y14.2.2.2.1 - (1 : Int))))]) fun (y17 : (Int)) =>
                    bif (decide (y17 ≤ y14.2.2.2.2.2.2)) then
                      some true
                    else some false
                  else some false
                else some false
              else some false
            else some false
          else bif (decide (y14.2.2.1 > y14.2.2.2.2.2.2)) then
            some false
          else bif (y14.2.2.2.2.1 == (12 : Int)) then
            bif (y14.2.2.2.1 == (0 : Int)) then
              some true
            else some false
          else some false) z
      else bif (y9.2.2.2.2.1 == (2 : Int)) then
        bif (y9.2.2.2.1 == (0 : Int)) then
          some true
        else some false
      else some false) z
  else some false
theorem tlE_eq (F : FnT) (L1000040 : Q → Option YlE_1000040) (L1000024 : Q → Option YlE_1000024) (p0n : Nat) (p0c : List PV) (p1_0 : Int) (p1_1 : Int) : semF (callP F ElE 20) s9 (loopT [⟨1000040, YlE_1000040, L1000040, XLlE_1000040⟩, ⟨1000024, YlE_1000024, L1000024, XLlE_1000024⟩]) 400 a9 [PV.list p0n p0c, PV.agg [PV.int IntKind.i64 p1_0, PV.int IntKind.i64 p1_1]] (fun rv => decR (RSh.one CK.bool) rv.pv) = tlE F L1000040 L1000024 p0n p0c p1_0 p1_1 := by kernel_rfl
noncomputable abbrev FlE (args : List PV) := Fn env 9 (RSh.one CK.bool) args
theorem FlE_of  (p0n : Nat) (p0c : List PV) (p1_0 : Int) (p1_1 : Int) {res : (Bool)} (h : tlE (Fn env) LlE_1000040 LlE_1000024 p0n p0c p1_0 p1_1 = some res) : FlE [PV.list p0n p0c, PV.agg [PV.int IntKind.i64 p1_0, PV.int IntKind.i64 p1_1]] = some res :=
  fn_of ElE_ok rfl rfl (lo_cons (lpO_ok UlE) (lo_cons (lpO_ok UlE) lo_nil)) ((tlE_eq _ _ _ _ _ _ _).trans h)

end Gv
