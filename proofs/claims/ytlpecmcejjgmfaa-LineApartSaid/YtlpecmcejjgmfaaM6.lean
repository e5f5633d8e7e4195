/- What the functions do, round by round: M6. -/
import Derived.Test.YtlpecmcejjgmfaaM4
namespace Gv
open Go
set_option maxRecDepth 100000

/-! ### glidepathlaw02_LineEstimates -/

def Eglidepathlaw02_LineEstimates : List Entry := [.out 8 (RSh.one CK.bool), .out 9 (RSh.one CK.bool), .out 11 (RSh.one CK.list), .out 10 (RSh.tup [(Prod.mk true [(CK.int IntKind.i64), (CK.int IntKind.i64)]), (Prod.mk false [(CK.int IntKind.i64)])]), .out 12 (RSh.tup [(Prod.mk true [(CK.int IntKind.i64), (CK.int IntKind.i64)]), (Prod.mk false [(CK.int IntKind.i64)])]), .out 13 (RSh.one (CK.int IntKind.i64)), .out 14 (RSh.one CK.bool), .out 16 (RSh.one (CK.int IntKind.i64)), .out 15 (RSh.tup [(Prod.mk true [(CK.int IntKind.i64), (CK.int IntKind.i64)]), (Prod.mk false [CK.bool])]), .out 17 (RSh.one (CK.int IntKind.i64)), .out 18 (RSh.agg [(CK.int IntKind.i64), (CK.int IntKind.i64)])]
theorem Eglidepathlaw02_LineEstimates_ok : ∀ e ∈ Eglidepathlaw02_LineEstimates, EntOK env e := (ent_out (ent_out (ent_out (ent_out (ent_out (ent_out (ent_out (ent_out (ent_out (ent_out (ent_out ent_nil)))))))))))
def Tglidepathlaw02_LineEstimates_1000026a (n0 : Nat) (c1 : List PV) (i2 : Int) (i3 : Int) (i4 : Int) (i5 : Int) (i6 : Int) (i7 : Int) (i8 : Int) (i9 : Int) : Q := ⟨(tm 122 [(0, (AV.p (PV.list n0 c1))), (1, (AV.p (PV.int IntKind.i64 i2))), (2, (AV.p (PV.int IntKind.i64 i3))), (7, (AV.loc 7 0)), (8, (AV.p (PV.int IntKind.i64 i4))), (9, (AV.loc 9 0)), (10, (AV.p (PV.int IntKind.i64 i5)))]), (mm 122 [(7, (Bk.pcs true [(PV.int IntKind.i64 i6), (PV.int IntKind.i64 i7)])), (9, (Bk.pcs true [(PV.int IntKind.i64 i8), (PV.int IntKind.i64 i9)]))])⟩
def Xglidepathlaw02_LineEstimates_1000026a (y : Unit) : Ext × Q := (Ext.ret, ⟨(tm 122 [(6, (AV.p (PV.bool false)))]), (mm 122 [])⟩)
def Iglidepathlaw02_LineEstimates_1000026a (q : Ext × S) : Unit := ()
def Xglidepathlaw02_LineEstimates_1000026b (y : Nat × List PV × Int × Int × Int × Int) : Ext × Q := (Ext.normal, ⟨(tm 122 [(0, (AV.p (PV.list y.1 y.2.1))), (2, (AV.p (PV.int IntKind.i64 y.2.2.1))), (9, (AV.loc 9 0)), (10, (AV.p (PV.int IntKind.i64 y.2.2.2.1)))]), (mm 122 [(9, (Bk.pcs true [(PV.int IntKind.i64 y.2.2.2.2.1), (PV.int IntKind.i64 y.2.2.2.2.2)]))])⟩)
def Iglidepathlaw02_LineEstimates_1000026b (q : Ext × S) : Nat × List PV × Int × Int × Int × Int := ((pP_list0 (pA_p (avT q.2 0))), (pP_list1 (pA_p (avT q.2 0))), (pP_int1 (pA_p (avT q.2 2))), (pP_int1 (pA_p (avT q.2 10))), (pP_int1 (hdP (pB_pcs1 (avM q.2 9)))), (pP_int1 (hdP (List.tail (pB_pcs1 (avM q.2 9))))))
abbrev Yglidepathlaw02_LineEstimates_1000026 : Type := (Unit) ⊕ ((Nat × List PV × Int × Int × Int × Int))
def XLglidepathlaw02_LineEstimates_1000026 : XL Yglidepathlaw02_LineEstimates_1000026 := .more Xglidepathlaw02_LineEstimates_1000026a (.one Xglidepathlaw02_LineEstimates_1000026b)
def Iglidepathlaw02_LineEstimates_1000026 (q : Ext × S) : Yglidepathlaw02_LineEstimates_1000026 := bif (cE q.1 == 2) then (Sum.inl (Iglidepathlaw02_LineEstimates_1000026a q)) else (Sum.inr (Iglidepathlaw02_LineEstimates_1000026b q))
theorem XIglidepathlaw02_LineEstimates_1000026a (y : Unit) : Iglidepathlaw02_LineEstimates_1000026 (xe (Xglidepathlaw02_LineEstimates_1000026a y)) = (Sum.inl y) := rfl
theorem XIglidepathlaw02_LineEstimates_1000026b (y : Nat × List PV × Int × Int × Int × Int) : Iglidepathlaw02_LineEstimates_1000026 (xe (Xglidepathlaw02_LineEstimates_1000026b y)) = (Sum.inr y) := rfl
theorem XIglidepathlaw02_LineEstimates_1000026 (y : Yglidepathlaw02_LineEstimates_1000026) : Iglidepathlaw02_LineEstimates_1000026 (xe (XLglidepathlaw02_LineEstimates_1000026.fn y)) = y := (match y with | .inl y => XIglidepathlaw02_LineEstimates_1000026a y | .inr y => XIglidepathlaw02_LineEstimates_1000026b y)
noncomputable abbrev Lglidepathlaw02_LineEstimates_1000026 : Q → Option Yglidepathlaw02_LineEstimates_1000026 := lpO env a3.body 1000026 XLglidepathlaw02_LineEstimates_1000026
noncomputable abbrev Rglidepathlaw02_LineEstimates_1000026 : Q → Option (Ext × S) := lpR env a3.body 1000026
theorem Lglidepathlaw02_LineEstimates_1000026a_of {s : Q} {y : Unit} (h : Rglidepathlaw02_LineEstimates_1000026 s = exO (Xglidepathlaw02_LineEstimates_1000026a y)) : Lglidepathlaw02_LineEstimates_1000026 s = some (Sum.inl y) := lpO_of Iglidepathlaw02_LineEstimates_1000026 XIglidepathlaw02_LineEstimates_1000026 (y := (Sum.inl y)) h
theorem Lglidepathlaw02_LineEstimates_1000026b_of {s : Q} {y : Nat × List PV × Int × Int × Int × Int} (h : Rglidepathlaw02_LineEstimates_1000026 s = exO (Xglidepathlaw02_LineEstimates_1000026b y)) : Lglidepathlaw02_LineEstimates_1000026 s = some (Sum.inr y) := lpO_of Iglidepathlaw02_LineEstimates_1000026 XIglidepathlaw02_LineEstimates_1000026 (y := (Sum.inr y)) h
theorem Uglidepathlaw02_LineEstimates : uniq ((blocksOf a3.body).map (·.1)) = true := by kernel_rfl
def Bglidepathlaw02_LineEstimates_1000026a (F : FnT) (N : Q → Option (Ext × S)) (E : Ext × Q → Option (Ext × S)) (L1000026 : Q → Option Yglidepathlaw02_LineEstimates_1000026) (n0 : Nat) (c1 : List PV) (i2 : Int) (i3 : Int) (i4 : Int) (i5 : Int) (i6 : Int) (i7 : Int) (i8 : Int) (i9 : Int) : Option (Ext × S) :=
  bindO (F 14 (RSh.one CK.bool) [(PV.int IntKind.i64 i2), (PV.int IntKind.i64 (0 : Int)), (PV.int IntKind.i64 (16 : Int))]) fun (y0 : (Bool)) =>
  bif y0 then
    bindO (F 16 (RSh.one (CK.int IntKind.i64)) [(PV.list n0 c1)]) fun (y1 : (Int)) =>
    bindO (F 16 (RSh.one (CK.int IntKind.i64)) [(PV.list n0 c1)]) fun (y2 : (Int)) =>
    bindO (F 15 (RSh.tup [(Prod.mk true [(CK.int IntKind.i64), (CK.int IntKind.i64)]), (Prod.mk false [CK.bool])]) [(PV.list n0 c1), (PV.int IntKind.i64 (w64 (y1 - i2))), (PV.int IntKind.i64 (w64 (y2 + i2)))]) fun (y3 : ((Int) × ((Int) × (Bool)))) =>
    bif y3.2.2 then
      bif (i4 != (0 : Int)) then
        E (Xglidepathlaw02_LineEstimates_1000026a ())
      else bif (!((i6 == y3.1) && ((i7 == y3.2.1) && true))) then
        E (Xglidepathlaw02_LineEstimates_1000026a ())
      else E (Xglidepathlaw02_LineEstimates_1000026b (n0, c1, i3, i5, i8, i9))
    else bif (i4 != (11 : Int)) then
      E (Xglidepathlaw02_LineEstimates_1000026a ())
    else bif (!((i6 == (0 : Int)) && ((i7 == (0 : Int)) && true))) then
      E (Xglidepathlaw02_LineEstimates_1000026a ())
    else E (Xglidepathlaw02_LineEstimates_1000026b (n0, c1, i3, i5, i8, i9))
  else bif (i4 != (2 : Int)) then
    E (Xglidepathlaw02_LineEstimates_1000026a ())
  else bif (!((i6 == (0 : Int)) && ((i7 == (0 : Int)) && true))) then
    E (Xglidepathlaw02_LineEstimates_1000026a ())
  else E (Xglidepathlaw02_LineEstimates_1000026b (n0, c1, i3, i5, i8, i9))
theorem Bglidepathlaw02_LineEstimates_1000026a_eq (F : FnT) (N : Q → Option (Ext × S)) (E : Ext × Q → Option (Ext × S)) (L1000026 : Q → Option Yglidepathlaw02_LineEstimates_1000026) (n0 : Nat) (c1 : List PV) (i2 : Int) (i3 : Int) (i4 : Int) (i5 : Int) (i6 : Int) (i7 : Int) (i8 : Int) (i9 : Int) : semN (callP F Eglidepathlaw02_LineEstimates 20) s3 (loopT [⟨1000026, Yglidepathlaw02_LineEstimates_1000026, L1000026, XLglidepathlaw02_LineEstimates_1000026⟩]) 400 (blkIn a3.body 1000026) E (Tglidepathlaw02_LineEstimates_1000026a n0 c1 i2 i3 i4 i5 i6 i7 i8 i9) = Bglidepathlaw02_LineEstimates_1000026a F N E L1000026 n0 c1 i2 i3 i4 i5 i6 i7 i8 i9 := by kernel_rfl
theorem Rglidepathlaw02_LineEstimates_1000026a_of  (n0 : Nat) (c1 : List PV) (i2 : Int) (i3 : Int) (i4 : Int) (i5 : Int) (i6 : Int) (i7 : Int) (i8 : Int) (i9 : Int) {r : Ext × S} (h : Bglidepathlaw02_LineEstimates_1000026a (Fn env) Rglidepathlaw02_LineEstimates_1000026 exO Lglidepathlaw02_LineEstimates_1000026 n0 c1 i2 i3 i4 i5 i6 i7 i8 i9 = some r) : Rglidepathlaw02_LineEstimates_1000026 (Tglidepathlaw02_LineEstimates_1000026a n0 c1 i2 i3 i4 i5 i6 i7 i8 i9) = some r :=
  nd_of Eglidepathlaw02_LineEstimates_ok (by kernel_rfl) (lo_cons (lpO_ok Uglidepathlaw02_LineEstimates) lo_nil) (by kernel_rfl) ((Bglidepathlaw02_LineEstimates_1000026a_eq _ Rglidepathlaw02_LineEstimates_1000026 _ _ _ _ _ _ _ _ _ _ _ _).trans h)
def tglidepathlaw02_LineEstimates (F : FnT) (L1000026 : Q → Option Yglidepathlaw02_LineEstimates_1000026) (p0n : Nat) (p0c : List PV) (p1 : Int) (p2 : Int) : Option (Bool) :=
  bindO (F 8 (RSh.one CK.bool) []) fun (y0 : (Bool)) =>
  bif y0 then
    bindO (F 9 (RSh.one CK.bool) [(PV.list p0n p0c)]) fun (y1 : (Bool)) =>
    bif y1 then
      bindO (F 11 (RSh.one CK.list) [(PV.list p0n p0c)]) fun (y2 : ((Nat) × (List PV))) =>
      bindO (F 10 (RSh.tup [(Prod.mk true [(CK.int IntKind.i64), (CK.int IntKind.i64)]), (Prod.mk false [(CK.int IntKind.i64)])]) [(PV.list y2.1 y2.2), (PV.int IntKind.i64 p1)]) fun (y3 : ((Int) × ((Int) × (Int)))) =>
      bindO (F 11 (RSh.one CK.list) [(PV.list p0n p0c)]) fun (y4 : ((Nat) × (List PV))) =>
      bindO (F 12 (RSh.tup [(Prod.mk true [(CK.int IntKind.i64), (CK.int IntKind.i64)]), (Prod.mk false [(CK.int IntKind.i64)])]) [(PV.list y4.1 y4.2), (PV.int IntKind.i64 p2)]) fun (y5 : ((Int) × ((Int) × (Int)))) =>
      bindO (F 13 (RSh.one (CK.int IntKind.i64)) [(PV.list p0n p0c)]) fun (y6 : (Int)) =>
      bif (y6 != (0 : Int)) then
        bif (y3.2.2 == y6) then
          bif (y5.2.2 == y6) then
            bif ((y3.1 == (0 : Int)) && ((y3.2.1 == (0 : Int)) && true)) then
              bif ((y5.1 == (0 : Int)) && ((y5.2.1 == (0 : Int)) && true)) then
                some true
              else some false
            else some false
          else some false
        else some false
      else bindO (L1000026 (Tglidepathlaw02_LineEstimates_1000026a p0n p0c p1 p2 y3.2.2 y5.2.2 y3.1 y3.2.1 y5.1 y5.2.1)) fun z =>
      Sum.elim (fun y7 =>
        some false) (fun y8 =>
        bindO (F 17 (RSh.one (CK.int IntKind.i64)) [(PV.int IntKind.i64 y8.2.2.1)]) fun (y9 : (Int)) =>
        bif (y9 != (0 : Int)) then
          bif (y8.2.2.2.1 == y9) then
            bif ((y8.2.2.2.2.1 == (0 : Int)) && ((y8.2.2.2.2.2 == (0 : Int)) && true)) then
              some true
            else some false
          else some false
        else bif (y8.2.2.2.1 == (0 : Int)) then
          bindO (F 18 (RSh.agg [(CK.int IntKind.i64), (CK.int IntKind.i64)]) [(PV.list y8.1 y8.2.1), (PV.int IntKind.i64 y8.2.2.1)]) fun (y10 : ((Int) × (Int))) =>
          bif ((y8.2.2.2.2.1 == y10.1) && ((y8.2.2.2.2.2 == y10.2) && true)) then
            some true
          else some false
        else some false) z
    else some true
  else some false
theorem tglidepathlaw02_LineEstimates_eq (F : FnT) (L1000026 : Q → Option Yglidepathlaw02_LineEstimates_1000026) (p0n : Nat) (p0c : List PV) (p1 : Int) (p2 : Int) : semF (callP F Eglidepathlaw02_LineEstimates 20) s3 (loopT [⟨1000026, Yglidepathlaw02_LineEstimates_1000026, L1000026, XLglidepathlaw02_LineEstimates_1000026⟩]) 400 a3 [PV.list p0n p0c, PV.int IntKind.i64 p1, PV.int IntKind.i64 p2] (fun rv => decR (RSh.one CK.bool) rv.pv) = tglidepathlaw02_LineEstimates F L1000026 p0n p0c p1 p2 := by kernel_rfl
noncomputable abbrev Fglidepathlaw02_LineEstimates (args : List PV) := Fn env 3 (RSh.one CK.bool) args
theorem Fglidepathlaw02_LineEstimates_of  (p0n : Nat) (p0c : List PV) (p1 : Int) (p2 : Int) {res : (Bool)} (h : tglidepathlaw02_LineEstimates (Fn env) Lglidepathlaw02_LineEstimates_1000026 p0n p0c p1 p2 = some res) : Fglidepathlaw02_LineEstimates [PV.list p0n p0c, PV.int IntKind.i64 p1, PV.int IntKind.i64 p2] = some res :=
  fn_of Eglidepathlaw02_LineEstimates_ok rfl rfl (lo_cons (lpO_ok Uglidepathlaw02_LineEstimates) lo_nil) ((tglidepathlaw02_LineEstimates_eq _ _ _ _ _ _).trans h)

end Gv
