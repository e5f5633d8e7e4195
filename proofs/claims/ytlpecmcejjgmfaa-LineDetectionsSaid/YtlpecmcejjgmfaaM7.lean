/- What the functions do, round by round: M7. -/
import Derived.Test.YtlpecmcejjgmfaaM3
namespace Gv
open Go
set_option maxRecDepth 100000

/-! ### glidepathlaw02_LineDetections -/

def Eglidepathlaw02_LineDetections : List Entry := [.out 8 (RSh.one CK.bool), .out 9 (RSh.one CK.bool), .out 11 (RSh.one CK.list), .out 27 (RSh.tup [(Prod.mk false [CK.list]), (Prod.mk false [(CK.int IntKind.i64)])]), .out 28 (RSh.tup [(Prod.mk true [(CK.int IntKind.i64), (CK.int IntKind.i64)]), (Prod.mk false [(CK.int IntKind.i64)])]), .out 13 (RSh.one (CK.int IntKind.i64)), .out 29 (RSh.one (CK.int IntKind.i64)), .out 31 (RSh.one CK.list), .out 30 (RSh.one CK.bool), .out 14 (RSh.one CK.bool), .out 32 (RSh.tup [(Prod.mk true [(CK.int IntKind.i64), (CK.int IntKind.i64)]), (Prod.mk false [CK.bool])])]
theorem Eglidepathlaw02_LineDetections_ok : ∀ e ∈ Eglidepathlaw02_LineDetections, EntOK env e := (ent_out (ent_out (ent_out (ent_out (ent_out (ent_out (ent_out (ent_out (ent_out (ent_out (ent_out ent_nil)))))))))))
def Tglidepathlaw02_LineDetections_1000019a (n0 : Nat) (c1 : List PV) (i2 : Int) (n3 : Nat) (c4 : List PV) (i5 : Int) (i6 : Int) (i7 : Int) (i8 : Int) (i9 : Int) (i10 : Int) : Q := ⟨(tm 127 [(0, (AV.p (PV.list n0 c1))), (2, (AV.p (PV.int IntKind.i64 i2))), (4, (AV.loc 4 0)), (7, (AV.p (PV.list n3 c4))), (8, (AV.p (PV.int IntKind.i64 i5))), (9, (AV.loc 9 0)), (10, (AV.p (PV.int IntKind.i64 i6)))]), (mm 127 [(4, (Bk.pcs true [(PV.int IntKind.i64 i7), (PV.int IntKind.i64 i8)])), (9, (Bk.pcs true [(PV.int IntKind.i64 i9), (PV.int IntKind.i64 i10)]))])⟩
def Xglidepathlaw02_LineDetections_1000019a (y : Unit) : Ext × Q := (Ext.ret, ⟨(tm 127 [(6, (AV.p (PV.bool false)))]), (mm 127 [])⟩)
def Iglidepathlaw02_LineDetections_1000019a (q : Ext × S) : Unit := ()
def Xglidepathlaw02_LineDetections_1000019b (y : Nat × List PV × Int × Int × Int × Int) : Ext × Q := (Ext.normal, ⟨(tm 127 [(0, (AV.p (PV.list y.1 y.2.1))), (2, (AV.p (PV.int IntKind.i64 y.2.2.1))), (9, (AV.loc 9 0)), (10, (AV.p (PV.int IntKind.i64 y.2.2.2.1)))]), (mm 127 [(9, (Bk.pcs true [(PV.int IntKind.i64 y.2.2.2.2.1), (PV.int IntKind.i64 y.2.2.2.2.2)]))])⟩)
def Iglidepathlaw02_LineDetections_1000019b (q : Ext × S) : Nat × List PV × Int × Int × Int × Int := ((pP_list0 (pA_p (avT q.2 0))), (pP_list1 (pA_p (avT q.2 0))), (pP_int1 (pA_p (avT q.2 2))), (pP_int1 (pA_p (avT q.2 10))), (pP_int1 (hdP (pB_pcs1 (avM q.2 9)))), (pP_int1 (hdP (List.tail (pB_pcs1 (avM q.2 9))))))
abbrev Yglidepathlaw02_LineDetections_1000019 : Type := (Unit) ⊕ ((Nat × List PV × Int × Int × Int × Int))
def XLglidepathlaw02_LineDetections_1000019 : XL Yglidepathlaw02_LineDetections_1000019 := .more Xglidepathlaw02_LineDetections_1000019a (.one Xglidepathlaw02_LineDetections_1000019b)
def Iglidepathlaw02_LineDetections_1000019 (q : Ext × S) : Yglidepathlaw02_LineDetections_1000019 := bif (cE q.1 == 2) then (Sum.inl (Iglidepathlaw02_LineDetections_1000019a q)) else (Sum.inr (Iglidepathlaw02_LineDetections_1000019b q))
theorem XIglidepathlaw02_LineDetections_1000019a (y : Unit) : Iglidepathlaw02_LineDetections_1000019 (xe (Xglidepathlaw02_LineDetections_1000019a y)) = (Sum.inl y) := rfl
theorem XIglidepathlaw02_LineDetections_1000019b (y : Nat × List PV × Int × Int × Int × Int) : Iglidepathlaw02_LineDetections_1000019 (xe (Xglidepathlaw02_LineDetections_1000019b y)) = (Sum.inr y) := rfl
theorem XIglidepathlaw02_LineDetections_1000019 (y : Yglidepathlaw02_LineDetections_1000019) : Iglidepathlaw02_LineDetections_1000019 (xe (XLglidepathlaw02_LineDetections_1000019.fn y)) = y := (match y with | .inl y => XIglidepathlaw02_LineDetections_1000019a y | .inr y => XIglidepathlaw02_LineDetections_1000019b y)
noncomputable abbrev Lglidepathlaw02_LineDetections_1000019 : Q → Option Yglidepathlaw02_LineDetections_1000019 := lpO env a5.body 1000019 XLglidepathlaw02_LineDetections_1000019
noncomputable abbrev Rglidepathlaw02_LineDetections_1000019 : Q → Option (Ext × S) := lpR env a5.body 1000019
theorem Lglidepathlaw02_LineDetections_1000019a_of {s : Q} {y : Unit} (h : Rglidepathlaw02_LineDetections_1000019 s = exO (Xglidepathlaw02_LineDetections_1000019a y)) : Lglidepathlaw02_LineDetections_1000019 s = some (Sum.inl y) := lpO_of Iglidepathlaw02_LineDetections_1000019 XIglidepathlaw02_LineDetections_1000019 (y := (Sum.inl y)) h
theorem Lglidepathlaw02_LineDetections_1000019b_of {s : Q} {y : Nat × List PV × Int × Int × Int × Int} (h : Rglidepathlaw02_LineDetections_1000019 s = exO (Xglidepathlaw02_LineDetections_1000019b y)) : Lglidepathlaw02_LineDetections_1000019 s = some (Sum.inr y) := lpO_of Iglidepathlaw02_LineDetections_1000019 XIglidepathlaw02_LineDetections_1000019 (y := (Sum.inr y)) h
theorem Uglidepathlaw02_LineDetections : uniq ((blocksOf a5.body).map (·.1)) = true := by kernel_rfl
def Bglidepathlaw02_LineDetections_1000019a (F : FnT) (N : Q → Option (Ext × S)) (E : Ext × Q → Option (Ext × S)) (L1000019 : Q → Option Yglidepathlaw02_LineDetections_1000019) (n0 : Nat) (c1 : List PV) (i2 : Int) (n3 : Nat) (c4 : List PV) (i5 : Int) (i6 : Int) (i7 : Int) (i8 : Int) (i9 : Int) (i10 : Int) : Option (Ext × S) :=
  bindO (F 29 (RSh.one (CK.int IntKind.i64)) [(PV.agg [(PV.int IntKind.i64 i7), (PV.int IntKind.i64 i8)])]) fun (y0 : (Int)) =>
  bif (y0 != (0 : Int)) then
    bif (i5 != y0) then
      E (Xglidepathlaw02_LineDetections_1000019a ())
    else bif ((n3 : Int) != (0 : Int)) then
      E (Xglidepathlaw02_LineDetections_1000019a ())
    else bif (y0 == (0 : Int)) then
      bif (i5 != (0 : Int)) then
        E (Xglidepathlaw02_LineDetections_1000019a ())
      else bindO (F 31 (RSh.one CK.list) [(PV.list n0 c1), (PV.agg [(PV.int IntKind.i64 i7), (PV.int IntKind.i64 i8)])]) fun (y1 : ((Nat) × (List PV))) =>
      bindO (F 30 (RSh.one CK.bool) [(PV.list n3 c4), (PV.list y1.1 y1.2)]) fun (y2 : (Bool)) =>
      bif y2 then
        E (Xglidepathlaw02_LineDetections_1000019b (n0, c1, i2, i6, i9, i10))
      else E (Xglidepathlaw02_LineDetections_1000019a ())
    else E (Xglidepathlaw02_LineDetections_1000019b (n0, c1, i2, i6, i9, i10))
  else bif (y0 == (0 : Int)) then
    bif (i5 != (0 : Int)) then
      E (Xglidepathlaw02_LineDetections_1000019a ())
    else bindO (F 31 (RSh.one CK.list) [(PV.list n0 c1), (PV.agg [(PV.int IntKind.i64 i7), (PV.int IntKind.i64 i8)])]) fun (y3 : ((Nat) × (List PV))) =>
    bindO (F 30 (RSh.one CK.bool) [(PV.list n3 c4), (PV.list y3.1 y3.2)]) fun (y4 : (Bool)) =>
    bif y4 then
      E (Xglidepathlaw02_LineDetections_1000019b (n0, c1, i2, i6, i9, i10))
    else E (Xglidepathlaw02_LineDetections_1000019a ())
  else E (Xglidepathlaw02_LineDetections_1000019b (n0, c1, i2, i6, i9, i10))
theorem Bglidepathlaw02_LineDetections_1000019a_eq (F : FnT) (N : Q → Option (Ext × S)) (E : Ext × Q → Option (Ext × S)) (L1000019 : Q → Option Yglidepathlaw02_LineDetections_1000019) (n0 : Nat) (c1 : List PV) (i2 : Int) (n3 : Nat) (c4 : List PV) (i5 : Int) (i6 : Int) (i7 : Int) (i8 : Int) (i9 : Int) (i10 : Int) : semN (callP F Eglidepathlaw02_LineDetections 20) s5 (loopT [⟨1000019, Yglidepathlaw02_LineDetections_1000019, L1000019, XLglidepathlaw02_LineDetections_1000019⟩]) 400 (blkIn a5.body 1000019) E (Tglidepathlaw02_LineDetections_1000019a n0 c1 i2 n3 c4 i5 i6 i7 i8 i9 i10) = Bglidepathlaw02_LineDetections_1000019a F N E L1000019 n0 c1 i2 n3 c4 i5 i6 i7 i8 i9 i10 := by kernel_rfl
theorem Rglidepathlaw02_LineDetections_1000019a_of  (n0 : Nat) (c1 : List PV) (i2 : Int) (n3 : Nat) (c4 : List PV) (i5 : Int) (i6 : Int) (i7 : Int) (i8 : Int) (i9 : Int) (i10 : Int) {r : Ext × S} (h : Bglidepathlaw02_LineDetections_1000019a (Fn env) Rglidepathlaw02_LineDetections_1000019 exO Lglidepathlaw02_LineDetections_1000019 n0 c1 i2 n3 c4 i5 i6 i7 i8 i9 i10 = some r) : Rglidepathlaw02_LineDetections_1000019 (Tglidepathlaw02_LineDetections_1000019a n0 c1 i2 n3 c4 i5 i6 i7 i8 i9 i10) = some r :=
  nd_of Eglidepathlaw02_LineDetections_ok (by kernel_rfl) (lo_cons (lpO_ok Uglidepathlaw02_LineDetections) lo_nil) (by kernel_rfl) ((Bglidepathlaw02_LineDetections_1000019a_eq _ Rglidepathlaw02_LineDetections_1000019 _ _ _ _ _ _ _ _ _ _ _ _ _).trans h)
def tglidepathlaw02_LineDetections (F : FnT) (L1000019 : Q → Option Yglidepathlaw02_LineDetections_1000019) (p0n : Nat) (p0c : List PV) (p1_0 : Int) (p1_1 : Int) (p2 : Int) : Option (Bool) :=
  bindO (F 8 (RSh.one CK.bool) []) fun (y0 : (Bool)) =>
  bif y0 then
    bindO (F 9 (RSh.one CK.bool) [(PV.list p0n p0c)]) fun (y1 : (Bool)) =>
    bif y1 then
      bindO (F 11 (RSh.one CK.list) [(PV.list p0n p0c)]) fun (y2 : ((Nat) × (List PV))) =>
      bindO (F 27 (RSh.tup [(Prod.mk false [CK.list]), (Prod.mk false [(CK.int IntKind.i64)])]) [(PV.list y2.1 y2.2), (PV.agg [(PV.int IntKind.i64 p1_0), (PV.int IntKind.i64 p1_1)])]) fun (y3 : (((Nat) × (List PV)) × (Int))) =>
      bindO (F 11 (RSh.one CK.list) [(PV.list p0n p0c)]) fun (y4 : ((Nat) × (List PV))) =>
      bindO (F 28 (RSh.tup [(Prod.mk true [(CK.int IntKind.i64), (CK.int IntKind.i64)]), (Prod.mk false [(CK.int IntKind.i64)])]) [(PV.list y4.1 y4.2), (PV.int IntKind.i64 p2)]) fun (y5 : ((Int) × ((Int) × (Int)))) =>
      bindO (F 13 (RSh.one (CK.int IntKind.i64)) [(PV.list p0n p0c)]) fun (y6 : (Int)) =>
      bif (y6 != (0 : Int)) then
        bif (y3.2 == y6) then
          bif (y5.2.2 == y6) then
            bif ((y3.1.1 : Int) == (0 : Int)) then
              bif ((y5.1 == (0 : Int)) && ((y5.2.1 == (0 : Int)) && true)) then
                some true
              else some false
            else some false
          else some false
        else some false
      else bindO (L1000019 (Tglidepathlaw02_LineDetections_1000019a p0n p0c p2 y3.1.1 y3.1.2 y3.2 y5.2.2 p1_0 p1_1 y5.1 y5.2.1)) fun z =>
      Sum.elim (fun y7 =>
        some false) (fun y8 =>
        bindO (F 14 (RSh.one CK.bool) [(PV.int IntKind.i64 y8.2.2.1), (PV.int IntKind.i64 (0 : Int)), (PV.int IntKind.i64 (w64 ((y8.1 : Int) - (1 : Int))))]) fun (y9 : (Bool)) =>
        bif y9 then
          bindO (F 32 (RSh.tup [(Prod.mk true [(CK.int IntKind.i64), (CK.int IntKind.i64)]), (Prod.mk false [CK.bool])]) [(PV.list y8.1 y8.2.1), (PV.int IntKind.i64 y8.2.2.1)]) fun (y10 : ((Int) × ((Int) × (Bool)))) =>
          bif y10.2.2 then
            bif (y8.2.2.2.1 == (0 : Int)) then
              bif ((y8.2.2.2.2.1 == y10.1) && ((y8.2.2.2.2.2 == y10.2.1) && true)) then
                some true
              else some false
            else some false
          else bif (y8.2.2.2.1 == (11 : Int)) then
            bif ((y8.2.2.2.2.1 == (0 : Int)) && ((y8.2.2.2.2.2 == (0 : Int)) && true)) then
              some true
            else some false
          else some false
        else bif (y8.2.2.2.1 == (6 : Int)) then
          bif ((y8.2.2.2.2.1 == (0 : Int)) && ((y8.2.2.2.2.2 == (0 : Int)) && true)) then
            some true
          else some false
        else some false) z
    else some true
  else some false
theorem tglidepathlaw02_LineDetections_eq (F : FnT) (L1000019 : Q → Option Yglidepathlaw02_LineDetections_1000019) (p0n : Nat) (p0c : List PV) (p1_0 : Int) (p1_1 : Int) (p2 : Int) : semF (callP F Eglidepathlaw02_LineDetections 20) s5 (loopT [⟨1000019, Yglidepathlaw02_LineDetections_1000019, L1000019, XLglidepathlaw02_LineDetections_1000019⟩]) 400 a5 [PV.list p0n p0c, PV.agg [PV.int IntKind.i64 p1_0, PV.int IntKind.i64 p1_1], PV.int IntKind.i64 p2] (fun rv => decR (RSh.one CK.bool) rv.pv) = tglidepathlaw02_LineDetections F L1000019 p0n p0c p1_0 p1_1 p2 := by kernel_rfl
noncomputable abbrev Fglidepathlaw02_LineDetections (args : List PV) := Fn env 5 (RSh.one CK.bool) args
theorem Fglidepathlaw02_LineDetections_of  (p0n : Nat) (p0c : List PV) (p1_0 : Int) (p1_1 : Int) (p2 : Int) {res : (Bool)} (h : tglidepathlaw02_LineDetections (Fn env) Lglidepathlaw02_LineDetections_1000019 p0n p0c p1_0 p1_1 p2 = some res) : Fglidepathlaw02_LineDetections [PV.list p0n p0c, PV.agg [PV.int IntKind.i64 p1_0, PV.int IntKind.i64 p1_1], PV.int IntKind.i64 p2] = some res :=
  fn_of Eglidepathlaw02_LineDetections_ok rfl rfl (lo_cons (lpO_ok Uglidepathlaw02_LineDetections) lo_nil) ((tglidepathlaw02_LineDetections_eq _ _ _ _ _ _ _).trans h)

end Gv
