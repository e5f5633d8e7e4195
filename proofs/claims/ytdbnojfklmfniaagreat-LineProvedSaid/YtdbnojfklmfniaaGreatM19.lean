/- What the functions do, round by round: M19. -/
import Derived.Test.YtdbnojfklmfniaaGreatM15
namespace Gv
open Go
set_option maxRecDepth 100000

/-! ### line_CheckWorst -/

def Eline_CheckWorst : List Entry := [.inl 40 a40 s40, .inl 35 a35 s35, .out 33 (RSh.one (CK.int IntKind.i64)), .out 34 (RSh.one (CK.int IntKind.i64)), .out 36 (RSh.one CK.bool), .out 32 (RSh.one (CK.int IntKind.i64)), .out 37 (RSh.one CK.bool), .out 39 (RSh.one CK.list), .out 38 (RSh.agg [(CK.int IntKind.i64), (CK.int IntKind.i64)]), .out 76 (RSh.one CK.list), .out 41 (RSh.one CK.bool)]
theorem Eline_CheckWorst_ok : ∀ e ∈ Eline_CheckWorst, EntOK env e := (ent_inl rfl (ent_inl rfl (ent_out (ent_out (ent_out (ent_out (ent_out (ent_out (ent_out (ent_out (ent_out ent_nil)))))))))))
def Tline_CheckWorst_3000059a (n0 : Nat) (c1 : List PV) (i2 : Int) (n3 : Nat) (c4 : List PV) (n5 : Nat) (c6 : List PV) (i7 : Int) (i8 : Int) (i9 : Int) (i10 : Int) (i11 : Int) (i12 : Int) : Q := ⟨(tm 83 [(3, (AV.loc 3 0)), (4, (AV.loc 4 0)), (5, (AV.loc 5 0)), (6, (AV.loc 6 0)), (7, (AV.loc 7 0)), (59, (AV.p (PV.list n0 c1))), (60, (AV.p (PV.int IntKind.i64 i2)))]), (mm 83 [(3, (Bk.cells true [(AV.p (PV.list n3 c4)), (AV.p (PV.list n5 c6)), (AV.p (PV.int IntKind.i64 i7)), (AV.p (PV.int IntKind.i64 i8))])), (4, (Bk.pcs true [(PV.int IntKind.i64 i9)])), (5, (Bk.pcs true [(PV.int IntKind.i64 i10), (PV.int IntKind.i64 i11), (PV.int IntKind.i64 i12)])), (6, (Bk.pcs true [(PV.int IntKind.i64 (0 : Int))])), (7, (Bk.pcs true [(PV.int IntKind.i64 (0 : Int))]))])⟩
def Xline_CheckWorst_3000059a (y : Int) : Ext × Q := (Ext.ret, ⟨(tm 83 [(6, (AV.loc 6 0)), (7, (AV.loc 7 0))]), (mm 83 [(6, (Bk.pcs true [(PV.int IntKind.i64 y)])), (7, (Bk.pcs true [(PV.int IntKind.i64 (17 : Int))]))])⟩)
def Iline_CheckWorst_3000059a (q : Ext × S) : Int := (pP_int1 (hdP (pB_pcs1 (avM q.2 6))))
def Xline_CheckWorst_3000059b (y : Nat × List PV × Nat × List PV × Int × Int × Int × Int × Int × Int) : Ext × Q := (Ext.normal, ⟨(tm 83 [(3, (AV.loc 3 0)), (4, (AV.loc 4 0)), (5, (AV.loc 5 0)), (6, (AV.loc 6 0)), (7, (AV.loc 7 0))]), (mm 83 [(3, (Bk.cells true [(AV.p (PV.list y.1 y.2.1)), (AV.p (PV.list y.2.2.1 y.2.2.2.1)), (AV.p (PV.int IntKind.i64 y.2.2.2.2.1)), (AV.p (PV.int IntKind.i64 y.2.2.2.2.2.1))])), (4, (Bk.pcs true [(PV.int IntKind.i64 y.2.2.2.2.2.2.1)])), (5, (Bk.pcs true [(PV.int IntKind.i64 y.2.2.2.2.2.2.2.1), (PV.int IntKind.i64 y.2.2.2.2.2.2.2.2.1), (PV.int IntKind.i64 y.2.2.2.2.2.2.2.2.2)])), (6, (Bk.pcs true [(PV.int IntKind.i64 (0 : Int))])), (7, (Bk.pcs true [(PV.int IntKind.i64 (0 : Int))]))])⟩)
def Iline_CheckWorst_3000059b (q : Ext × S) : Nat × List PV × Nat × List PV × Int × Int × Int × Int × Int × Int := ((pP_list0 (pA_p (hdA (pB_cells1 (avM q.2 3))))), (pP_list1 (pA_p (hdA (pB_cells1 (avM q.2 3))))), (pP_list0 (pA_p (hdA (List.tail (pB_cells1 (avM q.2 3)))))), (pP_list1 (pA_p (hdA (List.tail (pB_cells1 (avM q.2 3)))))), (pP_int1 (pA_p (hdA (List.tail (List.tail (pB_cells1 (avM q.2 3))))))), (pP_int1 (pA_p (hdA (List.tail (List.tail (List.tail (pB_cells1 (avM q.2 3)))))))), (pP_int1 (hdP (pB_pcs1 (avM q.2 4)))), (pP_int1 (hdP (pB_pcs1 (avM q.2 5)))), (pP_int1 (hdP (List.tail (pB_pcs1 (avM q.2 5))))), (pP_int1 (hdP (List.tail (List.tail (pB_pcs1 (avM q.2 5)))))))
abbrev Yline_CheckWorst_3000059 : Type := (Int) ⊕ ((Nat × List PV × Nat × List PV × Int × Int × Int × Int × Int × Int))
def XLline_CheckWorst_3000059 : XL Yline_CheckWorst_3000059 := .more Xline_CheckWorst_3000059a (.one Xline_CheckWorst_3000059b)
def Iline_CheckWorst_3000059 (q : Ext × S) : Yline_CheckWorst_3000059 := bif (cE q.1 == 2) then (Sum.inl (Iline_CheckWorst_3000059a q)) else (Sum.inr (Iline_CheckWorst_3000059b q))
theorem XIline_CheckWorst_3000059a (y : Int) : Iline_CheckWorst_3000059 (xe (Xline_CheckWorst_3000059a y)) = (Sum.inl y) := rfl
theorem XIline_CheckWorst_3000059b (y : Nat × List PV × Nat × List PV × Int × Int × Int × Int × Int × Int) : Iline_CheckWorst_3000059 (xe (Xline_CheckWorst_3000059b y)) = (Sum.inr y) := rfl
theorem XIline_CheckWorst_3000059 (y : Yline_CheckWorst_3000059) : Iline_CheckWorst_3000059 (xe (XLline_CheckWorst_3000059.fn y)) = y := (match y with | .inl y => XIline_CheckWorst_3000059a y | .inr y => XIline_CheckWorst_3000059b y)
noncomputable abbrev Lline_CheckWorst_3000059 : Q → Option Yline_CheckWorst_3000059 := lpO env a7.body 3000059 XLline_CheckWorst_3000059
noncomputable abbrev Rline_CheckWorst_3000059 : Q → Option (Ext × S) := lpR env a7.body 3000059
theorem Lline_CheckWorst_3000059a_of {s : Q} {y : Int} (h : Rline_CheckWorst_3000059 s = exO (Xline_CheckWorst_3000059a y)) : Lline_CheckWorst_3000059 s = some (Sum.inl y) := lpO_of Iline_CheckWorst_3000059 XIline_CheckWorst_3000059 (y := (Sum.inl y)) h
theorem Lline_CheckWorst_3000059b_of {s : Q} {y : Nat × List PV × Nat × List PV × Int × Int × Int × Int × Int × Int} (h : Rline_CheckWorst_3000059 s = exO (Xline_CheckWorst_3000059b y)) : Lline_CheckWorst_3000059 s = some (Sum.inr y) := lpO_of Iline_CheckWorst_3000059 XIline_CheckWorst_3000059 (y := (Sum.inr y)) h
theorem Uline_CheckWorst : uniq ((blocksOf a7.body).map (·.1)) = true := by kernel_rfl
def Bline_CheckWorst_3000059a (F : FnT) (N : Q → Option (Ext × S)) (E : Ext × Q → Option (Ext × S)) (_L3000059 : Q → Option Yline_CheckWorst_3000059) (n0 : Nat) (c1 : List PV) (i2 : Int) (n3 : Nat) (c4 : List PV) (n5 : Nat) (c6 : List PV) (i7 : Int) (i8 : Int) (i9 : Int) (i10 : Int) (i11 : Int) (i12 : Int) : Option (Ext × S) :=
  bif (decide (i2 < (n0 : Int))) then
    bif (decide (((0 : Int) ≤ i2) ∧ (i2 < (n0 : Int)))) then
      bindO (intC IntKind.i64 (c1[(((Int.toNat i2) * 2) + 0)]?)) fun x0 =>
      bindO (listC (c1[(((Int.toNat i2) * 2) + 1)]?)) fun x1 =>
      bindO (F 38 (RSh.agg [(CK.int IntKind.i64), (CK.int IntKind.i64)]) [(PV.list x1.1 x1.2), (PV.int IntKind.i64 i9), (PV.agg [(PV.int IntKind.i64 i7), (PV.int IntKind.i64 i8)])]) fun (y2 : ((Int) × (Int))) =>
      bindO (F 41 (RSh.one CK.bool) [(PV.agg [(PV.int IntKind.i64 i10), (PV.int IntKind.i64 i11)]), (PV.agg [(PV.int IntKind.i64 y2.1), (PV.int IntKind.i64 y2.2)])]) fun (y3 : (Bool)) =>
      bif y3 then
        E (Xline_CheckWorst_3000059a x0)
      else N (Tline_CheckWorst_3000059a n0 c1 (w64 (i2 + (1 : Int))) n3 c4 n5 c6 i7 i8 i9 i10 i11 i12)
    else none
  else E (Xline_CheckWorst_3000059b (n3, c4, n5, c6, i7, i8, i9, i10, i11, i12))
theorem Bline_CheckWorst_3000059a_eq (F : FnT) (N : Q → Option (Ext × S)) (E : Ext × Q → Option (Ext × S)) (L3000059 : Q → Option Yline_CheckWorst_3000059) (n0 : Nat) (c1 : List PV) (i2 : Int) (n3 : Nat) (c4 : List PV) (n5 : Nat) (c6 : List PV) (i7 : Int) (i8 : Int) (i9 : Int) (i10 : Int) (i11 : Int) (i12 : Int) : semB (callP F Eline_CheckWorst 20) s7 (loopT [⟨3000059, Yline_CheckWorst_3000059, L3000059, XLline_CheckWorst_3000059⟩]) 400 (blkIn a7.body 3000059) N E (Tline_CheckWorst_3000059a n0 c1 i2 n3 c4 n5 c6 i7 i8 i9 i10 i11 i12) = Bline_CheckWorst_3000059a F N E L3000059 n0 c1 i2 n3 c4 n5 c6 i7 i8 i9 i10 i11 i12 := by kernel_rfl
theorem Rline_CheckWorst_3000059a_of  (n0 : Nat) (c1 : List PV) (i2 : Int) (n3 : Nat) (c4 : List PV) (n5 : Nat) (c6 : List PV) (i7 : Int) (i8 : Int) (i9 : Int) (i10 : Int) (i11 : Int) (i12 : Int) {r : Ext × S} (h : Bline_CheckWorst_3000059a (Fn env) Rline_CheckWorst_3000059 exO Lline_CheckWorst_3000059 n0 c1 i2 n3 c4 n5 c6 i7 i8 i9 i10 i11 i12 = some r) : Rline_CheckWorst_3000059 (Tline_CheckWorst_3000059a n0 c1 i2 n3 c4 n5 c6 i7 i8 i9 i10 i11 i12) = some r :=
  lp_of Eline_CheckWorst_ok (by kernel_rfl) (lo_cons (lpO_ok Uline_CheckWorst) lo_nil) (by kernel_rfl) ((Bline_CheckWorst_3000059a_eq _ _ _ _ _ _ _ _ _ _ _ _ _ _ _ _ _).trans h)
def tline_CheckWorst (F : FnT) (L3000059 : Q → Option Yline_CheckWorst_3000059) (p0_0n : Nat) (p0_0c : List PV) (p0_1n : Nat) (p0_1c : List PV) (p0_2 : Int) (p0_3 : Int) (p1 : Int) (p2_0 : Int) (p2_1 : Int) (p2_2 : Int) : Option ((Int) × (Int)) :=
  bindO (F 33 (RSh.one (CK.int IntKind.i64)) [(PV.agg [(PV.list p0_0n p0_0c), (PV.list p0_1n p0_1c), (PV.int IntKind.i64 p0_2), (PV.int IntKind.i64 p0_3)])]) fun (y0 : (Int)) =>
  bindO (F 34 (RSh.one (CK.int IntKind.i64)) [(PV.int IntKind.i64 p1)]) fun (y1 : (Int)) =>
  bindO (F 36 (RSh.one CK.bool) [(PV.agg [(PV.int IntKind.i64 p2_0), (PV.int IntKind.i64 p2_1)])]) fun (y2 : (Bool)) =>
  bif y2 then
    bif (decide (p2_0 < (0 : Int))) then
      bindO (F 32 (RSh.one (CK.int IntKind.i64)) [(PV.list 3 [(PV.int IntKind.i64 y0), (PV.int IntKind.i64 y1), (PV.int IntKind.i64 (3 : Int))])]) fun (y3 : (Int)) =>
      bif (y3 != (0 : Int)) then
        some ((0 : Int), y3)
      else bindO (F 37 (RSh.one CK.bool) [(PV.agg [(PV.list p0_0n p0_0c), (PV.list p0_1n p0_1c), (PV.int IntKind.i64 p0_2), (PV.int IntKind.i64 p0_3)]), (PV.int IntKind.i64 p2_2)]) fun (y4 : (Bool)) =>
      bif y4 then
        some ((0 : Int), (6 : Int))
      else bindO (F 39 (RSh.one CK.list) [(PV.agg [(PV.list p0_0n p0_0c), (PV.list p0_1n p0_1c), (PV.int IntKind.i64 p0_2), (PV.int IntKind.i64 p0_3)]), (PV.int IntKind.i64 p2_2)]) fun (y5 : ((Nat) × (List PV))) =>
      bindO (F 38 (RSh.agg [(CK.int IntKind.i64), (CK.int IntKind.i64)]) [(PV.list y5.1 y5.2), (PV.int IntKind.i64 p1), (PV.agg [(PV.int IntKind.i64 p0_2), (PV.int IntKind.i64 p0_3)])]) fun (y6 : ((Int) × (Int))) =>
      bif (!((y6.1 == p2_0) && ((y6.2 == p2_1) && true))) then
        some ((0 : Int), (13 : Int))
      else bindO (F 76 (RSh.one CK.list) [(PV.it [Option.none, Option.none] 0), (PV.imm [(PV.list p0_0n p0_0c), (PV.list p0_1n p0_1c), (PV.int IntKind.i64 p0_2), (PV.int IntKind.i64 p0_3)] 0)]) fun (y7 : ((Nat) × (List PV))) =>
      bindO (L3000059 (Tline_CheckWorst_3000059a y7.1 y7.2 (0 : Int) p0_0n p0_0c p0_1n p0_1c p0_2 p0_3 p1 p2_0 p2_1 p2_2)) fun z =>
      Sum.elim (fun y8 =>
        some (y8, (17 : Int))) (fun _y9 =>
        some ((0 : Int), (0 : Int))) z
    else bindO (F 32 (RSh.one (CK.int IntKind.i64)) [(PV.list 3 [(PV.int IntKind.i64 y0), (PV.int IntKind.i64 y1), (PV.int IntKind.i64 (0 : Int))])]) fun (y10 : (Int)) =>
    bif (y10 != (0 : Int)) then
      some ((0 : Int), y10)
    else bindO (F 37 (RSh.one CK.bool) [(PV.agg [(PV.list p0_0n p0_0c), (PV.list p0_1n p0_1c), (PV.int IntKind.i64 p0_2), (PV.int IntKind.i64 p0_3)]), (PV.int IntKind.i64 p2_2)]) fun (y11 : (Bool)) =>
    bif y11 then
      some ((0 : Int), (6 : Int))
    else bindO (F 39 (RSh.one CK.list) [(PV.agg [(PV.list p0_0n p0_0c), (PV.list p0_1n p0_1c), (PV.int IntKind.i64 p0_2), (PV.int IntKind.i64 p0_3)]), (PV.int IntKind.i64 p2_2)]) fun (y12 : ((Nat) × (List PV))) =>
    bindO (F 38 (RSh.agg [(CK.int IntKind.i64), (CK.int IntKind.i64)]) [(PV.list y12.1 y12.2), (PV.int IntKind.i64 p1), (PV.agg [(PV.int IntKind.i64 p0_2), (PV.int IntKind.i64 p0_3)])]) fun (y13 : ((Int) × (Int))) =>
    bif (!((y13.1 == p2_0) && ((y13.2 == p2_1) && true))) then
      some ((0 : Int), (13 : Int))
    else bindO (F 76 (RSh.one CK.list) [(PV.it [Option.none, Option.none] 0), (PV.imm [(PV.list p0_0n p0_0c), (PV.list p0_1n p0_1c), (PV.int IntKind.i64 p0_2), (PV.int IntKind.i64 p0_3)] 0)]) fun (y14 : ((Nat) × (List PV))) =>
    bindO (L3000059 (Tline_CheckWorst_3000059a y14.1 y14.2 (0 : Int) p0_0n p0_0c p0_1n p0_1c p0_2 p0_3 p1 p2_0 p2_1 p2_2)) fun z =>
    Sum.elim (fun y15 =>
      some (y15, (17 : Int))) (fun _y16 =>
      some ((0 : Int), (0 : Int))) z
  else bindO (F 32 (RSh.one (CK.int IntKind.i64)) [(PV.list 3 [(PV.int IntKind.i64 y0), (PV.int IntKind.i64 y1), (PV.int IntKind.i64 (3 : Int))])]) fun (y17 : (Int)) =>
  bif (y17 != (0 : Int)) then
    some ((0 : Int), y17)
  else bindO (F 37 (RSh.one CK.bool) [(PV.agg [(PV.list p0_0n p0_0c), (PV.list p0_1n p0_1c), (PV.int IntKind.i64 p0_2), (PV.int IntKind.i64 p0_3)]), (PV.int IntKind.i64 p2_2)]) fun (y18 : (Bool)) =>
  bif y18 then
    some ((0 : Int), (6 : Int))
  else bindO (F 39 (RSh.one CK.list) [(PV.agg [(PV.list p0_0n p0_0c), (PV.list p0_1n p0_1c), (PV.int IntKind.i64 p0_2), (PV.int IntKind.i64 p0_3)]), (PV.int IntKind.i64 p2_2)]) fun (y19 : ((Nat) × (List PV))) =>
  bindO (F 38 (RSh.agg [(CK.int IntKind.i64), (CK.int IntKind.i64)]) [(PV.list y19.1 y19.2), (PV.int IntKind.i64 p1), (PV.agg [(PV.int IntKind.i64 p0_2), (PV.int IntKind.i64 p0_3)])]) fun (y20 : ((Int) × (Int))) =>
  bif (!((y20.1 == p2_0) && ((y20.2 == p2_1) && true))) then
    some ((0 : Int), (13 : Int))
  else bindO (F 76 (RSh.one CK.list) [(PV.it [Option.none, Option.none] 0), (PV.imm [(PV.list p0_0n p0_0c), (PV.list p0_1n p0_1c), (PV.int IntKind.i64 p0_2), (PV.int IntKind.i64 p0_3)] 0)]) fun (y21 : ((Nat) × (List PV))) =>
  bindO (L3000059 (Tline_CheckWorst_3000059a y21.1 y21.2 (0 : Int) p0_0n p0_0c p0_1n p0_1c p0_2 p0_3 p1 p2_0 p2_1 p2_2)) fun z =>
  Sum.elim (fun y22 =>
    some (y22, (17 : Int))) (fun _y23 =>
    some ((0 : Int), (0 : Int))) z
theorem tline_CheckWorst_eq (F : FnT) (L3000059 : Q → Option Yline_CheckWorst_3000059) (p0_0n : Nat) (p0_0c : List PV) (p0_1n : Nat) (p0_1c : List PV) (p0_2 : Int) (p0_3 : Int) (p1 : Int) (p2_0 : Int) (p2_1 : Int) (p2_2 : Int) : semF (callP F Eline_CheckWorst 20) s7 (loopT [⟨3000059, Yline_CheckWorst_3000059, L3000059, XLline_CheckWorst_3000059⟩]) 400 a7 [PV.agg [PV.list p0_0n p0_0c, PV.list p0_1n p0_1c, PV.int IntKind.i64 p0_2, PV.int IntKind.i64 p0_3], PV.int IntKind.i64 p1, PV.agg [PV.int IntKind.i64 p2_0, PV.int IntKind.i64 p2_1, PV.int IntKind.i64 p2_2]] (fun rv => decR (RSh.tup [(Prod.mk false [(CK.int IntKind.i64)]), (Prod.mk false [(CK.int IntKind.i64)])]) rv.pv) = tline_CheckWorst F L3000059 p0_0n p0_0c p0_1n p0_1c p0_2 p0_3 p1 p2_0 p2_1 p2_2 := by kernel_rfl
noncomputable abbrev Fline_CheckWorst (args : List PV) := Fn env 7 (RSh.tup [(Prod.mk false [(CK.int IntKind.i64)]), (Prod.mk false [(CK.int IntKind.i64)])]) args
theorem Fline_CheckWorst_of  (p0_0n : Nat) (p0_0c : List PV) (p0_1n : Nat) (p0_1c : List PV) (p0_2 : Int) (p0_3 : Int) (p1 : Int) (p2_0 : Int) (p2_1 : Int) (p2_2 : Int) {res : ((Int) × (Int))} (h : tline_CheckWorst (Fn env) Lline_CheckWorst_3000059 p0_0n p0_0c p0_1n p0_1c p0_2 p0_3 p1 p2_0 p2_1 p2_2 = some res) : Fline_CheckWorst [PV.agg [PV.list p0_0n p0_0c, PV.list p0_1n p0_1c, PV.int IntKind.i64 p0_2, PV.int IntKind.i64 p0_3], PV.int IntKind.i64 p1, PV.agg [PV.int IntKind.i64 p2_0, PV.int IntKind.i64 p2_1, PV.int IntKind.i64 p2_2]] = some res :=
  fn_of Eline_CheckWorst_ok rfl rfl (lo_cons (lpO_ok Uline_CheckWorst) lo_nil) ((tline_CheckWorst_eq _ _ _ _ _ _ _ _ _ _ _ _).trans h)

/-! ### RfCheckWorst -/

def ERfCheckWorst : List Entry := [.out 17 (RSh.one CK.bool), .out 31 (RSh.one (CK.int IntKind.i64)), .out 46 (RSh.one CK.bool), .out 47 (RSh.agg [(CK.int IntKind.i64), (CK.int IntKind.i64)]), .out 19 (RSh.one (CK.int IntKind.i64))]
theorem ERfCheckWorst_ok : ∀ e ∈ ERfCheckWorst, EntOK env e := (ent_out (ent_out (ent_out (ent_out (ent_out ent_nil)))))
def TRfCheckWorst_0a (i0 : Int) (i1 : Int) (n2 : Nat) (c3 : List PV) (n4 : Nat) (c5 : List PV) (i6 : Int) (i7 : Int) (i8 : Int) (i9 : Int) (i10 : Int) : Q := ⟨(tm 57 [(1, (AV.p (PV.int IntKind.i64 i0))), (3, (AV.loc 3 0)), (5, (AV.loc 5 0)), (8, (AV.p (PV.int IntKind.i64 i1)))]), (mm 57 [(3, (Bk.cells true [(AV.p (PV.list n2 c3)), (AV.p (PV.list n4 c5)), (AV.p (PV.int IntKind.i64 i6)), (AV.p (PV.int IntKind.i64 i7))])), (5, (Bk.pcs true [(PV.int IntKind.i64 i8), (PV.int IntKind.i64 i9), (PV.int IntKind.i64 i10)]))])⟩
def XRfCheckWorst_0a (y : Int) : Ext × Q := (Ext.ret, ⟨(tm 57 [(6, (AV.p (PV.int IntKind.i64 y))), (7, (AV.p (PV.int IntKind.i64 (17 : Int))))]), (mm 57 [])⟩)
def IRfCheckWorst_0a (q : Ext × S) : Int := (pP_int1 (pA_p (avT q.2 6)))
def XRfCheckWorst_0b (y : Nat × List PV × Nat × List PV × Int × Int × Int × Int × Int) : Ext × Q := (Ext.normal, ⟨(tm 57 []), (mm 57 [(3, (Bk.cells true [(AV.p (PV.list y.1 y.2.1)), (AV.p (PV.list y.2.2.1 y.2.2.2.1)), (AV.p (PV.int IntKind.i64 y.2.2.2.2.1)), (AV.p (PV.int IntKind.i64 y.2.2.2.2.2.1))])), (5, (Bk.pcs true [(PV.int IntKind.i64 y.2.2.2.2.2.2.1), (PV.int IntKind.i64 y.2.2.2.2.2.2.2.1), (PV.int IntKind.i64 y.2.2.2.2.2.2.2.2)]))])⟩)
def IRfCheckWorst_0b (q : Ext × S) : Nat × List PV × Nat × List PV × Int × Int × Int × Int × Int := ((pP_list0 (pA_p (hdA (pB_cells1 (avM q.2 3))))), (pP_list1 (pA_p (hdA (pB_cells1 (avM q.2 3))))), (pP_list0 (pA_p (hdA (List.tail (pB_cells1 (avM q.2 3)))))), (pP_list1 (pA_p (hdA (List.tail (pB_cells1 (avM q.2 3)))))), (pP_int1 (pA_p (hdA (List.tail (List.tail (pB_cells1 (avM q.2 3))))))), (pP_int1 (pA_p (hdA (List.tail (List.tail (List.tail (pB_cells1 (avM q.2 3)))))))), (pP_int1 (hdP (pB_pcs1 (avM q.2 5)))), (pP_int1 (hdP (List.tail (pB_pcs1 (avM q.2 5))))), (pP_int1 (hdP (List.tail (List.tail (pB_pcs1 (avM q.2 5)))))))
abbrev YRfCheckWorst_0 : Type := (Int) ⊕ ((Nat × List PV × Nat × List PV × Int × Int × Int × Int × Int))
def XLRfCheckWorst_0 : XL YRfCheckWorst_0 := .more XRfCheckWorst_0a (.one XRfCheckWorst_0b)
def IRfCheckWorst_0 (q : Ext × S) : YRfCheckWorst_0 := bif (cE q.1 == 2) then (Sum.inl (IRfCheckWorst_0a q)) else (Sum.inr (IRfCheckWorst_0b q))
theorem XIRfCheckWorst_0a (y : Int) : IRfCheckWorst_0 (xe (XRfCheckWorst_0a y)) = (Sum.inl y) := rfl
theorem XIRfCheckWorst_0b (y : Nat × List PV × Nat × List PV × Int × Int × Int × Int × Int) : IRfCheckWorst_0 (xe (XRfCheckWorst_0b y)) = (Sum.inr y) := rfl
theorem XIRfCheckWorst_0 (y : YRfCheckWorst_0) : IRfCheckWorst_0 (xe (XLRfCheckWorst_0.fn y)) = y := (match y with | .inl y => XIRfCheckWorst_0a y | .inr y => XIRfCheckWorst_0b y)
noncomputable abbrev LRfCheckWorst_0 : Q → Option YRfCheckWorst_0 := lpO env a11.body 0 XLRfCheckWorst_0
noncomputable abbrev RRfCheckWorst_0 : Q → Option (Ext × S) := lpR env a11.body 0
theorem LRfCheckWorst_0a_of {s : Q} {y : Int} (h : RRfCheckWorst_0 s = exO (XRfCheckWorst_0a y)) : LRfCheckWorst_0 s = some (Sum.inl y) := lpO_of IRfCheckWorst_0 XIRfCheckWorst_0 (y := (Sum.inl y)) h
theorem LRfCheckWorst_0b_of {s : Q} {y : Nat × List PV × Nat × List PV × Int × Int × Int × Int × Int} (h : RRfCheckWorst_0 s = exO (XRfCheckWorst_0b y)) : LRfCheckWorst_0 s = some (Sum.inr y) := lpO_of IRfCheckWorst_0 XIRfCheckWorst_0 (y := (Sum.inr y)) h
theorem URfCheckWorst : uniq ((blocksOf a11.body).map (·.1)) = true := by kernel_rfl
def BRfCheckWorst_0a (F : FnT) (N : Q → Option (Ext × S)) (E : Ext × Q → Option (Ext × S)) (_L0 : Q → Option YRfCheckWorst_0) (i0 : Int) (i1 : Int) (n2 : Nat) (c3 : List PV) (n4 : Nat) (c5 : List PV) (i6 : Int) (i7 : Int) (i8 : Int) (i9 : Int) (i10 : Int) : Option (Ext × S) :=
  bindO (F 31 (RSh.one (CK.int IntKind.i64)) [(PV.agg [(PV.list n4 c5)]), (PV.int IntKind.i64 (n2 : Int))]) fun (y0 : (Int)) =>
  bif (decide (i1 < y0)) then
    bindO (F 47 (RSh.agg [(CK.int IntKind.i64), (CK.int IntKind.i64)]) [(PV.agg [(PV.list n2 c3), (PV.list n4 c5), (PV.int IntKind.i64 i6), (PV.int IntKind.i64 i7)]), (PV.int IntKind.i64 i0), (PV.int IntKind.i64 i1)]) fun (y1 : ((Int) × (Int))) =>
    bindO (F 19 (RSh.one (CK.int IntKind.i64)) [(PV.agg [(PV.int IntKind.i64 y1.1), (PV.int IntKind.i64 y1.2)]), (PV.agg [(PV.int IntKind.i64 i8), (PV.int IntKind.i64 i9)])]) fun (y2 : (Int)) =>
    bif (decide (y2 > (0 : Int))) then
      E (XRfCheckWorst_0a i1)
    else N (TRfCheckWorst_0a i0 (w64 (i1 + (1 : Int))) n2 c3 n4 c5 i6 i7 i8 i9 i10)
  else E (XRfCheckWorst_0b (n2, c3, n4, c5, i6, i7, i8, i9, i10))
theorem BRfCheckWorst_0a_eq (F : FnT) (N : Q → Option (Ext × S)) (E : Ext × Q → Option (Ext × S)) (L0 : Q → Option YRfCheckWorst_0) (i0 : Int) (i1 : Int) (n2 : Nat) (c3 : List PV) (n4 : Nat) (c5 : List PV) (i6 : Int) (i7 : Int) (i8 : Int) (i9 : Int) (i10 : Int) : semB (callP F ERfCheckWorst 20) s11 (loopT [⟨0, YRfCheckWorst_0, L0, XLRfCheckWorst_0⟩]) 400 (blkIn a11.body 0) N E (TRfCheckWorst_0a i0 i1 n2 c3 n4 c5 i6 i7 i8 i9 i10) = BRfCheckWorst_0a F N E L0 i0 i1 n2 c3 n4 c5 i6 i7 i8 i9 i10 := by kernel_rfl
theorem RRfCheckWorst_0a_of  (i0 : Int) (i1 : Int) (n2 : Nat) (c3 : List PV) (n4 : Nat) (c5 : List PV) (i6 : Int) (i7 : Int) (i8 : Int) (i9 : Int) (i10 : Int) {r : Ext × S} (h : BRfCheckWorst_0a (Fn env) RRfCheckWorst_0 exO LRfCheckWorst_0 i0 i1 n2 c3 n4 c5 i6 i7 i8 i9 i10 = some r) : RRfCheckWorst_0 (TRfCheckWorst_0a i0 i1 n2 c3 n4 c5 i6 i7 i8 i9 i10) = some r :=
  lp_of ERfCheckWorst_ok (by kernel_rfl) (lo_cons (lpO_ok URfCheckWorst) lo_nil) (by kernel_rfl) ((BRfCheckWorst_0a_eq _ _ _ _ _ _ _ _ _ _ _ _ _ _ _).trans h)
def tRfCheckWorst (F : FnT) (L0 : Q → Option YRfCheckWorst_0) (p0_0n : Nat) (p0_0c : List PV) (p0_1n : Nat) (p0_1c : List PV) (p0_2 : Int) (p0_3 : Int) (p1 : Int) (p2_0 : Int) (p2_1 : Int) (p2_2 : Int) : Option ((Int) × (Int)) :=
  bindO (F 17 (RSh.one CK.bool) [(PV.agg [(PV.int IntKind.i64 p2_0), (PV.int IntKind.i64 p2_1)])]) fun (y0 : (Bool)) =>
  bif y0 then
    bif (decide (p2_0 < (0 : Int))) then
      some ((0 : Int), (3 : Int))
    else bindO (F 31 (RSh.one (CK.int IntKind.i64)) [(PV.agg [(PV.list p0_1n p0_1c)]), (PV.int IntKind.i64 (p0_0n : Int))]) fun (y1 : (Int)) =>
    bindO (F 46 (RSh.one CK.bool) [(PV.int IntKind.i64 p2_2), (PV.int IntKind.i64 (0 : Int)), (PV.int IntKind.i64 (w64 (y1 - (1 : Int))))]) fun (y2 : (Bool)) =>
    bif y2 then
      bindO (F 47 (RSh.agg [(CK.int IntKind.i64), (CK.int IntKind.i64)]) [(PV.agg [(PV.list p0_0n p0_0c), (PV.list p0_1n p0_1c), (PV.int IntKind.i64 p0_2), (PV.int IntKind.i64 p0_3)]), (PV.int IntKind.i64 p1), (PV.int IntKind.i64 p2_2)]) fun (y3 : ((Int) × (Int))) =>
      bif (!((y3.1 == p2_0) && ((y3.2 == p2_1) && true))) then
        some ((0 : Int), (13 : Int))
      else bindO (L0 (TRfCheckWorst_0a p1 (0 : Int) p0_0n p0_0c p0_1n p0_1c p0_2 p0_3 p2_0 p2_1 p2_2)) fun z =>
      Sum.elim (fun y4 =>
        some (y4, (17 : Int))) (fun _y5 =>
        some ((0 : Int), (0 : Int))) z
    else some ((0 : Int), (6 : Int))
  else some ((0 : Int), (3 : Int))
theorem tRfCheckWorst_eq (F : FnT) (L0 : Q → Option YRfCheckWorst_0) (p0_0n : Nat) (p0_0c : List PV) (p0_1n : Nat) (p0_1c : List PV) (p0_2 : Int) (p0_3 : Int) (p1 : Int) (p2_0 : Int) (p2_1 : Int) (p2_2 : Int) : semF (callP F ERfCheckWorst 20) s11 (loopT [⟨0, YRfCheckWorst_0, L0, XLRfCheckWorst_0⟩]) 400 a11 [PV.agg [PV.list p0_0n p0_0c, PV.list p0_1n p0_1c, PV.int IntKind.i64 p0_2, PV.int IntKind.i64 p0_3], PV.int IntKind.i64 p1, PV.agg [PV.int IntKind.i64 p2_0, PV.int IntKind.i64 p2_1, PV.int IntKind.i64 p2_2]] (fun rv => decR (RSh.tup [(Prod.mk false [(CK.int IntKind.i64)]), (Prod.mk false [(CK.int IntKind.i64)])]) rv.pv) = tRfCheckWorst F L0 p0_0n p0_0c p0_1n p0_1c p0_2 p0_3 p1 p2_0 p2_1 p2_2 := by kernel_rfl
noncomputable abbrev FRfCheckWorst (args : List PV) := Fn env 11 (RSh.tup [(Prod.mk false [(CK.int IntKind.i64)]), (Prod.mk false [(CK.int IntKind.i64)])]) args
theorem FRfCheckWorst_of  (p0_0n : Nat) (p0_0c : List PV) (p0_1n : Nat) (p0_1c : List PV) (p0_2 : Int) (p0_3 : Int) (p1 : Int) (p2_0 : Int) (p2_1 : Int) (p2_2 : Int) {res : ((Int) × (Int))} (h : tRfCheckWorst (Fn env) LRfCheckWorst_0 p0_0n p0_0c p0_1n p0_1c p0_2 p0_3 p1 p2_0 p2_1 p2_2 = some res) : FRfCheckWorst [PV.agg [PV.list p0_0n p0_0c, PV.list p0_1n p0_1c, PV.int IntKind.i64 p0_2, PV.int IntKind.i64 p0_3], PV.int IntKind.i64 p1, PV.agg [PV.int IntKind.i64 p2_0, PV.int IntKind.i64 p2_1, PV.int IntKind.i64 p2_2]] = some res :=
  fn_of ERfCheckWorst_ok rfl rfl (lo_cons (lpO_ok URfCheckWorst) lo_nil) ((tRfCheckWorst_eq _ _ _ _ _ _ _ _ _ _ _ _).trans h)

/-! ### LwLineProved -/

def ELwLineProved : List Entry := [.out 5 (RSh.one CK.bool), .out 6 (RSh.one CK.bool), .out 8 (RSh.agg [CK.list, CK.list, (CK.int IntKind.i64), (CK.int IntKind.i64)]), .out 7 (RSh.tup [(Prod.mk false [(CK.int IntKind.i64)]), (Prod.mk false [(CK.int IntKind.i64)])]), .out 9 (RSh.one (CK.int IntKind.i64)), .out 10 (RSh.one (CK.int IntKind.i64)), .out 11 (RSh.tup [(Prod.mk false [(CK.int IntKind.i64)]), (Prod.mk false [(CK.int IntKind.i64)])])]
theorem ELwLineProved_ok : ∀ e ∈ ELwLineProved, EntOK env e := (ent_out (ent_out (ent_out (ent_out (ent_out (ent_out (ent_out ent_nil)))))))
def TLwLineProved_1000014a (i0 : Int) (i1 : Int) (i2 : Int) (i3 : Int) (n4 : Nat) (c5 : List PV) (n6 : Nat) (c7 : List PV) (i8 : Int) (i9 : Int) (i10 : Int) (i11 : Int) (i12 : Int) : Q := ⟨(tm 54 [(1, (AV.p (PV.int IntKind.i64 i0))), (3, (AV.loc 3 0)), (5, (AV.loc 5 0)), (7, (AV.p (PV.int IntKind.i64 i1))), (8, (AV.p (PV.int IntKind.i64 i2))), (9, (AV.p (PV.int IntKind.i64 i3)))]), (mm 54 [(3, (Bk.cells true [(AV.p (PV.list n4 c5)), (AV.p (PV.list n6 c7)), (AV.p (PV.int IntKind.i64 i8)), (AV.p (PV.int IntKind.i64 i9))])), (5, (Bk.pcs true [(PV.int IntKind.i64 i10), (PV.int IntKind.i64 i11), (PV.int IntKind.i64 i12)]))])⟩
def XLwLineProved_1000014a (y : Int × Int × Int × Int × Nat × List PV × Nat × List PV × Int × Int × Int × Int × Int) : Ext × Q := (Ext.normal, ⟨(tm 54 [(1, (AV.p (PV.int IntKind.i64 y.1))), (3, (AV.loc 3 0)), (5, (AV.loc 5 0)), (7, (AV.p (PV.int IntKind.i64 y.2.1))), (8, (AV.p (PV.int IntKind.i64 y.2.2.1))), (9, (AV.p (PV.int IntKind.i64 y.2.2.2.1)))]), (mm 54 [(3, (Bk.cells true [(AV.p (PV.list y.2.2.2.2.1 y.2.2.2.2.2.1)), (AV.p (PV.list y.2.2.2.2.2.2.1 y.2.2.2.2.2.2.2.1)), (AV.p (PV.int IntKind.i64 y.2.2.2.2.2.2.2.2.1)), (AV.p (PV.int IntKind.i64 y.2.2.2.2.2.2.2.2.2.1))])), (5, (Bk.pcs true [(PV.int IntKind.i64 y.2.2.2.2.2.2.2.2.2.2.1), (PV.int IntKind.i64 y.2.2.2.2.2.2.2.2.2.2.2.1), (PV.int IntKind.i64 y.2.2.2.2.2.2.2.2.2.2.2.2)]))])⟩)
def ILwLineProved_1000014a (q : Ext × S) : Int × Int × Int × Int × Nat × List PV × Nat × List PV × Int × Int × Int × Int × Int := ((pP_int1 (pA_p (avT q.2 1))), (pP_int1 (pA_p (avT q.2 7))), (pP_int1 (pA_p (avT q.2 8))), (pP_int1 (pA_p (avT q.2 9))), (pP_list0 (pA_p (hdA (pB_cells1 (avM q.2 3))))), (pP_list1 (pA_p (hdA (pB_cells1 (avM q.2 3))))), (pP_list0 (pA_p (hdA (List.tail (pB_cells1 (avM q.2 3)))))), (pP_list1 (pA_p (hdA (List.tail (pB_cells1 (avM q.2 3)))))), (pP_int1 (pA_p (hdA (List.tail (List.tail (pB_cells1 (avM q.2 3))))))), (pP_int1 (pA_p (hdA (List.tail (List.tail (List.tail (pB_cells1 (avM q.2 3)))))))), (pP_int1 (hdP (pB_pcs1 (avM q.2 5)))), (pP_int1 (hdP (List.tail (pB_pcs1 (avM q.2 5))))), (pP_int1 (hdP (List.tail (List.tail (pB_pcs1 (avM q.2 5)))))))
abbrev YLwLineProved_1000014 : Type := Int × Int × Int × Int × Nat × List PV × Nat × List PV × Int × Int × Int × Int × Int
def XLLwLineProved_1000014 : XL YLwLineProved_1000014 := .one XLwLineProved_1000014a
def ILwLineProved_1000014 (q : Ext × S) : YLwLineProved_1000014 := (ILwLineProved_1000014a q)
theorem XILwLineProved_1000014a (y : Int × Int × Int × Int × Nat × List PV × Nat × List PV × Int × Int × Int × Int × Int) : ILwLineProved_1000014 (xe (XLwLineProved_1000014a y)) = y := rfl
theorem XILwLineProved_1000014 (y : YLwLineProved_1000014) : ILwLineProved_1000014 (xe (XLLwLineProved_1000014.fn y)) = y := XILwLineProved_1000014a y
noncomputable abbrev LLwLineProved_1000014 : Q → Option YLwLineProved_1000014 := lpO env a3.body 1000014 XLLwLineProved_1000014
noncomputable abbrev RLwLineProved_1000014 : Q → Option (Ext × S) := lpR env a3.body 1000014
theorem LLwLineProved_1000014a_of {s : Q} {y : Int × Int × Int × Int × Nat × List PV × Nat × List PV × Int × Int × Int × Int × Int} (h : RLwLineProved_1000014 s = exO (XLwLineProved_1000014a y)) : LLwLineProved_1000014 s = some y := lpO_of ILwLineProved_1000014 XILwLineProved_1000014 (y := y) h
theorem ULwLineProved : uniq ((blocksOf a3.body).map (·.1)) = true := by kernel_rfl
def BLwLineProved_1000014a (F : FnT) (_N : Q → Option (Ext × S)) (E : Ext × Q → Option (Ext × S)) (_L1000014 : Q → Option YLwLineProved_1000014) (i0 : Int) (i1 : Int) (i2 : Int) (i3 : Int) (n4 : Nat) (c5 : List PV) (n6 : Nat) (c7 : List PV) (i8 : Int) (i9 : Int) (i10 : Int) (i11 : Int) (i12 : Int) : Option (Ext × S) :=
  bif (i3 == (0 : Int)) then
    bindO (F 10 (RSh.one (CK.int IntKind.i64)) [(PV.int IntKind.i64 i0)]) fun (y0 : (Int)) =>
    E (XLwLineProved_1000014a (i0, i1, i2, y0, n4, c5, n6, c7, i8, i9, i10, i11, i12))
  else E (XLwLineProved_1000014a (i0, i1, i2, i3, n4, c5, n6, c7, i8, i9, i10, i11, i12))
theorem BLwLineProved_1000014a_eq (F : FnT) (N : Q → Option (Ext × S)) (E : Ext × Q → Option (Ext × S)) (L1000014 : Q → Option YLwLineProved_1000014) (i0 : Int) (i1 : Int) (i2 : Int) (i3 : Int) (n4 : Nat) (c5 : List PV) (n6 : Nat) (c7 : List PV) (i8 : Int) (i9 : Int) (i10 : Int) (i11 : Int) (i12 : Int) : semN (callP F ELwLineProved 20) s3 (loopT [⟨1000014, YLwLineProved_1000014, L1000014, XLLwLineProved_1000014⟩]) 400 (blkIn a3.body 1000014) E (TLwLineProved_1000014a i0 i1 i2 i3 n4 c5 n6 c7 i8 i9 i10 i11 i12) = BLwLineProved_1000014a F N E L1000014 i0 i1 i2 i3 n4 c5 n6 c7 i8 i9 i10 i11 i12 := by kernel_rfl
theorem RLwLineProved_1000014a_of  (i0 : Int) (i1 : Int) (i2 : Int) (i3 : Int) (n4 : Nat) (c5 : List PV) (n6 : Nat) (c7 : List PV) (i8 : Int) (i9 : Int) (i10 : Int) (i11 : Int) (i12 : Int) {r : Ext × S} (h : BLwLineProved_1000014a (Fn env) RLwLineProved_1000014 exO LLwLineProved_1000014 i0 i1 i2 i3 n4 c5 n6 c7 i8 i9 i10 i11 i12 = some r) : RLwLineProved_1000014 (TLwLineProved_1000014a i0 i1 i2 i3 n4 c5 n6 c7 i8 i9 i10 i11 i12) = some r :=
  nd_of ELwLineProved_ok (by kernel_rfl) (lo_cons (lpO_ok ULwLineProved) lo_nil) (by kernel_rfl) ((BLwLineProved_1000014a_eq _ RLwLineProved_1000014 _ _ _ _ _ _ _ _ _ _ _ _ _ _ _).trans h)
def tLwLineProved (F : FnT) (L1000014 : Q → Option YLwLineProved_1000014) (p0_0n : Nat) (p0_0c : List PV) (p0_1n : Nat) (p0_1c : List PV) (p0_2 : Int) (p0_3 : Int) (p1 : Int) (p2_0 : Int) (p2_1 : Int) (p2_2 : Int) : Option (Bool) :=
  bindO (F 5 (RSh.one CK.bool) []) fun (y0 : (Bool)) =>
  bif y0 then
    bindO (F 6 (RSh.one CK.bool) [(PV.agg [(PV.list p0_0n p0_0c), (PV.list p0_1n p0_1c), (PV.int IntKind.i64 p0_2), (PV.int IntKind.i64 p0_3)])]) fun (y1 : (Bool)) =>
    bif y1 then
      bindO (F 8 (RSh.agg [CK.list, CK.list, (CK.int IntKind.i64), (CK.int IntKind.i64)]) [(PV.agg [(PV.list p0_0n p0_0c), (PV.list p0_1n p0_1c), (PV.int IntKind.i64 p0_2), (PV.int IntKind.i64 p0_3)])]) fun (y2 : (((Nat) × (List PV)) × (((Nat) × (List PV)) × ((Int) × (Int))))) =>
      bindO (F 7 (RSh.tup [(Prod.mk false [(CK.int IntKind.i64)]), (Prod.mk false [(CK.int IntKind.i64)])]) [(PV.agg [(PV.list y2.1.1 y2.1.2), (PV.list y2.2.1.1 y2.2.1.2), (PV.int IntKind.i64 y2.2.2.1), (PV.int IntKind.i64 y2.2.2.2)]), (PV.int IntKind.i64 p1), (PV.agg [(PV.int IntKind.i64 p2_0), (PV.int IntKind.i64 p2_1), (PV.int IntKind.i64 p2_2)])]) fun (y3 : ((Int) × (Int))) =>
      bindO (F 9 (RSh.one (CK.int IntKind.i64)) [(PV.agg [(PV.list p0_0n p0_0c), (PV.list p0_1n p0_1c), (PV.int IntKind.i64 p0_2), (PV.int IntKind.i64 p0_3)])]) fun (y4 : (Int)) =>
      bindO (L1000014 (TLwLineProved_1000014a p1 y3.1 y3.2 y4 p0_0n p0_0c p0_1n p0_1c p0_2 p0_3 p2_0 p2_1 p2_2)) fun y5 =>
      bif (y5.2.2.2.1 != (0 : Int)) then
        bif (y5.2.2.1 == y5.2.2.2.1) then
          bif (y5.2.1 == (0 : Int)) then
            some true
          else some false
        else some false
      else bindO (F 11 (RSh.tup [(Prod.mk false [(CK.int IntKind.i64)]), (Prod.mk false [(CK.int IntKind.i64)])]) [(PV.agg [(PV.list y5.2.2.2.2.1 y5.2.2.2.2.2.1), (PV.list y5.2.2.2.2.2.2.1 y5.2.2.2.2.2.2.2.1), (PV.int IntKind.i64 y5.2.2.2.2.2.2.2.2.1), (PV.int IntKind.i64 y5.2.2.2.2.2.2.2.2.2.1)]), (PV.int IntKind.i64 y5.1), (PV.agg [(PV.int IntKind.i64 y5.2.2.2.2.2.2.2.2.2.2.1), (PV.int IntKind.i64 y5.2.2.2.2.2.2.2.2.2.2.2.1), (PV.int IntKind.i64 y5.2.2.2.2.2.2.2.2.2.2.2.2)])]) fun (y6 : ((Int) × (Int))) =>
      bif (y5.2.2.1 == y6.2) then
        bif (y5.2.1 == y6.1) then
          some true
        else some false
      else some false
    else some true
  else some false
theorem tLwLineProved_eq (F : FnT) (L1000014 : Q → Option YLwLineProved_1000014) (p0_0n : Nat) (p0_0c : List PV) (p0_1n : Nat) (p0_1c : List PV) (p0_2 : Int) (p0_3 : Int) (p1 : Int) (p2_0 : Int) (p2_1 : Int) (p2_2 : Int) : semF (callP F ELwLineProved 20) s3 (loopT [⟨1000014, YLwLineProved_1000014, L1000014, XLLwLineProved_1000014⟩]) 400 a3 [PV.agg [PV.list p0_0n p0_0c, PV.list p0_1n p0_1c, PV.int IntKind.i64 p0_2, PV.int IntKind.i64 p0_3], PV.int IntKind.i64 p1, PV.agg [PV.int IntKind.i64 p2_0, PV.int IntKind.i64 p2_1, PV.int IntKind.i64 p2_2]] (fun rv => decR (RSh.one CK.bool) rv.pv) = tLwLineProved F L1000014 p0_0n p0_0c p0_1n p0_1c p0_2 p0_3 p1 p2_0 p2_1 p2_2 := by kernel_rfl
noncomputable abbrev FLwLineProved (args : List PV) := Fn env 3 (RSh.one CK.bool) args
theorem FLwLineProved_of  (p0_0n : Nat) (p0_0c : List PV) (p0_1n : Nat) (p0_1c : List PV) (p0_2 : Int) (p0_3 : Int) (p1 : Int) (p2_0 : Int) (p2_1 : Int) (p2_2 : Int) {res : (Bool)} (h : tLwLineProved (Fn env) LLwLineProved_1000014 p0_0n p0_0c p0_1n p0_1c p0_2 p0_3 p1 p2_0 p2_1 p2_2 = some res) : FLwLineProved [PV.agg [PV.list p0_0n p0_0c, PV.list p0_1n p0_1c, PV.int IntKind.i64 p0_2, PV.int IntKind.i64 p0_3], PV.int IntKind.i64 p1, PV.agg [PV.int IntKind.i64 p2_0, PV.int IntKind.i64 p2_1, PV.int IntKind.i64 p2_2]] = some res :=
  fn_of ELwLineProved_ok rfl rfl (lo_cons (lpO_ok ULwLineProved) lo_nil) ((tLwLineProved_eq _ _ _ _ _ _ _ _ _ _ _ _).trans h)

end Gv
