/- What the functions do, round by round: P23. -/
import Derived.Test.YtojjhhhbdcopmaaP20
namespace Gv
open Go
set_option maxRecDepth 100000

/-! ### pulse_Added -/

def Epulse_Added : List Entry := [.inl 116 a116 s116, .out 114 (RSh.one (CK.int IntKind.i64)), .out 96 (RSh.one (CK.int IntKind.i64)), .out 91 (RSh.one (CK.int IntKind.i64)), .out 115 (RSh.one CK.list), .out 146 (RSh.one CK.list), .out 117 (RSh.agg [(CK.int IntKind.i64), (CK.int IntKind.i64)]), .out 118 (RSh.one CK.list)]
theorem Epulse_Added_ok : ∀ e ∈ Epulse_Added, EntOK env e := (ent_inl rfl (ent_out (ent_out (ent_out (ent_out (ent_out (ent_out (ent_out ent_nil))))))))
def Tpulse_Added_3000075a (n0 : Nat) (c1 : List PV) (n2 : Nat) (c3 : List PV) (n4 : Nat) (c5 : List PV) (n6 : Nat) (c7 : List PV) (i8 : Int) (i9 : Int) : Q := ⟨(tm 99 [(2, (AV.loc 2 0)), (4, (AV.loc 4 0)), (7, (AV.p (PV.list n0 c1))), (8, (AV.loc 8 0)), (75, (AV.p (PV.list n2 c3))), (76, (AV.p (PV.int IntKind.i64 (0 : Int))))]), (mm 99 [(2, (Bk.cells true [(AV.p (PV.list n4 c5)), (AV.p (PV.list n6 c7)), (AV.p (PV.int IntKind.i64 i8))])), (4, (Bk.cells true [AV.nilS, AV.nilS, (AV.p (PV.int IntKind.i64 (0 : Int)))])), (8, (Bk.cells true [AV.nilS, AV.nilS, (AV.p (PV.int IntKind.i64 i9))]))])⟩
def Tpulse_Added_3000075b (n0 : Nat) (c1 : List PV) (n2 : Nat) (c3 : List PV) (i4 : Int) (n5 : Nat) (c6 : List PV) (n7 : Nat) (c8 : List PV) (i9 : Int) (n10 : Nat) (c11 : List PV) (i12 : Int) (n13 : Nat) : Q := ⟨(tm 99 [(2, (AV.loc 2 0)), (4, (AV.loc 4 0)), (7, (AV.p (PV.list n0 c1))), (8, (AV.loc 8 0)), (75, (AV.p (PV.list n2 c3))), (76, (AV.p (PV.int IntKind.i64 i4)))]), (mm 99 [(2, (Bk.cells true [(AV.p (PV.list n5 c6)), (AV.p (PV.list n7 c8)), (AV.p (PV.int IntKind.i64 i9))])), (4, (Bk.cells true [AV.nilS, AV.nilS, (AV.p (PV.int IntKind.i64 (0 : Int)))])), (8, (Bk.cells true [(AV.app 53 n10 2 c11), AV.nilS, (AV.p (PV.int IntKind.i64 i12))])), (53, (Bk.buf n13))])⟩
def Xpulse_Added_3000075a (y : Nat × List PV × Nat × List PV × Nat × List PV × Int × Int) : Ext × Q := (Ext.normal, ⟨(tm 99 [(2, (AV.loc 2 0)), (4, (AV.loc 4 0)), (7, (AV.p (PV.list y.1 y.2.1))), (8, (AV.loc 8 0))]), (mm 99 [(2, (Bk.cells true [(AV.p (PV.list y.2.2.1 y.2.2.2.1)), (AV.p (PV.list y.2.2.2.2.1 y.2.2.2.2.2.1)), (AV.p (PV.int IntKind.i64 y.2.2.2.2.2.2.1))])), (4, (Bk.cells true [AV.nilS, AV.nilS, (AV.p (PV.int IntKind.i64 (0 : Int)))])), (8, (Bk.cells true [AV.nilS, AV.nilS, (AV.p (PV.int IntKind.i64 y.2.2.2.2.2.2.2))]))])⟩)
def Ipulse_Added_3000075a (q : Ext × S) : Nat × List PV × Nat × List PV × Nat × List PV × Int × Int := ((pP_list0 (pA_p (avT q.2 7))), (pP_list1 (pA_p (avT q.2 7))), (pP_list0 (pA_p (hdA (pB_cells1 (avM q.2 2))))), (pP_list1 (pA_p (hdA (pB_cells1 (avM q.2 2))))), (pP_list0 (pA_p (hdA (List.tail (pB_cells1 (avM q.2 2)))))), (pP_list1 (pA_p (hdA (List.tail (pB_cells1 (avM q.2 2)))))), (pP_int1 (pA_p (hdA (List.tail (List.tail (pB_cells1 (avM q.2 2))))))), (pP_int1 (pA_p (hdA (List.tail (List.tail (pB_cells1 (avM q.2 8))))))))
def Xpulse_Added_3000075b (y : Nat × List PV × Nat × List PV × Nat × List PV × Int × Nat × List PV × Int × Nat) : Ext × Q := (Ext.normal, ⟨(tm 99 [(2, (AV.loc 2 0)), (4, (AV.loc 4 0)), (7, (AV.p (PV.list y.1 y.2.1))), (8, (AV.loc 8 0))]), (mm 99 [(2, (Bk.cells true [(AV.p (PV.list y.2.2.1 y.2.2.2.1)), (AV.p (PV.list y.2.2.2.2.1 y.2.2.2.2.2.1)), (AV.p (PV.int IntKind.i64 y.2.2.2.2.2.2.1))])), (4, (Bk.cells true [AV.nilS, AV.nilS, (AV.p (PV.int IntKind.i64 (0 : Int)))])), (8, (Bk.cells true [(AV.app 53 y.2.2.2.2.2.2.2.1 2 y.2.2.2.2.2.2.2.2.1), AV.nilS, (AV.p (PV.int IntKind.i64 y.2.2.2.2.2.2.2.2.2.1))])), (53, (Bk.buf y.2.2.2.2.2.2.2.2.2.2))])⟩)
def Ipulse_Added_3000075b (q : Ext × S) : Nat × List PV × Nat × List PV × Nat × List PV × Int × Nat × List PV × Int × Nat := ((pP_list0 (pA_p (avT q.2 7))), (pP_list1 (pA_p (avT q.2 7))), (pP_list0 (pA_p (hdA (pB_cells1 (avM q.2 2))))), (pP_list1 (pA_p (hdA (pB_cells1 (avM q.2 2))))), (pP_list0 (pA_p (hdA (List.tail (pB_cells1 (avM q.2 2)))))), (pP_list1 (pA_p (hdA (List.tail (pB_cells1 (avM q.2 2)))))), (pP_int1 (pA_p (hdA (List.tail (List.tail (pB_cells1 (avM q.2 2))))))), (pA_app1 (hdA (pB_cells1 (avM q.2 8)))), (pA_app3 (hdA (pB_cells1 (avM q.2 8)))), (pP_int1 (pA_p (hdA (List.tail (List.tail (pB_cells1 (avM q.2 8))))))), (pB_buf0 (avM q.2 53)))
abbrev Ypulse_Added_3000075 : Type := (Nat × List PV × Nat × List PV × Nat × List PV × Int × Int) ⊕ ((Nat × List PV × Nat × List PV × Nat × List PV × Int × Nat × List PV × Int × Nat))
def XLpulse_Added_3000075 : XL Ypulse_Added_3000075 := .more Xpulse_Added_3000075a (.one Xpulse_Added_3000075b)
def Ipulse_Added_3000075 (q : Ext × S) : Ypulse_Added_3000075 := bif (cA (hdA (pB_cells1 (avM q.2 8))) == 1) then (Sum.inl (Ipulse_Added_3000075a q)) else (Sum.inr (Ipulse_Added_3000075b q))
theorem XIpulse_Added_3000075a (y : Nat × List PV × Nat × List PV × Nat × List PV × Int × Int) : Ipulse_Added_3000075 (xe (Xpulse_Added_3000075a y)) = (Sum.inl y) := rfl
theorem XIpulse_Added_3000075b (y : Nat × List PV × Nat × List PV × Nat × List PV × Int × Nat × List PV × Int × Nat) : Ipulse_Added_3000075 (xe (Xpulse_Added_3000075b y)) = (Sum.inr y) := rfl
theorem XIpulse_Added_3000075 (y : Ypulse_Added_3000075) : Ipulse_Added_3000075 (xe (XLpulse_Added_3000075.fn y)) = y := (match y with | .inl y => XIpulse_Added_3000075a y | .inr y => XIpulse_Added_3000075b y)
noncomputable abbrev Lpulse_Added_3000075 : Q → Option Ypulse_Added_3000075 := lpO env a55.body 3000075 XLpulse_Added_3000075
noncomputable abbrev Rpulse_Added_3000075 : Q → Option (Ext × S) := lpR env a55.body 3000075
theorem Lpulse_Added_3000075a_of {s : Q} {y : Nat × List PV × Nat × List PV × Nat × List PV × Int × Int} (h : Rpulse_Added_3000075 s = exO (Xpulse_Added_3000075a y)) : Lpulse_Added_3000075 s = some (Sum.inl y) := lpO_of Ipulse_Added_3000075 XIpulse_Added_3000075 (y := (Sum.inl y)) h
theorem Lpulse_Added_3000075b_of {s : Q} {y : Nat × List PV × Nat × List PV × Nat × List PV × Int × Nat × List PV × Int × Nat} (h : Rpulse_Added_3000075 s = exO (Xpulse_Added_3000075b y)) : Lpulse_Added_3000075 s = some (Sum.inr y) := lpO_of Ipulse_Added_3000075 XIpulse_Added_3000075 (y := (Sum.inr y)) h
theorem Upulse_Added : uniq ((blocksOf a55.body).map (·.1)) = true := by kernel_rfl
def Bpulse_Added_3000075a (F : FnT) (N : Q → Option (Ext × S)) (E : Ext × Q → Option (Ext × S)) (_L3000075 : Q → Option Ypulse_Added_3000075) (n0 : Nat) (c1 : List PV) (n2 : Nat) (c3 : List PV) (n4 : Nat) (c5 : List PV) (n6 : Nat) (c7 : List PV) (i8 : Int) (i9 : Int) : Option (Ext × S) :=
  bif (decide ((0 : Int) < (n2 : Int))) then
    bif (decide (((0 : Int) ≤ (0 : Int)) ∧ ((0 : Int) < (n2 : Int)))) then
      bindO (intC IntKind.i64 (c3[0]?)) fun x0 =>
      bindO (intC IntKind.i64 (c3[1]?)) fun x1 =>
      bindO (intC IntKind.i64 (c3[2]?)) fun x2 =>
      bif (decide (((0 : Int) ≤ x0) ∧ (x0 < (n4 : Int)))) then
        bindO (intC IntKind.i64 (c5[((Int.toNat x0) * 2)]?)) fun x3 =>
        bindO (intC IntKind.i64 (c5[(((Int.toNat x0) * 2) + 1)]?)) fun x4 =>
        bindO (F 117 (RSh.agg [(CK.int IntKind.i64), (CK.int IntKind.i64)]) [(PV.agg [(PV.int IntKind.i64 x3), (PV.int IntKind.i64 x4)]), (PV.agg [(PV.int IntKind.i64 x1), (PV.int IntKind.i64 x2)])]) fun (y5 : ((Int) × (Int))) =>
        N (Tpulse_Added_3000075b n0 c1 n2 c3 (1 : Int) n4 c5 n6 c7 i8 1 [(PV.int IntKind.i64 y5.1), (PV.int IntKind.i64 y5.2)] i9 1)
      else none
    else none
  else E (Xpulse_Added_3000075a (n0, c1, n4, c5, n6, c7, i8, i9))
theorem Bpulse_Added_3000075a_eq (F : FnT) (N : Q → Option (Ext × S)) (E : Ext × Q → Option (Ext × S)) (L3000075 : Q → Option Ypulse_Added_3000075) (n0 : Nat) (c1 : List PV) (n2 : Nat) (c3 : List PV) (n4 : Nat) (c5 : List PV) (n6 : Nat) (c7 : List PV) (i8 : Int) (i9 : Int) : semB (callP F Epulse_Added 20) s55 (loopT [⟨3000075, Ypulse_Added_3000075, L3000075, XLpulse_Added_3000075⟩]) 400 (blkIn a55.body 3000075) N E (Tpulse_Added_3000075a n0 c1 n2 c3 n4 c5 n6 c7 i8 i9) = Bpulse_Added_3000075a F N E L3000075 n0 c1 n2 c3 n4 c5 n6 c7 i8 i9 := by kernel_rfl
theorem Rpulse_Added_3000075a_of  (n0 : Nat) (c1 : List PV) (n2 : Nat) (c3 : List PV) (n4 : Nat) (c5 : List PV) (n6 : Nat) (c7 : List PV) (i8 : Int) (i9 : Int) {r : Ext × S} (h : Bpulse_Added_3000075a (Fn env) Rpulse_Added_3000075 exO Lpulse_Added_3000075 n0 c1 n2 c3 n4 c5 n6 c7 i8 i9 = some r) : Rpulse_Added_3000075 (Tpulse_Added_3000075a n0 c1 n2 c3 n4 c5 n6 c7 i8 i9) = some r :=
  lp_of Epulse_Added_ok (by kernel_rfl) (lo_cons (lpO_ok Upulse_Added) lo_nil) (by kernel_rfl) ((Bpulse_Added_3000075a_eq _ _ _ _ _ _ _ _ _ _ _ _ _ _).trans h)
def Bpulse_Added_3000075b (F : FnT) (N : Q → Option (Ext × S)) (E : Ext × Q → Option (Ext × S)) (_L3000075 : Q → Option Ypulse_Added_3000075) (n0 : Nat) (c1 : List PV) (n2 : Nat) (c3 : List PV) (i4 : Int) (n5 : Nat) (c6 : List PV) (n7 : Nat) (c8 : List PV) (i9 : Int) (n10 : Nat) (c11 : List PV) (i12 : Int) (n13 : Nat) : Option (Ext × S) :=
  bif (decide (i4 < (n2 : Int))) then
    bif (decide (((0 : Int) ≤ i4) ∧ (i4 < (n2 : Int)))) then
      bindO (intC IntKind.i64 (c3[(((Int.toNat i4) * 3) + 0)]?)) fun x0 =>
      bindO (intC IntKind.i64 (c3[(((Int.toNat i4) * 3) + 1)]?)) fun x1 =>
      bindO (intC IntKind.i64 (c3[((((Int.toNat i4) * 3) + 1) + 1)]?)) fun x2 =>
      bif (decide (((0 : Int) ≤ x0) ∧ (x0 < (n5 : Int)))) then
        bindO (intC IntKind.i64 (c6[((Int.toNat x0) * 2)]?)) fun x3 =>
        bindO (intC IntKind.i64 (c6[(((Int.toNat x0) * 2) + 1)]?)) fun x4 =>
        bindO (F 117 (RSh.agg [(CK.int IntKind.i64), (CK.int IntKind.i64)]) [(PV.agg [(PV.int IntKind.i64 x3), (PV.int IntKind.i64 x4)]), (PV.agg [(PV.int IntKind.i64 x1), (PV.int IntKind.i64 x2)])]) fun (y5 : ((Int) × (Int))) =>
        bif (decide ((n13 = n10) ∧ ((n10 + 1) ≤ big))) then
          N (Tpulse_Added_3000075b n0 c1 n2 c3 (w64 (i4 + (1 : Int))) n5 c6 n7 c8 i9 (n10 + 1) (c11 ++ [(PV.int IntKind.i64 y5.1), (PV.int IntKind.i64 y5.2)]) i12 (n10 + 1))
        else none
      else none
    else none
  else E (Xpulse_Added_3000075b (n0, c1, n5, c6, n7, c8, i9, n10, c11, i12, n13))
theorem Bpulse_Added_3000075b_eq (F : FnT) (N : Q → Option (Ext × S)) (E : Ext × Q → Option (Ext × S)) (L3000075 : Q → Option Ypulse_Added_3000075) (n0 : Nat) (c1 : List PV) (n2 : Nat) (c3 : List PV) (i4 : Int) (n5 : Nat) (c6 : List PV) (n7 : Nat) (c8 : List PV) (i9 : Int) (n10 : Nat) (c11 : List PV) (i12 : Int) (n13 : Nat) : semB (callP F Epulse_Added 20) s55 (loopT [⟨3000075, Ypulse_Added_3000075, L3000075, XLpulse_Added_3000075⟩]) 400 (blkIn a55.body 3000075) N E (Tpulse_Added_3000075b n0 c1 n2 c3 i4 n5 c6 n7 c8 i9 n10 c11 i12 n13) = Bpulse_Added_3000075b F N E L3000075 n0 c1 n2 c3 i4 n5 c6 n7 c8 i9 n10 c11 i12 n13 := by kernel_rfl
theorem Rpulse_Added_3000075b_of  (n0 : Nat) (c1 : List PV) (n2 : Nat) (c3 : List PV) (i4 : Int) (n5 : Nat) (c6 : List PV) (n7 : Nat) (c8 : List PV) (i9 : Int) (n10 : Nat) (c11 : List PV) (i12 : Int) (n13 : Nat) {r : Ext × S} (h : Bpulse_Added_3000075b (Fn env) Rpulse_Added_3000075 exO Lpulse_Added_3000075 n0 c1 n2 c3 i4 n5 c6 n7 c8 i9 n10 c11 i12 n13 = some r) : Rpulse_Added_3000075 (Tpulse_Added_3000075b n0 c1 n2 c3 i4 n5 c6 n7 c8 i9 n10 c11 i12 n13) = some r :=
  lp_of Epulse_Added_ok (by kernel_rfl) (lo_cons (lpO_ok Upulse_Added) lo_nil) (by kernel_rfl) ((Bpulse_Added_3000075b_eq _ _ _ _ _ _ _ _ _ _ _ _ _ _ _ _ _ _).trans h)
def tpulse_Added (F : FnT) (L3000075 : Q → Option Ypulse_Added_3000075) (p0_0n : Nat) (p0_0c : List PV) (p0_1n : Nat) (p0_1c : List PV) (p0_2 : Int) (p1n : Nat) (p1c : List PV) : Option (((Nat) × (List PV)) × (((Nat) × (List PV)) × ((Int) × (Int)))) :=
  bindO (F 114 (RSh.one (CK.int IntKind.i64)) [(PV.agg [(PV.list p0_0n p0_0c), (PV.list p0_1n p0_1c), (PV.int IntKind.i64 p0_2)])]) fun (y0 : (Int)) =>
  bindO (F 96 (RSh.one (CK.int IntKind.i64)) [(PV.list p1n p1c)]) fun (y1 : (Int)) =>
  bindO (F 91 (RSh.one (CK.int IntKind.i64)) [(PV.list 2 [(PV.int IntKind.i64 y0), (PV.int IntKind.i64 y1)])]) fun (y2 : (Int)) =>
  bif (y2 != (0 : Int)) then
    some ((0, []), ((0, []), ((0 : Int), y2)))
  else bindO (F 115 (RSh.one CK.list) [(PV.list 2 [(PV.list p0_1n p0_1c), (PV.list p1n p1c)])]) fun (y3 : ((Nat) × (List PV))) =>
  bindO (F 146 (RSh.one CK.list) [(PV.it [Option.none, (Option.some 2)] 0), (PV.imm [(PV.int IntKind.i64 (p0_0n : Int))] 0), (PV.imm [(PV.list y3.1 y3.2)] 0), (PV.imm [(PV.int IntKind.i64 (p0_1n : Int))] 0)]) fun (y4 : ((Nat) × (List PV))) =>
  bindO (L3000075 (Tpulse_Added_3000075a y3.1 y3.2 y4.1 y4.2 p0_0n p0_0c p0_1n p0_1c p0_2 (w64 (p0_2 + (p1n : Int))))) fun z =>
  Sum.elim (fun y5 =>
    bif (decide (((0 : Int) ≤ (w64 ((y5.1 : Int) - (if ((w64 ((y5.2.2.1 : Int) - (1 : Int))) < (y5.1 : Int)) then (w64 ((y5.2.2.1 : Int) - (1 : Int))) else (y5.1 : Int))))) ∧ ((w64 ((y5.1 : Int) - (if ((w64 ((y5.2.2.1 : Int) - (1 : Int))) < (y5.1 : Int)) then (w64 ((y5.2.2.1 : Int) - (1 : Int))) else (y5.1 : Int)))) ≤ ((Prod.mk y5.1 y5.2.1).1 : Int)))) then
      bif (decide (((Int.toNat (w64 ((y5.1 : Int) - (if ((w64 ((y5.2.2.1 : Int) - (1 : Int))) < (y5.1 : Int)) then (w64 ((y5.2.2.1 : Int) - (1 : Int))) else (y5.1 : Int))))) = (Prod.mk y5.1 y5.2.1).1) ∨ ((((Int.toNat (w64 ((y5.1 : Int) - (if ((w64 ((y5.2.2.1 : Int) - (1 : Int))) < (y5.1 : Int)) then (w64 ((y5.2.2.1 : Int) - (1 : Int))) else (y5.1 : Int))))) * 2) + (((Prod.mk y5.1 y5.2.1).1 - (Int.toNat (w64 ((y5.1 : Int) - (if ((w64 ((y5.2.2.1 : Int) - (1 : Int))) < (y5.1 : Int)) then (w64 ((y5.2.2.1 : Int) - (1 : Int))) else (y5.1 : Int)))))) * 2)) ≤ (List.length y5.2.1)))) then
        bindO (F 118 (RSh.one CK.list) [(PV.list ((Prod.mk y5.1 y5.2.1).1 - (Int.toNat (w64 ((y5.1 : Int) - (if ((w64 ((y5.2.2.1 : Int) - (1 : Int))) < (y5.1 : Int)) then (w64 ((y5.2.2.1 : Int) - (1 : Int))) else (y5.1 : Int)))))) (List.take (((Prod.mk y5.1 y5.2.1).1 - (Int.toNat (w64 ((y5.1 : Int) - (if ((w64 ((y5.2.2.1 : Int) - (1 : Int))) < (y5.1 : Int)) then (w64 ((y5.2.2.1 : Int) - (1 : Int))) else (y5.1 : Int)))))) * 2) (List.drop ((Int.toNat (w64 ((y5.1 : Int) - (if ((w64 ((y5.2.2.1 : Int) - (1 : Int))) < (y5.1 : Int)) then (w64 ((y5.2.2.1 : Int) - (1 : Int))) else (y5.1 : Int))))) * 2) y5.2.1)))]) fun (y6 : ((Nat) × (List PV))) =>
        bindO (F 114 (RSh.one (CK.int IntKind.i64)) [(PV.agg [(PV.list 0 []), (PV.list y6.1 y6.2), (PV.int IntKind.i64 y5.2.2.2.2.2.2.2)])]) fun (y7 : (Int)) =>
        bif (y7 != (0 : Int)) then
          some ((0, []), ((0, []), ((0 : Int), (20 : Int))))
        else some ((0, []), ((y6.1, y6.2), (y5.2.2.2.2.2.2.2, (0 : Int))))
      else none
    else none) (fun y8 =>
    bif (decide (((0 : Int) ≤ (w64 ((y8.1 : Int) - (if ((w64 ((y8.2.2.1 : Int) - (1 : Int))) < (y8.1 : Int)) then (w64 ((y8.2.2.1 : Int) - (1 : Int))) else (y8.1 : Int))))) ∧ ((w64 ((y8.1 : Int) - (if ((w64 ((y8.2.2.1 : Int) - (1 : Int))) < (y8.1 : Int)) then (w64 ((y8.2.2.1 : Int) - (1 : Int))) else (y8.1 : Int)))) ≤ ((Prod.mk y8.1 y8.2.1).1 : Int)))) then
      bif (decide (((Int.toNat (w64 ((y8.1 : Int) - (if ((w64 ((y8.2.2.1 : Int) - (1 : Int))) < (y8.1 : Int)) then (w64 ((y8.2.2.1 : Int) - (1 : Int))) else (y8.1 : Int))))) = (Prod.mk y8.1 y8.2.1).1) ∨ ((((Int.toNat (w64 ((y8.1 : Int) - (if ((w64 ((y8.2.2.1 : Int) - (1 : Int))) < (y8.1 : Int)) then (w64 ((y8.2.2.1 : Int) - (1 : Int))) else (y8.1 : Int))))) * 2) + (((Prod.mk y8.1 y8.2.1).1 - (Int.toNat (w64 ((y8.1 : Int) - (if ((w64 ((y8.2.2.1 : Int) - (1 : Int))) < (y8.1 : Int)) then (w64 ((y8.2.2.1 : Int) - (1 : Int))) else (y8.1 : Int)))))) * 2)) ≤ (List.length y8.2.1)))) then
        bindO (F 118 (RSh.one CK.list) [(PV.list ((Prod.mk y8.1 y8.2.1).1 - (Int.toNat (w64 ((y8.1 : Int) - (if ((w64 ((y8.2.2.1 : Int) - (1 : Int))) < (y8.1 : Int)) then (w64 ((y8.2.2.1 : Int) - (1 : Int))) else (y8.1 : Int)))))) (List.take (((Prod.mk y8.1 y8.2.1).1 - (Int.toNat (w64 ((y8.1 : Int) - (if ((w64 ((y8.2.2.1 : Int) - (1 : Int))) < (y8.1 : Int)) then (w64 ((y8.2.2.1 : Int) - (1 : Int))) else (y8.1 : Int)))))) * 2) (List.drop ((Int.toNat (w64 ((y8.1 : Int) - (if ((w64 ((y8.2.2.1 : Int) - (1 : Int))) < (y8.1 : Int)) then (w64 ((y8.2.2.1 : Int) - (1 : Int))) else (y8.1 : Int))))) * 2) y8.2.1)))]) fun (y9 : ((Nat) × (List PV))) =>
        bindO (F 114 (RSh.one (CK.int IntKind.i64)) [(PV.agg [(PV.list y8.2.2.2.2.2.2.2.1 y8.2.2.2.2.2.2.2.2.1), (PV.list y9.1 y9.2), (PV.int IntKind.i64 y8.2.2.2.2.2.2.2.2.2.1)])]) fun (y10 : (Int)) =>
        bif (y10 != (0 : Int)) then
          some ((0, []), ((0, []), ((0 : Int), (20 : Int))))
        else some ((y8.2.2.2.2.2.2.2.1, y8.2.2.2.2.2.2.2.2.1), ((y9.1, y9.2), (y8.2.2.2.2.2.2.2.2.2.1, (0 : Int))))
      else none
    else none) z
theorem tpulse_Added_eq (F : FnT) (L3000075 : Q → Option Ypulse_Added_3000075) (p0_0n : Nat) (p0_0c : List PV) (p0_1n : Nat) (p0_1c : List PV) (p0_2 : Int) (p1n : Nat) (p1c : List PV) : semF (callP F Epulse_Added 20) s55 (loopT [⟨3000075, Ypulse_Added_3000075, L3000075, XLpulse_Added_3000075⟩]) 400 a55 [PV.agg [PV.list p0_0n p0_0c, PV.list p0_1n p0_1c, PV.int IntKind.i64 p0_2], PV.list p1n p1c] (fun rv => decR (RSh.tup [(Prod.mk true [CK.list, CK.list, (CK.int IntKind.i64)]), (Prod.mk false [(CK.int IntKind.i64)])]) rv.pv) = tpulse_Added F L3000075 p0_0n p0_0c p0_1n p0_1c p0_2 p1n p1c := by kernel_rfl
noncomputable abbrev Fpulse_Added (args : List PV) := Fn env 55 (RSh.tup [(Prod.mk true [CK.list, CK.list, (CK.int IntKind.i64)]), (Prod.mk false [(CK.int IntKind.i64)])]) args
theorem Fpulse_Added_of  (p0_0n : Nat) (p0_0c : List PV) (p0_1n : Nat) (p0_1c : List PV) (p0_2 : Int) (p1n : Nat) (p1c : List PV) {res : (((Nat) × (List PV)) × (((Nat) × (List PV)) × ((Int) × (Int))))} (h : tpulse_Added (Fn env) Lpulse_Added_3000075 p0_0n p0_0c p0_1n p0_1c p0_2 p1n p1c = some res) : Fpulse_Added [PV.agg [PV.list p0_0n p0_0c, PV.list p0_1n p0_1c, PV.int IntKind.i64 p0_2], PV.list p1n p1c] = some res :=
  fn_of Epulse_Added_ok rfl rfl (lo_cons (lpO_ok Upulse_Added) lo_nil) ((tpulse_Added_eq _ _ _ _ _ _ _ _ _).trans h)

end Gv
