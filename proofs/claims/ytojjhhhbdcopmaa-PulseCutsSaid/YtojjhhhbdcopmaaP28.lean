/- What the functions do, round by round: P28. -/
import Derived.Test.YtojjhhhbdcopmaaP1
namespace Gv
open Go
set_option maxRecDepth 100000

/-! ### pulse_SpectrumBy -/

def Epulse_SpectrumBy : List Entry := [.out 114 (RSh.one (CK.int IntKind.i64)), .out 105 (RSh.one (CK.int IntKind.i64)), .out 91 (RSh.one (CK.int IntKind.i64)), .out 109 (RSh.agg [(CK.int IntKind.i64), (CK.int IntKind.i64)])]
theorem Epulse_SpectrumBy_ok : ∀ e ∈ Epulse_SpectrumBy, EntOK env e := (ent_out (ent_out (ent_out (ent_out ent_nil))))
def Tpulse_SpectrumBy_0a (i0 : Int) (n1 : Nat) (c2 : List PV) (n3 : Nat) (c4 : List PV) (i5 : Int) (c6 : List PV) : Q := ⟨(tm 59 [(1, (AV.loc 1 0)), (2, (AV.loc 2 0)), (5, (AV.loc 5 0)), (24, (AV.p (PV.int IntKind.i64 i0)))]), (mm 59 [(1, (Bk.cells true [(AV.p (PV.list n1 c2)), (AV.p (PV.list n3 c4)), (AV.p (PV.int IntKind.i64 i5))])), (2, (Bk.pcs true [(PV.int IntKind.i64 (0 : Int)), (PV.int IntKind.i64 (0 : Int)), (PV.int IntKind.i64 (0 : Int)), (PV.int IntKind.i64 (0 : Int))])), (5, (Bk.pcs true c6))])⟩
def Xpulse_SpectrumBy_0a (y : Nat × List PV × Nat × List PV × Int × List PV) : Ext × Q := (Ext.normal, ⟨(tm 59 [(2, (AV.loc 2 0)), (5, (AV.loc 5 0))]), (mm 59 [(1, (Bk.cells true [(AV.p (PV.list y.1 y.2.1)), (AV.p (PV.list y.2.2.1 y.2.2.2.1)), (AV.p (PV.int IntKind.i64 y.2.2.2.2.1))])), (2, (Bk.pcs true [(PV.int IntKind.i64 (0 : Int)), (PV.int IntKind.i64 (0 : Int)), (PV.int IntKind.i64 (0 : Int)), (PV.int IntKind.i64 (0 : Int))])), (5, (Bk.pcs true y.2.2.2.2.2))])⟩)
def Ipulse_SpectrumBy_0a (q : Ext × S) : Nat × List PV × Nat × List PV × Int × List PV := ((pP_list0 (pA_p (hdA (pB_cells1 (avM q.2 1))))), (pP_list1 (pA_p (hdA (pB_cells1 (avM q.2 1))))), (pP_list0 (pA_p (hdA (List.tail (pB_cells1 (avM q.2 1)))))), (pP_list1 (pA_p (hdA (List.tail (pB_cells1 (avM q.2 1)))))), (pP_int1 (pA_p (hdA (List.tail (List.tail (pB_cells1 (avM q.2 1))))))), (pB_pcs1 (avM q.2 5)))
abbrev Ypulse_SpectrumBy_0 : Type := Nat × List PV × Nat × List PV × Int × List PV
def XLpulse_SpectrumBy_0 : XL Ypulse_SpectrumBy_0 := .one Xpulse_SpectrumBy_0a
def Ipulse_SpectrumBy_0 (q : Ext × S) : Ypulse_SpectrumBy_0 := (Ipulse_SpectrumBy_0a q)
theorem XIpulse_SpectrumBy_0a (y : Nat × List PV × Nat × List PV × Int × List PV) : Ipulse_SpectrumBy_0 (xe (Xpulse_SpectrumBy_0a y)) = y := (show Ipulse_SpectrumBy_0 (xe (Xpulse_SpectrumBy_0a y)) = (y.1, y.2.1, y.2.2.1, y.2.2.2.1, y.2.2.2.2.1, ((y.2.2.2.2.2.map AV.p).map pA_p)) from rfl).trans (by simp only [map_back])
theorem XIpulse_SpectrumBy_0 (y : Ypulse_SpectrumBy_0) : Ipulse_SpectrumBy_0 (xe (XLpulse_SpectrumBy_0.fn y)) = y := XIpulse_SpectrumBy_0a y
noncomputable abbrev Lpulse_SpectrumBy_0 : Q → Option Ypulse_SpectrumBy_0 := lpO env a56.body 0 XLpulse_SpectrumBy_0
noncomputable abbrev Rpulse_SpectrumBy_0 : Q → Option (Ext × S) := lpR env a56.body 0
theorem Lpulse_SpectrumBy_0a_of {s : Q} {y : Nat × List PV × Nat × List PV × Int × List PV} (h : Rpulse_SpectrumBy_0 s = exO (Xpulse_SpectrumBy_0a y)) : Lpulse_SpectrumBy_0 s = some y := lpO_of Ipulse_SpectrumBy_0 XIpulse_SpectrumBy_0 (y := y) h
def Tpulse_SpectrumBy_2a (i0 : Int) (i1 : Int) (n2 : Nat) (c3 : List PV) (i4 : Int) (i5 : Int) (n6 : Nat) (c7 : List PV) (n8 : Nat) (c9 : List PV) (i10 : Int) (c11 : List PV) : Q := ⟨(tm 59 [(1, (AV.loc 1 0)), (2, (AV.loc 2 0)), (5, (AV.loc 5 0)), (6, (AV.p (PV.int IntKind.i64 i0))), (24, (AV.p (PV.int IntKind.i64 i1))), (36, (AV.p (PV.list n2 c3))), (37, (AV.p (PV.int IntKind.i64 i4))), (38, (AV.p (PV.int IntKind.i64 i5)))]), (mm 59 [(1, (Bk.cells true [(AV.p (PV.list n6 c7)), (AV.p (PV.list n8 c9)), (AV.p (PV.int IntKind.i64 i10))])), (2, (Bk.pcs true [(PV.int IntKind.i64 (0 : Int)), (PV.int IntKind.i64 (0 : Int)), (PV.int IntKind.i64 (0 : Int)), (PV.int IntKind.i64 (0 : Int))])), (5, (Bk.pcs true c11))])⟩
def Xpulse_SpectrumBy_2a (y : Int × Nat × List PV × Nat × List PV × Int × List PV) : Ext × Q := (Ext.normal, ⟨(tm 59 [(1, (AV.loc 1 0)), (2, (AV.loc 2 0)), (5, (AV.loc 5 0)), (24, (AV.p (PV.int IntKind.i64 y.1)))]), (mm 59 [(1, (Bk.cells true [(AV.p (PV.list y.2.1 y.2.2.1)), (AV.p (PV.list y.2.2.2.1 y.2.2.2.2.1)), (AV.p (PV.int IntKind.i64 y.2.2.2.2.2.1))])), (2, (Bk.pcs true [(PV.int IntKind.i64 (0 : Int)), (PV.int IntKind.i64 (0 : Int)), (PV.int IntKind.i64 (0 : Int)), (PV.int IntKind.i64 (0 : Int))])), (5, (Bk.pcs true y.2.2.2.2.2.2))])⟩)
def Ipulse_SpectrumBy_2a (q : Ext × S) : Int × Nat × List PV × Nat × List PV × Int × List PV := ((pP_int1 (pA_p (avT q.2 24))), (pP_list0 (pA_p (hdA (pB_cells1 (avM q.2 1))))), (pP_list1 (pA_p (hdA (pB_cells1 (avM q.2 1))))), (pP_list0 (pA_p (hdA (List.tail (pB_cells1 (avM q.2 1)))))), (pP_list1 (pA_p (hdA (List.tail (pB_cells1 (avM q.2 1)))))), (pP_int1 (pA_p (hdA (List.tail (List.tail (pB_cells1 (avM q.2 1))))))), (pB_pcs1 (avM q.2 5)))
abbrev Ypulse_SpectrumBy_2 : Type := Int × Nat × List PV × Nat × List PV × Int × List PV
def XLpulse_SpectrumBy_2 : XL Ypulse_SpectrumBy_2 := .one Xpulse_SpectrumBy_2a
def Ipulse_SpectrumBy_2 (q : Ext × S) : Ypulse_SpectrumBy_2 := (Ipulse_SpectrumBy_2a q)
theorem XIpulse_SpectrumBy_2a (y : Int × Nat × List PV × Nat × List PV × Int × List PV) : Ipulse_SpectrumBy_2 (xe (Xpulse_SpectrumBy_2a y)) = y := (show Ipulse_SpectrumBy_2 (xe (Xpulse_SpectrumBy_2a y)) = (y.1, y.2.1, y.2.2.1, y.2.2.2.1, y.2.2.2.2.1, y.2.2.2.2.2.1, ((y.2.2.2.2.2.2.map AV.p).map pA_p)) from rfl).trans (by simp only [map_back])
theorem XIpulse_SpectrumBy_2 (y : Ypulse_SpectrumBy_2) : Ipulse_SpectrumBy_2 (xe (XLpulse_SpectrumBy_2.fn y)) = y := XIpulse_SpectrumBy_2a y
noncomputable abbrev Lpulse_SpectrumBy_2 : Q → Option Ypulse_SpectrumBy_2 := lpO env a56.body 2 XLpulse_SpectrumBy_2
noncomputable abbrev Rpulse_SpectrumBy_2 : Q → Option (Ext × S) := lpR env a56.body 2
theorem Lpulse_SpectrumBy_2a_of {s : Q} {y : Int × Nat × List PV × Nat × List PV × Int × List PV} (h : Rpulse_SpectrumBy_2 s = exO (Xpulse_SpectrumBy_2a y)) : Lpulse_SpectrumBy_2 s = some y := lpO_of Ipulse_SpectrumBy_2 XIpulse_SpectrumBy_2 (y := y) h
theorem Upulse_SpectrumBy : uniq ((blocksOf a56.body).map (·.1)) = true := by kernel_rfl
def Bpulse_SpectrumBy_0a (_F : FnT) (N : Q → Option (Ext × S)) (E : Ext × Q → Option (Ext × S)) (_L0 : Q → Option Ypulse_SpectrumBy_0) (L2 : Q → Option Ypulse_SpectrumBy_2) (i0 : Int) (n1 : Nat) (c2 : List PV) (n3 : Nat) (c4 : List PV) (i5 : Int) (c6 : List PV) : Option (Ext × S) :=
  bif (decide (i0 < (4 : Int))) then
    bif (decide (((0 : Int) ≤ (0 : Int)) ∧ ((0 : Int) < (n1 : Int)))) then
      bindO (intC IntKind.i64 (c2[0]?)) fun x0 =>
      bif (decide (((0 : Int) ≤ i0) ∧ (i0 < (4 : Int)))) then
        bindO (Gv.overO c6 (0 + ((Int.toNat i0) * 1)) [(PV.int IntKind.i64 x0)]) fun x1 =>
        bif (decide (((0 : Int) ≤ (1 : Int)) ∧ ((1 : Int) ≤ ((Prod.mk n1 c2).1 : Int)))) then
          bif (decide (((Int.toNat (1 : Int)) = (Prod.mk n1 c2).1) ∨ ((((Int.toNat (1 : Int)) * 2) + (((Prod.mk n1 c2).1 - (Int.toNat (1 : Int))) * 2)) ≤ (List.length c2)))) then
            bindO (L2 (Tpulse_SpectrumBy_2a i0 i0 ((Prod.mk n1 c2).1 - 1) (List.take (((Prod.mk n1 c2).1 - 1) * 2) (List.drop 2 c2)) (((Prod.mk n1 c2).1 - 1 : Nat) : Int) (0 : Int) n1 c2 n3 c4 i5 x1)) fun y2 =>
            N (Tpulse_SpectrumBy_0a (w64 (y2.1 + (1 : Int))) y2.2.1 y2.2.2.1 y2.2.2.2.1 y2.2.2.2.2.1 y2.2.2.2.2.2.1 y2.2.2.2.2.2.2)
          else none
        else none
      else none
    else none
  else E (Xpulse_SpectrumBy_0a (n1, c2, n3, c4, i5, c6))
theorem Bpulse_SpectrumBy_0a_eq (F : FnT) (N : Q → Option (Ext × S)) (E : Ext × Q → Option (Ext × S)) (L0 : Q → Option Ypulse_SpectrumBy_0) (L2 : Q → Option Ypulse_SpectrumBy_2) (i0 : Int) (n1 : Nat) (c2 : List PV) (n3 : Nat) (c4 : List PV) (i5 : Int) (c6 : List PV) : semB (callP F Epulse_SpectrumBy 20) s56 (loopT [⟨0, Ypulse_SpectrumBy_0, L0, XLpulse_SpectrumBy_0⟩, ⟨2, Ypulse_SpectrumBy_2, L2, XLpulse_SpectrumBy_2⟩]) 400 (blkIn a56.body 0) N E (Tpulse_SpectrumBy_0a i0 n1 c2 n3 c4 i5 c6) = Bpulse_SpectrumBy_0a F N E L0 L2 i0 n1 c2 n3 c4 i5 c6 := by kernel_rfl
theorem Rpulse_SpectrumBy_0a_of  (i0 : Int) (n1 : Nat) (c2 : List PV) (n3 : Nat) (c4 : List PV) (i5 : Int) (c6 : List PV) {r : Ext × S} (h : Bpulse_SpectrumBy_0a (Fn env) Rpulse_SpectrumBy_0 exO Lpulse_SpectrumBy_0 Lpulse_SpectrumBy_2 i0 n1 c2 n3 c4 i5 c6 = some r) : Rpulse_SpectrumBy_0 (Tpulse_SpectrumBy_0a i0 n1 c2 n3 c4 i5 c6) = some r :=
  lp_of Epulse_SpectrumBy_ok (by kernel_rfl) (lo_cons (lpO_ok Upulse_SpectrumBy) (lo_cons (lpO_ok Upulse_SpectrumBy) lo_nil)) (by kernel_rfl) ((Bpulse_SpectrumBy_0a_eq _ _ _ _ _ _ _ _ _ _ _ _).trans h)
def Bpulse_SpectrumBy_2a (F : FnT) (N : Q → Option (Ext × S)) (E : Ext × Q → Option (Ext × S)) (_L0 : Q → Option Ypulse_SpectrumBy_0) (_L2 : Q → Option Ypulse_SpectrumBy_2) (i0 : Int) (i1 : Int) (n2 : Nat) (c3 : List PV) (i4 : Int) (i5 : Int) (n6 : Nat) (c7 : List PV) (n8 : Nat) (c9 : List PV) (i10 : Int) (c11 : List PV) : Option (Ext × S) :=
  bif (decide (i5 < i4)) then
    bif (decide (((0 : Int) ≤ i5) ∧ (i5 < (n2 : Int)))) then
      bindO (intC IntKind.i64 (c3[((Int.toNat i5) * 2)]?)) fun x0 =>
      bindO (intC IntKind.i64 (c3[(((Int.toNat i5) * 2) + 1)]?)) fun x1 =>
      bif (decide (((0 : Int) ≤ i0) ∧ (i0 < (4 : Int)))) then
        bindO (intC IntKind.i64 (c11[(0 + ((Int.toNat i0) * 1))]?)) fun x2 =>
        bindO (F 109 (RSh.agg [(CK.int IntKind.i64), (CK.int IntKind.i64)]) [(PV.agg [(PV.int IntKind.i64 x0), (PV.int IntKind.i64 x1)]), (PV.int IntKind.i64 (w64 ((w64 (i5 + (1 : Int))) * i0)))]) fun (y3 : ((Int) × (Int))) =>
        bif (decide (((0 : Int) ≤ i0) ∧ (i0 < (4 : Int)))) then
          bindO (Gv.overO c11 (0 + ((Int.toNat i0) * 1)) [(PV.int IntKind.i64 (w64 (x2 + (w64 ((2 : Int) * y3.1)))))]) fun x4 =>
          N (Tpulse_SpectrumBy_2a i0 i1 n2 c3 i4 (w64 (i5 + (1 : Int))) n6 c7 n8 c9 i10 x4)
        else none
      else none
    else none
  else E (Xpulse_SpectrumBy_2a (i1, n6, c7, n8, c9, i10, c11))
theorem Bpulse_SpectrumBy_2a_eq (F : FnT) (N : Q → Option (Ext × S)) (E : Ext × Q → Option (Ext × S)) (L0 : Q → Option Ypulse_SpectrumBy_0) (L2 : Q → Option Ypulse_SpectrumBy_2) (i0 : Int) (i1 : Int) (n2 : Nat) (c3 : List PV) (i4 : Int) (i5 : Int) (n6 : Nat) (c7 : List PV) (n8 : Nat) (c9 : List PV) (i10 : Int) (c11 : List PV) : semB (callP F Epulse_SpectrumBy 20) s56 (loopT [⟨0, Ypulse_SpectrumBy_0, L0, XLpulse_SpectrumBy_0⟩, ⟨2, Ypulse_SpectrumBy_2, L2, XLpulse_SpectrumBy_2⟩]) 400 (blkIn a56.body 2) N E (Tpulse_SpectrumBy_2a i0 i1 n2 c3 i4 i5 n6 c7 n8 c9 i10 c11) = Bpulse_SpectrumBy_2a F N E L0 L2 i0 i1 n2 c3 i4 i5 n6 c7 n8 c9 i10 c11 := by kernel_rfl
theorem Rpulse_SpectrumBy_2a_of  (i0 : Int) (i1 : Int) (n2 : Nat) (c3 : List PV) (i4 : Int) (i5 : Int) (n6 : Nat) (c7 : List PV) (n8 : Nat) (c9 : List PV) (i10 : Int) (c11 : List PV) {r : Ext × S} (h : Bpulse_SpectrumBy_2a (Fn env) Rpulse_SpectrumBy_2 exO Lpulse_SpectrumBy_0 Lpulse_SpectrumBy_2 i0 i1 n2 c3 i4 i5 n6 c7 n8 c9 i10 c11 = some r) : Rpulse_SpectrumBy_2 (Tpulse_SpectrumBy_2a i0 i1 n2 c3 i4 i5 n6 c7 n8 c9 i10 c11) = some r :=
  lp_of Epulse_SpectrumBy_ok (by kernel_rfl) (lo_cons (lpO_ok Upulse_SpectrumBy) (lo_cons (lpO_ok Upulse_SpectrumBy) lo_nil)) (by kernel_rfl) ((Bpulse_SpectrumBy_2a_eq _ _ _ _ _ _ _ _ _ _ _ _ _ _ _ _ _).trans h)
def tpulse_SpectrumBy (F : FnT) (L0 : Q → Option Ypulse_SpectrumBy_0) (_L2 : Q → Option Ypulse_SpectrumBy_2) (p0_0n : Nat) (p0_0c : List PV) (p0_1n : Nat) (p0_1c : List PV) (p0_2 : Int) : Option ((Int) × ((Int) × ((Int) × ((Int) × (Int))))) :=
  bindO (F 114 (RSh.one (CK.int IntKind.i64)) [(PV.agg [(PV.list p0_0n p0_0c), (PV.list p0_1n p0_1c), (PV.int IntKind.i64 p0_2)])]) fun (y0 : (Int)) =>
  bif (decide (p0_2 > (p0_0n : Int))) then
    bindO (F 105 (RSh.one (CK.int IntKind.i64)) [(PV.bool true), (PV.int IntKind.i64 (19 : Int))]) fun (y1 : (Int)) =>
    bindO (F 91 (RSh.one (CK.int IntKind.i64)) [(PV.list 2 [(PV.int IntKind.i64 y0), (PV.int IntKind.i64 y1)])]) fun (y2 : (Int)) =>
    bif (y2 != (0 : Int)) then
      some ((0 : Int), ((0 : Int), ((0 : Int), ((0 : Int), y2))))
    else bindO (L0 (Tpulse_SpectrumBy_0a (0 : Int) p0_0n p0_0c p0_1n p0_1c p0_2 [(PV.int IntKind.i64 (0 : Int)), (PV.int IntKind.i64 (0 : Int)), (PV.int IntKind.i64 (0 : Int)), (PV.int IntKind.i64 (0 : Int))])) fun y3 =>
    bindO (intC IntKind.i64 (y3.2.2.2.2.2[0]?)) fun x4 =>
    bindO (intC IntKind.i64 (y3.2.2.2.2.2[1]?)) fun x5 =>
    bindO (intC IntKind.i64 (y3.2.2.2.2.2[2]?)) fun x6 =>
    bindO (intC IntKind.i64 (y3.2.2.2.2.2[3]?)) fun x7 =>
    some (x4, (x5, (x6, (x7, (0 : Int)))))
  else bindO (F 105 (RSh.one (CK.int IntKind.i64)) [(PV.bool false), (PV.int IntKind.i64 (19 : Int))]) fun (y8 : (Int)) =>
  bindO (F 91 (RSh.one (CK.int IntKind.i64)) [(PV.list 2 [(PV.int IntKind.i64 y0), (PV.int IntKind.i64 y8)])]) fun (y9 : (Int)) =>
  bif (y9 != (0 : Int)) then
    some ((0 : Int), ((0 : Int), ((0 : Int), ((0 : Int), y9))))
  else bindO (L0 (Tpulse_SpectrumBy_0a (0 : Int) p0_0n p0_0c p0_1n p0_1c p0_2 [(PV.int IntKind.i64 (0 : Int)), (PV.int IntKind.i64 (0 : Int)), (PV.int IntKind.i64 (0 : Int)), (PV.int IntKind.i64 (0 : Int))])) fun y10 =>
  bindO (intC IntKind.i64 (y10.2.2.2.2.2[0]?)) fun x11 =>
  bindO (intC IntKind.i64 (y10.2.2.2.2.2[1]?)) fun x12 =>
  bindO (intC IntKind.i64 (y10.2.2.2.2.2[2]?)) fun x13 =>
  bindO (intC IntKind.i64 (y10.2.2.2.2.2[3]?)) fun x14 =>
  some (x11, (x12, (x13, (x14, (0 : Int)))))
theorem tpulse_SpectrumBy_eq (F : FnT) (L0 : Q → Option Ypulse_SpectrumBy_0) (L2 : Q → Option Ypulse_SpectrumBy_2) (p0_0n : Nat) (p0_0c : List PV) (p0_1n : Nat) (p0_1c : List PV) (p0_2 : Int) : semF (callP F Epulse_SpectrumBy 20) s56 (loopT [⟨0, Ypulse_SpectrumBy_0, L0, XLpulse_SpectrumBy_0⟩, ⟨2, Ypulse_SpectrumBy_2, L2, XLpulse_SpectrumBy_2⟩]) 400 a56 [PV.agg [PV.list p0_0n p0_0c, PV.list p0_1n p0_1c, PV.int IntKind.i64 p0_2]] (fun rv => decR (RSh.tup [(Prod.mk true [(CK.int IntKind.i64), (CK.int IntKind.i64), (CK.int IntKind.i64), (CK.int IntKind.i64)]), (Prod.mk false [(CK.int IntKind.i64)])]) rv.pv) = tpulse_SpectrumBy F L0 L2 p0_0n p0_0c p0_1n p0_1c p0_2 := by kernel_rfl
noncomputable abbrev Fpulse_SpectrumBy (args : List PV) := Fn env 56 (RSh.tup [(Prod.mk true [(CK.int IntKind.i64), (CK.int IntKind.i64), (CK.int IntKind.i64), (CK.int IntKind.i64)]), (Prod.mk false [(CK.int IntKind.i64)])]) args
theorem Fpulse_SpectrumBy_of  (p0_0n : Nat) (p0_0c : List PV) (p0_1n : Nat) (p0_1c : List PV) (p0_2 : Int) {res : ((Int) × ((Int) × ((Int) × ((Int) × (Int)))))} (h : tpulse_SpectrumBy (Fn env) Lpulse_SpectrumBy_0 Lpulse_SpectrumBy_2 p0_0n p0_0c p0_1n p0_1c p0_2 = some res) : Fpulse_SpectrumBy [PV.agg [PV.list p0_0n p0_0c, PV.list p0_1n p0_1c, PV.int IntKind.i64 p0_2]] = some res :=
  fn_of Epulse_SpectrumBy_ok rfl rfl (lo_cons (lpO_ok Upulse_SpectrumBy) (lo_cons (lpO_ok Upulse_SpectrumBy) lo_nil)) ((tpulse_SpectrumBy_eq _ _ _ _ _ _ _ _).trans h)

end Gv
