/- What the functions do, round by round: P22. -/
import Derived.Test.YtojjhhhbdcopmaaP20
namespace Gv
open Go
set_option maxRecDepth 100000

/-! ### _glidepath_pulse_lines__with -/

def E_glidepath_pulse_lines__with : List Entry := [.out 109 (RSh.agg [(CK.int IntKind.i64), (CK.int IntKind.i64)]), .out 117 (RSh.agg [(CK.int IntKind.i64), (CK.int IntKind.i64)])]
theorem E_glidepath_pulse_lines__with_ok : ∀ e ∈ E_glidepath_pulse_lines__with, EntOK env e := (ent_out (ent_out ent_nil))
def T_glidepath_pulse_lines__with_0a (i0 : Int) (i1 : Int) (c2 : List PV) (i3 : Int) (i4 : Int) : Q := ⟨(tm 24 [(1, (AV.p (PV.int IntKind.i64 i0))), (3, (AV.loc 3 0)), (5, (AV.loc 5 0)), (6, (AV.loc 6 0)), (8, (AV.p (PV.int IntKind.i64 i1)))]), (mm 24 [(3, (Bk.pcs true c2)), (5, (Bk.pcs true [(PV.int IntKind.i64 i3), (PV.int IntKind.i64 i4)])), (6, (Bk.pcs true [(PV.int IntKind.i64 (0 : Int)), (PV.int IntKind.i64 (0 : Int)), (PV.int IntKind.i64 (0 : Int)), (PV.int IntKind.i64 (0 : Int)), (PV.int IntKind.i64 (0 : Int)), (PV.int IntKind.i64 (0 : Int)), (PV.int IntKind.i64 (0 : Int)), (PV.int IntKind.i64 (0 : Int))]))])⟩
def X_glidepath_pulse_lines__with_0a (y : List PV × Int × Int) : Ext × Q := (Ext.normal, ⟨(tm 24 [(3, (AV.loc 3 0)), (6, (AV.loc 6 0))]), (mm 24 [(3, (Bk.pcs true y.1)), (5, (Bk.pcs true [(PV.int IntKind.i64 y.2.1), (PV.int IntKind.i64 y.2.2)])), (6, (Bk.pcs true [(PV.int IntKind.i64 (0 : Int)), (PV.int IntKind.i64 (0 : Int)), (PV.int IntKind.i64 (0 : Int)), (PV.int IntKind.i64 (0 : Int)), (PV.int IntKind.i64 (0 : Int)), (PV.int IntKind.i64 (0 : Int)), (PV.int IntKind.i64 (0 : Int)), (PV.int IntKind.i64 (0 : Int))]))])⟩)
def I_glidepath_pulse_lines__with_0a (q : Ext × S) : List PV × Int × Int := ((pB_pcs1 (avM q.2 3)), (pP_int1 (hdP (pB_pcs1 (avM q.2 5)))), (pP_int1 (hdP (List.tail (pB_pcs1 (avM q.2 5))))))
abbrev Y_glidepath_pulse_lines__with_0 : Type := List PV × Int × Int
def XL_glidepath_pulse_lines__with_0 : XL Y_glidepath_pulse_lines__with_0 := .one X_glidepath_pulse_lines__with_0a
def I_glidepath_pulse_lines__with_0 (q : Ext × S) : Y_glidepath_pulse_lines__with_0 := (I_glidepath_pulse_lines__with_0a q)
theorem XI_glidepath_pulse_lines__with_0a (y : List PV × Int × Int) : I_glidepath_pulse_lines__with_0 (xe (X_glidepath_pulse_lines__with_0a y)) = y := (show I_glidepath_pulse_lines__with_0 (xe (X_glidepath_pulse_lines__with_0a y)) = (((y.1.map AV.p).map pA_p), y.2.1, y.2.2) from rfl).trans (by simp only [map_back])
theorem XI_glidepath_pulse_lines__with_0 (y : Y_glidepath_pulse_lines__with_0) : I_glidepath_pulse_lines__with_0 (xe (XL_glidepath_pulse_lines__with_0.fn y)) = y := XI_glidepath_pulse_lines__with_0a y
noncomputable abbrev L_glidepath_pulse_lines__with_0 : Q → Option Y_glidepath_pulse_lines__with_0 := lpO env a142.body 0 XL_glidepath_pulse_lines__with_0
noncomputable abbrev R_glidepath_pulse_lines__with_0 : Q → Option (Ext × S) := lpR env a142.body 0
theorem L_glidepath_pulse_lines__with_0a_of {s : Q} {y : List PV × Int × Int} (h : R_glidepath_pulse_lines__with_0 s = exO (X_glidepath_pulse_lines__with_0a y)) : L_glidepath_pulse_lines__with_0 s = some y := lpO_of I_glidepath_pulse_lines__with_0 XI_glidepath_pulse_lines__with_0 (y := y) h
theorem U_glidepath_pulse_lines__with : uniq ((blocksOf a142.body).map (·.1)) = true := by kernel_rfl
def B_glidepath_pulse_lines__with_0a (F : FnT) (N : Q → Option (Ext × S)) (E : Ext × Q → Option (Ext × S)) (L0 : Q → Option Y_glidepath_pulse_lines__with_0) (i0 : Int) (i1 : Int) (c2 : List PV) (i3 : Int) (i4 : Int) : Option (Ext × S) :=
  bif (decide (i1 < (4 : Int))) then
    bif (decide (((0 : Int) ≤ i1) ∧ (i1 < (4 : Int)))) then
      bindO (intC IntKind.i64 (c2[(0 + ((Int.toNat i1) * 2))]?)) fun x0 =>
      bindO (intC IntKind.i64 (c2[((0 + ((Int.toNat i1) * 2)) + 1)]?)) fun x1 =>
      bindO (F 109 (RSh.agg [(CK.int IntKind.i64), (CK.int IntKind.i64)]) [(PV.agg [(PV.int IntKind.i64 i3), (PV.int IntKind.i64 i4)]), (PV.int IntKind.i64 (w64 (i0 * i1)))]) fun (y2 : ((Int) × (Int))) =>
      bindO (F 117 (RSh.agg [(CK.int IntKind.i64), (CK.int IntKind.i64)]) [(PV.agg [(PV.int IntKind.i64 x0), (PV.int IntKind.i64 x1)]), (PV.agg [(PV.int IntKind.i64 y2.1), (PV.int IntKind.i64 y2.2)])]) fun (y3 : ((Int) × (Int))) =>
      bif (decide (((0 : Int) ≤ i1) ∧ (i1 < (4 : Int)))) then
        bindO (Gv.overO c2 (0 + ((Int.toNat i1) * 2)) [(PV.int IntKind.i64 y3.1), (PV.int IntKind.i64 y3.2)]) fun x4 =>
        N (T_glidepath_pulse_lines__with_0a i0 (w64 (i1 + (1 : Int))) x4 i3 i4)
      else none
    else none
  else E (X_glidepath_pulse_lines__with_0a (c2, i3, i4))
theorem B_glidepath_pulse_lines__with_0a_eq (F : FnT) (N : Q → Option (Ext × S)) (E : Ext × Q → Option (Ext × S)) (L0 : Q → Option Y_glidepath_pulse_lines__with_0) (i0 : Int) (i1 : Int) (c2 : List PV) (i3 : Int) (i4 : Int) : semB (callP F E_glidepath_pulse_lines__with 20) s142 (loopT [⟨0, Y_glidepath_pulse_lines__with_0, L0, XL_glidepath_pulse_lines__with_0⟩]) 400 (blkIn a142.body 0) N E (T_glidepath_pulse_lines__with_0a i0 i1 c2 i3 i4) = B_glidepath_pulse_lines__with_0a F N E L0 i0 i1 c2 i3 i4 := by kernel_rfl
theorem R_glidepath_pulse_lines__with_0a_of  (i0 : Int) (i1 : Int) (c2 : List PV) (i3 : Int) (i4 : Int) {r : Ext × S} (h : B_glidepath_pulse_lines__with_0a (Fn env) R_glidepath_pulse_lines__with_0 exO L_glidepath_pulse_lines__with_0 i0 i1 c2 i3 i4 = some r) : R_glidepath_pulse_lines__with_0 (T_glidepath_pulse_lines__with_0a i0 i1 c2 i3 i4) = some r :=
  lp_of E_glidepath_pulse_lines__with_ok (by kernel_rfl) (lo_cons (lpO_ok U_glidepath_pulse_lines__with) lo_nil) (by kernel_rfl) ((B_glidepath_pulse_lines__with_0a_eq _ _ _ _ _ _ _ _ _).trans h)
def t_glidepath_pulse_lines__with (F : FnT) (L0 : Q → Option Y_glidepath_pulse_lines__with_0) (p0_0 : Int) (p0_1 : Int) (p0_2 : Int) (p0_3 : Int) (p0_4 : Int) (p0_5 : Int) (p0_6 : Int) (p0_7 : Int) (p1 : Int) (p2_0 : Int) (p2_1 : Int) : Option ((Int) × ((Int) × ((Int) × ((Int) × ((Int) × ((Int) × ((Int) × (Int)))))))) :=
  bindO (L0 (T_glidepath_pulse_lines__with_0a p1 (0 : Int) [(PV.int IntKind.i64 p0_0), (PV.int IntKind.i64 p0_1), (PV.int IntKind.i64 p0_2), (PV.int IntKind.i64 p0_3), (PV.int IntKind.i64 p0_4), (PV.int IntKind.i64 p0_5), (PV.int IntKind.i64 p0_6), (PV.int IntKind.i64 p0_7)] p2_0 p2_1)) fun y0 =>
  bindO (intC IntKind.i64 (y0.1[0]?)) fun x1 =>
  bindO (intC IntKind.i64 (y0.1[1]?)) fun x2 =>
  bindO (intC IntKind.i64 (y0.1[2]?)) fun x3 =>
  bindO (intC IntKind.i64 (y0.1[3]?)) fun x4 =>
  bindO (intC IntKind.i64 (y0.1[4]?)) fun x5 =>
  bindO (intC IntKind.i64 (y0.1[5]?)) fun x6 =>
  bindO (intC IntKind.i64 (y0.1[6]?)) fun x7 =>
  bindO (intC IntKind.i64 (y0.1[7]?)) fun x8 =>
  some (x1, (x2, (x3, (x4, (x5, (x6, (x7, x8)))))))
theorem t_glidepath_pulse_lines__with_eq (F : FnT) (L0 : Q → Option Y_glidepath_pulse_lines__with_0) (p0_0 : Int) (p0_1 : Int) (p0_2 : Int) (p0_3 : Int) (p0_4 : Int) (p0_5 : Int) (p0_6 : Int) (p0_7 : Int) (p1 : Int) (p2_0 : Int) (p2_1 : Int) : semF (callP F E_glidepath_pulse_lines__with 20) s142 (loopT [⟨0, Y_glidepath_pulse_lines__with_0, L0, XL_glidepath_pulse_lines__with_0⟩]) 400 a142 [PV.agg [PV.int IntKind.i64 p0_0, PV.int IntKind.i64 p0_1, PV.int IntKind.i64 p0_2, PV.int IntKind.i64 p0_3, PV.int IntKind.i64 p0_4, PV.int IntKind.i64 p0_5, PV.int IntKind.i64 p0_6, PV.int IntKind.i64 p0_7], PV.int IntKind.i64 p1, PV.agg [PV.int IntKind.i64 p2_0, PV.int IntKind.i64 p2_1]] (fun rv => decR (RSh.agg [(CK.int IntKind.i64), (CK.int IntKind.i64), (CK.int IntKind.i64), (CK.int IntKind.i64), (CK.int IntKind.i64), (CK.int IntKind.i64), (CK.int IntKind.i64), (CK.int IntKind.i64)]) rv.pv) = t_glidepath_pulse_lines__with F L0 p0_0 p0_1 p0_2 p0_3 p0_4 p0_5 p0_6 p0_7 p1 p2_0 p2_1 := by kernel_rfl
noncomputable abbrev F_glidepath_pulse_lines__with (args : List PV) := Fn env 142 (RSh.agg [(CK.int IntKind.i64), (CK.int IntKind.i64), (CK.int IntKind.i64), (CK.int IntKind.i64), (CK.int IntKind.i64), (CK.int IntKind.i64), (CK.int IntKind.i64), (CK.int IntKind.i64)]) args
theorem F_glidepath_pulse_lines__with_of  (p0_0 : Int) (p0_1 : Int) (p0_2 : Int) (p0_3 : Int) (p0_4 : Int) (p0_5 : Int) (p0_6 : Int) (p0_7 : Int) (p1 : Int) (p2_0 : Int) (p2_1 : Int) {res : ((Int) × ((Int) × ((Int) × ((Int) × ((Int) × ((Int) × ((Int) × (Int))))))))} (h : t_glidepath_pulse_lines__with (Fn env) L_glidepath_pulse_lines__with_0 p0_0 p0_1 p0_2 p0_3 p0_4 p0_5 p0_6 p0_7 p1 p2_0 p2_1 = some res) : F_glidepath_pulse_lines__with [PV.agg [PV.int IntKind.i64 p0_0, PV.int IntKind.i64 p0_1, PV.int IntKind.i64 p0_2, PV.int IntKind.i64 p0_3, PV.int IntKind.i64 p0_4, PV.int IntKind.i64 p0_5, PV.int IntKind.i64 p0_6, PV.int IntKind.i64 p0_7], PV.int IntKind.i64 p1, PV.agg [PV.int IntKind.i64 p2_0, PV.int IntKind.i64 p2_1]] = some res :=
  fn_of E_glidepath_pulse_lines__with_ok rfl rfl (lo_cons (lpO_ok U_glidepath_pulse_lines__with) lo_nil) ((t_glidepath_pulse_lines__with_eq _ _ _ _ _ _ _ _ _ _ _ _ _).trans h)

/-! ### pulse_linesOf -/

def Epulse_linesOf : List Entry := [.out 142 (RSh.agg [(CK.int IntKind.i64), (CK.int IntKind.i64), (CK.int IntKind.i64), (CK.int IntKind.i64), (CK.int IntKind.i64), (CK.int IntKind.i64), (CK.int IntKind.i64), (CK.int IntKind.i64)])]
theorem Epulse_linesOf_ok : ∀ e ∈ Epulse_linesOf, EntOK env e := (ent_out ent_nil)
def Tpulse_linesOf_0a (n0 : Nat) (c1 : List PV) (i2 : Int) (i3 : Int) (i4 : Int) (i5 : Int) (i6 : Int) (i7 : Int) (i8 : Int) (i9 : Int) (i10 : Int) (i11 : Int) : Q := ⟨(tm 19 [(2, (AV.loc 2 0)), (3, (AV.loc 3 0)), (6, (AV.p (PV.list n0 c1))), (7, (AV.p (PV.int IntKind.i64 i2))), (8, (AV.p (PV.int IntKind.i64 i3)))]), (mm 19 [(2, (Bk.pcs true [(PV.int IntKind.i64 (0 : Int)), (PV.int IntKind.i64 (0 : Int)), (PV.int IntKind.i64 (0 : Int)), (PV.int IntKind.i64 (0 : Int)), (PV.int IntKind.i64 (0 : Int)), (PV.int IntKind.i64 (0 : Int)), (PV.int IntKind.i64 (0 : Int)), (PV.int IntKind.i64 (0 : Int))])), (3, (Bk.pcs true [(PV.int IntKind.i64 i4), (PV.int IntKind.i64 i5), (PV.int IntKind.i64 i6), (PV.int IntKind.i64 i7), (PV.int IntKind.i64 i8), (PV.int IntKind.i64 i9), (PV.int IntKind.i64 i10), (PV.int IntKind.i64 i11)]))])⟩
def Xpulse_linesOf_0a (y : Int × Int × Int × Int × Int × Int × Int × Int) : Ext × Q := (Ext.normal, ⟨(tm 19 [(2, (AV.loc 2 0)), (3, (AV.loc 3 0))]), (mm 19 [(2, (Bk.pcs true [(PV.int IntKind.i64 (0 : Int)), (PV.int IntKind.i64 (0 : Int)), (PV.int IntKind.i64 (0 : Int)), (PV.int IntKind.i64 (0 : Int)), (PV.int IntKind.i64 (0 : Int)), (PV.int IntKind.i64 (0 : Int)), (PV.int IntKind.i64 (0 : Int)), (PV.int IntKind.i64 (0 : Int))])), (3, (Bk.pcs true [(PV.int IntKind.i64 y.1), (PV.int IntKind.i64 y.2.1), (PV.int IntKind.i64 y.2.2.1), (PV.int IntKind.i64 y.2.2.2.1), (PV.int IntKind.i64 y.2.2.2.2.1), (PV.int IntKind.i64 y.2.2.2.2.2.1), (PV.int IntKind.i64 y.2.2.2.2.2.2.1), (PV.int IntKind.i64 y.2.2.2.2.2.2.2)]))])⟩)
def Ipulse_linesOf_0a (q : Ext × S) : Int × Int × Int × Int × Int × Int × Int × Int := ((pP_int1 (hdP (pB_pcs1 (avM q.2 3)))), (pP_int1 (hdP (List.tail (pB_pcs1 (avM q.2 3))))), (pP_int1 (hdP (List.tail (List.tail (pB_pcs1 (avM q.2 3)))))), (pP_int1 (hdP (List.tail (List.tail (List.tail (pB_pcs1 (avM q.2 3))))))), (pP_int1 (hdP (List.tail (List.tail (List.tail (List.tail (pB_pcs1 (avM q.2 3)))))))), (pP_int1 (hdP (List.tail (List.tail (List.tail (List.tail (List.tail (pB_pcs1 (avM q.2 3))))))))), (pP_int1 (hdP (List.tail (List.tail (List.tail (List.tail (List.tail (List.tail (pB_pcs1 (avM q.2 3)))))))))), (pP_int1 (hdP (List.tail (List.tail (List.tail (List.tail (List.tail (List.tail (List.tail (pB_pcs1 (avM q.2 3))))))))))))
abbrev Ypulse_linesOf_0 : Type := Int × Int × Int × Int × Int × Int × Int × Int
def XLpulse_linesOf_0 : XL Ypulse_linesOf_0 := .one Xpulse_linesOf_0a
def Ipulse_linesOf_0 (q : Ext × S) : Ypulse_linesOf_0 := (Ipulse_linesOf_0a q)
theorem XIpulse_linesOf_0a (y : Int × Int × Int × Int × Int × Int × Int × Int) : Ipulse_linesOf_0 (xe (Xpulse_linesOf_0a y)) = y := rfl
theorem XIpulse_linesOf_0 (y : Ypulse_linesOf_0) : Ipulse_linesOf_0 (xe (XLpulse_linesOf_0.fn y)) = y := XIpulse_linesOf_0a y
noncomputable abbrev Lpulse_linesOf_0 : Q → Option Ypulse_linesOf_0 := lpO env a106.body 0 XLpulse_linesOf_0
noncomputable abbrev Rpulse_linesOf_0 : Q → Option (Ext × S) := lpR env a106.body 0
theorem Lpulse_linesOf_0a_of {s : Q} {y : Int × Int × Int × Int × Int × Int × Int × Int} (h : Rpulse_linesOf_0 s = exO (Xpulse_linesOf_0a y)) : Lpulse_linesOf_0 s = some y := lpO_of Ipulse_linesOf_0 XIpulse_linesOf_0 (y := y) h
theorem Upulse_linesOf : uniq ((blocksOf a106.body).map (·.1)) = true := by kernel_rfl
def Bpulse_linesOf_0a (F : FnT) (N : Q → Option (Ext × S)) (E : Ext × Q → Option (Ext × S)) (L0 : Q → Option Ypulse_linesOf_0) (n0 : Nat) (c1 : List PV) (i2 : Int) (i3 : Int) (i4 : Int) (i5 : Int) (i6 : Int) (i7 : Int) (i8 : Int) (i9 : Int) (i10 : Int) (i11 : Int) : Option (Ext × S) :=
  bif (decide (i3 < i2)) then
    bif (decide (((0 : Int) ≤ i3) ∧ (i3 < (n0 : Int)))) then
      bindO (intC IntKind.i64 (c1[((Int.toNat i3) * 2)]?)) fun x0 =>
      bindO (intC IntKind.i64 (c1[(((Int.toNat i3) * 2) + 1)]?)) fun x1 =>
      bindO (F 142 (RSh.agg [(CK.int IntKind.i64), (CK.int IntKind.i64), (CK.int IntKind.i64), (CK.int IntKind.i64), (CK.int IntKind.i64), (CK.int IntKind.i64), (CK.int IntKind.i64), (CK.int IntKind.i64)]) [(PV.agg [(PV.int IntKind.i64 i4), (PV.int IntKind.i64 i5), (PV.int IntKind.i64 i6), (PV.int IntKind.i64 i7), (PV.int IntKind.i64 i8), (PV.int IntKind.i64 i9), (PV.int IntKind.i64 i10), (PV.int IntKind.i64 i11)]), (PV.int IntKind.i64 i3), (PV.agg [(PV.int IntKind.i64 x0), (PV.int IntKind.i64 x1)])]) fun (y2 : ((Int) × ((Int) × ((Int) × ((Int) × ((Int) × ((Int) × ((Int) × (Int))))))))) =>
      N (Tpulse_linesOf_0a n0 c1 i2 (w64 (i3 + (1 : Int))) y2.1 y2.2.1 y2.2.2.1 y2.2.2.2.1 y2.2.2.2.2.1 y2.2.2.2.2.2.1 y2.2.2.2.2.2.2.1 y2.2.2.2.2.2.2.2)
    else none
  else E (Xpulse_linesOf_0a (i4, i5, i6, i7, i8, i9, i10, i11))
theorem Bpulse_linesOf_0a_eq (F : FnT) (N : Q → Option (Ext × S)) (E : Ext × Q → Option (Ext × S)) (L0 : Q → Option Ypulse_linesOf_0) (n0 : Nat) (c1 : List PV) (i2 : Int) (i3 : Int) (i4 : Int) (i5 : Int) (i6 : Int) (i7 : Int) (i8 : Int) (i9 : Int) (i10 : Int) (i11 : Int) : semB (callP F Epulse_linesOf 20) s106 (loopT [⟨0, Ypulse_linesOf_0, L0, XLpulse_linesOf_0⟩]) 400 (blkIn a106.body 0) N E (Tpulse_linesOf_0a n0 c1 i2 i3 i4 i5 i6 i7 i8 i9 i10 i11) = Bpulse_linesOf_0a F N E L0 n0 c1 i2 i3 i4 i5 i6 i7 i8 i9 i10 i11 := by kernel_rfl
theorem Rpulse_linesOf_0a_of  (n0 : Nat) (c1 : List PV) (i2 : Int) (i3 : Int) (i4 : Int) (i5 : Int) (i6 : Int) (i7 : Int) (i8 : Int) (i9 : Int) (i10 : Int) (i11 : Int) {r : Ext × S} (h : Bpulse_linesOf_0a (Fn env) Rpulse_linesOf_0 exO Lpulse_linesOf_0 n0 c1 i2 i3 i4 i5 i6 i7 i8 i9 i10 i11 = some r) : Rpulse_linesOf_0 (Tpulse_linesOf_0a n0 c1 i2 i3 i4 i5 i6 i7 i8 i9 i10 i11) = some r :=
  lp_of Epulse_linesOf_ok (by kernel_rfl) (lo_cons (lpO_ok Upulse_linesOf) lo_nil) (by kernel_rfl) ((Bpulse_linesOf_0a_eq _ _ _ _ _ _ _ _ _ _ _ _ _ _ _ _).trans h)
def tpulse_linesOf (F : FnT) (L0 : Q → Option Ypulse_linesOf_0) (p0n : Nat) (p0c : List PV) : Option ((Int) × ((Int) × ((Int) × ((Int) × ((Int) × ((Int) × ((Int) × (Int)))))))) :=
  bindO (L0 (Tpulse_linesOf_0a p0n p0c (p0n : Int) (0 : Int) (0 : Int) (0 : Int) (0 : Int) (0 : Int) (0 : Int) (0 : Int) (0 : Int) (0 : Int))) fun y0 =>
  some (y0.1, (y0.2.1, (y0.2.2.1, (y0.2.2.2.1, (y0.2.2.2.2.1, (y0.2.2.2.2.2.1, (y0.2.2.2.2.2.2.1, y0.2.2.2.2.2.2.2)))))))
theorem tpulse_linesOf_eq (F : FnT) (L0 : Q → Option Ypulse_linesOf_0) (p0n : Nat) (p0c : List PV) : semF (callP F Epulse_linesOf 20) s106 (loopT [⟨0, Ypulse_linesOf_0, L0, XLpulse_linesOf_0⟩]) 400 a106 [PV.list p0n p0c] (fun rv => decR (RSh.agg [(CK.int IntKind.i64), (CK.int IntKind.i64), (CK.int IntKind.i64), (CK.int IntKind.i64), (CK.int IntKind.i64), (CK.int IntKind.i64), (CK.int IntKind.i64), (CK.int IntKind.i64)]) rv.pv) = tpulse_linesOf F L0 p0n p0c := by kernel_rfl
noncomputable abbrev Fpulse_linesOf (args : List PV) := Fn env 106 (RSh.agg [(CK.int IntKind.i64), (CK.int IntKind.i64), (CK.int IntKind.i64), (CK.int IntKind.i64), (CK.int IntKind.i64), (CK.int IntKind.i64), (CK.int IntKind.i64), (CK.int IntKind.i64)]) args
theorem Fpulse_linesOf_of  (p0n : Nat) (p0c : List PV) {res : ((Int) × ((Int) × ((Int) × ((Int) × ((Int) × ((Int) × ((Int) × (Int))))))))} (h : tpulse_linesOf (Fn env) Lpulse_linesOf_0 p0n p0c = some res) : Fpulse_linesOf [PV.list p0n p0c] = some res :=
  fn_of Epulse_linesOf_ok rfl rfl (lo_cons (lpO_ok Upulse_linesOf) lo_nil) ((tpulse_linesOf_eq _ _ _ _).trans h)

/-! ### _glidepath_pulse_lines__powers -/

def E_glidepath_pulse_lines__powers : List Entry := [.out 143 (RSh.one (CK.int IntKind.i64))]
theorem E_glidepath_pulse_lines__powers_ok : ∀ e ∈ E_glidepath_pulse_lines__powers, EntOK env e := (ent_out ent_nil)
theorem U_glidepath_pulse_lines__powers : uniq ((blocksOf a107.body).map (·.1)) = true := by kernel_rfl
def t_glidepath_pulse_lines__powers (F : FnT) (p0_0 : Int) (p0_1 : Int) (p0_2 : Int) (p0_3 : Int) (p0_4 : Int) (p0_5 : Int) (p0_6 : Int) (p0_7 : Int) : Option ((Int) × ((Int) × ((Int) × (Int)))) :=
  bindO (F 143 (RSh.one (CK.int IntKind.i64)) [(PV.agg [(PV.int IntKind.i64 p0_0), (PV.int IntKind.i64 p0_1)])]) fun (y0 : (Int)) =>
  bindO (F 143 (RSh.one (CK.int IntKind.i64)) [(PV.agg [(PV.int IntKind.i64 p0_2), (PV.int IntKind.i64 p0_3)])]) fun (y1 : (Int)) =>
  bindO (F 143 (RSh.one (CK.int IntKind.i64)) [(PV.agg [(PV.int IntKind.i64 p0_4), (PV.int IntKind.i64 p0_5)])]) fun (y2 : (Int)) =>
  bindO (F 143 (RSh.one (CK.int IntKind.i64)) [(PV.agg [(PV.int IntKind.i64 p0_6), (PV.int IntKind.i64 p0_7)])]) fun (y3 : (Int)) =>
  some (y0, (y1, (y2, y3)))
theorem t_glidepath_pulse_lines__powers_eq (F : FnT) (p0_0 : Int) (p0_1 : Int) (p0_2 : Int) (p0_3 : Int) (p0_4 : Int) (p0_5 : Int) (p0_6 : Int) (p0_7 : Int) : semF (callP F E_glidepath_pulse_lines__powers 20) s107 (loopT []) 400 a107 [PV.agg [PV.int IntKind.i64 p0_0, PV.int IntKind.i64 p0_1, PV.int IntKind.i64 p0_2, PV.int IntKind.i64 p0_3, PV.int IntKind.i64 p0_4, PV.int IntKind.i64 p0_5, PV.int IntKind.i64 p0_6, PV.int IntKind.i64 p0_7]] (fun rv => decR (RSh.agg [(CK.int IntKind.i64), (CK.int IntKind.i64), (CK.int IntKind.i64), (CK.int IntKind.i64)]) rv.pv) = t_glidepath_pulse_lines__powers F p0_0 p0_1 p0_2 p0_3 p0_4 p0_5 p0_6 p0_7 := by kernel_rfl
noncomputable abbrev F_glidepath_pulse_lines__powers (args : List PV) := Fn env 107 (RSh.agg [(CK.int IntKind.i64), (CK.int IntKind.i64), (CK.int IntKind.i64), (CK.int IntKind.i64)]) args
theorem F_glidepath_pulse_lines__powers_of  (p0_0 : Int) (p0_1 : Int) (p0_2 : Int) (p0_3 : Int) (p0_4 : Int) (p0_5 : Int) (p0_6 : Int) (p0_7 : Int) {res : ((Int) × ((Int) × ((Int) × (Int))))} (h : t_glidepath_pulse_lines__powers (Fn env) p0_0 p0_1 p0_2 p0_3 p0_4 p0_5 p0_6 p0_7 = some res) : F_glidepath_pulse_lines__powers [PV.agg [PV.int IntKind.i64 p0_0, PV.int IntKind.i64 p0_1, PV.int IntKind.i64 p0_2, PV.int IntKind.i64 p0_3, PV.int IntKind.i64 p0_4, PV.int IntKind.i64 p0_5, PV.int IntKind.i64 p0_6, PV.int IntKind.i64 p0_7]] = some res :=
  fn_of E_glidepath_pulse_lines__powers_ok rfl rfl lo_nil ((t_glidepath_pulse_lines__powers_eq _ _ _ _ _ _ _ _ _).trans h)

/-! ### pulse_powerOf -/

def Epulse_powerOf : List Entry := []
theorem Epulse_powerOf_ok : ∀ e ∈ Epulse_powerOf, EntOK env e := ent_nil
theorem Upulse_powerOf : uniq ((blocksOf a143.body).map (·.1)) = true := by kernel_rfl
def tpulse_powerOf (F : FnT) (p0_0 : Int) (p0_1 : Int) : Option (Int) :=
  some (w64 ((w64 (p0_0 * p0_0)) + (w64 (p0_1 * p0_1))))
theorem tpulse_powerOf_eq (F : FnT) (p0_0 : Int) (p0_1 : Int) : semF (callP F Epulse_powerOf 20) s143 (loopT []) 400 a143 [PV.agg [PV.int IntKind.i64 p0_0, PV.int IntKind.i64 p0_1]] (fun rv => decR (RSh.one (CK.int IntKind.i64)) rv.pv) = tpulse_powerOf F p0_0 p0_1 := by kernel_rfl
noncomputable abbrev Fpulse_powerOf (args : List PV) := Fn env 143 (RSh.one (CK.int IntKind.i64)) args
theorem Fpulse_powerOf_of  (p0_0 : Int) (p0_1 : Int) {res : (Int)} (h : tpulse_powerOf (Fn env) p0_0 p0_1 = some res) : Fpulse_powerOf [PV.agg [PV.int IntKind.i64 p0_0, PV.int IntKind.i64 p0_1]] = some res :=
  fn_of Epulse_powerOf_ok rfl rfl lo_nil ((tpulse_powerOf_eq _ _ _).trans h)

/-! ### pulse_PowersOf -/

def Epulse_PowersOf : List Entry := [.out 96 (RSh.one (CK.int IntKind.i64)), .out 106 (RSh.agg [(CK.int IntKind.i64), (CK.int IntKind.i64), (CK.int IntKind.i64), (CK.int IntKind.i64), (CK.int IntKind.i64), (CK.int IntKind.i64), (CK.int IntKind.i64), (CK.int IntKind.i64)]), .out 107 (RSh.agg [(CK.int IntKind.i64), (CK.int IntKind.i64), (CK.int IntKind.i64), (CK.int IntKind.i64)])]
theorem Epulse_PowersOf_ok : ∀ e ∈ Epulse_PowersOf, EntOK env e := (ent_out (ent_out (ent_out ent_nil)))
theorem Upulse_PowersOf : uniq ((blocksOf a42.body).map (·.1)) = true := by kernel_rfl
def tpulse_PowersOf (F : FnT) (p0n : Nat) (p0c : List PV) : Option ((Int) × ((Int) × ((Int) × ((Int) × (Int))))) :=
  bindO (F 96 (RSh.one (CK.int IntKind.i64)) [(PV.list p0n p0c)]) fun (y0 : (Int)) =>
  bif (y0 != (0 : Int)) then
    some ((0 : Int), ((0 : Int), ((0 : Int), ((0 : Int), y0))))
  else bindO (F 106 (RSh.agg [(CK.int IntKind.i64), (CK.int IntKind.i64), (CK.int IntKind.i64), (CK.int IntKind.i64), (CK.int IntKind.i64), (CK.int IntKind.i64), (CK.int IntKind.i64), (CK.int IntKind.i64)]) [(PV.list p0n p0c)]) fun (y1 : ((Int) × ((Int) × ((Int) × ((Int) × ((Int) × ((Int) × ((Int) × (Int))))))))) =>
  bindO (F 107 (RSh.agg [(CK.int IntKind.i64), (CK.int IntKind.i64), (CK.int IntKind.i64), (CK.int IntKind.i64)]) [(PV.agg [(PV.int IntKind.i64 y1.1), (PV.int IntKind.i64 y1.2.1), (PV.int IntKind.i64 y1.2.2.1), (PV.int IntKind.i64 y1.2.2.2.1), (PV.int IntKind.i64 y1.2.2.2.2.1), (PV.int IntKind.i64 y1.2.2.2.2.2.1), (PV.int IntKind.i64 y1.2.2.2.2.2.2.1), (PV.int IntKind.i64 y1.2.2.2.2.2.2.2)])]) fun (y2 : ((Int) × ((Int) × ((Int) × (Int))))) =>
  some (y2.1, (y2.2.1, (y2.2.2.1, (y2.2.2.2, (0 : Int)))))
theorem tpulse_PowersOf_eq (F : FnT) (p0n : Nat) (p0c : List PV) : semF (callP F Epulse_PowersOf 20) s42 (loopT []) 400 a42 [PV.list p0n p0c] (fun rv => decR (RSh.tup [(Prod.mk true [(CK.int IntKind.i64), (CK.int IntKind.i64), (CK.int IntKind.i64), (CK.int IntKind.i64)]), (Prod.mk false [(CK.int IntKind.i64)])]) rv.pv) = tpulse_PowersOf F p0n p0c := by kernel_rfl
noncomputable abbrev Fpulse_PowersOf (args : List PV) := Fn env 42 (RSh.tup [(Prod.mk true [(CK.int IntKind.i64), (CK.int IntKind.i64), (CK.int IntKind.i64), (CK.int IntKind.i64)]), (Prod.mk false [(CK.int IntKind.i64)])]) args
theorem Fpulse_PowersOf_of  (p0n : Nat) (p0c : List PV) {res : ((Int) × ((Int) × ((Int) × ((Int) × (Int)))))} (h : tpulse_PowersOf (Fn env) p0n p0c = some res) : Fpulse_PowersOf [PV.list p0n p0c] = some res :=
  fn_of Epulse_PowersOf_ok rfl rfl lo_nil ((tpulse_PowersOf_eq _ _ _).trans h)

/-! ### glidepathbase_GNorm -/

def Eglidepathbase_GNorm : List Entry := []
theorem Eglidepathbase_GNorm_ok : ∀ e ∈ Eglidepathbase_GNorm, EntOK env e := ent_nil
theorem Uglidepathbase_GNorm : uniq ((blocksOf a64.body).map (·.1)) = true := by kernel_rfl
def tglidepathbase_GNorm (F : FnT) (p0_0 : Int) (p0_1 : Int) : Option (Int) :=
  some (w64 ((w64 (p0_0 * p0_0)) + (w64 (p0_1 * p0_1))))
theorem tglidepathbase_GNorm_eq (F : FnT) (p0_0 : Int) (p0_1 : Int) : semF (callP F Eglidepathbase_GNorm 20) s64 (loopT []) 400 a64 [PV.agg [PV.int IntKind.i64 p0_0, PV.int IntKind.i64 p0_1]] (fun rv => decR (RSh.one (CK.int IntKind.i64)) rv.pv) = tglidepathbase_GNorm F p0_0 p0_1 := by kernel_rfl
noncomputable abbrev Fglidepathbase_GNorm (args : List PV) := Fn env 64 (RSh.one (CK.int IntKind.i64)) args
theorem Fglidepathbase_GNorm_of  (p0_0 : Int) (p0_1 : Int) {res : (Int)} (h : tglidepathbase_GNorm (Fn env) p0_0 p0_1 = some res) : Fglidepathbase_GNorm [PV.agg [PV.int IntKind.i64 p0_0, PV.int IntKind.i64 p0_1]] = some res :=
  fn_of Eglidepathbase_GNorm_ok rfl rfl lo_nil ((tglidepathbase_GNorm_eq _ _ _).trans h)

end Gv
