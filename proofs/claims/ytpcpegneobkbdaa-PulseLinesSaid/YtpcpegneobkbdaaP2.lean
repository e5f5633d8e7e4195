/- What the functions do, round by round: P2. -/
import Derived.Test.YtpcpegneobkbdaaP1
namespace Gv
open Go
set_option maxRecDepth 100000

/-! ### _glidepath_pulse_lines__with -/

def E_glidepath_pulse_lines__with : List Entry := [.out 109 (Gv.RSh.agg [(Gv.CK.int Go.IntKind.i64), (Gv.CK.int Go.IntKind.i64)]), .out 117 (Gv.RSh.agg [(Gv.CK.int Go.IntKind.i64), (Gv.CK.int Go.IntKind.i64)])]
theorem E_glidepath_pulse_lines__with_ok : ∀ e ∈ E_glidepath_pulse_lines__with, EntOK env e := (ent_out (ent_out ent_nil))
theorem U_glidepath_pulse_lines__with : uniq ((blocksOf a142.body).map (·.1)) = true := by kernel_rfl
def t_glidepath_pulse_lines__with (F : FnT) (p0_0 : Int) (p0_1 : Int) (p0_2 : Int) (p0_3 : Int) (p0_4 : Int) (p0_5 : Int) (p0_6 : Int) (p0_7 : Int) (p1 : Int) (p2_0 : Int) (p2_1 : Int) : Option ((Int) × ((Int) × ((Int) × ((Int) × ((Int) × ((Int) × ((Int) × (Int)))))))) :=
  bindO (F 109 (Gv.RSh.agg [(Gv.CK.int Go.IntKind.i64), (Gv.CK.int Go.IntKind.i64)]) [(Gv.PV.agg [(Gv.PV.int Go.IntKind.i64 p2_0), (Gv.PV.int Go.IntKind.i64 p2_1)]), (Gv.PV.int Go.IntKind.i64 (w64 (p1 * (0 : Int))))]) fun (y0 : ((Int) × (Int))) =>
  bindO (F 117 (Gv.RSh.agg [(Gv.CK.int Go.IntKind.i64), (Gv.CK.int Go.IntKind.i64)]) [(Gv.PV.agg [(Gv.PV.int Go.IntKind.i64 p0_0), (Gv.PV.int Go.IntKind.i64 p0_1)]), (Gv.PV.agg [(Gv.PV.int Go.IntKind.i64 y0.1), (Gv.PV.int Go.IntKind.i64 y0.2)])]) fun (y1 : ((Int) × (Int))) =>
  bindO (F 109 (Gv.RSh.agg [(Gv.CK.int Go.IntKind.i64), (Gv.CK.int Go.IntKind.i64)]) [(Gv.PV.agg [(Gv.PV.int Go.IntKind.i64 p2_0), (Gv.PV.int Go.IntKind.i64 p2_1)]), (Gv.PV.int Go.IntKind.i64 (w64 (p1 * (1 : Int))))]) fun (y2 : ((Int) × (Int))) =>
  bindO (F 117 (Gv.RSh.agg [(Gv.CK.int Go.IntKind.i64), (Gv.CK.int Go.IntKind.i64)]) [(Gv.PV.agg [(Gv.PV.int Go.IntKind.i64 p0_2), (Gv.PV.int Go.IntKind.i64 p0_3)]), (Gv.PV.agg [(Gv.PV.int Go.IntKind.i64 y2.1), (Gv.PV.int Go.IntKind.i64 y2.2)])]) fun (y3 : ((Int) × (Int))) =>
  bindO (F 109 (Gv.RSh.agg [(Gv.CK.int Go.IntKind.i64), (Gv.CK.int Go.IntKind.i64)]) [(Gv.PV.agg [(Gv.PV.int Go.IntKind.i64 p2_0), (Gv.PV.int Go.IntKind.i64 p2_1)]), (Gv.PV.int Go.IntKind.i64 (w64 (p1 * (2 : Int))))]) fun (y4 : ((Int) × (Int))) =>
  bindO (F 117 (Gv.RSh.agg [(Gv.CK.int Go.IntKind.i64), (Gv.CK.int Go.IntKind.i64)]) [(Gv.PV.agg [(Gv.PV.int Go.IntKind.i64 p0_4), (Gv.PV.int Go.IntKind.i64 p0_5)]), (Gv.PV.agg [(Gv.PV.int Go.IntKind.i64 y4.1), (Gv.PV.int Go.IntKind.i64 y4.2)])]) fun (y5 : ((Int) × (Int))) =>
  bindO (F 109 (Gv.RSh.agg [(Gv.CK.int Go.IntKind.i64), (Gv.CK.int Go.IntKind.i64)]) [(Gv.PV.agg [(Gv.PV.int Go.IntKind.i64 p2_0), (Gv.PV.int Go.IntKind.i64 p2_1)]), (Gv.PV.int Go.IntKind.i64 (w64 (p1 * (3 : Int))))]) fun (y6 : ((Int) × (Int))) =>
  bindO (F 117 (Gv.RSh.agg [(Gv.CK.int Go.IntKind.i64), (Gv.CK.int Go.IntKind.i64)]) [(Gv.PV.agg [(Gv.PV.int Go.IntKind.i64 p0_6), (Gv.PV.int Go.IntKind.i64 p0_7)]), (Gv.PV.agg [(Gv.PV.int Go.IntKind.i64 y6.1), (Gv.PV.int Go.IntKind.i64 y6.2)])]) fun (y7 : ((Int) × (Int))) =>
  some (y1.1, (y1.2, (y3.1, (y3.2, (y5.1, (y5.2, (y7.1, y7.2)))))))
theorem t_glidepath_pulse_lines__with_eq (F : FnT) (p0_0 : Int) (p0_1 : Int) (p0_2 : Int) (p0_3 : Int) (p0_4 : Int) (p0_5 : Int) (p0_6 : Int) (p0_7 : Int) (p1 : Int) (p2_0 : Int) (p2_1 : Int) : semF (callP F E_glidepath_pulse_lines__with 20) s142 (loopT []) 400 a142 [PV.agg [PV.int Go.IntKind.i64 p0_0, PV.int Go.IntKind.i64 p0_1, PV.int Go.IntKind.i64 p0_2, PV.int Go.IntKind.i64 p0_3, PV.int Go.IntKind.i64 p0_4, PV.int Go.IntKind.i64 p0_5, PV.int Go.IntKind.i64 p0_6, PV.int Go.IntKind.i64 p0_7], PV.int Go.IntKind.i64 p1, PV.agg [PV.int Go.IntKind.i64 p2_0, PV.int Go.IntKind.i64 p2_1]] (fun rv => decR (Gv.RSh.agg [(Gv.CK.int Go.IntKind.i64), (Gv.CK.int Go.IntKind.i64), (Gv.CK.int Go.IntKind.i64), (Gv.CK.int Go.IntKind.i64), (Gv.CK.int Go.IntKind.i64), (Gv.CK.int Go.IntKind.i64), (Gv.CK.int Go.IntKind.i64), (Gv.CK.int Go.IntKind.i64)]) rv.pv) = t_glidepath_pulse_lines__with F p0_0 p0_1 p0_2 p0_3 p0_4 p0_5 p0_6 p0_7 p1 p2_0 p2_1 := by kernel_rfl
noncomputable abbrev F_glidepath_pulse_lines__with (args : List PV) := Fn env 142 (Gv.RSh.agg [(Gv.CK.int Go.IntKind.i64), (Gv.CK.int Go.IntKind.i64), (Gv.CK.int Go.IntKind.i64), (Gv.CK.int Go.IntKind.i64), (Gv.CK.int Go.IntKind.i64), (Gv.CK.int Go.IntKind.i64), (Gv.CK.int Go.IntKind.i64), (Gv.CK.int Go.IntKind.i64)]) args
theorem F_glidepath_pulse_lines__with_of  (p0_0 : Int) (p0_1 : Int) (p0_2 : Int) (p0_3 : Int) (p0_4 : Int) (p0_5 : Int) (p0_6 : Int) (p0_7 : Int) (p1 : Int) (p2_0 : Int) (p2_1 : Int) {res : ((Int) × ((Int) × ((Int) × ((Int) × ((Int) × ((Int) × ((Int) × (Int))))))))} (h : t_glidepath_pulse_lines__with (Fn env) p0_0 p0_1 p0_2 p0_3 p0_4 p0_5 p0_6 p0_7 p1 p2_0 p2_1 = some res) : F_glidepath_pulse_lines__with [PV.agg [PV.int Go.IntKind.i64 p0_0, PV.int Go.IntKind.i64 p0_1, PV.int Go.IntKind.i64 p0_2, PV.int Go.IntKind.i64 p0_3, PV.int Go.IntKind.i64 p0_4, PV.int Go.IntKind.i64 p0_5, PV.int Go.IntKind.i64 p0_6, PV.int Go.IntKind.i64 p0_7], PV.int Go.IntKind.i64 p1, PV.agg [PV.int Go.IntKind.i64 p2_0, PV.int Go.IntKind.i64 p2_1]] = some res :=
  fn_of E_glidepath_pulse_lines__with_ok rfl rfl lo_nil ((t_glidepath_pulse_lines__with_eq _ _ _ _ _ _ _ _ _ _ _ _).trans h)

/-! ### pulse_linesOf -/

def Epulse_linesOf : List Entry := [.out 142 (Gv.RSh.agg [(Gv.CK.int Go.IntKind.i64), (Gv.CK.int Go.IntKind.i64), (Gv.CK.int Go.IntKind.i64), (Gv.CK.int Go.IntKind.i64), (Gv.CK.int Go.IntKind.i64), (Gv.CK.int Go.IntKind.i64), (Gv.CK.int Go.IntKind.i64), (Gv.CK.int Go.IntKind.i64)])]
theorem Epulse_linesOf_ok : ∀ e ∈ Epulse_linesOf, EntOK env e := (ent_out ent_nil)
def Tpulse_linesOf_0a (n0 : Nat) (c1 : List PV) (i2 : Int) (i3 : Int) (i4 : Int) (i5 : Int) (i6 : Int) (i7 : Int) (i8 : Int) (i9 : Int) (i10 : Int) (i11 : Int) : Q := ⟨(tm 19 [(2, (AV.loc 2 0)), (3, (AV.loc 3 0)), (6, (AV.p (PV.list n0 c1))), (7, (AV.p (PV.int Go.IntKind.i64 i2))), (8, (AV.p (PV.int Go.IntKind.i64 i3)))]), (mm 19 [(2, (Bk.pcs true [(PV.int Go.IntKind.i64 (0 : Int)), (PV.int Go.IntKind.i64 (0 : Int)), (PV.int Go.IntKind.i64 (0 : Int)), (PV.int Go.IntKind.i64 (0 : Int)), (PV.int Go.IntKind.i64 (0 : Int)), (PV.int Go.IntKind.i64 (0 : Int)), (PV.int Go.IntKind.i64 (0 : Int)), (PV.int Go.IntKind.i64 (0 : Int))])), (3, (Bk.pcs true [(PV.int Go.IntKind.i64 i4), (PV.int Go.IntKind.i64 i5), (PV.int Go.IntKind.i64 i6), (PV.int Go.IntKind.i64 i7), (PV.int Go.IntKind.i64 i8), (PV.int Go.IntKind.i64 i9), (PV.int Go.IntKind.i64 i10), (PV.int Go.IntKind.i64 i11)]))])⟩
def Xpulse_linesOf_0a (y : Int × Int × Int × Int × Int × Int × Int × Int) : Ext × Q := (Ext.normal, ⟨(tm 19 [(2, (AV.loc 2 0)), (3, (AV.loc 3 0))]), (mm 19 [(2, (Bk.pcs true [(PV.int Go.IntKind.i64 (0 : Int)), (PV.int Go.IntKind.i64 (0 : Int)), (PV.int Go.IntKind.i64 (0 : Int)), (PV.int Go.IntKind.i64 (0 : Int)), (PV.int Go.IntKind.i64 (0 : Int)), (PV.int Go.IntKind.i64 (0 : Int)), (PV.int Go.IntKind.i64 (0 : Int)), (PV.int Go.IntKind.i64 (0 : Int))])), (3, (Bk.pcs true [(PV.int Go.IntKind.i64 y.1), (PV.int Go.IntKind.i64 y.2.1), (PV.int Go.IntKind.i64 y.2.2.1), (PV.int Go.IntKind.i64 y.2.2.2.1), (PV.int Go.IntKind.i64 y.2.2.2.2.1), (PV.int Go.IntKind.i64 y.2.2.2.2.2.1), (PV.int Go.IntKind.i64 y.2.2.2.2.2.2.1), (PV.int Go.IntKind.i64 y.2.2.2.2.2.2.2)]))])⟩)
def Ipulse_linesOf_0a (q : Ext × S) : Int × Int × Int × Int × Int × Int × Int × Int := ((pP_int1 (hdP (pB_pcs1 (avM q.2 3)))), (pP_int1 (hdP (List.tail (pB_pcs1 (avM q.2 3))))), (pP_int1 (hdP (List.tail (List.tail (pB_pcs1 (avM q.2 3)))))), (pP_int1 (hdP (List.tail (List.tail (List.tail (pB_pcs1 (avM q.2 3))))))), (pP_int1 (hdP (List.tail (List.tail (List.tail (List.tail (pB_pcs1 (avM q.2 3)))))))), (pP_int1 (hdP (List.tail (List.tail (List.tail (List.tail (List.tail (pB_pcs1 (avM q.2 3))))))))), (pP_int1 (hdP (List.tail (List.tail (List.tail (List.tail (List.tail (List.tail (pB_pcs1 (avM q.2 3)))))))))), (pP_int1 (hdP (List.tail (List.tail (List.tail (List.tail (List.tail (List.tail (List.tail (pB_pcs1 (avM q.2 3))))))))))))
abbrev Ypulse_linesOf_0 : Type := Int × Int × Int × Int × Int × Int × Int × Int
def XLpulse_linesOf_0 : XL Ypulse_linesOf_0 := .one Xpulse_linesOf_0a
def Ipulse_linesOf_0 (q : Ext × S) : Ypulse_linesOf_0 := (Ipulse_linesOf_0a q)
theorem XIpulse_linesOf_0a (y : Int × Int × Int × Int × Int × Int × Int × Int) : Ipulse_linesOf_0 (xe (Xpulse_linesOf_0a y)) = y := rfl
theorem XIpulse_linesOf_0 (y : Ypulse_linesOf_0) : Ipulse_linesOf_0 (xe (XLpulse_linesOf_0.fn y)) = y := XIpulse_linesOf_0a y
noncomputable abbrev Lpulse_linesOf_0 : Q → Option Ypulse_linesOf_0 := lpO env a106.body 0 XLpulse_linesOf_0
noncomputable abbrev Rpulse_linesOf_0 : Q → Option (Ext × S) := lpR env a106.body 0
theorem Lpulse_linesOf_0a_of {s : Q} {y : Int × Int × Int × Int × Int × Int × Int × Int} (h : Rpulse_linesOf_0 s = exO (Xpulse_linesOf_0a y)) : Lpulse_linesOf_0 s = some y := lpO_of Ipulse_linesOf_0 XIpulse_linesOf_0 (y := y) h
theorem Upulse_linesOf : uniq ((blocksOf a106.body).map (·.1)) = true := by kernel_rfl
def Bpulse_linesOf_0a (F : FnT) (N : Q → Option (Ext × S)) (E : Ext × Q → Option (Ext × S)) (L0 : Q → Option Ypulse_linesOf_0) (n0 : Nat) (c1 : List PV) (i2 : Int) (i3 : Int) (i4 : Int) (i5 : Int) (i6 : Int) (i7 : Int) (i8 : Int) (i9 : Int) (i10 : Int) (i11 : Int) : Option (Ext × S) :=
  bif (decide (i3 < i2)) then
    bif (decide (((0 : Int) ≤ i3) ∧ (i3 < (n0 : Int)))) then
      bindO (Gv.intC Go.IntKind.i64 (c1[((Int.toNat i3) * 2)]?)) fun x0 =>
      bindO (Gv.intC Go.IntKind.i64 (c1[(((Int.toNat i3) * 2) + 1)]?)) fun x1 =>
      bindO (F 142 (Gv.RSh.agg [(Gv.CK.int Go.IntKind.i64), (Gv.CK.int Go.IntKind.i64), (Gv.CK.int Go.IntKind.i64), (Gv.CK.int Go.IntKind.i64), (Gv.CK.int Go.IntKind.i64), (Gv.CK.int Go.IntKind.i64), (Gv.CK.int Go.IntKind.i64), (Gv.CK.int Go.IntKind.i64)]) [(Gv.PV.agg [(Gv.PV.int Go.IntKind.i64 i4), (Gv.PV.int Go.IntKind.i64 i5), (Gv.PV.int Go.IntKind.i64 i6), (Gv.PV.int Go.IntKind.i64 i7), (Gv.PV.int Go.IntKind.i64 i8), (Gv.PV.int Go.IntKind.i64 i9), (Gv.PV.int Go.IntKind.i64 i10), (Gv.PV.int Go.IntKind.i64 i11)]), (Gv.PV.int Go.IntKind.i64 i3), (Gv.PV.agg [(Gv.PV.int Go.IntKind.i64 x0), (Gv.PV.int Go.IntKind.i64 x1)])]) fun (y2 : ((Int) × ((Int) × ((Int) × ((Int) × ((Int) × ((Int) × ((Int) × (Int))))))))) =>
      N (Tpulse_linesOf_0a n0 c1 i2 (w64 (i3 + (1 : Int))) y2.1 y2.2.1 y2.2.2.1 y2.2.2.2.1 y2.2.2.2.2.1 y2.2.2.2.2.2.1 y2.2.2.2.2.2.2.1 y2.2.2.2.2.2.2.2)
    else none
  else E (Xpulse_linesOf_0a (i4, i5, i6, i7, i8, i9, i10, i11))
theorem Bpulse_linesOf_0a_eq (F : FnT) (N : Q → Option (Ext × S)) (E : Ext × Q → Option (Ext × S)) (L0 : Q → Option Ypulse_linesOf_0) (n0 : Nat) (c1 : List PV) (i2 : Int) (i3 : Int) (i4 : Int) (i5 : Int) (i6 : Int) (i7 : Int) (i8 : Int) (i9 : Int) (i10 : Int) (i11 : Int) : semB (callP F Epulse_linesOf 20) s106 (loopT [⟨0, Ypulse_linesOf_0, L0, XLpulse_linesOf_0⟩]) 400 (blkIn a106.body 0) N E (Tpulse_linesOf_0a n0 c1 i2 i3 i4 i5 i6 i7 i8 i9 i10 i11) = Bpulse_linesOf_0a F N E L0 n0 c1 i2 i3 i4 i5 i6 i7 i8 i9 i10 i11 := by kernel_rfl
theorem Rpulse_linesOf_0a_of  (n0 : Nat) (c1 : List PV) (i2 : Int) (i3 : Int) (i4 : Int) (i5 : Int) (i6 : Int) (i7 : Int) (i8 : Int) (i9 : Int) (i10 : Int) (i11 : Int) {r : Ext × S} (h : Bpulse_linesOf_0a (Fn env) Rpulse_linesOf_0 exO Lpulse_linesOf_0 n0 c1 i2 i3 i4 i5 i6 i7 i8 i9 i10 i11 = some r) : Rpulse_linesOf_0 (Tpulse_linesOf_0a n0 c1 i2 i3 i4 i5 i6 i7 i8 i9 i10 i11) = some r :=
  lp_of Epulse_linesOf_ok (by kernel_rfl) (lo_cons (lpO_ok Upulse_linesOf) lo_nil) (by kernel_rfl) ((Bpulse_linesOf_0a_eq _ _ _ _ _ _ _ _ _ _ _ _ _ _ _ _).trans h)
def tpulse_linesOf (F : FnT) (L0 : Q → Option Ypulse_linesOf_0) (p0n : Nat) (p0c : List PV) : Option ((Int) × ((Int) × ((Int) × ((Int) × ((Int) × ((Int) × ((Int) × (Int)))))))) :=
  bindO (L0 (Tpulse_linesOf_0a p0n p0c (p0n : Int) (0 : Int) (0 : Int) (0 : Int) (0 : Int) (0 : Int) (0 : Int) (0 : Int) (0 : Int) (0 : Int))) fun y0 =>
  some (y0.1, (y0.2.1, (y0.2.2.1, (y0.2.2.2.1, (y0.2.2.2.2.1, (y0.2.2.2.2.2.1, (y0.2.2.2.2.2.2.1, y0.2.2.2.2.2.2.2)))))))
theorem tpulse_linesOf_eq (F : FnT) (L0 : Q → Option Ypulse_linesOf_0) (p0n : Nat) (p0c : List PV) : semF (callP F Epulse_linesOf 20) s106 (loopT [⟨0, Ypulse_linesOf_0, L0, XLpulse_linesOf_0⟩]) 400 a106 [PV.list p0n p0c] (fun rv => decR (Gv.RSh.agg [(Gv.CK.int Go.IntKind.i64), (Gv.CK.int Go.IntKind.i64), (Gv.CK.int Go.IntKind.i64), (Gv.CK.int Go.IntKind.i64), (Gv.CK.int Go.IntKind.i64), (Gv.CK.int Go.IntKind.i64), (Gv.CK.int Go.IntKind.i64), (Gv.CK.int Go.IntKind.i64)]) rv.pv) = tpulse_linesOf F L0 p0n p0c := by kernel_rfl
noncomputable abbrev Fpulse_linesOf (args : List PV) := Fn env 106 (Gv.RSh.agg [(Gv.CK.int Go.IntKind.i64), (Gv.CK.int Go.IntKind.i64), (Gv.CK.int Go.IntKind.i64), (Gv.CK.int Go.IntKind.i64), (Gv.CK.int Go.IntKind.i64), (Gv.CK.int Go.IntKind.i64), (Gv.CK.int Go.IntKind.i64), (Gv.CK.int Go.IntKind.i64)]) args
theorem Fpulse_linesOf_of  (p0n : Nat) (p0c : List PV) {res : ((Int) × ((Int) × ((Int) × ((Int) × ((Int) × ((Int) × ((Int) × (Int))))))))} (h : tpulse_linesOf (Fn env) Lpulse_linesOf_0 p0n p0c = some res) : Fpulse_linesOf [PV.list p0n p0c] = some res :=
  fn_of Epulse_linesOf_ok rfl rfl (lo_cons (lpO_ok Upulse_linesOf) lo_nil) ((tpulse_linesOf_eq _ _ _ _).trans h)

/-! ### pulse_LinesOf -/

def Epulse_LinesOf : List Entry := [.out 96 (Gv.RSh.one (Gv.CK.int Go.IntKind.i64)), .out 106 (Gv.RSh.agg [(Gv.CK.int Go.IntKind.i64), (Gv.CK.int Go.IntKind.i64), (Gv.CK.int Go.IntKind.i64), (Gv.CK.int Go.IntKind.i64), (Gv.CK.int Go.IntKind.i64), (Gv.CK.int Go.IntKind.i64), (Gv.CK.int Go.IntKind.i64), (Gv.CK.int Go.IntKind.i64)])]
theorem Epulse_LinesOf_ok : ∀ e ∈ Epulse_LinesOf, EntOK env e := (ent_out (ent_out ent_nil))
theorem Upulse_LinesOf : uniq ((blocksOf a41.body).map (·.1)) = true := by kernel_rfl
def tpulse_LinesOf (F : FnT) (p0n : Nat) (p0c : List PV) : Option ((Int) × ((Int) × ((Int) × ((Int) × ((Int) × ((Int) × ((Int) × ((Int) × (Int))))))))) :=
  bindO (F 96 (Gv.RSh.one (Gv.CK.int Go.IntKind.i64)) [(Gv.PV.list p0n p0c)]) fun (y0 : (Int)) =>
  bif (y0 != (0 : Int)) then
    some ((0 : Int), ((0 : Int), ((0 : Int), ((0 : Int), ((0 : Int), ((0 : Int), ((0 : Int), ((0 : Int), y0))))))))
  else bindO (F 106 (Gv.RSh.agg [(Gv.CK.int Go.IntKind.i64), (Gv.CK.int Go.IntKind.i64), (Gv.CK.int Go.IntKind.i64), (Gv.CK.int Go.IntKind.i64), (Gv.CK.int Go.IntKind.i64), (Gv.CK.int Go.IntKind.i64), (Gv.CK.int Go.IntKind.i64), (Gv.CK.int Go.IntKind.i64)]) [(Gv.PV.list p0n p0c)]) fun (y1 : ((Int) × ((Int) × ((Int) × ((Int) × ((Int) × ((Int) × ((Int) × (Int))))))))) =>
  some (y1.1, (y1.2.1, (y1.2.2.1, (y1.2.2.2.1, (y1.2.2.2.2.1, (y1.2.2.2.2.2.1, (y1.2.2.2.2.2.2.1, (y1.2.2.2.2.2.2.2, (0 : Int)))))))))
theorem tpulse_LinesOf_eq (F : FnT) (p0n : Nat) (p0c : List PV) : semF (callP F Epulse_LinesOf 20) s41 (loopT []) 400 a41 [PV.list p0n p0c] (fun rv => decR (Gv.RSh.tup [(Prod.mk true [(Gv.CK.int Go.IntKind.i64), (Gv.CK.int Go.IntKind.i64), (Gv.CK.int Go.IntKind.i64), (Gv.CK.int Go.IntKind.i64), (Gv.CK.int Go.IntKind.i64), (Gv.CK.int Go.IntKind.i64), (Gv.CK.int Go.IntKind.i64), (Gv.CK.int Go.IntKind.i64)]), (Prod.mk false [(Gv.CK.int Go.IntKind.i64)])]) rv.pv) = tpulse_LinesOf F p0n p0c := by kernel_rfl
noncomputable abbrev Fpulse_LinesOf (args : List PV) := Fn env 41 (Gv.RSh.tup [(Prod.mk true [(Gv.CK.int Go.IntKind.i64), (Gv.CK.int Go.IntKind.i64), (Gv.CK.int Go.IntKind.i64), (Gv.CK.int Go.IntKind.i64), (Gv.CK.int Go.IntKind.i64), (Gv.CK.int Go.IntKind.i64), (Gv.CK.int Go.IntKind.i64), (Gv.CK.int Go.IntKind.i64)]), (Prod.mk false [(Gv.CK.int Go.IntKind.i64)])]) args
theorem Fpulse_LinesOf_of  (p0n : Nat) (p0c : List PV) {res : ((Int) × ((Int) × ((Int) × ((Int) × ((Int) × ((Int) × ((Int) × ((Int) × (Int)))))))))} (h : tpulse_LinesOf (Fn env) p0n p0c = some res) : Fpulse_LinesOf [PV.list p0n p0c] = some res :=
  fn_of Epulse_LinesOf_ok rfl rfl lo_nil ((tpulse_LinesOf_eq _ _ _).trans h)

/-! ### glidepathlaw01_PulseMixed -/

def Eglidepathlaw01_PulseMixed : List Entry := [.out 15 (Gv.RSh.one Gv.CK.bool), .out 35 (Gv.RSh.one (Gv.CK.int Go.IntKind.i64)), .out 26 (Gv.RSh.one Gv.CK.bool), .out 19 (Gv.RSh.one Gv.CK.list), .out 48 (Gv.RSh.tup [(Prod.mk false [Gv.CK.list]), (Prod.mk false [(Gv.CK.int Go.IntKind.i64)])]), .out 41 (Gv.RSh.tup [(Prod.mk true [(Gv.CK.int Go.IntKind.i64), (Gv.CK.int Go.IntKind.i64), (Gv.CK.int Go.IntKind.i64), (Gv.CK.int Go.IntKind.i64), (Gv.CK.int Go.IntKind.i64), (Gv.CK.int Go.IntKind.i64), (Gv.CK.int Go.IntKind.i64), (Gv.CK.int Go.IntKind.i64)]), (Prod.mk false [(Gv.CK.int Go.IntKind.i64)])]), .out 49 (Gv.RSh.tup [(Prod.mk true [(Gv.CK.int Go.IntKind.i64), (Gv.CK.int Go.IntKind.i64)]), (Prod.mk false [(Gv.CK.int Go.IntKind.i64)])]), .out 32 (Gv.RSh.one Gv.CK.bool), .out 52 (Gv.RSh.agg [(Gv.CK.int Go.IntKind.i64), (Gv.CK.int Go.IntKind.i64)])]
theorem Eglidepathlaw01_PulseMixed_ok : ∀ e ∈ Eglidepathlaw01_PulseMixed, EntOK env e := (ent_out (ent_out (ent_out (ent_out (ent_out (ent_out (ent_out (ent_out (ent_out ent_nil)))))))))
theorem Uglidepathlaw01_PulseMixed : uniq ((blocksOf a8.body).map (·.1)) = true := by kernel_rfl
def tglidepathlaw01_PulseMixed (F : FnT) (p0n : Nat) (p0c : List PV) (p1 : Int) (p2 : Int) : Option (Bool) :=
  bindO (F 15 (Gv.RSh.one Gv.CK.bool) []) fun (y0 : (Bool)) =>
  bif y0 then
    bindO (F 35 (Gv.RSh.one (Gv.CK.int Go.IntKind.i64)) [(Gv.PV.list p0n p0c)]) fun (y1 : (Int)) =>
    bif (y1 != (0 : Int)) then
      some true
    else bindO (F 26 (Gv.RSh.one Gv.CK.bool) [(Gv.PV.int Go.IntKind.i64 p1), (Gv.PV.int Go.IntKind.i64 (0 : Int)), (Gv.PV.int Go.IntKind.i64 (3 : Int))]) fun (y2 : (Bool)) =>
    bif y2 then
      bindO (F 26 (Gv.RSh.one Gv.CK.bool) [(Gv.PV.int Go.IntKind.i64 p2), (Gv.PV.int Go.IntKind.i64 (0 : Int)), (Gv.PV.int Go.IntKind.i64 (48 : Int))]) fun (y3 : (Bool)) =>
      bif y3 then
        bindO (F 19 (Gv.RSh.one Gv.CK.list) [(Gv.PV.list p0n p0c)]) fun (y4 : ((Nat) × (List PV))) =>
        bindO (F 48 (Gv.RSh.tup [(Prod.mk false [Gv.CK.list]), (Prod.mk false [(Gv.CK.int Go.IntKind.i64)])]) [(Gv.PV.list y4.1 y4.2), (Gv.PV.int Go.IntKind.i64 p1)]) fun (y5 : (((Nat) × (List PV)) × (Int))) =>
        bif (y5.2 != (0 : Int)) then
          some false
        else bindO (F 35 (Gv.RSh.one (Gv.CK.int Go.IntKind.i64)) [(Gv.PV.list y5.1.1 y5.1.2)]) fun (y6 : (Int)) =>
        bif (y6 != (0 : Int)) then
          some false
        else bif ((y5.1.1 : Int) != (p0n : Int)) then
          some false
        else bindO (F 19 (Gv.RSh.one Gv.CK.list) [(Gv.PV.list y5.1.1 y5.1.2)]) fun (y7 : ((Nat) × (List PV))) =>
        bindO (F 48 (Gv.RSh.tup [(Prod.mk false [Gv.CK.list]), (Prod.mk false [(Gv.CK.int Go.IntKind.i64)])]) [(Gv.PV.list y7.1 y7.2), (Gv.PV.int Go.IntKind.i64 (Int.tmod (w64 ((4 : Int) - p1)) (4 : Int)))]) fun (y8 : (((Nat) × (List PV)) × (Int))) =>
        bindO (F 19 (Gv.RSh.one Gv.CK.list) [(Gv.PV.list p0n p0c)]) fun (y9 : ((Nat) × (List PV))) =>
        bindO (F 41 (Gv.RSh.tup [(Prod.mk true [(Gv.CK.int Go.IntKind.i64), (Gv.CK.int Go.IntKind.i64), (Gv.CK.int Go.IntKind.i64), (Gv.CK.int Go.IntKind.i64), (Gv.CK.int Go.IntKind.i64), (Gv.CK.int Go.IntKind.i64), (Gv.CK.int Go.IntKind.i64), (Gv.CK.int Go.IntKind.i64)]), (Prod.mk false [(Gv.CK.int Go.IntKind.i64)])]) [(Gv.PV.list y9.1 y9.2)]) fun (y10 : ((Int) × ((Int) × ((Int) × ((Int) × ((Int) × ((Int) × ((Int) × ((Int) × (Int)))))))))) =>
        bindO (F 19 (Gv.RSh.one Gv.CK.list) [(Gv.PV.list y5.1.1 y5.1.2)]) fun (y11 : ((Nat) × (List PV))) =>
        bindO (F 41 (Gv.RSh.tup [(Prod.mk true [(Gv.CK.int Go.IntKind.i64), (Gv.CK.int Go.IntKind.i64), (Gv.CK.int Go.IntKind.i64), (Gv.CK.int Go.IntKind.i64), (Gv.CK.int Go.IntKind.i64), (Gv.CK.int Go.IntKind.i64), (Gv.CK.int Go.IntKind.i64), (Gv.CK.int Go.IntKind.i64)]), (Prod.mk false [(Gv.CK.int Go.IntKind.i64)])]) [(Gv.PV.list y11.1 y11.2)]) fun (y12 : ((Int) × ((Int) × ((Int) × ((Int) × ((Int) × ((Int) × ((Int) × ((Int) × (Int)))))))))) =>
        bindO (F 19 (Gv.RSh.one Gv.CK.list) [(Gv.PV.list p0n p0c)]) fun (y13 : ((Nat) × (List PV))) =>
        bindO (F 49 (Gv.RSh.tup [(Prod.mk true [(Gv.CK.int Go.IntKind.i64), (Gv.CK.int Go.IntKind.i64)]), (Prod.mk false [(Gv.CK.int Go.IntKind.i64)])]) [(Gv.PV.list y13.1 y13.2), (Gv.PV.int Go.IntKind.i64 p2)]) fun (y14 : ((Int) × ((Int) × (Int)))) =>
        bindO (F 19 (Gv.RSh.one Gv.CK.list) [(Gv.PV.list y5.1.1 y5.1.2)]) fun (y15 : ((Nat) × (List PV))) =>
        bindO (F 49 (Gv.RSh.tup [(Prod.mk true [(Gv.CK.int Go.IntKind.i64), (Gv.CK.int Go.IntKind.i64)]), (Prod.mk false [(Gv.CK.int Go.IntKind.i64)])]) [(Gv.PV.list y15.1 y15.2), (Gv.PV.int Go.IntKind.i64 p2)]) fun (y16 : ((Int) × ((Int) × (Int)))) =>
        bif (y8.2 != (0 : Int)) then
          some false
        else bindO (F 32 (Gv.RSh.one Gv.CK.bool) [(Gv.PV.list y8.1.1 y8.1.2), (Gv.PV.list p0n p0c)]) fun (y17 : (Bool)) =>
        bif y17 then
          bif (y10.2.2.2.2.2.2.2.2 != (0 : Int)) then
            some false
          else bif (y12.2.2.2.2.2.2.2.2 != (0 : Int)) then
            some false
          else bif (y14.2.2 != (0 : Int)) then
            some false
          else bif (y16.2.2 != (0 : Int)) then
            some false
          else bindO (F 52 (Gv.RSh.agg [(Gv.CK.int Go.IntKind.i64), (Gv.CK.int Go.IntKind.i64)]) [(Gv.PV.agg [(Gv.PV.int Go.IntKind.i64 y14.1), (Gv.PV.int Go.IntKind.i64 y14.2.1)]), (Gv.PV.int Go.IntKind.i64 (w64 (p2 * p1)))]) fun (y18 : ((Int) × (Int))) =>
          bif (!((y16.1 == y18.1) && ((y16.2.1 == y18.2) && true))) then
            some false
          else bif (decide (((0 : Int) ≤ (Int.tmod (w64 ((0 : Int) + p1)) (4 : Int))) ∧ ((Int.tmod (w64 ((0 : Int) + p1)) (4 : Int)) < (4 : Int)))) then
            bindO (Gv.intC Go.IntKind.i64 ([(Gv.PV.int Go.IntKind.i64 y10.1), (Gv.PV.int Go.IntKind.i64 y10.2.1), (Gv.PV.int Go.IntKind.i64 y10.2.2.1), (Gv.PV.int Go.IntKind.i64 y10.2.2.2.1), (Gv.PV.int Go.IntKind.i64 y10.2.2.2.2.1), (Gv.PV.int Go.IntKind.i64 y10.2.2.2.2.2.1), (Gv.PV.int Go.IntKind.i64 y10.2.2.2.2.2.2.1), (Gv.PV.int Go.IntKind.i64 y10.2.2.2.2.2.2.2.1)][(0 + ((Int.toNat (Int.tmod (w64 ((0 : Int) + p1)) (4 : Int))) * 2))]?)) fun x19 =>
            bindO (Gv.intC Go.IntKind.i64 ([(Gv.PV.int Go.IntKind.i64 y10.1), (Gv.PV.int Go.IntKind.i64 y10.2.1), (Gv.PV.int Go.IntKind.i64 y10.2.2.1), (Gv.PV.int Go.IntKind.i64 y10.2.2.2.1), (Gv.PV.int Go.IntKind.i64 y10.2.2.2.2.1), (Gv.PV.int Go.IntKind.i64 y10.2.2.2.2.2.1), (Gv.PV.int Go.IntKind.i64 y10.2.2.2.2.2.2.1), (Gv.PV.int Go.IntKind.i64 y10.2.2.2.2.2.2.2.1)][((0 + ((Int.toNat (Int.tmod (w64 ((0 : Int) + p1)) (4 : Int))) * 2)) + 1)]?)) fun x20 =>
            bif (!((y12.1 == x19) && ((y12.2.1 == x20) && true))) then
              some false
            else bif (decide (((0 : Int) ≤ (Int.tmod (w64 ((w64 ((0 : Int) + (1 : Int))) + p1)) (4 : Int))) ∧ ((Int.tmod (w64 ((w64 ((0 : Int) + (1 : Int))) + p1)) (4 : Int)) < (4 : Int)))) then
              bindO (Gv.intC Go.IntKind.i64 ([(Gv.PV.int Go.IntKind.i64 y10.1), (Gv.PV.int Go.IntKind.i64 y10.2.1), (Gv.PV.int Go.IntKind.i64 y10.2.2.1), (Gv.PV.int Go.IntKind.i64 y10.2.2.2.1), (Gv.PV.int Go.IntKind.i64 y10.2.2.2.2.1), (Gv.PV.int Go.IntKind.i64 y10.2.2.2.2.2.1), (Gv.PV.int Go.IntKind.i64 y10.2.2.2.2.2.2.1), (Gv.PV.int Go.IntKind.i64 y10.2.2.2.2.2.2.2.1)][(0 + ((Int.toNat (Int.tmod (w64 ((1 : Int) + p1)) (4 : Int))) * 2))]?)) fun x21 =>
              bindO (Gv.intC Go.IntKind.i64 ([(Gv.PV.int Go.IntKind.i64 y10.1), (Gv.PV.int Go.IntKind.i64 y10.2.1), (Gv.PV.int Go.IntKind.i64 y10.2.2.1), (Gv.PV.int Go.IntKind.i64 y10.2.2.2.1), (Gv.PV.int Go.IntKind.i64 y10.2.2.2.2.1), (Gv.PV.int Go.IntKind.i64 y10.2.2.2.2.2.1), (Gv.PV.int Go.IntKind.i64 y10.2.2.2.2.2.2.1), (Gv.PV.int Go.IntKind.i64 y10.2.2.2.2.2.2.2.1)][((0 + ((Int.toNat (Int.tmod (w64 ((1 : Int) + p1)) (4 : Int))) * 2)) + 1)]?)) fun x22 =>
              bif (!((y12.2.2.1 == x21) && ((y12.2.2.2.1 == x22) && true))) then
                some false
              else bif (decide (((0 : Int) ≤ (Int.tmod (w64 ((w64 ((w64 ((0 : Int) + (1 : Int))) + (1 : Int))) + p1)) (4 : Int))) ∧ ((Int.tmod (w64 ((w64 ((w64 ((0 : Int) + (1 : Int))) + (1 : Int))) + p1)) (4 : Int)) < (4 : Int)))) then
                bindO (Gv.intC Go.IntKind.i64 ([(Gv.PV.int Go.IntKind.i64 y10.1), (Gv.PV.int Go.IntKind.i64 y10.2.1), (Gv.PV.int Go.IntKind.i64 y10.2.2.1), (Gv.PV.int Go.IntKind.i64 y10.2.2.2.1), (Gv.PV.int Go.IntKind.i64 y10.2.2.2.2.1), (Gv.PV.int Go.IntKind.i64 y10.2.2.2.2.2.1), (Gv.PV.int Go.IntKind.i64 y10.2.2.2.2.2.2.1), (Gv.PV.int Go.IntKind.i64 y10.2.2.2.2.2.2.2.1)][(0 + ((Int.toNat (Int.tmod (w64 ((2 : Int) + p1)) (4 : Int))) * 2))]?)) fun x23 =>
                bindO (Gv.intC Go.IntKind.i64 ([(Gv.PV.int Go.IntKind.i64 y10.1), (Gv.PV.int Go.IntKind.i64 y10.2.1), (Gv.PV.int Go.IntKind.i64 y10.2.2.1), (Gv.PV.int Go.IntKind.i64 y10.2.2.2.1), (Gv.PV.int Go.IntKind.i64 y10.2.2.2.2.1), (Gv.PV.int Go.IntKind.i64 y10.2.2.2.2.2.1), (Gv.PV.int Go.IntKind.i64 y10.2.2.2.2.2.2.1), (Gv.PV.int Go.IntKind.i64 y10.2.2.2.2.2.2.2.1)][((0 + ((Int.toNat (Int.tmod (w64 ((2 : Int) + p1)) (4 : Int))) * 2)) + 1)]?)) fun x24 =>
                bif (!((y12.2.2.2.2.1 == x23) && ((y12.2.2.2.2.2.1 == x24) && true))) then
                  some false
                else bif (decide (((0 : Int) ≤ (Int.tmod (w64 ((w64 ((w64 ((w64 ((0 : Int) + (1 : Int))) + (1 : Int))) + (1 : Int))) + p1)) (4 : Int))) ∧ ((Int.tmod (w64 ((w64 ((w64 ((w64 ((0 : Int) + (1 : Int))) + (1 : Int))) + (1 : Int))) + p1)) (4 : Int)) < (4 : Int)))) then
                  bindO (Gv.intC Go.IntKind.i64 ([(Gv.PV.int Go.IntKind.i64 y10.1), (Gv.PV.int Go.IntKind.i64 y10.2.1), (Gv.PV.int Go.IntKind.i64 y10.2.2.1), (Gv.PV.int Go.IntKind.i64 y10.2.2.2.1), (Gv.PV.int Go.IntKind.i64 y10.2.2.2.2.1), (Gv.PV.int Go.IntKind.i64 y10.2.2.2.2.2.1), (Gv.PV.int Go.IntKind.i64 y10.2.2.2.2.2.2.1), (Gv.PV.int Go.IntKind.i64 y10.2.2.2.2.2.2.2.1)][(0 + ((Int.toNat (Int.tmod (w64 ((3 : Int) + p1)) (4 : Int))) * 2))]?)) fun x25 =>
                  bindO (Gv.intC Go.IntKind.i64 ([(Gv.PV.int Go.IntKind.i64 y10.1), (Gv.PV.int Go.IntKind.i64 y10.2.1), (Gv.PV.int Go.IntKind.i64 y10.2.2.1), (Gv.PV.int Go.IntKind.i64 y10.2.2.2.1), (Gv.PV.int Go.IntKind.i64 y10.2.2.2.2.1), (Gv.PV.int Go.IntKind.i64 y10.2.2.2.2.2.1), (Gv.PV.int Go.IntKind.i64 y10.2.2.2.2.2.2.1), (Gv.PV.int Go.IntKind.i64 y10.2.2.2.2.2.2.2.1)][((0 + ((Int.toNat (Int.tmod (w64 ((3 : Int) + p1)) (4 : Int))) * 2)) + 1)]?)) fun x26 =>
                  bif (!((y12.2.2.2.2.2.2.1 == x25) && ((y12.2.2.2.2.2.2.2.1 == x26) && true))) then
                    some false
                  else some true
                else none
              else none
            else none
          else none
        else some false
      else some true
    else some true
  else some false
theorem tglidepathlaw01_PulseMixed_eq (F : FnT) (p0n : Nat) (p0c : List PV) (p1 : Int) (p2 : Int) : semF (callP F Eglidepathlaw01_PulseMixed 20) s8 (loopT []) 400 a8 [PV.list p0n p0c, PV.int Go.IntKind.i64 p1, PV.int Go.IntKind.i64 p2] (fun rv => decR (Gv.RSh.one Gv.CK.bool) rv.pv) = tglidepathlaw01_PulseMixed F p0n p0c p1 p2 := by kernel_rfl
noncomputable abbrev Fglidepathlaw01_PulseMixed (args : List PV) := Fn env 8 (Gv.RSh.one Gv.CK.bool) args
theorem Fglidepathlaw01_PulseMixed_of  (p0n : Nat) (p0c : List PV) (p1 : Int) (p2 : Int) {res : (Bool)} (h : tglidepathlaw01_PulseMixed (Fn env) p0n p0c p1 p2 = some res) : Fglidepathlaw01_PulseMixed [PV.list p0n p0c, PV.int Go.IntKind.i64 p1, PV.int Go.IntKind.i64 p2] = some res :=
  fn_of Eglidepathlaw01_PulseMixed_ok rfl rfl lo_nil ((tglidepathlaw01_PulseMixed_eq _ _ _ _ _).trans h)

end Gv
