/- What the functions do, round by round: P11. -/
import Derived.Test.YtpcpegneobkbdaaP2
import Derived.Test.YtpcpegneobkbdaaP8
namespace Gv
open Go
set_option maxRecDepth 100000

/-! ### _glidepath_pulse_lines__powers -/

def E_glidepath_pulse_lines__powers : List Entry := [.out 143 (Gv.RSh.one (Gv.CK.int Go.IntKind.i64))]
theorem E_glidepath_pulse_lines__powers_ok : ∀ e ∈ E_glidepath_pulse_lines__powers, EntOK env e := (ent_out ent_nil)
theorem U_glidepath_pulse_lines__powers : uniq ((blocksOf a107.body).map (·.1)) = true := by kernel_rfl
def t_glidepath_pulse_lines__powers (F : FnT) (p0_0 : Int) (p0_1 : Int) (p0_2 : Int) (p0_3 : Int) (p0_4 : Int) (p0_5 : Int) (p0_6 : Int) (p0_7 : Int) : Option ((Int) × ((Int) × ((Int) × (Int)))) :=
  bindO (F 143 (Gv.RSh.one (Gv.CK.int Go.IntKind.i64)) [(Gv.PV.agg [(Gv.PV.int Go.IntKind.i64 p0_0), (Gv.PV.int Go.IntKind.i64 p0_1)])]) fun (y0 : (Int)) =>
  bindO (F 143 (Gv.RSh.one (Gv.CK.int Go.IntKind.i64)) [(Gv.PV.agg [(Gv.PV.int Go.IntKind.i64 p0_2), (Gv.PV.int Go.IntKind.i64 p0_3)])]) fun (y1 : (Int)) =>
  bindO (F 143 (Gv.RSh.one (Gv.CK.int Go.IntKind.i64)) [(Gv.PV.agg [(Gv.PV.int Go.IntKind.i64 p0_4), (Gv.PV.int Go.IntKind.i64 p0_5)])]) fun (y2 : (Int)) =>
  bindO (F 143 (Gv.RSh.one (Gv.CK.int Go.IntKind.i64)) [(Gv.PV.agg [(Gv.PV.int Go.IntKind.i64 p0_6), (Gv.PV.int Go.IntKind.i64 p0_7)])]) fun (y3 : (Int)) =>
  some (y0, (y1, (y2, y3)))
theorem t_glidepath_pulse_lines__powers_eq (F : FnT) (p0_0 : Int) (p0_1 : Int) (p0_2 : Int) (p0_3 : Int) (p0_4 : Int) (p0_5 : Int) (p0_6 : Int) (p0_7 : Int) : semF (callP F E_glidepath_pulse_lines__powers 20) s107 (loopT []) 400 a107 [PV.agg [PV.int Go.IntKind.i64 p0_0, PV.int Go.IntKind.i64 p0_1, PV.int Go.IntKind.i64 p0_2, PV.int Go.IntKind.i64 p0_3, PV.int Go.IntKind.i64 p0_4, PV.int Go.IntKind.i64 p0_5, PV.int Go.IntKind.i64 p0_6, PV.int Go.IntKind.i64 p0_7]] (fun rv => decR (Gv.RSh.agg [(Gv.CK.int Go.IntKind.i64), (Gv.CK.int Go.IntKind.i64), (Gv.CK.int Go.IntKind.i64), (Gv.CK.int Go.IntKind.i64)]) rv.pv) = t_glidepath_pulse_lines__powers F p0_0 p0_1 p0_2 p0_3 p0_4 p0_5 p0_6 p0_7 := by kernel_rfl
noncomputable abbrev F_glidepath_pulse_lines__powers (args : List PV) := Fn env 107 (Gv.RSh.agg [(Gv.CK.int Go.IntKind.i64), (Gv.CK.int Go.IntKind.i64), (Gv.CK.int Go.IntKind.i64), (Gv.CK.int Go.IntKind.i64)]) args
theorem F_glidepath_pulse_lines__powers_of  (p0_0 : Int) (p0_1 : Int) (p0_2 : Int) (p0_3 : Int) (p0_4 : Int) (p0_5 : Int) (p0_6 : Int) (p0_7 : Int) {res : ((Int) × ((Int) × ((Int) × (Int))))} (h : t_glidepath_pulse_lines__powers (Fn env) p0_0 p0_1 p0_2 p0_3 p0_4 p0_5 p0_6 p0_7 = some res) : F_glidepath_pulse_lines__powers [PV.agg [PV.int Go.IntKind.i64 p0_0, PV.int Go.IntKind.i64 p0_1, PV.int Go.IntKind.i64 p0_2, PV.int Go.IntKind.i64 p0_3, PV.int Go.IntKind.i64 p0_4, PV.int Go.IntKind.i64 p0_5, PV.int Go.IntKind.i64 p0_6, PV.int Go.IntKind.i64 p0_7]] = some res :=
  fn_of E_glidepath_pulse_lines__powers_ok rfl rfl lo_nil ((t_glidepath_pulse_lines__powers_eq _ _ _ _ _ _ _ _ _).trans h)

/-! ### pulse_PowersOf -/

def Epulse_PowersOf : List Entry := [.out 96 (Gv.RSh.one (Gv.CK.int Go.IntKind.i64)), .out 106 (Gv.RSh.agg [(Gv.CK.int Go.IntKind.i64), (Gv.CK.int Go.IntKind.i64), (Gv.CK.int Go.IntKind.i64), (Gv.CK.int Go.IntKind.i64), (Gv.CK.int Go.IntKind.i64), (Gv.CK.int Go.IntKind.i64), (Gv.CK.int Go.IntKind.i64), (Gv.CK.int Go.IntKind.i64)]), .out 107 (Gv.RSh.agg [(Gv.CK.int Go.IntKind.i64), (Gv.CK.int Go.IntKind.i64), (Gv.CK.int Go.IntKind.i64), (Gv.CK.int Go.IntKind.i64)])]
theorem Epulse_PowersOf_ok : ∀ e ∈ Epulse_PowersOf, EntOK env e := (ent_out (ent_out (ent_out ent_nil)))
theorem Upulse_PowersOf : uniq ((blocksOf a42.body).map (·.1)) = true := by kernel_rfl
def tpulse_PowersOf (F : FnT) (p0n : Nat) (p0c : List PV) : Option ((Int) × ((Int) × ((Int) × ((Int) × (Int))))) :=
  bindO (F 96 (Gv.RSh.one (Gv.CK.int Go.IntKind.i64)) [(Gv.PV.list p0n p0c)]) fun (y0 : (Int)) =>
  bif (y0 != (0 : Int)) then
    some ((0 : Int), ((0 : Int), ((0 : Int), ((0 : Int), y0))))
  else bindO (F 106 (Gv.RSh.agg [(Gv.CK.int Go.IntKind.i64), (Gv.CK.int Go.IntKind.i64), (Gv.CK.int Go.IntKind.i64), (Gv.CK.int Go.IntKind.i64), (Gv.CK.int Go.IntKind.i64), (Gv.CK.int Go.IntKind.i64), (Gv.CK.int Go.IntKind.i64), (Gv.CK.int Go.IntKind.i64)]) [(Gv.PV.list p0n p0c)]) fun (y1 : ((Int) × ((Int) × ((Int) × ((Int) × ((Int) × ((Int) × ((Int) × (Int))))))))) =>
  bindO (F 107 (Gv.RSh.agg [(Gv.CK.int Go.IntKind.i64), (Gv.CK.int Go.IntKind.i64), (Gv.CK.int Go.IntKind.i64), (Gv.CK.int Go.IntKind.i64)]) [(Gv.PV.agg [(Gv.PV.int Go.IntKind.i64 y1.1), (Gv.PV.int Go.IntKind.i64 y1.2.1), (Gv.PV.int Go.IntKind.i64 y1.2.2.1), (Gv.PV.int Go.IntKind.i64 y1.2.2.2.1), (Gv.PV.int Go.IntKind.i64 y1.2.2.2.2.1), (Gv.PV.int Go.IntKind.i64 y1.2.2.2.2.2.1), (Gv.PV.int Go.IntKind.i64 y1.2.2.2.2.2.2.1), (Gv.PV.int Go.IntKind.i64 y1.2.2.2.2.2.2.2)])]) fun (y2 : ((Int) × ((Int) × ((Int) × (Int))))) =>
  some (y2.1, (y2.2.1, (y2.2.2.1, (y2.2.2.2, (0 : Int)))))
theorem tpulse_PowersOf_eq (F : FnT) (p0n : Nat) (p0c : List PV) : semF (callP F Epulse_PowersOf 20) s42 (loopT []) 400 a42 [PV.list p0n p0c] (fun rv => decR (Gv.RSh.tup [(Prod.mk true [(Gv.CK.int Go.IntKind.i64), (Gv.CK.int Go.IntKind.i64), (Gv.CK.int Go.IntKind.i64), (Gv.CK.int Go.IntKind.i64)]), (Prod.mk false [(Gv.CK.int Go.IntKind.i64)])]) rv.pv) = tpulse_PowersOf F p0n p0c := by kernel_rfl
noncomputable abbrev Fpulse_PowersOf (args : List PV) := Fn env 42 (Gv.RSh.tup [(Prod.mk true [(Gv.CK.int Go.IntKind.i64), (Gv.CK.int Go.IntKind.i64), (Gv.CK.int Go.IntKind.i64), (Gv.CK.int Go.IntKind.i64)]), (Prod.mk false [(Gv.CK.int Go.IntKind.i64)])]) args
theorem Fpulse_PowersOf_of  (p0n : Nat) (p0c : List PV) {res : ((Int) × ((Int) × ((Int) × ((Int) × (Int)))))} (h : tpulse_PowersOf (Fn env) p0n p0c = some res) : Fpulse_PowersOf [PV.list p0n p0c] = some res :=
  fn_of Epulse_PowersOf_ok rfl rfl lo_nil ((tpulse_PowersOf_eq _ _ _).trans h)

/-! ### glidepathref01_Lines -/

def Eglidepathref01_Lines : List Entry := [.out 52 (Gv.RSh.agg [(Gv.CK.int Go.IntKind.i64), (Gv.CK.int Go.IntKind.i64)]), .out 63 (Gv.RSh.agg [(Gv.CK.int Go.IntKind.i64), (Gv.CK.int Go.IntKind.i64)])]
theorem Eglidepathref01_Lines_ok : ∀ e ∈ Eglidepathref01_Lines, EntOK env e := (ent_out (ent_out ent_nil))
def Tglidepathref01_Lines_0a (n0 : Nat) (c1 : List PV) (i2 : Int) (c3 : List PV) : Q := ⟨(tm 31 [(0, (AV.p (PV.list n0 c1))), (2, (AV.loc 2 0)), (3, (AV.loc 3 0)), (4, (AV.p (PV.int Go.IntKind.i64 i2)))]), (mm 31 [(2, (Bk.pcs true [(PV.int Go.IntKind.i64 (0 : Int)), (PV.int Go.IntKind.i64 (0 : Int)), (PV.int Go.IntKind.i64 (0 : Int)), (PV.int Go.IntKind.i64 (0 : Int)), (PV.int Go.IntKind.i64 (0 : Int)), (PV.int Go.IntKind.i64 (0 : Int)), (PV.int Go.IntKind.i64 (0 : Int)), (PV.int Go.IntKind.i64 (0 : Int))])), (3, (Bk.pcs true c3))])⟩
def Xglidepathref01_Lines_0a (y : List PV) : Ext × Q := (Ext.normal, ⟨(tm 31 [(2, (AV.loc 2 0)), (3, (AV.loc 3 0))]), (mm 31 [(2, (Bk.pcs true [(PV.int Go.IntKind.i64 (0 : Int)), (PV.int Go.IntKind.i64 (0 : Int)), (PV.int Go.IntKind.i64 (0 : Int)), (PV.int Go.IntKind.i64 (0 : Int)), (PV.int Go.IntKind.i64 (0 : Int)), (PV.int Go.IntKind.i64 (0 : Int)), (PV.int Go.IntKind.i64 (0 : Int)), (PV.int Go.IntKind.i64 (0 : Int))])), (3, (Bk.pcs true y))])⟩)
def Iglidepathref01_Lines_0a (q : Ext × S) : List PV := (pB_pcs1 (avM q.2 3))
abbrev Yglidepathref01_Lines_0 : Type := List PV
def XLglidepathref01_Lines_0 : XL Yglidepathref01_Lines_0 := .one Xglidepathref01_Lines_0a
def Iglidepathref01_Lines_0 (q : Ext × S) : Yglidepathref01_Lines_0 := (Iglidepathref01_Lines_0a q)
theorem XIglidepathref01_Lines_0a (y : List PV) : Iglidepathref01_Lines_0 (xe (Xglidepathref01_Lines_0a y)) = y := (show Iglidepathref01_Lines_0 (xe (Xglidepathref01_Lines_0a y)) = ((y.map AV.p).map pA_p) from rfl).trans (by simp only [map_back])
theorem XIglidepathref01_Lines_0 (y : Yglidepathref01_Lines_0) : Iglidepathref01_Lines_0 (xe (XLglidepathref01_Lines_0.fn y)) = y := XIglidepathref01_Lines_0a y
noncomputable abbrev Lglidepathref01_Lines_0 : Q → Option Yglidepathref01_Lines_0 := lpO env a43.body 0 XLglidepathref01_Lines_0
noncomputable abbrev Rglidepathref01_Lines_0 : Q → Option (Ext × S) := lpR env a43.body 0
theorem Lglidepathref01_Lines_0a_of {s : Q} {y : List PV} (h : Rglidepathref01_Lines_0 s = exO (Xglidepathref01_Lines_0a y)) : Lglidepathref01_Lines_0 s = some y := lpO_of Iglidepathref01_Lines_0 XIglidepathref01_Lines_0 (y := y) h
def Tglidepathref01_Lines_2a (n0 : Nat) (c1 : List PV) (i2 : Int) (i3 : Int) (c4 : List PV) : Q := ⟨(tm 31 [(0, (AV.p (PV.list n0 c1))), (2, (AV.loc 2 0)), (3, (AV.loc 3 0)), (4, (AV.p (PV.int Go.IntKind.i64 i2))), (5, (AV.p (PV.int Go.IntKind.i64 i3)))]), (mm 31 [(2, (Bk.pcs true [(PV.int Go.IntKind.i64 (0 : Int)), (PV.int Go.IntKind.i64 (0 : Int)), (PV.int Go.IntKind.i64 (0 : Int)), (PV.int Go.IntKind.i64 (0 : Int)), (PV.int Go.IntKind.i64 (0 : Int)), (PV.int Go.IntKind.i64 (0 : Int)), (PV.int Go.IntKind.i64 (0 : Int)), (PV.int Go.IntKind.i64 (0 : Int))])), (3, (Bk.pcs true c4))])⟩
def Xglidepathref01_Lines_2a (y : Nat × List PV × Int × List PV) : Ext × Q := (Ext.normal, ⟨(tm 31 [(0, (AV.p (PV.list y.1 y.2.1))), (2, (AV.loc 2 0)), (3, (AV.loc 3 0)), (4, (AV.p (PV.int Go.IntKind.i64 y.2.2.1)))]), (mm 31 [(2, (Bk.pcs true [(PV.int Go.IntKind.i64 (0 : Int)), (PV.int Go.IntKind.i64 (0 : Int)), (PV.int Go.IntKind.i64 (0 : Int)), (PV.int Go.IntKind.i64 (0 : Int)), (PV.int Go.IntKind.i64 (0 : Int)), (PV.int Go.IntKind.i64 (0 : Int)), (PV.int Go.IntKind.i64 (0 : Int)), (PV.int Go.IntKind.i64 (0 : Int))])), (3, (Bk.pcs true y.2.2.2))])⟩)
def Iglidepathref01_Lines_2a (q : Ext × S) : Nat × List PV × Int × List PV := ((pP_list0 (pA_p (avT q.2 0))), (pP_list1 (pA_p (avT q.2 0))), (pP_int1 (pA_p (avT q.2 4))), (pB_pcs1 (avM q.2 3)))
abbrev Yglidepathref01_Lines_2 : Type := Nat × List PV × Int × List PV
def XLglidepathref01_Lines_2 : XL Yglidepathref01_Lines_2 := .one Xglidepathref01_Lines_2a
def Iglidepathref01_Lines_2 (q : Ext × S) : Yglidepathref01_Lines_2 := (Iglidepathref01_Lines_2a q)
theorem XIglidepathref01_Lines_2a (y : Nat × List PV × Int × List PV) : Iglidepathref01_Lines_2 (xe (Xglidepathref01_Lines_2a y)) = y := (show Iglidepathref01_Lines_2 (xe (Xglidepathref01_Lines_2a y)) = (y.1, y.2.1, y.2.2.1, ((y.2.2.2.map AV.p).map pA_p)) from rfl).trans (by simp only [map_back])
theorem XIglidepathref01_Lines_2 (y : Yglidepathref01_Lines_2) : Iglidepathref01_Lines_2 (xe (XLglidepathref01_Lines_2.fn y)) = y := XIglidepathref01_Lines_2a y
noncomputable abbrev Lglidepathref01_Lines_2 : Q → Option Yglidepathref01_Lines_2 := lpO env a43.body 2 XLglidepathref01_Lines_2
noncomputable abbrev Rglidepathref01_Lines_2 : Q → Option (Ext × S) := lpR env a43.body 2
theorem Lglidepathref01_Lines_2a_of {s : Q} {y : Nat × List PV × Int × List PV} (h : Rglidepathref01_Lines_2 s = exO (Xglidepathref01_Lines_2a y)) : Lglidepathref01_Lines_2 s = some y := lpO_of Iglidepathref01_Lines_2 XIglidepathref01_Lines_2 (y := y) h
theorem Uglidepathref01_Lines : uniq ((blocksOf a43.body).map (·.1)) = true := by kernel_rfl
def Bglidepathref01_Lines_0a (F : FnT) (N : Q → Option (Ext × S)) (E : Ext × Q → Option (Ext × S)) (L0 : Q → Option Yglidepathref01_Lines_0) (L2 : Q → Option Yglidepathref01_Lines_2) (n0 : Nat) (c1 : List PV) (i2 : Int) (c3 : List PV) : Option (Ext × S) :=
  bif (decide (i2 < (4 : Int))) then
    bindO (L2 (Tglidepathref01_Lines_2a n0 c1 i2 (0 : Int) c3)) fun y0 =>
    N (Tglidepathref01_Lines_0a y0.1 y0.2.1 (w64 (y0.2.2.1 + (1 : Int))) y0.2.2.2)
  else E (Xglidepathref01_Lines_0a c3)
theorem Bglidepathref01_Lines_0a_eq (F : FnT) (N : Q → Option (Ext × S)) (E : Ext × Q → Option (Ext × S)) (L0 : Q → Option Yglidepathref01_Lines_0) (L2 : Q → Option Yglidepathref01_Lines_2) (n0 : Nat) (c1 : List PV) (i2 : Int) (c3 : List PV) : semB (callP F Eglidepathref01_Lines 20) s43 (loopT [⟨0, Yglidepathref01_Lines_0, L0, XLglidepathref01_Lines_0⟩, ⟨2, Yglidepathref01_Lines_2, L2, XLglidepathref01_Lines_2⟩]) 400 (blkIn a43.body 0) N E (Tglidepathref01_Lines_0a n0 c1 i2 c3) = Bglidepathref01_Lines_0a F N E L0 L2 n0 c1 i2 c3 := by kernel_rfl
theorem Rglidepathref01_Lines_0a_of  (n0 : Nat) (c1 : List PV) (i2 : Int) (c3 : List PV) {r : Ext × S} (h : Bglidepathref01_Lines_0a (Fn env) Rglidepathref01_Lines_0 exO Lglidepathref01_Lines_0 Lglidepathref01_Lines_2 n0 c1 i2 c3 = some r) : Rglidepathref01_Lines_0 (Tglidepathref01_Lines_0a n0 c1 i2 c3) = some r :=
  lp_of Eglidepathref01_Lines_ok (by kernel_rfl) (lo_cons (lpO_ok Uglidepathref01_Lines) (lo_cons (lpO_ok Uglidepathref01_Lines) lo_nil)) (by kernel_rfl) ((Bglidepathref01_Lines_0a_eq _ _ _ _ _ _ _ _ _).trans h)
def Bglidepathref01_Lines_2a (F : FnT) (N : Q → Option (Ext × S)) (E : Ext × Q → Option (Ext × S)) (L0 : Q → Option Yglidepathref01_Lines_0) (L2 : Q → Option Yglidepathref01_Lines_2) (n0 : Nat) (c1 : List PV) (i2 : Int) (i3 : Int) (c4 : List PV) : Option (Ext × S) :=
  bif (decide (i3 < (n0 : Int))) then
    bif (decide (((0 : Int) ≤ i2) ∧ (i2 < (4 : Int)))) then
      bindO (Gv.intC Go.IntKind.i64 (c4[(0 + ((Int.toNat i2) * 2))]?)) fun x0 =>
      bindO (Gv.intC Go.IntKind.i64 (c4[((0 + ((Int.toNat i2) * 2)) + 1)]?)) fun x1 =>
      bif (decide (((0 : Int) ≤ i3) ∧ (i3 < (n0 : Int)))) then
        bindO (Gv.intC Go.IntKind.i64 (c1[((Int.toNat i3) * 2)]?)) fun x2 =>
        bindO (Gv.intC Go.IntKind.i64 (c1[(((Int.toNat i3) * 2) + 1)]?)) fun x3 =>
        bindO (F 52 (Gv.RSh.agg [(Gv.CK.int Go.IntKind.i64), (Gv.CK.int Go.IntKind.i64)]) [(Gv.PV.agg [(Gv.PV.int Go.IntKind.i64 x2), (Gv.PV.int Go.IntKind.i64 x3)]), (Gv.PV.int Go.IntKind.i64 (w64 (i3 * i2)))]) fun (y4 : ((Int) × (Int))) =>
        bindO (F 63 (Gv.RSh.agg [(Gv.CK.int Go.IntKind.i64), (Gv.CK.int Go.IntKind.i64)]) [(Gv.PV.agg [(Gv.PV.int Go.IntKind.i64 x0), (Gv.PV.int Go.IntKind.i64 x1)]), (Gv.PV.agg [(Gv.PV.int Go.IntKind.i64 y4.1), (Gv.PV.int Go.IntKind.i64 y4.2)])]) fun (y5 : ((Int) × (Int))) =>
        bif (decide (((0 : Int) ≤ i2) ∧ (i2 < (4 : Int)))) then
          bif (decide (((0 + ((Int.toNat i2) * 2)) + 2) ≤ (List.length c4))) then
            N (Tglidepathref01_Lines_2a n0 c1 i2 (w64 (i3 + (1 : Int))) (Gv.over c4 (0 + ((Int.toNat i2) * 2)) [(Gv.PV.int Go.IntKind.i64 y5.1), (Gv.PV.int Go.IntKind.i64 y5.2)]))
          else none
        else none
      else none
    else none
  else E (Xglidepathref01_Lines_2a (n0, c1, i2, c4))
theorem Bglidepathref01_Lines_2a_eq (F : FnT) (N : Q → Option (Ext × S)) (E : Ext × Q → Option (Ext × S)) (L0 : Q → Option Yglidepathref01_Lines_0) (L2 : Q → Option Yglidepathref01_Lines_2) (n0 : Nat) (c1 : List PV) (i2 : Int) (i3 : Int) (c4 : List PV) : semB (callP F Eglidepathref01_Lines 20) s43 (loopT [⟨0, Yglidepathref01_Lines_0, L0, XLglidepathref01_Lines_0⟩, ⟨2, Yglidepathref01_Lines_2, L2, XLglidepathref01_Lines_2⟩]) 400 (blkIn a43.body 2) N E (Tglidepathref01_Lines_2a n0 c1 i2 i3 c4) = Bglidepathref01_Lines_2a F N E L0 L2 n0 c1 i2 i3 c4 := by kernel_rfl
theorem Rglidepathref01_Lines_2a_of  (n0 : Nat) (c1 : List PV) (i2 : Int) (i3 : Int) (c4 : List PV) {r : Ext × S} (h : Bglidepathref01_Lines_2a (Fn env) Rglidepathref01_Lines_2 exO Lglidepathref01_Lines_0 Lglidepathref01_Lines_2 n0 c1 i2 i3 c4 = some r) : Rglidepathref01_Lines_2 (Tglidepathref01_Lines_2a n0 c1 i2 i3 c4) = some r :=
  lp_of Eglidepathref01_Lines_ok (by kernel_rfl) (lo_cons (lpO_ok Uglidepathref01_Lines) (lo_cons (lpO_ok Uglidepathref01_Lines) lo_nil)) (by kernel_rfl) ((Bglidepathref01_Lines_2a_eq _ _ _ _ _ _ _ _ _ _).trans h)
def tglidepathref01_Lines (F : FnT) (L0 : Q → Option Yglidepathref01_Lines_0) (L2 : Q → Option Yglidepathref01_Lines_2) (p0n : Nat) (p0c : List PV) : Option ((Int) × ((Int) × ((Int) × ((Int) × ((Int) × ((Int) × ((Int) × (Int)))))))) :=
  bindO (L0 (Tglidepathref01_Lines_0a p0n p0c (0 : Int) [(Gv.PV.int Go.IntKind.i64 (0 : Int)), (Gv.PV.int Go.IntKind.i64 (0 : Int)), (Gv.PV.int Go.IntKind.i64 (0 : Int)), (Gv.PV.int Go.IntKind.i64 (0 : Int)), (Gv.PV.int Go.IntKind.i64 (0 : Int)), (Gv.PV.int Go.IntKind.i64 (0 : Int)), (Gv.PV.int Go.IntKind.i64 (0 : Int)), (Gv.PV.int Go.IntKind.i64 (0 : Int))])) fun y0 =>
  bindO (Gv.intC Go.IntKind.i64 (y0[0]?)) fun x1 =>
  bindO (Gv.intC Go.IntKind.i64 (y0[1]?)) fun x2 =>
  bindO (Gv.intC Go.IntKind.i64 (y0[2]?)) fun x3 =>
  bindO (Gv.intC Go.IntKind.i64 (y0[3]?)) fun x4 =>
  bindO (Gv.intC Go.IntKind.i64 (y0[4]?)) fun x5 =>
  bindO (Gv.intC Go.IntKind.i64 (y0[5]?)) fun x6 =>
  bindO (Gv.intC Go.IntKind.i64 (y0[6]?)) fun x7 =>
  bindO (Gv.intC Go.IntKind.i64 (y0[7]?)) fun x8 =>
  some (x1, (x2, (x3, (x4, (x5, (x6, (x7, x8)))))))
theorem tglidepathref01_Lines_eq (F : FnT) (L0 : Q → Option Yglidepathref01_Lines_0) (L2 : Q → Option Yglidepathref01_Lines_2) (p0n : Nat) (p0c : List PV) : semF (callP F Eglidepathref01_Lines 20) s43 (loopT [⟨0, Yglidepathref01_Lines_0, L0, XLglidepathref01_Lines_0⟩, ⟨2, Yglidepathref01_Lines_2, L2, XLglidepathref01_Lines_2⟩]) 400 a43 [PV.list p0n p0c] (fun rv => decR (Gv.RSh.agg [(Gv.CK.int Go.IntKind.i64), (Gv.CK.int Go.IntKind.i64), (Gv.CK.int Go.IntKind.i64), (Gv.CK.int Go.IntKind.i64), (Gv.CK.int Go.IntKind.i64), (Gv.CK.int Go.IntKind.i64), (Gv.CK.int Go.IntKind.i64), (Gv.CK.int Go.IntKind.i64)]) rv.pv) = tglidepathref01_Lines F L0 L2 p0n p0c := by kernel_rfl
noncomputable abbrev Fglidepathref01_Lines (args : List PV) := Fn env 43 (Gv.RSh.agg [(Gv.CK.int Go.IntKind.i64), (Gv.CK.int Go.IntKind.i64), (Gv.CK.int Go.IntKind.i64), (Gv.CK.int Go.IntKind.i64), (Gv.CK.int Go.IntKind.i64), (Gv.CK.int Go.IntKind.i64), (Gv.CK.int Go.IntKind.i64), (Gv.CK.int Go.IntKind.i64)]) args
theorem Fglidepathref01_Lines_of  (p0n : Nat) (p0c : List PV) {res : ((Int) × ((Int) × ((Int) × ((Int) × ((Int) × ((Int) × ((Int) × (Int))))))))} (h : tglidepathref01_Lines (Fn env) Lglidepathref01_Lines_0 Lglidepathref01_Lines_2 p0n p0c = some res) : Fglidepathref01_Lines [PV.list p0n p0c] = some res :=
  fn_of Eglidepathref01_Lines_ok rfl rfl (lo_cons (lpO_ok Uglidepathref01_Lines) (lo_cons (lpO_ok Uglidepathref01_Lines) lo_nil)) ((tglidepathref01_Lines_eq _ _ _ _ _).trans h)

/-! ### glidepathref01_Powers -/

def Eglidepathref01_Powers : List Entry := [.out 43 (Gv.RSh.agg [(Gv.CK.int Go.IntKind.i64), (Gv.CK.int Go.IntKind.i64), (Gv.CK.int Go.IntKind.i64), (Gv.CK.int Go.IntKind.i64), (Gv.CK.int Go.IntKind.i64), (Gv.CK.int Go.IntKind.i64), (Gv.CK.int Go.IntKind.i64), (Gv.CK.int Go.IntKind.i64)]), .out 64 (Gv.RSh.one (Gv.CK.int Go.IntKind.i64))]
theorem Eglidepathref01_Powers_ok : ∀ e ∈ Eglidepathref01_Powers, EntOK env e := (ent_out (ent_out ent_nil))
theorem Uglidepathref01_Powers : uniq ((blocksOf a44.body).map (·.1)) = true := by kernel_rfl
def tglidepathref01_Powers (F : FnT) (p0n : Nat) (p0c : List PV) : Option ((Int) × ((Int) × ((Int) × (Int)))) :=
  bindO (F 43 (Gv.RSh.agg [(Gv.CK.int Go.IntKind.i64), (Gv.CK.int Go.IntKind.i64), (Gv.CK.int Go.IntKind.i64), (Gv.CK.int Go.IntKind.i64), (Gv.CK.int Go.IntKind.i64), (Gv.CK.int Go.IntKind.i64), (Gv.CK.int Go.IntKind.i64), (Gv.CK.int Go.IntKind.i64)]) [(Gv.PV.list p0n p0c)]) fun (y0 : ((Int) × ((Int) × ((Int) × ((Int) × ((Int) × ((Int) × ((Int) × (Int))))))))) =>
  bindO (F 64 (Gv.RSh.one (Gv.CK.int Go.IntKind.i64)) [(Gv.PV.agg [(Gv.PV.int Go.IntKind.i64 y0.1), (Gv.PV.int Go.IntKind.i64 y0.2.1)])]) fun (y1 : (Int)) =>
  bindO (F 64 (Gv.RSh.one (Gv.CK.int Go.IntKind.i64)) [(Gv.PV.agg [(Gv.PV.int Go.IntKind.i64 y0.2.2.1), (Gv.PV.int Go.IntKind.i64 y0.2.2.2.1)])]) fun (y2 : (Int)) =>
  bindO (F 64 (Gv.RSh.one (Gv.CK.int Go.IntKind.i64)) [(Gv.PV.agg [(Gv.PV.int Go.IntKind.i64 y0.2.2.2.2.1), (Gv.PV.int Go.IntKind.i64 y0.2.2.2.2.2.1)])]) fun (y3 : (Int)) =>
  bindO (F 64 (Gv.RSh.one (Gv.CK.int Go.IntKind.i64)) [(Gv.PV.agg [(Gv.PV.int Go.IntKind.i64 y0.2.2.2.2.2.2.1), (Gv.PV.int Go.IntKind.i64 y0.2.2.2.2.2.2.2)])]) fun (y4 : (Int)) =>
  some (y1, (y2, (y3, y4)))
theorem tglidepathref01_Powers_eq (F : FnT) (p0n : Nat) (p0c : List PV) : semF (callP F Eglidepathref01_Powers 20) s44 (loopT []) 400 a44 [PV.list p0n p0c] (fun rv => decR (Gv.RSh.agg [(Gv.CK.int Go.IntKind.i64), (Gv.CK.int Go.IntKind.i64), (Gv.CK.int Go.IntKind.i64), (Gv.CK.int Go.IntKind.i64)]) rv.pv) = tglidepathref01_Powers F p0n p0c := by kernel_rfl
noncomputable abbrev Fglidepathref01_Powers (args : List PV) := Fn env 44 (Gv.RSh.agg [(Gv.CK.int Go.IntKind.i64), (Gv.CK.int Go.IntKind.i64), (Gv.CK.int Go.IntKind.i64), (Gv.CK.int Go.IntKind.i64)]) args
theorem Fglidepathref01_Powers_of  (p0n : Nat) (p0c : List PV) {res : ((Int) × ((Int) × ((Int) × (Int))))} (h : tglidepathref01_Powers (Fn env) p0n p0c = some res) : Fglidepathref01_Powers [PV.list p0n p0c] = some res :=
  fn_of Eglidepathref01_Powers_ok rfl rfl lo_nil ((tglidepathref01_Powers_eq _ _ _).trans h)

/-! ### pulse_firstError_5 -/

def Epulse_firstError_5 : List Entry := []
theorem Epulse_firstError_5_ok : ∀ e ∈ Epulse_firstError_5, EntOK env e := ent_nil
theorem Upulse_firstError_5 : uniq ((blocksOf a91.body).map (·.1)) = true := by kernel_rfl
def tpulse_firstError_5 (F : FnT)(e0 e1 e2 e3 e4 : Int) : Option (Int) :=
  bif (e0 != (0 : Int)) then
    some e0
  else bif (e1 != (0 : Int)) then
    some e1
  else bif (e2 != (0 : Int)) then
    some e2
  else bif (e3 != (0 : Int)) then
    some e3
  else bif (e4 != (0 : Int)) then
    some e4
  else some (0 : Int)
theorem tpulse_firstError_5_eq (F : FnT)(e0 e1 e2 e3 e4 : Int) : semF (callP F Epulse_firstError_5 20) s91 (loopT []) 400 a91 [.list 5 [.int .i64 e0, .int .i64 e1, .int .i64 e2, .int .i64 e3, .int .i64 e4]] (fun rv => decR (Gv.RSh.one (Gv.CK.int Go.IntKind.i64)) rv.pv) = tpulse_firstError_5 F e0 e1 e2 e3 e4 := by kernel_rfl
noncomputable abbrev Fpulse_firstError_5 (args : List PV) := Fn env 91 (Gv.RSh.one (Gv.CK.int Go.IntKind.i64)) args
theorem Fpulse_firstError_5_of (e0 e1 e2 e3 e4 : Int) {res : (Int)} (h : tpulse_firstError_5 (Fn env) e0 e1 e2 e3 e4 = some res) : Fpulse_firstError_5 [.list 5 [.int .i64 e0, .int .i64 e1, .int .i64 e2, .int .i64 e3, .int .i64 e4]] = some res :=
  fn_of Epulse_firstError_5_ok rfl rfl lo_nil ((tpulse_firstError_5_eq _ _ _ _ _ _).trans h)

/-! ### pulse_SpectrumOf_1 -/

def Epulse_SpectrumOf_1 : List Entry := [.out 98 (Gv.RSh.one (Gv.CK.int Go.IntKind.i64))]
theorem Epulse_SpectrumOf_1_ok : ∀ e ∈ Epulse_SpectrumOf_1, EntOK env e := (ent_out ent_nil)
theorem Upulse_SpectrumOf_1 : uniq ((blocksOf a104.body).map (·.1)) = true := by kernel_rfl
def tpulse_SpectrumOf_1 (F : FnT)(n : Nat) (cs : List PV) (a b c : Int) (m : Nat) (ws : List PV) (k : Int) : Option (Int) :=
  bindO (F 98 (Gv.RSh.one (Gv.CK.int Go.IntKind.i64)) [(Gv.PV.agg [(Gv.PV.int Go.IntKind.i64 a), (Gv.PV.int Go.IntKind.i64 b), (Gv.PV.int Go.IntKind.i64 c), (Gv.PV.list (Prod.mk m ws).1 (Prod.mk m ws).2)]), (Gv.PV.list n cs), (Gv.PV.int Go.IntKind.i64 k)]) fun (y0 : (Int)) =>
  some y0
theorem tpulse_SpectrumOf_1_eq (F : FnT)(n : Nat) (cs : List PV) (a b c : Int) (m : Nat) (ws : List PV) (k : Int) : semF (callP F Epulse_SpectrumOf_1 20) s104 (loopT []) 400 a104 [.list n cs, .imm [.int .i64 a, .int .i64 b, .int .i64 c, .list m ws] 0, .imm [.int .i64 k] 0] (fun rv => decR (Gv.RSh.one (Gv.CK.int Go.IntKind.i64)) rv.pv) = tpulse_SpectrumOf_1 F n cs a b c m ws k := by kernel_rfl
noncomputable abbrev Fpulse_SpectrumOf_1 (args : List PV) := Fn env 104 (Gv.RSh.one (Gv.CK.int Go.IntKind.i64)) args
theorem Fpulse_SpectrumOf_1_of (n : Nat) (cs : List PV) (a b c : Int) (m : Nat) (ws : List PV) (k : Int) {res : (Int)} (h : tpulse_SpectrumOf_1 (Fn env) n cs a b c m ws k = some res) : Fpulse_SpectrumOf_1 [.list n cs, .imm [.int .i64 a, .int .i64 b, .int .i64 c, .list m ws] 0, .imm [.int .i64 k] 0] = some res :=
  fn_of Epulse_SpectrumOf_1_ok rfl rfl lo_nil ((tpulse_SpectrumOf_1_eq _ _ _ _ _ _ _ _ _).trans h)

/-! ### pulse_itemError_blocks -/

def Epulse_itemError_blocks : List Entry := [.out 96 (Gv.RSh.one (Gv.CK.int Go.IntKind.i64))]
theorem Epulse_itemError_blocks_ok : ∀ e ∈ Epulse_itemError_blocks, EntOK env e := (ent_out ent_nil)
def Tpulse_itemError_blocks_0a (n0 : Nat) (c1 : List PV) (i2 : Int) (i3 : Int) : Q := ⟨(tm 24 [(1, (AV.p (PV.fn 96 []))), (9, (AV.p (PV.list n0 c1))), (10, (AV.p (PV.int Go.IntKind.i64 i2))), (11, (AV.p (PV.int Go.IntKind.i64 i3)))]), (mm 24 [])⟩
def Xpulse_itemError_blocks_0a (y : Int × Int) : Ext × Q := (Ext.ret, ⟨(tm 24 [(4, (AV.p (PV.int Go.IntKind.i64 y.1))), (5, (AV.p (PV.int Go.IntKind.i64 y.2)))]), (mm 24 [])⟩)
def Ipulse_itemError_blocks_0a (q : Ext × S) : Int × Int := ((pP_int1 (pA_p (avT q.2 4))), (pP_int1 (pA_p (avT q.2 5))))
def Xpulse_itemError_blocks_0b (y : Unit) : Ext × Q := (Ext.normal, ⟨(tm 24 []), (mm 24 [])⟩)
def Ipulse_itemError_blocks_0b (q : Ext × S) : Unit := ()
abbrev Ypulse_itemError_blocks_0 : Type := (Int × Int) ⊕ ((Unit))
def XLpulse_itemError_blocks_0 : XL Ypulse_itemError_blocks_0 := .more Xpulse_itemError_blocks_0a (.one Xpulse_itemError_blocks_0b)
def Ipulse_itemError_blocks_0 (q : Ext × S) : Ypulse_itemError_blocks_0 := bif (cE q.1 == 2) then (Sum.inl (Ipulse_itemError_blocks_0a q)) else (Sum.inr (Ipulse_itemError_blocks_0b q))
theorem XIpulse_itemError_blocks_0a (y : Int × Int) : Ipulse_itemError_blocks_0 (xe (Xpulse_itemError_blocks_0a y)) = (Sum.inl y) := rfl
theorem XIpulse_itemError_blocks_0b (y : Unit) : Ipulse_itemError_blocks_0 (xe (Xpulse_itemError_blocks_0b y)) = (Sum.inr y) := rfl
theorem XIpulse_itemError_blocks_0 (y : Ypulse_itemError_blocks_0) : Ipulse_itemError_blocks_0 (xe (XLpulse_itemError_blocks_0.fn y)) = y := (match y with | .inl y => XIpulse_itemError_blocks_0a y | .inr y => XIpulse_itemError_blocks_0b y)
noncomputable abbrev Lpulse_itemError_blocks_0 : Q → Option Ypulse_itemError_blocks_0 := lpO env a103.body 0 XLpulse_itemError_blocks_0
noncomputable abbrev Rpulse_itemError_blocks_0 : Q → Option (Ext × S) := lpR env a103.body 0
theorem Lpulse_itemError_blocks_0a_of {s : Q} {y : Int × Int} (h : Rpulse_itemError_blocks_0 s = exO (Xpulse_itemError_blocks_0a y)) : Lpulse_itemError_blocks_0 s = some (Sum.inl y) := lpO_of Ipulse_itemError_blocks_0 XIpulse_itemError_blocks_0 (y := (Sum.inl y)) h
theorem Lpulse_itemError_blocks_0b_of {s : Q} {y : Unit} (h : Rpulse_itemError_blocks_0 s = exO (Xpulse_itemError_blocks_0b y)) : Lpulse_itemError_blocks_0 s = some (Sum.inr y) := lpO_of Ipulse_itemError_blocks_0 XIpulse_itemError_blocks_0 (y := (Sum.inr y)) h
theorem Upulse_itemError_blocks : uniq ((blocksOf a103.body).map (·.1)) = true := by kernel_rfl
def Bpulse_itemError_blocks_0a (F : FnT) (N : Q → Option (Ext × S)) (E : Ext × Q → Option (Ext × S)) (L0 : Q → Option Ypulse_itemError_blocks_0) (n0 : Nat) (c1 : List PV) (i2 : Int) (i3 : Int) : Option (Ext × S) :=
  bif (decide (i3 < i2)) then
    bif (decide (((0 : Int) ≤ i3) ∧ (i3 < (n0 : Int)))) then
      bindO (Gv.listC (c1[((Int.toNat i3) * 1)]?)) fun x0 =>
      bindO (F 96 (Gv.RSh.one (Gv.CK.int Go.IntKind.i64)) [(Gv.PV.list x0.1 x0.2)]) fun (y1 : (Int)) =>
      bif (y1 != (0 : Int)) then
        E (Xpulse_itemError_blocks_0a (i3, y1))
      else N (Tpulse_itemError_blocks_0a n0 c1 i2 (w64 (i3 + (1 : Int))))
    else none
  else E (Xpulse_itemError_blocks_0b ())
theorem Bpulse_itemError_blocks_0a_eq (F : FnT) (N : Q → Option (Ext × S)) (E : Ext × Q → Option (Ext × S)) (L0 : Q → Option Ypulse_itemError_blocks_0) (n0 : Nat) (c1 : List PV) (i2 : Int) (i3 : Int) : semB (callP F Epulse_itemError_blocks 20) s103 (loopT [⟨0, Ypulse_itemError_blocks_0, L0, XLpulse_itemError_blocks_0⟩]) 400 (blkIn a103.body 0) N E (Tpulse_itemError_blocks_0a n0 c1 i2 i3) = Bpulse_itemError_blocks_0a F N E L0 n0 c1 i2 i3 := by kernel_rfl
theorem Rpulse_itemError_blocks_0a_of  (n0 : Nat) (c1 : List PV) (i2 : Int) (i3 : Int) {r : Ext × S} (h : Bpulse_itemError_blocks_0a (Fn env) Rpulse_itemError_blocks_0 exO Lpulse_itemError_blocks_0 n0 c1 i2 i3 = some r) : Rpulse_itemError_blocks_0 (Tpulse_itemError_blocks_0a n0 c1 i2 i3) = some r :=
  lp_of Epulse_itemError_blocks_ok (by kernel_rfl) (lo_cons (lpO_ok Upulse_itemError_blocks) lo_nil) (by kernel_rfl) ((Bpulse_itemError_blocks_0a_eq _ _ _ _ _ _ _ _).trans h)
def tpulse_itemError_blocks (F : FnT) (L0 : Q → Option Ypulse_itemError_blocks_0)(n : Nat) (cs : List PV) : Option ((Int) × (Int)) :=
  bindO (L0 (Tpulse_itemError_blocks_0a n cs (n : Int) (0 : Int))) fun z =>
  Sum.elim (fun y0 =>
    some (y0.1, y0.2)) (fun y1 =>
    some ((0 : Int), (0 : Int))) z
theorem tpulse_itemError_blocks_eq (F : FnT) (L0 : Q → Option Ypulse_itemError_blocks_0)(n : Nat) (cs : List PV) : semF (callP F Epulse_itemError_blocks 20) s103 (loopT [⟨0, Ypulse_itemError_blocks_0, L0, XLpulse_itemError_blocks_0⟩]) 400 a103 [.list n cs, .fn 96 []] (fun rv => decR (Gv.RSh.tup [(Prod.mk false [(Gv.CK.int Go.IntKind.i64)]), (Prod.mk false [(Gv.CK.int Go.IntKind.i64)])]) rv.pv) = tpulse_itemError_blocks F L0 n cs := by kernel_rfl
noncomputable abbrev Fpulse_itemError_blocks (args : List PV) := Fn env 103 (Gv.RSh.tup [(Prod.mk false [(Gv.CK.int Go.IntKind.i64)]), (Prod.mk false [(Gv.CK.int Go.IntKind.i64)])]) args
theorem Fpulse_itemError_blocks_of (n : Nat) (cs : List PV) {res : ((Int) × (Int))} (h : tpulse_itemError_blocks (Fn env) Lpulse_itemError_blocks_0 n cs = some res) : Fpulse_itemError_blocks [.list n cs, .fn 96 []] = some res :=
  fn_of Epulse_itemError_blocks_ok rfl rfl (lo_cons (lpO_ok Upulse_itemError_blocks) lo_nil) ((tpulse_itemError_blocks_eq _ _ _ _).trans h)

/-! ### pulse_itemError_gaps -/

def Epulse_itemError_gaps : List Entry := [.out 104 (Gv.RSh.one (Gv.CK.int Go.IntKind.i64))]
theorem Epulse_itemError_gaps_ok : ∀ e ∈ Epulse_itemError_gaps, EntOK env e := (ent_out ent_nil)
def Tpulse_itemError_gaps_0a (i0 : Int) (i1 : Int) (i2 : Int) (n3 : Nat) (c4 : List PV) (i5 : Int) (n6 : Nat) (c7 : List PV) (i8 : Int) (i9 : Int) : Q := ⟨(tm 24 [(1, (AV.p (PV.fn 104 [(PV.imm [(PV.int Go.IntKind.i64 i0), (PV.int Go.IntKind.i64 i1), (PV.int Go.IntKind.i64 i2), (PV.list n3 c4)] 0), (PV.imm [(PV.int Go.IntKind.i64 i5)] 0)]))), (9, (AV.p (PV.list n6 c7))), (10, (AV.p (PV.int Go.IntKind.i64 i8))), (11, (AV.p (PV.int Go.IntKind.i64 i9)))]), (mm 24 [])⟩
def Xpulse_itemError_gaps_0a (y : Int × Int) : Ext × Q := (Ext.ret, ⟨(tm 24 [(4, (AV.p (PV.int Go.IntKind.i64 y.1))), (5, (AV.p (PV.int Go.IntKind.i64 y.2)))]), (mm 24 [])⟩)
def Ipulse_itemError_gaps_0a (q : Ext × S) : Int × Int := ((pP_int1 (pA_p (avT q.2 4))), (pP_int1 (pA_p (avT q.2 5))))
def Xpulse_itemError_gaps_0b (y : Unit) : Ext × Q := (Ext.normal, ⟨(tm 24 []), (mm 24 [])⟩)
def Ipulse_itemError_gaps_0b (q : Ext × S) : Unit := ()
abbrev Ypulse_itemError_gaps_0 : Type := (Int × Int) ⊕ ((Unit))
def XLpulse_itemError_gaps_0 : XL Ypulse_itemError_gaps_0 := .more Xpulse_itemError_gaps_0a (.one Xpulse_itemError_gaps_0b)
def Ipulse_itemError_gaps_0 (q : Ext × S) : Ypulse_itemError_gaps_0 := bif (cE q.1 == 2) then (Sum.inl (Ipulse_itemError_gaps_0a q)) else (Sum.inr (Ipulse_itemError_gaps_0b q))
theorem XIpulse_itemError_gaps_0a (y : Int × Int) : Ipulse_itemError_gaps_0 (xe (Xpulse_itemError_gaps_0a y)) = (Sum.inl y) := rfl
theorem XIpulse_itemError_gaps_0b (y : Unit) : Ipulse_itemError_gaps_0 (xe (Xpulse_itemError_gaps_0b y)) = (Sum.inr y) := rfl
theorem XIpulse_itemError_gaps_0 (y : Ypulse_itemError_gaps_0) : Ipulse_itemError_gaps_0 (xe (XLpulse_itemError_gaps_0.fn y)) = y := (match y with | .inl y => XIpulse_itemError_gaps_0a y | .inr y => XIpulse_itemError_gaps_0b y)
noncomputable abbrev Lpulse_itemError_gaps_0 : Q → Option Ypulse_itemError_gaps_0 := lpO env a103.body 0 XLpulse_itemError_gaps_0
noncomputable abbrev Rpulse_itemError_gaps_0 : Q → Option (Ext × S) := lpR env a103.body 0
theorem Lpulse_itemError_gaps_0a_of {s : Q} {y : Int × Int} (h : Rpulse_itemError_gaps_0 s = exO (Xpulse_itemError_gaps_0a y)) : Lpulse_itemError_gaps_0 s = some (Sum.inl y) := lpO_of Ipulse_itemError_gaps_0 XIpulse_itemError_gaps_0 (y := (Sum.inl y)) h
theorem Lpulse_itemError_gaps_0b_of {s : Q} {y : Unit} (h : Rpulse_itemError_gaps_0 s = exO (Xpulse_itemError_gaps_0b y)) : Lpulse_itemError_gaps_0 s = some (Sum.inr y) := lpO_of Ipulse_itemError_gaps_0 XIpulse_itemError_gaps_0 (y := (Sum.inr y)) h
theorem Upulse_itemError_gaps : uniq ((blocksOf a103.body).map (·.1)) = true := by kernel_rfl
def Bpulse_itemError_gaps_0a (F : FnT) (N : Q → Option (Ext × S)) (E : Ext × Q → Option (Ext × S)) (L0 : Q → Option Ypulse_itemError_gaps_0) (i0 : Int) (i1 : Int) (i2 : Int) (n3 : Nat) (c4 : List PV) (i5 : Int) (n6 : Nat) (c7 : List PV) (i8 : Int) (i9 : Int) : Option (Ext × S) :=
  bif (decide (i9 < i8)) then
    bif (decide (((0 : Int) ≤ i9) ∧ (i9 < (n6 : Int)))) then
      bindO (Gv.listC (c7[((Int.toNat i9) * 1)]?)) fun x0 =>
      bindO (F 104 (Gv.RSh.one (Gv.CK.int Go.IntKind.i64)) [(Gv.PV.list x0.1 x0.2), (Gv.PV.imm [(Gv.PV.int Go.IntKind.i64 i0), (Gv.PV.int Go.IntKind.i64 i1), (Gv.PV.int Go.IntKind.i64 i2), (Gv.PV.list n3 c4)] 0), (Gv.PV.imm [(Gv.PV.int Go.IntKind.i64 i5)] 0)]) fun (y1 : (Int)) =>
      bif (y1 != (0 : Int)) then
        E (Xpulse_itemError_gaps_0a (i9, y1))
      else N (Tpulse_itemError_gaps_0a i0 i1 i2 n3 c4 i5 n6 c7 i8 (w64 (i9 + (1 : Int))))
    else none
  else E (Xpulse_itemError_gaps_0b ())
theorem Bpulse_itemError_gaps_0a_eq (F : FnT) (N : Q → Option (Ext × S)) (E : Ext × Q → Option (Ext × S)) (L0 : Q → Option Ypulse_itemError_gaps_0) (i0 : Int) (i1 : Int) (i2 : Int) (n3 : Nat) (c4 : List PV) (i5 : Int) (n6 : Nat) (c7 : List PV) (i8 : Int) (i9 : Int) : semB (callP F Epulse_itemError_gaps 20) s103 (loopT [⟨0, Ypulse_itemError_gaps_0, L0, XLpulse_itemError_gaps_0⟩]) 400 (blkIn a103.body 0) N E (Tpulse_itemError_gaps_0a i0 i1 i2 n3 c4 i5 n6 c7 i8 i9) = Bpulse_itemError_gaps_0a F N E L0 i0 i1 i2 n3 c4 i5 n6 c7 i8 i9 := by kernel_rfl
theorem Rpulse_itemError_gaps_0a_of  (i0 : Int) (i1 : Int) (i2 : Int) (n3 : Nat) (c4 : List PV) (i5 : Int) (n6 : Nat) (c7 : List PV) (i8 : Int) (i9 : Int) {r : Ext × S} (h : Bpulse_itemError_gaps_0a (Fn env) Rpulse_itemError_gaps_0 exO Lpulse_itemError_gaps_0 i0 i1 i2 n3 c4 i5 n6 c7 i8 i9 = some r) : Rpulse_itemError_gaps_0 (Tpulse_itemError_gaps_0a i0 i1 i2 n3 c4 i5 n6 c7 i8 i9) = some r :=
  lp_of Epulse_itemError_gaps_ok (by kernel_rfl) (lo_cons (lpO_ok Upulse_itemError_gaps) lo_nil) (by kernel_rfl) ((Bpulse_itemError_gaps_0a_eq _ _ _ _ _ _ _ _ _ _ _ _ _ _).trans h)
def tpulse_itemError_gaps (F : FnT) (L0 : Q → Option Ypulse_itemError_gaps_0)(n : Nat) (cs : List PV) (a b c : Int) (m : Nat) (ws : List PV) (k : Int) : Option ((Int) × (Int)) :=
  bindO (L0 (Tpulse_itemError_gaps_0a a b c m ws k n cs (n : Int) (0 : Int))) fun z =>
  Sum.elim (fun y0 =>
    some (y0.1, y0.2)) (fun y1 =>
    some ((0 : Int), (0 : Int))) z
theorem tpulse_itemError_gaps_eq (F : FnT) (L0 : Q → Option Ypulse_itemError_gaps_0)(n : Nat) (cs : List PV) (a b c : Int) (m : Nat) (ws : List PV) (k : Int) : semF (callP F Epulse_itemError_gaps 20) s103 (loopT [⟨0, Ypulse_itemError_gaps_0, L0, XLpulse_itemError_gaps_0⟩]) 400 a103 [.list n cs, .fn 104 [.imm [.int .i64 a, .int .i64 b, .int .i64 c, .list m ws] 0, .imm [.int .i64 k] 0]] (fun rv => decR (Gv.RSh.tup [(Prod.mk false [(Gv.CK.int Go.IntKind.i64)]), (Prod.mk false [(Gv.CK.int Go.IntKind.i64)])]) rv.pv) = tpulse_itemError_gaps F L0 n cs a b c m ws k := by kernel_rfl
noncomputable abbrev Fpulse_itemError_gaps (args : List PV) := Fn env 103 (Gv.RSh.tup [(Prod.mk false [(Gv.CK.int Go.IntKind.i64)]), (Prod.mk false [(Gv.CK.int Go.IntKind.i64)])]) args
theorem Fpulse_itemError_gaps_of (n : Nat) (cs : List PV) (a b c : Int) (m : Nat) (ws : List PV) (k : Int) {res : ((Int) × (Int))} (h : tpulse_itemError_gaps (Fn env) Lpulse_itemError_gaps_0 n cs a b c m ws k = some res) : Fpulse_itemError_gaps [.list n cs, .fn 104 [.imm [.int .i64 a, .int .i64 b, .int .i64 c, .list m ws] 0, .imm [.int .i64 k] 0]] = some res :=
  fn_of Epulse_itemError_gaps_ok rfl rfl (lo_cons (lpO_ok Upulse_itemError_gaps) lo_nil) ((tpulse_itemError_gaps_eq _ _ _ _ _ _ _ _ _ _).trans h)

/-! ### pulse_SpectrumOf -/

def Epulse_SpectrumOf : List Entry := [.out 103 (Gv.RSh.tup [(Prod.mk false [(Gv.CK.int Go.IntKind.i64)]), (Prod.mk false [(Gv.CK.int Go.IntKind.i64)])]), .out 95 (Gv.RSh.one (Gv.CK.int Go.IntKind.i64)), .out 105 (Gv.RSh.one (Gv.CK.int Go.IntKind.i64)), .out 97 (Gv.RSh.one (Gv.CK.int Go.IntKind.i64)), .out 91 (Gv.RSh.one (Gv.CK.int Go.IntKind.i64)), .out 100 (Gv.RSh.one (Gv.CK.int Go.IntKind.i64)), .out 99 (Gv.RSh.one Gv.CK.list), .out 106 (Gv.RSh.agg [(Gv.CK.int Go.IntKind.i64), (Gv.CK.int Go.IntKind.i64), (Gv.CK.int Go.IntKind.i64), (Gv.CK.int Go.IntKind.i64), (Gv.CK.int Go.IntKind.i64), (Gv.CK.int Go.IntKind.i64), (Gv.CK.int Go.IntKind.i64), (Gv.CK.int Go.IntKind.i64)]), .out 107 (Gv.RSh.agg [(Gv.CK.int Go.IntKind.i64), (Gv.CK.int Go.IntKind.i64), (Gv.CK.int Go.IntKind.i64), (Gv.CK.int Go.IntKind.i64)])]
theorem Epulse_SpectrumOf_ok : ∀ e ∈ Epulse_SpectrumOf, EntOK env e := (ent_out (ent_out (ent_out (ent_out (ent_out (ent_out (ent_out (ent_out (ent_out ent_nil)))))))))
def Tpulse_SpectrumOf_0a (n0 : Nat) (c1 : List PV) (i2 : Int) (i3 : Int) (i4 : Int) (i5 : Int) (i6 : Int) (n7 : Nat) (c8 : List PV) (i9 : Int) (i10 : Int) (i11 : Int) (i12 : Int) (i13 : Int) : Q := ⟨(tm 75 [(3, (AV.loc 3 0)), (5, (AV.loc 5 0)), (6, (AV.loc 6 0)), (13, (AV.loc 13 0)), (46, (AV.p (PV.list n0 c1))), (47, (AV.p (PV.int Go.IntKind.i64 i2))), (48, (AV.p (PV.int Go.IntKind.i64 i3)))]), (mm 75 [(3, (Bk.cells false [(AV.p (PV.int Go.IntKind.i64 i4)), (AV.p (PV.int Go.IntKind.i64 i5)), (AV.p (PV.int Go.IntKind.i64 i6)), (AV.p (PV.list n7 c8))])), (5, (Bk.pcs false [(PV.int Go.IntKind.i64 i9)])), (6, (Bk.pcs true [(PV.int Go.IntKind.i64 (0 : Int)), (PV.int Go.IntKind.i64 (0 : Int)), (PV.int Go.IntKind.i64 (0 : Int)), (PV.int Go.IntKind.i64 (0 : Int))])), (13, (Bk.pcs true [(PV.int Go.IntKind.i64 i10), (PV.int Go.IntKind.i64 i11), (PV.int Go.IntKind.i64 i12), (PV.int Go.IntKind.i64 i13)]))])⟩
def Xpulse_SpectrumOf_0a (y : Int × Int × Int × Nat × List PV × Int × Int × Int × Int × Int) : Ext × Q := (Ext.normal, ⟨(tm 75 [(6, (AV.loc 6 0)), (13, (AV.loc 13 0))]), (mm 75 [(3, (Bk.cells false [(AV.p (PV.int Go.IntKind.i64 y.1)), (AV.p (PV.int Go.IntKind.i64 y.2.1)), (AV.p (PV.int Go.IntKind.i64 y.2.2.1)), (AV.p (PV.list y.2.2.2.1 y.2.2.2.2.1))])), (5, (Bk.pcs false [(PV.int Go.IntKind.i64 y.2.2.2.2.2.1)])), (6, (Bk.pcs true [(PV.int Go.IntKind.i64 (0 : Int)), (PV.int Go.IntKind.i64 (0 : Int)), (PV.int Go.IntKind.i64 (0 : Int)), (PV.int Go.IntKind.i64 (0 : Int))])), (13, (Bk.pcs true [(PV.int Go.IntKind.i64 y.2.2.2.2.2.2.1), (PV.int Go.IntKind.i64 y.2.2.2.2.2.2.2.1), (PV.int Go.IntKind.i64 y.2.2.2.2.2.2.2.2.1), (PV.int Go.IntKind.i64 y.2.2.2.2.2.2.2.2.2)]))])⟩)
def Ipulse_SpectrumOf_0a (q : Ext × S) : Int × Int × Int × Nat × List PV × Int × Int × Int × Int × Int := ((pP_int1 (pA_p (hdA (pB_cells1 (avM q.2 3))))), (pP_int1 (pA_p (hdA (List.tail (pB_cells1 (avM q.2 3)))))), (pP_int1 (pA_p (hdA (List.tail (List.tail (pB_cells1 (avM q.2 3))))))), (pP_list0 (pA_p (hdA (List.tail (List.tail (List.tail (pB_cells1 (avM q.2 3)))))))), (pP_list1 (pA_p (hdA (List.tail (List.tail (List.tail (pB_cells1 (avM q.2 3)))))))), (pP_int1 (hdP (pB_pcs1 (avM q.2 5)))), (pP_int1 (hdP (pB_pcs1 (avM q.2 13)))), (pP_int1 (hdP (List.tail (pB_pcs1 (avM q.2 13))))), (pP_int1 (hdP (List.tail (List.tail (pB_pcs1 (avM q.2 13)))))), (pP_int1 (hdP (List.tail (List.tail (List.tail (pB_pcs1 (avM q.2 13))))))))
abbrev Ypulse_SpectrumOf_0 : Type := Int × Int × Int × Nat × List PV × Int × Int × Int × Int × Int
def XLpulse_SpectrumOf_0 : XL Ypulse_SpectrumOf_0 := .one Xpulse_SpectrumOf_0a
def Ipulse_SpectrumOf_0 (q : Ext × S) : Ypulse_SpectrumOf_0 := (Ipulse_SpectrumOf_0a q)
theorem XIpulse_SpectrumOf_0a (y : Int × Int × Int × Nat × List PV × Int × Int × Int × Int × Int) : Ipulse_SpectrumOf_0 (xe (Xpulse_SpectrumOf_0a y)) = y := rfl
theorem XIpulse_SpectrumOf_0 (y : Ypulse_SpectrumOf_0) : Ipulse_SpectrumOf_0 (xe (XLpulse_SpectrumOf_0.fn y)) = y := XIpulse_SpectrumOf_0a y
noncomputable abbrev Lpulse_SpectrumOf_0 : Q → Option Ypulse_SpectrumOf_0 := lpO env a37.body 0 XLpulse_SpectrumOf_0
noncomputable abbrev Rpulse_SpectrumOf_0 : Q → Option (Ext × S) := lpR env a37.body 0
theorem Lpulse_SpectrumOf_0a_of {s : Q} {y : Int × Int × Int × Nat × List PV × Int × Int × Int × Int × Int} (h : Rpulse_SpectrumOf_0 s = exO (Xpulse_SpectrumOf_0a y)) : Lpulse_SpectrumOf_0 s = some y := lpO_of Ipulse_SpectrumOf_0 XIpulse_SpectrumOf_0 (y := y) h
theorem Upulse_SpectrumOf : uniq ((blocksOf a37.body).map (·.1)) = true := by kernel_rfl
def Bpulse_SpectrumOf_0a (F : FnT) (N : Q → Option (Ext × S)) (E : Ext × Q → Option (Ext × S)) (L0 : Q → Option Ypulse_SpectrumOf_0) (n0 : Nat) (c1 : List PV) (i2 : Int) (i3 : Int) (i4 : Int) (i5 : Int) (i6 : Int) (n7 : Nat) (c8 : List PV) (i9 : Int) (i10 : Int) (i11 : Int) (i12 : Int) (i13 : Int) : Option (Ext × S) :=
  bif (decide (i3 < i2)) then
    bif (decide (((0 : Int) ≤ i3) ∧ (i3 < (n0 : Int)))) then
      bindO (Gv.listC (c1[((Int.toNat i3) * 1)]?)) fun x0 =>
      bindO (F 100 (Gv.RSh.one (Gv.CK.int Go.IntKind.i64)) [(Gv.PV.agg [(Gv.PV.int Go.IntKind.i64 i4), (Gv.PV.int Go.IntKind.i64 i5), (Gv.PV.int Go.IntKind.i64 i6), (Gv.PV.list n7 c8)]), (Gv.PV.int Go.IntKind.i64 i9)]) fun (y1 : (Int)) =>
      bindO (F 99 (Gv.RSh.one Gv.CK.list) [(Gv.PV.list x0.1 x0.2), (Gv.PV.int Go.IntKind.i64 y1), (Gv.PV.list n7 c8)]) fun (y2 : ((Nat) × (List PV))) =>
      bindO (F 106 (Gv.RSh.agg [(Gv.CK.int Go.IntKind.i64), (Gv.CK.int Go.IntKind.i64), (Gv.CK.int Go.IntKind.i64), (Gv.CK.int Go.IntKind.i64), (Gv.CK.int Go.IntKind.i64), (Gv.CK.int Go.IntKind.i64), (Gv.CK.int Go.IntKind.i64), (Gv.CK.int Go.IntKind.i64)]) [(Gv.PV.list y2.1 y2.2)]) fun (y3 : ((Int) × ((Int) × ((Int) × ((Int) × ((Int) × ((Int) × ((Int) × (Int))))))))) =>
      bindO (F 107 (Gv.RSh.agg [(Gv.CK.int Go.IntKind.i64), (Gv.CK.int Go.IntKind.i64), (Gv.CK.int Go.IntKind.i64), (Gv.CK.int Go.IntKind.i64)]) [(Gv.PV.agg [(Gv.PV.int Go.IntKind.i64 y3.1), (Gv.PV.int Go.IntKind.i64 y3.2.1), (Gv.PV.int Go.IntKind.i64 y3.2.2.1), (Gv.PV.int Go.IntKind.i64 y3.2.2.2.1), (Gv.PV.int Go.IntKind.i64 y3.2.2.2.2.1), (Gv.PV.int Go.IntKind.i64 y3.2.2.2.2.2.1), (Gv.PV.int Go.IntKind.i64 y3.2.2.2.2.2.2.1), (Gv.PV.int Go.IntKind.i64 y3.2.2.2.2.2.2.2)])]) fun (y4 : ((Int) × ((Int) × ((Int) × (Int))))) =>
      N (Tpulse_SpectrumOf_0a n0 c1 i2 (w64 (i3 + (1 : Int))) i4 i5 i6 n7 c8 i9 (w64 (i10 + y4.1)) (w64 (i11 + y4.2.1)) (w64 (i12 + y4.2.2.1)) (w64 (i13 + y4.2.2.2)))
    else none
  else E (Xpulse_SpectrumOf_0a (i4, i5, i6, n7, c8, i9, i10, i11, i12, i13))
theorem Bpulse_SpectrumOf_0a_eq (F : FnT) (N : Q → Option (Ext × S)) (E : Ext × Q → Option (Ext × S)) (L0 : Q → Option Ypulse_SpectrumOf_0) (n0 : Nat) (c1 : List PV) (i2 : Int) (i3 : Int) (i4 : Int) (i5 : Int) (i6 : Int) (n7 : Nat) (c8 : List PV) (i9 : Int) (i10 : Int) (i11 : Int) (i12 : Int) (i13 : Int) : semB (callP F Epulse_SpectrumOf 20) s37 (loopT [⟨0, Ypulse_SpectrumOf_0, L0, XLpulse_SpectrumOf_0⟩]) 400 (blkIn a37.body 0) N E (Tpulse_SpectrumOf_0a n0 c1 i2 i3 i4 i5 i6 n7 c8 i9 i10 i11 i12 i13) = Bpulse_SpectrumOf_0a F N E L0 n0 c1 i2 i3 i4 i5 i6 n7 c8 i9 i10 i11 i12 i13 := by kernel_rfl
theorem Rpulse_SpectrumOf_0a_of  (n0 : Nat) (c1 : List PV) (i2 : Int) (i3 : Int) (i4 : Int) (i5 : Int) (i6 : Int) (n7 : Nat) (c8 : List PV) (i9 : Int) (i10 : Int) (i11 : Int) (i12 : Int) (i13 : Int) {r : Ext × S} (h : Bpulse_SpectrumOf_0a (Fn env) Rpulse_SpectrumOf_0 exO Lpulse_SpectrumOf_0 n0 c1 i2 i3 i4 i5 i6 n7 c8 i9 i10 i11 i12 i13 = some r) : Rpulse_SpectrumOf_0 (Tpulse_SpectrumOf_0a n0 c1 i2 i3 i4 i5 i6 n7 c8 i9 i10 i11 i12 i13) = some r :=
  lp_of Epulse_SpectrumOf_ok (by kernel_rfl) (lo_cons (lpO_ok Upulse_SpectrumOf) lo_nil) (by kernel_rfl) ((Bpulse_SpectrumOf_0a_eq _ _ _ _ _ _ _ _ _ _ _ _ _ _ _ _ _ _).trans h)
def tpulse_SpectrumOf (F : FnT) (L0 : Q → Option Ypulse_SpectrumOf_0) (p0_0 : Int) (p0_1 : Int) (p0_2 : Int) (p0_3n : Nat) (p0_3c : List PV) (p1n : Nat) (p1c : List PV) (p2 : Int) : Option ((Int) × ((Int) × ((Int) × ((Int) × (Int))))) :=
  bindO (F 103 (Gv.RSh.tup [(Prod.mk false [(Gv.CK.int Go.IntKind.i64)]), (Prod.mk false [(Gv.CK.int Go.IntKind.i64)])]) [(Gv.PV.list p1n p1c), (Gv.PV.fn 96 [])]) fun (y0 : ((Int) × (Int))) =>
  bindO (F 103 (Gv.RSh.tup [(Prod.mk false [(Gv.CK.int Go.IntKind.i64)]), (Prod.mk false [(Gv.CK.int Go.IntKind.i64)])]) [(Gv.PV.list p1n p1c), (Gv.PV.fn 104 [(Gv.PV.imm [(Gv.PV.int Go.IntKind.i64 p0_0), (Gv.PV.int Go.IntKind.i64 p0_1), (Gv.PV.int Go.IntKind.i64 p0_2), (Gv.PV.list p0_3n p0_3c)] 0), (Gv.PV.imm [(Gv.PV.int Go.IntKind.i64 p2)] 0)])]) fun (y1 : ((Int) × (Int))) =>
  bindO (F 95 (Gv.RSh.one (Gv.CK.int Go.IntKind.i64)) [(Gv.PV.agg [(Gv.PV.int Go.IntKind.i64 p0_0), (Gv.PV.int Go.IntKind.i64 p0_1), (Gv.PV.int Go.IntKind.i64 p0_2), (Gv.PV.list p0_3n p0_3c)])]) fun (y2 : (Int)) =>
  bif (decide ((p1n : Int) > (12 : Int))) then
    bindO (F 105 (Gv.RSh.one (Gv.CK.int Go.IntKind.i64)) [(Gv.PV.bool true), (Gv.PV.int Go.IntKind.i64 (8 : Int))]) fun (y3 : (Int)) =>
    bindO (F 97 (Gv.RSh.one (Gv.CK.int Go.IntKind.i64)) [(Gv.PV.agg [(Gv.PV.int Go.IntKind.i64 p0_0), (Gv.PV.int Go.IntKind.i64 p0_1), (Gv.PV.int Go.IntKind.i64 p0_2), (Gv.PV.list p0_3n p0_3c)]), (Gv.PV.int Go.IntKind.i64 p2)]) fun (y4 : (Int)) =>
    bindO (F 91 (Gv.RSh.one (Gv.CK.int Go.IntKind.i64)) [(Gv.PV.list 5 [(Gv.PV.int Go.IntKind.i64 y2), (Gv.PV.int Go.IntKind.i64 y3), (Gv.PV.int Go.IntKind.i64 y0.2), (Gv.PV.int Go.IntKind.i64 y4), (Gv.PV.int Go.IntKind.i64 y1.2)])]) fun (y5 : (Int)) =>
    bif (y5 != (0 : Int)) then
      some ((0 : Int), ((0 : Int), ((0 : Int), ((0 : Int), y5))))
    else bindO (L0 (Tpulse_SpectrumOf_0a p1n p1c (p1n : Int) (0 : Int) p0_0 p0_1 p0_2 p0_3n p0_3c p2 (0 : Int) (0 : Int) (0 : Int) (0 : Int))) fun y6 =>
    some (y6.2.2.2.2.2.2.1, (y6.2.2.2.2.2.2.2.1, (y6.2.2.2.2.2.2.2.2.1, (y6.2.2.2.2.2.2.2.2.2, (0 : Int)))))
  else bindO (F 105 (Gv.RSh.one (Gv.CK.int Go.IntKind.i64)) [(Gv.PV.bool false), (Gv.PV.int Go.IntKind.i64 (8 : Int))]) fun (y7 : (Int)) =>
  bindO (F 97 (Gv.RSh.one (Gv.CK.int Go.IntKind.i64)) [(Gv.PV.agg [(Gv.PV.int Go.IntKind.i64 p0_0), (Gv.PV.int Go.IntKind.i64 p0_1), (Gv.PV.int Go.IntKind.i64 p0_2), (Gv.PV.list p0_3n p0_3c)]), (Gv.PV.int Go.IntKind.i64 p2)]) fun (y8 : (Int)) =>
  bindO (F 91 (Gv.RSh.one (Gv.CK.int Go.IntKind.i64)) [(Gv.PV.list 5 [(Gv.PV.int Go.IntKind.i64 y2), (Gv.PV.int Go.IntKind.i64 y7), (Gv.PV.int Go.IntKind.i64 y0.2), (Gv.PV.int Go.IntKind.i64 y8), (Gv.PV.int Go.IntKind.i64 y1.2)])]) fun (y9 : (Int)) =>
  bif (y9 != (0 : Int)) then
    some ((0 : Int), ((0 : Int), ((0 : Int), ((0 : Int), y9))))
  else bindO (L0 (Tpulse_SpectrumOf_0a p1n p1c (p1n : Int) (0 : Int) p0_0 p0_1 p0_2 p0_3n p0_3c p2 (0 : Int) (0 : Int) (0 : Int) (0 : Int))) fun y10 =>
  some (y10.2.2.2.2.2.2.1, (y10.2.2.2.2.2.2.2.1, (y10.2.2.2.2.2.2.2.2.1, (y10.2.2.2.2.2.2.2.2.2, (0 : Int)))))
theorem tpulse_SpectrumOf_eq (F : FnT) (L0 : Q → Option Ypulse_SpectrumOf_0) (p0_0 : Int) (p0_1 : Int) (p0_2 : Int) (p0_3n : Nat) (p0_3c : List PV) (p1n : Nat) (p1c : List PV) (p2 : Int) : semF (callP F Epulse_SpectrumOf 20) s37 (loopT [⟨0, Ypulse_SpectrumOf_0, L0, XLpulse_SpectrumOf_0⟩]) 400 a37 [PV.agg [PV.int Go.IntKind.i64 p0_0, PV.int Go.IntKind.i64 p0_1, PV.int Go.IntKind.i64 p0_2, PV.list p0_3n p0_3c], PV.list p1n p1c, PV.int Go.IntKind.i64 p2] (fun rv => decR (Gv.RSh.tup [(Prod.mk true [(Gv.CK.int Go.IntKind.i64), (Gv.CK.int Go.IntKind.i64), (Gv.CK.int Go.IntKind.i64), (Gv.CK.int Go.IntKind.i64)]), (Prod.mk false [(Gv.CK.int Go.IntKind.i64)])]) rv.pv) = tpulse_SpectrumOf F L0 p0_0 p0_1 p0_2 p0_3n p0_3c p1n p1c p2 := by kernel_rfl
noncomputable abbrev Fpulse_SpectrumOf (args : List PV) := Fn env 37 (Gv.RSh.tup [(Prod.mk true [(Gv.CK.int Go.IntKind.i64), (Gv.CK.int Go.IntKind.i64), (Gv.CK.int Go.IntKind.i64), (Gv.CK.int Go.IntKind.i64)]), (Prod.mk false [(Gv.CK.int Go.IntKind.i64)])]) args
theorem Fpulse_SpectrumOf_of  (p0_0 : Int) (p0_1 : Int) (p0_2 : Int) (p0_3n : Nat) (p0_3c : List PV) (p1n : Nat) (p1c : List PV) (p2 : Int) {res : ((Int) × ((Int) × ((Int) × ((Int) × (Int)))))} (h : tpulse_SpectrumOf (Fn env) Lpulse_SpectrumOf_0 p0_0 p0_1 p0_2 p0_3n p0_3c p1n p1c p2 = some res) : Fpulse_SpectrumOf [PV.agg [PV.int Go.IntKind.i64 p0_0, PV.int Go.IntKind.i64 p0_1, PV.int Go.IntKind.i64 p0_2, PV.list p0_3n p0_3c], PV.list p1n p1c, PV.int Go.IntKind.i64 p2] = some res :=
  fn_of Epulse_SpectrumOf_ok rfl rfl (lo_cons (lpO_ok Upulse_SpectrumOf) lo_nil) ((tpulse_SpectrumOf_eq _ _ _ _ _ _ _ _ _ _).trans h)

/-! ### glidepathref01_CopyBlocks -/

def Eglidepathref01_CopyBlocks : List Entry := [.out 19 (Gv.RSh.one Gv.CK.list)]
theorem Eglidepathref01_CopyBlocks_ok : ∀ e ∈ Eglidepathref01_CopyBlocks, EntOK env e := (ent_out ent_nil)
def Tglidepathref01_CopyBlocks_0a (n0 : Nat) (c1 : List PV) : Q := ⟨(tm 20 [(0, (AV.p (PV.list n0 c1))), (3, AV.nilS), (4, (AV.p (PV.int Go.IntKind.i64 (0 : Int))))]), (mm 20 [])⟩
def Tglidepathref01_CopyBlocks_0b (n0 : Nat) (c1 : List PV) (n2 : Nat) (c3 : List PV) (i4 : Int) (n5 : Nat) : Q := ⟨(tm 20 [(0, (AV.p (PV.list n0 c1))), (3, (AV.app 18 n2 1 c3)), (4, (AV.p (PV.int Go.IntKind.i64 i4)))]), (mm 20 [(18, (Bk.buf n5))])⟩
def Xglidepathref01_CopyBlocks_0a (y : Unit) : Ext × Q := (Ext.normal, ⟨(tm 20 [(3, AV.nilS)]), (mm 20 [])⟩)
def Iglidepathref01_CopyBlocks_0a (q : Ext × S) : Unit := ()
def Xglidepathref01_CopyBlocks_0b (y : Nat × List PV × Nat) : Ext × Q := (Ext.normal, ⟨(tm 20 [(3, (AV.app 18 y.1 1 y.2.1))]), (mm 20 [(18, (Bk.buf y.2.2))])⟩)
def Iglidepathref01_CopyBlocks_0b (q : Ext × S) : Nat × List PV × Nat := ((pA_app1 (avT q.2 3)), (pA_app3 (avT q.2 3)), (pB_buf0 (avM q.2 18)))
abbrev Yglidepathref01_CopyBlocks_0 : Type := (Unit) ⊕ ((Nat × List PV × Nat))
def XLglidepathref01_CopyBlocks_0 : XL Yglidepathref01_CopyBlocks_0 := .more Xglidepathref01_CopyBlocks_0a (.one Xglidepathref01_CopyBlocks_0b)
def Iglidepathref01_CopyBlocks_0 (q : Ext × S) : Yglidepathref01_CopyBlocks_0 := bif (cA (avT q.2 3) == 1) then (Sum.inl (Iglidepathref01_CopyBlocks_0a q)) else (Sum.inr (Iglidepathref01_CopyBlocks_0b q))
theorem XIglidepathref01_CopyBlocks_0a (y : Unit) : Iglidepathref01_CopyBlocks_0 (xe (Xglidepathref01_CopyBlocks_0a y)) = (Sum.inl y) := rfl
theorem XIglidepathref01_CopyBlocks_0b (y : Nat × List PV × Nat) : Iglidepathref01_CopyBlocks_0 (xe (Xglidepathref01_CopyBlocks_0b y)) = (Sum.inr y) := rfl
theorem XIglidepathref01_CopyBlocks_0 (y : Yglidepathref01_CopyBlocks_0) : Iglidepathref01_CopyBlocks_0 (xe (XLglidepathref01_CopyBlocks_0.fn y)) = y := (match y with | .inl y => XIglidepathref01_CopyBlocks_0a y | .inr y => XIglidepathref01_CopyBlocks_0b y)
noncomputable abbrev Lglidepathref01_CopyBlocks_0 : Q → Option Yglidepathref01_CopyBlocks_0 := lpO env a38.body 0 XLglidepathref01_CopyBlocks_0
noncomputable abbrev Rglidepathref01_CopyBlocks_0 : Q → Option (Ext × S) := lpR env a38.body 0
theorem Lglidepathref01_CopyBlocks_0a_of {s : Q} {y : Unit} (h : Rglidepathref01_CopyBlocks_0 s = exO (Xglidepathref01_CopyBlocks_0a y)) : Lglidepathref01_CopyBlocks_0 s = some (Sum.inl y) := lpO_of Iglidepathref01_CopyBlocks_0 XIglidepathref01_CopyBlocks_0 (y := (Sum.inl y)) h
theorem Lglidepathref01_CopyBlocks_0b_of {s : Q} {y : Nat × List PV × Nat} (h : Rglidepathref01_CopyBlocks_0 s = exO (Xglidepathref01_CopyBlocks_0b y)) : Lglidepathref01_CopyBlocks_0 s = some (Sum.inr y) := lpO_of Iglidepathref01_CopyBlocks_0 XIglidepathref01_CopyBlocks_0 (y := (Sum.inr y)) h
theorem Uglidepathref01_CopyBlocks : uniq ((blocksOf a38.body).map (·.1)) = true := by kernel_rfl
def Bglidepathref01_CopyBlocks_0a (F : FnT) (N : Q → Option (Ext × S)) (E : Ext × Q → Option (Ext × S)) (L0 : Q → Option Yglidepathref01_CopyBlocks_0) (n0 : Nat) (c1 : List PV) : Option (Ext × S) :=
  bif (decide ((0 : Int) < (n0 : Int))) then
    bif (decide (((0 : Int) ≤ (0 : Int)) ∧ ((0 : Int) < (n0 : Int)))) then
      bindO (Gv.listC (c1[0]?)) fun x0 =>
      bindO (F 19 (Gv.RSh.one Gv.CK.list) [(Gv.PV.list x0.1 x0.2)]) fun (y1 : ((Nat) × (List PV))) =>
      N (Tglidepathref01_CopyBlocks_0b n0 c1 1 [(Gv.PV.list y1.1 y1.2)] (1 : Int) 1)
    else none
  else E (Xglidepathref01_CopyBlocks_0a ())
theorem Bglidepathref01_CopyBlocks_0a_eq (F : FnT) (N : Q → Option (Ext × S)) (E : Ext × Q → Option (Ext × S)) (L0 : Q → Option Yglidepathref01_CopyBlocks_0) (n0 : Nat) (c1 : List PV) : semB (callP F Eglidepathref01_CopyBlocks 20) s38 (loopT [⟨0, Yglidepathref01_CopyBlocks_0, L0, XLglidepathref01_CopyBlocks_0⟩]) 400 (blkIn a38.body 0) N E (Tglidepathref01_CopyBlocks_0a n0 c1) = Bglidepathref01_CopyBlocks_0a F N E L0 n0 c1 := by kernel_rfl
theorem Rglidepathref01_CopyBlocks_0a_of  (n0 : Nat) (c1 : List PV) {r : Ext × S} (h : Bglidepathref01_CopyBlocks_0a (Fn env) Rglidepathref01_CopyBlocks_0 exO Lglidepathref01_CopyBlocks_0 n0 c1 = some r) : Rglidepathref01_CopyBlocks_0 (Tglidepathref01_CopyBlocks_0a n0 c1) = some r :=
  lp_of Eglidepathref01_CopyBlocks_ok (by kernel_rfl) (lo_cons (lpO_ok Uglidepathref01_CopyBlocks) lo_nil) (by kernel_rfl) ((Bglidepathref01_CopyBlocks_0a_eq _ _ _ _ _ _).trans h)
def Bglidepathref01_CopyBlocks_0b (F : FnT) (N : Q → Option (Ext × S)) (E : Ext × Q → Option (Ext × S)) (L0 : Q → Option Yglidepathref01_CopyBlocks_0) (n0 : Nat) (c1 : List PV) (n2 : Nat) (c3 : List PV) (i4 : Int) (n5 : Nat) : Option (Ext × S) :=
  bif (decide (i4 < (n0 : Int))) then
    bif (decide (((0 : Int) ≤ i4) ∧ (i4 < (n0 : Int)))) then
      bindO (Gv.listC (c1[((Int.toNat i4) * 1)]?)) fun x0 =>
      bindO (F 19 (Gv.RSh.one Gv.CK.list) [(Gv.PV.list x0.1 x0.2)]) fun (y1 : ((Nat) × (List PV))) =>
      bif (decide ((n5 = n2) ∧ ((n2 + 1) ≤ Gv.big))) then
        N (Tglidepathref01_CopyBlocks_0b n0 c1 (n2 + 1) (c3 ++ [(Gv.PV.list y1.1 y1.2)]) (w64 (i4 + (1 : Int))) (n2 + 1))
      else none
    else none
  else E (Xglidepathref01_CopyBlocks_0b (n2, c3, n5))
theorem Bglidepathref01_CopyBlocks_0b_eq (F : FnT) (N : Q → Option (Ext × S)) (E : Ext × Q → Option (Ext × S)) (L0 : Q → Option Yglidepathref01_CopyBlocks_0) (n0 : Nat) (c1 : List PV) (n2 : Nat) (c3 : List PV) (i4 : Int) (n5 : Nat) : semB (callP F Eglidepathref01_CopyBlocks 20) s38 (loopT [⟨0, Yglidepathref01_CopyBlocks_0, L0, XLglidepathref01_CopyBlocks_0⟩]) 400 (blkIn a38.body 0) N E (Tglidepathref01_CopyBlocks_0b n0 c1 n2 c3 i4 n5) = Bglidepathref01_CopyBlocks_0b F N E L0 n0 c1 n2 c3 i4 n5 := by kernel_rfl
theorem Rglidepathref01_CopyBlocks_0b_of  (n0 : Nat) (c1 : List PV) (n2 : Nat) (c3 : List PV) (i4 : Int) (n5 : Nat) {r : Ext × S} (h : Bglidepathref01_CopyBlocks_0b (Fn env) Rglidepathref01_CopyBlocks_0 exO Lglidepathref01_CopyBlocks_0 n0 c1 n2 c3 i4 n5 = some r) : Rglidepathref01_CopyBlocks_0 (Tglidepathref01_CopyBlocks_0b n0 c1 n2 c3 i4 n5) = some r :=
  lp_of Eglidepathref01_CopyBlocks_ok (by kernel_rfl) (lo_cons (lpO_ok Uglidepathref01_CopyBlocks) lo_nil) (by kernel_rfl) ((Bglidepathref01_CopyBlocks_0b_eq _ _ _ _ _ _ _ _ _ _).trans h)
def tglidepathref01_CopyBlocks (F : FnT) (L0 : Q → Option Yglidepathref01_CopyBlocks_0) (p0n : Nat) (p0c : List PV) : Option ((Nat) × (List PV)) :=
  bindO (L0 (Tglidepathref01_CopyBlocks_0a p0n p0c)) fun z =>
  Sum.elim (fun y0 =>
    some (0, [])) (fun y1 =>
    bif (decide (y1.2.2 = y1.1)) then
      some (y1.1, y1.2.1)
    else none) z
theorem tglidepathref01_CopyBlocks_eq (F : FnT) (L0 : Q → Option Yglidepathref01_CopyBlocks_0) (p0n : Nat) (p0c : List PV) : semF (callP F Eglidepathref01_CopyBlocks 20) s38 (loopT [⟨0, Yglidepathref01_CopyBlocks_0, L0, XLglidepathref01_CopyBlocks_0⟩]) 400 a38 [PV.list p0n p0c] (fun rv => decR (Gv.RSh.one Gv.CK.list) rv.pv) = tglidepathref01_CopyBlocks F L0 p0n p0c := by kernel_rfl
noncomputable abbrev Fglidepathref01_CopyBlocks (args : List PV) := Fn env 38 (Gv.RSh.one Gv.CK.list) args
theorem Fglidepathref01_CopyBlocks_of  (p0n : Nat) (p0c : List PV) {res : ((Nat) × (List PV))} (h : tglidepathref01_CopyBlocks (Fn env) Lglidepathref01_CopyBlocks_0 p0n p0c = some res) : Fglidepathref01_CopyBlocks [PV.list p0n p0c] = some res :=
  fn_of Eglidepathref01_CopyBlocks_ok rfl rfl (lo_cons (lpO_ok Uglidepathref01_CopyBlocks) lo_nil) ((tglidepathref01_CopyBlocks_eq _ _ _ _).trans h)

/-! ### glidepathref01_SpectrumErr -/

def Eglidepathref01_SpectrumErr : List Entry := [.out 35 (Gv.RSh.one (Gv.CK.int Go.IntKind.i64)), .out 30 (Gv.RSh.one (Gv.CK.int Go.IntKind.i64)), .out 31 (Gv.RSh.one (Gv.CK.int Go.IntKind.i64))]
theorem Eglidepathref01_SpectrumErr_ok : ∀ e ∈ Eglidepathref01_SpectrumErr, EntOK env e := (ent_out (ent_out (ent_out ent_nil)))
def Tglidepathref01_SpectrumErr_0a (n0 : Nat) (c1 : List PV) (i2 : Int) (i3 : Int) (i4 : Int) (i5 : Int) (i6 : Int) (n7 : Nat) (c8 : List PV) : Q := ⟨(tm 51 [(1, (AV.p (PV.list n0 c1))), (2, (AV.p (PV.int Go.IntKind.i64 i2))), (3, (AV.loc 3 0)), (7, (AV.p (PV.int Go.IntKind.i64 i3)))]), (mm 51 [(3, (Bk.cells true [(AV.p (PV.int Go.IntKind.i64 i4)), (AV.p (PV.int Go.IntKind.i64 i5)), (AV.p (PV.int Go.IntKind.i64 i6)), (AV.p (PV.list n7 c8))]))])⟩
def Xglidepathref01_SpectrumErr_0a (y : Int) : Ext × Q := (Ext.ret, ⟨(tm 51 [(6, (AV.p (PV.int Go.IntKind.i64 y)))]), (mm 51 [])⟩)
def Iglidepathref01_SpectrumErr_0a (q : Ext × S) : Int := (pP_int1 (pA_p (avT q.2 6)))
def Xglidepathref01_SpectrumErr_0b (y : Nat × List PV × Int × Int × Int × Int × Nat × List PV) : Ext × Q := (Ext.normal, ⟨(tm 51 [(1, (AV.p (PV.list y.1 y.2.1))), (2, (AV.p (PV.int Go.IntKind.i64 y.2.2.1))), (3, (AV.loc 3 0))]), (mm 51 [(3, (Bk.cells true [(AV.p (PV.int Go.IntKind.i64 y.2.2.2.1)), (AV.p (PV.int Go.IntKind.i64 y.2.2.2.2.1)), (AV.p (PV.int Go.IntKind.i64 y.2.2.2.2.2.1)), (AV.p (PV.list y.2.2.2.2.2.2.1 y.2.2.2.2.2.2.2))]))])⟩)
def Iglidepathref01_SpectrumErr_0b (q : Ext × S) : Nat × List PV × Int × Int × Int × Int × Nat × List PV := ((pP_list0 (pA_p (avT q.2 1))), (pP_list1 (pA_p (avT q.2 1))), (pP_int1 (pA_p (avT q.2 2))), (pP_int1 (pA_p (hdA (pB_cells1 (avM q.2 3))))), (pP_int1 (pA_p (hdA (List.tail (pB_cells1 (avM q.2 3)))))), (pP_int1 (pA_p (hdA (List.tail (List.tail (pB_cells1 (avM q.2 3))))))), (pP_list0 (pA_p (hdA (List.tail (List.tail (List.tail (pB_cells1 (avM q.2 3)))))))), (pP_list1 (pA_p (hdA (List.tail (List.tail (List.tail (pB_cells1 (avM q.2 3)))))))))
abbrev Yglidepathref01_SpectrumErr_0 : Type := (Int) ⊕ ((Nat × List PV × Int × Int × Int × Int × Nat × List PV))
def XLglidepathref01_SpectrumErr_0 : XL Yglidepathref01_SpectrumErr_0 := .more Xglidepathref01_SpectrumErr_0a (.one Xglidepathref01_SpectrumErr_0b)
def Iglidepathref01_SpectrumErr_0 (q : Ext × S) : Yglidepathref01_SpectrumErr_0 := bif (cE q.1 == 2) then (Sum.inl (Iglidepathref01_SpectrumErr_0a q)) else (Sum.inr (Iglidepathref01_SpectrumErr_0b q))
theorem XIglidepathref01_SpectrumErr_0a (y : Int) : Iglidepathref01_SpectrumErr_0 (xe (Xglidepathref01_SpectrumErr_0a y)) = (Sum.inl y) := rfl
theorem XIglidepathref01_SpectrumErr_0b (y : Nat × List PV × Int × Int × Int × Int × Nat × List PV) : Iglidepathref01_SpectrumErr_0 (xe (Xglidepathref01_SpectrumErr_0b y)) = (Sum.inr y) := rfl
theorem XIglidepathref01_SpectrumErr_0 (y : Yglidepathref01_SpectrumErr_0) : Iglidepathref01_SpectrumErr_0 (xe (XLglidepathref01_SpectrumErr_0.fn y)) = y := (match y with | .inl y => XIglidepathref01_SpectrumErr_0a y | .inr y => XIglidepathref01_SpectrumErr_0b y)
noncomputable abbrev Lglidepathref01_SpectrumErr_0 : Q → Option Yglidepathref01_SpectrumErr_0 := lpO env a39.body 0 XLglidepathref01_SpectrumErr_0
noncomputable abbrev Rglidepathref01_SpectrumErr_0 : Q → Option (Ext × S) := lpR env a39.body 0
theorem Lglidepathref01_SpectrumErr_0a_of {s : Q} {y : Int} (h : Rglidepathref01_SpectrumErr_0 s = exO (Xglidepathref01_SpectrumErr_0a y)) : Lglidepathref01_SpectrumErr_0 s = some (Sum.inl y) := lpO_of Iglidepathref01_SpectrumErr_0 XIglidepathref01_SpectrumErr_0 (y := (Sum.inl y)) h
theorem Lglidepathref01_SpectrumErr_0b_of {s : Q} {y : Nat × List PV × Int × Int × Int × Int × Nat × List PV} (h : Rglidepathref01_SpectrumErr_0 s = exO (Xglidepathref01_SpectrumErr_0b y)) : Lglidepathref01_SpectrumErr_0 s = some (Sum.inr y) := lpO_of Iglidepathref01_SpectrumErr_0 XIglidepathref01_SpectrumErr_0 (y := (Sum.inr y)) h
def Tglidepathref01_SpectrumErr_2a (n0 : Nat) (c1 : List PV) (i2 : Int) (i3 : Int) (i4 : Int) (i5 : Int) (i6 : Int) (n7 : Nat) (c8 : List PV) : Q := ⟨(tm 51 [(1, (AV.p (PV.list n0 c1))), (2, (AV.p (PV.int Go.IntKind.i64 i2))), (3, (AV.loc 3 0)), (10, (AV.p (PV.int Go.IntKind.i64 i3)))]), (mm 51 [(3, (Bk.cells true [(AV.p (PV.int Go.IntKind.i64 i4)), (AV.p (PV.int Go.IntKind.i64 i5)), (AV.p (PV.int Go.IntKind.i64 i6)), (AV.p (PV.list n7 c8))]))])⟩
def Xglidepathref01_SpectrumErr_2a (y : Int) : Ext × Q := (Ext.ret, ⟨(tm 51 [(6, (AV.p (PV.int Go.IntKind.i64 y)))]), (mm 51 [])⟩)
def Iglidepathref01_SpectrumErr_2a (q : Ext × S) : Int := (pP_int1 (pA_p (avT q.2 6)))
def Xglidepathref01_SpectrumErr_2b (y : Int × Int × Int × Nat × List PV) : Ext × Q := (Ext.normal, ⟨(tm 51 []), (mm 51 [(3, (Bk.cells true [(AV.p (PV.int Go.IntKind.i64 y.1)), (AV.p (PV.int Go.IntKind.i64 y.2.1)), (AV.p (PV.int Go.IntKind.i64 y.2.2.1)), (AV.p (PV.list y.2.2.2.1 y.2.2.2.2))]))])⟩)
def Iglidepathref01_SpectrumErr_2b (q : Ext × S) : Int × Int × Int × Nat × List PV := ((pP_int1 (pA_p (hdA (pB_cells1 (avM q.2 3))))), (pP_int1 (pA_p (hdA (List.tail (pB_cells1 (avM q.2 3)))))), (pP_int1 (pA_p (hdA (List.tail (List.tail (pB_cells1 (avM q.2 3))))))), (pP_list0 (pA_p (hdA (List.tail (List.tail (List.tail (pB_cells1 (avM q.2 3)))))))), (pP_list1 (pA_p (hdA (List.tail (List.tail (List.tail (pB_cells1 (avM q.2 3)))))))))
abbrev Yglidepathref01_SpectrumErr_2 : Type := (Int) ⊕ ((Int × Int × Int × Nat × List PV))
def XLglidepathref01_SpectrumErr_2 : XL Yglidepathref01_SpectrumErr_2 := .more Xglidepathref01_SpectrumErr_2a (.one Xglidepathref01_SpectrumErr_2b)
def Iglidepathref01_SpectrumErr_2 (q : Ext × S) : Yglidepathref01_SpectrumErr_2 := bif (cE q.1 == 2) then (Sum.inl (Iglidepathref01_SpectrumErr_2a q)) else (Sum.inr (Iglidepathref01_SpectrumErr_2b q))
theorem XIglidepathref01_SpectrumErr_2a (y : Int) : Iglidepathref01_SpectrumErr_2 (xe (Xglidepathref01_SpectrumErr_2a y)) = (Sum.inl y) := rfl
theorem XIglidepathref01_SpectrumErr_2b (y : Int × Int × Int × Nat × List PV) : Iglidepathref01_SpectrumErr_2 (xe (Xglidepathref01_SpectrumErr_2b y)) = (Sum.inr y) := rfl
theorem XIglidepathref01_SpectrumErr_2 (y : Yglidepathref01_SpectrumErr_2) : Iglidepathref01_SpectrumErr_2 (xe (XLglidepathref01_SpectrumErr_2.fn y)) = y := (match y with | .inl y => XIglidepathref01_SpectrumErr_2a y | .inr y => XIglidepathref01_SpectrumErr_2b y)
noncomputable abbrev Lglidepathref01_SpectrumErr_2 : Q → Option Yglidepathref01_SpectrumErr_2 := lpO env a39.body 2 XLglidepathref01_SpectrumErr_2
noncomputable abbrev Rglidepathref01_SpectrumErr_2 : Q → Option (Ext × S) := lpR env a39.body 2
theorem Lglidepathref01_SpectrumErr_2a_of {s : Q} {y : Int} (h : Rglidepathref01_SpectrumErr_2 s = exO (Xglidepathref01_SpectrumErr_2a y)) : Lglidepathref01_SpectrumErr_2 s = some (Sum.inl y) := lpO_of Iglidepathref01_SpectrumErr_2 XIglidepathref01_SpectrumErr_2 (y := (Sum.inl y)) h
theorem Lglidepathref01_SpectrumErr_2b_of {s : Q} {y : Int × Int × Int × Nat × List PV} (h : Rglidepathref01_SpectrumErr_2 s = exO (Xglidepathref01_SpectrumErr_2b y)) : Lglidepathref01_SpectrumErr_2 s = some (Sum.inr y) := lpO_of Iglidepathref01_SpectrumErr_2 XIglidepathref01_SpectrumErr_2 (y := (Sum.inr y)) h
theorem Uglidepathref01_SpectrumErr : uniq ((blocksOf a39.body).map (·.1)) = true := by kernel_rfl
def Bglidepathref01_SpectrumErr_0a (F : FnT) (N : Q → Option (Ext × S)) (E : Ext × Q → Option (Ext × S)) (L0 : Q → Option Yglidepathref01_SpectrumErr_0) (L2 : Q → Option Yglidepathref01_SpectrumErr_2) (n0 : Nat) (c1 : List PV) (i2 : Int) (i3 : Int) (i4 : Int) (i5 : Int) (i6 : Int) (n7 : Nat) (c8 : List PV) : Option (Ext × S) :=
  bif (decide (i3 < (n0 : Int))) then
    bif (decide (((0 : Int) ≤ i3) ∧ (i3 < (n0 : Int)))) then
      bindO (Gv.listC (c1[((Int.toNat i3) * 1)]?)) fun x0 =>
      bindO (F 35 (Gv.RSh.one (Gv.CK.int Go.IntKind.i64)) [(Gv.PV.list x0.1 x0.2)]) fun (y1 : (Int)) =>
      bif (y1 != (0 : Int)) then
        E (Xglidepathref01_SpectrumErr_0a y1)
      else N (Tglidepathref01_SpectrumErr_0a n0 c1 i2 (w64 (i3 + (1 : Int))) i4 i5 i6 n7 c8)
    else none
  else E (Xglidepathref01_SpectrumErr_0b (n0, c1, i2, i4, i5, i6, n7, c8))
theorem Bglidepathref01_SpectrumErr_0a_eq (F : FnT) (N : Q → Option (Ext × S)) (E : Ext × Q → Option (Ext × S)) (L0 : Q → Option Yglidepathref01_SpectrumErr_0) (L2 : Q → Option Yglidepathref01_SpectrumErr_2) (n0 : Nat) (c1 : List PV) (i2 : Int) (i3 : Int) (i4 : Int) (i5 : Int) (i6 : Int) (n7 : Nat) (c8 : List PV) : semB (callP F Eglidepathref01_SpectrumErr 20) s39 (loopT [⟨0, Yglidepathref01_SpectrumErr_0, L0, XLglidepathref01_SpectrumErr_0⟩, ⟨2, Yglidepathref01_SpectrumErr_2, L2, XLglidepathref01_SpectrumErr_2⟩]) 400 (blkIn a39.body 0) N E (Tglidepathref01_SpectrumErr_0a n0 c1 i2 i3 i4 i5 i6 n7 c8) = Bglidepathref01_SpectrumErr_0a F N E L0 L2 n0 c1 i2 i3 i4 i5 i6 n7 c8 := by kernel_rfl
theorem Rglidepathref01_SpectrumErr_0a_of  (n0 : Nat) (c1 : List PV) (i2 : Int) (i3 : Int) (i4 : Int) (i5 : Int) (i6 : Int) (n7 : Nat) (c8 : List PV) {r : Ext × S} (h : Bglidepathref01_SpectrumErr_0a (Fn env) Rglidepathref01_SpectrumErr_0 exO Lglidepathref01_SpectrumErr_0 Lglidepathref01_SpectrumErr_2 n0 c1 i2 i3 i4 i5 i6 n7 c8 = some r) : Rglidepathref01_SpectrumErr_0 (Tglidepathref01_SpectrumErr_0a n0 c1 i2 i3 i4 i5 i6 n7 c8) = some r :=
  lp_of Eglidepathref01_SpectrumErr_ok (by kernel_rfl) (lo_cons (lpO_ok Uglidepathref01_SpectrumErr) (lo_cons (lpO_ok Uglidepathref01_SpectrumErr) lo_nil)) (by kernel_rfl) ((Bglidepathref01_SpectrumErr_0a_eq _ _ _ _ _ _ _ _ _ _ _ _ _ _).trans h)
def Bglidepathref01_SpectrumErr_2a (F : FnT) (N : Q → Option (Ext × S)) (E : Ext × Q → Option (Ext × S)) (L0 : Q → Option Yglidepathref01_SpectrumErr_0) (L2 : Q → Option Yglidepathref01_SpectrumErr_2) (n0 : Nat) (c1 : List PV) (i2 : Int) (i3 : Int) (i4 : Int) (i5 : Int) (i6 : Int) (n7 : Nat) (c8 : List PV) : Option (Ext × S) :=
  bif (decide (i3 < (n0 : Int))) then
    bif (decide (((0 : Int) ≤ i3) ∧ (i3 < (n0 : Int)))) then
      bindO (Gv.listC (c1[((Int.toNat i3) * 1)]?)) fun x0 =>
      bindO (F 31 (Gv.RSh.one (Gv.CK.int Go.IntKind.i64)) [(Gv.PV.agg [(Gv.PV.int Go.IntKind.i64 i4), (Gv.PV.int Go.IntKind.i64 i5), (Gv.PV.int Go.IntKind.i64 i6), (Gv.PV.list n7 c8)]), (Gv.PV.list x0.1 x0.2), (Gv.PV.int Go.IntKind.i64 i2)]) fun (y1 : (Int)) =>
      bif (y1 != (0 : Int)) then
        E (Xglidepathref01_SpectrumErr_2a y1)
      else N (Tglidepathref01_SpectrumErr_2a n0 c1 i2 (w64 (i3 + (1 : Int))) i4 i5 i6 n7 c8)
    else none
  else E (Xglidepathref01_SpectrumErr_2b (i4, i5, i6, n7, c8))
theorem Bglidepathref01_SpectrumErr_2a_eq (F : FnT) (N : Q → Option (Ext × S)) (E : Ext × Q → Option (Ext × S)) (L0 : Q → Option Yglidepathref01_SpectrumErr_0) (L2 : Q → Option Yglidepathref01_SpectrumErr_2) (n0 : Nat) (c1 : List PV) (i2 : Int) (i3 : Int) (i4 : Int) (i5 : Int) (i6 : Int) (n7 : Nat) (c8 : List PV) : semB (callP F Eglidepathref01_SpectrumErr 20) s39 (loopT [⟨0, Yglidepathref01_SpectrumErr_0, L0, XLglidepathref01_SpectrumErr_0⟩, ⟨2, Yglidepathref01_SpectrumErr_2, L2, XLglidepathref01_SpectrumErr_2⟩]) 400 (blkIn a39.body 2) N E (Tglidepathref01_SpectrumErr_2a n0 c1 i2 i3 i4 i5 i6 n7 c8) = Bglidepathref01_SpectrumErr_2a F N E L0 L2 n0 c1 i2 i3 i4 i5 i6 n7 c8 := by kernel_rfl
theorem Rglidepathref01_SpectrumErr_2a_of  (n0 : Nat) (c1 : List PV) (i2 : Int) (i3 : Int) (i4 : Int) (i5 : Int) (i6 : Int) (n7 : Nat) (c8 : List PV) {r : Ext × S} (h : Bglidepathref01_SpectrumErr_2a (Fn env) Rglidepathref01_SpectrumErr_2 exO Lglidepathref01_SpectrumErr_0 Lglidepathref01_SpectrumErr_2 n0 c1 i2 i3 i4 i5 i6 n7 c8 = some r) : Rglidepathref01_SpectrumErr_2 (Tglidepathref01_SpectrumErr_2a n0 c1 i2 i3 i4 i5 i6 n7 c8) = some r :=
  lp_of Eglidepathref01_SpectrumErr_ok (by kernel_rfl) (lo_cons (lpO_ok Uglidepathref01_SpectrumErr) (lo_cons (lpO_ok Uglidepathref01_SpectrumErr) lo_nil)) (by kernel_rfl) ((Bglidepathref01_SpectrumErr_2a_eq _ _ _ _ _ _ _ _ _ _ _ _ _ _).trans h)
def tglidepathref01_SpectrumErr (F : FnT) (L0 : Q → Option Yglidepathref01_SpectrumErr_0) (L2 : Q → Option Yglidepathref01_SpectrumErr_2) (p0_0 : Int) (p0_1 : Int) (p0_2 : Int) (p0_3n : Nat) (p0_3c : List PV) (p1n : Nat) (p1c : List PV) (p2 : Int) : Option (Int) :=
  bif (decide ((p1n : Int) > (12 : Int))) then
    some (8 : Int)
  else bindO (L0 (Tglidepathref01_SpectrumErr_0a p1n p1c p2 (0 : Int) p0_0 p0_1 p0_2 p0_3n p0_3c)) fun z =>
  Sum.elim (fun y0 =>
    some y0) (fun y1 =>
    bindO (F 30 (Gv.RSh.one (Gv.CK.int Go.IntKind.i64)) [(Gv.PV.agg [(Gv.PV.int Go.IntKind.i64 y1.2.2.2.1), (Gv.PV.int Go.IntKind.i64 y1.2.2.2.2.1), (Gv.PV.int Go.IntKind.i64 y1.2.2.2.2.2.1), (Gv.PV.list y1.2.2.2.2.2.2.1 y1.2.2.2.2.2.2.2)]), (Gv.PV.int Go.IntKind.i64 y1.2.2.1)]) fun (y2 : (Int)) =>
    bif (y2 != (0 : Int)) then
      some y2
    else bindO (L2 (Tglidepathref01_SpectrumErr_2a y1.1 y1.2.1 y1.2.2.1 (0 : Int) y1.2.2.2.1 y1.2.2.2.2.1 y1.2.2.2.2.2.1 y1.2.2.2.2.2.2.1 y1.2.2.2.2.2.2.2)) fun z =>
    Sum.elim (fun y3 =>
      some y3) (fun y4 =>
      some (0 : Int)) z) z
theorem tglidepathref01_SpectrumErr_eq (F : FnT) (L0 : Q → Option Yglidepathref01_SpectrumErr_0) (L2 : Q → Option Yglidepathref01_SpectrumErr_2) (p0_0 : Int) (p0_1 : Int) (p0_2 : Int) (p0_3n : Nat) (p0_3c : List PV) (p1n : Nat) (p1c : List PV) (p2 : Int) : semF (callP F Eglidepathref01_SpectrumErr 20) s39 (loopT [⟨0, Yglidepathref01_SpectrumErr_0, L0, XLglidepathref01_SpectrumErr_0⟩, ⟨2, Yglidepathref01_SpectrumErr_2, L2, XLglidepathref01_SpectrumErr_2⟩]) 400 a39 [PV.agg [PV.int Go.IntKind.i64 p0_0, PV.int Go.IntKind.i64 p0_1, PV.int Go.IntKind.i64 p0_2, PV.list p0_3n p0_3c], PV.list p1n p1c, PV.int Go.IntKind.i64 p2] (fun rv => decR (Gv.RSh.one (Gv.CK.int Go.IntKind.i64)) rv.pv) = tglidepathref01_SpectrumErr F L0 L2 p0_0 p0_1 p0_2 p0_3n p0_3c p1n p1c p2 := by kernel_rfl
noncomputable abbrev Fglidepathref01_SpectrumErr (args : List PV) := Fn env 39 (Gv.RSh.one (Gv.CK.int Go.IntKind.i64)) args
theorem Fglidepathref01_SpectrumErr_of  (p0_0 : Int) (p0_1 : Int) (p0_2 : Int) (p0_3n : Nat) (p0_3c : List PV) (p1n : Nat) (p1c : List PV) (p2 : Int) {res : (Int)} (h : tglidepathref01_SpectrumErr (Fn env) Lglidepathref01_SpectrumErr_0 Lglidepathref01_SpectrumErr_2 p0_0 p0_1 p0_2 p0_3n p0_3c p1n p1c p2 = some res) : Fglidepathref01_SpectrumErr [PV.agg [PV.int Go.IntKind.i64 p0_0, PV.int Go.IntKind.i64 p0_1, PV.int Go.IntKind.i64 p0_2, PV.list p0_3n p0_3c], PV.list p1n p1c, PV.int Go.IntKind.i64 p2] = some res :=
  fn_of Eglidepathref01_SpectrumErr_ok rfl rfl (lo_cons (lpO_ok Uglidepathref01_SpectrumErr) (lo_cons (lpO_ok Uglidepathref01_SpectrumErr) lo_nil)) ((tglidepathref01_SpectrumErr_eq _ _ _ _ _ _ _ _ _ _ _).trans h)

/-! ### glidepathref01_Spectrum -/

def Eglidepathref01_Spectrum : List Entry := [.out 33 (Gv.RSh.one Gv.CK.list), .out 44 (Gv.RSh.agg [(Gv.CK.int Go.IntKind.i64), (Gv.CK.int Go.IntKind.i64), (Gv.CK.int Go.IntKind.i64), (Gv.CK.int Go.IntKind.i64)])]
theorem Eglidepathref01_Spectrum_ok : ∀ e ∈ Eglidepathref01_Spectrum, EntOK env e := (ent_out (ent_out ent_nil))
def Tglidepathref01_Spectrum_0a (n0 : Nat) (c1 : List PV) (i2 : Int) (i3 : Int) (i4 : Int) (i5 : Int) (i6 : Int) (n7 : Nat) (c8 : List PV) (i9 : Int) (i10 : Int) (i11 : Int) (i12 : Int) : Q := ⟨(tm 39 [(1, (AV.p (PV.list n0 c1))), (2, (AV.p (PV.int Go.IntKind.i64 i2))), (3, (AV.loc 3 0)), (6, (AV.loc 6 0)), (7, (AV.loc 7 0)), (8, (AV.p (PV.int Go.IntKind.i64 i3)))]), (mm 39 [(3, (Bk.cells true [(AV.p (PV.int Go.IntKind.i64 i4)), (AV.p (PV.int Go.IntKind.i64 i5)), (AV.p (PV.int Go.IntKind.i64 i6)), (AV.p (PV.list n7 c8))])), (6, (Bk.pcs true [(PV.int Go.IntKind.i64 (0 : Int)), (PV.int Go.IntKind.i64 (0 : Int)), (PV.int Go.IntKind.i64 (0 : Int)), (PV.int Go.IntKind.i64 (0 : Int))])), (7, (Bk.pcs true [(PV.int Go.IntKind.i64 i9), (PV.int Go.IntKind.i64 i10), (PV.int Go.IntKind.i64 i11), (PV.int Go.IntKind.i64 i12)]))])⟩
def Xglidepathref01_Spectrum_0a (y : Int × Int × Int × Nat × List PV × Int × Int × Int × Int) : Ext × Q := (Ext.normal, ⟨(tm 39 [(6, (AV.loc 6 0)), (7, (AV.loc 7 0))]), (mm 39 [(3, (Bk.cells true [(AV.p (PV.int Go.IntKind.i64 y.1)), (AV.p (PV.int Go.IntKind.i64 y.2.1)), (AV.p (PV.int Go.IntKind.i64 y.2.2.1)), (AV.p (PV.list y.2.2.2.1 y.2.2.2.2.1))])), (6, (Bk.pcs true [(PV.int Go.IntKind.i64 (0 : Int)), (PV.int Go.IntKind.i64 (0 : Int)), (PV.int Go.IntKind.i64 (0 : Int)), (PV.int Go.IntKind.i64 (0 : Int))])), (7, (Bk.pcs true [(PV.int Go.IntKind.i64 y.2.2.2.2.2.1), (PV.int Go.IntKind.i64 y.2.2.2.2.2.2.1), (PV.int Go.IntKind.i64 y.2.2.2.2.2.2.2.1), (PV.int Go.IntKind.i64 y.2.2.2.2.2.2.2.2)]))])⟩)
def Iglidepathref01_Spectrum_0a (q : Ext × S) : Int × Int × Int × Nat × List PV × Int × Int × Int × Int := ((pP_int1 (pA_p (hdA (pB_cells1 (avM q.2 3))))), (pP_int1 (pA_p (hdA (List.tail (pB_cells1 (avM q.2 3)))))), (pP_int1 (pA_p (hdA (List.tail (List.tail (pB_cells1 (avM q.2 3))))))), (pP_list0 (pA_p (hdA (List.tail (List.tail (List.tail (pB_cells1 (avM q.2 3)))))))), (pP_list1 (pA_p (hdA (List.tail (List.tail (List.tail (pB_cells1 (avM q.2 3)))))))), (pP_int1 (hdP (pB_pcs1 (avM q.2 7)))), (pP_int1 (hdP (List.tail (pB_pcs1 (avM q.2 7))))), (pP_int1 (hdP (List.tail (List.tail (pB_pcs1 (avM q.2 7)))))), (pP_int1 (hdP (List.tail (List.tail (List.tail (pB_pcs1 (avM q.2 7))))))))
abbrev Yglidepathref01_Spectrum_0 : Type := Int × Int × Int × Nat × List PV × Int × Int × Int × Int
def XLglidepathref01_Spectrum_0 : XL Yglidepathref01_Spectrum_0 := .one Xglidepathref01_Spectrum_0a
def Iglidepathref01_Spectrum_0 (q : Ext × S) : Yglidepathref01_Spectrum_0 := (Iglidepathref01_Spectrum_0a q)
theorem XIglidepathref01_Spectrum_0a (y : Int × Int × Int × Nat × List PV × Int × Int × Int × Int) : Iglidepathref01_Spectrum_0 (xe (Xglidepathref01_Spectrum_0a y)) = y := rfl
theorem XIglidepathref01_Spectrum_0 (y : Yglidepathref01_Spectrum_0) : Iglidepathref01_Spectrum_0 (xe (XLglidepathref01_Spectrum_0.fn y)) = y := XIglidepathref01_Spectrum_0a y
noncomputable abbrev Lglidepathref01_Spectrum_0 : Q → Option Yglidepathref01_Spectrum_0 := lpO env a40.body 0 XLglidepathref01_Spectrum_0
noncomputable abbrev Rglidepathref01_Spectrum_0 : Q → Option (Ext × S) := lpR env a40.body 0
theorem Lglidepathref01_Spectrum_0a_of {s : Q} {y : Int × Int × Int × Nat × List PV × Int × Int × Int × Int} (h : Rglidepathref01_Spectrum_0 s = exO (Xglidepathref01_Spectrum_0a y)) : Lglidepathref01_Spectrum_0 s = some y := lpO_of Iglidepathref01_Spectrum_0 XIglidepathref01_Spectrum_0 (y := y) h
theorem Uglidepathref01_Spectrum : uniq ((blocksOf a40.body).map (·.1)) = true := by kernel_rfl
def Bglidepathref01_Spectrum_0a (F : FnT) (N : Q → Option (Ext × S)) (E : Ext × Q → Option (Ext × S)) (L0 : Q → Option Yglidepathref01_Spectrum_0) (n0 : Nat) (c1 : List PV) (i2 : Int) (i3 : Int) (i4 : Int) (i5 : Int) (i6 : Int) (n7 : Nat) (c8 : List PV) (i9 : Int) (i10 : Int) (i11 : Int) (i12 : Int) : Option (Ext × S) :=
  bif (decide (i3 < (n0 : Int))) then
    bif (decide (((0 : Int) ≤ i3) ∧ (i3 < (n0 : Int)))) then
      bindO (Gv.listC (c1[((Int.toNat i3) * 1)]?)) fun x0 =>
      bindO (F 33 (Gv.RSh.one Gv.CK.list) [(Gv.PV.agg [(Gv.PV.int Go.IntKind.i64 i4), (Gv.PV.int Go.IntKind.i64 i5), (Gv.PV.int Go.IntKind.i64 i6), (Gv.PV.list n7 c8)]), (Gv.PV.list x0.1 x0.2), (Gv.PV.int Go.IntKind.i64 i2), (Gv.PV.int Go.IntKind.i64 (0 : Int))]) fun (y1 : ((Nat) × (List PV))) =>
      bindO (F 44 (Gv.RSh.agg [(Gv.CK.int Go.IntKind.i64), (Gv.CK.int Go.IntKind.i64), (Gv.CK.int Go.IntKind.i64), (Gv.CK.int Go.IntKind.i64)]) [(Gv.PV.list y1.1 y1.2)]) fun (y2 : ((Int) × ((Int) × ((Int) × (Int))))) =>
      N (Tglidepathref01_Spectrum_0a n0 c1 i2 (w64 (i3 + (1 : Int))) i4 i5 i6 n7 c8 (w64 (i9 + y2.1)) (w64 (i10 + y2.2.1)) (w64 (i11 + y2.2.2.1)) (w64 (i12 + y2.2.2.2)))
    else none
  else E (Xglidepathref01_Spectrum_0a (i4, i5, i6, n7, c8, i9, i10, i11, i12))
theorem Bglidepathref01_Spectrum_0a_eq (F : FnT) (N : Q → Option (Ext × S)) (E : Ext × Q → Option (Ext × S)) (L0 : Q → Option Yglidepathref01_Spectrum_0) (n0 : Nat) (c1 : List PV) (i2 : Int) (i3 : Int) (i4 : Int) (i5 : Int) (i6 : Int) (n7 : Nat) (c8 : List PV) (i9 : Int) (i10 : Int) (i11 : Int) (i12 : Int) : semB (callP F Eglidepathref01_Spectrum 20) s40 (loopT [⟨0, Yglidepathref01_Spectrum_0, L0, XLglidepathref01_Spectrum_0⟩]) 400 (blkIn a40.body 0) N E (Tglidepathref01_Spectrum_0a n0 c1 i2 i3 i4 i5 i6 n7 c8 i9 i10 i11 i12) = Bglidepathref01_Spectrum_0a F N E L0 n0 c1 i2 i3 i4 i5 i6 n7 c8 i9 i10 i11 i12 := by kernel_rfl
theorem Rglidepathref01_Spectrum_0a_of  (n0 : Nat) (c1 : List PV) (i2 : Int) (i3 : Int) (i4 : Int) (i5 : Int) (i6 : Int) (n7 : Nat) (c8 : List PV) (i9 : Int) (i10 : Int) (i11 : Int) (i12 : Int) {r : Ext × S} (h : Bglidepathref01_Spectrum_0a (Fn env) Rglidepathref01_Spectrum_0 exO Lglidepathref01_Spectrum_0 n0 c1 i2 i3 i4 i5 i6 n7 c8 i9 i10 i11 i12 = some r) : Rglidepathref01_Spectrum_0 (Tglidepathref01_Spectrum_0a n0 c1 i2 i3 i4 i5 i6 n7 c8 i9 i10 i11 i12) = some r :=
  lp_of Eglidepathref01_Spectrum_ok (by kernel_rfl) (lo_cons (lpO_ok Uglidepathref01_Spectrum) lo_nil) (by kernel_rfl) ((Bglidepathref01_Spectrum_0a_eq _ _ _ _ _ _ _ _ _ _ _ _ _ _ _ _ _).trans h)
def tglidepathref01_Spectrum (F : FnT) (L0 : Q → Option Yglidepathref01_Spectrum_0) (p0_0 : Int) (p0_1 : Int) (p0_2 : Int) (p0_3n : Nat) (p0_3c : List PV) (p1n : Nat) (p1c : List PV) (p2 : Int) : Option ((Int) × ((Int) × ((Int) × (Int)))) :=
  bindO (L0 (Tglidepathref01_Spectrum_0a p1n p1c p2 (0 : Int) p0_0 p0_1 p0_2 p0_3n p0_3c (0 : Int) (0 : Int) (0 : Int) (0 : Int))) fun y0 =>
  some (y0.2.2.2.2.2.1, (y0.2.2.2.2.2.2.1, (y0.2.2.2.2.2.2.2.1, y0.2.2.2.2.2.2.2.2)))
theorem tglidepathref01_Spectrum_eq (F : FnT) (L0 : Q → Option Yglidepathref01_Spectrum_0) (p0_0 : Int) (p0_1 : Int) (p0_2 : Int) (p0_3n : Nat) (p0_3c : List PV) (p1n : Nat) (p1c : List PV) (p2 : Int) : semF (callP F Eglidepathref01_Spectrum 20) s40 (loopT [⟨0, Yglidepathref01_Spectrum_0, L0, XLglidepathref01_Spectrum_0⟩]) 400 a40 [PV.agg [PV.int Go.IntKind.i64 p0_0, PV.int Go.IntKind.i64 p0_1, PV.int Go.IntKind.i64 p0_2, PV.list p0_3n p0_3c], PV.list p1n p1c, PV.int Go.IntKind.i64 p2] (fun rv => decR (Gv.RSh.agg [(Gv.CK.int Go.IntKind.i64), (Gv.CK.int Go.IntKind.i64), (Gv.CK.int Go.IntKind.i64), (Gv.CK.int Go.IntKind.i64)]) rv.pv) = tglidepathref01_Spectrum F L0 p0_0 p0_1 p0_2 p0_3n p0_3c p1n p1c p2 := by kernel_rfl
noncomputable abbrev Fglidepathref01_Spectrum (args : List PV) := Fn env 40 (Gv.RSh.agg [(Gv.CK.int Go.IntKind.i64), (Gv.CK.int Go.IntKind.i64), (Gv.CK.int Go.IntKind.i64), (Gv.CK.int Go.IntKind.i64)]) args
theorem Fglidepathref01_Spectrum_of  (p0_0 : Int) (p0_1 : Int) (p0_2 : Int) (p0_3n : Nat) (p0_3c : List PV) (p1n : Nat) (p1c : List PV) (p2 : Int) {res : ((Int) × ((Int) × ((Int) × (Int))))} (h : tglidepathref01_Spectrum (Fn env) Lglidepathref01_Spectrum_0 p0_0 p0_1 p0_2 p0_3n p0_3c p1n p1c p2 = some res) : Fglidepathref01_Spectrum [PV.agg [PV.int Go.IntKind.i64 p0_0, PV.int Go.IntKind.i64 p0_1, PV.int Go.IntKind.i64 p0_2, PV.list p0_3n p0_3c], PV.list p1n p1c, PV.int Go.IntKind.i64 p2] = some res :=
  fn_of Eglidepathref01_Spectrum_ok rfl rfl (lo_cons (lpO_ok Uglidepathref01_Spectrum) lo_nil) ((tglidepathref01_Spectrum_eq _ _ _ _ _ _ _ _ _ _).trans h)

end Gv
