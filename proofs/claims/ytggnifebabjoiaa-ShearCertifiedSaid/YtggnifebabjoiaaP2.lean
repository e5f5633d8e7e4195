/- What the functions do, round by round: P2. -/
import Derived.Test.YtggnifebabjoiaaGvEnv
namespace Gv
open Go
set_option maxRecDepth 100000
def Etimes : List Entry := []
theorem Etimes_ok : ∀ e ∈ Etimes, EntOK env e := ent_nil
def ttimes (_F : FnT) (p0 p1_0 p1_1 : Int) : Option ((Int) × (Int)) :=
  some ((if ((w64 (p0 * p1_1)) < (w64 (p0 * p1_0))) then (w64 (p0 * p1_1)) else (w64 (p0 * p1_0))), (if ((w64 (p0 * p1_1)) > (w64 (p0 * p1_0))) then (w64 (p0 * p1_1)) else (w64 (p0 * p1_0))))
theorem ttimes_eq (F : FnT) (p0 p1_0 p1_1 : Int) : semF (callP F Etimes 20) s75 (loopT []) 400 a75 [PV.int .i64 p0, PV.agg [PV.int .i64 p1_0, PV.int .i64 p1_1]] (fun rv => decR (RSh.agg [(CK.int .i64), (CK.int .i64)]) rv.pv) = ttimes F p0 p1_0 p1_1 := by kernel_rfl
noncomputable abbrev Ftimes (args : List PV) := Fn env 75 (RSh.agg [(CK.int .i64), (CK.int .i64)]) args
theorem Ftimes_of  (p0 p1_0 p1_1 : Int) {res : ((Int) × (Int))} (h : ttimes (Fn env) p0 p1_0 p1_1 = some res) : Ftimes [PV.int .i64 p0, PV.agg [PV.int .i64 p1_0, PV.int .i64 p1_1]] = some res :=
  fn_of Etimes_ok rfl rfl lo_nil ((ttimes_eq _ _ _ _).trans h)
def Echg : List Entry := []
theorem Echg_ok : ∀ e ∈ Echg, EntOK env e := ent_nil
def tchg (_F : FnT) (_p0_0 p0_1 p0_2 _p1_0 p1_1 p1_2 : Int) : Option ((Int) × (Int)) :=
  some ((w64 (p1_1 - p0_2)), (w64 (p1_2 - p0_1)))
theorem tchg_eq (F : FnT) (p0_0 p0_1 p0_2 p1_0 p1_1 p1_2 : Int) : semF (callP F Echg 20) s91 (loopT []) 400 a91 [PV.agg [PV.int .i64 p0_0, PV.int .i64 p0_1, PV.int .i64 p0_2], PV.agg [PV.int .i64 p1_0, PV.int .i64 p1_1, PV.int .i64 p1_2]] (fun rv => decR (RSh.agg [(CK.int .i64), (CK.int .i64)]) rv.pv) = tchg F p0_0 p0_1 p0_2 p1_0 p1_1 p1_2 := by kernel_rfl
noncomputable abbrev Fchg (args : List PV) := Fn env 91 (RSh.agg [(CK.int .i64), (CK.int .i64)]) args
theorem Fchg_of  (p0_0 p0_1 p0_2 p1_0 p1_1 p1_2 : Int) {res : ((Int) × (Int))} (h : tchg (Fn env) p0_0 p0_1 p0_2 p1_0 p1_1 p1_2 = some res) : Fchg [PV.agg [PV.int .i64 p0_0, PV.int .i64 p0_1, PV.int .i64 p0_2], PV.agg [PV.int .i64 p1_0, PV.int .i64 p1_1, PV.int .i64 p1_2]] = some res :=
  fn_of Echg_ok rfl rfl lo_nil ((tchg_eq _ _ _ _ _ _ _).trans h)
def Eloss : List Entry := [.out 91 (RSh.agg [(CK.int .i64), (CK.int .i64)]), .out 75 (RSh.agg [(CK.int .i64), (CK.int .i64)])]
theorem Eloss_ok : ∀ e ∈ Eloss, EntOK env e := (ent_out (ent_out ent_nil))
def tloss (F : FnT) (p0_0 p0_1 p0_2 p1_0 p1_1 p1_2 : Int) : Option ((Int) × (Int)) :=
  bindO (F 91 (RSh.agg [(CK.int .i64), (CK.int .i64)]) [(PV.agg [(PV.int .i64 p0_0), (PV.int .i64 p0_1), (PV.int .i64 p0_2)]), (PV.agg [(PV.int .i64 p1_0), (PV.int .i64 p1_1), (PV.int .i64 p1_2)])]) fun (y0 : ((Int) × (Int))) =>
  bindO (F 75 (RSh.agg [(CK.int .i64), (CK.int .i64)]) [(PV.int .i64 (-1 : Int)), (PV.agg [(PV.int .i64 y0.1), (PV.int .i64 y0.2)])]) fun (y1 : ((Int) × (Int))) =>
  some (y1.1, y1.2)
theorem tloss_eq (F : FnT) (p0_0 p0_1 p0_2 p1_0 p1_1 p1_2 : Int) : semF (callP F Eloss 20) s88 (loopT []) 400 a88 [PV.agg [PV.int .i64 p0_0, PV.int .i64 p0_1, PV.int .i64 p0_2], PV.agg [PV.int .i64 p1_0, PV.int .i64 p1_1, PV.int .i64 p1_2]] (fun rv => decR (RSh.agg [(CK.int .i64), (CK.int .i64)]) rv.pv) = tloss F p0_0 p0_1 p0_2 p1_0 p1_1 p1_2 := by kernel_rfl
noncomputable abbrev Floss (args : List PV) := Fn env 88 (RSh.agg [(CK.int .i64), (CK.int .i64)]) args
theorem Floss_of  (p0_0 p0_1 p0_2 p1_0 p1_1 p1_2 : Int) {res : ((Int) × (Int))} (h : tloss (Fn env) p0_0 p0_1 p0_2 p1_0 p1_1 p1_2 = some res) : Floss [PV.agg [PV.int .i64 p0_0, PV.int .i64 p0_1, PV.int .i64 p0_2], PV.agg [PV.int .i64 p1_0, PV.int .i64 p1_1, PV.int .i64 p1_2]] = some res :=
  fn_of Eloss_ok rfl rfl lo_nil ((tloss_eq _ _ _ _ _ _ _).trans h)
def Elowr : List Entry := []
theorem Elowr_ok : ∀ e ∈ Elowr, EntOK env e := ent_nil
def tlowr (_F : FnT) (p0_0 _p0_1 : Int) : Option (Int) :=
  some p0_0
theorem tlowr_eq (F : FnT) (p0_0 p0_1 : Int) : semF (callP F Elowr 20) s90 (loopT []) 400 a90 [PV.agg [PV.int .i64 p0_0, PV.int .i64 p0_1]] (fun rv => decR (RSh.one (CK.int .i64)) rv.pv) = tlowr F p0_0 p0_1 := by kernel_rfl
noncomputable abbrev Flowr (args : List PV) := Fn env 90 (RSh.one (CK.int .i64)) args
theorem Flowr_of  (p0_0 p0_1 : Int) {res : (Int)} (h : tlowr (Fn env) p0_0 p0_1 = some res) : Flowr [PV.agg [PV.int .i64 p0_0, PV.int .i64 p0_1]] = some res :=
  fn_of Elowr_ok rfl rfl lo_nil ((tlowr_eq _ _ _).trans h)
def Euppr : List Entry := []
theorem Euppr_ok : ∀ e ∈ Euppr, EntOK env e := ent_nil
def tuppr (_F : FnT) (_p0_0 p0_1 : Int) : Option (Int) :=
  some p0_1
theorem tuppr_eq (F : FnT) (p0_0 p0_1 : Int) : semF (callP F Euppr 20) s92 (loopT []) 400 a92 [PV.agg [PV.int .i64 p0_0, PV.int .i64 p0_1]] (fun rv => decR (RSh.one (CK.int .i64)) rv.pv) = tuppr F p0_0 p0_1 := by kernel_rfl
noncomputable abbrev Fuppr (args : List PV) := Fn env 92 (RSh.one (CK.int .i64)) args
theorem Fuppr_of  (p0_0 p0_1 : Int) {res : (Int)} (h : tuppr (Fn env) p0_0 p0_1 = some res) : Fuppr [PV.agg [PV.int .i64 p0_0, PV.int .i64 p0_1]] = some res :=
  fn_of Euppr_ok rfl rfl lo_nil ((tuppr_eq _ _ _).trans h)
def Epw1 : List Entry := []
theorem Epw1_ok : ∀ e ∈ Epw1, EntOK env e := ent_nil
def Tpw1_0a (n0 : Nat) (c1 : List PV) (i2 i3 i4 : Int) (c5 : List (Option Nat)) (n6 n7 : Nat) (c8 : List PV) : Q := ⟨(tm 40 [(0, AV.yv), (1, (AV.p (PV.imm [(PV.list n0 c1)] 0))), (2, (AV.p (PV.imm [(PV.int .i64 i2)] 0))), (7, (AV.p (PV.int .i64 i3))), (8, (AV.p (PV.int .i64 i4)))]), (mm 40 [(0, (Bk.log c5 n6 n7 c8))])⟩
def Xpw1_0a (y : List (Option Nat) × Nat × Nat × List PV) : Ext × Q := (Ext.normal, ⟨(tm 40 []), (mm 40 [(0, (Bk.log y.1 y.2.1 y.2.2.1 y.2.2.2))])⟩)
def Ipw1_0a (q : Ext × S) : List (Option Nat) × Nat × Nat × List PV := ((pB_log0 (avM q.2 0)), (pB_log1 (avM q.2 0)), (pB_log2 (avM q.2 0)), (pB_log3 (avM q.2 0)))
def Xpw1_0b (y : List (Option Nat) × Nat × Nat × List PV) : Ext × Q := (Ext.ret, ⟨(tm 40 []), (mm 40 [(0, (Bk.log y.1 y.2.1 y.2.2.1 y.2.2.2))])⟩)
def Ipw1_0b (q : Ext × S) : List (Option Nat) × Nat × Nat × List PV := ((pB_log0 (avM q.2 0)), (pB_log1 (avM q.2 0)), (pB_log2 (avM q.2 0)), (pB_log3 (avM q.2 0)))
abbrev Ypw1_0 : Type := (List (Option Nat) × Nat × Nat × List PV) ⊕ ((List (Option Nat) × Nat × Nat × List PV))
def XLpw1_0 : XL Ypw1_0 := .more Xpw1_0a (.one Xpw1_0b)
def Ipw1_0 (q : Ext × S) : Ypw1_0 := bif (cE q.1 == 0) then (Sum.inl (Ipw1_0a q)) else (Sum.inr (Ipw1_0b q))
theorem XIpw1_0a (y : List (Option Nat) × Nat × Nat × List PV) : Ipw1_0 (xe (Xpw1_0a y)) = (Sum.inl y) := by kernel_rfl
theorem XIpw1_0b (y : List (Option Nat) × Nat × Nat × List PV) : Ipw1_0 (xe (Xpw1_0b y)) = (Sum.inr y) := by kernel_rfl
theorem XIpw1_0 (y : Ypw1_0) : Ipw1_0 (xe (XLpw1_0.fn y)) = y := (match y with | .inl y => XIpw1_0a y | .inr y => XIpw1_0b y)
noncomputable abbrev Lpw1_0 : Q → Option Ypw1_0 := lpO env a123.body 0 XLpw1_0
noncomputable abbrev Rpw1_0 : Q → Option (Ext × S) := lpR env a123.body 0
theorem Lpw1_0a_of {s : Q} {y : List (Option Nat) × Nat × Nat × List PV} (h : Rpw1_0 s = exO (Xpw1_0a y)) : Lpw1_0 s = some (Sum.inl y) := lpO_of Ipw1_0 XIpw1_0 (y := (Sum.inl y)) h
theorem Lpw1_0b_of {s : Q} {y : List (Option Nat) × Nat × Nat × List PV} (h : Rpw1_0 s = exO (Xpw1_0b y)) : Lpw1_0 s = some (Sum.inr y) := lpO_of Ipw1_0 XIpw1_0 (y := (Sum.inr y)) h
def Tpw1_2a (n0 : Nat) (c1 : List PV) (i2 i3 i4 i5 i6 : Int) (c7 : List (Option Nat)) (n8 n9 : Nat) (c10 : List PV) : Q := ⟨(tm 40 [(0, AV.yv), (1, (AV.p (PV.imm [(PV.list n0 c1)] 0))), (2, (AV.p (PV.imm [(PV.int .i64 i2)] 0))), (4, (AV.p (PV.int .i64 i3))), (5, (AV.p (PV.int .i64 i4))), (7, (AV.p (PV.int .i64 i5))), (8, (AV.p (PV.int .i64 i6)))]), (mm 40 [(0, (Bk.log c7 n8 n9 c10))])⟩
def Xpw1_2a (y : List (Option Nat) × Nat × Nat × List PV) : Ext × Q := (Ext.ret, ⟨(tm 40 []), (mm 40 [(0, (Bk.log y.1 y.2.1 y.2.2.1 y.2.2.2))])⟩)
def Ipw1_2a (q : Ext × S) : List (Option Nat) × Nat × Nat × List PV := ((pB_log0 (avM q.2 0)), (pB_log1 (avM q.2 0)), (pB_log2 (avM q.2 0)), (pB_log3 (avM q.2 0)))
def Xpw1_2b (y : Nat × List PV × Int × Int × Int × List (Option Nat) × Nat × Nat × List PV) : Ext × Q := (Ext.normal, ⟨(tm 40 [(0, AV.yv), (1, (AV.p (PV.imm [(PV.list y.1 y.2.1)] 0))), (2, (AV.p (PV.imm [(PV.int .i64 y.2.2.1)] 0))), (7, (AV.p (PV.int .i64 y.2.2.2.1))), (8, (AV.p (PV.int .i64 y.2.2.2.2.1)))]), (mm 40 [(0, (Bk.log y.2.2.2.2.2.1 y.2.2.2.2.2.2.1 y.2.2.2.2.2.2.2.1 y.2.2.2.2.2.2.2.2))])⟩)
def Ipw1_2b (q : Ext × S) : Nat × List PV × Int × Int × Int × List (Option Nat) × Nat × Nat × List PV := ((pP_list0 (hdP (pP_imm0 (pA_p (avT q.2 1))))), (pP_list1 (hdP (pP_imm0 (pA_p (avT q.2 1))))), (pP_int1 (hdP (pP_imm0 (pA_p (avT q.2 2))))), (pP_int1 (pA_p (avT q.2 7))), (pP_int1 (pA_p (avT q.2 8))), (pB_log0 (avM q.2 0)), (pB_log1 (avM q.2 0)), (pB_log2 (avM q.2 0)), (pB_log3 (avM q.2 0)))
abbrev Ypw1_2 : Type := (List (Option Nat) × Nat × Nat × List PV) ⊕ ((Nat × List PV × Int × Int × Int × List (Option Nat) × Nat × Nat × List PV))
def XLpw1_2 : XL Ypw1_2 := .more Xpw1_2a (.one Xpw1_2b)
def Ipw1_2 (q : Ext × S) : Ypw1_2 := bif (cE q.1 == 2) then (Sum.inl (Ipw1_2a q)) else (Sum.inr (Ipw1_2b q))
theorem XIpw1_2a (y : List (Option Nat) × Nat × Nat × List PV) : Ipw1_2 (xe (Xpw1_2a y)) = (Sum.inl y) := by kernel_rfl
theorem XIpw1_2b (y : Nat × List PV × Int × Int × Int × List (Option Nat) × Nat × Nat × List PV) : Ipw1_2 (xe (Xpw1_2b y)) = (Sum.inr y) := by kernel_rfl
theorem XIpw1_2 (y : Ypw1_2) : Ipw1_2 (xe (XLpw1_2.fn y)) = y := (match y with | .inl y => XIpw1_2a y | .inr y => XIpw1_2b y)
noncomputable abbrev Lpw1_2 : Q → Option Ypw1_2 := lpO env a123.body 2 XLpw1_2
noncomputable abbrev Rpw1_2 : Q → Option (Ext × S) := lpR env a123.body 2
theorem Lpw1_2a_of {s : Q} {y : List (Option Nat) × Nat × Nat × List PV} (h : Rpw1_2 s = exO (Xpw1_2a y)) : Lpw1_2 s = some (Sum.inl y) := lpO_of Ipw1_2 XIpw1_2 (y := (Sum.inl y)) h
theorem Lpw1_2b_of {s : Q} {y : Nat × List PV × Int × Int × Int × List (Option Nat) × Nat × Nat × List PV} (h : Rpw1_2 s = exO (Xpw1_2b y)) : Lpw1_2 s = some (Sum.inr y) := lpO_of Ipw1_2 XIpw1_2 (y := (Sum.inr y)) h
theorem Upw1 : uniq ((blocksOf a123.body).map (·.1)) = true := by kernel_rfl
def Bpw1_0a (_F : FnT) (N : QO) (E : EO) (_L0 : Q → Option Ypw1_0) (L2 : Q → Option Ypw1_2) (n0 : Nat) (c1 : List PV) (i2 i3 i4 : Int) (c5 : List (Option Nat)) (n6 n7 : Nat) (c8 : List PV) : Option (Ext × S) :=
  bif (decide (i4 < i3)) then
    bindO (L2 (Tpw1_2a n0 c1 i2 i4 (w64 (i4 + (1 : Int))) i3 i4 c5 n6 n7 c8)) fun z =>
    Sum.elim (fun y0 =>
      E (Xpw1_0b (y0.1, y0.2.1, y0.2.2.1, y0.2.2.2))) (fun y1 =>
      N (Tpw1_0a y1.1 y1.2.1 y1.2.2.1 y1.2.2.2.1 (w64 (y1.2.2.2.2.1 + (1 : Int))) y1.2.2.2.2.2.1 y1.2.2.2.2.2.2.1 y1.2.2.2.2.2.2.2.1 y1.2.2.2.2.2.2.2.2)) z
  else E (Xpw1_0a (c5, n6, n7, c8))
theorem Bpw1_0a_eq (F : FnT) (N : QO) (E : EO) (L0 : Q → Option Ypw1_0) (L2 : Q → Option Ypw1_2) (n0 : Nat) (c1 : List PV) (i2 i3 i4 : Int) (c5 : List (Option Nat)) (n6 n7 : Nat) (c8 : List PV) : semB (callP F Epw1 20) s123 (loopT [⟨0, Ypw1_0, L0, XLpw1_0⟩, ⟨2, Ypw1_2, L2, XLpw1_2⟩]) 400 (blkIn a123.body 0) N E (Tpw1_0a n0 c1 i2 i3 i4 c5 n6 n7 c8) = Bpw1_0a F N E L0 L2 n0 c1 i2 i3 i4 c5 n6 n7 c8 := by kernel_rfl
theorem Rpw1_0a_of  (n0 : Nat) (c1 : List PV) (i2 i3 i4 : Int) (c5 : List (Option Nat)) (n6 n7 : Nat) (c8 : List PV) {r : Ext × S} (h : Bpw1_0a (Fn env) Rpw1_0 exO Lpw1_0 Lpw1_2 n0 c1 i2 i3 i4 c5 n6 n7 c8 = some r) : Rpw1_0 (Tpw1_0a n0 c1 i2 i3 i4 c5 n6 n7 c8) = some r :=
  lp_of Epw1_ok (by kernel_rfl) (lo_cons (lpO_ok Upw1) (lo_cons (lpO_ok Upw1) lo_nil)) (by kernel_rfl) ((Bpw1_0a_eq _ _ _ _ _ _ _ _ _ _ _ _ _ _).trans h)
def Bpw1_2a (_F : FnT) (N : QO) (E : EO) (_L0 : Q → Option Ypw1_0) (_L2 : Q → Option Ypw1_2) (n0 : Nat) (c1 : List PV) (i2 i3 i4 i5 i6 : Int) (c7 : List (Option Nat)) (n8 n9 : Nat) (c10 : List PV) : Option (Ext × S) :=
  bif (decide (i4 < ((Prod.mk n0 c1).1 : Int))) then
    bif (decide (((0 : Int) ≤ i4) ∧ (i4 < ((Prod.mk n0 c1).1 : Int)))) then
      bindO (intC .i64 ((Prod.mk n0 c1).2[(((Int.toNat i4) * 3) + 0)]?)) fun x0 =>
      bif (decide (((0 : Int) ≤ i3) ∧ (i3 < ((Prod.mk n0 c1).1 : Int)))) then
        bindO (intC .i64 ((Prod.mk n0 c1).2[(((Int.toNat i3) * 3) + 0)]?)) fun x1 =>
        bif (decide ((w64 (x0 - x1)) ≤ i2)) then
          bif (decide (n9 ≤ n8)) then
            bif (Gv.shapeOK c7 [(PV.int .i64 i3), (PV.int .i64 i4)]) then
              bif (n9 != n8) then
                N (Tpw1_2a n0 c1 i2 i3 (w64 (i4 + (1 : Int))) i5 i6 c7 n8 (n9 + 1) (c10 ++ [(PV.int .i64 i3), (PV.int .i64 i4)]))
              else E (Xpw1_2a (c7, n8, (n9 + 1), (c10 ++ [(PV.int .i64 i3), (PV.int .i64 i4)])))
            else none
          else none
        else E (Xpw1_2b (n0, c1, i2, i5, i6, c7, n8, n9, c10))
      else none
    else none
  else E (Xpw1_2b (n0, c1, i2, i5, i6, c7, n8, n9, c10))
theorem Bpw1_2a_eq (F : FnT) (N : QO) (E : EO) (L0 : Q → Option Ypw1_0) (L2 : Q → Option Ypw1_2) (n0 : Nat) (c1 : List PV) (i2 i3 i4 i5 i6 : Int) (c7 : List (Option Nat)) (n8 n9 : Nat) (c10 : List PV) : semB (callP F Epw1 20) s123 (loopT [⟨0, Ypw1_0, L0, XLpw1_0⟩, ⟨2, Ypw1_2, L2, XLpw1_2⟩]) 400 (blkIn a123.body 2) N E (Tpw1_2a n0 c1 i2 i3 i4 i5 i6 c7 n8 n9 c10) = Bpw1_2a F N E L0 L2 n0 c1 i2 i3 i4 i5 i6 c7 n8 n9 c10 := by kernel_rfl
theorem Rpw1_2a_of  (n0 : Nat) (c1 : List PV) (i2 i3 i4 i5 i6 : Int) (c7 : List (Option Nat)) (n8 n9 : Nat) (c10 : List PV) {r : Ext × S} (h : Bpw1_2a (Fn env) Rpw1_2 exO Lpw1_0 Lpw1_2 n0 c1 i2 i3 i4 i5 i6 c7 n8 n9 c10 = some r) : Rpw1_2 (Tpw1_2a n0 c1 i2 i3 i4 i5 i6 c7 n8 n9 c10) = some r :=
  lp_of Epw1_ok (by kernel_rfl) (lo_cons (lpO_ok Upw1) (lo_cons (lpO_ok Upw1) lo_nil)) (by kernel_rfl) ((Bpw1_2a_eq _ _ _ _ _ _ _ _ _ _ _ _ _ _ _ _).trans h)
def tpw1 (_F : FnT) (L0 : Q → Option Ypw1_0) (_L2 : Q → Option Ypw1_2)(k n : Nat) (cs : List PV) (len : Int) : Option ((Nat) × (List PV)) :=
  bindO (L0 (Tpw1_0a n cs len ((Prod.mk n cs).1 : Int) (0 : Int) [Option.none, Option.none] k 0 [])) fun z =>
  Sum.elim (fun y0 =>
    some (y0.2.2.1, y0.2.2.2)) (fun y1 =>
    some (y1.2.2.1, y1.2.2.2)) z
theorem tpw1_eq (F : FnT) (L0 : Q → Option Ypw1_0) (L2 : Q → Option Ypw1_2)(k n : Nat) (cs : List PV) (len : Int) : semF (callP F Epw1 20) s123 (loopT [⟨0, Ypw1_0, L0, XLpw1_0⟩, ⟨2, Ypw1_2, L2, XLpw1_2⟩]) 400 a123 [.it [none, none] (k + 1), .imm [.list n cs] 0, .imm [.int .i64 len] 0] (fun rv => decR (RSh.one CK.list) rv.pv) = tpw1 F L0 L2 k n cs len := by kernel_rfl
noncomputable abbrev Fpw1 (args : List PV) := Fn env 123 (RSh.one CK.list) args
theorem Fpw1_of (k n : Nat) (cs : List PV) (len : Int) {res : ((Nat) × (List PV))} (h : tpw1 (Fn env) Lpw1_0 Lpw1_2 k n cs len = some res) : Fpw1 [.it [none, none] (k + 1), .imm [.list n cs] 0, .imm [.int .i64 len] 0] = some res :=
  fn_of Epw1_ok rfl rfl (lo_cons (lpO_ok Upw1) (lo_cons (lpO_ok Upw1) lo_nil)) ((tpw1_eq _ _ _ _ _ _ _).trans h)
def EgLo : List Entry := [.inl 119 a119 s119, .out 87 (RSh.one (CK.int .i64)), .out 86 (RSh.one (CK.int .i64)), .out 73 (RSh.one (CK.int .i64)), .out 123 (RSh.one CK.list), .out 88 (RSh.agg [(CK.int .i64), (CK.int .i64)]), .out 90 (RSh.one (CK.int .i64))]
theorem EgLo_ok : ∀ e ∈ EgLo, EntOK env e := (ent_inl rfl (ent_out (ent_out (ent_out (ent_out (ent_out (ent_out ent_nil)))))))
def TgLo_3000060a (n0 : Nat) (c1 : List PV) (i2 : Int) (n3 : Nat) (c4 : List PV) (i5 i6 i7 i8 i9 : Int) : Q := ⟨(tm 84 [(4, (AV.loc 4 0)), (6, (AV.loc 6 0)), (7, (AV.loc 7 0)), (8, (AV.loc 8 0)), (11, (AV.loc 11 0)), (12, (AV.loc 12 0)), (60, (AV.p (PV.list n0 c1))), (61, (AV.p (PV.int .i64 i2)))]), (mm 84 [(4, (Bk.cells true [(AV.p (PV.list n3 c4))])), (6, (Bk.cells true [(AV.p (PV.fn 88 []))])), (7, (Bk.cells true [(AV.p (PV.fn 90 []))])), (8, (Bk.pcs true [(PV.int .i64 (0 : Int)), (PV.int .i64 (0 : Int)), (PV.int .i64 (0 : Int)), (PV.int .i64 (0 : Int))])), (11, (Bk.pcs true [(PV.int .i64 i5), (PV.int .i64 i6), (PV.int .i64 i7), (PV.int .i64 i8)])), (12, (Bk.pcs true [(PV.int .i64 i9)]))])⟩
def XgLo_3000060a (y : Nat × List PV × Int × Int × Int × Int × Int) : Ext × Q := (Ext.normal, ⟨(tm 84 [(4, (AV.loc 4 0)), (6, (AV.loc 6 0)), (7, (AV.loc 7 0)), (8, (AV.loc 8 0)), (11, (AV.loc 11 0)), (12, (AV.loc 12 0))]), (mm 84 [(4, (Bk.cells true [(AV.p (PV.list y.1 y.2.1))])), (6, (Bk.cells true [(AV.p (PV.fn 88 []))])), (7, (Bk.cells true [(AV.p (PV.fn 90 []))])), (8, (Bk.pcs true [(PV.int .i64 (0 : Int)), (PV.int .i64 (0 : Int)), (PV.int .i64 (0 : Int)), (PV.int .i64 (0 : Int))])), (11, (Bk.pcs true [(PV.int .i64 y.2.2.1), (PV.int .i64 y.2.2.2.1), (PV.int .i64 y.2.2.2.2.1), (PV.int .i64 y.2.2.2.2.2.1)])), (12, (Bk.pcs true [(PV.int .i64 y.2.2.2.2.2.2)]))])⟩)
def IgLo_3000060a (q : Ext × S) : Nat × List PV × Int × Int × Int × Int × Int := ((pP_list0 (pA_p (hdA (pB_cells1 (avM q.2 4))))), (pP_list1 (pA_p (hdA (pB_cells1 (avM q.2 4))))), (pP_int1 (hdP (pB_pcs1 (avM q.2 11)))), (pP_int1 (hdP (List.tail (pB_pcs1 (avM q.2 11))))), (pP_int1 (hdP (List.tail (List.tail (pB_pcs1 (avM q.2 11)))))), (pP_int1 (hdP (List.tail (List.tail (List.tail (pB_pcs1 (avM q.2 11))))))), (pP_int1 (hdP (pB_pcs1 (avM q.2 12)))))
abbrev YgLo_3000060 : Type := Nat × List PV × Int × Int × Int × Int × Int
def XLgLo_3000060 : XL YgLo_3000060 := .one XgLo_3000060a
def IgLo_3000060 (q : Ext × S) : YgLo_3000060 := (IgLo_3000060a q)
theorem XIgLo_3000060a (y : Nat × List PV × Int × Int × Int × Int × Int) : IgLo_3000060 (xe (XgLo_3000060a y)) = y := by kernel_rfl
theorem XIgLo_3000060 (y : YgLo_3000060) : IgLo_3000060 (xe (XLgLo_3000060.fn y)) = y := XIgLo_3000060a y
noncomputable abbrev LgLo_3000060 : Q → Option YgLo_3000060 := lpO env a89.body 3000060 XLgLo_3000060
noncomputable abbrev RgLo_3000060 : Q → Option (Ext × S) := lpR env a89.body 3000060
theorem LgLo_3000060a_of {s : Q} {y : Nat × List PV × Int × Int × Int × Int × Int} (h : RgLo_3000060 s = exO (XgLo_3000060a y)) : LgLo_3000060 s = some y := lpO_of IgLo_3000060 XIgLo_3000060 (y := y) h
theorem UgLo : uniq ((blocksOf a89.body).map (·.1)) = true := by kernel_rfl
def BgLo_3000060a (F : FnT) (N : QO) (E : EO) (_L3000060 : Q → Option YgLo_3000060) (n0 : Nat) (c1 : List PV) (i2 : Int) (n3 : Nat) (c4 : List PV) (i5 i6 i7 i8 i9 : Int) : Option (Ext × S) :=
  bif (decide (i2 < (n0 : Int))) then
    bif (decide (((0 : Int) ≤ i2) ∧ (i2 < (n0 : Int)))) then
      bindO (intC .i64 (c1[(((Int.toNat i2) * 2) + 0)]?)) fun x0 =>
      bindO (intC .i64 (c1[(((Int.toNat i2) * 2) + 1)]?)) fun x1 =>
      bif (decide (((0 : Int) ≤ x0) ∧ (x0 < (n3 : Int)))) then
        bindO (intC .i64 (c4[((Int.toNat x0) * 3)]?)) fun x2 =>
        bindO (intC .i64 (c4[(((Int.toNat x0) * 3) + 1)]?)) fun x3 =>
        bindO (intC .i64 (c4[((((Int.toNat x0) * 3) + 1) + 1)]?)) fun x4 =>
        bif (decide (((0 : Int) ≤ x1) ∧ (x1 < (n3 : Int)))) then
          bindO (intC .i64 (c4[((Int.toNat x1) * 3)]?)) fun x5 =>
          bindO (intC .i64 (c4[(((Int.toNat x1) * 3) + 1)]?)) fun x6 =>
          bindO (intC .i64 (c4[((((Int.toNat x1) * 3) + 1) + 1)]?)) fun x7 =>
          bindO (F 88 (RSh.agg [(CK.int .i64), (CK.int .i64)]) [(PV.agg [(PV.int .i64 x2), (PV.int .i64 x3), (PV.int .i64 x4)]), (PV.agg [(PV.int .i64 x5), (PV.int .i64 x6), (PV.int .i64 x7)])]) fun (y8 : ((Int) × (Int))) =>
          bif (i9 != (0 : Int)) then
            N (TgLo_3000060a n0 c1 (w64 (i2 + (1 : Int))) n3 c4 x0 x1 y8.1 y8.2 (0 : Int))
          else bindO (F 90 (RSh.one (CK.int .i64)) [(PV.agg [(PV.int .i64 y8.1), (PV.int .i64 y8.2)])]) fun (y9 : (Int)) =>
          bindO (F 90 (RSh.one (CK.int .i64)) [(PV.agg [(PV.int .i64 i7), (PV.int .i64 i8)])]) fun (y10 : (Int)) =>
          bif (decide (y9 > y10)) then
            N (TgLo_3000060a n0 c1 (w64 (i2 + (1 : Int))) n3 c4 x0 x1 y8.1 y8.2 (0 : Int))
          else N (TgLo_3000060a n0 c1 (w64 (i2 + (1 : Int))) n3 c4 i5 i6 i7 i8 i9)
        else none
      else none
    else none
  else E (XgLo_3000060a (n3, c4, i5, i6, i7, i8, i9))
theorem BgLo_3000060a_eq (F : FnT) (N : QO) (E : EO) (L3000060 : Q → Option YgLo_3000060) (n0 : Nat) (c1 : List PV) (i2 : Int) (n3 : Nat) (c4 : List PV) (i5 i6 i7 i8 i9 : Int) : semB (callP F EgLo 20) s89 (loopT [⟨3000060, YgLo_3000060, L3000060, XLgLo_3000060⟩]) 400 (blkIn a89.body 3000060) N E (TgLo_3000060a n0 c1 i2 n3 c4 i5 i6 i7 i8 i9) = BgLo_3000060a F N E L3000060 n0 c1 i2 n3 c4 i5 i6 i7 i8 i9 := by kernel_rfl
theorem RgLo_3000060a_of  (n0 : Nat) (c1 : List PV) (i2 : Int) (n3 : Nat) (c4 : List PV) (i5 i6 i7 i8 i9 : Int) {r : Ext × S} (h : BgLo_3000060a (Fn env) RgLo_3000060 exO LgLo_3000060 n0 c1 i2 n3 c4 i5 i6 i7 i8 i9 = some r) : RgLo_3000060 (TgLo_3000060a n0 c1 i2 n3 c4 i5 i6 i7 i8 i9) = some r :=
  lp_of EgLo_ok (by kernel_rfl) (lo_cons (lpO_ok UgLo) lo_nil) (by kernel_rfl) ((BgLo_3000060a_eq _ _ _ _ _ _ _ _ _ _ _ _ _ _).trans h)
def tgLo (F : FnT) (L3000060 : Q → Option YgLo_3000060)(n : Nat) (cs : List PV) (len : Int) : Option ((Int) × ((Int) × ((Int) × ((Int) × (Int))))) :=
  bindO (F 87 (RSh.one (CK.int .i64)) [(PV.list n cs)]) fun (y0 : (Int)) =>
  bindO (F 86 (RSh.one (CK.int .i64)) [(PV.int .i64 len)]) fun (y1 : (Int)) =>
  bindO (F 73 (RSh.one (CK.int .i64)) [(PV.list 2 [(PV.int .i64 y0), (PV.int .i64 y1)])]) fun (y2 : (Int)) =>
  bif (y2 != (0 : Int)) then
    some ((0 : Int), ((0 : Int), ((0 : Int), ((0 : Int), y2))))
  else bindO (F 123 (RSh.one CK.list) [(PV.it [Option.none, Option.none] 0), (PV.imm [(PV.list n cs)] 0), (PV.imm [(PV.int .i64 len)] 0)]) fun (y3 : ((Nat) × (List PV))) =>
  bindO (L3000060 (TgLo_3000060a y3.1 y3.2 (0 : Int) n cs (0 : Int) (0 : Int) (0 : Int) (0 : Int) (12 : Int))) fun y4 =>
  some (y4.2.2.1, (y4.2.2.2.1, (y4.2.2.2.2.1, (y4.2.2.2.2.2.1, y4.2.2.2.2.2.2))))
theorem tgLo_eq (F : FnT) (L3000060 : Q → Option YgLo_3000060)(n : Nat) (cs : List PV) (len : Int) : semF (callP F EgLo 20) s89 (loopT [⟨3000060, YgLo_3000060, L3000060, XLgLo_3000060⟩]) 400 a89 [.list n cs, .int .i64 len, .fn 88 [], .fn 90 []] (fun rv => decR (RSh.tup [(Prod.mk true [(CK.int .i64), (CK.int .i64), (CK.int .i64), (CK.int .i64)]), (Prod.mk false [(CK.int .i64)])]) rv.pv) = tgLo F L3000060 n cs len := by kernel_rfl
noncomputable abbrev FgLo (args : List PV) := Fn env 89 (RSh.tup [(Prod.mk true [(CK.int .i64), (CK.int .i64), (CK.int .i64), (CK.int .i64)]), (Prod.mk false [(CK.int .i64)])]) args
theorem FgLo_of (n : Nat) (cs : List PV) (len : Int) {res : ((Int) × ((Int) × ((Int) × ((Int) × (Int)))))} (h : tgLo (Fn env) LgLo_3000060 n cs len = some res) : FgLo [.list n cs, .int .i64 len, .fn 88 [], .fn 90 []] = some res :=
  fn_of EgLo_ok rfl rfl (lo_cons (lpO_ok UgLo) lo_nil) ((tgLo_eq _ _ _ _ _).trans h)
def EgCh : List Entry := [.inl 119 a119 s119, .out 87 (RSh.one (CK.int .i64)), .out 86 (RSh.one (CK.int .i64)), .out 73 (RSh.one (CK.int .i64)), .out 123 (RSh.one CK.list), .out 91 (RSh.agg [(CK.int .i64), (CK.int .i64)]), .out 90 (RSh.one (CK.int .i64))]
theorem EgCh_ok : ∀ e ∈ EgCh, EntOK env e := (ent_inl rfl (ent_out (ent_out (ent_out (ent_out (ent_out (ent_out ent_nil)))))))
def TgCh_3000060a (n0 : Nat) (c1 : List PV) (i2 : Int) (n3 : Nat) (c4 : List PV) (i5 i6 i7 i8 i9 : Int) : Q := ⟨(tm 84 [(4, (AV.loc 4 0)), (6, (AV.loc 6 0)), (7, (AV.loc 7 0)), (8, (AV.loc 8 0)), (11, (AV.loc 11 0)), (12, (AV.loc 12 0)), (60, (AV.p (PV.list n0 c1))), (61, (AV.p (PV.int .i64 i2)))]), (mm 84 [(4, (Bk.cells true [(AV.p (PV.list n3 c4))])), (6, (Bk.cells true [(AV.p (PV.fn 91 []))])), (7, (Bk.cells true [(AV.p (PV.fn 90 []))])), (8, (Bk.pcs true [(PV.int .i64 (0 : Int)), (PV.int .i64 (0 : Int)), (PV.int .i64 (0 : Int)), (PV.int .i64 (0 : Int))])), (11, (Bk.pcs true [(PV.int .i64 i5), (PV.int .i64 i6), (PV.int .i64 i7), (PV.int .i64 i8)])), (12, (Bk.pcs true [(PV.int .i64 i9)]))])⟩
def XgCh_3000060a (y : Nat × List PV × Int × Int × Int × Int × Int) : Ext × Q := (Ext.normal, ⟨(tm 84 [(4, (AV.loc 4 0)), (6, (AV.loc 6 0)), (7, (AV.loc 7 0)), (8, (AV.loc 8 0)), (11, (AV.loc 11 0)), (12, (AV.loc 12 0))]), (mm 84 [(4, (Bk.cells true [(AV.p (PV.list y.1 y.2.1))])), (6, (Bk.cells true [(AV.p (PV.fn 91 []))])), (7, (Bk.cells true [(AV.p (PV.fn 90 []))])), (8, (Bk.pcs true [(PV.int .i64 (0 : Int)), (PV.int .i64 (0 : Int)), (PV.int .i64 (0 : Int)), (PV.int .i64 (0 : Int))])), (11, (Bk.pcs true [(PV.int .i64 y.2.2.1), (PV.int .i64 y.2.2.2.1), (PV.int .i64 y.2.2.2.2.1), (PV.int .i64 y.2.2.2.2.2.1)])), (12, (Bk.pcs true [(PV.int .i64 y.2.2.2.2.2.2)]))])⟩)
def IgCh_3000060a (q : Ext × S) : Nat × List PV × Int × Int × Int × Int × Int := ((pP_list0 (pA_p (hdA (pB_cells1 (avM q.2 4))))), (pP_list1 (pA_p (hdA (pB_cells1 (avM q.2 4))))), (pP_int1 (hdP (pB_pcs1 (avM q.2 11)))), (pP_int1 (hdP (List.tail (pB_pcs1 (avM q.2 11))))), (pP_int1 (hdP (List.tail (List.tail (pB_pcs1 (avM q.2 11)))))), (pP_int1 (hdP (List.tail (List.tail (List.tail (pB_pcs1 (avM q.2 11))))))), (pP_int1 (hdP (pB_pcs1 (avM q.2 12)))))
abbrev YgCh_3000060 : Type := Nat × List PV × Int × Int × Int × Int × Int
def XLgCh_3000060 : XL YgCh_3000060 := .one XgCh_3000060a
def IgCh_3000060 (q : Ext × S) : YgCh_3000060 := (IgCh_3000060a q)
theorem XIgCh_3000060a (y : Nat × List PV × Int × Int × Int × Int × Int) : IgCh_3000060 (xe (XgCh_3000060a y)) = y := by kernel_rfl
theorem XIgCh_3000060 (y : YgCh_3000060) : IgCh_3000060 (xe (XLgCh_3000060.fn y)) = y := XIgCh_3000060a y
noncomputable abbrev LgCh_3000060 : Q → Option YgCh_3000060 := lpO env a89.body 3000060 XLgCh_3000060
noncomputable abbrev RgCh_3000060 : Q → Option (Ext × S) := lpR env a89.body 3000060
theorem LgCh_3000060a_of {s : Q} {y : Nat × List PV × Int × Int × Int × Int × Int} (h : RgCh_3000060 s = exO (XgCh_3000060a y)) : LgCh_3000060 s = some y := lpO_of IgCh_3000060 XIgCh_3000060 (y := y) h
theorem UgCh : uniq ((blocksOf a89.body).map (·.1)) = true := by kernel_rfl
def BgCh_3000060a (F : FnT) (N : QO) (E : EO) (_L3000060 : Q → Option YgCh_3000060) (n0 : Nat) (c1 : List PV) (i2 : Int) (n3 : Nat) (c4 : List PV) (i5 i6 i7 i8 i9 : Int) : Option (Ext × S) :=
  bif (decide (i2 < (n0 : Int))) then
    bif (decide (((0 : Int) ≤ i2) ∧ (i2 < (n0 : Int)))) then
      bindO (intC .i64 (c1[(((Int.toNat i2) * 2) + 0)]?)) fun x0 =>
      bindO (intC .i64 (c1[(((Int.toNat i2) * 2) + 1)]?)) fun x1 =>
      bif (decide (((0 : Int) ≤ x0) ∧ (x0 < (n3 : Int)))) then
        bindO (intC .i64 (c4[((Int.toNat x0) * 3)]?)) fun x2 =>
        bindO (intC .i64 (c4[(((Int.toNat x0) * 3) + 1)]?)) fun x3 =>
        bindO (intC .i64 (c4[((((Int.toNat x0) * 3) + 1) + 1)]?)) fun x4 =>
        bif (decide (((0 : Int) ≤ x1) ∧ (x1 < (n3 : Int)))) then
          bindO (intC .i64 (c4[((Int.toNat x1) * 3)]?)) fun x5 =>
          bindO (intC .i64 (c4[(((Int.toNat x1) * 3) + 1)]?)) fun x6 =>
          bindO (intC .i64 (c4[((((Int.toNat x1) * 3) + 1) + 1)]?)) fun x7 =>
          bindO (F 91 (RSh.agg [(CK.int .i64), (CK.int .i64)]) [(PV.agg [(PV.int .i64 x2), (PV.int .i64 x3), (PV.int .i64 x4)]), (PV.agg [(PV.int .i64 x5), (PV.int .i64 x6), (PV.int .i64 x7)])]) fun (y8 : ((Int) × (Int))) =>
          bif (i9 != (0 : Int)) then
            N (TgCh_3000060a n0 c1 (w64 (i2 + (1 : Int))) n3 c4 x0 x1 y8.1 y8.2 (0 : Int))
          else bindO (F 90 (RSh.one (CK.int .i64)) [(PV.agg [(PV.int .i64 y8.1), (PV.int .i64 y8.2)])]) fun (y9 : (Int)) =>
          bindO (F 90 (RSh.one (CK.int .i64)) [(PV.agg [(PV.int .i64 i7), (PV.int .i64 i8)])]) fun (y10 : (Int)) =>
          bif (decide (y9 > y10)) then
            N (TgCh_3000060a n0 c1 (w64 (i2 + (1 : Int))) n3 c4 x0 x1 y8.1 y8.2 (0 : Int))
          else N (TgCh_3000060a n0 c1 (w64 (i2 + (1 : Int))) n3 c4 i5 i6 i7 i8 i9)
        else none
      else none
    else none
  else E (XgCh_3000060a (n3, c4, i5, i6, i7, i8, i9))
theorem BgCh_3000060a_eq (F : FnT) (N : QO) (E : EO) (L3000060 : Q → Option YgCh_3000060) (n0 : Nat) (c1 : List PV) (i2 : Int) (n3 : Nat) (c4 : List PV) (i5 i6 i7 i8 i9 : Int) : semB (callP F EgCh 20) s89 (loopT [⟨3000060, YgCh_3000060, L3000060, XLgCh_3000060⟩]) 400 (blkIn a89.body 3000060) N E (TgCh_3000060a n0 c1 i2 n3 c4 i5 i6 i7 i8 i9) = BgCh_3000060a F N E L3000060 n0 c1 i2 n3 c4 i5 i6 i7 i8 i9 := by kernel_rfl
theorem RgCh_3000060a_of  (n0 : Nat) (c1 : List PV) (i2 : Int) (n3 : Nat) (c4 : List PV) (i5 i6 i7 i8 i9 : Int) {r : Ext × S} (h : BgCh_3000060a (Fn env) RgCh_3000060 exO LgCh_3000060 n0 c1 i2 n3 c4 i5 i6 i7 i8 i9 = some r) : RgCh_3000060 (TgCh_3000060a n0 c1 i2 n3 c4 i5 i6 i7 i8 i9) = some r :=
  lp_of EgCh_ok (by kernel_rfl) (lo_cons (lpO_ok UgCh) lo_nil) (by kernel_rfl) ((BgCh_3000060a_eq _ _ _ _ _ _ _ _ _ _ _ _ _ _).trans h)
def tgCh (F : FnT) (L3000060 : Q → Option YgCh_3000060)(n : Nat) (cs : List PV) (len : Int) : Option ((Int) × ((Int) × ((Int) × ((Int) × (Int))))) :=
  bindO (F 87 (RSh.one (CK.int .i64)) [(PV.list n cs)]) fun (y0 : (Int)) =>
  bindO (F 86 (RSh.one (CK.int .i64)) [(PV.int .i64 len)]) fun (y1 : (Int)) =>
  bindO (F 73 (RSh.one (CK.int .i64)) [(PV.list 2 [(PV.int .i64 y0), (PV.int .i64 y1)])]) fun (y2 : (Int)) =>
  bif (y2 != (0 : Int)) then
    some ((0 : Int), ((0 : Int), ((0 : Int), ((0 : Int), y2))))
  else bindO (F 123 (RSh.one CK.list) [(PV.it [Option.none, Option.none] 0), (PV.imm [(PV.list n cs)] 0), (PV.imm [(PV.int .i64 len)] 0)]) fun (y3 : ((Nat) × (List PV))) =>
  bindO (L3000060 (TgCh_3000060a y3.1 y3.2 (0 : Int) n cs (0 : Int) (0 : Int) (0 : Int) (0 : Int) (12 : Int))) fun y4 =>
  some (y4.2.2.1, (y4.2.2.2.1, (y4.2.2.2.2.1, (y4.2.2.2.2.2.1, y4.2.2.2.2.2.2))))
theorem tgCh_eq (F : FnT) (L3000060 : Q → Option YgCh_3000060)(n : Nat) (cs : List PV) (len : Int) : semF (callP F EgCh 20) s89 (loopT [⟨3000060, YgCh_3000060, L3000060, XLgCh_3000060⟩]) 400 a89 [.list n cs, .int .i64 len, .fn 91 [], .fn 90 []] (fun rv => decR (RSh.tup [(Prod.mk true [(CK.int .i64), (CK.int .i64), (CK.int .i64), (CK.int .i64)]), (Prod.mk false [(CK.int .i64)])]) rv.pv) = tgCh F L3000060 n cs len := by kernel_rfl
noncomputable abbrev FgCh (args : List PV) := Fn env 89 (RSh.tup [(Prod.mk true [(CK.int .i64), (CK.int .i64), (CK.int .i64), (CK.int .i64)]), (Prod.mk false [(CK.int .i64)])]) args
theorem FgCh_of (n : Nat) (cs : List PV) (len : Int) {res : ((Int) × ((Int) × ((Int) × ((Int) × (Int)))))} (h : tgCh (Fn env) LgCh_3000060 n cs len = some res) : FgCh [.list n cs, .int .i64 len, .fn 91 [], .fn 90 []] = some res :=
  fn_of EgCh_ok rfl rfl (lo_cons (lpO_ok UgCh) lo_nil) ((tgCh_eq _ _ _ _ _).trans h)
def EgHi : List Entry := [.inl 119 a119 s119, .out 87 (RSh.one (CK.int .i64)), .out 86 (RSh.one (CK.int .i64)), .out 73 (RSh.one (CK.int .i64)), .out 123 (RSh.one CK.list), .out 88 (RSh.agg [(CK.int .i64), (CK.int .i64)]), .out 92 (RSh.one (CK.int .i64))]
theorem EgHi_ok : ∀ e ∈ EgHi, EntOK env e := (ent_inl rfl (ent_out (ent_out (ent_out (ent_out (ent_out (ent_out ent_nil)))))))
def TgHi_3000060a (n0 : Nat) (c1 : List PV) (i2 : Int) (n3 : Nat) (c4 : List PV) (i5 i6 i7 i8 i9 : Int) : Q := ⟨(tm 84 [(4, (AV.loc 4 0)), (6, (AV.loc 6 0)), (7, (AV.loc 7 0)), (8, (AV.loc 8 0)), (11, (AV.loc 11 0)), (12, (AV.loc 12 0)), (60, (AV.p (PV.list n0 c1))), (61, (AV.p (PV.int .i64 i2)))]), (mm 84 [(4, (Bk.cells true [(AV.p (PV.list n3 c4))])), (6, (Bk.cells true [(AV.p (PV.fn 88 []))])), (7, (Bk.cells true [(AV.p (PV.fn 92 []))])), (8, (Bk.pcs true [(PV.int .i64 (0 : Int)), (PV.int .i64 (0 : Int)), (PV.int .i64 (0 : Int)), (PV.int .i64 (0 : Int))])), (11, (Bk.pcs true [(PV.int .i64 i5), (PV.int .i64 i6), (PV.int .i64 i7), (PV.int .i64 i8)])), (12, (Bk.pcs true [(PV.int .i64 i9)]))])⟩
def XgHi_3000060a (y : Nat × List PV × Int × Int × Int × Int × Int) : Ext × Q := (Ext.normal, ⟨(tm 84 [(4, (AV.loc 4 0)), (6, (AV.loc 6 0)), (7, (AV.loc 7 0)), (8, (AV.loc 8 0)), (11, (AV.loc 11 0)), (12, (AV.loc 12 0))]), (mm 84 [(4, (Bk.cells true [(AV.p (PV.list y.1 y.2.1))])), (6, (Bk.cells true [(AV.p (PV.fn 88 []))])), (7, (Bk.cells true [(AV.p (PV.fn 92 []))])), (8, (Bk.pcs true [(PV.int .i64 (0 : Int)), (PV.int .i64 (0 : Int)), (PV.int .i64 (0 : Int)), (PV.int .i64 (0 : Int))])), (11, (Bk.pcs true [(PV.int .i64 y.2.2.1), (PV.int .i64 y.2.2.2.1), (PV.int .i64 y.2.2.2.2.1), (PV.int .i64 y.2.2.2.2.2.1)])), (12, (Bk.pcs true [(PV.int .i64 y.2.2.2.2.2.2)]))])⟩)
def IgHi_3000060a (q : Ext × S) : Nat × List PV × Int × Int × Int × Int × Int := ((pP_list0 (pA_p (hdA (pB_cells1 (avM q.2 4))))), (pP_list1 (pA_p (hdA (pB_cells1 (avM q.2 4))))), (pP_int1 (hdP (pB_pcs1 (avM q.2 11)))), (pP_int1 (hdP (List.tail (pB_pcs1 (avM q.2 11))))), (pP_int1 (hdP (List.tail (List.tail (pB_pcs1 (avM q.2 11)))))), (pP_int1 (hdP (List.tail (List.tail (List.tail (pB_pcs1 (avM q.2 11))))))), (pP_int1 (hdP (pB_pcs1 (avM q.2 12)))))
abbrev YgHi_3000060 : Type := Nat × List PV × Int × Int × Int × Int × Int
def XLgHi_3000060 : XL YgHi_3000060 := .one XgHi_3000060a
def IgHi_3000060 (q : Ext × S) : YgHi_3000060 := (IgHi_3000060a q)
theorem XIgHi_3000060a (y : Nat × List PV × Int × Int × Int × Int × Int) : IgHi_3000060 (xe (XgHi_3000060a y)) = y := by kernel_rfl
theorem XIgHi_3000060 (y : YgHi_3000060) : IgHi_3000060 (xe (XLgHi_3000060.fn y)) = y := XIgHi_3000060a y
noncomputable abbrev LgHi_3000060 : Q → Option YgHi_3000060 := lpO env a89.body 3000060 XLgHi_3000060
noncomputable abbrev RgHi_3000060 : Q → Option (Ext × S) := lpR env a89.body 3000060
theorem LgHi_3000060a_of {s : Q} {y : Nat × List PV × Int × Int × Int × Int × Int} (h : RgHi_3000060 s = exO (XgHi_3000060a y)) : LgHi_3000060 s = some y := lpO_of IgHi_3000060 XIgHi_3000060 (y := y) h
theorem UgHi : uniq ((blocksOf a89.body).map (·.1)) = true := by kernel_rfl
def BgHi_3000060a (F : FnT) (N : QO) (E : EO) (_L3000060 : Q → Option YgHi_3000060) (n0 : Nat) (c1 : List PV) (i2 : Int) (n3 : Nat) (c4 : List PV) (i5 i6 i7 i8 i9 : Int) : Option (Ext × S) :=
  bif (decide (i2 < (n0 : Int))) then
    bif (decide (((0 : Int) ≤ i2) ∧ (i2 < (n0 : Int)))) then
      bindO (intC .i64 (c1[(((Int.toNat i2) * 2) + 0)]?)) fun x0 =>
      bindO (intC .i64 (c1[(((Int.toNat i2) * 2) + 1)]?)) fun x1 =>
      bif (decide (((0 : Int) ≤ x0) ∧ (x0 < (n3 : Int)))) then
        bindO (intC .i64 (c4[((Int.toNat x0) * 3)]?)) fun x2 =>
        bindO (intC .i64 (c4[(((Int.toNat x0) * 3) + 1)]?)) fun x3 =>
        bindO (intC .i64 (c4[((((Int.toNat x0) * 3) + 1) + 1)]?)) fun x4 =>
        bif (decide (((0 : Int) ≤ x1) ∧ (x1 < (n3 : Int)))) then
          bindO (intC .i64 (c4[((Int.toNat x1) * 3)]?)) fun x5 =>
          bindO (intC .i64 (c4[(((Int.toNat x1) * 3) + 1)]?)) fun x6 =>
          bindO (intC .i64 (c4[((((Int.toNat x1) * 3) + 1) + 1)]?)) fun x7 =>
          bindO (F 88 (RSh.agg [(CK.int .i64), (CK.int .i64)]) [(PV.agg [(PV.int .i64 x2), (PV.int .i64 x3), (PV.int .i64 x4)]), (PV.agg [(PV.int .i64 x5), (PV.int .i64 x6), (PV.int .i64 x7)])]) fun (y8 : ((Int) × (Int))) =>
          bif (i9 != (0 : Int)) then
            N (TgHi_3000060a n0 c1 (w64 (i2 + (1 : Int))) n3 c4 x0 x1 y8.1 y8.2 (0 : Int))
          else bindO (F 92 (RSh.one (CK.int .i64)) [(PV.agg [(PV.int .i64 y8.1), (PV.int .i64 y8.2)])]) fun (y9 : (Int)) =>
          bindO (F 92 (RSh.one (CK.int .i64)) [(PV.agg [(PV.int .i64 i7), (PV.int .i64 i8)])]) fun (y10 : (Int)) =>
          bif (decide (y9 > y10)) then
            N (TgHi_3000060a n0 c1 (w64 (i2 + (1 : Int))) n3 c4 x0 x1 y8.1 y8.2 (0 : Int))
          else N (TgHi_3000060a n0 c1 (w64 (i2 + (1 : Int))) n3 c4 i5 i6 i7 i8 i9)
        else none
      else none
    else none
  else E (XgHi_3000060a (n3, c4, i5, i6, i7, i8, i9))
theorem BgHi_3000060a_eq (F : FnT) (N : QO) (E : EO) (L3000060 : Q → Option YgHi_3000060) (n0 : Nat) (c1 : List PV) (i2 : Int) (n3 : Nat) (c4 : List PV) (i5 i6 i7 i8 i9 : Int) : semB (callP F EgHi 20) s89 (loopT [⟨3000060, YgHi_3000060, L3000060, XLgHi_3000060⟩]) 400 (blkIn a89.body 3000060) N E (TgHi_3000060a n0 c1 i2 n3 c4 i5 i6 i7 i8 i9) = BgHi_3000060a F N E L3000060 n0 c1 i2 n3 c4 i5 i6 i7 i8 i9 := by kernel_rfl
theorem RgHi_3000060a_of  (n0 : Nat) (c1 : List PV) (i2 : Int) (n3 : Nat) (c4 : List PV) (i5 i6 i7 i8 i9 : Int) {r : Ext × S} (h : BgHi_3000060a (Fn env) RgHi_3000060 exO LgHi_3000060 n0 c1 i2 n3 c4 i5 i6 i7 i8 i9 = some r) : RgHi_3000060 (TgHi_3000060a n0 c1 i2 n3 c4 i5 i6 i7 i8 i9) = some r :=
  lp_of EgHi_ok (by kernel_rfl) (lo_cons (lpO_ok UgHi) lo_nil) (by kernel_rfl) ((BgHi_3000060a_eq _ _ _ _ _ _ _ _ _ _ _ _ _ _).trans h)
def tgHi (F : FnT) (L3000060 : Q → Option YgHi_3000060)(n : Nat) (cs : List PV) (len : Int) : Option ((Int) × ((Int) × ((Int) × ((Int) × (Int))))) :=
  bindO (F 87 (RSh.one (CK.int .i64)) [(PV.list n cs)]) fun (y0 : (Int)) =>
  bindO (F 86 (RSh.one (CK.int .i64)) [(PV.int .i64 len)]) fun (y1 : (Int)) =>
  bindO (F 73 (RSh.one (CK.int .i64)) [(PV.list 2 [(PV.int .i64 y0), (PV.int .i64 y1)])]) fun (y2 : (Int)) =>
  bif (y2 != (0 : Int)) then
    some ((0 : Int), ((0 : Int), ((0 : Int), ((0 : Int), y2))))
  else bindO (F 123 (RSh.one CK.list) [(PV.it [Option.none, Option.none] 0), (PV.imm [(PV.list n cs)] 0), (PV.imm [(PV.int .i64 len)] 0)]) fun (y3 : ((Nat) × (List PV))) =>
  bindO (L3000060 (TgHi_3000060a y3.1 y3.2 (0 : Int) n cs (0 : Int) (0 : Int) (0 : Int) (0 : Int) (12 : Int))) fun y4 =>
  some (y4.2.2.1, (y4.2.2.2.1, (y4.2.2.2.2.1, (y4.2.2.2.2.2.1, y4.2.2.2.2.2.2))))
theorem tgHi_eq (F : FnT) (L3000060 : Q → Option YgHi_3000060)(n : Nat) (cs : List PV) (len : Int) : semF (callP F EgHi 20) s89 (loopT [⟨3000060, YgHi_3000060, L3000060, XLgHi_3000060⟩]) 400 a89 [.list n cs, .int .i64 len, .fn 88 [], .fn 92 []] (fun rv => decR (RSh.tup [(Prod.mk true [(CK.int .i64), (CK.int .i64), (CK.int .i64), (CK.int .i64)]), (Prod.mk false [(CK.int .i64)])]) rv.pv) = tgHi F L3000060 n cs len := by kernel_rfl
noncomputable abbrev FgHi (args : List PV) := Fn env 89 (RSh.tup [(Prod.mk true [(CK.int .i64), (CK.int .i64), (CK.int .i64), (CK.int .i64)]), (Prod.mk false [(CK.int .i64)])]) args
theorem FgHi_of (n : Nat) (cs : List PV) (len : Int) {res : ((Int) × ((Int) × ((Int) × ((Int) × (Int)))))} (h : tgHi (Fn env) LgHi_3000060 n cs len = some res) : FgHi [.list n cs, .int .i64 len, .fn 88 [], .fn 92 []] = some res :=
  fn_of EgHi_ok rfl rfl (lo_cons (lpO_ok UgHi) lo_nil) ((tgHi_eq _ _ _ _ _).trans h)
def EsLoss : List Entry := [.out 89 (RSh.tup [(Prod.mk true [(CK.int .i64), (CK.int .i64), (CK.int .i64), (CK.int .i64)]), (Prod.mk false [(CK.int .i64)])])]
theorem EsLoss_ok : ∀ e ∈ EsLoss, EntOK env e := (ent_out ent_nil)
def tsLoss (F : FnT) (p0n : Nat) (p0c : List PV) (p1 : Int) : Option ((Int) × ((Int) × ((Int) × ((Int) × (Int))))) :=
  bindO (F 89 (RSh.tup [(Prod.mk true [(CK.int .i64), (CK.int .i64), (CK.int .i64), (CK.int .i64)]), (Prod.mk false [(CK.int .i64)])]) [(PV.list p0n p0c), (PV.int .i64 p1), (PV.fn 88 []), (PV.fn 90 [])]) fun (y0 : ((Int) × ((Int) × ((Int) × ((Int) × (Int)))))) =>
  some (y0.1, (y0.2.1, (y0.2.2.1, (y0.2.2.2.1, y0.2.2.2.2))))
theorem tsLoss_eq (F : FnT) (p0n : Nat) (p0c : List PV) (p1 : Int) : semF (callP F EsLoss 20) s24 (loopT []) 400 a24 [PV.list p0n p0c, PV.int .i64 p1] (fun rv => decR (RSh.tup [(Prod.mk true [(CK.int .i64), (CK.int .i64), (CK.int .i64), (CK.int .i64)]), (Prod.mk false [(CK.int .i64)])]) rv.pv) = tsLoss F p0n p0c p1 := by kernel_rfl
noncomputable abbrev FsLoss (args : List PV) := Fn env 24 (RSh.tup [(Prod.mk true [(CK.int .i64), (CK.int .i64), (CK.int .i64), (CK.int .i64)]), (Prod.mk false [(CK.int .i64)])]) args
theorem FsLoss_of  (p0n : Nat) (p0c : List PV) (p1 : Int) {res : ((Int) × ((Int) × ((Int) × ((Int) × (Int)))))} (h : tsLoss (Fn env) p0n p0c p1 = some res) : FsLoss [PV.list p0n p0c, PV.int .i64 p1] = some res :=
  fn_of EsLoss_ok rfl rfl lo_nil ((tsLoss_eq _ _ _ _).trans h)
def EsGain : List Entry := [.out 89 (RSh.tup [(Prod.mk true [(CK.int .i64), (CK.int .i64), (CK.int .i64), (CK.int .i64)]), (Prod.mk false [(CK.int .i64)])])]
theorem EsGain_ok : ∀ e ∈ EsGain, EntOK env e := (ent_out ent_nil)
def tsGain (F : FnT) (p0n : Nat) (p0c : List PV) (p1 : Int) : Option ((Int) × ((Int) × ((Int) × ((Int) × (Int))))) :=
  bindO (F 89 (RSh.tup [(Prod.mk true [(CK.int .i64), (CK.int .i64), (CK.int .i64), (CK.int .i64)]), (Prod.mk false [(CK.int .i64)])]) [(PV.list p0n p0c), (PV.int .i64 p1), (PV.fn 91 []), (PV.fn 90 [])]) fun (y0 : ((Int) × ((Int) × ((Int) × ((Int) × (Int)))))) =>
  some (y0.1, (y0.2.1, (y0.2.2.1, (y0.2.2.2.1, y0.2.2.2.2))))
theorem tsGain_eq (F : FnT) (p0n : Nat) (p0c : List PV) (p1 : Int) : semF (callP F EsGain 20) s25 (loopT []) 400 a25 [PV.list p0n p0c, PV.int .i64 p1] (fun rv => decR (RSh.tup [(Prod.mk true [(CK.int .i64), (CK.int .i64), (CK.int .i64), (CK.int .i64)]), (Prod.mk false [(CK.int .i64)])]) rv.pv) = tsGain F p0n p0c p1 := by kernel_rfl
noncomputable abbrev FsGain (args : List PV) := Fn env 25 (RSh.tup [(Prod.mk true [(CK.int .i64), (CK.int .i64), (CK.int .i64), (CK.int .i64)]), (Prod.mk false [(CK.int .i64)])]) args
theorem FsGain_of  (p0n : Nat) (p0c : List PV) (p1 : Int) {res : ((Int) × ((Int) × ((Int) × ((Int) × (Int)))))} (h : tsGain (Fn env) p0n p0c p1 = some res) : FsGain [PV.list p0n p0c, PV.int .i64 p1] = some res :=
  fn_of EsGain_ok rfl rfl lo_nil ((tsGain_eq _ _ _ _).trans h)
def EpLoss : List Entry := [.out 89 (RSh.tup [(Prod.mk true [(CK.int .i64), (CK.int .i64), (CK.int .i64), (CK.int .i64)]), (Prod.mk false [(CK.int .i64)])])]
theorem EpLoss_ok : ∀ e ∈ EpLoss, EntOK env e := (ent_out ent_nil)
def tpLoss (F : FnT) (p0n : Nat) (p0c : List PV) (p1 : Int) : Option ((Int) × (Int)) :=
  bindO (F 89 (RSh.tup [(Prod.mk true [(CK.int .i64), (CK.int .i64), (CK.int .i64), (CK.int .i64)]), (Prod.mk false [(CK.int .i64)])]) [(PV.list p0n p0c), (PV.int .i64 p1), (PV.fn 88 []), (PV.fn 92 [])]) fun (y0 : ((Int) × ((Int) × ((Int) × ((Int) × (Int)))))) =>
  some (y0.2.2.2.1, y0.2.2.2.2)
theorem tpLoss_eq (F : FnT) (p0n : Nat) (p0c : List PV) (p1 : Int) : semF (callP F EpLoss 20) s26 (loopT []) 400 a26 [PV.list p0n p0c, PV.int .i64 p1] (fun rv => decR (RSh.tup [(Prod.mk false [(CK.int .i64)]), (Prod.mk false [(CK.int .i64)])]) rv.pv) = tpLoss F p0n p0c p1 := by kernel_rfl
noncomputable abbrev FpLoss (args : List PV) := Fn env 26 (RSh.tup [(Prod.mk false [(CK.int .i64)]), (Prod.mk false [(CK.int .i64)])]) args
theorem FpLoss_of  (p0n : Nat) (p0c : List PV) (p1 : Int) {res : ((Int) × (Int))} (h : tpLoss (Fn env) p0n p0c p1 = some res) : FpLoss [PV.list p0n p0c, PV.int .i64 p1] = some res :=
  fn_of EpLoss_ok rfl rfl lo_nil ((tpLoss_eq _ _ _ _).trans h)
def Eramps : List Entry := [.inl 93 a93 s93, .out 87 (RSh.one (CK.int .i64)), .out 78 (RSh.one (CK.int .i64)), .out 73 (RSh.one (CK.int .i64)), .out 88 (RSh.agg [(CK.int .i64), (CK.int .i64)]), .out 90 (RSh.one (CK.int .i64))]
theorem Eramps_ok : ∀ e ∈ Eramps, EntOK env e := (ent_inl rfl (ent_out (ent_out (ent_out (ent_out (ent_out ent_nil))))))
def Tramps_0a (n0 : Nat) (c1 : List PV) (i2 i3 : Int) : Q := ⟨(tm 41 [(0, (AV.p (PV.list n0 c1))), (1, (AV.p (PV.int .i64 i2))), (7, AV.nilS), (8, (AV.p (PV.int .i64 i3)))]), (mm 41 [])⟩
def Tramps_0b (n0 : Nat) (c1 : List PV) (i2 : Int) (n3 : Nat) (i4 : Int) (n5 : Nat) (c6 : List PV) : Q := ⟨(tm 41 [(0, (AV.p (PV.list n0 c1))), (1, (AV.p (PV.int .i64 i2))), (7, (AV.vap 39 n3 2)), (8, (AV.p (PV.int .i64 i4)))]), (mm 41 [(39, (Bk.vec true n5 2 c6))])⟩
def Xramps_0a (_y : Unit) : Ext × Q := (Ext.normal, ⟨(tm 41 [(7, AV.nilS)]), (mm 41 [])⟩)
def Iramps_0a (_q : Ext × S) : Unit := ()
def Xramps_0b (y : Nat × Nat × List PV) : Ext × Q := (Ext.normal, ⟨(tm 41 [(7, (AV.vap 39 y.1 2))]), (mm 41 [(39, (Bk.vec true y.2.1 2 y.2.2))])⟩)
def Iramps_0b (q : Ext × S) : Nat × Nat × List PV := ((pA_vap1 (avT q.2 7)), (pB_vec1 (avM q.2 39)), (pB_vec3 (avM q.2 39)))
abbrev Yramps_0 : Type := (Unit) ⊕ ((Nat × Nat × List PV))
def XLramps_0 : XL Yramps_0 := .more Xramps_0a (.one Xramps_0b)
def Iramps_0 (q : Ext × S) : Yramps_0 := bif (cA (avT q.2 7) == 1) then (Sum.inl (Iramps_0a q)) else (Sum.inr (Iramps_0b q))
theorem XIramps_0a (y : Unit) : Iramps_0 (xe (Xramps_0a y)) = (Sum.inl y) := by kernel_rfl
theorem XIramps_0b (y : Nat × Nat × List PV) : Iramps_0 (xe (Xramps_0b y)) = (Sum.inr y) := by kernel_rfl
theorem XIramps_0 (y : Yramps_0) : Iramps_0 (xe (XLramps_0.fn y)) = y := (match y with | .inl y => XIramps_0a y | .inr y => XIramps_0b y)
noncomputable abbrev Lramps_0 : Q → Option Yramps_0 := lpO env a27.body 0 XLramps_0
noncomputable abbrev Rramps_0 : Q → Option (Ext × S) := lpR env a27.body 0
theorem Uramps : uniq ((blocksOf a27.body).map (·.1)) = true := by kernel_rfl
def Bramps_0a (F : FnT) (N : QO) (E : EO) (_L0 : Q → Option Yramps_0) (n0 : Nat) (c1 : List PV) (i2 i3 : Int) : Option (Ext × S) :=
  bif (decide (i3 < (n0 : Int))) then
    bif (decide (((0 : Int) ≤ (w64 (i3 - (1 : Int)))) ∧ ((w64 (i3 - (1 : Int))) < (n0 : Int)))) then
      bindO (intC .i64 (c1[((Int.toNat (w64 (i3 - (1 : Int)))) * 3)]?)) fun x0 =>
      bindO (intC .i64 (c1[(((Int.toNat (w64 (i3 - (1 : Int)))) * 3) + 1)]?)) fun x1 =>
      bindO (intC .i64 (c1[((((Int.toNat (w64 (i3 - (1 : Int)))) * 3) + 1) + 1)]?)) fun x2 =>
      bif (decide (((0 : Int) ≤ i3) ∧ (i3 < (n0 : Int)))) then
        bindO (intC .i64 (c1[((Int.toNat i3) * 3)]?)) fun x3 =>
        bindO (intC .i64 (c1[(((Int.toNat i3) * 3) + 1)]?)) fun x4 =>
        bindO (intC .i64 (c1[((((Int.toNat i3) * 3) + 1) + 1)]?)) fun x5 =>
        bindO (F 88 (RSh.agg [(CK.int .i64), (CK.int .i64)]) [(PV.agg [(PV.int .i64 x0), (PV.int .i64 x1), (PV.int .i64 x2)]), (PV.agg [(PV.int .i64 x3), (PV.int .i64 x4), (PV.int .i64 x5)])]) fun (y6 : ((Int) × (Int))) =>
        bindO (F 90 (RSh.one (CK.int .i64)) [(PV.agg [(PV.int .i64 y6.1), (PV.int .i64 y6.2)])]) fun (y7 : (Int)) =>
        bif (decide (y7 ≥ i2)) then
          N (Tramps_0b n0 c1 i2 1 (w64 (i3 + (1 : Int))) 1 [(PV.int .i64 (w64 (i3 - (1 : Int)))), (PV.int .i64 i3)])
        else N (Tramps_0a n0 c1 i2 (w64 (i3 + (1 : Int))))
      else none
    else none
  else E (Xramps_0a ())
theorem Bramps_0a_eq (F : FnT) (N : QO) (E : EO) (L0 : Q → Option Yramps_0) (n0 : Nat) (c1 : List PV) (i2 i3 : Int) : semB (callP F Eramps 20) s27 (loopT [⟨0, Yramps_0, L0, XLramps_0⟩]) 400 (blkIn a27.body 0) N E (Tramps_0a n0 c1 i2 i3) = Bramps_0a F N E L0 n0 c1 i2 i3 := by kernel_rfl
theorem Rramps_0a_of  (n0 : Nat) (c1 : List PV) (i2 i3 : Int) {r : Ext × S} (h : Bramps_0a (Fn env) Rramps_0 exO Lramps_0 n0 c1 i2 i3 = some r) : Rramps_0 (Tramps_0a n0 c1 i2 i3) = some r :=
  lp_of Eramps_ok (by kernel_rfl) (lo_cons (lpO_ok Uramps) lo_nil) (by kernel_rfl) ((Bramps_0a_eq _ _ _ _ _ _ _ _).trans h)
def Bramps_0b (F : FnT) (N : QO) (E : EO) (_L0 : Q → Option Yramps_0) (n0 : Nat) (c1 : List PV) (i2 : Int) (n3 : Nat) (i4 : Int) (n5 : Nat) (c6 : List PV) : Option (Ext × S) :=
  bif (decide (i4 < (n0 : Int))) then
    bif (decide (((0 : Int) ≤ (w64 (i4 - (1 : Int)))) ∧ ((w64 (i4 - (1 : Int))) < (n0 : Int)))) then
      bindO (intC .i64 (c1[((Int.toNat (w64 (i4 - (1 : Int)))) * 3)]?)) fun x0 =>
      bindO (intC .i64 (c1[(((Int.toNat (w64 (i4 - (1 : Int)))) * 3) + 1)]?)) fun x1 =>
      bindO (intC .i64 (c1[((((Int.toNat (w64 (i4 - (1 : Int)))) * 3) + 1) + 1)]?)) fun x2 =>
      bif (decide (((0 : Int) ≤ i4) ∧ (i4 < (n0 : Int)))) then
        bindO (intC .i64 (c1[((Int.toNat i4) * 3)]?)) fun x3 =>
        bindO (intC .i64 (c1[(((Int.toNat i4) * 3) + 1)]?)) fun x4 =>
        bindO (intC .i64 (c1[((((Int.toNat i4) * 3) + 1) + 1)]?)) fun x5 =>
        bindO (F 88 (RSh.agg [(CK.int .i64), (CK.int .i64)]) [(PV.agg [(PV.int .i64 x0), (PV.int .i64 x1), (PV.int .i64 x2)]), (PV.agg [(PV.int .i64 x3), (PV.int .i64 x4), (PV.int .i64 x5)])]) fun (y6 : ((Int) × (Int))) =>
        bindO (F 90 (RSh.one (CK.int .i64)) [(PV.agg [(PV.int .i64 y6.1), (PV.int .i64 y6.2)])]) fun (y7 : (Int)) =>
        bif (decide (y7 ≥ i2)) then
          bif (decide ((w64 ((n3 : Int) - (1 : Int))) ≥ (0 : Int))) then
            bif (decide (((0 : Int) ≤ (w64 ((n3 : Int) - (1 : Int)))) ∧ ((w64 ((n3 : Int) - (1 : Int))) < (n3 : Int)))) then
              bif (decide (n5 = n3)) then
                bindO (intC .i64 (c6[(((Int.toNat (w64 ((n3 : Int) - (1 : Int)))) * 2) + 1)]?)) fun x8 =>
                bif (x8 == (w64 (i4 - (1 : Int)))) then
                  bif (decide (((0 : Int) ≤ (w64 ((n3 : Int) - (1 : Int)))) ∧ ((w64 ((n3 : Int) - (1 : Int))) < (n3 : Int)))) then
                    bif (decide (n5 = n3)) then
                      bindO (Gv.overO c6 (((Int.toNat (w64 ((n3 : Int) - (1 : Int)))) * 2) + 1) [(PV.int .i64 i4)]) fun x9 =>
                      N (Tramps_0b n0 c1 i2 n3 (w64 (i4 + (1 : Int))) n3 x9)
                    else none
                  else none
                else bif (decide ((n5 = n3) ∧ ((n3 + 1) ≤ big))) then
                  N (Tramps_0b n0 c1 i2 (n3 + 1) (w64 (i4 + (1 : Int))) (n3 + 1) (c6 ++ [(PV.int .i64 (w64 (i4 - (1 : Int)))), (PV.int .i64 i4)]))
                else none
              else none
            else none
          else bif (decide ((n5 = n3) ∧ ((n3 + 1) ≤ big))) then
            N (Tramps_0b n0 c1 i2 (n3 + 1) (w64 (i4 + (1 : Int))) (n3 + 1) (c6 ++ [(PV.int .i64 (w64 (i4 - (1 : Int)))), (PV.int .i64 i4)]))
          else none
        else N (Tramps_0b n0 c1 i2 n3 (w64 (i4 + (1 : Int))) n5 c6)
      else none
    else none
  else E (Xramps_0b (n3, n5, c6))
theorem Bramps_0b_eq (F : FnT) (N : QO) (E : EO) (L0 : Q → Option Yramps_0) (n0 : Nat) (c1 : List PV) (i2 : Int) (n3 : Nat) (i4 : Int) (n5 : Nat) (c6 : List PV) : semB (callP F Eramps 20) s27 (loopT [⟨0, Yramps_0, L0, XLramps_0⟩]) 400 (blkIn a27.body 0) N E (Tramps_0b n0 c1 i2 n3 i4 n5 c6) = Bramps_0b F N E L0 n0 c1 i2 n3 i4 n5 c6 := by kernel_rfl
theorem Rramps_0b_of  (n0 : Nat) (c1 : List PV) (i2 : Int) (n3 : Nat) (i4 : Int) (n5 : Nat) (c6 : List PV) {r : Ext × S} (h : Bramps_0b (Fn env) Rramps_0 exO Lramps_0 n0 c1 i2 n3 i4 n5 c6 = some r) : Rramps_0 (Tramps_0b n0 c1 i2 n3 i4 n5 c6) = some r :=
  lp_of Eramps_ok (by kernel_rfl) (lo_cons (lpO_ok Uramps) lo_nil) (by kernel_rfl) ((Bramps_0b_eq _ _ _ _ _ _ _ _ _ _ _).trans h)
def tramps (F : FnT) (L0 : Q → Option Yramps_0) (p0n : Nat) (p0c : List PV) (p1 : Int) : Option (((Nat) × (List PV)) × (Int)) :=
  bindO (F 87 (RSh.one (CK.int .i64)) [(PV.list p0n p0c)]) fun (y0 : (Int)) =>
  bindO (F 78 (RSh.one (CK.int .i64)) [(PV.int .i64 p1), (PV.int .i64 (1 : Int)), (PV.int .i64 (20000 : Int))]) fun (y1 : (Int)) =>
  bindO (F 73 (RSh.one (CK.int .i64)) [(PV.list 2 [(PV.int .i64 y0), (PV.int .i64 y1)])]) fun (y2 : (Int)) =>
  bif (y2 != (0 : Int)) then
    some ((0, []), y2)
  else bindO (L0 (Tramps_0a p0n p0c p1 (1 : Int))) fun z =>
  Sum.elim (fun _y3 =>
    some ((0, []), (0 : Int))) (fun y4 =>
    bif (decide (y4.2.1 = y4.1)) then
      some ((y4.1, y4.2.2), (0 : Int))
    else none) z
theorem tramps_eq (F : FnT) (L0 : Q → Option Yramps_0) (p0n : Nat) (p0c : List PV) (p1 : Int) : semF (callP F Eramps 20) s27 (loopT [⟨0, Yramps_0, L0, XLramps_0⟩]) 400 a27 [PV.list p0n p0c, PV.int .i64 p1] (fun rv => decR (RSh.tup [(Prod.mk false [CK.list]), (Prod.mk false [(CK.int .i64)])]) rv.pv) = tramps F L0 p0n p0c p1 := by kernel_rfl
noncomputable abbrev Framps (args : List PV) := Fn env 27 (RSh.tup [(Prod.mk false [CK.list]), (Prod.mk false [(CK.int .i64)])]) args
theorem Framps_of  (p0n : Nat) (p0c : List PV) (p1 : Int) {res : (((Nat) × (List PV)) × (Int))} (h : tramps (Fn env) Lramps_0 p0n p0c p1 = some res) : Framps [PV.list p0n p0c, PV.int .i64 p1] = some res :=
  fn_of Eramps_ok rfl rfl (lo_cons (lpO_ok Uramps) lo_nil) ((tramps_eq _ _ _ _ _).trans h)
end Gv
