/- What the functions do, round by round: M3. -/
import Derived.Test.YtlpecmcejjgmfaaM2
namespace Gv
open Go
set_option maxRecDepth 100000

/-! ### line_thresholdError -/

def Eline_thresholdError : List Entry := [.out 46 (RSh.one (CK.int IntKind.i64))]
theorem Eline_thresholdError_ok : ∀ e ∈ Eline_thresholdError, EntOK env e := (ent_out ent_nil)
theorem Uline_thresholdError : uniq ((blocksOf a57.body).map (·.1)) = true := by kernel_rfl
def tline_thresholdError (F : FnT) (p0 : Int) : Option (Int) :=
  bindO (F 46 (RSh.one (CK.int IntKind.i64)) [(PV.int IntKind.i64 p0), (PV.int IntKind.i64 (0 : Int)), (PV.int IntKind.i64 (11000 : Int))]) fun (y0 : (Int)) =>
  some y0
theorem tline_thresholdError_eq (F : FnT) (p0 : Int) : semF (callP F Eline_thresholdError 20) s57 (loopT []) 400 a57 [PV.int IntKind.i64 p0] (fun rv => decR (RSh.one (CK.int IntKind.i64)) rv.pv) = tline_thresholdError F p0 := by kernel_rfl
noncomputable abbrev Fline_thresholdError (args : List PV) := Fn env 57 (RSh.one (CK.int IntKind.i64)) args
theorem Fline_thresholdError_of  (p0 : Int) {res : (Int)} (h : tline_thresholdError (Fn env) p0 = some res) : Fline_thresholdError [PV.int IntKind.i64 p0] = some res :=
  fn_of Eline_thresholdError_ok rfl rfl lo_nil ((tline_thresholdError_eq _ _).trans h)

/-! ### line_isDetected -/

def Eline_isDetected : List Entry := [.inl 49 a49 s49, .out 83 (RSh.one CK.list)]
theorem Eline_isDetected_ok : ∀ e ∈ Eline_isDetected, EntOK env e := (ent_inl rfl (ent_out ent_nil))
def Tline_isDetected_3000042a (n0 : Nat) (c1 : List PV) (i2 : Int) (n3 : Nat) (c4 : List PV) (i5 : Int) (i6 : Int) (i7 : Int) : Q := ⟨(tm 66 [(3, (AV.loc 3 0)), (4, (AV.loc 4 0)), (6, (AV.loc 6 0)), (42, (AV.p (PV.list n0 c1))), (43, (AV.p (PV.int IntKind.i64 i2)))]), (mm 66 [(3, (Bk.cells true [(AV.p (PV.list n3 c4))])), (4, (Bk.pcs true [(PV.int IntKind.i64 i5)])), (5, (Bk.pcs true [(PV.int IntKind.i64 i6), (PV.int IntKind.i64 i7)])), (6, (Bk.pcs true [(PV.bool false)]))])⟩
def Xline_isDetected_3000042a (y : Unit) : Ext × Q := (Ext.ret, ⟨(tm 66 [(6, (AV.loc 6 0))]), (mm 66 [(6, (Bk.pcs true [(PV.bool false)]))])⟩)
def Iline_isDetected_3000042a (q : Ext × S) : Unit := ()
def Xline_isDetected_3000042b (y : Nat × List PV × Int × Int × Int) : Ext × Q := (Ext.normal, ⟨(tm 66 [(3, (AV.loc 3 0)), (4, (AV.loc 4 0)), (6, (AV.loc 6 0))]), (mm 66 [(3, (Bk.cells true [(AV.p (PV.list y.1 y.2.1))])), (4, (Bk.pcs true [(PV.int IntKind.i64 y.2.2.1)])), (5, (Bk.pcs true [(PV.int IntKind.i64 y.2.2.2.1), (PV.int IntKind.i64 y.2.2.2.2)])), (6, (Bk.pcs true [(PV.bool false)]))])⟩)
def Iline_isDetected_3000042b (q : Ext × S) : Nat × List PV × Int × Int × Int := ((pP_list0 (pA_p (hdA (pB_cells1 (avM q.2 3))))), (pP_list1 (pA_p (hdA (pB_cells1 (avM q.2 3))))), (pP_int1 (hdP (pB_pcs1 (avM q.2 4)))), (pP_int1 (hdP (pB_pcs1 (avM q.2 5)))), (pP_int1 (hdP (List.tail (pB_pcs1 (avM q.2 5))))))
abbrev Yline_isDetected_3000042 : Type := (Unit) ⊕ ((Nat × List PV × Int × Int × Int))
def XLline_isDetected_3000042 : XL Yline_isDetected_3000042 := .more Xline_isDetected_3000042a (.one Xline_isDetected_3000042b)
def Iline_isDetected_3000042 (q : Ext × S) : Yline_isDetected_3000042 := bif (cE q.1 == 2) then (Sum.inl (Iline_isDetected_3000042a q)) else (Sum.inr (Iline_isDetected_3000042b q))
theorem XIline_isDetected_3000042a (y : Unit) : Iline_isDetected_3000042 (xe (Xline_isDetected_3000042a y)) = (Sum.inl y) := rfl
theorem XIline_isDetected_3000042b (y : Nat × List PV × Int × Int × Int) : Iline_isDetected_3000042 (xe (Xline_isDetected_3000042b y)) = (Sum.inr y) := rfl
theorem XIline_isDetected_3000042 (y : Yline_isDetected_3000042) : Iline_isDetected_3000042 (xe (XLline_isDetected_3000042.fn y)) = y := (match y with | .inl y => XIline_isDetected_3000042a y | .inr y => XIline_isDetected_3000042b y)
noncomputable abbrev Lline_isDetected_3000042 : Q → Option Yline_isDetected_3000042 := lpO env a60.body 3000042 XLline_isDetected_3000042
noncomputable abbrev Rline_isDetected_3000042 : Q → Option (Ext × S) := lpR env a60.body 3000042
theorem Lline_isDetected_3000042a_of {s : Q} {y : Unit} (h : Rline_isDetected_3000042 s = exO (Xline_isDetected_3000042a y)) : Lline_isDetected_3000042 s = some (Sum.inl y) := lpO_of Iline_isDetected_3000042 XIline_isDetected_3000042 (y := (Sum.inl y)) h
theorem Lline_isDetected_3000042b_of {s : Q} {y : Nat × List PV × Int × Int × Int} (h : Rline_isDetected_3000042 s = exO (Xline_isDetected_3000042b y)) : Lline_isDetected_3000042 s = some (Sum.inr y) := lpO_of Iline_isDetected_3000042 XIline_isDetected_3000042 (y := (Sum.inr y)) h
theorem Uline_isDetected : uniq ((blocksOf a60.body).map (·.1)) = true := by kernel_rfl
def Bline_isDetected_3000042a (F : FnT) (N : Q → Option (Ext × S)) (E : Ext × Q → Option (Ext × S)) (L3000042 : Q → Option Yline_isDetected_3000042) (n0 : Nat) (c1 : List PV) (i2 : Int) (n3 : Nat) (c4 : List PV) (i5 : Int) (i6 : Int) (i7 : Int) : Option (Ext × S) :=
  bif (decide (i2 < (n0 : Int))) then
    bif (decide (((0 : Int) ≤ i2) ∧ (i2 < (n0 : Int)))) then
      bindO (intC IntKind.i64 (c1[(((Int.toNat i2) * 2) + 0)]?)) fun x0 =>
      bindO (intC IntKind.i64 (c1[(((Int.toNat i2) * 2) + 1)]?)) fun x1 =>
      bif (decide (((0 : Int) ≤ i5) ∧ (i5 < (n3 : Int)))) then
        bindO (intC IntKind.i64 (c4[((Int.toNat i5) * 1)]?)) fun x2 =>
        bif (decide (x1 > x2)) then
          E (Xline_isDetected_3000042a ())
        else bif (decide (x0 < i5)) then
          bif (decide (((0 : Int) ≤ i5) ∧ (i5 < (n3 : Int)))) then
            bindO (intC IntKind.i64 (c4[((Int.toNat i5) * 1)]?)) fun x3 =>
            bif (x1 == x3) then
              E (Xline_isDetected_3000042a ())
            else N (Tline_isDetected_3000042a n0 c1 (w64 (i2 + (1 : Int))) n3 c4 i5 i6 i7)
          else none
        else N (Tline_isDetected_3000042a n0 c1 (w64 (i2 + (1 : Int))) n3 c4 i5 i6 i7)
      else none
    else none
  else E (Xline_isDetected_3000042b (n3, c4, i5, i6, i7))
theorem Bline_isDetected_3000042a_eq (F : FnT) (N : Q → Option (Ext × S)) (E : Ext × Q → Option (Ext × S)) (L3000042 : Q → Option Yline_isDetected_3000042) (n0 : Nat) (c1 : List PV) (i2 : Int) (n3 : Nat) (c4 : List PV) (i5 : Int) (i6 : Int) (i7 : Int) : semB (callP F Eline_isDetected 20) s60 (loopT [⟨3000042, Yline_isDetected_3000042, L3000042, XLline_isDetected_3000042⟩]) 400 (blkIn a60.body 3000042) N E (Tline_isDetected_3000042a n0 c1 i2 n3 c4 i5 i6 i7) = Bline_isDetected_3000042a F N E L3000042 n0 c1 i2 n3 c4 i5 i6 i7 := by kernel_rfl
theorem Rline_isDetected_3000042a_of  (n0 : Nat) (c1 : List PV) (i2 : Int) (n3 : Nat) (c4 : List PV) (i5 : Int) (i6 : Int) (i7 : Int) {r : Ext × S} (h : Bline_isDetected_3000042a (Fn env) Rline_isDetected_3000042 exO Lline_isDetected_3000042 n0 c1 i2 n3 c4 i5 i6 i7 = some r) : Rline_isDetected_3000042 (Tline_isDetected_3000042a n0 c1 i2 n3 c4 i5 i6 i7) = some r :=
  lp_of Eline_isDetected_ok (by kernel_rfl) (lo_cons (lpO_ok Uline_isDetected) lo_nil) (by kernel_rfl) ((Bline_isDetected_3000042a_eq _ _ _ _ _ _ _ _ _ _ _ _).trans h)
def tline_isDetected (F : FnT) (L3000042 : Q → Option Yline_isDetected_3000042) (p0n : Nat) (p0c : List PV) (p1 : Int) (p2_0 : Int) (p2_1 : Int) : Option (Bool) :=
  bif (decide (((0 : Int) ≤ p1) ∧ (p1 < (p0n : Int)))) then
    bindO (intC IntKind.i64 (p0c[((Int.toNat p1) * 1)]?)) fun x0 =>
    bif (decide (x0 < p2_0)) then
      some false
    else bindO (F 83 (RSh.one CK.list) [(PV.it [Option.none, Option.none] 0), (PV.imm [(PV.int IntKind.i64 p1)] 0), (PV.imm [(PV.int IntKind.i64 p2_1)] 0), (PV.imm [(PV.list p0n p0c)] 0)]) fun (y1 : ((Nat) × (List PV))) =>
    bindO (L3000042 (Tline_isDetected_3000042a y1.1 y1.2 (0 : Int) p0n p0c p1 p2_0 p2_1)) fun z =>
    Sum.elim (fun y2 =>
      some false) (fun y3 =>
      some true) z
  else none
theorem tline_isDetected_eq (F : FnT) (L3000042 : Q → Option Yline_isDetected_3000042) (p0n : Nat) (p0c : List PV) (p1 : Int) (p2_0 : Int) (p2_1 : Int) : semF (callP F Eline_isDetected 20) s60 (loopT [⟨3000042, Yline_isDetected_3000042, L3000042, XLline_isDetected_3000042⟩]) 400 a60 [PV.list p0n p0c, PV.int IntKind.i64 p1, PV.agg [PV.int IntKind.i64 p2_0, PV.int IntKind.i64 p2_1]] (fun rv => decR (RSh.one CK.bool) rv.pv) = tline_isDetected F L3000042 p0n p0c p1 p2_0 p2_1 := by kernel_rfl
noncomputable abbrev Fline_isDetected (args : List PV) := Fn env 60 (RSh.one CK.bool) args
theorem Fline_isDetected_of  (p0n : Nat) (p0c : List PV) (p1 : Int) (p2_0 : Int) (p2_1 : Int) {res : (Bool)} (h : tline_isDetected (Fn env) Lline_isDetected_3000042 p0n p0c p1 p2_0 p2_1 = some res) : Fline_isDetected [PV.list p0n p0c, PV.int IntKind.i64 p1, PV.agg [PV.int IntKind.i64 p2_0, PV.int IntKind.i64 p2_1]] = some res :=
  fn_of Eline_isDetected_ok rfl rfl (lo_cons (lpO_ok Uline_isDetected) lo_nil) ((tline_isDetected_eq _ _ _ _ _ _ _).trans h)

/-! ### line_DetectionsIn_1 -/

def Eline_DetectionsIn_1 : List Entry := [.out 60 (RSh.one CK.bool)]
theorem Eline_DetectionsIn_1_ok : ∀ e ∈ Eline_DetectionsIn_1, EntOK env e := (ent_out ent_nil)
theorem Uline_DetectionsIn_1 : uniq ((blocksOf a59.body).map (·.1)) = true := by kernel_rfl
def tline_DetectionsIn_1 (F : FnT)(i : Int) (n : Nat) (cs : List PV) (t a : Int) : Option (Bool) :=
  bindO (F 60 (RSh.one CK.bool) [(PV.list (Prod.mk n cs).1 (Prod.mk n cs).2), (PV.int IntKind.i64 i), (PV.agg [(PV.int IntKind.i64 t), (PV.int IntKind.i64 a)])]) fun (y0 : (Bool)) =>
  bif y0 then
    some true
  else some false
theorem tline_DetectionsIn_1_eq (F : FnT)(i : Int) (n : Nat) (cs : List PV) (t a : Int) : semF (callP F Eline_DetectionsIn_1 20) s59 (loopT []) 400 a59 [.int .i64 i, .imm [.list n cs] 0, .imm [.int .i64 t, .int .i64 a] 0] (fun rv => decR (RSh.one CK.bool) rv.pv) = tline_DetectionsIn_1 F i n cs t a := by kernel_rfl
noncomputable abbrev Fline_DetectionsIn_1 (args : List PV) := Fn env 59 (RSh.one CK.bool) args
theorem Fline_DetectionsIn_1_of (i : Int) (n : Nat) (cs : List PV) (t a : Int) {res : (Bool)} (h : tline_DetectionsIn_1 (Fn env) i n cs t a = some res) : Fline_DetectionsIn_1 [.int .i64 i, .imm [.list n cs] 0, .imm [.int .i64 t, .int .i64 a] 0] = some res :=
  fn_of Eline_DetectionsIn_1_ok rfl rfl lo_nil ((tline_DetectionsIn_1_eq _ _ _ _ _ _).trans h)

/-! ### line_indexesWith_det -/

def Eline_indexesWith_det : List Entry := [.out 59 (RSh.one CK.bool)]
theorem Eline_indexesWith_det_ok : ∀ e ∈ Eline_indexesWith_det, EntOK env e := (ent_out ent_nil)
def Tline_indexesWith_det_0a (n0 : Nat) (c1 : List PV) (i2 : Int) (i3 : Int) (i4 : Int) (i5 : Int) : Q := ⟨(tm 20 [(1, (AV.p (PV.fn 59 [(PV.imm [(PV.list n0 c1)] 0), (PV.imm [(PV.int IntKind.i64 i2), (PV.int IntKind.i64 i3)] 0)]))), (5, AV.nilS), (7, (AV.p (PV.int IntKind.i64 i4))), (8, (AV.p (PV.int IntKind.i64 i5)))]), (mm 20 [])⟩
def Tline_indexesWith_det_0b (n0 : Nat) (c1 : List PV) (i2 : Int) (i3 : Int) (n4 : Nat) (c5 : List PV) (i6 : Int) (i7 : Int) (n8 : Nat) : Q := ⟨(tm 20 [(1, (AV.p (PV.fn 59 [(PV.imm [(PV.list n0 c1)] 0), (PV.imm [(PV.int IntKind.i64 i2), (PV.int IntKind.i64 i3)] 0)]))), (5, (AV.app 17 n4 1 c5)), (7, (AV.p (PV.int IntKind.i64 i6))), (8, (AV.p (PV.int IntKind.i64 i7)))]), (mm 20 [(17, (Bk.buf n8))])⟩
def Xline_indexesWith_det_0a (y : Unit) : Ext × Q := (Ext.normal, ⟨(tm 20 [(5, AV.nilS)]), (mm 20 [])⟩)
def Iline_indexesWith_det_0a (q : Ext × S) : Unit := ()
def Xline_indexesWith_det_0b (y : Nat × List PV × Nat) : Ext × Q := (Ext.normal, ⟨(tm 20 [(5, (AV.app 17 y.1 1 y.2.1))]), (mm 20 [(17, (Bk.buf y.2.2))])⟩)
def Iline_indexesWith_det_0b (q : Ext × S) : Nat × List PV × Nat := ((pA_app1 (avT q.2 5)), (pA_app3 (avT q.2 5)), (pB_buf0 (avM q.2 17)))
abbrev Yline_indexesWith_det_0 : Type := (Unit) ⊕ ((Nat × List PV × Nat))
def XLline_indexesWith_det_0 : XL Yline_indexesWith_det_0 := .more Xline_indexesWith_det_0a (.one Xline_indexesWith_det_0b)
def Iline_indexesWith_det_0 (q : Ext × S) : Yline_indexesWith_det_0 := bif (cA (avT q.2 5) == 1) then (Sum.inl (Iline_indexesWith_det_0a q)) else (Sum.inr (Iline_indexesWith_det_0b q))
theorem XIline_indexesWith_det_0a (y : Unit) : Iline_indexesWith_det_0 (xe (Xline_indexesWith_det_0a y)) = (Sum.inl y) := rfl
theorem XIline_indexesWith_det_0b (y : Nat × List PV × Nat) : Iline_indexesWith_det_0 (xe (Xline_indexesWith_det_0b y)) = (Sum.inr y) := rfl
theorem XIline_indexesWith_det_0 (y : Yline_indexesWith_det_0) : Iline_indexesWith_det_0 (xe (XLline_indexesWith_det_0.fn y)) = y := (match y with | .inl y => XIline_indexesWith_det_0a y | .inr y => XIline_indexesWith_det_0b y)
noncomputable abbrev Lline_indexesWith_det_0 : Q → Option Yline_indexesWith_det_0 := lpO env a58.body 0 XLline_indexesWith_det_0
noncomputable abbrev Rline_indexesWith_det_0 : Q → Option (Ext × S) := lpR env a58.body 0
theorem Lline_indexesWith_det_0a_of {s : Q} {y : Unit} (h : Rline_indexesWith_det_0 s = exO (Xline_indexesWith_det_0a y)) : Lline_indexesWith_det_0 s = some (Sum.inl y) := lpO_of Iline_indexesWith_det_0 XIline_indexesWith_det_0 (y := (Sum.inl y)) h
theorem Lline_indexesWith_det_0b_of {s : Q} {y : Nat × List PV × Nat} (h : Rline_indexesWith_det_0 s = exO (Xline_indexesWith_det_0b y)) : Lline_indexesWith_det_0 s = some (Sum.inr y) := lpO_of Iline_indexesWith_det_0 XIline_indexesWith_det_0 (y := (Sum.inr y)) h
theorem Uline_indexesWith_det : uniq ((blocksOf a58.body).map (·.1)) = true := by kernel_rfl
def Bline_indexesWith_det_0a (F : FnT) (N : Q → Option (Ext × S)) (E : Ext × Q → Option (Ext × S)) (L0 : Q → Option Yline_indexesWith_det_0) (n0 : Nat) (c1 : List PV) (i2 : Int) (i3 : Int) (i4 : Int) (i5 : Int) : Option (Ext × S) :=
  bif (decide (i5 < i4)) then
    bindO (F 59 (RSh.one CK.bool) [(PV.int IntKind.i64 i5), (PV.imm [(PV.list n0 c1)] 0), (PV.imm [(PV.int IntKind.i64 i2), (PV.int IntKind.i64 i3)] 0)]) fun (y0 : (Bool)) =>
    bif y0 then
      N (Tline_indexesWith_det_0b n0 c1 i2 i3 1 [(PV.int IntKind.i64 i5)] i4 (w64 (i5 + (1 : Int))) 1)
    else N (Tline_indexesWith_det_0a n0 c1 i2 i3 i4 (w64 (i5 + (1 : Int))))
  else E (Xline_indexesWith_det_0a ())
theorem Bline_indexesWith_det_0a_eq (F : FnT) (N : Q → Option (Ext × S)) (E : Ext × Q → Option (Ext × S)) (L0 : Q → Option Yline_indexesWith_det_0) (n0 : Nat) (c1 : List PV) (i2 : Int) (i3 : Int) (i4 : Int) (i5 : Int) : semB (callP F Eline_indexesWith_det 20) s58 (loopT [⟨0, Yline_indexesWith_det_0, L0, XLline_indexesWith_det_0⟩]) 400 (blkIn a58.body 0) N E (Tline_indexesWith_det_0a n0 c1 i2 i3 i4 i5) = Bline_indexesWith_det_0a F N E L0 n0 c1 i2 i3 i4 i5 := by kernel_rfl
theorem Rline_indexesWith_det_0a_of  (n0 : Nat) (c1 : List PV) (i2 : Int) (i3 : Int) (i4 : Int) (i5 : Int) {r : Ext × S} (h : Bline_indexesWith_det_0a (Fn env) Rline_indexesWith_det_0 exO Lline_indexesWith_det_0 n0 c1 i2 i3 i4 i5 = some r) : Rline_indexesWith_det_0 (Tline_indexesWith_det_0a n0 c1 i2 i3 i4 i5) = some r :=
  lp_of Eline_indexesWith_det_ok (by kernel_rfl) (lo_cons (lpO_ok Uline_indexesWith_det) lo_nil) (by kernel_rfl) ((Bline_indexesWith_det_0a_eq _ _ _ _ _ _ _ _ _ _).trans h)
def Bline_indexesWith_det_0b (F : FnT) (N : Q → Option (Ext × S)) (E : Ext × Q → Option (Ext × S)) (L0 : Q → Option Yline_indexesWith_det_0) (n0 : Nat) (c1 : List PV) (i2 : Int) (i3 : Int) (n4 : Nat) (c5 : List PV) (i6 : Int) (i7 : Int) (n8 : Nat) : Option (Ext × S) :=
  bif (decide (i7 < i6)) then
    bindO (F 59 (RSh.one CK.bool) [(PV.int IntKind.i64 i7), (PV.imm [(PV.list n0 c1)] 0), (PV.imm [(PV.int IntKind.i64 i2), (PV.int IntKind.i64 i3)] 0)]) fun (y0 : (Bool)) =>
    bif y0 then
      bif (decide ((n8 = n4) ∧ ((n4 + 1) ≤ big))) then
        N (Tline_indexesWith_det_0b n0 c1 i2 i3 (n4 + 1) (c5 ++ [(PV.int IntKind.i64 i7)]) i6 (w64 (i7 + (1 : Int))) (n4 + 1))
      else none
    else N (Tline_indexesWith_det_0b n0 c1 i2 i3 n4 c5 i6 (w64 (i7 + (1 : Int))) n8)
  else E (Xline_indexesWith_det_0b (n4, c5, n8))
theorem Bline_indexesWith_det_0b_eq (F : FnT) (N : Q → Option (Ext × S)) (E : Ext × Q → Option (Ext × S)) (L0 : Q → Option Yline_indexesWith_det_0) (n0 : Nat) (c1 : List PV) (i2 : Int) (i3 : Int) (n4 : Nat) (c5 : List PV) (i6 : Int) (i7 : Int) (n8 : Nat) : semB (callP F Eline_indexesWith_det 20) s58 (loopT [⟨0, Yline_indexesWith_det_0, L0, XLline_indexesWith_det_0⟩]) 400 (blkIn a58.body 0) N E (Tline_indexesWith_det_0b n0 c1 i2 i3 n4 c5 i6 i7 n8) = Bline_indexesWith_det_0b F N E L0 n0 c1 i2 i3 n4 c5 i6 i7 n8 := by kernel_rfl
theorem Rline_indexesWith_det_0b_of  (n0 : Nat) (c1 : List PV) (i2 : Int) (i3 : Int) (n4 : Nat) (c5 : List PV) (i6 : Int) (i7 : Int) (n8 : Nat) {r : Ext × S} (h : Bline_indexesWith_det_0b (Fn env) Rline_indexesWith_det_0 exO Lline_indexesWith_det_0 n0 c1 i2 i3 n4 c5 i6 i7 n8 = some r) : Rline_indexesWith_det_0 (Tline_indexesWith_det_0b n0 c1 i2 i3 n4 c5 i6 i7 n8) = some r :=
  lp_of Eline_indexesWith_det_ok (by kernel_rfl) (lo_cons (lpO_ok Uline_indexesWith_det) lo_nil) (by kernel_rfl) ((Bline_indexesWith_det_0b_eq _ _ _ _ _ _ _ _ _ _ _ _ _).trans h)
def tline_indexesWith_det (F : FnT) (L0 : Q → Option Yline_indexesWith_det_0)(m : Int) (n : Nat) (cs : List PV) (t a : Int) : Option ((Nat) × (List PV)) :=
  bindO (L0 (Tline_indexesWith_det_0a n cs t a m (0 : Int))) fun z =>
  Sum.elim (fun y0 =>
    some (0, [])) (fun y1 =>
    bif (decide (y1.2.2 = y1.1)) then
      some (y1.1, y1.2.1)
    else none) z
theorem tline_indexesWith_det_eq (F : FnT) (L0 : Q → Option Yline_indexesWith_det_0)(m : Int) (n : Nat) (cs : List PV) (t a : Int) : semF (callP F Eline_indexesWith_det 20) s58 (loopT [⟨0, Yline_indexesWith_det_0, L0, XLline_indexesWith_det_0⟩]) 400 a58 [.int .i64 m, .fn 59 [.imm [.list n cs] 0, .imm [.int .i64 t, .int .i64 a] 0]] (fun rv => decR (RSh.one CK.list) rv.pv) = tline_indexesWith_det F L0 m n cs t a := by kernel_rfl
noncomputable abbrev Fline_indexesWith_det (args : List PV) := Fn env 58 (RSh.one CK.list) args
theorem Fline_indexesWith_det_of (m : Int) (n : Nat) (cs : List PV) (t a : Int) {res : ((Nat) × (List PV))} (h : tline_indexesWith_det (Fn env) Lline_indexesWith_det_0 m n cs t a = some res) : Fline_indexesWith_det [.int .i64 m, .fn 59 [.imm [.list n cs] 0, .imm [.int .i64 t, .int .i64 a] 0]] = some res :=
  fn_of Eline_indexesWith_det_ok rfl rfl (lo_cons (lpO_ok Uline_indexesWith_det) lo_nil) ((tline_indexesWith_det_eq _ _ _ _ _ _ _).trans h)

/-! ### line_DetectionsIn -/

def Eline_DetectionsIn : List Entry := [.out 45 (RSh.one (CK.int IntKind.i64)), .out 57 (RSh.one (CK.int IntKind.i64)), .out 46 (RSh.one (CK.int IntKind.i64)), .out 44 (RSh.one (CK.int IntKind.i64)), .out 58 (RSh.one CK.list)]
theorem Eline_DetectionsIn_ok : ∀ e ∈ Eline_DetectionsIn, EntOK env e := (ent_out (ent_out (ent_out (ent_out (ent_out ent_nil)))))
theorem Uline_DetectionsIn : uniq ((blocksOf a27.body).map (·.1)) = true := by kernel_rfl
def tline_DetectionsIn (F : FnT) (p0n : Nat) (p0c : List PV) (p1_0 : Int) (p1_1 : Int) : Option (((Nat) × (List PV)) × (Int)) :=
  bindO (F 45 (RSh.one (CK.int IntKind.i64)) [(PV.list p0n p0c)]) fun (y0 : (Int)) =>
  bindO (F 57 (RSh.one (CK.int IntKind.i64)) [(PV.int IntKind.i64 p1_0)]) fun (y1 : (Int)) =>
  bindO (F 46 (RSh.one (CK.int IntKind.i64)) [(PV.int IntKind.i64 p1_1), (PV.int IntKind.i64 (0 : Int)), (PV.int IntKind.i64 (16 : Int))]) fun (y2 : (Int)) =>
  bindO (F 44 (RSh.one (CK.int IntKind.i64)) [(PV.list 3 [(PV.int IntKind.i64 y0), (PV.int IntKind.i64 y1), (PV.int IntKind.i64 y2)])]) fun (y3 : (Int)) =>
  bif (y3 != (0 : Int)) then
    some ((0, []), y3)
  else bindO (F 58 (RSh.one CK.list) [(PV.int IntKind.i64 (p0n : Int)), (PV.fn 59 [(PV.imm [(PV.list p0n p0c)] 0), (PV.imm [(PV.int IntKind.i64 p1_0), (PV.int IntKind.i64 p1_1)] 0)])]) fun (y4 : ((Nat) × (List PV))) =>
  some ((y4.1, y4.2), (0 : Int))
theorem tline_DetectionsIn_eq (F : FnT) (p0n : Nat) (p0c : List PV) (p1_0 : Int) (p1_1 : Int) : semF (callP F Eline_DetectionsIn 20) s27 (loopT []) 400 a27 [PV.list p0n p0c, PV.agg [PV.int IntKind.i64 p1_0, PV.int IntKind.i64 p1_1]] (fun rv => decR (RSh.tup [(Prod.mk false [CK.list]), (Prod.mk false [(CK.int IntKind.i64)])]) rv.pv) = tline_DetectionsIn F p0n p0c p1_0 p1_1 := by kernel_rfl
noncomputable abbrev Fline_DetectionsIn (args : List PV) := Fn env 27 (RSh.tup [(Prod.mk false [CK.list]), (Prod.mk false [(CK.int IntKind.i64)])]) args
theorem Fline_DetectionsIn_of  (p0n : Nat) (p0c : List PV) (p1_0 : Int) (p1_1 : Int) {res : (((Nat) × (List PV)) × (Int))} (h : tline_DetectionsIn (Fn env) p0n p0c p1_0 p1_1 = some res) : Fline_DetectionsIn [PV.list p0n p0c, PV.agg [PV.int IntKind.i64 p1_0, PV.int IntKind.i64 p1_1]] = some res :=
  fn_of Eline_DetectionsIn_ok rfl rfl lo_nil ((tline_DetectionsIn_eq _ _ _ _ _).trans h)

/-! ### line_QualityOf -/

def Eline_QualityOf : List Entry := [.inl 62 a62 s62, .inl 61 a61 s61, .out 45 (RSh.one (CK.int IntKind.i64)), .out 44 (RSh.one (CK.int IntKind.i64)), .out 48 (RSh.tup [(Prod.mk false [(CK.int IntKind.i64)]), (Prod.mk false [(CK.int IntKind.i64)])]), .out 51 (RSh.agg [(CK.int IntKind.i64), (CK.int IntKind.i64)])]
theorem Eline_QualityOf_ok : ∀ e ∈ Eline_QualityOf, EntOK env e := (ent_inl rfl (ent_inl rfl (ent_out (ent_out (ent_out (ent_out ent_nil))))))
theorem Uline_QualityOf : uniq ((blocksOf a28.body).map (·.1)) = true := by kernel_rfl
def tline_QualityOf (F : FnT) (p0n : Nat) (p0c : List PV) (p1 : Int) : Option ((Int) × ((Int) × (Int))) :=
  bindO (F 45 (RSh.one (CK.int IntKind.i64)) [(PV.list p0n p0c)]) fun (y0 : (Int)) =>
  bif (decide (p1 < (0 : Int))) then
    bindO (F 44 (RSh.one (CK.int IntKind.i64)) [(PV.list 2 [(PV.int IntKind.i64 y0), (PV.int IntKind.i64 (6 : Int))])]) fun (y1 : (Int)) =>
    bif (y1 != (0 : Int)) then
      some ((0 : Int), ((0 : Int), y1))
    else bindO (F 48 (RSh.tup [(Prod.mk false [(CK.int IntKind.i64)]), (Prod.mk false [(CK.int IntKind.i64)])]) [(PV.fn 92 [(PV.imm [(PV.list p0n p0c)] 0)])]) fun (y2 : ((Int) × (Int))) =>
    bif (decide (((0 : Int) ≤ p1) ∧ (p1 < (p0n : Int)))) then
      bindO (intC IntKind.i64 (p0c[((Int.toNat p1) * 1)]?)) fun x3 =>
      bif ((w64 (y2.1 - x3)) == (0 : Int)) then
        some ((0 : Int), ((0 : Int), (11 : Int)))
      else bif (decide (((0 : Int) ≤ p1) ∧ (p1 < (p0n : Int)))) then
        bindO (intC IntKind.i64 (p0c[((Int.toNat p1) * 1)]?)) fun x4 =>
        bindO (F 51 (RSh.agg [(CK.int IntKind.i64), (CK.int IntKind.i64)]) [(PV.int IntKind.i64 (w64 (x4 * (w64 ((p0n : Int) - (1 : Int)))))), (PV.int IntKind.i64 (w64 (y2.1 - x3)))]) fun (y5 : ((Int) × (Int))) =>
        some (y5.1, (y5.2, (0 : Int)))
      else none
    else none
  else bif (decide (p1 ≥ (p0n : Int))) then
    bindO (F 44 (RSh.one (CK.int IntKind.i64)) [(PV.list 2 [(PV.int IntKind.i64 y0), (PV.int IntKind.i64 (6 : Int))])]) fun (y6 : (Int)) =>
    bif (y6 != (0 : Int)) then
      some ((0 : Int), ((0 : Int), y6))
    else bindO (F 48 (RSh.tup [(Prod.mk false [(CK.int IntKind.i64)]), (Prod.mk false [(CK.int IntKind.i64)])]) [(PV.fn 92 [(PV.imm [(PV.list p0n p0c)] 0)])]) fun (y7 : ((Int) × (Int))) =>
    bif (decide (((0 : Int) ≤ p1) ∧ (p1 < (p0n : Int)))) then
      bindO (intC IntKind.i64 (p0c[((Int.toNat p1) * 1)]?)) fun x8 =>
      bif ((w64 (y7.1 - x8)) == (0 : Int)) then
        some ((0 : Int), ((0 : Int), (11 : Int)))
      else bif (decide (((0 : Int) ≤ p1) ∧ (p1 < (p0n : Int)))) then
        bindO (intC IntKind.i64 (p0c[((Int.toNat p1) * 1)]?)) fun x9 =>
        bindO (F 51 (RSh.agg [(CK.int IntKind.i64), (CK.int IntKind.i64)]) [(PV.int IntKind.i64 (w64 (x9 * (w64 ((p0n : Int) - (1 : Int)))))), (PV.int IntKind.i64 (w64 (y7.1 - x8)))]) fun (y10 : ((Int) × (Int))) =>
        some (y10.1, (y10.2, (0 : Int)))
      else none
    else none
  else bindO (F 44 (RSh.one (CK.int IntKind.i64)) [(PV.list 2 [(PV.int IntKind.i64 y0), (PV.int IntKind.i64 (0 : Int))])]) fun (y11 : (Int)) =>
  bif (y11 != (0 : Int)) then
    some ((0 : Int), ((0 : Int), y11))
  else bindO (F 48 (RSh.tup [(Prod.mk false [(CK.int IntKind.i64)]), (Prod.mk false [(CK.int IntKind.i64)])]) [(PV.fn 92 [(PV.imm [(PV.list p0n p0c)] 0)])]) fun (y12 : ((Int) × (Int))) =>
  bif (decide (((0 : Int) ≤ p1) ∧ (p1 < (p0n : Int)))) then
    bindO (intC IntKind.i64 (p0c[((Int.toNat p1) * 1)]?)) fun x13 =>
    bif ((w64 (y12.1 - x13)) == (0 : Int)) then
      some ((0 : Int), ((0 : Int), (11 : Int)))
    else bif (decide (((0 : Int) ≤ p1) ∧ (p1 < (p0n : Int)))) then
      bindO (intC IntKind.i64 (p0c[((Int.toNat p1) * 1)]?)) fun x14 =>
      bindO (F 51 (RSh.agg [(CK.int IntKind.i64), (CK.int IntKind.i64)]) [(PV.int IntKind.i64 (w64 (x14 * (w64 ((p0n : Int) - (1 : Int)))))), (PV.int IntKind.i64 (w64 (y12.1 - x13)))]) fun (y15 : ((Int) × (Int))) =>
      some (y15.1, (y15.2, (0 : Int)))
    else none
  else none
theorem tline_QualityOf_eq (F : FnT) (p0n : Nat) (p0c : List PV) (p1 : Int) : semF (callP F Eline_QualityOf 20) s28 (loopT []) 400 a28 [PV.list p0n p0c, PV.int IntKind.i64 p1] (fun rv => decR (RSh.tup [(Prod.mk true [(CK.int IntKind.i64), (CK.int IntKind.i64)]), (Prod.mk false [(CK.int IntKind.i64)])]) rv.pv) = tline_QualityOf F p0n p0c p1 := by kernel_rfl
noncomputable abbrev Fline_QualityOf (args : List PV) := Fn env 28 (RSh.tup [(Prod.mk true [(CK.int IntKind.i64), (CK.int IntKind.i64)]), (Prod.mk false [(CK.int IntKind.i64)])]) args
theorem Fline_QualityOf_of  (p0n : Nat) (p0c : List PV) (p1 : Int) {res : ((Int) × ((Int) × (Int)))} (h : tline_QualityOf (Fn env) p0n p0c p1 = some res) : Fline_QualityOf [PV.list p0n p0c, PV.int IntKind.i64 p1] = some res :=
  fn_of Eline_QualityOf_ok rfl rfl lo_nil ((tline_QualityOf_eq _ _ _ _).trans h)

/-! ### glidepathref02_ThresholdErr -/

def Eglidepathref02_ThresholdErr : List Entry := [.out 14 (RSh.one CK.bool)]
theorem Eglidepathref02_ThresholdErr_ok : ∀ e ∈ Eglidepathref02_ThresholdErr, EntOK env e := (ent_out ent_nil)
theorem Uglidepathref02_ThresholdErr : uniq ((blocksOf a63.body).map (·.1)) = true := by kernel_rfl
def tglidepathref02_ThresholdErr (F : FnT) (p0 : Int) : Option (Int) :=
  bindO (F 14 (RSh.one CK.bool) [(PV.int IntKind.i64 p0), (PV.int IntKind.i64 (0 : Int)), (PV.int IntKind.i64 (11000 : Int))]) fun (y0 : (Bool)) =>
  bif y0 then
    some (0 : Int)
  else some (2 : Int)
theorem tglidepathref02_ThresholdErr_eq (F : FnT) (p0 : Int) : semF (callP F Eglidepathref02_ThresholdErr 20) s63 (loopT []) 400 a63 [PV.int IntKind.i64 p0] (fun rv => decR (RSh.one (CK.int IntKind.i64)) rv.pv) = tglidepathref02_ThresholdErr F p0 := by kernel_rfl
noncomputable abbrev Fglidepathref02_ThresholdErr (args : List PV) := Fn env 63 (RSh.one (CK.int IntKind.i64)) args
theorem Fglidepathref02_ThresholdErr_of  (p0 : Int) {res : (Int)} (h : tglidepathref02_ThresholdErr (Fn env) p0 = some res) : Fglidepathref02_ThresholdErr [PV.int IntKind.i64 p0] = some res :=
  fn_of Eglidepathref02_ThresholdErr_ok rfl rfl lo_nil ((tglidepathref02_ThresholdErr_eq _ _).trans h)

/-! ### glidepathref02_RuleErr -/

def Eglidepathref02_RuleErr : List Entry := [.out 63 (RSh.one (CK.int IntKind.i64)), .out 14 (RSh.one CK.bool)]
theorem Eglidepathref02_RuleErr_ok : ∀ e ∈ Eglidepathref02_RuleErr, EntOK env e := (ent_out (ent_out ent_nil))
theorem Uglidepathref02_RuleErr : uniq ((blocksOf a29.body).map (·.1)) = true := by kernel_rfl
def tglidepathref02_RuleErr (F : FnT) (p0_0 : Int) (p0_1 : Int) : Option (Int) :=
  bindO (F 63 (RSh.one (CK.int IntKind.i64)) [(PV.int IntKind.i64 p0_0)]) fun (y0 : (Int)) =>
  bif (y0 != (0 : Int)) then
    some y0
  else bindO (F 14 (RSh.one CK.bool) [(PV.int IntKind.i64 p0_1), (PV.int IntKind.i64 (0 : Int)), (PV.int IntKind.i64 (16 : Int))]) fun (y1 : (Bool)) =>
  bif y1 then
    some (0 : Int)
  else some (2 : Int)
theorem tglidepathref02_RuleErr_eq (F : FnT) (p0_0 : Int) (p0_1 : Int) : semF (callP F Eglidepathref02_RuleErr 20) s29 (loopT []) 400 a29 [PV.agg [PV.int IntKind.i64 p0_0, PV.int IntKind.i64 p0_1]] (fun rv => decR (RSh.one (CK.int IntKind.i64)) rv.pv) = tglidepathref02_RuleErr F p0_0 p0_1 := by kernel_rfl
noncomputable abbrev Fglidepathref02_RuleErr (args : List PV) := Fn env 29 (RSh.one (CK.int IntKind.i64)) args
theorem Fglidepathref02_RuleErr_of  (p0_0 : Int) (p0_1 : Int) {res : (Int)} (h : tglidepathref02_RuleErr (Fn env) p0_0 p0_1 = some res) : Fglidepathref02_RuleErr [PV.agg [PV.int IntKind.i64 p0_0, PV.int IntKind.i64 p0_1]] = some res :=
  fn_of Eglidepathref02_RuleErr_ok rfl rfl lo_nil ((tglidepathref02_RuleErr_eq _ _ _).trans h)

/-! ### glidepathref02_Detections -/

def Eglidepathref02_Detections : List Entry := []
theorem Eglidepathref02_Detections_ok : ∀ e ∈ Eglidepathref02_Detections, EntOK env e := ent_nil
def Tglidepathref02_Detections_0a (n0 : Nat) (c1 : List PV) (i2 : Int) (i3 : Int) (i4 : Int) : Q := ⟨(tm 80 [(0, (AV.p (PV.list n0 c1))), (3, (AV.loc 3 0)), (5, AV.nilS), (6, (AV.p (PV.int IntKind.i64 i2)))]), (mm 80 [(3, (Bk.pcs true [(PV.int IntKind.i64 i3), (PV.int IntKind.i64 i4)]))])⟩
def Tglidepathref02_Detections_0b (n0 : Nat) (c1 : List PV) (n2 : Nat) (c3 : List PV) (i4 : Int) (i5 : Int) (i6 : Int) (n7 : Nat) : Q := ⟨(tm 80 [(0, (AV.p (PV.list n0 c1))), (3, (AV.loc 3 0)), (5, (AV.app 78 n2 1 c3)), (6, (AV.p (PV.int IntKind.i64 i4)))]), (mm 80 [(3, (Bk.pcs true [(PV.int IntKind.i64 i5), (PV.int IntKind.i64 i6)])), (78, (Bk.buf n7))])⟩
def Xglidepathref02_Detections_0a (y : Int × Int) : Ext × Q := (Ext.normal, ⟨(tm 80 [(5, AV.nilS)]), (mm 80 [(3, (Bk.pcs true [(PV.int IntKind.i64 y.1), (PV.int IntKind.i64 y.2)]))])⟩)
def Iglidepathref02_Detections_0a (q : Ext × S) : Int × Int := ((pP_int1 (hdP (pB_pcs1 (avM q.2 3)))), (pP_int1 (hdP (List.tail (pB_pcs1 (avM q.2 3))))))
def Xglidepathref02_Detections_0b (y : Nat × List PV × Int × Int × Nat) : Ext × Q := (Ext.normal, ⟨(tm 80 [(5, (AV.app 78 y.1 1 y.2.1))]), (mm 80 [(3, (Bk.pcs true [(PV.int IntKind.i64 y.2.2.1), (PV.int IntKind.i64 y.2.2.2.1)])), (78, (Bk.buf y.2.2.2.2))])⟩)
def Iglidepathref02_Detections_0b (q : Ext × S) : Nat × List PV × Int × Int × Nat := ((pA_app1 (avT q.2 5)), (pA_app3 (avT q.2 5)), (pP_int1 (hdP (pB_pcs1 (avM q.2 3)))), (pP_int1 (hdP (List.tail (pB_pcs1 (avM q.2 3))))), (pB_buf0 (avM q.2 78)))
abbrev Yglidepathref02_Detections_0 : Type := (Int × Int) ⊕ ((Nat × List PV × Int × Int × Nat))
def XLglidepathref02_Detections_0 : XL Yglidepathref02_Detections_0 := .more Xglidepathref02_Detections_0a (.one Xglidepathref02_Detections_0b)
def Iglidepathref02_Detections_0 (q : Ext × S) : Yglidepathref02_Detections_0 := bif (cA (avT q.2 5) == 1) then (Sum.inl (Iglidepathref02_Detections_0a q)) else (Sum.inr (Iglidepathref02_Detections_0b q))
theorem XIglidepathref02_Detections_0a (y : Int × Int) : Iglidepathref02_Detections_0 (xe (Xglidepathref02_Detections_0a y)) = (Sum.inl y) := rfl
theorem XIglidepathref02_Detections_0b (y : Nat × List PV × Int × Int × Nat) : Iglidepathref02_Detections_0 (xe (Xglidepathref02_Detections_0b y)) = (Sum.inr y) := rfl
theorem XIglidepathref02_Detections_0 (y : Yglidepathref02_Detections_0) : Iglidepathref02_Detections_0 (xe (XLglidepathref02_Detections_0.fn y)) = y := (match y with | .inl y => XIglidepathref02_Detections_0a y | .inr y => XIglidepathref02_Detections_0b y)
noncomputable abbrev Lglidepathref02_Detections_0 : Q → Option Yglidepathref02_Detections_0 := lpO env a31.body 0 XLglidepathref02_Detections_0
noncomputable abbrev Rglidepathref02_Detections_0 : Q → Option (Ext × S) := lpR env a31.body 0
theorem Lglidepathref02_Detections_0a_of {s : Q} {y : Int × Int} (h : Rglidepathref02_Detections_0 s = exO (Xglidepathref02_Detections_0a y)) : Lglidepathref02_Detections_0 s = some (Sum.inl y) := lpO_of Iglidepathref02_Detections_0 XIglidepathref02_Detections_0 (y := (Sum.inl y)) h
theorem Lglidepathref02_Detections_0b_of {s : Q} {y : Nat × List PV × Int × Int × Nat} (h : Rglidepathref02_Detections_0 s = exO (Xglidepathref02_Detections_0b y)) : Lglidepathref02_Detections_0 s = some (Sum.inr y) := lpO_of Iglidepathref02_Detections_0 XIglidepathref02_Detections_0 (y := (Sum.inr y)) h
def Tglidepathref02_Detections_2a (n0 : Nat) (c1 : List PV) (i2 : Int) (b3 : Bool) (i4 : Int) (i5 : Int) (i6 : Int) : Q := ⟨(tm 80 [(0, (AV.p (PV.list n0 c1))), (3, (AV.loc 3 0)), (5, AV.nilS), (6, (AV.p (PV.int IntKind.i64 i2))), (7, (AV.p (PV.bool b3))), (8, (AV.p (PV.int IntKind.i64 i4)))]), (mm 80 [(3, (Bk.pcs true [(PV.int IntKind.i64 i5), (PV.int IntKind.i64 i6)]))])⟩
def Tglidepathref02_Detections_2b (n0 : Nat) (c1 : List PV) (n2 : Nat) (c3 : List PV) (i4 : Int) (b5 : Bool) (i6 : Int) (i7 : Int) (i8 : Int) (n9 : Nat) : Q := ⟨(tm 80 [(0, (AV.p (PV.list n0 c1))), (3, (AV.loc 3 0)), (5, (AV.app 78 n2 1 c3)), (6, (AV.p (PV.int IntKind.i64 i4))), (7, (AV.p (PV.bool b5))), (8, (AV.p (PV.int IntKind.i64 i6)))]), (mm 80 [(3, (Bk.pcs true [(PV.int IntKind.i64 i7), (PV.int IntKind.i64 i8)])), (78, (Bk.buf n9))])⟩
def Xglidepathref02_Detections_2a (y : Nat × List PV × Int × Bool × Int × Int) : Ext × Q := (Ext.normal, ⟨(tm 80 [(0, (AV.p (PV.list y.1 y.2.1))), (3, (AV.loc 3 0)), (5, AV.nilS), (6, (AV.p (PV.int IntKind.i64 y.2.2.1))), (7, (AV.p (PV.bool y.2.2.2.1)))]), (mm 80 [(3, (Bk.pcs true [(PV.int IntKind.i64 y.2.2.2.2.1), (PV.int IntKind.i64 y.2.2.2.2.2)]))])⟩)
def Iglidepathref02_Detections_2a (q : Ext × S) : Nat × List PV × Int × Bool × Int × Int := ((pP_list0 (pA_p (avT q.2 0))), (pP_list1 (pA_p (avT q.2 0))), (pP_int1 (pA_p (avT q.2 6))), (pP_bool0 (pA_p (avT q.2 7))), (pP_int1 (hdP (pB_pcs1 (avM q.2 3)))), (pP_int1 (hdP (List.tail (pB_pcs1 (avM q.2 3))))))
def Xglidepathref02_Detections_2b (y : Nat × List PV × Nat × List PV × Int × Bool × Int × Int × Nat) : Ext × Q := (Ext.normal, ⟨(tm 80 [(0, (AV.p (PV.list y.1 y.2.1))), (3, (AV.loc 3 0)), (5, (AV.app 78 y.2.2.1 1 y.2.2.2.1)), (6, (AV.p (PV.int IntKind.i64 y.2.2.2.2.1))), (7, (AV.p (PV.bool y.2.2.2.2.2.1)))]), (mm 80 [(3, (Bk.pcs true [(PV.int IntKind.i64 y.2.2.2.2.2.2.1), (PV.int IntKind.i64 y.2.2.2.2.2.2.2.1)])), (78, (Bk.buf y.2.2.2.2.2.2.2.2))])⟩)
def Iglidepathref02_Detections_2b (q : Ext × S) : Nat × List PV × Nat × List PV × Int × Bool × Int × Int × Nat := ((pP_list0 (pA_p (avT q.2 0))), (pP_list1 (pA_p (avT q.2 0))), (pA_app1 (avT q.2 5)), (pA_app3 (avT q.2 5)), (pP_int1 (pA_p (avT q.2 6))), (pP_bool0 (pA_p (avT q.2 7))), (pP_int1 (hdP (pB_pcs1 (avM q.2 3)))), (pP_int1 (hdP (List.tail (pB_pcs1 (avM q.2 3))))), (pB_buf0 (avM q.2 78)))
abbrev Yglidepathref02_Detections_2 : Type := (Nat × List PV × Int × Bool × Int × Int) ⊕ ((Nat × List PV × Nat × List PV × Int × Bool × Int × Int × Nat))
def XLglidepathref02_Detections_2 : XL Yglidepathref02_Detections_2 := .more Xglidepathref02_Detections_2a (.one Xglidepathref02_Detections_2b)
def Iglidepathref02_Detections_2 (q : Ext × S) : Yglidepathref02_Detections_2 := bif (cA (avT q.2 5) == 1) then (Sum.inl (Iglidepathref02_Detections_2a q)) else (Sum.inr (Iglidepathref02_Detections_2b q))
theorem XIglidepathref02_Detections_2a (y : Nat × List PV × Int × Bool × Int × Int) : Iglidepathref02_Detections_2 (xe (Xglidepathref02_Detections_2a y)) = (Sum.inl y) := rfl
theorem XIglidepathref02_Detections_2b (y : Nat × List PV × Nat × List PV × Int × Bool × Int × Int × Nat) : Iglidepathref02_Detections_2 (xe (Xglidepathref02_Detections_2b y)) = (Sum.inr y) := rfl
theorem XIglidepathref02_Detections_2 (y : Yglidepathref02_Detections_2) : Iglidepathref02_Detections_2 (xe (XLglidepathref02_Detections_2.fn y)) = y := (match y with | .inl y => XIglidepathref02_Detections_2a y | .inr y => XIglidepathref02_Detections_2b y)
noncomputable abbrev Lglidepathref02_Detections_2 : Q → Option Yglidepathref02_Detections_2 := lpO env a31.body 2 XLglidepathref02_Detections_2
noncomputable abbrev Rglidepathref02_Detections_2 : Q → Option (Ext × S) := lpR env a31.body 2
theorem Lglidepathref02_Detections_2a_of {s : Q} {y : Nat × List PV × Int × Bool × Int × Int} (h : Rglidepathref02_Detections_2 s = exO (Xglidepathref02_Detections_2a y)) : Lglidepathref02_Detections_2 s = some (Sum.inl y) := lpO_of Iglidepathref02_Detections_2 XIglidepathref02_Detections_2 (y := (Sum.inl y)) h
theorem Lglidepathref02_Detections_2b_of {s : Q} {y : Nat × List PV × Nat × List PV × Int × Bool × Int × Int × Nat} (h : Rglidepathref02_Detections_2 s = exO (Xglidepathref02_Detections_2b y)) : Lglidepathref02_Detections_2 s = some (Sum.inr y) := lpO_of Iglidepathref02_Detections_2 XIglidepathref02_Detections_2 (y := (Sum.inr y)) h
theorem Uglidepathref02_Detections : uniq ((blocksOf a31.body).map (·.1)) = true := by kernel_rfl
def Bglidepathref02_Detections_0a (F : FnT) (N : Q → Option (Ext × S)) (E : Ext × Q → Option (Ext × S)) (L0 : Q → Option Yglidepathref02_Detections_0) (L2 : Q → Option Yglidepathref02_Detections_2) (n0 : Nat) (c1 : List PV) (i2 : Int) (i3 : Int) (i4 : Int) : Option (Ext × S) :=
  bif (decide (i2 < (n0 : Int))) then
    bif (decide (((0 : Int) ≤ i2) ∧ (i2 < (n0 : Int)))) then
      bindO (intC IntKind.i64 (c1[((Int.toNat i2) * 1)]?)) fun x0 =>
      bif (decide (x0 ≥ i3)) then
        bindO (L2 (Tglidepathref02_Detections_2a n0 c1 i2 true (0 : Int) i3 i4)) fun z =>
        Sum.elim (fun y1 =>
          bif y1.2.2.2.1 then
            N (Tglidepathref02_Detections_0b y1.1 y1.2.1 1 [(PV.int IntKind.i64 y1.2.2.1)] (w64 (y1.2.2.1 + (1 : Int))) y1.2.2.2.2.1 y1.2.2.2.2.2 1)
          else N (Tglidepathref02_Detections_0a y1.1 y1.2.1 (w64 (y1.2.2.1 + (1 : Int))) y1.2.2.2.2.1 y1.2.2.2.2.2)) (fun y2 =>
          bif y2.2.2.2.2.2.1 then
            bif (decide ((y2.2.2.2.2.2.2.2.2 = y2.2.2.1) ∧ ((y2.2.2.1 + 1) ≤ big))) then
              N (Tglidepathref02_Detections_0b y2.1 y2.2.1 (y2.2.2.1 + 1) (y2.2.2.2.1 ++ [(PV.int IntKind.i64 y2.2.2.2.2.1)]) (w64 (y2.2.2.2.2.1 + (1 : Int))) y2.2.2.2.2.2.2.1 y2.2.2.2.2.2.2.2.1 (y2.2.2.1 + 1))
            else none
          else N (Tglidepathref02_Detections_0b y2.1 y2.2.1 y2.2.2.1 y2.2.2.2.1 (w64 (y2.2.2.2.2.1 + (1 : Int))) y2.2.2.2.2.2.2.1 y2.2.2.2.2.2.2.2.1 y2.2.2.2.2.2.2.2.2)) z
      else bindO (L2 (Tglidepathref02_Detections_2a n0 c1 i2 false (0 : Int) i3 i4)) fun z =>
      Sum.elim (fun y3 =>
        bif y3.2.2.2.1 then
          N (Tglidepathref02_Detections_0b y3.1 y3.2.1 1 [(PV.int IntKind.i64 y3.2.2.1)] (w64 (y3.2.2.1 + (1 : Int))) y3.2.2.2.2.1 y3.2.2.2.2.2 1)
        else N (Tglidepathref02_Detections_0a y3.1 y3.2.1 (w64 (y3.2.2.1 + (1 : Int))) y3.2.2.2.2.1 y3.2.2.2.2.2)) (fun y4 =>
        bif y4.2.2.2.2.2.1 then
          bif (decide ((y4.2.2.2.2.2.2.2.2 = y4.2.2.1) ∧ ((y4.2.2.1 + 1) ≤ big))) then
            N (Tglidepathref02_Detections_0b y4.1 y4.2.1 (y4.2.2.1 + 1) (y4.2.2.2.1 ++ [(PV.int IntKind.i64 y4.2.2.2.2.1)]) (w64 (y4.2.2.2.2.1 + (1 : Int))) y4.2.2.2.2.2.2.1 y4.2.2.2.2.2.2.2.1 (y4.2.2.1 + 1))
          else none
        else N (Tglidepathref02_Detections_0b y4.1 y4.2.1 y4.2.2.1 y4.2.2.2.1 (w64 (y4.2.2.2.2.1 + (1 : Int))) y4.2.2.2.2.2.2.1 y4.2.2.2.2.2.2.2.1 y4.2.2.2.2.2.2.2.2)) z
    else none
  else E (Xglidepathref02_Detections_0a (i3, i4))
theorem Bglidepathref02_Detections_0a_eq (F : FnT) (N : Q → Option (Ext × S)) (E : Ext × Q → Option (Ext × S)) (L0 : Q → Option Yglidepathref02_Detections_0) (L2 : Q → Option Yglidepathref02_Detections_2) (n0 : Nat) (c1 : List PV) (i2 : Int) (i3 : Int) (i4 : Int) : semB (callP F Eglidepathref02_Detections 20) s31 (loopT [⟨0, Yglidepathref02_Detections_0, L0, XLglidepathref02_Detections_0⟩, ⟨2, Yglidepathref02_Detections_2, L2, XLglidepathref02_Detections_2⟩]) 400 (blkIn a31.body 0) N E (Tglidepathref02_Detections_0a n0 c1 i2 i3 i4) = Bglidepathref02_Detections_0a F N E L0 L2 n0 c1 i2 i3 i4 := by kernel_rfl
theorem Rglidepathref02_Detections_0a_of  (n0 : Nat) (c1 : List PV) (i2 : Int) (i3 : Int) (i4 : Int) {r : Ext × S} (h : Bglidepathref02_Detections_0a (Fn env) Rglidepathref02_Detections_0 exO Lglidepathref02_Detections_0 Lglidepathref02_Detections_2 n0 c1 i2 i3 i4 = some r) : Rglidepathref02_Detections_0 (Tglidepathref02_Detections_0a n0 c1 i2 i3 i4) = some r :=
  lp_of Eglidepathref02_Detections_ok (by kernel_rfl) (lo_cons (lpO_ok Uglidepathref02_Detections) (lo_cons (lpO_ok Uglidepathref02_Detections) lo_nil)) (by kernel_rfl) ((Bglidepathref02_Detections_0a_eq _ _ _ _ _ _ _ _ _ _).trans h)
def Bglidepathref02_Detections_0b (F : FnT) (N : Q → Option (Ext × S)) (E : Ext × Q → Option (Ext × S)) (L0 : Q → Option Yglidepathref02_Detections_0) (L2 : Q → Option Yglidepathref02_Detections_2) (n0 : Nat) (c1 : List PV) (n2 : Nat) (c3 : List PV) (i4 : Int) (i5 : Int) (i6 : Int) (n7 : Nat) : Option (Ext × S) :=
  bif (decide (i4 < (n0 : Int))) then
    bif (decide (((0 : Int) ≤ i4) ∧ (i4 < (n0 : Int)))) then
      bindO (intC IntKind.i64 (c1[((Int.toNat i4) * 1)]?)) fun x0 =>
      bif (decide (x0 ≥ i5)) then
        bindO (L2 (Tglidepathref02_Detections_2b n0 c1 n2 c3 i4 true (0 : Int) i5 i6 n7)) fun z =>
        Sum.elim (fun y1 =>
          bif y1.2.2.2.1 then
            N (Tglidepathref02_Detections_0b y1.1 y1.2.1 1 [(PV.int IntKind.i64 y1.2.2.1)] (w64 (y1.2.2.1 + (1 : Int))) y1.2.2.2.2.1 y1.2.2.2.2.2 1)
          else N (Tglidepathref02_Detections_0a y1.1 y1.2.1 (w64 (y1.2.2.1 + (1 : Int))) y1.2.2.2.2.1 y1.2.2.2.2.2)) (fun y2 =>
          bif y2.2.2.2.2.2.1 then
            bif (decide ((y2.2.2.2.2.2.2.2.2 = y2.2.2.1) ∧ ((y2.2.2.1 + 1) ≤ big))) then
              N (Tglidepathref02_Detections_0b y2.1 y2.2.1 (y2.2.2.1 + 1) (y2.2.2.2.1 ++ [(PV.int IntKind.i64 y2.2.2.2.2.1)]) (w64 (y2.2.2.2.2.1 + (1 : Int))) y2.2.2.2.2.2.2.1 y2.2.2.2.2.2.2.2.1 (y2.2.2.1 + 1))
            else none
          else N (Tglidepathref02_Detections_0b y2.1 y2.2.1 y2.2.2.1 y2.2.2.2.1 (w64 (y2.2.2.2.2.1 + (1 : Int))) y2.2.2.2.2.2.2.1 y2.2.2.2.2.2.2.2.1 y2.2.2.2.2.2.2.2.2)) z
      else bindO (L2 (Tglidepathref02_Detections_2b n0 c1 n2 c3 i4 false (0 : Int) i5 i6 n7)) fun z =>
      Sum.elim (fun y3 =>
        bif y3.2.2.2.1 then
          N (Tglidepathref02_Detections_0b y3.1 y3.2.1 1 [(PV.int IntKind.i64 y3.2.2.1)] (w64 (y3.2.2.1 + (1 : Int))) y3.2.2.2.2.1 y3.2.2.2.2.2 1)
        else N (Tglidepathref02_Detections_0a y3.1 y3.2.1 (w64 (y3.2.2.1 + (1 : Int))) y3.2.2.2.2.1 y3.2.2.2.2.2)) (fun y4 =>
        bif y4.2.2.2.2.2.1 then
          bif (decide ((y4.2.2.2.2.2.2.2.2 = y4.2.2.1) ∧ ((y4.2.2.1 + 1) ≤ big))) then
            N (Tglidepathref02_Detections_0b y4.1 y4.2.1 (y4.2.2.1 + 1) (y4.2.2.2.1 ++ [(PV.int IntKind.i64 y4.2.2.2.2.1)]) (w64 (y4.2.2.2.2.1 + (1 : Int))) y4.2.2.2.2.2.2.1 y4.2.2.2.2.2.2.2.1 (y4.2.2.1 + 1))
          else none
        else N (Tglidepathref02_Detections_0b y4.1 y4.2.1 y4.2.2.1 y4.2.2.2.1 (w64 (y4.2.2.2.2.1 + (1 : Int))) y4.2.2.2.2.2.2.1 y4.2.2.2.2.2.2.2.1 y4.2.2.2.2.2.2.2.2)) z
    else none
  else E (Xglidepathref02_Detections_0b (n2, c3, i5, i6, n7))
theorem Bglidepathref02_Detections_0b_eq (F : FnT) (N : Q → Option (Ext × S)) (E : Ext × Q → Option (Ext × S)) (L0 : Q → Option Yglidepathref02_Detections_0) (L2 : Q → Option Yglidepathref02_Detections_2) (n0 : Nat) (c1 : List PV) (n2 : Nat) (c3 : List PV) (i4 : Int) (i5 : Int) (i6 : Int) (n7 : Nat) : semB (callP F Eglidepathref02_Detections 20) s31 (loopT [⟨0, Yglidepathref02_Detections_0, L0, XLglidepathref02_Detections_0⟩, ⟨2, Yglidepathref02_Detections_2, L2, XLglidepathref02_Detections_2⟩]) 400 (blkIn a31.body 0) N E (Tglidepathref02_Detections_0b n0 c1 n2 c3 i4 i5 i6 n7) = Bglidepathref02_Detections_0b F N E L0 L2 n0 c1 n2 c3 i4 i5 i6 n7 := by kernel_rfl
theorem Rglidepathref02_Detections_0b_of  (n0 : Nat) (c1 : List PV) (n2 : Nat) (c3 : List PV) (i4 : Int) (i5 : Int) (i6 : Int) (n7 : Nat) {r : Ext × S} (h : Bglidepathref02_Detections_0b (Fn env) Rglidepathref02_Detections_0 exO Lglidepathref02_Detections_0 Lglidepathref02_Detections_2 n0 c1 n2 c3 i4 i5 i6 n7 = some r) : Rglidepathref02_Detections_0 (Tglidepathref02_Detections_0b n0 c1 n2 c3 i4 i5 i6 n7) = some r :=
  lp_of Eglidepathref02_Detections_ok (by kernel_rfl) (lo_cons (lpO_ok Uglidepathref02_Detections) (lo_cons (lpO_ok Uglidepathref02_Detections) lo_nil)) (by kernel_rfl) ((Bglidepathref02_Detections_0b_eq _ _ _ _ _ _ _ _ _ _ _ _ _).trans h)
def Bglidepathref02_Detections_2a (F : FnT) (N : Q → Option (Ext × S)) (E : Ext × Q → Option (Ext × S)) (L0 : Q → Option Yglidepathref02_Detections_0) (L2 : Q → Option Yglidepathref02_Detections_2) (n0 : Nat) (c1 : List PV) (i2 : Int) (b3 : Bool) (i4 : Int) (i5 : Int) (i6 : Int) : Option (Ext × S) :=
  bif (decide (i4 < (n0 : Int))) then
    bif (decide (i4 < i2)) then
      bif (decide ((w64 (i2 - i4)) ≤ i6)) then
        bif (decide (((0 : Int) ≤ i4) ∧ (i4 < (n0 : Int)))) then
          bindO (intC IntKind.i64 (c1[((Int.toNat i4) * 1)]?)) fun x0 =>
          bif (decide (((0 : Int) ≤ i2) ∧ (i2 < (n0 : Int)))) then
            bindO (intC IntKind.i64 (c1[((Int.toNat i2) * 1)]?)) fun x1 =>
            bif (decide (x0 ≥ x1)) then
              N (Tglidepathref02_Detections_2a n0 c1 i2 false (w64 (i4 + (1 : Int))) i5 i6)
            else bif (decide (i4 > i2)) then
              bif (decide ((w64 (i4 - i2)) ≤ i6)) then
                bif (decide (((0 : Int) ≤ i4) ∧ (i4 < (n0 : Int)))) then
                  bindO (intC IntKind.i64 (c1[((Int.toNat i4) * 1)]?)) fun x2 =>
                  bif (decide (((0 : Int) ≤ i2) ∧ (i2 < (n0 : Int)))) then
                    bindO (intC IntKind.i64 (c1[((Int.toNat i2) * 1)]?)) fun x3 =>
                    bif (decide (x2 > x3)) then
                      N (Tglidepathref02_Detections_2a n0 c1 i2 false (w64 (i4 + (1 : Int))) i5 i6)
                    else N (Tglidepathref02_Detections_2a n0 c1 i2 b3 (w64 (i4 + (1 : Int))) i5 i6)
                  else none
                else none
              else N (Tglidepathref02_Detections_2a n0 c1 i2 b3 (w64 (i4 + (1 : Int))) i5 i6)
            else N (Tglidepathref02_Detections_2a n0 c1 i2 b3 (w64 (i4 + (1 : Int))) i5 i6)
          else none
        else none
      else bif (decide (i4 > i2)) then
        bif (decide ((w64 (i4 - i2)) ≤ i6)) then
          bif (decide (((0 : Int) ≤ i4) ∧ (i4 < (n0 : Int)))) then
            bindO (intC IntKind.i64 (c1[((Int.toNat i4) * 1)]?)) fun x4 =>
            bif (decide (((0 : Int) ≤ i2) ∧ (i2 < (n0 : Int)))) then
              bindO (intC IntKind.i64 (c1[((Int.toNat i2) * 1)]?)) fun x5 =>
              bif (decide (x4 > x5)) then
                N (Tglidepathref02_Detections_2a n0 c1 i2 false (w64 (i4 + (1 : Int))) i5 i6)
              else N (Tglidepathref02_Detections_2a n0 c1 i2 b3 (w64 (i4 + (1 : Int))) i5 i6)
            else none
          else none
        else N (Tglidepathref02_Detections_2a n0 c1 i2 b3 (w64 (i4 + (1 : Int))) i5 i6)
      else N (Tglidepathref02_Detections_2a n0 c1 i2 b3 (w64 (i4 + (1 : Int))) i5 i6)
    else bif (decide (i4 > i2)) then
      bif (decide ((w64 (i4 - i2)) ≤ i6)) then
        bif (decide (((0 : Int) ≤ i4) ∧ (i4 < (n0 : Int)))) then
          bindO (intC IntKind.i64 (c1[((Int.toNat i4) * 1)]?)) fun x6 =>
          bif (decide (((0 : Int) ≤ i2) ∧ (i2 < (n0 : Int)))) then
            bindO (intC IntKind.i64 (c1[((Int.toNat i2) * 1)]?)) fun x7 =>
            bif (decide (x6 > x7)) then
              N (Tglidepathref02_Detections_2a n0 c1 i2 false (w64 (i4 + (1 : Int))) i5 i6)
            else N (Tglidepathref02_Detections_2a n0 c1 i2 b3 (w64 (i4 + (1 : Int))) i5 i6)
          else none
        else none
      else N (Tglidepathref02_Detections_2a n0 c1 i2 b3 (w64 (i4 + (1 : Int))) i5 i6)
    else N (Tglidepathref02_Detections_2a n0 c1 i2 b3 (w64 (i4 + (1 : Int))) i5 i6)
  else E (Xglidepathref02_Detections_2a (n0, c1, i2, b3, i5, i6))
theorem Bglidepathref02_Detections_2a_eq (F : FnT) (N : Q → Option (Ext × S)) (E : Ext × Q → Option (Ext × S)) (L0 : Q → Option Yglidepathref02_Detections_0) (L2 : Q → Option Yglidepathref02_Detections_2) (n0 : Nat) (c1 : List PV) (i2 : Int) (b3 : Bool) (i4 : Int) (i5 : Int) (i6 : Int) : semB (callP F Eglidepathref02_Detections 20) s31 (loopT [⟨0, Yglidepathref02_Detections_0, L0, XLglidepathref02_Detections_0⟩, ⟨2, Yglidepathref02_Detections_2, L2, XLglidepathref02_Detections_2⟩]) 400 (blkIn a31.body 2) N E (Tglidepathref02_Detections_2a n0 c1 i2 b3 i4 i5 i6) = Bglidepathref02_Detections_2a F N E L0 L2 n0 c1 i2 b3 i4 i5 i6 := by kernel_rfl
theorem Rglidepathref02_Detections_2a_of  (n0 : Nat) (c1 : List PV) (i2 : Int) (b3 : Bool) (i4 : Int) (i5 : Int) (i6 : Int) {r : Ext × S} (h : Bglidepathref02_Detections_2a (Fn env) Rglidepathref02_Detections_2 exO Lglidepathref02_Detections_0 Lglidepathref02_Detections_2 n0 c1 i2 b3 i4 i5 i6 = some r) : Rglidepathref02_Detections_2 (Tglidepathref02_Detections_2a n0 c1 i2 b3 i4 i5 i6) = some r :=
  lp_of Eglidepathref02_Detections_ok (by kernel_rfl) (lo_cons (lpO_ok Uglidepathref02_Detections) (lo_cons (lpO_ok Uglidepathref02_Detections) lo_nil)) (by kernel_rfl) ((Bglidepathref02_Detections_2a_eq _ _ _ _ _ _ _ _ _ _ _ _).trans h)
def Bglidepathref02_Detections_2b (F : FnT) (N : Q → Option (Ext × S)) (E : Ext × Q → Option (Ext × S)) (L0 : Q → Option Yglidepathref02_Detections_0) (L2 : Q → Option Yglidepathref02_Detections_2) (n0 : Nat) (c1 : List PV) (n2 : Nat) (c3 : List PV) (i4 : Int) (b5 : Bool) (i6 : Int) (i7 : Int) (i8 : Int) (n9 : Nat) : Option (Ext × S) :=
  bif (decide (i6 < (n0 : Int))) then
    bif (decide (i6 < i4)) then
      bif (decide ((w64 (i4 - i6)) ≤ i8)) then
        bif (decide (((0 : Int) ≤ i6) ∧ (i6 < (n0 : Int)))) then
          bindO (intC IntKind.i64 (c1[((Int.toNat i6) * 1)]?)) fun x0 =>
          bif (decide (((0 : Int) ≤ i4) ∧ (i4 < (n0 : Int)))) then
            bindO (intC IntKind.i64 (c1[((Int.toNat i4) * 1)]?)) fun x1 =>
            bif (decide (x0 ≥ x1)) then
              N (Tglidepathref02_Detections_2b n0 c1 n2 c3 i4 false (w64 (i6 + (1 : Int))) i7 i8 n9)
            else bif (decide (i6 > i4)) then
              bif (decide ((w64 (i6 - i4)) ≤ i8)) then
                bif (decide (((0 : Int) ≤ i6) ∧ (i6 < (n0 : Int)))) then
                  bindO (intC IntKind.i64 (c1[((Int.toNat i6) * 1)]?)) fun x2 =>
                  bif (decide (((0 : Int) ≤ i4) ∧ (i4 < (n0 : Int)))) then
                    bindO (intC IntKind.i64 (c1[((Int.toNat i4) * 1)]?)) fun x3 =>
                    bif (decide (x2 > x3)) then
                      N (Tglidepathref02_Detections_2b n0 c1 n2 c3 i4 false (w64 (i6 + (1 : Int))) i7 i8 n9)
                    else N (Tglidepathref02_Detections_2b n0 c1 n2 c3 i4 b5 (w64 (i6 + (1 : Int))) i7 i8 n9)
                  else none
                else none
              else N (Tglidepathref02_Detections_2b n0 c1 n2 c3 i4 b5 (w64 (i6 + (1 : Int))) i7 i8 n9)
            else N (Tglidepathref02_Detections_2b n0 c1 n2 c3 i4 b5 (w64 (i6 + (1 : Int))) i7 i8 n9)
          else none
        else none
      else bif (decide (i6 > i4)) then
        bif (decide ((w64 (i6 - i4)) ≤ i8)) then
          bif (decide (((0 : Int) ≤ i6) ∧ (i6 < (n0 : Int)))) then
            bindO (intC IntKind.i64 (c1[((Int.toNat i6) * 1)]?)) fun x4 =>
            bif (decide (((0 : Int) ≤ i4) ∧ (i4 < (n0 : Int)))) then
              bindO (intC IntKind.i64 (c1[((Int.toNat i4) * 1)]?)) fun x5 =>
              bif (decide (x4 > x5)) then
                N (Tglidepathref02_Detections_2b n0 c1 n2 c3 i4 false (w64 (i6 + (1 : Int))) i7 i8 n9)
              else N (Tglidepathref02_Detections_2b n0 c1 n2 c3 i4 b5 (w64 (i6 + (1 : Int))) i7 i8 n9)
            else none
          else none
        else N (Tglidepathref02_Detections_2b n0 c1 n2 c3 i4 b5 (w64 (i6 + (1 : Int))) i7 i8 n9)
      else N (Tglidepathref02_Detections_2b n0 c1 n2 c3 i4 b5 (w64 (i6 + (1 : Int))) i7 i8 n9)
    else bif (decide (i6 > i4)) then
      bif (decide ((w64 (i6 - i4)) ≤ i8)) then
        bif (decide (((0 : Int) ≤ i6) ∧ (i6 < (n0 : Int)))) then
          bindO (intC IntKind.i64 (c1[((Int.toNat i6) * 1)]?)) fun x6 =>
          bif (decide (((0 : Int) ≤ i4) ∧ (i4 < (n0 : Int)))) then
            bindO (intC IntKind.i64 (c1[((Int.toNat i4) * 1)]?)) fun x7 =>
            bif (decide (x6 > x7)) then
              N (Tglidepathref02_Detections_2b n0 c1 n2 c3 i4 false (w64 (i6 + (1 : Int))) i7 i8 n9)
            else N (Tglidepathref02_Detections_2b n0 c1 n2 c3 i4 b5 (w64 (i6 + (1 : Int))) i7 i8 n9)
          else none
        else none
      else N (Tglidepathref02_Detections_2b n0 c1 n2 c3 i4 b5 (w64 (i6 + (1 : Int))) i7 i8 n9)
    else N (Tglidepathref02_Detections_2b n0 c1 n2 c3 i4 b5 (w64 (i6 + (1 : Int))) i7 i8 n9)
  else E (Xglidepathref02_Detections_2b (n0, c1, n2, c3, i4, b5, i7, i8, n9))
theorem Bglidepathref02_Detections_2b_eq (F : FnT) (N : Q → Option (Ext × S)) (E : Ext × Q → Option (Ext × S)) (L0 : Q → Option Yglidepathref02_Detections_0) (L2 : Q → Option Yglidepathref02_Detections_2) (n0 : Nat) (c1 : List PV) (n2 : Nat) (c3 : List PV) (i4 : Int) (b5 : Bool) (i6 : Int) (i7 : Int) (i8 : Int) (n9 : Nat) : semB (callP F Eglidepathref02_Detections 20) s31 (loopT [⟨0, Yglidepathref02_Detections_0, L0, XLglidepathref02_Detections_0⟩, ⟨2, Yglidepathref02_Detections_2, L2, XLglidepathref02_Detections_2⟩]) 400 (blkIn a31.body 2) N E (Tglidepathref02_Detections_2b n0 c1 n2 c3 i4 b5 i6 i7 i8 n9) = Bglidepathref02_Detections_2b F N E L0 L2 n0 c1 n2 c3 i4 b5 i6 i7 i8 n9 := by kernel_rfl
theorem Rglidepathref02_Detections_2b_of  (n0 : Nat) (c1 : List PV) (n2 : Nat) (c3 : List PV) (i4 : Int) (b5 : Bool) (i6 : Int) (i7 : Int) (i8 : Int) (n9 : Nat) {r : Ext × S} (h : Bglidepathref02_Detections_2b (Fn env) Rglidepathref02_Detections_2 exO Lglidepathref02_Detections_0 Lglidepathref02_Detections_2 n0 c1 n2 c3 i4 b5 i6 i7 i8 n9 = some r) : Rglidepathref02_Detections_2 (Tglidepathref02_Detections_2b n0 c1 n2 c3 i4 b5 i6 i7 i8 n9) = some r :=
  lp_of Eglidepathref02_Detections_ok (by kernel_rfl) (lo_cons (lpO_ok Uglidepathref02_Detections) (lo_cons (lpO_ok Uglidepathref02_Detections) lo_nil)) (by kernel_rfl) ((Bglidepathref02_Detections_2b_eq _ _ _ _ _ _ _ _ _ _ _ _ _ _ _).trans h)
def tglidepathref02_Detections (F : FnT) (L0 : Q → Option Yglidepathref02_Detections_0) (L2 : Q → Option Yglidepathref02_Detections_2) (p0n : Nat) (p0c : List PV) (p1_0 : Int) (p1_1 : Int) : Option ((Nat) × (List PV)) :=
  bindO (L0 (Tglidepathref02_Detections_0a p0n p0c (0 : Int) p1_0 p1_1)) fun z =>
  Sum.elim (fun y0 =>
    some (0, [])) (fun y1 =>
    bif (decide (y1.2.2.2.2 = y1.1)) then
      some (y1.1, y1.2.1)
    else none) z
theorem tglidepathref02_Detections_eq (F : FnT) (L0 : Q → Option Yglidepathref02_Detections_0) (L2 : Q → Option Yglidepathref02_Detections_2) (p0n : Nat) (p0c : List PV) (p1_0 : Int) (p1_1 : Int) : semF (callP F Eglidepathref02_Detections 20) s31 (loopT [⟨0, Yglidepathref02_Detections_0, L0, XLglidepathref02_Detections_0⟩, ⟨2, Yglidepathref02_Detections_2, L2, XLglidepathref02_Detections_2⟩]) 400 a31 [PV.list p0n p0c, PV.agg [PV.int IntKind.i64 p1_0, PV.int IntKind.i64 p1_1]] (fun rv => decR (RSh.one CK.list) rv.pv) = tglidepathref02_Detections F L0 L2 p0n p0c p1_0 p1_1 := by kernel_rfl
noncomputable abbrev Fglidepathref02_Detections (args : List PV) := Fn env 31 (RSh.one CK.list) args
theorem Fglidepathref02_Detections_of  (p0n : Nat) (p0c : List PV) (p1_0 : Int) (p1_1 : Int) {res : ((Nat) × (List PV))} (h : tglidepathref02_Detections (Fn env) Lglidepathref02_Detections_0 Lglidepathref02_Detections_2 p0n p0c p1_0 p1_1 = some res) : Fglidepathref02_Detections [PV.list p0n p0c, PV.agg [PV.int IntKind.i64 p1_0, PV.int IntKind.i64 p1_1]] = some res :=
  fn_of Eglidepathref02_Detections_ok rfl rfl (lo_cons (lpO_ok Uglidepathref02_Detections) (lo_cons (lpO_ok Uglidepathref02_Detections) lo_nil)) ((tglidepathref02_Detections_eq _ _ _ _ _ _ _).trans h)

/-! ### glidepathref02_Quality -/

def Eglidepathref02_Quality : List Entry := [.out 24 (RSh.one (CK.int IntKind.i64)), .out 26 (RSh.agg [(CK.int IntKind.i64), (CK.int IntKind.i64)])]
theorem Eglidepathref02_Quality_ok : ∀ e ∈ Eglidepathref02_Quality, EntOK env e := (ent_out (ent_out ent_nil))
theorem Uglidepathref02_Quality : uniq ((blocksOf a32.body).map (·.1)) = true := by kernel_rfl
def tglidepathref02_Quality (F : FnT) (p0n : Nat) (p0c : List PV) (p1 : Int) : Option ((Int) × ((Int) × (Bool))) :=
  bindO (F 24 (RSh.one (CK.int IntKind.i64)) [(PV.list p0n p0c)]) fun (y0 : (Int)) =>
  bif (decide (((0 : Int) ≤ p1) ∧ (p1 < (p0n : Int)))) then
    bindO (intC IntKind.i64 (p0c[((Int.toNat p1) * 1)]?)) fun x1 =>
    bif ((w64 (y0 - x1)) == (0 : Int)) then
      some ((0 : Int), ((0 : Int), false))
    else bif (decide (((0 : Int) ≤ p1) ∧ (p1 < (p0n : Int)))) then
      bindO (intC IntKind.i64 (p0c[((Int.toNat p1) * 1)]?)) fun x2 =>
      bindO (F 26 (RSh.agg [(CK.int IntKind.i64), (CK.int IntKind.i64)]) [(PV.int IntKind.i64 (w64 (x2 * (w64 ((p0n : Int) - (1 : Int)))))), (PV.int IntKind.i64 (w64 (y0 - x1)))]) fun (y3 : ((Int) × (Int))) =>
      some (y3.1, (y3.2, true))
    else none
  else none
theorem tglidepathref02_Quality_eq (F : FnT) (p0n : Nat) (p0c : List PV) (p1 : Int) : semF (callP F Eglidepathref02_Quality 20) s32 (loopT []) 400 a32 [PV.list p0n p0c, PV.int IntKind.i64 p1] (fun rv => decR (RSh.tup [(Prod.mk true [(CK.int IntKind.i64), (CK.int IntKind.i64)]), (Prod.mk false [CK.bool])]) rv.pv) = tglidepathref02_Quality F p0n p0c p1 := by kernel_rfl
noncomputable abbrev Fglidepathref02_Quality (args : List PV) := Fn env 32 (RSh.tup [(Prod.mk true [(CK.int IntKind.i64), (CK.int IntKind.i64)]), (Prod.mk false [CK.bool])]) args
theorem Fglidepathref02_Quality_of  (p0n : Nat) (p0c : List PV) (p1 : Int) {res : ((Int) × ((Int) × (Bool)))} (h : tglidepathref02_Quality (Fn env) p0n p0c p1 = some res) : Fglidepathref02_Quality [PV.list p0n p0c, PV.int IntKind.i64 p1] = some res :=
  fn_of Eglidepathref02_Quality_ok rfl rfl lo_nil ((tglidepathref02_Quality_eq _ _ _ _).trans h)

/-! ### glidepathbase_Has -/

def Eglidepathbase_Has : List Entry := []
theorem Eglidepathbase_Has_ok : ∀ e ∈ Eglidepathbase_Has, EntOK env e := ent_nil
def Tglidepathbase_Has_0a (n0 : Nat) (c1 : List PV) (i2 : Int) (i3 : Int) : Q := ⟨(tm 18 [(0, (AV.p (PV.list n0 c1))), (1, (AV.p (PV.int IntKind.i64 i2))), (5, (AV.p (PV.int IntKind.i64 i3)))]), (mm 18 [])⟩
def Xglidepathbase_Has_0a (y : Unit) : Ext × Q := (Ext.ret, ⟨(tm 18 [(4, (AV.p (PV.bool true)))]), (mm 18 [])⟩)
def Iglidepathbase_Has_0a (q : Ext × S) : Unit := ()
def Xglidepathbase_Has_0b (y : Unit) : Ext × Q := (Ext.normal, ⟨(tm 18 []), (mm 18 [])⟩)
def Iglidepathbase_Has_0b (q : Ext × S) : Unit := ()
abbrev Yglidepathbase_Has_0 : Type := (Unit) ⊕ ((Unit))
def XLglidepathbase_Has_0 : XL Yglidepathbase_Has_0 := .more Xglidepathbase_Has_0a (.one Xglidepathbase_Has_0b)
def Iglidepathbase_Has_0 (q : Ext × S) : Yglidepathbase_Has_0 := bif (cE q.1 == 2) then (Sum.inl (Iglidepathbase_Has_0a q)) else (Sum.inr (Iglidepathbase_Has_0b q))
theorem XIglidepathbase_Has_0a (y : Unit) : Iglidepathbase_Has_0 (xe (Xglidepathbase_Has_0a y)) = (Sum.inl y) := rfl
theorem XIglidepathbase_Has_0b (y : Unit) : Iglidepathbase_Has_0 (xe (Xglidepathbase_Has_0b y)) = (Sum.inr y) := rfl
theorem XIglidepathbase_Has_0 (y : Yglidepathbase_Has_0) : Iglidepathbase_Has_0 (xe (XLglidepathbase_Has_0.fn y)) = y := (match y with | .inl y => XIglidepathbase_Has_0a y | .inr y => XIglidepathbase_Has_0b y)
noncomputable abbrev Lglidepathbase_Has_0 : Q → Option Yglidepathbase_Has_0 := lpO env a33.body 0 XLglidepathbase_Has_0
noncomputable abbrev Rglidepathbase_Has_0 : Q → Option (Ext × S) := lpR env a33.body 0
theorem Lglidepathbase_Has_0a_of {s : Q} {y : Unit} (h : Rglidepathbase_Has_0 s = exO (Xglidepathbase_Has_0a y)) : Lglidepathbase_Has_0 s = some (Sum.inl y) := lpO_of Iglidepathbase_Has_0 XIglidepathbase_Has_0 (y := (Sum.inl y)) h
theorem Lglidepathbase_Has_0b_of {s : Q} {y : Unit} (h : Rglidepathbase_Has_0 s = exO (Xglidepathbase_Has_0b y)) : Lglidepathbase_Has_0 s = some (Sum.inr y) := lpO_of Iglidepathbase_Has_0 XIglidepathbase_Has_0 (y := (Sum.inr y)) h
theorem Uglidepathbase_Has : uniq ((blocksOf a33.body).map (·.1)) = true := by kernel_rfl
def Bglidepathbase_Has_0a (F : FnT) (N : Q → Option (Ext × S)) (E : Ext × Q → Option (Ext × S)) (L0 : Q → Option Yglidepathbase_Has_0) (n0 : Nat) (c1 : List PV) (i2 : Int) (i3 : Int) : Option (Ext × S) :=
  bif (decide (i3 < (n0 : Int))) then
    bif (decide (((0 : Int) ≤ i3) ∧ (i3 < (n0 : Int)))) then
      bindO (intC IntKind.i64 (c1[((Int.toNat i3) * 1)]?)) fun x0 =>
      bif (x0 == i2) then
        E (Xglidepathbase_Has_0a ())
      else N (Tglidepathbase_Has_0a n0 c1 i2 (w64 (i3 + (1 : Int))))
    else none
  else E (Xglidepathbase_Has_0b ())
theorem Bglidepathbase_Has_0a_eq (F : FnT) (N : Q → Option (Ext × S)) (E : Ext × Q → Option (Ext × S)) (L0 : Q → Option Yglidepathbase_Has_0) (n0 : Nat) (c1 : List PV) (i2 : Int) (i3 : Int) : semB (callP F Eglidepathbase_Has 20) s33 (loopT [⟨0, Yglidepathbase_Has_0, L0, XLglidepathbase_Has_0⟩]) 400 (blkIn a33.body 0) N E (Tglidepathbase_Has_0a n0 c1 i2 i3) = Bglidepathbase_Has_0a F N E L0 n0 c1 i2 i3 := by kernel_rfl
theorem Rglidepathbase_Has_0a_of  (n0 : Nat) (c1 : List PV) (i2 : Int) (i3 : Int) {r : Ext × S} (h : Bglidepathbase_Has_0a (Fn env) Rglidepathbase_Has_0 exO Lglidepathbase_Has_0 n0 c1 i2 i3 = some r) : Rglidepathbase_Has_0 (Tglidepathbase_Has_0a n0 c1 i2 i3) = some r :=
  lp_of Eglidepathbase_Has_ok (by kernel_rfl) (lo_cons (lpO_ok Uglidepathbase_Has) lo_nil) (by kernel_rfl) ((Bglidepathbase_Has_0a_eq _ _ _ _ _ _ _ _).trans h)
def tglidepathbase_Has (F : FnT) (L0 : Q → Option Yglidepathbase_Has_0) (p0n : Nat) (p0c : List PV) (p1 : Int) : Option (Bool) :=
  bindO (L0 (Tglidepathbase_Has_0a p0n p0c p1 (0 : Int))) fun z =>
  Sum.elim (fun y0 =>
    some true) (fun y1 =>
    some false) z
theorem tglidepathbase_Has_eq (F : FnT) (L0 : Q → Option Yglidepathbase_Has_0) (p0n : Nat) (p0c : List PV) (p1 : Int) : semF (callP F Eglidepathbase_Has 20) s33 (loopT [⟨0, Yglidepathbase_Has_0, L0, XLglidepathbase_Has_0⟩]) 400 a33 [PV.list p0n p0c, PV.int IntKind.i64 p1] (fun rv => decR (RSh.one CK.bool) rv.pv) = tglidepathbase_Has F L0 p0n p0c p1 := by kernel_rfl
noncomputable abbrev Fglidepathbase_Has (args : List PV) := Fn env 33 (RSh.one CK.bool) args
theorem Fglidepathbase_Has_of  (p0n : Nat) (p0c : List PV) (p1 : Int) {res : (Bool)} (h : tglidepathbase_Has (Fn env) Lglidepathbase_Has_0 p0n p0c p1 = some res) : Fglidepathbase_Has [PV.list p0n p0c, PV.int IntKind.i64 p1] = some res :=
  fn_of Eglidepathbase_Has_ok rfl rfl (lo_cons (lpO_ok Uglidepathbase_Has) lo_nil) ((tglidepathbase_Has_eq _ _ _ _ _).trans h)

end Gv
