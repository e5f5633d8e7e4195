/- What the functions do, round by round: M21. -/
import Derived.Test.YtkbbilbpejbmiaaM18
import Derived.Test.YtkbbilbpejbmiaaCC
namespace Gv
open Go
set_option maxRecDepth 100000

/-! ### line_noiseOn -/

def Eline_noiseOn : List Entry := []
theorem Eline_noiseOn_ok : ∀ e ∈ Eline_noiseOn, EntOK env e := ent_nil
theorem Uline_noiseOn : uniq ((blocksOf a40.body).map (·.1)) = true := by kernel_rfl
def tline_noiseOn (F : FnT) (p0_0n : Nat) (p0_0c : List PV) (p1 : Int) : Option (((Nat) × (List PV)) × (((Nat) × (List PV)) × ((Int) × (Int)))) :=
  bif (decide ((p1 = p1) ∧ (((0 : Int) ≤ p1) ∧ (p1 ≤ (big : Int))))) then
    bif (decide ((0 + ((Int.toNat p1) * 1)) ≤ (List.length (rep [(PV.int IntKind.i64 (0 : Int))] (Int.toNat p1))))) then
      some (((Int.toNat p1), (List.take ((Int.toNat p1) * 1) (List.drop 0 (rep [(PV.int IntKind.i64 (0 : Int))] (Int.toNat p1))))), ((p0_0n, p0_0c), ((0 : Int), (0 : Int))))
    else none
  else none
theorem tline_noiseOn_eq (F : FnT) (p0_0n : Nat) (p0_0c : List PV) (p1 : Int) : semF (callP F Eline_noiseOn 20) s40 (loopT []) 400 a40 [PV.agg [PV.list p0_0n p0_0c], PV.int IntKind.i64 p1] (fun rv => decR (RSh.agg [CK.list, CK.list, (CK.int IntKind.i64), (CK.int IntKind.i64)]) rv.pv) = tline_noiseOn F p0_0n p0_0c p1 := by kernel_rfl
noncomputable abbrev Fline_noiseOn (args : List PV) := Fn env 40 (RSh.agg [CK.list, CK.list, (CK.int IntKind.i64), (CK.int IntKind.i64)]) args
theorem Fline_noiseOn_of  (p0_0n : Nat) (p0_0c : List PV) (p1 : Int) {res : (((Nat) × (List PV)) × (((Nat) × (List PV)) × ((Int) × (Int))))} (h : tline_noiseOn (Fn env) p0_0n p0_0c p1 = some res) : Fline_noiseOn [PV.agg [PV.list p0_0n p0_0c], PV.int IntKind.i64 p1] = some res :=
  fn_of Eline_noiseOn_ok rfl rfl lo_nil ((tline_noiseOn_eq _ _ _ _).trans h)

/-! ### line_linesError -/

def Eline_linesError : List Entry := [.out 42 (RSh.one (CK.int IntKind.i64)), .out 40 (RSh.agg [CK.list, CK.list, (CK.int IntKind.i64), (CK.int IntKind.i64)]), .out 72 (RSh.one (CK.int IntKind.i64))]
theorem Eline_linesError_ok : ∀ e ∈ Eline_linesError, EntOK env e := (ent_out (ent_out (ent_out ent_nil)))
theorem Uline_linesError : uniq ((blocksOf a37.body).map (·.1)) = true := by kernel_rfl
def tline_linesError (F : FnT) (p0_0n : Nat) (p0_0c : List PV) (p1 : Int) : Option (Int) :=
  bindO (F 42 (RSh.one (CK.int IntKind.i64)) [(PV.int IntKind.i64 p1), (PV.int IntKind.i64 (1 : Int)), (PV.int IntKind.i64 (16 : Int))]) fun (y0 : (Int)) =>
  bif (y0 != (0 : Int)) then
    some y0
  else bindO (F 40 (RSh.agg [CK.list, CK.list, (CK.int IntKind.i64), (CK.int IntKind.i64)]) [(PV.agg [(PV.list p0_0n p0_0c)]), (PV.int IntKind.i64 p1)]) fun (y1 : (((Nat) × (List PV)) × (((Nat) × (List PV)) × ((Int) × (Int))))) =>
  bindO (F 72 (RSh.one (CK.int IntKind.i64)) [(PV.agg [(PV.list y1.1.1 y1.1.2), (PV.list y1.2.1.1 y1.2.1.2), (PV.int IntKind.i64 y1.2.2.1), (PV.int IntKind.i64 y1.2.2.2)])]) fun (y2 : (Int)) =>
  some y2
theorem tline_linesError_eq (F : FnT) (p0_0n : Nat) (p0_0c : List PV) (p1 : Int) : semF (callP F Eline_linesError 20) s37 (loopT []) 400 a37 [PV.agg [PV.list p0_0n p0_0c], PV.int IntKind.i64 p1] (fun rv => decR (RSh.one (CK.int IntKind.i64)) rv.pv) = tline_linesError F p0_0n p0_0c p1 := by kernel_rfl
noncomputable abbrev Fline_linesError (args : List PV) := Fn env 37 (RSh.one (CK.int IntKind.i64)) args
theorem Fline_linesError_of  (p0_0n : Nat) (p0_0c : List PV) (p1 : Int) {res : (Int)} (h : tline_linesError (Fn env) p0_0n p0_0c p1 = some res) : Fline_linesError [PV.agg [PV.list p0_0n p0_0c], PV.int IntKind.i64 p1] = some res :=
  fn_of Eline_linesError_ok rfl rfl lo_nil ((tline_linesError_eq _ _ _ _).trans h)

/-! ### line_FalseRate -/

def Eline_FalseRate : List Entry := [.out 36 (RSh.one (CK.int IntKind.i64)), .out 37 (RSh.one (CK.int IntKind.i64)), .out 38 (RSh.one (CK.int IntKind.i64)), .out 35 (RSh.one (CK.int IntKind.i64)), .out 40 (RSh.agg [CK.list, CK.list, (CK.int IntKind.i64), (CK.int IntKind.i64)]), .out 39 (RSh.agg [(CK.int IntKind.i64), (CK.int IntKind.i64)])]
theorem Eline_FalseRate_ok : ∀ e ∈ Eline_FalseRate, EntOK env e := (ent_out (ent_out (ent_out (ent_out (ent_out (ent_out ent_nil))))))
theorem Uline_FalseRate : uniq ((blocksOf a10.body).map (·.1)) = true := by kernel_rfl
def tline_FalseRate (F : FnT) (p0_0n : Nat) (p0_0c : List PV) (p1 : Int) (p2 : Int) : Option ((Int) × ((Int) × (Int))) :=
  bindO (F 36 (RSh.one (CK.int IntKind.i64)) [(PV.agg [(PV.list p0_0n p0_0c)])]) fun (y0 : (Int)) =>
  bindO (F 37 (RSh.one (CK.int IntKind.i64)) [(PV.agg [(PV.list p0_0n p0_0c)]), (PV.int IntKind.i64 p1)]) fun (y1 : (Int)) =>
  bindO (F 38 (RSh.one (CK.int IntKind.i64)) [(PV.int IntKind.i64 p2)]) fun (y2 : (Int)) =>
  bindO (F 35 (RSh.one (CK.int IntKind.i64)) [(PV.list 3 [(PV.int IntKind.i64 y0), (PV.int IntKind.i64 y1), (PV.int IntKind.i64 y2)])]) fun (y3 : (Int)) =>
  bif (y3 != (0 : Int)) then
    some ((0 : Int), ((0 : Int), y3))
  else bindO (F 40 (RSh.agg [CK.list, CK.list, (CK.int IntKind.i64), (CK.int IntKind.i64)]) [(PV.agg [(PV.list p0_0n p0_0c)]), (PV.int IntKind.i64 p1)]) fun (y4 : (((Nat) × (List PV)) × (((Nat) × (List PV)) × ((Int) × (Int))))) =>
  bindO (F 39 (RSh.agg [(CK.int IntKind.i64), (CK.int IntKind.i64)]) [(PV.agg [(PV.list y4.1.1 y4.1.2), (PV.list y4.2.1.1 y4.2.1.2), (PV.int IntKind.i64 y4.2.2.1), (PV.int IntKind.i64 y4.2.2.2)]), (PV.int IntKind.i64 p2)]) fun (y5 : ((Int) × (Int))) =>
  some (y5.1, (y5.2, (0 : Int)))
theorem tline_FalseRate_eq (F : FnT) (p0_0n : Nat) (p0_0c : List PV) (p1 : Int) (p2 : Int) : semF (callP F Eline_FalseRate 20) s10 (loopT []) 400 a10 [PV.agg [PV.list p0_0n p0_0c], PV.int IntKind.i64 p1, PV.int IntKind.i64 p2] (fun rv => decR (RSh.tup [(Prod.mk true [(CK.int IntKind.i64), (CK.int IntKind.i64)]), (Prod.mk false [(CK.int IntKind.i64)])]) rv.pv) = tline_FalseRate F p0_0n p0_0c p1 p2 := by kernel_rfl
noncomputable abbrev Fline_FalseRate (args : List PV) := Fn env 10 (RSh.tup [(Prod.mk true [(CK.int IntKind.i64), (CK.int IntKind.i64)]), (Prod.mk false [(CK.int IntKind.i64)])]) args
theorem Fline_FalseRate_of  (p0_0n : Nat) (p0_0c : List PV) (p1 : Int) (p2 : Int) {res : ((Int) × ((Int) × (Int)))} (h : tline_FalseRate (Fn env) p0_0n p0_0c p1 p2 = some res) : Fline_FalseRate [PV.agg [PV.list p0_0n p0_0c], PV.int IntKind.i64 p1, PV.int IntKind.i64 p2] = some res :=
  fn_of Eline_FalseRate_ok rfl rfl lo_nil ((tline_FalseRate_eq _ _ _ _ _).trans h)

/-! ### line_keepsRisk -/

def Eline_keepsRisk : List Entry := [.out 44 (RSh.one (CK.int IntKind.i64)), .out 45 (RSh.one (CK.int IntKind.i64))]
theorem Eline_keepsRisk_ok : ∀ e ∈ Eline_keepsRisk, EntOK env e := (ent_out (ent_out ent_nil))
theorem Uline_keepsRisk : uniq ((blocksOf a43.body).map (·.1)) = true := by kernel_rfl
def tline_keepsRisk (F : FnT)(x : Int) (n m : Nat) (cs ds : List PV) (t u r : Int) : Option (Bool) :=
  bindO (F 44 (RSh.one (CK.int IntKind.i64)) [(PV.agg [(PV.list (Prod.mk n cs).1 (Prod.mk n cs).2), (PV.list (Prod.mk m ds).1 (Prod.mk m ds).2), (PV.int IntKind.i64 t), (PV.int IntKind.i64 u)]), (PV.int IntKind.i64 x)]) fun (y0 : (Int)) =>
  bindO (F 45 (RSh.one (CK.int IntKind.i64)) [(PV.agg [(PV.list (Prod.mk n cs).1 (Prod.mk n cs).2), (PV.list (Prod.mk m ds).1 (Prod.mk m ds).2), (PV.int IntKind.i64 t), (PV.int IntKind.i64 u)])]) fun (y1 : (Int)) =>
  bif (decide ((w64 ((1000 : Int) * y0)) ≤ (w64 (r * y1)))) then
    some true
  else some false
theorem tline_keepsRisk_eq (F : FnT)(x : Int) (n m : Nat) (cs ds : List PV) (t u r : Int) : semF (callP F Eline_keepsRisk 20) s43 (loopT []) 400 a43 [.int .i64 x, .imm [.list n cs, .list m ds, .int .i64 t, .int .i64 u] 0, .imm [.int .i64 r] 0] (fun rv => decR (RSh.one CK.bool) rv.pv) = tline_keepsRisk F x n m cs ds t u r := by kernel_rfl
noncomputable abbrev Fline_keepsRisk (args : List PV) := Fn env 43 (RSh.one CK.bool) args
theorem Fline_keepsRisk_of (x : Int) (n m : Nat) (cs ds : List PV) (t u r : Int) {res : (Bool)} (h : tline_keepsRisk (Fn env) x n m cs ds t u r = some res) : Fline_keepsRisk [.int .i64 x, .imm [.list n cs, .list m ds, .int .i64 t, .int .i64 u] 0, .imm [.int .i64 r] 0] = some res :=
  fn_of Eline_keepsRisk_ok rfl rfl lo_nil ((tline_keepsRisk_eq _ _ _ _ _ _ _ _ _).trans h)

/-! ### line_MaxI -/

def Eline_MaxI : List Entry := []
theorem Eline_MaxI_ok : ∀ e ∈ Eline_MaxI, EntOK env e := ent_nil
def Tline_MaxI_0a (n0 : Nat) (c1 : List PV) (i2 : Int) (i3 : Int) : Q := ⟨(tm 25 [(0, (AV.p (PV.list n0 c1))), (3, (AV.p (PV.int IntKind.i64 i2))), (4, (AV.p (PV.int IntKind.i64 i3)))]), (mm 25 [])⟩
def Xline_MaxI_0a (y : Int) : Ext × Q := (Ext.normal, ⟨(tm 25 [(3, (AV.p (PV.int IntKind.i64 y)))]), (mm 25 [])⟩)
def Iline_MaxI_0a (q : Ext × S) : Int := (pP_int1 (pA_p (avT q.2 3)))
abbrev Yline_MaxI_0 : Type := Int
def XLline_MaxI_0 : XL Yline_MaxI_0 := .one Xline_MaxI_0a
def Iline_MaxI_0 (q : Ext × S) : Yline_MaxI_0 := (Iline_MaxI_0a q)
theorem XIline_MaxI_0a (y : Int) : Iline_MaxI_0 (xe (Xline_MaxI_0a y)) = y := rfl
theorem XIline_MaxI_0 (y : Yline_MaxI_0) : Iline_MaxI_0 (xe (XLline_MaxI_0.fn y)) = y := XIline_MaxI_0a y
noncomputable abbrev Lline_MaxI_0 : Q → Option Yline_MaxI_0 := lpO env a46.body 0 XLline_MaxI_0
noncomputable abbrev Rline_MaxI_0 : Q → Option (Ext × S) := lpR env a46.body 0
theorem Lline_MaxI_0a_of {s : Q} {y : Int} (h : Rline_MaxI_0 s = exO (Xline_MaxI_0a y)) : Lline_MaxI_0 s = some y := lpO_of Iline_MaxI_0 XIline_MaxI_0 (y := y) h
theorem Uline_MaxI : uniq ((blocksOf a46.body).map (·.1)) = true := by kernel_rfl
def Bline_MaxI_0a (F : FnT) (N : Q → Option (Ext × S)) (E : Ext × Q → Option (Ext × S)) (L0 : Q → Option Yline_MaxI_0) (n0 : Nat) (c1 : List PV) (i2 : Int) (i3 : Int) : Option (Ext × S) :=
  bif (decide (i3 < (n0 : Int))) then
    bif (decide (((0 : Int) ≤ i3) ∧ (i3 < (n0 : Int)))) then
      bindO (intC IntKind.i64 (c1[((Int.toNat i3) * 1)]?)) fun x0 =>
      N (Tline_MaxI_0a n0 c1 (if (x0 > i2) then x0 else i2) (w64 (i3 + (1 : Int))))
    else none
  else E (Xline_MaxI_0a i2)
theorem Bline_MaxI_0a_eq (F : FnT) (N : Q → Option (Ext × S)) (E : Ext × Q → Option (Ext × S)) (L0 : Q → Option Yline_MaxI_0) (n0 : Nat) (c1 : List PV) (i2 : Int) (i3 : Int) : semB (callP F Eline_MaxI 20) s46 (loopT [⟨0, Yline_MaxI_0, L0, XLline_MaxI_0⟩]) 400 (blkIn a46.body 0) N E (Tline_MaxI_0a n0 c1 i2 i3) = Bline_MaxI_0a F N E L0 n0 c1 i2 i3 := by kernel_rfl
theorem Rline_MaxI_0a_of  (n0 : Nat) (c1 : List PV) (i2 : Int) (i3 : Int) {r : Ext × S} (h : Bline_MaxI_0a (Fn env) Rline_MaxI_0 exO Lline_MaxI_0 n0 c1 i2 i3 = some r) : Rline_MaxI_0 (Tline_MaxI_0a n0 c1 i2 i3) = some r :=
  lp_of Eline_MaxI_ok (by kernel_rfl) (lo_cons (lpO_ok Uline_MaxI) lo_nil) (by kernel_rfl) ((Bline_MaxI_0a_eq _ _ _ _ _ _ _ _).trans h)
def tline_MaxI (F : FnT) (L0 : Q → Option Yline_MaxI_0) (p0n : Nat) (p0c : List PV) : Option (Int) :=
  bif (decide ((p0n : Int) < (1 : Int))) then
    none
  else bif (decide (((0 : Int) ≤ (0 : Int)) ∧ ((0 : Int) < (p0n : Int)))) then
    bindO (intC IntKind.i64 (p0c[0]?)) fun x0 =>
    bindO (L0 (Tline_MaxI_0a p0n p0c x0 (1 : Int))) fun y1 =>
    some y1
  else none
theorem tline_MaxI_eq (F : FnT) (L0 : Q → Option Yline_MaxI_0) (p0n : Nat) (p0c : List PV) : semF (callP F Eline_MaxI 20) s46 (loopT [⟨0, Yline_MaxI_0, L0, XLline_MaxI_0⟩]) 400 a46 [PV.list p0n p0c] (fun rv => decR (RSh.one (CK.int IntKind.i64)) rv.pv) = tline_MaxI F L0 p0n p0c := by kernel_rfl
noncomputable abbrev Fline_MaxI (args : List PV) := Fn env 46 (RSh.one (CK.int IntKind.i64)) args
theorem Fline_MaxI_of  (p0n : Nat) (p0c : List PV) {res : (Int)} (h : tline_MaxI (Fn env) Lline_MaxI_0 p0n p0c = some res) : Fline_MaxI [PV.list p0n p0c] = some res :=
  fn_of Eline_MaxI_ok rfl rfl (lo_cons (lpO_ok Uline_MaxI) lo_nil) ((tline_MaxI_eq _ _ _ _).trans h)

/-! ### line_ThresholdFor -/

def Eline_ThresholdFor : List Entry := [.out 36 (RSh.one (CK.int IntKind.i64)), .out 37 (RSh.one (CK.int IntKind.i64)), .out 42 (RSh.one (CK.int IntKind.i64)), .out 35 (RSh.one (CK.int IntKind.i64)), .out 40 (RSh.agg [CK.list, CK.list, (CK.int IntKind.i64), (CK.int IntKind.i64)]), .out 46 (RSh.one (CK.int IntKind.i64)), .out 47 (RSh.one CK.list), .out 43 (RSh.one CK.bool)]
theorem Eline_ThresholdFor_ok : ∀ e ∈ Eline_ThresholdFor, EntOK env e := (ent_out (ent_out (ent_out (ent_out (ent_out (ent_out (ent_out (ent_out ent_nil))))))))
def Tline_ThresholdFor_0a (i0 : Int) (n1 : Nat) (c2 : List PV) (i3 : Int) (n4 : Nat) (c5 : List PV) (i6 : Int) (n7 : Nat) (c8 : List PV) (n9 : Nat) (c10 : List PV) (i11 : Int) (i12 : Int) : Q := ⟨(tm 54 [(10, (AV.clo 43 [(AV.loc 9 0), (AV.loc 5 0)])), (11, (AV.p (PV.int IntKind.i64 i0))), (38, (AV.p (PV.list n1 c2))), (39, (AV.p (PV.int IntKind.i64 i3))), (40, (AV.p (PV.int IntKind.i64 (0 : Int))))]), (mm 54 [(3, (Bk.cells true [(AV.p (PV.list n4 c5))])), (5, (Bk.pcs true [(PV.int IntKind.i64 i6)])), (9, (Bk.cells true [(AV.p (PV.list n7 c8)), (AV.p (PV.list n9 c10)), (AV.p (PV.int IntKind.i64 i11)), (AV.p (PV.int IntKind.i64 i12))]))])⟩
def Tline_ThresholdFor_0b (i0 : Int) (n1 : Nat) (c2 : List PV) (i3 : Int) (i4 : Int) (i5 : Int) (n6 : Nat) (c7 : List PV) (n8 : Nat) (c9 : List PV) (i10 : Int) (i11 : Int) : Q := ⟨(tm 54 [(10, (AV.clo 43 [(AV.loc 9 0), (AV.loc 5 0)])), (11, (AV.p (PV.int IntKind.i64 i0))), (38, (AV.p (PV.list n1 c2))), (39, (AV.p (PV.int IntKind.i64 i3))), (40, (AV.p (PV.int IntKind.i64 i4)))]), (mm 54 [(5, (Bk.pcs false [(PV.int IntKind.i64 i5)])), (9, (Bk.cells false [(AV.p (PV.list n6 c7)), (AV.p (PV.list n8 c9)), (AV.p (PV.int IntKind.i64 i10)), (AV.p (PV.int IntKind.i64 i11))]))])⟩
def Xline_ThresholdFor_0a (y : Int × Bool × Int × Bool × Nat × List PV × Nat × List PV × Int × Int) : Ext × Q := (Ext.normal, ⟨(tm 54 [(11, (AV.p (PV.int IntKind.i64 y.1)))]), (mm 54 [(5, (Bk.pcs y.2.1 [(PV.int IntKind.i64 y.2.2.1)])), (9, (Bk.cells y.2.2.2.1 [(AV.p (PV.list y.2.2.2.2.1 y.2.2.2.2.2.1)), (AV.p (PV.list y.2.2.2.2.2.2.1 y.2.2.2.2.2.2.2.1)), (AV.p (PV.int IntKind.i64 y.2.2.2.2.2.2.2.2.1)), (AV.p (PV.int IntKind.i64 y.2.2.2.2.2.2.2.2.2))]))])⟩)
def Iline_ThresholdFor_0a (q : Ext × S) : Int × Bool × Int × Bool × Nat × List PV × Nat × List PV × Int × Int := ((pP_int1 (pA_p (avT q.2 11))), ((fun b : Blk => match b with | .cells w _ => w | _ => false) (avM q.2 5)), (pP_int1 (hdP (pB_pcs1 (avM q.2 5)))), ((fun b : Blk => match b with | .cells w _ => w | _ => false) (avM q.2 9)), (pP_list0 (pA_p (hdA (pB_cells1 (avM q.2 9))))), (pP_list1 (pA_p (hdA (pB_cells1 (avM q.2 9))))), (pP_list0 (pA_p (hdA (List.tail (pB_cells1 (avM q.2 9)))))), (pP_list1 (pA_p (hdA (List.tail (pB_cells1 (avM q.2 9)))))), (pP_int1 (pA_p (hdA (List.tail (List.tail (pB_cells1 (avM q.2 9))))))), (pP_int1 (pA_p (hdA (List.tail (List.tail (List.tail (pB_cells1 (avM q.2 9)))))))))
abbrev Yline_ThresholdFor_0 : Type := Int × Bool × Int × Bool × Nat × List PV × Nat × List PV × Int × Int
def XLline_ThresholdFor_0 : XL Yline_ThresholdFor_0 := .one Xline_ThresholdFor_0a
def Iline_ThresholdFor_0 (q : Ext × S) : Yline_ThresholdFor_0 := (Iline_ThresholdFor_0a q)
theorem XIline_ThresholdFor_0a (y : Int × Bool × Int × Bool × Nat × List PV × Nat × List PV × Int × Int) : Iline_ThresholdFor_0 (xe (Xline_ThresholdFor_0a y)) = y := rfl
theorem XIline_ThresholdFor_0 (y : Yline_ThresholdFor_0) : Iline_ThresholdFor_0 (xe (XLline_ThresholdFor_0.fn y)) = y := XIline_ThresholdFor_0a y
noncomputable abbrev Lline_ThresholdFor_0 : Q → Option Yline_ThresholdFor_0 := lpO env a12.body 0 XLline_ThresholdFor_0
noncomputable abbrev Rline_ThresholdFor_0 : Q → Option (Ext × S) := lpR env a12.body 0
theorem Lline_ThresholdFor_0a_of {s : Q} {y : Int × Bool × Int × Bool × Nat × List PV × Nat × List PV × Int × Int} (h : Rline_ThresholdFor_0 s = exO (Xline_ThresholdFor_0a y)) : Lline_ThresholdFor_0 s = some y := lpO_of Iline_ThresholdFor_0 XIline_ThresholdFor_0 (y := y) h
theorem Uline_ThresholdFor : uniq ((blocksOf a12.body).map (·.1)) = true := by kernel_rfl
def Bline_ThresholdFor_0a (F : FnT) (N : Q → Option (Ext × S)) (E : Ext × Q → Option (Ext × S)) (L0 : Q → Option Yline_ThresholdFor_0) (i0 : Int) (n1 : Nat) (c2 : List PV) (i3 : Int) (n4 : Nat) (c5 : List PV) (i6 : Int) (n7 : Nat) (c8 : List PV) (n9 : Nat) (c10 : List PV) (i11 : Int) (i12 : Int) : Option (Ext × S) :=
  bif (decide ((0 : Int) < i3)) then
    bif (decide (((0 : Int) ≤ (0 : Int)) ∧ ((0 : Int) < (n1 : Int)))) then
      bindO (intC IntKind.i64 (c2[0]?)) fun x0 =>
      bindO (F 43 (RSh.one CK.bool) [(PV.int IntKind.i64 (w64 (x0 + (1 : Int)))), (PV.imm [(PV.list n7 c8), (PV.list n9 c10), (PV.int IntKind.i64 i11), (PV.int IntKind.i64 i12)] 0), (PV.imm [(PV.int IntKind.i64 i6)] 0)]) fun (y1 : (Bool)) =>
      bif y1 then
        N (Tline_ThresholdFor_0b (if ((w64 (x0 + (1 : Int))) < i0) then (w64 (x0 + (1 : Int))) else i0) n1 c2 i3 (1 : Int) i6 n7 c8 n9 c10 i11 i12)
      else N (Tline_ThresholdFor_0b i0 n1 c2 i3 (1 : Int) i6 n7 c8 n9 c10 i11 i12)
    else none
  else E (Xline_ThresholdFor_0a (i0, true, i6, true, n7, c8, n9, c10, i11, i12))
theorem Bline_ThresholdFor_0a_eq (F : FnT) (N : Q → Option (Ext × S)) (E : Ext × Q → Option (Ext × S)) (L0 : Q → Option Yline_ThresholdFor_0) (i0 : Int) (n1 : Nat) (c2 : List PV) (i3 : Int) (n4 : Nat) (c5 : List PV) (i6 : Int) (n7 : Nat) (c8 : List PV) (n9 : Nat) (c10 : List PV) (i11 : Int) (i12 : Int) : semB (callP F Eline_ThresholdFor 20) s12 (loopT [⟨0, Yline_ThresholdFor_0, L0, XLline_ThresholdFor_0⟩]) 400 (blkIn a12.body 0) N E (Tline_ThresholdFor_0a i0 n1 c2 i3 n4 c5 i6 n7 c8 n9 c10 i11 i12) = Bline_ThresholdFor_0a F N E L0 i0 n1 c2 i3 n4 c5 i6 n7 c8 n9 c10 i11 i12 := by kernel_rfl
theorem Rline_ThresholdFor_0a_of  (i0 : Int) (n1 : Nat) (c2 : List PV) (i3 : Int) (n4 : Nat) (c5 : List PV) (i6 : Int) (n7 : Nat) (c8 : List PV) (n9 : Nat) (c10 : List PV) (i11 : Int) (i12 : Int) {r : Ext × S} (h : Bline_ThresholdFor_0a (Fn env) Rline_ThresholdFor_0 exO Lline_ThresholdFor_0 i0 n1 c2 i3 n4 c5 i6 n7 c8 n9 c10 i11 i12 = some r) : Rline_ThresholdFor_0 (Tline_ThresholdFor_0a i0 n1 c2 i3 n4 c5 i6 n7 c8 n9 c10 i11 i12) = some r :=
  lp_of Eline_ThresholdFor_ok (by kernel_rfl) (lo_cons (lpO_ok Uline_ThresholdFor) lo_nil) (by kernel_rfl) ((Bline_ThresholdFor_0a_eq _ _ _ _ _ _ _ _ _ _ _ _ _ _ _ _ _).trans h)
def Bline_ThresholdFor_0b (F : FnT) (N : Q → Option (Ext × S)) (E : Ext × Q → Option (Ext × S)) (L0 : Q → Option Yline_ThresholdFor_0) (i0 : Int) (n1 : Nat) (c2 : List PV) (i3 : Int) (i4 : Int) (i5 : Int) (n6 : Nat) (c7 : List PV) (n8 : Nat) (c9 : List PV) (i10 : Int) (i11 : Int) : Option (Ext × S) :=
  bif (decide (i4 < i3)) then
    bif (decide (((0 : Int) ≤ i4) ∧ (i4 < (n1 : Int)))) then
      bindO (intC IntKind.i64 (c2[((Int.toNat i4) * 1)]?)) fun x0 =>
      bindO (F 43 (RSh.one CK.bool) [(PV.int IntKind.i64 (w64 (x0 + (1 : Int)))), (PV.imm [(PV.list n6 c7), (PV.list n8 c9), (PV.int IntKind.i64 i10), (PV.int IntKind.i64 i11)] 0), (PV.imm [(PV.int IntKind.i64 i5)] 0)]) fun (y1 : (Bool)) =>
      bif y1 then
        N (Tline_ThresholdFor_0b (if ((w64 (x0 + (1 : Int))) < i0) then (w64 (x0 + (1 : Int))) else i0) n1 c2 i3 (w64 (i4 + (1 : Int))) i5 n6 c7 n8 c9 i10 i11)
      else N (Tline_ThresholdFor_0b i0 n1 c2 i3 (w64 (i4 + (1 : Int))) i5 n6 c7 n8 c9 i10 i11)
    else none
  else E (Xline_ThresholdFor_0a (i0, false, i5, false, n6, c7, n8, c9, i10, i11))
theorem Bline_ThresholdFor_0b_eq (F : FnT) (N : Q → Option (Ext × S)) (E : Ext × Q → Option (Ext × S)) (L0 : Q → Option Yline_ThresholdFor_0) (i0 : Int) (n1 : Nat) (c2 : List PV) (i3 : Int) (i4 : Int) (i5 : Int) (n6 : Nat) (c7 : List PV) (n8 : Nat) (c9 : List PV) (i10 : Int) (i11 : Int) : semB (callP F Eline_ThresholdFor 20) s12 (loopT [⟨0, Yline_ThresholdFor_0, L0, XLline_ThresholdFor_0⟩]) 400 (blkIn a12.body 0) N E (Tline_ThresholdFor_0b i0 n1 c2 i3 i4 i5 n6 c7 n8 c9 i10 i11) = Bline_ThresholdFor_0b F N E L0 i0 n1 c2 i3 i4 i5 n6 c7 n8 c9 i10 i11 := by kernel_rfl
theorem Rline_ThresholdFor_0b_of  (i0 : Int) (n1 : Nat) (c2 : List PV) (i3 : Int) (i4 : Int) (i5 : Int) (n6 : Nat) (c7 : List PV) (n8 : Nat) (c9 : List PV) (i10 : Int) (i11 : Int) {r : Ext × S} (h : Bline_ThresholdFor_0b (Fn env) Rline_ThresholdFor_0 exO Lline_ThresholdFor_0 i0 n1 c2 i3 i4 i5 n6 c7 n8 c9 i10 i11 = some r) : Rline_ThresholdFor_0 (Tline_ThresholdFor_0b i0 n1 c2 i3 i4 i5 n6 c7 n8 c9 i10 i11) = some r :=
  lp_of Eline_ThresholdFor_ok (by kernel_rfl) (lo_cons (lpO_ok Uline_ThresholdFor) lo_nil) (by kernel_rfl) ((Bline_ThresholdFor_0b_eq _ _ _ _ _ _ _ _ _ _ _ _ _ _ _ _).trans h)
def tline_ThresholdFor (F : FnT) (L0 : Q → Option Yline_ThresholdFor_0) (p0_0n : Nat) (p0_0c : List PV) (p1 : Int) (p2 : Int) : Option ((Int) × (Int)) :=
  bindO (F 36 (RSh.one (CK.int IntKind.i64)) [(PV.agg [(PV.list p0_0n p0_0c)])]) fun (y0 : (Int)) =>
  bindO (F 37 (RSh.one (CK.int IntKind.i64)) [(PV.agg [(PV.list p0_0n p0_0c)]), (PV.int IntKind.i64 p1)]) fun (y1 : (Int)) =>
  bindO (F 42 (RSh.one (CK.int IntKind.i64)) [(PV.int IntKind.i64 p2), (PV.int IntKind.i64 (0 : Int)), (PV.int IntKind.i64 (1000 : Int))]) fun (y2 : (Int)) =>
  bindO (F 35 (RSh.one (CK.int IntKind.i64)) [(PV.list 3 [(PV.int IntKind.i64 y0), (PV.int IntKind.i64 y1), (PV.int IntKind.i64 y2)])]) fun (y3 : (Int)) =>
  bif (y3 != (0 : Int)) then
    some ((0 : Int), y3)
  else bindO (F 40 (RSh.agg [CK.list, CK.list, (CK.int IntKind.i64), (CK.int IntKind.i64)]) [(PV.agg [(PV.list p0_0n p0_0c)]), (PV.int IntKind.i64 p1)]) fun (y4 : (((Nat) × (List PV)) × (((Nat) × (List PV)) × ((Int) × (Int))))) =>
  bindO (F 46 (RSh.one (CK.int IntKind.i64)) [(PV.list p0_0n p0_0c)]) fun (y5 : (Int)) =>
  bindO (F 47 (RSh.one CK.list) [(PV.list 2 [(PV.list 1 [(PV.int IntKind.i64 (-1 : Int))]), (PV.list p0_0n p0_0c)])]) fun (y6 : ((Nat) × (List PV))) =>
  bindO (L0 (Tline_ThresholdFor_0a (w64 (y5 + (1 : Int))) y6.1 y6.2 (y6.1 : Int) p0_0n p0_0c p2 y4.1.1 y4.1.2 y4.2.1.1 y4.2.1.2 y4.2.2.1 y4.2.2.2)) fun y7 =>
  some (y7.1, (0 : Int))
theorem tline_ThresholdFor_eq (F : FnT) (L0 : Q → Option Yline_ThresholdFor_0) (p0_0n : Nat) (p0_0c : List PV) (p1 : Int) (p2 : Int) : semF (callP F Eline_ThresholdFor 20) s12 (loopT [⟨0, Yline_ThresholdFor_0, L0, XLline_ThresholdFor_0⟩]) 400 a12 [PV.agg [PV.list p0_0n p0_0c], PV.int IntKind.i64 p1, PV.int IntKind.i64 p2] (fun rv => decR (RSh.tup [(Prod.mk false [(CK.int IntKind.i64)]), (Prod.mk false [(CK.int IntKind.i64)])]) rv.pv) = tline_ThresholdFor F L0 p0_0n p0_0c p1 p2 := by kernel_rfl
noncomputable abbrev Fline_ThresholdFor (args : List PV) := Fn env 12 (RSh.tup [(Prod.mk false [(CK.int IntKind.i64)]), (Prod.mk false [(CK.int IntKind.i64)])]) args
theorem Fline_ThresholdFor_of  (p0_0n : Nat) (p0_0c : List PV) (p1 : Int) (p2 : Int) {res : ((Int) × (Int))} (h : tline_ThresholdFor (Fn env) Lline_ThresholdFor_0 p0_0n p0_0c p1 p2 = some res) : Fline_ThresholdFor [PV.agg [PV.list p0_0n p0_0c], PV.int IntKind.i64 p1, PV.int IntKind.i64 p2] = some res :=
  fn_of Eline_ThresholdFor_ok rfl rfl (lo_cons (lpO_ok Uline_ThresholdFor) lo_nil) ((tline_ThresholdFor_eq _ _ _ _ _ _).trans h)

/-! ### RfLinesErr -/

def ERfLinesErr : List Entry := [.out 8 (RSh.one CK.bool), .out 9 (RSh.one (CK.int IntKind.i64))]
theorem ERfLinesErr_ok : ∀ e ∈ ERfLinesErr, EntOK env e := (ent_out (ent_out ent_nil))
theorem URfLinesErr : uniq ((blocksOf a13.body).map (·.1)) = true := by kernel_rfl
def tRfLinesErr (F : FnT) (p0_0n : Nat) (p0_0c : List PV) (p1 : Int) : Option (Int) :=
  bindO (F 8 (RSh.one CK.bool) [(PV.int IntKind.i64 p1), (PV.int IntKind.i64 (1 : Int)), (PV.int IntKind.i64 (16 : Int))]) fun (y0 : (Bool)) =>
  bif y0 then
    bindO (F 9 (RSh.one (CK.int IntKind.i64)) [(PV.agg [(PV.list p0_0n p0_0c)]), (PV.int IntKind.i64 p1)]) fun (y1 : (Int)) =>
    bif (decide (y1 > (4096 : Int))) then
      some (8 : Int)
    else some (0 : Int)
  else some (2 : Int)
theorem tRfLinesErr_eq (F : FnT) (p0_0n : Nat) (p0_0c : List PV) (p1 : Int) : semF (callP F ERfLinesErr 20) s13 (loopT []) 400 a13 [PV.agg [PV.list p0_0n p0_0c], PV.int IntKind.i64 p1] (fun rv => decR (RSh.one (CK.int IntKind.i64)) rv.pv) = tRfLinesErr F p0_0n p0_0c p1 := by kernel_rfl
noncomputable abbrev FRfLinesErr (args : List PV) := Fn env 13 (RSh.one (CK.int IntKind.i64)) args
theorem FRfLinesErr_of  (p0_0n : Nat) (p0_0c : List PV) (p1 : Int) {res : (Int)} (h : tRfLinesErr (Fn env) p0_0n p0_0c p1 = some res) : FRfLinesErr [PV.agg [PV.list p0_0n p0_0c], PV.int IntKind.i64 p1] = some res :=
  fn_of ERfLinesErr_ok rfl rfl lo_nil ((tRfLinesErr_eq _ _ _ _).trans h)

/-! ### RfFalseRate -/

def ERfFalseRate : List Entry := [.out 48 (RSh.agg [(CK.int IntKind.i64), (CK.int IntKind.i64)])]
theorem ERfFalseRate_ok : ∀ e ∈ ERfFalseRate, EntOK env e := (ent_out ent_nil)
theorem URfFalseRate : uniq ((blocksOf a15.body).map (·.1)) = true := by kernel_rfl
def tRfFalseRate (F : FnT) (p0_0n : Nat) (p0_0c : List PV) (p1 : Int) (p2 : Int) : Option ((Int) × (Int)) :=
  bif (decide ((p1 = p1) ∧ (((0 : Int) ≤ p1) ∧ (p1 ≤ (big : Int))))) then
    bif (decide ((0 + ((Int.toNat p1) * 1)) ≤ (List.length (rep [(PV.int IntKind.i64 (0 : Int))] (Int.toNat p1))))) then
      bindO (F 48 (RSh.agg [(CK.int IntKind.i64), (CK.int IntKind.i64)]) [(PV.list (Int.toNat p1) (List.take ((Int.toNat p1) * 1) (List.drop 0 (rep [(PV.int IntKind.i64 (0 : Int))] (Int.toNat p1))))), (PV.agg [(PV.list p0_0n p0_0c)]), (PV.int IntKind.i64 p2)]) fun (y0 : ((Int) × (Int))) =>
      some (y0.1, y0.2)
    else none
  else none
theorem tRfFalseRate_eq (F : FnT) (p0_0n : Nat) (p0_0c : List PV) (p1 : Int) (p2 : Int) : semF (callP F ERfFalseRate 20) s15 (loopT []) 400 a15 [PV.agg [PV.list p0_0n p0_0c], PV.int IntKind.i64 p1, PV.int IntKind.i64 p2] (fun rv => decR (RSh.agg [(CK.int IntKind.i64), (CK.int IntKind.i64)]) rv.pv) = tRfFalseRate F p0_0n p0_0c p1 p2 := by kernel_rfl
noncomputable abbrev FRfFalseRate (args : List PV) := Fn env 15 (RSh.agg [(CK.int IntKind.i64), (CK.int IntKind.i64)]) args
theorem FRfFalseRate_of  (p0_0n : Nat) (p0_0c : List PV) (p1 : Int) (p2 : Int) {res : ((Int) × (Int))} (h : tRfFalseRate (Fn env) p0_0n p0_0c p1 p2 = some res) : FRfFalseRate [PV.agg [PV.list p0_0n p0_0c], PV.int IntKind.i64 p1, PV.int IntKind.i64 p2] = some res :=
  fn_of ERfFalseRate_ok rfl rfl lo_nil ((tRfFalseRate_eq _ _ _ _ _).trans h)

/-! ### RfThreshold -/

def ERfThreshold : List Entry := [.out 15 (RSh.agg [(CK.int IntKind.i64), (CK.int IntKind.i64)])]
theorem ERfThreshold_ok : ∀ e ∈ ERfThreshold, EntOK env e := (ent_out ent_nil)
def TRfThreshold_0a (i0 : Int) (i1 : Int) (i2 : Int) (i3 : Int) (n4 : Nat) (c5 : List PV) : Q := ⟨(tm 49 [(1, (AV.p (PV.int IntKind.i64 i0))), (2, (AV.p (PV.int IntKind.i64 i1))), (3, (AV.loc 3 0)), (7, (AV.p (PV.int IntKind.i64 i2))), (8, (AV.p (PV.int IntKind.i64 i3)))]), (mm 49 [(3, (Bk.cells true [(AV.p (PV.list n4 c5))]))])⟩
def XRfThreshold_0a (y : Int × Nat × List PV) : Ext × Q := (Ext.normal, ⟨(tm 49 [(7, (AV.p (PV.int IntKind.i64 y.1)))]), (mm 49 [(3, (Bk.cells true [(AV.p (PV.list y.2.1 y.2.2))]))])⟩)
def IRfThreshold_0a (q : Ext × S) : Int × Nat × List PV := ((pP_int1 (pA_p (avT q.2 7))), (pP_list0 (pA_p (hdA (pB_cells1 (avM q.2 3))))), (pP_list1 (pA_p (hdA (pB_cells1 (avM q.2 3))))))
abbrev YRfThreshold_0 : Type := Int × Nat × List PV
def XLRfThreshold_0 : XL YRfThreshold_0 := .one XRfThreshold_0a
def IRfThreshold_0 (q : Ext × S) : YRfThreshold_0 := (IRfThreshold_0a q)
theorem XIRfThreshold_0a (y : Int × Nat × List PV) : IRfThreshold_0 (xe (XRfThreshold_0a y)) = y := rfl
theorem XIRfThreshold_0 (y : YRfThreshold_0) : IRfThreshold_0 (xe (XLRfThreshold_0.fn y)) = y := XIRfThreshold_0a y
noncomputable abbrev LRfThreshold_0 : Q → Option YRfThreshold_0 := lpO env a16.body 0 XLRfThreshold_0
noncomputable abbrev RRfThreshold_0 : Q → Option (Ext × S) := lpR env a16.body 0
theorem LRfThreshold_0a_of {s : Q} {y : Int × Nat × List PV} (h : RRfThreshold_0 s = exO (XRfThreshold_0a y)) : LRfThreshold_0 s = some y := lpO_of IRfThreshold_0 XIRfThreshold_0 (y := y) h
theorem URfThreshold : uniq ((blocksOf a16.body).map (·.1)) = true := by kernel_rfl
def BRfThreshold_0a (F : FnT) (N : Q → Option (Ext × S)) (E : Ext × Q → Option (Ext × S)) (L0 : Q → Option YRfThreshold_0) (i0 : Int) (i1 : Int) (i2 : Int) (i3 : Int) (n4 : Nat) (c5 : List PV) : Option (Ext × S) :=
  bif (decide (i3 < (n4 : Int))) then
    bif (decide (i3 ≥ (0 : Int))) then
      bif (decide (((0 : Int) ≤ i3) ∧ (i3 < (n4 : Int)))) then
        bindO (intC IntKind.i64 (c5[((Int.toNat i3) * 1)]?)) fun x0 =>
        bindO (F 15 (RSh.agg [(CK.int IntKind.i64), (CK.int IntKind.i64)]) [(PV.agg [(PV.list n4 c5)]), (PV.int IntKind.i64 i0), (PV.int IntKind.i64 (w64 (x0 + (1 : Int))))]) fun (y1 : ((Int) × (Int))) =>
        bif (decide ((w64 ((1000 : Int) * y1.1)) ≤ (w64 (i1 * y1.2)))) then
          bif (decide (i2 < (0 : Int))) then
            N (TRfThreshold_0a i0 i1 (w64 (x0 + (1 : Int))) (w64 (i3 + (1 : Int))) n4 c5)
          else bif (decide ((w64 (x0 + (1 : Int))) < i2)) then
            N (TRfThreshold_0a i0 i1 (w64 (x0 + (1 : Int))) (w64 (i3 + (1 : Int))) n4 c5)
          else N (TRfThreshold_0a i0 i1 i2 (w64 (i3 + (1 : Int))) n4 c5)
        else N (TRfThreshold_0a i0 i1 i2 (w64 (i3 + (1 : Int))) n4 c5)
      else none
    else bindO (F 15 (RSh.agg [(CK.int IntKind.i64), (CK.int IntKind.i64)]) [(PV.agg [(PV.list n4 c5)]), (PV.int IntKind.i64 i0), (PV.int IntKind.i64 (0 : Int))]) fun (y2 : ((Int) × (Int))) =>
    bif (decide ((w64 ((1000 : Int) * y2.1)) ≤ (w64 (i1 * y2.2)))) then
      bif (decide (i2 < (0 : Int))) then
        N (TRfThreshold_0a i0 i1 (0 : Int) (w64 (i3 + (1 : Int))) n4 c5)
      else bif (decide ((0 : Int) < i2)) then
        N (TRfThreshold_0a i0 i1 (0 : Int) (w64 (i3 + (1 : Int))) n4 c5)
      else N (TRfThreshold_0a i0 i1 i2 (w64 (i3 + (1 : Int))) n4 c5)
    else N (TRfThreshold_0a i0 i1 i2 (w64 (i3 + (1 : Int))) n4 c5)
  else E (XRfThreshold_0a (i2, n4, c5))
theorem BRfThreshold_0a_eq (F : FnT) (N : Q → Option (Ext × S)) (E : Ext × Q → Option (Ext × S)) (L0 : Q → Option YRfThreshold_0) (i0 : Int) (i1 : Int) (i2 : Int) (i3 : Int) (n4 : Nat) (c5 : List PV) : semB (callP F ERfThreshold 20) s16 (loopT [⟨0, YRfThreshold_0, L0, XLRfThreshold_0⟩]) 400 (blkIn a16.body 0) N E (TRfThreshold_0a i0 i1 i2 i3 n4 c5) = BRfThreshold_0a F N E L0 i0 i1 i2 i3 n4 c5 := by kernel_rfl
theorem RRfThreshold_0a_of  (i0 : Int) (i1 : Int) (i2 : Int) (i3 : Int) (n4 : Nat) (c5 : List PV) {r : Ext × S} (h : BRfThreshold_0a (Fn env) RRfThreshold_0 exO LRfThreshold_0 i0 i1 i2 i3 n4 c5 = some r) : RRfThreshold_0 (TRfThreshold_0a i0 i1 i2 i3 n4 c5) = some r :=
  lp_of ERfThreshold_ok (by kernel_rfl) (lo_cons (lpO_ok URfThreshold) lo_nil) (by kernel_rfl) ((BRfThreshold_0a_eq _ _ _ _ _ _ _ _ _ _).trans h)
def tRfThreshold (F : FnT) (L0 : Q → Option YRfThreshold_0) (p0_0n : Nat) (p0_0c : List PV) (p1 : Int) (p2 : Int) : Option (Int) :=
  bindO (L0 (TRfThreshold_0a p1 p2 (-1 : Int) (-1 : Int) p0_0n p0_0c)) fun y0 =>
  some y0.1
theorem tRfThreshold_eq (F : FnT) (L0 : Q → Option YRfThreshold_0) (p0_0n : Nat) (p0_0c : List PV) (p1 : Int) (p2 : Int) : semF (callP F ERfThreshold 20) s16 (loopT [⟨0, YRfThreshold_0, L0, XLRfThreshold_0⟩]) 400 a16 [PV.agg [PV.list p0_0n p0_0c], PV.int IntKind.i64 p1, PV.int IntKind.i64 p2] (fun rv => decR (RSh.one (CK.int IntKind.i64)) rv.pv) = tRfThreshold F L0 p0_0n p0_0c p1 p2 := by kernel_rfl
noncomputable abbrev FRfThreshold (args : List PV) := Fn env 16 (RSh.one (CK.int IntKind.i64)) args
theorem FRfThreshold_of  (p0_0n : Nat) (p0_0c : List PV) (p1 : Int) (p2 : Int) {res : (Int)} (h : tRfThreshold (Fn env) LRfThreshold_0 p0_0n p0_0c p1 p2 = some res) : FRfThreshold [PV.agg [PV.list p0_0n p0_0c], PV.int IntKind.i64 p1, PV.int IntKind.i64 p2] = some res :=
  fn_of ERfThreshold_ok rfl rfl (lo_cons (lpO_ok URfThreshold) lo_nil) ((tRfThreshold_eq _ _ _ _ _ _).trans h)

end Gv
