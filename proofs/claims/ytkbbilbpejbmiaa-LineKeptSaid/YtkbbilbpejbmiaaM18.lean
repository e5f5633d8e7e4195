/- What the functions do, round by round: M18. -/
import Derived.Test.YtkbbilbpejbmiaaM15
namespace Gv
open Go
set_option maxRecDepth 100000

/-! ### line_IndexFuncS_at -/

def Eline_IndexFuncS_at : List Entry := [.out 101 (RSh.one CK.bool)]
theorem Eline_IndexFuncS_at_ok : ∀ e ∈ Eline_IndexFuncS_at, EntOK env e := (ent_out ent_nil)
def Tline_IndexFuncS_at_0a (n0 : Nat) (c1 : List PV) (i2 : Int) (i3 : Int) (i4 : Int) : Q := ⟨(tm 19 [(0, (AV.p (PV.list n0 c1))), (1, (AV.p (PV.fn 101 [(PV.imm [(PV.int IntKind.i64 i2)] 0)]))), (7, (AV.p (PV.int IntKind.i64 i3))), (8, (AV.p (PV.int IntKind.i64 i4)))]), (mm 19 [])⟩
def Xline_IndexFuncS_at_0a (y : Int) : Ext × Q := (Ext.ret, ⟨(tm 19 [(4, (AV.p (PV.int IntKind.i64 y)))]), (mm 19 [])⟩)
def Iline_IndexFuncS_at_0a (q : Ext × S) : Int := (pP_int1 (pA_p (avT q.2 4)))
def Xline_IndexFuncS_at_0b (y : Unit) : Ext × Q := (Ext.normal, ⟨(tm 19 []), (mm 19 [])⟩)
def Iline_IndexFuncS_at_0b (q : Ext × S) : Unit := ()
abbrev Yline_IndexFuncS_at_0 : Type := (Int) ⊕ ((Unit))
def XLline_IndexFuncS_at_0 : XL Yline_IndexFuncS_at_0 := .more Xline_IndexFuncS_at_0a (.one Xline_IndexFuncS_at_0b)
def Iline_IndexFuncS_at_0 (q : Ext × S) : Yline_IndexFuncS_at_0 := bif (cE q.1 == 2) then (Sum.inl (Iline_IndexFuncS_at_0a q)) else (Sum.inr (Iline_IndexFuncS_at_0b q))
theorem XIline_IndexFuncS_at_0a (y : Int) : Iline_IndexFuncS_at_0 (xe (Xline_IndexFuncS_at_0a y)) = (Sum.inl y) := rfl
theorem XIline_IndexFuncS_at_0b (y : Unit) : Iline_IndexFuncS_at_0 (xe (Xline_IndexFuncS_at_0b y)) = (Sum.inr y) := rfl
theorem XIline_IndexFuncS_at_0 (y : Yline_IndexFuncS_at_0) : Iline_IndexFuncS_at_0 (xe (XLline_IndexFuncS_at_0.fn y)) = y := (match y with | .inl y => XIline_IndexFuncS_at_0a y | .inr y => XIline_IndexFuncS_at_0b y)
noncomputable abbrev Lline_IndexFuncS_at_0 : Q → Option Yline_IndexFuncS_at_0 := lpO env a102.body 0 XLline_IndexFuncS_at_0
noncomputable abbrev Rline_IndexFuncS_at_0 : Q → Option (Ext × S) := lpR env a102.body 0
theorem Lline_IndexFuncS_at_0a_of {s : Q} {y : Int} (h : Rline_IndexFuncS_at_0 s = exO (Xline_IndexFuncS_at_0a y)) : Lline_IndexFuncS_at_0 s = some (Sum.inl y) := lpO_of Iline_IndexFuncS_at_0 XIline_IndexFuncS_at_0 (y := (Sum.inl y)) h
theorem Lline_IndexFuncS_at_0b_of {s : Q} {y : Unit} (h : Rline_IndexFuncS_at_0 s = exO (Xline_IndexFuncS_at_0b y)) : Lline_IndexFuncS_at_0 s = some (Sum.inr y) := lpO_of Iline_IndexFuncS_at_0 XIline_IndexFuncS_at_0 (y := (Sum.inr y)) h
theorem Uline_IndexFuncS_at : uniq ((blocksOf a102.body).map (·.1)) = true := by kernel_rfl
def Bline_IndexFuncS_at_0a (F : FnT) (N : Q → Option (Ext × S)) (E : Ext × Q → Option (Ext × S)) (L0 : Q → Option Yline_IndexFuncS_at_0) (n0 : Nat) (c1 : List PV) (i2 : Int) (i3 : Int) (i4 : Int) : Option (Ext × S) :=
  bif (decide (i4 < i3)) then
    bif (decide (((0 : Int) ≤ i4) ∧ (i4 < (n0 : Int)))) then
      bindO (intC IntKind.i64 (c1[((Int.toNat i4) * 1)]?)) fun x0 =>
      bindO (F 101 (RSh.one CK.bool) [(PV.int IntKind.i64 x0), (PV.imm [(PV.int IntKind.i64 i2)] 0)]) fun (y1 : (Bool)) =>
      bif y1 then
        E (Xline_IndexFuncS_at_0a i4)
      else N (Tline_IndexFuncS_at_0a n0 c1 i2 i3 (w64 (i4 + (1 : Int))))
    else none
  else E (Xline_IndexFuncS_at_0b ())
theorem Bline_IndexFuncS_at_0a_eq (F : FnT) (N : Q → Option (Ext × S)) (E : Ext × Q → Option (Ext × S)) (L0 : Q → Option Yline_IndexFuncS_at_0) (n0 : Nat) (c1 : List PV) (i2 : Int) (i3 : Int) (i4 : Int) : semB (callP F Eline_IndexFuncS_at 20) s102 (loopT [⟨0, Yline_IndexFuncS_at_0, L0, XLline_IndexFuncS_at_0⟩]) 400 (blkIn a102.body 0) N E (Tline_IndexFuncS_at_0a n0 c1 i2 i3 i4) = Bline_IndexFuncS_at_0a F N E L0 n0 c1 i2 i3 i4 := by kernel_rfl
theorem Rline_IndexFuncS_at_0a_of  (n0 : Nat) (c1 : List PV) (i2 : Int) (i3 : Int) (i4 : Int) {r : Ext × S} (h : Bline_IndexFuncS_at_0a (Fn env) Rline_IndexFuncS_at_0 exO Lline_IndexFuncS_at_0 n0 c1 i2 i3 i4 = some r) : Rline_IndexFuncS_at_0 (Tline_IndexFuncS_at_0a n0 c1 i2 i3 i4) = some r :=
  lp_of Eline_IndexFuncS_at_ok (by kernel_rfl) (lo_cons (lpO_ok Uline_IndexFuncS_at) lo_nil) (by kernel_rfl) ((Bline_IndexFuncS_at_0a_eq _ _ _ _ _ _ _ _ _).trans h)
def tline_IndexFuncS_at (F : FnT) (L0 : Q → Option Yline_IndexFuncS_at_0)(n : Nat) (cs : List PV) (m : Int) : Option (Int) :=
  bindO (L0 (Tline_IndexFuncS_at_0a n cs m (n : Int) (0 : Int))) fun z =>
  Sum.elim (fun y0 =>
    some y0) (fun y1 =>
    some (-1 : Int)) z
theorem tline_IndexFuncS_at_eq (F : FnT) (L0 : Q → Option Yline_IndexFuncS_at_0)(n : Nat) (cs : List PV) (m : Int) : semF (callP F Eline_IndexFuncS_at 20) s102 (loopT [⟨0, Yline_IndexFuncS_at_0, L0, XLline_IndexFuncS_at_0⟩]) 400 a102 [.list n cs, .fn 101 [.imm [.int .i64 m] 0]] (fun rv => decR (RSh.one (CK.int IntKind.i64)) rv.pv) = tline_IndexFuncS_at F L0 n cs m := by kernel_rfl
noncomputable abbrev Fline_IndexFuncS_at (args : List PV) := Fn env 102 (RSh.one (CK.int IntKind.i64)) args
theorem Fline_IndexFuncS_at_of (n : Nat) (cs : List PV) (m : Int) {res : (Int)} (h : tline_IndexFuncS_at (Fn env) Lline_IndexFuncS_at_0 n cs m = some res) : Fline_IndexFuncS_at [.list n cs, .fn 101 [.imm [.int .i64 m] 0]] = some res :=
  fn_of Eline_IndexFuncS_at_ok rfl rfl (lo_cons (lpO_ok Uline_IndexFuncS_at) lo_nil) ((tline_IndexFuncS_at_eq _ _ _ _ _).trans h)

/-! ### line_ContainsFuncS_at -/

def Eline_ContainsFuncS_at : List Entry := [.out 102 (RSh.one (CK.int IntKind.i64))]
theorem Eline_ContainsFuncS_at_ok : ∀ e ∈ Eline_ContainsFuncS_at, EntOK env e := (ent_out ent_nil)
theorem Uline_ContainsFuncS_at : uniq ((blocksOf a75.body).map (·.1)) = true := by kernel_rfl
def tline_ContainsFuncS_at (F : FnT)(n : Nat) (cs : List PV) (m : Int) : Option (Bool) :=
  bindO (F 102 (RSh.one (CK.int IntKind.i64)) [(PV.list n cs), (PV.fn 101 [(PV.imm [(PV.int IntKind.i64 m)] 0)])]) fun (y0 : (Int)) =>
  bif (decide (y0 ≥ (0 : Int))) then
    some true
  else some false
theorem tline_ContainsFuncS_at_eq (F : FnT)(n : Nat) (cs : List PV) (m : Int) : semF (callP F Eline_ContainsFuncS_at 20) s75 (loopT []) 400 a75 [.list n cs, .fn 101 [.imm [.int .i64 m] 0]] (fun rv => decR (RSh.one CK.bool) rv.pv) = tline_ContainsFuncS_at F n cs m := by kernel_rfl
noncomputable abbrev Fline_ContainsFuncS_at (args : List PV) := Fn env 75 (RSh.one CK.bool) args
theorem Fline_ContainsFuncS_at_of (n : Nat) (cs : List PV) (m : Int) {res : (Bool)} (h : tline_ContainsFuncS_at (Fn env) n cs m = some res) : Fline_ContainsFuncS_at [.list n cs, .fn 101 [.imm [.int .i64 m] 0]] = some res :=
  fn_of Eline_ContainsFuncS_at_ok rfl rfl lo_nil ((tline_ContainsFuncS_at_eq _ _ _ _).trans h)

/-! ### line_reaching -/

def Eline_reaching : List Entry := [.inl 61 a61 s61, .inl 74 a74 s74, .out 92 (RSh.one CK.list), .out 75 (RSh.one CK.bool)]
theorem Eline_reaching_ok : ∀ e ∈ Eline_reaching, EntOK env e := (ent_inl rfl (ent_inl rfl (ent_out (ent_out ent_nil))))
def Tline_reaching_3000021a (n0 : Nat) (c1 : List PV) (i2 : Int) (n3 : Nat) (c4 : List PV) (n5 : Nat) (c6 : List PV) (i7 : Int) (i8 : Int) (i9 : Int) (i10 : Int) : Q := ⟨(tm 45 [(5, (AV.loc 5 0)), (6, (AV.loc 6 0)), (21, (AV.p (PV.list n0 c1))), (22, (AV.p (PV.int IntKind.i64 i2)))]), (mm 45 [(2, (Bk.cells true [(AV.p (PV.list n3 c4)), (AV.p (PV.list n5 c6)), (AV.p (PV.int IntKind.i64 i7)), (AV.p (PV.int IntKind.i64 i8))])), (5, (Bk.pcs true [(PV.int IntKind.i64 i9)])), (6, (Bk.cells true [(AV.p (PV.fn 101 [(PV.imm [(PV.int IntKind.i64 i10)] 0)]))]))])⟩
def Xline_reaching_3000021a (y : Nat × List PV × Nat × List PV × Int × Int × Int × Int) : Ext × Q := (Ext.normal, ⟨(tm 45 [(5, (AV.loc 5 0)), (6, (AV.loc 6 0))]), (mm 45 [(2, (Bk.cells true [(AV.p (PV.list y.1 y.2.1)), (AV.p (PV.list y.2.2.1 y.2.2.2.1)), (AV.p (PV.int IntKind.i64 y.2.2.2.2.1)), (AV.p (PV.int IntKind.i64 y.2.2.2.2.2.1))])), (5, (Bk.pcs true [(PV.int IntKind.i64 y.2.2.2.2.2.2.1)])), (6, (Bk.cells true [(AV.p (PV.fn 101 [(PV.imm [(PV.int IntKind.i64 y.2.2.2.2.2.2.2)] 0)]))]))])⟩)
def Iline_reaching_3000021a (q : Ext × S) : Nat × List PV × Nat × List PV × Int × Int × Int × Int := ((pP_list0 (pA_p (hdA (pB_cells1 (avM q.2 2))))), (pP_list1 (pA_p (hdA (pB_cells1 (avM q.2 2))))), (pP_list0 (pA_p (hdA (List.tail (pB_cells1 (avM q.2 2)))))), (pP_list1 (pA_p (hdA (List.tail (pB_cells1 (avM q.2 2)))))), (pP_int1 (pA_p (hdA (List.tail (List.tail (pB_cells1 (avM q.2 2))))))), (pP_int1 (pA_p (hdA (List.tail (List.tail (List.tail (pB_cells1 (avM q.2 2)))))))), (pP_int1 (hdP (pB_pcs1 (avM q.2 5)))), (pP_int1 (hdP (pP_imm0 (hdP (pP_fn1 (pA_p (hdA (pB_cells1 (avM q.2 6))))))))))
abbrev Yline_reaching_3000021 : Type := Nat × List PV × Nat × List PV × Int × Int × Int × Int
def XLline_reaching_3000021 : XL Yline_reaching_3000021 := .one Xline_reaching_3000021a
def Iline_reaching_3000021 (q : Ext × S) : Yline_reaching_3000021 := (Iline_reaching_3000021a q)
theorem XIline_reaching_3000021a (y : Nat × List PV × Nat × List PV × Int × Int × Int × Int) : Iline_reaching_3000021 (xe (Xline_reaching_3000021a y)) = y := rfl
theorem XIline_reaching_3000021 (y : Yline_reaching_3000021) : Iline_reaching_3000021 (xe (XLline_reaching_3000021.fn y)) = y := XIline_reaching_3000021a y
noncomputable abbrev Lline_reaching_3000021 : Q → Option Yline_reaching_3000021 := lpO env a44.body 3000021 XLline_reaching_3000021
noncomputable abbrev Rline_reaching_3000021 : Q → Option (Ext × S) := lpR env a44.body 3000021
theorem Lline_reaching_3000021a_of {s : Q} {y : Nat × List PV × Nat × List PV × Int × Int × Int × Int} (h : Rline_reaching_3000021 s = exO (Xline_reaching_3000021a y)) : Lline_reaching_3000021 s = some y := lpO_of Iline_reaching_3000021 XIline_reaching_3000021 (y := y) h
theorem Uline_reaching : uniq ((blocksOf a44.body).map (·.1)) = true := by kernel_rfl
def Bline_reaching_3000021a (F : FnT) (N : Q → Option (Ext × S)) (E : Ext × Q → Option (Ext × S)) (L3000021 : Q → Option Yline_reaching_3000021) (n0 : Nat) (c1 : List PV) (i2 : Int) (n3 : Nat) (c4 : List PV) (n5 : Nat) (c6 : List PV) (i7 : Int) (i8 : Int) (i9 : Int) (i10 : Int) : Option (Ext × S) :=
  bif (decide (i2 < (n0 : Int))) then
    bif (decide (((0 : Int) ≤ i2) ∧ (i2 < (n0 : Int)))) then
      bindO (intC IntKind.i64 (c1[(((Int.toNat i2) * 2) + 0)]?)) fun x0 =>
      bindO (listC (c1[(((Int.toNat i2) * 2) + 1)]?)) fun x1 =>
      bindO (F 75 (RSh.one CK.bool) [(PV.list x1.1 x1.2), (PV.fn 101 [(PV.imm [(PV.int IntKind.i64 i10)] 0)])]) fun (y2 : (Bool)) =>
      bif y2 then
        N (Tline_reaching_3000021a n0 c1 (w64 (i2 + (1 : Int))) n3 c4 n5 c6 i7 i8 (w64 (i9 + (1 : Int))) i10)
      else N (Tline_reaching_3000021a n0 c1 (w64 (i2 + (1 : Int))) n3 c4 n5 c6 i7 i8 i9 i10)
    else none
  else E (Xline_reaching_3000021a (n3, c4, n5, c6, i7, i8, i9, i10))
theorem Bline_reaching_3000021a_eq (F : FnT) (N : Q → Option (Ext × S)) (E : Ext × Q → Option (Ext × S)) (L3000021 : Q → Option Yline_reaching_3000021) (n0 : Nat) (c1 : List PV) (i2 : Int) (n3 : Nat) (c4 : List PV) (n5 : Nat) (c6 : List PV) (i7 : Int) (i8 : Int) (i9 : Int) (i10 : Int) : semB (callP F Eline_reaching 20) s44 (loopT [⟨3000021, Yline_reaching_3000021, L3000021, XLline_reaching_3000021⟩]) 400 (blkIn a44.body 3000021) N E (Tline_reaching_3000021a n0 c1 i2 n3 c4 n5 c6 i7 i8 i9 i10) = Bline_reaching_3000021a F N E L3000021 n0 c1 i2 n3 c4 n5 c6 i7 i8 i9 i10 := by kernel_rfl
theorem Rline_reaching_3000021a_of  (n0 : Nat) (c1 : List PV) (i2 : Int) (n3 : Nat) (c4 : List PV) (n5 : Nat) (c6 : List PV) (i7 : Int) (i8 : Int) (i9 : Int) (i10 : Int) {r : Ext × S} (h : Bline_reaching_3000021a (Fn env) Rline_reaching_3000021 exO Lline_reaching_3000021 n0 c1 i2 n3 c4 n5 c6 i7 i8 i9 i10 = some r) : Rline_reaching_3000021 (Tline_reaching_3000021a n0 c1 i2 n3 c4 n5 c6 i7 i8 i9 i10) = some r :=
  lp_of Eline_reaching_ok (by kernel_rfl) (lo_cons (lpO_ok Uline_reaching) lo_nil) (by kernel_rfl) ((Bline_reaching_3000021a_eq _ _ _ _ _ _ _ _ _ _ _ _ _ _ _).trans h)
def tline_reaching (F : FnT) (L3000021 : Q → Option Yline_reaching_3000021) (p0_0n : Nat) (p0_0c : List PV) (p0_1n : Nat) (p0_1c : List PV) (p0_2 : Int) (p0_3 : Int) (p1 : Int) : Option (Int) :=
  bindO (F 92 (RSh.one CK.list) [(PV.it [Option.none, Option.none] 0), (PV.imm [(PV.list p0_0n p0_0c), (PV.list p0_1n p0_1c), (PV.int IntKind.i64 p0_2), (PV.int IntKind.i64 p0_3)] 0)]) fun (y0 : ((Nat) × (List PV))) =>
  bindO (L3000021 (Tline_reaching_3000021a y0.1 y0.2 (0 : Int) p0_0n p0_0c p0_1n p0_1c p0_2 p0_3 (0 : Int) p1)) fun y1 =>
  some y1.2.2.2.2.2.2.1
theorem tline_reaching_eq (F : FnT) (L3000021 : Q → Option Yline_reaching_3000021) (p0_0n : Nat) (p0_0c : List PV) (p0_1n : Nat) (p0_1c : List PV) (p0_2 : Int) (p0_3 : Int) (p1 : Int) : semF (callP F Eline_reaching 20) s44 (loopT [⟨3000021, Yline_reaching_3000021, L3000021, XLline_reaching_3000021⟩]) 400 a44 [PV.agg [PV.list p0_0n p0_0c, PV.list p0_1n p0_1c, PV.int IntKind.i64 p0_2, PV.int IntKind.i64 p0_3], PV.int IntKind.i64 p1] (fun rv => decR (RSh.one (CK.int IntKind.i64)) rv.pv) = tline_reaching F L3000021 p0_0n p0_0c p0_1n p0_1c p0_2 p0_3 p1 := by kernel_rfl
noncomputable abbrev Fline_reaching (args : List PV) := Fn env 44 (RSh.one (CK.int IntKind.i64)) args
theorem Fline_reaching_of  (p0_0n : Nat) (p0_0c : List PV) (p0_1n : Nat) (p0_1c : List PV) (p0_2 : Int) (p0_3 : Int) (p1 : Int) {res : (Int)} (h : tline_reaching (Fn env) Lline_reaching_3000021 p0_0n p0_0c p0_1n p0_1c p0_2 p0_3 p1 = some res) : Fline_reaching [PV.agg [PV.list p0_0n p0_0c, PV.list p0_1n p0_1c, PV.int IntKind.i64 p0_2, PV.int IntKind.i64 p0_3], PV.int IntKind.i64 p1] = some res :=
  fn_of Eline_reaching_ok rfl rfl (lo_cons (lpO_ok Uline_reaching) lo_nil) ((tline_reaching_eq _ _ _ _ _ _ _ _ _).trans h)

/-! ### line_rateOf -/

def Eline_rateOf : List Entry := [.out 44 (RSh.one (CK.int IntKind.i64)), .out 45 (RSh.one (CK.int IntKind.i64)), .out 63 (RSh.agg [(CK.int IntKind.i64), (CK.int IntKind.i64)])]
theorem Eline_rateOf_ok : ∀ e ∈ Eline_rateOf, EntOK env e := (ent_out (ent_out (ent_out ent_nil)))
theorem Uline_rateOf : uniq ((blocksOf a39.body).map (·.1)) = true := by kernel_rfl
def tline_rateOf (F : FnT) (p0_0n : Nat) (p0_0c : List PV) (p0_1n : Nat) (p0_1c : List PV) (p0_2 : Int) (p0_3 : Int) (p1 : Int) : Option ((Int) × (Int)) :=
  bindO (F 44 (RSh.one (CK.int IntKind.i64)) [(PV.agg [(PV.list p0_0n p0_0c), (PV.list p0_1n p0_1c), (PV.int IntKind.i64 p0_2), (PV.int IntKind.i64 p0_3)]), (PV.int IntKind.i64 p1)]) fun (y0 : (Int)) =>
  bindO (F 45 (RSh.one (CK.int IntKind.i64)) [(PV.agg [(PV.list p0_0n p0_0c), (PV.list p0_1n p0_1c), (PV.int IntKind.i64 p0_2), (PV.int IntKind.i64 p0_3)])]) fun (y1 : (Int)) =>
  bindO (F 63 (RSh.agg [(CK.int IntKind.i64), (CK.int IntKind.i64)]) [(PV.int IntKind.i64 y0), (PV.int IntKind.i64 y1)]) fun (y2 : ((Int) × (Int))) =>
  some (y2.1, y2.2)
theorem tline_rateOf_eq (F : FnT) (p0_0n : Nat) (p0_0c : List PV) (p0_1n : Nat) (p0_1c : List PV) (p0_2 : Int) (p0_3 : Int) (p1 : Int) : semF (callP F Eline_rateOf 20) s39 (loopT []) 400 a39 [PV.agg [PV.list p0_0n p0_0c, PV.list p0_1n p0_1c, PV.int IntKind.i64 p0_2, PV.int IntKind.i64 p0_3], PV.int IntKind.i64 p1] (fun rv => decR (RSh.agg [(CK.int IntKind.i64), (CK.int IntKind.i64)]) rv.pv) = tline_rateOf F p0_0n p0_0c p0_1n p0_1c p0_2 p0_3 p1 := by kernel_rfl
noncomputable abbrev Fline_rateOf (args : List PV) := Fn env 39 (RSh.agg [(CK.int IntKind.i64), (CK.int IntKind.i64)]) args
theorem Fline_rateOf_of  (p0_0n : Nat) (p0_0c : List PV) (p0_1n : Nat) (p0_1c : List PV) (p0_2 : Int) (p0_3 : Int) (p1 : Int) {res : ((Int) × (Int))} (h : tline_rateOf (Fn env) p0_0n p0_0c p0_1n p0_1c p0_2 p0_3 p1 = some res) : Fline_rateOf [PV.agg [PV.list p0_0n p0_0c, PV.list p0_1n p0_1c, PV.int IntKind.i64 p0_2, PV.int IntKind.i64 p0_3], PV.int IntKind.i64 p1] = some res :=
  fn_of Eline_rateOf_ok rfl rfl lo_nil ((tline_rateOf_eq _ _ _ _ _ _ _ _).trans h)

/-! ### line_thresholdError -/

def Eline_thresholdError : List Entry := [.out 42 (RSh.one (CK.int IntKind.i64))]
theorem Eline_thresholdError_ok : ∀ e ∈ Eline_thresholdError, EntOK env e := (ent_out ent_nil)
theorem Uline_thresholdError : uniq ((blocksOf a38.body).map (·.1)) = true := by kernel_rfl
def tline_thresholdError (F : FnT) (p0 : Int) : Option (Int) :=
  bindO (F 42 (RSh.one (CK.int IntKind.i64)) [(PV.int IntKind.i64 p0), (PV.int IntKind.i64 (0 : Int)), (PV.int IntKind.i64 (11000 : Int))]) fun (y0 : (Int)) =>
  some y0
theorem tline_thresholdError_eq (F : FnT) (p0 : Int) : semF (callP F Eline_thresholdError 20) s38 (loopT []) 400 a38 [PV.int IntKind.i64 p0] (fun rv => decR (RSh.one (CK.int IntKind.i64)) rv.pv) = tline_thresholdError F p0 := by kernel_rfl
noncomputable abbrev Fline_thresholdError (args : List PV) := Fn env 38 (RSh.one (CK.int IntKind.i64)) args
theorem Fline_thresholdError_of  (p0 : Int) {res : (Int)} (h : tline_thresholdError (Fn env) p0 = some res) : Fline_thresholdError [PV.int IntKind.i64 p0] = some res :=
  fn_of Eline_thresholdError_ok rfl rfl lo_nil ((tline_thresholdError_eq _ _).trans h)

/-! ### line_DetectedRate -/

def Eline_DetectedRate : List Entry := [.out 53 (RSh.one (CK.int IntKind.i64)), .out 38 (RSh.one (CK.int IntKind.i64)), .out 35 (RSh.one (CK.int IntKind.i64)), .out 39 (RSh.agg [(CK.int IntKind.i64), (CK.int IntKind.i64)])]
theorem Eline_DetectedRate_ok : ∀ e ∈ Eline_DetectedRate, EntOK env e := (ent_out (ent_out (ent_out (ent_out ent_nil))))
theorem Uline_DetectedRate : uniq ((blocksOf a20.body).map (·.1)) = true := by kernel_rfl
def tline_DetectedRate (F : FnT) (p0_0n : Nat) (p0_0c : List PV) (p0_1n : Nat) (p0_1c : List PV) (p0_2 : Int) (p0_3 : Int) (p1 : Int) : Option ((Int) × ((Int) × (Int))) :=
  bindO (F 53 (RSh.one (CK.int IntKind.i64)) [(PV.agg [(PV.list p0_0n p0_0c), (PV.list p0_1n p0_1c), (PV.int IntKind.i64 p0_2), (PV.int IntKind.i64 p0_3)])]) fun (y0 : (Int)) =>
  bindO (F 38 (RSh.one (CK.int IntKind.i64)) [(PV.int IntKind.i64 p1)]) fun (y1 : (Int)) =>
  bindO (F 35 (RSh.one (CK.int IntKind.i64)) [(PV.list 2 [(PV.int IntKind.i64 y0), (PV.int IntKind.i64 y1)])]) fun (y2 : (Int)) =>
  bif (y2 != (0 : Int)) then
    some ((0 : Int), ((0 : Int), y2))
  else bindO (F 39 (RSh.agg [(CK.int IntKind.i64), (CK.int IntKind.i64)]) [(PV.agg [(PV.list p0_0n p0_0c), (PV.list p0_1n p0_1c), (PV.int IntKind.i64 p0_2), (PV.int IntKind.i64 p0_3)]), (PV.int IntKind.i64 p1)]) fun (y3 : ((Int) × (Int))) =>
  some (y3.1, (y3.2, (0 : Int)))
theorem tline_DetectedRate_eq (F : FnT) (p0_0n : Nat) (p0_0c : List PV) (p0_1n : Nat) (p0_1c : List PV) (p0_2 : Int) (p0_3 : Int) (p1 : Int) : semF (callP F Eline_DetectedRate 20) s20 (loopT []) 400 a20 [PV.agg [PV.list p0_0n p0_0c, PV.list p0_1n p0_1c, PV.int IntKind.i64 p0_2, PV.int IntKind.i64 p0_3], PV.int IntKind.i64 p1] (fun rv => decR (RSh.tup [(Prod.mk true [(CK.int IntKind.i64), (CK.int IntKind.i64)]), (Prod.mk false [(CK.int IntKind.i64)])]) rv.pv) = tline_DetectedRate F p0_0n p0_0c p0_1n p0_1c p0_2 p0_3 p1 := by kernel_rfl
noncomputable abbrev Fline_DetectedRate (args : List PV) := Fn env 20 (RSh.tup [(Prod.mk true [(CK.int IntKind.i64), (CK.int IntKind.i64)]), (Prod.mk false [(CK.int IntKind.i64)])]) args
theorem Fline_DetectedRate_of  (p0_0n : Nat) (p0_0c : List PV) (p0_1n : Nat) (p0_1c : List PV) (p0_2 : Int) (p0_3 : Int) (p1 : Int) {res : ((Int) × ((Int) × (Int)))} (h : tline_DetectedRate (Fn env) p0_0n p0_0c p0_1n p0_1c p0_2 p0_3 p1 = some res) : Fline_DetectedRate [PV.agg [PV.list p0_0n p0_0c, PV.list p0_1n p0_1c, PV.int IntKind.i64 p0_2, PV.int IntKind.i64 p0_3], PV.int IntKind.i64 p1] = some res :=
  fn_of Eline_DetectedRate_ok rfl rfl lo_nil ((tline_DetectedRate_eq _ _ _ _ _ _ _ _).trans h)

/-! ### RfThresholdErr -/

def ERfThresholdErr : List Entry := [.out 8 (RSh.one CK.bool)]
theorem ERfThresholdErr_ok : ∀ e ∈ ERfThresholdErr, EntOK env e := (ent_out ent_nil)
theorem URfThresholdErr : uniq ((blocksOf a14.body).map (·.1)) = true := by kernel_rfl
def tRfThresholdErr (F : FnT) (p0 : Int) : Option (Int) :=
  bindO (F 8 (RSh.one CK.bool) [(PV.int IntKind.i64 p0), (PV.int IntKind.i64 (0 : Int)), (PV.int IntKind.i64 (11000 : Int))]) fun (y0 : (Bool)) =>
  bif y0 then
    some (0 : Int)
  else some (2 : Int)
theorem tRfThresholdErr_eq (F : FnT) (p0 : Int) : semF (callP F ERfThresholdErr 20) s14 (loopT []) 400 a14 [PV.int IntKind.i64 p0] (fun rv => decR (RSh.one (CK.int IntKind.i64)) rv.pv) = tRfThresholdErr F p0 := by kernel_rfl
noncomputable abbrev FRfThresholdErr (args : List PV) := Fn env 14 (RSh.one (CK.int IntKind.i64)) args
theorem FRfThresholdErr_of  (p0 : Int) {res : (Int)} (h : tRfThresholdErr (Fn env) p0 = some res) : FRfThresholdErr [PV.int IntKind.i64 p0] = some res :=
  fn_of ERfThresholdErr_ok rfl rfl lo_nil ((tRfThresholdErr_eq _ _).trans h)

/-! ### RfRate -/

def ERfRate : List Entry := [.out 9 (RSh.one (CK.int IntKind.i64)), .out 77 (RSh.one CK.list), .out 78 (RSh.one (CK.int IntKind.i64)), .out 24 (RSh.agg [(CK.int IntKind.i64), (CK.int IntKind.i64)])]
theorem ERfRate_ok : ∀ e ∈ ERfRate, EntOK env e := (ent_out (ent_out (ent_out (ent_out ent_nil))))
def TRfRate_0a (n0 : Nat) (c1 : List PV) (i2 : Int) (i3 : Int) (i4 : Int) (i5 : Int) (n6 : Nat) (c7 : List PV) : Q := ⟨(tm 36 [(0, (AV.p (PV.list n0 c1))), (2, (AV.p (PV.int IntKind.i64 i2))), (4, (AV.loc 4 0)), (6, (AV.loc 6 0)), (7, (AV.p (PV.int IntKind.i64 i3))), (8, (AV.p (PV.int IntKind.i64 i4))), (9, (AV.p (PV.int IntKind.i64 i5)))]), (mm 36 [(4, (Bk.cells true [(AV.p (PV.list n6 c7))])), (6, (Bk.pcs true [(PV.int IntKind.i64 (0 : Int)), (PV.int IntKind.i64 (0 : Int))]))])⟩
def XRfRate_0a (y : Int × Int × Nat × List PV) : Ext × Q := (Ext.normal, ⟨(tm 36 [(6, (AV.loc 6 0)), (7, (AV.p (PV.int IntKind.i64 y.1))), (8, (AV.p (PV.int IntKind.i64 y.2.1)))]), (mm 36 [(4, (Bk.cells true [(AV.p (PV.list y.2.2.1 y.2.2.2))])), (6, (Bk.pcs true [(PV.int IntKind.i64 (0 : Int)), (PV.int IntKind.i64 (0 : Int))]))])⟩)
def IRfRate_0a (q : Ext × S) : Int × Int × Nat × List PV := ((pP_int1 (pA_p (avT q.2 7))), (pP_int1 (pA_p (avT q.2 8))), (pP_list0 (pA_p (hdA (pB_cells1 (avM q.2 4))))), (pP_list1 (pA_p (hdA (pB_cells1 (avM q.2 4))))))
abbrev YRfRate_0 : Type := Int × Int × Nat × List PV
def XLRfRate_0 : XL YRfRate_0 := .one XRfRate_0a
def IRfRate_0 (q : Ext × S) : YRfRate_0 := (IRfRate_0a q)
theorem XIRfRate_0a (y : Int × Int × Nat × List PV) : IRfRate_0 (xe (XRfRate_0a y)) = y := rfl
theorem XIRfRate_0 (y : YRfRate_0) : IRfRate_0 (xe (XLRfRate_0.fn y)) = y := XIRfRate_0a y
noncomputable abbrev LRfRate_0 : Q → Option YRfRate_0 := lpO env a48.body 0 XLRfRate_0
noncomputable abbrev RRfRate_0 : Q → Option (Ext × S) := lpR env a48.body 0
theorem LRfRate_0a_of {s : Q} {y : Int × Int × Nat × List PV} (h : RRfRate_0 s = exO (XRfRate_0a y)) : LRfRate_0 s = some y := lpO_of IRfRate_0 XIRfRate_0 (y := y) h
theorem URfRate : uniq ((blocksOf a48.body).map (·.1)) = true := by kernel_rfl
def BRfRate_0a (F : FnT) (N : Q → Option (Ext × S)) (E : Ext × Q → Option (Ext × S)) (L0 : Q → Option YRfRate_0) (n0 : Nat) (c1 : List PV) (i2 : Int) (i3 : Int) (i4 : Int) (i5 : Int) (n6 : Nat) (c7 : List PV) : Option (Ext × S) :=
  bif (decide (i5 < i3)) then
    bindO (F 77 (RSh.one CK.list) [(PV.list n0 c1), (PV.agg [(PV.list n6 c7)]), (PV.int IntKind.i64 i5)]) fun (y0 : ((Nat) × (List PV))) =>
    bindO (F 78 (RSh.one (CK.int IntKind.i64)) [(PV.list y0.1 y0.2)]) fun (y1 : (Int)) =>
    bif (decide (((0 : Int) ≤ y1) ∧ (y1 < (y0.1 : Int)))) then
      bindO (intC IntKind.i64 (y0.2[((Int.toNat y1) * 1)]?)) fun x2 =>
      bif (decide (x2 ≥ i2)) then
        N (TRfRate_0a n0 c1 i2 i3 (w64 (i4 + (1 : Int))) (w64 (i5 + (1 : Int))) n6 c7)
      else N (TRfRate_0a n0 c1 i2 i3 i4 (w64 (i5 + (1 : Int))) n6 c7)
    else none
  else E (XRfRate_0a (i3, i4, n6, c7))
theorem BRfRate_0a_eq (F : FnT) (N : Q → Option (Ext × S)) (E : Ext × Q → Option (Ext × S)) (L0 : Q → Option YRfRate_0) (n0 : Nat) (c1 : List PV) (i2 : Int) (i3 : Int) (i4 : Int) (i5 : Int) (n6 : Nat) (c7 : List PV) : semB (callP F ERfRate 20) s48 (loopT [⟨0, YRfRate_0, L0, XLRfRate_0⟩]) 400 (blkIn a48.body 0) N E (TRfRate_0a n0 c1 i2 i3 i4 i5 n6 c7) = BRfRate_0a F N E L0 n0 c1 i2 i3 i4 i5 n6 c7 := by kernel_rfl
theorem RRfRate_0a_of  (n0 : Nat) (c1 : List PV) (i2 : Int) (i3 : Int) (i4 : Int) (i5 : Int) (n6 : Nat) (c7 : List PV) {r : Ext × S} (h : BRfRate_0a (Fn env) RRfRate_0 exO LRfRate_0 n0 c1 i2 i3 i4 i5 n6 c7 = some r) : RRfRate_0 (TRfRate_0a n0 c1 i2 i3 i4 i5 n6 c7) = some r :=
  lp_of ERfRate_ok (by kernel_rfl) (lo_cons (lpO_ok URfRate) lo_nil) (by kernel_rfl) ((BRfRate_0a_eq _ _ _ _ _ _ _ _ _ _ _ _).trans h)
def tRfRate (F : FnT) (L0 : Q → Option YRfRate_0) (p0n : Nat) (p0c : List PV) (p1_0n : Nat) (p1_0c : List PV) (p2 : Int) : Option ((Int) × (Int)) :=
  bindO (F 9 (RSh.one (CK.int IntKind.i64)) [(PV.agg [(PV.list p1_0n p1_0c)]), (PV.int IntKind.i64 (p0n : Int))]) fun (y0 : (Int)) =>
  bindO (L0 (TRfRate_0a p0n p0c p2 y0 (0 : Int) (0 : Int) p1_0n p1_0c)) fun y1 =>
  bindO (F 24 (RSh.agg [(CK.int IntKind.i64), (CK.int IntKind.i64)]) [(PV.int IntKind.i64 y1.2.1), (PV.int IntKind.i64 y1.1)]) fun (y2 : ((Int) × (Int))) =>
  some (y2.1, y2.2)
theorem tRfRate_eq (F : FnT) (L0 : Q → Option YRfRate_0) (p0n : Nat) (p0c : List PV) (p1_0n : Nat) (p1_0c : List PV) (p2 : Int) : semF (callP F ERfRate 20) s48 (loopT [⟨0, YRfRate_0, L0, XLRfRate_0⟩]) 400 a48 [PV.list p0n p0c, PV.agg [PV.list p1_0n p1_0c], PV.int IntKind.i64 p2] (fun rv => decR (RSh.agg [(CK.int IntKind.i64), (CK.int IntKind.i64)]) rv.pv) = tRfRate F L0 p0n p0c p1_0n p1_0c p2 := by kernel_rfl
noncomputable abbrev FRfRate (args : List PV) := Fn env 48 (RSh.agg [(CK.int IntKind.i64), (CK.int IntKind.i64)]) args
theorem FRfRate_of  (p0n : Nat) (p0c : List PV) (p1_0n : Nat) (p1_0c : List PV) (p2 : Int) {res : ((Int) × (Int))} (h : tRfRate (Fn env) LRfRate_0 p0n p0c p1_0n p1_0c p2 = some res) : FRfRate [PV.list p0n p0c, PV.agg [PV.list p1_0n p1_0c], PV.int IntKind.i64 p2] = some res :=
  fn_of ERfRate_ok rfl rfl (lo_cons (lpO_ok URfRate) lo_nil) ((tRfRate_eq _ _ _ _ _ _ _).trans h)

end Gv
