/- What the functions do, round by round: M12. -/
import Derived.Test.YtkbbilbpejbmiaaM2
namespace Gv
open Go
set_option maxRecDepth 100000

/-! ### line_CheckNoise -/

def Eline_CheckNoise : List Entry := [.inl 73 a73 s73, .out 99 (RSh.tup [(Prod.mk false [(CK.int IntKind.i64)]), (Prod.mk false [(CK.int IntKind.i64)])])]
theorem Eline_CheckNoise_ok : ∀ e ∈ Eline_CheckNoise, EntOK env e := (ent_inl rfl (ent_out ent_nil))
theorem Uline_CheckNoise : uniq ((blocksOf a71.body).map (·.1)) = true := by kernel_rfl
def tline_CheckNoise (F : FnT) (p0_0n : Nat) (p0_0c : List PV) : Option ((Int) × (Int)) :=
  bindO (F 99 (RSh.tup [(Prod.mk false [(CK.int IntKind.i64)]), (Prod.mk false [(CK.int IntKind.i64)])]) [(PV.list p0_0n p0_0c), (PV.int IntKind.i64 (4 : Int)), (PV.fn 100 [(PV.imm [(PV.int IntKind.i64 (0 : Int))] 0), (PV.imm [(PV.int IntKind.i64 (1000 : Int))] 0)])]) fun (y0 : ((Int) × (Int))) =>
  some (y0.1, y0.2)
theorem tline_CheckNoise_eq (F : FnT) (p0_0n : Nat) (p0_0c : List PV) : semF (callP F Eline_CheckNoise 20) s71 (loopT []) 400 a71 [PV.agg [PV.list p0_0n p0_0c]] (fun rv => decR (RSh.tup [(Prod.mk false [(CK.int IntKind.i64)]), (Prod.mk false [(CK.int IntKind.i64)])]) rv.pv) = tline_CheckNoise F p0_0n p0_0c := by kernel_rfl
noncomputable abbrev Fline_CheckNoise (args : List PV) := Fn env 71 (RSh.tup [(Prod.mk false [(CK.int IntKind.i64)]), (Prod.mk false [(CK.int IntKind.i64)])]) args
theorem Fline_CheckNoise_of  (p0_0n : Nat) (p0_0c : List PV) {res : ((Int) × (Int))} (h : tline_CheckNoise (Fn env) p0_0n p0_0c = some res) : Fline_CheckNoise [PV.agg [PV.list p0_0n p0_0c]] = some res :=
  fn_of Eline_CheckNoise_ok rfl rfl lo_nil ((tline_CheckNoise_eq _ _ _).trans h)

/-! ### line_noiseError -/

def Eline_noiseError : List Entry := [.out 71 (RSh.tup [(Prod.mk false [(CK.int IntKind.i64)]), (Prod.mk false [(CK.int IntKind.i64)])])]
theorem Eline_noiseError_ok : ∀ e ∈ Eline_noiseError, EntOK env e := (ent_out ent_nil)
theorem Uline_noiseError : uniq ((blocksOf a36.body).map (·.1)) = true := by kernel_rfl
def tline_noiseError (F : FnT) (p0_0n : Nat) (p0_0c : List PV) : Option (Int) :=
  bindO (F 71 (RSh.tup [(Prod.mk false [(CK.int IntKind.i64)]), (Prod.mk false [(CK.int IntKind.i64)])]) [(PV.agg [(PV.list p0_0n p0_0c)])]) fun (y0 : ((Int) × (Int))) =>
  some y0.2
theorem tline_noiseError_eq (F : FnT) (p0_0n : Nat) (p0_0c : List PV) : semF (callP F Eline_noiseError 20) s36 (loopT []) 400 a36 [PV.agg [PV.list p0_0n p0_0c]] (fun rv => decR (RSh.one (CK.int IntKind.i64)) rv.pv) = tline_noiseError F p0_0n p0_0c := by kernel_rfl
noncomputable abbrev Fline_noiseError (args : List PV) := Fn env 36 (RSh.one (CK.int IntKind.i64)) args
theorem Fline_noiseError_of  (p0_0n : Nat) (p0_0c : List PV) {res : (Int)} (h : tline_noiseError (Fn env) p0_0n p0_0c = some res) : Fline_noiseError [PV.agg [PV.list p0_0n p0_0c]] = some res :=
  fn_of Eline_noiseError_ok rfl rfl lo_nil ((tline_noiseError_eq _ _ _).trans h)

/-! ### line_atLeast_1 -/

def Eline_atLeast_1 : List Entry := []
theorem Eline_atLeast_1_ok : ∀ e ∈ Eline_atLeast_1, EntOK env e := ent_nil
theorem Uline_atLeast_1 : uniq ((blocksOf a101.body).map (·.1)) = true := by kernel_rfl
def tline_atLeast_1 (F : FnT)(x m : Int) : Option (Bool) :=
  bif (decide (x ≥ m)) then
    some true
  else some false
theorem tline_atLeast_1_eq (F : FnT)(x m : Int) : semF (callP F Eline_atLeast_1 20) s101 (loopT []) 400 a101 [.int .i64 x, .imm [.int .i64 m] 0] (fun rv => decR (RSh.one CK.bool) rv.pv) = tline_atLeast_1 F x m := by kernel_rfl
noncomputable abbrev Fline_atLeast_1 (args : List PV) := Fn env 101 (RSh.one CK.bool) args
theorem Fline_atLeast_1_of (x m : Int) {res : (Bool)} (h : tline_atLeast_1 (Fn env) x m = some res) : Fline_atLeast_1 [.int .i64 x, .imm [.int .i64 m] 0] = some res :=
  fn_of Eline_atLeast_1_ok rfl rfl lo_nil ((tline_atLeast_1_eq _ _ _).trans h)

/-! ### line_IndexFunc_at -/

def Eline_IndexFunc_at : List Entry := [.out 101 (RSh.one CK.bool)]
theorem Eline_IndexFunc_at_ok : ∀ e ∈ Eline_IndexFunc_at, EntOK env e := (ent_out ent_nil)
def Tline_IndexFunc_at_0a (n0 : Nat) (c1 : List PV) (i2 : Int) (i3 : Int) (i4 : Int) : Q := ⟨(tm 19 [(0, (AV.p (PV.list n0 c1))), (1, (AV.p (PV.fn 101 [(PV.imm [(PV.int IntKind.i64 i2)] 0)]))), (7, (AV.p (PV.int IntKind.i64 i3))), (8, (AV.p (PV.int IntKind.i64 i4)))]), (mm 19 [])⟩
def Xline_IndexFunc_at_0a (y : Int) : Ext × Q := (Ext.ret, ⟨(tm 19 [(4, (AV.p (PV.int IntKind.i64 y)))]), (mm 19 [])⟩)
def Iline_IndexFunc_at_0a (q : Ext × S) : Int := (pP_int1 (pA_p (avT q.2 4)))
def Xline_IndexFunc_at_0b (y : Unit) : Ext × Q := (Ext.normal, ⟨(tm 19 []), (mm 19 [])⟩)
def Iline_IndexFunc_at_0b (q : Ext × S) : Unit := ()
abbrev Yline_IndexFunc_at_0 : Type := (Int) ⊕ ((Unit))
def XLline_IndexFunc_at_0 : XL Yline_IndexFunc_at_0 := .more Xline_IndexFunc_at_0a (.one Xline_IndexFunc_at_0b)
def Iline_IndexFunc_at_0 (q : Ext × S) : Yline_IndexFunc_at_0 := bif (cE q.1 == 2) then (Sum.inl (Iline_IndexFunc_at_0a q)) else (Sum.inr (Iline_IndexFunc_at_0b q))
theorem XIline_IndexFunc_at_0a (y : Int) : Iline_IndexFunc_at_0 (xe (Xline_IndexFunc_at_0a y)) = (Sum.inl y) := rfl
theorem XIline_IndexFunc_at_0b (y : Unit) : Iline_IndexFunc_at_0 (xe (Xline_IndexFunc_at_0b y)) = (Sum.inr y) := rfl
theorem XIline_IndexFunc_at_0 (y : Yline_IndexFunc_at_0) : Iline_IndexFunc_at_0 (xe (XLline_IndexFunc_at_0.fn y)) = y := (match y with | .inl y => XIline_IndexFunc_at_0a y | .inr y => XIline_IndexFunc_at_0b y)
noncomputable abbrev Lline_IndexFunc_at_0 : Q → Option Yline_IndexFunc_at_0 := lpO env a104.body 0 XLline_IndexFunc_at_0
noncomputable abbrev Rline_IndexFunc_at_0 : Q → Option (Ext × S) := lpR env a104.body 0
theorem Lline_IndexFunc_at_0a_of {s : Q} {y : Int} (h : Rline_IndexFunc_at_0 s = exO (Xline_IndexFunc_at_0a y)) : Lline_IndexFunc_at_0 s = some (Sum.inl y) := lpO_of Iline_IndexFunc_at_0 XIline_IndexFunc_at_0 (y := (Sum.inl y)) h
theorem Lline_IndexFunc_at_0b_of {s : Q} {y : Unit} (h : Rline_IndexFunc_at_0 s = exO (Xline_IndexFunc_at_0b y)) : Lline_IndexFunc_at_0 s = some (Sum.inr y) := lpO_of Iline_IndexFunc_at_0 XIline_IndexFunc_at_0 (y := (Sum.inr y)) h
theorem Uline_IndexFunc_at : uniq ((blocksOf a104.body).map (·.1)) = true := by kernel_rfl
def Bline_IndexFunc_at_0a (F : FnT) (N : Q → Option (Ext × S)) (E : Ext × Q → Option (Ext × S)) (L0 : Q → Option Yline_IndexFunc_at_0) (n0 : Nat) (c1 : List PV) (i2 : Int) (i3 : Int) (i4 : Int) : Option (Ext × S) :=
  bif (decide (i4 < i3)) then
    bif (decide (((0 : Int) ≤ i4) ∧ (i4 < (n0 : Int)))) then
      bindO (intC IntKind.i64 (c1[((Int.toNat i4) * 1)]?)) fun x0 =>
      bindO (F 101 (RSh.one CK.bool) [(PV.int IntKind.i64 x0), (PV.imm [(PV.int IntKind.i64 i2)] 0)]) fun (y1 : (Bool)) =>
      bif y1 then
        E (Xline_IndexFunc_at_0a i4)
      else N (Tline_IndexFunc_at_0a n0 c1 i2 i3 (w64 (i4 + (1 : Int))))
    else none
  else E (Xline_IndexFunc_at_0b ())
theorem Bline_IndexFunc_at_0a_eq (F : FnT) (N : Q → Option (Ext × S)) (E : Ext × Q → Option (Ext × S)) (L0 : Q → Option Yline_IndexFunc_at_0) (n0 : Nat) (c1 : List PV) (i2 : Int) (i3 : Int) (i4 : Int) : semB (callP F Eline_IndexFunc_at 20) s104 (loopT [⟨0, Yline_IndexFunc_at_0, L0, XLline_IndexFunc_at_0⟩]) 400 (blkIn a104.body 0) N E (Tline_IndexFunc_at_0a n0 c1 i2 i3 i4) = Bline_IndexFunc_at_0a F N E L0 n0 c1 i2 i3 i4 := by kernel_rfl
theorem Rline_IndexFunc_at_0a_of  (n0 : Nat) (c1 : List PV) (i2 : Int) (i3 : Int) (i4 : Int) {r : Ext × S} (h : Bline_IndexFunc_at_0a (Fn env) Rline_IndexFunc_at_0 exO Lline_IndexFunc_at_0 n0 c1 i2 i3 i4 = some r) : Rline_IndexFunc_at_0 (Tline_IndexFunc_at_0a n0 c1 i2 i3 i4) = some r :=
  lp_of Eline_IndexFunc_at_ok (by kernel_rfl) (lo_cons (lpO_ok Uline_IndexFunc_at) lo_nil) (by kernel_rfl) ((Bline_IndexFunc_at_0a_eq _ _ _ _ _ _ _ _ _).trans h)
def tline_IndexFunc_at (F : FnT) (L0 : Q → Option Yline_IndexFunc_at_0)(n : Nat) (cs : List PV) (m : Int) : Option (Int) :=
  bindO (L0 (Tline_IndexFunc_at_0a n cs m (n : Int) (0 : Int))) fun z =>
  Sum.elim (fun y0 =>
    some y0) (fun y1 =>
    some (-1 : Int)) z
theorem tline_IndexFunc_at_eq (F : FnT) (L0 : Q → Option Yline_IndexFunc_at_0)(n : Nat) (cs : List PV) (m : Int) : semF (callP F Eline_IndexFunc_at 20) s104 (loopT [⟨0, Yline_IndexFunc_at_0, L0, XLline_IndexFunc_at_0⟩]) 400 a104 [.list n cs, .fn 101 [.imm [.int .i64 m] 0]] (fun rv => decR (RSh.one (CK.int IntKind.i64)) rv.pv) = tline_IndexFunc_at F L0 n cs m := by kernel_rfl
noncomputable abbrev Fline_IndexFunc_at (args : List PV) := Fn env 104 (RSh.one (CK.int IntKind.i64)) args
theorem Fline_IndexFunc_at_of (n : Nat) (cs : List PV) (m : Int) {res : (Int)} (h : tline_IndexFunc_at (Fn env) Lline_IndexFunc_at_0 n cs m = some res) : Fline_IndexFunc_at [.list n cs, .fn 101 [.imm [.int .i64 m] 0]] = some res :=
  fn_of Eline_IndexFunc_at_ok rfl rfl (lo_cons (lpO_ok Uline_IndexFunc_at) lo_nil) ((tline_IndexFunc_at_eq _ _ _ _ _).trans h)

/-! ### line_ContainsFunc_at -/

def Eline_ContainsFunc_at : List Entry := [.out 104 (RSh.one (CK.int IntKind.i64))]
theorem Eline_ContainsFunc_at_ok : ∀ e ∈ Eline_ContainsFunc_at, EntOK env e := (ent_out ent_nil)
theorem Uline_ContainsFunc_at : uniq ((blocksOf a81.body).map (·.1)) = true := by kernel_rfl
def tline_ContainsFunc_at (F : FnT)(n : Nat) (cs : List PV) (m : Int) : Option (Bool) :=
  bindO (F 104 (RSh.one (CK.int IntKind.i64)) [(PV.list n cs), (PV.fn 101 [(PV.imm [(PV.int IntKind.i64 m)] 0)])]) fun (y0 : (Int)) =>
  bif (decide (y0 ≥ (0 : Int))) then
    some true
  else some false
theorem tline_ContainsFunc_at_eq (F : FnT)(n : Nat) (cs : List PV) (m : Int) : semF (callP F Eline_ContainsFunc_at 20) s81 (loopT []) 400 a81 [.list n cs, .fn 101 [.imm [.int .i64 m] 0]] (fun rv => decR (RSh.one CK.bool) rv.pv) = tline_ContainsFunc_at F n cs m := by kernel_rfl
noncomputable abbrev Fline_ContainsFunc_at (args : List PV) := Fn env 81 (RSh.one CK.bool) args
theorem Fline_ContainsFunc_at_of (n : Nat) (cs : List PV) (m : Int) {res : (Bool)} (h : tline_ContainsFunc_at (Fn env) n cs m = some res) : Fline_ContainsFunc_at [.list n cs, .fn 101 [.imm [.int .i64 m] 0]] = some res :=
  fn_of Eline_ContainsFunc_at_ok rfl rfl lo_nil ((tline_ContainsFunc_at_eq _ _ _ _).trans h)

/-! ### line_caseCount -/

def Eline_caseCount : List Entry := []
theorem Eline_caseCount_ok : ∀ e ∈ Eline_caseCount, EntOK env e := ent_nil
def Tline_caseCount_0a (i0 : Int) (i1 : Int) (i2 : Int) (n3 : Nat) (c4 : List PV) (n5 : Nat) (c6 : List PV) (i7 : Int) (i8 : Int) : Q := ⟨(tm 17 [(1, (AV.loc 1 0)), (3, (AV.p (PV.int IntKind.i64 i0))), (6, (AV.p (PV.int IntKind.i64 i1))), (7, (AV.p (PV.int IntKind.i64 i2)))]), (mm 17 [(1, (Bk.cells true [(AV.p (PV.list n3 c4)), (AV.p (PV.list n5 c6)), (AV.p (PV.int IntKind.i64 i7)), (AV.p (PV.int IntKind.i64 i8))]))])⟩
def Xline_caseCount_0a (y : Int × Nat × List PV × Nat × List PV × Int × Int) : Ext × Q := (Ext.normal, ⟨(tm 17 [(3, (AV.p (PV.int IntKind.i64 y.1)))]), (mm 17 [(1, (Bk.cells true [(AV.p (PV.list y.2.1 y.2.2.1)), (AV.p (PV.list y.2.2.2.1 y.2.2.2.2.1)), (AV.p (PV.int IntKind.i64 y.2.2.2.2.2.1)), (AV.p (PV.int IntKind.i64 y.2.2.2.2.2.2))]))])⟩)
def Iline_caseCount_0a (q : Ext × S) : Int × Nat × List PV × Nat × List PV × Int × Int := ((pP_int1 (pA_p (avT q.2 3))), (pP_list0 (pA_p (hdA (pB_cells1 (avM q.2 1))))), (pP_list1 (pA_p (hdA (pB_cells1 (avM q.2 1))))), (pP_list0 (pA_p (hdA (List.tail (pB_cells1 (avM q.2 1)))))), (pP_list1 (pA_p (hdA (List.tail (pB_cells1 (avM q.2 1)))))), (pP_int1 (pA_p (hdA (List.tail (List.tail (pB_cells1 (avM q.2 1))))))), (pP_int1 (pA_p (hdA (List.tail (List.tail (List.tail (pB_cells1 (avM q.2 1)))))))))
abbrev Yline_caseCount_0 : Type := Int × Nat × List PV × Nat × List PV × Int × Int
def XLline_caseCount_0 : XL Yline_caseCount_0 := .one Xline_caseCount_0a
def Iline_caseCount_0 (q : Ext × S) : Yline_caseCount_0 := (Iline_caseCount_0a q)
theorem XIline_caseCount_0a (y : Int × Nat × List PV × Nat × List PV × Int × Int) : Iline_caseCount_0 (xe (Xline_caseCount_0a y)) = y := rfl
theorem XIline_caseCount_0 (y : Yline_caseCount_0) : Iline_caseCount_0 (xe (XLline_caseCount_0.fn y)) = y := XIline_caseCount_0a y
noncomputable abbrev Lline_caseCount_0 : Q → Option Yline_caseCount_0 := lpO env a45.body 0 XLline_caseCount_0
noncomputable abbrev Rline_caseCount_0 : Q → Option (Ext × S) := lpR env a45.body 0
theorem Lline_caseCount_0a_of {s : Q} {y : Int × Nat × List PV × Nat × List PV × Int × Int} (h : Rline_caseCount_0 s = exO (Xline_caseCount_0a y)) : Lline_caseCount_0 s = some y := lpO_of Iline_caseCount_0 XIline_caseCount_0 (y := y) h
theorem Uline_caseCount : uniq ((blocksOf a45.body).map (·.1)) = true := by kernel_rfl
def Bline_caseCount_0a (F : FnT) (N : Q → Option (Ext × S)) (E : Ext × Q → Option (Ext × S)) (L0 : Q → Option Yline_caseCount_0) (i0 : Int) (i1 : Int) (i2 : Int) (n3 : Nat) (c4 : List PV) (n5 : Nat) (c6 : List PV) (i7 : Int) (i8 : Int) : Option (Ext × S) :=
  bif (decide (i2 < i1)) then
    N (Tline_caseCount_0a (w64 (i0 * (n5 : Int))) i1 (w64 (i2 + (1 : Int))) n3 c4 n5 c6 i7 i8)
  else E (Xline_caseCount_0a (i0, n3, c4, n5, c6, i7, i8))
theorem Bline_caseCount_0a_eq (F : FnT) (N : Q → Option (Ext × S)) (E : Ext × Q → Option (Ext × S)) (L0 : Q → Option Yline_caseCount_0) (i0 : Int) (i1 : Int) (i2 : Int) (n3 : Nat) (c4 : List PV) (n5 : Nat) (c6 : List PV) (i7 : Int) (i8 : Int) : semB (callP F Eline_caseCount 20) s45 (loopT [⟨0, Yline_caseCount_0, L0, XLline_caseCount_0⟩]) 400 (blkIn a45.body 0) N E (Tline_caseCount_0a i0 i1 i2 n3 c4 n5 c6 i7 i8) = Bline_caseCount_0a F N E L0 i0 i1 i2 n3 c4 n5 c6 i7 i8 := by kernel_rfl
theorem Rline_caseCount_0a_of  (i0 : Int) (i1 : Int) (i2 : Int) (n3 : Nat) (c4 : List PV) (n5 : Nat) (c6 : List PV) (i7 : Int) (i8 : Int) {r : Ext × S} (h : Bline_caseCount_0a (Fn env) Rline_caseCount_0 exO Lline_caseCount_0 i0 i1 i2 n3 c4 n5 c6 i7 i8 = some r) : Rline_caseCount_0 (Tline_caseCount_0a i0 i1 i2 n3 c4 n5 c6 i7 i8) = some r :=
  lp_of Eline_caseCount_ok (by kernel_rfl) (lo_cons (lpO_ok Uline_caseCount) lo_nil) (by kernel_rfl) ((Bline_caseCount_0a_eq _ _ _ _ _ _ _ _ _ _ _ _ _).trans h)
def tline_caseCount (F : FnT) (L0 : Q → Option Yline_caseCount_0) (p0_0n : Nat) (p0_0c : List PV) (p0_1n : Nat) (p0_1c : List PV) (p0_2 : Int) (p0_3 : Int) : Option (Int) :=
  bindO (L0 (Tline_caseCount_0a (1 : Int) (p0_0n : Int) (0 : Int) p0_0n p0_0c p0_1n p0_1c p0_2 p0_3)) fun y0 =>
  some y0.1
theorem tline_caseCount_eq (F : FnT) (L0 : Q → Option Yline_caseCount_0) (p0_0n : Nat) (p0_0c : List PV) (p0_1n : Nat) (p0_1c : List PV) (p0_2 : Int) (p0_3 : Int) : semF (callP F Eline_caseCount 20) s45 (loopT [⟨0, Yline_caseCount_0, L0, XLline_caseCount_0⟩]) 400 a45 [PV.agg [PV.list p0_0n p0_0c, PV.list p0_1n p0_1c, PV.int IntKind.i64 p0_2, PV.int IntKind.i64 p0_3]] (fun rv => decR (RSh.one (CK.int IntKind.i64)) rv.pv) = tline_caseCount F L0 p0_0n p0_0c p0_1n p0_1c p0_2 p0_3 := by kernel_rfl
noncomputable abbrev Fline_caseCount (args : List PV) := Fn env 45 (RSh.one (CK.int IntKind.i64)) args
theorem Fline_caseCount_of  (p0_0n : Nat) (p0_0c : List PV) (p0_1n : Nat) (p0_1c : List PV) (p0_2 : Int) (p0_3 : Int) {res : (Int)} (h : tline_caseCount (Fn env) Lline_caseCount_0 p0_0n p0_0c p0_1n p0_1c p0_2 p0_3 = some res) : Fline_caseCount [PV.agg [PV.list p0_0n p0_0c, PV.list p0_1n p0_1c, PV.int IntKind.i64 p0_2, PV.int IntKind.i64 p0_3]] = some res :=
  fn_of Eline_caseCount_ok rfl rfl (lo_cons (lpO_ok Uline_caseCount) lo_nil) ((tline_caseCount_eq _ _ _ _ _ _ _ _).trans h)

/-! ### line_casesError -/

def Eline_casesError : List Entry := [.inl 60 a60 s60, .out 45 (RSh.one (CK.int IntKind.i64))]
theorem Eline_casesError_ok : ∀ e ∈ Eline_casesError, EntOK env e := (ent_inl rfl (ent_out ent_nil))
theorem Uline_casesError : uniq ((blocksOf a72.body).map (·.1)) = true := by kernel_rfl
def tline_casesError (F : FnT) (p0_0n : Nat) (p0_0c : List PV) (p0_1n : Nat) (p0_1c : List PV) (p0_2 : Int) (p0_3 : Int) : Option (Int) :=
  bindO (F 45 (RSh.one (CK.int IntKind.i64)) [(PV.agg [(PV.list p0_0n p0_0c), (PV.list p0_1n p0_1c), (PV.int IntKind.i64 p0_2), (PV.int IntKind.i64 p0_3)])]) fun (y0 : (Int)) =>
  bif (decide (y0 > (4096 : Int))) then
    some (8 : Int)
  else some (0 : Int)
theorem tline_casesError_eq (F : FnT) (p0_0n : Nat) (p0_0c : List PV) (p0_1n : Nat) (p0_1c : List PV) (p0_2 : Int) (p0_3 : Int) : semF (callP F Eline_casesError 20) s72 (loopT []) 400 a72 [PV.agg [PV.list p0_0n p0_0c, PV.list p0_1n p0_1c, PV.int IntKind.i64 p0_2, PV.int IntKind.i64 p0_3]] (fun rv => decR (RSh.one (CK.int IntKind.i64)) rv.pv) = tline_casesError F p0_0n p0_0c p0_1n p0_1c p0_2 p0_3 := by kernel_rfl
noncomputable abbrev Fline_casesError (args : List PV) := Fn env 72 (RSh.one (CK.int IntKind.i64)) args
theorem Fline_casesError_of  (p0_0n : Nat) (p0_0c : List PV) (p0_1n : Nat) (p0_1c : List PV) (p0_2 : Int) (p0_3 : Int) {res : (Int)} (h : tline_casesError (Fn env) p0_0n p0_0c p0_1n p0_1c p0_2 p0_3 = some res) : Fline_casesError [PV.agg [PV.list p0_0n p0_0c, PV.list p0_1n p0_1c, PV.int IntKind.i64 p0_2, PV.int IntKind.i64 p0_3]] = some res :=
  fn_of Eline_casesError_ok rfl rfl lo_nil ((tline_casesError_eq _ _ _ _ _ _ _).trans h)

/-! ### line_isLowest -/

def Eline_isLowest : List Entry := [.out 93 (RSh.one (CK.int IntKind.i64))]
theorem Eline_isLowest_ok : ∀ e ∈ Eline_isLowest, EntOK env e := (ent_out ent_nil)
theorem Uline_isLowest : uniq ((blocksOf a97.body).map (·.1)) = true := by kernel_rfl
def tline_isLowest (F : FnT) (p0_0 : Int) (p0_1 : Int) : Option (Bool) :=
  bif (decide (p0_1 > (0 : Int))) then
    bindO (F 93 (RSh.one (CK.int IntKind.i64)) [(PV.int IntKind.i64 p0_0), (PV.int IntKind.i64 p0_1)]) fun (y0 : (Int)) =>
    bif (y0 == (1 : Int)) then
      some true
    else some false
  else some false
theorem tline_isLowest_eq (F : FnT) (p0_0 : Int) (p0_1 : Int) : semF (callP F Eline_isLowest 20) s97 (loopT []) 400 a97 [PV.agg [PV.int IntKind.i64 p0_0, PV.int IntKind.i64 p0_1]] (fun rv => decR (RSh.one CK.bool) rv.pv) = tline_isLowest F p0_0 p0_1 := by kernel_rfl
noncomputable abbrev Fline_isLowest (args : List PV) := Fn env 97 (RSh.one CK.bool) args
theorem Fline_isLowest_of  (p0_0 : Int) (p0_1 : Int) {res : (Bool)} (h : tline_isLowest (Fn env) p0_0 p0_1 = some res) : Fline_isLowest [PV.agg [PV.int IntKind.i64 p0_0, PV.int IntKind.i64 p0_1]] = some res :=
  fn_of Eline_isLowest_ok rfl rfl lo_nil ((tline_isLowest_eq _ _ _).trans h)

/-! ### line_isLarge -/

def Eline_isLarge : List Entry := []
theorem Eline_isLarge_ok : ∀ e ∈ Eline_isLarge, EntOK env e := ent_nil
theorem Uline_isLarge : uniq ((blocksOf a98.body).map (·.1)) = true := by kernel_rfl
def tline_isLarge (F : FnT) (p0_0 : Int) (p0_1 : Int) : Option (Bool) :=
  bif (decide (p0_0 < (-(1000000000 : Int)))) then
    some true
  else bif (decide (p0_0 > (1000000000 : Int))) then
    some true
  else bif (decide (p0_1 > (1000000000 : Int))) then
    some true
  else some false
theorem tline_isLarge_eq (F : FnT) (p0_0 : Int) (p0_1 : Int) : semF (callP F Eline_isLarge 20) s98 (loopT []) 400 a98 [PV.agg [PV.int IntKind.i64 p0_0, PV.int IntKind.i64 p0_1]] (fun rv => decR (RSh.one CK.bool) rv.pv) = tline_isLarge F p0_0 p0_1 := by kernel_rfl
noncomputable abbrev Fline_isLarge (args : List PV) := Fn env 98 (RSh.one CK.bool) args
theorem Fline_isLarge_of  (p0_0 : Int) (p0_1 : Int) {res : (Bool)} (h : tline_isLarge (Fn env) p0_0 p0_1 = some res) : Fline_isLarge [PV.agg [PV.int IntKind.i64 p0_0, PV.int IntKind.i64 p0_1]] = some res :=
  fn_of Eline_isLarge_ok rfl rfl lo_nil ((tline_isLarge_eq _ _ _).trans h)

/-! ### line_fractionError -/

def Eline_fractionError : List Entry := [.out 97 (RSh.one CK.bool), .out 60 (RSh.one (CK.int IntKind.i64)), .out 98 (RSh.one CK.bool), .out 35 (RSh.one (CK.int IntKind.i64))]
theorem Eline_fractionError_ok : ∀ e ∈ Eline_fractionError, EntOK env e := (ent_out (ent_out (ent_out (ent_out ent_nil))))
theorem Uline_fractionError : uniq ((blocksOf a68.body).map (·.1)) = true := by kernel_rfl
def tline_fractionError (F : FnT) (p0_0 : Int) (p0_1 : Int) : Option (Int) :=
  bindO (F 97 (RSh.one CK.bool) [(PV.agg [(PV.int IntKind.i64 p0_0), (PV.int IntKind.i64 p0_1)])]) fun (y0 : (Bool)) =>
  bif y0 then
    bindO (F 60 (RSh.one (CK.int IntKind.i64)) [(PV.bool false), (PV.int IntKind.i64 (3 : Int))]) fun (y1 : (Int)) =>
    bindO (F 98 (RSh.one CK.bool) [(PV.agg [(PV.int IntKind.i64 p0_0), (PV.int IntKind.i64 p0_1)])]) fun (y2 : (Bool)) =>
    bif y2 then
      bindO (F 60 (RSh.one (CK.int IntKind.i64)) [(PV.bool true), (PV.int IntKind.i64 (2 : Int))]) fun (y3 : (Int)) =>
      bindO (F 35 (RSh.one (CK.int IntKind.i64)) [(PV.list 2 [(PV.int IntKind.i64 y1), (PV.int IntKind.i64 y3)])]) fun (y4 : (Int)) =>
      some y4
    else bindO (F 60 (RSh.one (CK.int IntKind.i64)) [(PV.bool false), (PV.int IntKind.i64 (2 : Int))]) fun (y5 : (Int)) =>
    bindO (F 35 (RSh.one (CK.int IntKind.i64)) [(PV.list 2 [(PV.int IntKind.i64 y1), (PV.int IntKind.i64 y5)])]) fun (y6 : (Int)) =>
    some y6
  else bindO (F 60 (RSh.one (CK.int IntKind.i64)) [(PV.bool true), (PV.int IntKind.i64 (3 : Int))]) fun (y7 : (Int)) =>
  bindO (F 98 (RSh.one CK.bool) [(PV.agg [(PV.int IntKind.i64 p0_0), (PV.int IntKind.i64 p0_1)])]) fun (y8 : (Bool)) =>
  bif y8 then
    bindO (F 60 (RSh.one (CK.int IntKind.i64)) [(PV.bool true), (PV.int IntKind.i64 (2 : Int))]) fun (y9 : (Int)) =>
    bindO (F 35 (RSh.one (CK.int IntKind.i64)) [(PV.list 2 [(PV.int IntKind.i64 y7), (PV.int IntKind.i64 y9)])]) fun (y10 : (Int)) =>
    some y10
  else bindO (F 60 (RSh.one (CK.int IntKind.i64)) [(PV.bool false), (PV.int IntKind.i64 (2 : Int))]) fun (y11 : (Int)) =>
  bindO (F 35 (RSh.one (CK.int IntKind.i64)) [(PV.list 2 [(PV.int IntKind.i64 y7), (PV.int IntKind.i64 y11)])]) fun (y12 : (Int)) =>
  some y12
theorem tline_fractionError_eq (F : FnT) (p0_0 : Int) (p0_1 : Int) : semF (callP F Eline_fractionError 20) s68 (loopT []) 400 a68 [PV.agg [PV.int IntKind.i64 p0_0, PV.int IntKind.i64 p0_1]] (fun rv => decR (RSh.one (CK.int IntKind.i64)) rv.pv) = tline_fractionError F p0_0 p0_1 := by kernel_rfl
noncomputable abbrev Fline_fractionError (args : List PV) := Fn env 68 (RSh.one (CK.int IntKind.i64)) args
theorem Fline_fractionError_of  (p0_0 : Int) (p0_1 : Int) {res : (Int)} (h : tline_fractionError (Fn env) p0_0 p0_1 = some res) : Fline_fractionError [PV.agg [PV.int IntKind.i64 p0_0, PV.int IntKind.i64 p0_1]] = some res :=
  fn_of Eline_fractionError_ok rfl rfl lo_nil ((tline_fractionError_eq _ _ _).trans h)

/-! ### line_truthError -/

def Eline_truthError : List Entry := [.out 68 (RSh.one (CK.int IntKind.i64)), .out 42 (RSh.one (CK.int IntKind.i64)), .out 35 (RSh.one (CK.int IntKind.i64))]
theorem Eline_truthError_ok : ∀ e ∈ Eline_truthError, EntOK env e := (ent_out (ent_out (ent_out ent_nil)))
theorem Uline_truthError : uniq ((blocksOf a82.body).map (·.1)) = true := by kernel_rfl
def tline_truthError (F : FnT) (p0_0 : Int) (p0_1 : Int) : Option (Int) :=
  bindO (F 68 (RSh.one (CK.int IntKind.i64)) [(PV.agg [(PV.int IntKind.i64 p0_0), (PV.int IntKind.i64 p0_1)])]) fun (y0 : (Int)) =>
  bindO (F 42 (RSh.one (CK.int IntKind.i64)) [(PV.int IntKind.i64 p0_0), (PV.int IntKind.i64 (-100 : Int)), (PV.int IntKind.i64 (100 : Int))]) fun (y1 : (Int)) =>
  bindO (F 42 (RSh.one (CK.int IntKind.i64)) [(PV.int IntKind.i64 p0_1), (PV.int IntKind.i64 (1 : Int)), (PV.int IntKind.i64 (100 : Int))]) fun (y2 : (Int)) =>
  bindO (F 35 (RSh.one (CK.int IntKind.i64)) [(PV.list 3 [(PV.int IntKind.i64 y0), (PV.int IntKind.i64 y1), (PV.int IntKind.i64 y2)])]) fun (y3 : (Int)) =>
  some y3
theorem tline_truthError_eq (F : FnT) (p0_0 : Int) (p0_1 : Int) : semF (callP F Eline_truthError 20) s82 (loopT []) 400 a82 [PV.agg [PV.int IntKind.i64 p0_0, PV.int IntKind.i64 p0_1]] (fun rv => decR (RSh.one (CK.int IntKind.i64)) rv.pv) = tline_truthError F p0_0 p0_1 := by kernel_rfl
noncomputable abbrev Fline_truthError (args : List PV) := Fn env 82 (RSh.one (CK.int IntKind.i64)) args
theorem Fline_truthError_of  (p0_0 : Int) (p0_1 : Int) {res : (Int)} (h : tline_truthError (Fn env) p0_0 p0_1 = some res) : Fline_truthError [PV.agg [PV.int IntKind.i64 p0_0, PV.int IntKind.i64 p0_1]] = some res :=
  fn_of Eline_truthError_ok rfl rfl lo_nil ((tline_truthError_eq _ _ _).trans h)

/-! ### line_CheckCase -/

def Eline_CheckCase : List Entry := [.inl 74 a74 s74, .inl 60 a60 s60, .out 57 (RSh.one (CK.int IntKind.i64)), .out 36 (RSh.one (CK.int IntKind.i64)), .out 35 (RSh.one (CK.int IntKind.i64)), .out 81 (RSh.one CK.bool), .out 72 (RSh.one (CK.int IntKind.i64)), .out 82 (RSh.one (CK.int IntKind.i64))]
theorem Eline_CheckCase_ok : ∀ e ∈ Eline_CheckCase, EntOK env e := (ent_inl rfl (ent_inl rfl (ent_out (ent_out (ent_out (ent_out (ent_out (ent_out ent_nil))))))))
theorem Uline_CheckCase : uniq ((blocksOf a53.body).map (·.1)) = true := by kernel_rfl
def tline_CheckCase (F : FnT) (p0_0n : Nat) (p0_0c : List PV) (p0_1n : Nat) (p0_1c : List PV) (p0_2 : Int) (p0_3 : Int) : Option (Int) :=
  bindO (F 57 (RSh.one (CK.int IntKind.i64)) [(PV.list p0_0n p0_0c)]) fun (y0 : (Int)) =>
  bindO (F 36 (RSh.one (CK.int IntKind.i64)) [(PV.agg [(PV.list p0_1n p0_1c)])]) fun (y1 : (Int)) =>
  bindO (F 35 (RSh.one (CK.int IntKind.i64)) [(PV.list 2 [(PV.int IntKind.i64 y0), (PV.int IntKind.i64 y1)])]) fun (y2 : (Int)) =>
  bif (y2 != (0 : Int)) then
    some y2
  else bindO (F 81 (RSh.one CK.bool) [(PV.list p0_0n p0_0c), (PV.fn 101 [(PV.imm [(PV.int IntKind.i64 (9001 : Int))] 0)])]) fun (y3 : (Bool)) =>
  bif y3 then
    bindO (F 72 (RSh.one (CK.int IntKind.i64)) [(PV.agg [(PV.list p0_0n p0_0c), (PV.list p0_1n p0_1c), (PV.int IntKind.i64 p0_2), (PV.int IntKind.i64 p0_3)])]) fun (y4 : (Int)) =>
    bindO (F 82 (RSh.one (CK.int IntKind.i64)) [(PV.agg [(PV.int IntKind.i64 p0_2), (PV.int IntKind.i64 p0_3)])]) fun (y5 : (Int)) =>
    bindO (F 35 (RSh.one (CK.int IntKind.i64)) [(PV.list 3 [(PV.int IntKind.i64 (2 : Int)), (PV.int IntKind.i64 y4), (PV.int IntKind.i64 y5)])]) fun (y6 : (Int)) =>
    some y6
  else bindO (F 72 (RSh.one (CK.int IntKind.i64)) [(PV.agg [(PV.list p0_0n p0_0c), (PV.list p0_1n p0_1c), (PV.int IntKind.i64 p0_2), (PV.int IntKind.i64 p0_3)])]) fun (y7 : (Int)) =>
  bindO (F 82 (RSh.one (CK.int IntKind.i64)) [(PV.agg [(PV.int IntKind.i64 p0_2), (PV.int IntKind.i64 p0_3)])]) fun (y8 : (Int)) =>
  bindO (F 35 (RSh.one (CK.int IntKind.i64)) [(PV.list 3 [(PV.int IntKind.i64 (0 : Int)), (PV.int IntKind.i64 y7), (PV.int IntKind.i64 y8)])]) fun (y9 : (Int)) =>
  some y9
theorem tline_CheckCase_eq (F : FnT) (p0_0n : Nat) (p0_0c : List PV) (p0_1n : Nat) (p0_1c : List PV) (p0_2 : Int) (p0_3 : Int) : semF (callP F Eline_CheckCase 20) s53 (loopT []) 400 a53 [PV.agg [PV.list p0_0n p0_0c, PV.list p0_1n p0_1c, PV.int IntKind.i64 p0_2, PV.int IntKind.i64 p0_3]] (fun rv => decR (RSh.one (CK.int IntKind.i64)) rv.pv) = tline_CheckCase F p0_0n p0_0c p0_1n p0_1c p0_2 p0_3 := by kernel_rfl
noncomputable abbrev Fline_CheckCase (args : List PV) := Fn env 53 (RSh.one (CK.int IntKind.i64)) args
theorem Fline_CheckCase_of  (p0_0n : Nat) (p0_0c : List PV) (p0_1n : Nat) (p0_1c : List PV) (p0_2 : Int) (p0_3 : Int) {res : (Int)} (h : tline_CheckCase (Fn env) p0_0n p0_0c p0_1n p0_1c p0_2 p0_3 = some res) : Fline_CheckCase [PV.agg [PV.list p0_0n p0_0c, PV.list p0_1n p0_1c, PV.int IntKind.i64 p0_2, PV.int IntKind.i64 p0_3]] = some res :=
  fn_of Eline_CheckCase_ok rfl rfl lo_nil ((tline_CheckCase_eq _ _ _ _ _ _ _).trans h)

/-! ### line_hasNoCase -/

def Eline_hasNoCase : List Entry := [.inl 73 a73 s73, .out 45 (RSh.one (CK.int IntKind.i64)), .out 100 (RSh.one CK.bool)]
theorem Eline_hasNoCase_ok : ∀ e ∈ Eline_hasNoCase, EntOK env e := (ent_inl rfl (ent_out (ent_out ent_nil)))
theorem Uline_hasNoCase : uniq ((blocksOf a54.body).map (·.1)) = true := by kernel_rfl
def tline_hasNoCase (F : FnT) (p0_0n : Nat) (p0_0c : List PV) (p0_1n : Nat) (p0_1c : List PV) (p0_2 : Int) (p0_3 : Int) (p1 : Int) : Option (Bool) :=
  bindO (F 45 (RSh.one (CK.int IntKind.i64)) [(PV.agg [(PV.list p0_0n p0_0c), (PV.list p0_1n p0_1c), (PV.int IntKind.i64 p0_2), (PV.int IntKind.i64 p0_3)])]) fun (y0 : (Int)) =>
  bindO (F 100 (RSh.one CK.bool) [(PV.int IntKind.i64 p1), (PV.imm [(PV.int IntKind.i64 (0 : Int))] 0), (PV.imm [(PV.int IntKind.i64 (w64 (y0 - (1 : Int))))] 0)]) fun (y1 : (Bool)) =>
  bif y1 then
    some true
  else some false
theorem tline_hasNoCase_eq (F : FnT) (p0_0n : Nat) (p0_0c : List PV) (p0_1n : Nat) (p0_1c : List PV) (p0_2 : Int) (p0_3 : Int) (p1 : Int) : semF (callP F Eline_hasNoCase 20) s54 (loopT []) 400 a54 [PV.agg [PV.list p0_0n p0_0c, PV.list p0_1n p0_1c, PV.int IntKind.i64 p0_2, PV.int IntKind.i64 p0_3], PV.int IntKind.i64 p1] (fun rv => decR (RSh.one CK.bool) rv.pv) = tline_hasNoCase F p0_0n p0_0c p0_1n p0_1c p0_2 p0_3 p1 := by kernel_rfl
noncomputable abbrev Fline_hasNoCase (args : List PV) := Fn env 54 (RSh.one CK.bool) args
theorem Fline_hasNoCase_of  (p0_0n : Nat) (p0_0c : List PV) (p0_1n : Nat) (p0_1c : List PV) (p0_2 : Int) (p0_3 : Int) (p1 : Int) {res : (Bool)} (h : tline_hasNoCase (Fn env) p0_0n p0_0c p0_1n p0_1c p0_2 p0_3 p1 = some res) : Fline_hasNoCase [PV.agg [PV.list p0_0n p0_0c, PV.list p0_1n p0_1c, PV.int IntKind.i64 p0_2, PV.int IntKind.i64 p0_3], PV.int IntKind.i64 p1] = some res :=
  fn_of Eline_hasNoCase_ok rfl rfl lo_nil ((tline_hasNoCase_eq _ _ _ _ _ _ _ _).trans h)

/-! ### line_noisy -/

def Eline_noisy : List Entry := []
theorem Eline_noisy_ok : ∀ e ∈ Eline_noisy, EntOK env e := ent_nil
def Tline_noisy_0a (n0 : Nat) (c1 : List PV) (n2 : Nat) (i3 : Int) (n4 : Nat) (c5 : List PV) (i6 : Int) (n7 : Nat) (c8 : List PV) (n9 : Nat) (c10 : List PV) (i11 : Int) (i12 : Int) (c13 : List PV) : Q := ⟨(tm 44 [(5, (AV.p (PV.list n0 c1))), (6, (AV.msl 16 0 n2 1)), (7, (AV.p (PV.int IntKind.i64 i3))), (19, (AV.p (PV.list n4 c5))), (20, (AV.p (PV.int IntKind.i64 i6))), (21, (AV.p (PV.int IntKind.i64 (0 : Int))))]), (mm 44 [(2, (Bk.cells true [(AV.p (PV.list n7 c8)), (AV.p (PV.list n9 c10)), (AV.p (PV.int IntKind.i64 i11)), (AV.p (PV.int IntKind.i64 i12))])), (16, (Bk.pcs true c13))])⟩
def Tline_noisy_0b (n0 : Nat) (c1 : List PV) (n2 : Nat) (i3 : Int) (n4 : Nat) (c5 : List PV) (i6 : Int) (i7 : Int) (c8 : List PV) : Q := ⟨(tm 44 [(5, (AV.p (PV.list n0 c1))), (6, (AV.msl 16 0 n2 1)), (7, (AV.p (PV.int IntKind.i64 i3))), (19, (AV.p (PV.list n4 c5))), (20, (AV.p (PV.int IntKind.i64 i6))), (21, (AV.p (PV.int IntKind.i64 i7)))]), (mm 44 [(16, (Bk.pcs true c8))])⟩
def Xline_noisy_0a (y : Nat × List PV) : Ext × Q := (Ext.normal, ⟨(tm 44 [(6, (AV.msl 16 0 y.1 1))]), (mm 44 [(16, (Bk.pcs true y.2))])⟩)
def Iline_noisy_0a (q : Ext × S) : Nat × List PV := ((pA_msl2 (avT q.2 6)), (pB_pcs1 (avM q.2 16)))
abbrev Yline_noisy_0 : Type := Nat × List PV
def XLline_noisy_0 : XL Yline_noisy_0 := .one Xline_noisy_0a
def Iline_noisy_0 (q : Ext × S) : Yline_noisy_0 := (Iline_noisy_0a q)
theorem XIline_noisy_0a (y : Nat × List PV) : Iline_noisy_0 (xe (Xline_noisy_0a y)) = y := (show Iline_noisy_0 (xe (Xline_noisy_0a y)) = (y.1, ((y.2.map AV.p).map pA_p)) from rfl).trans (by simp only [map_back])
theorem XIline_noisy_0 (y : Yline_noisy_0) : Iline_noisy_0 (xe (XLline_noisy_0.fn y)) = y := XIline_noisy_0a y
noncomputable abbrev Lline_noisy_0 : Q → Option Yline_noisy_0 := lpO env a55.body 0 XLline_noisy_0
noncomputable abbrev Rline_noisy_0 : Q → Option (Ext × S) := lpR env a55.body 0
theorem Lline_noisy_0a_of {s : Q} {y : Nat × List PV} (h : Rline_noisy_0 s = exO (Xline_noisy_0a y)) : Lline_noisy_0 s = some y := lpO_of Iline_noisy_0 XIline_noisy_0 (y := y) h
theorem Uline_noisy : uniq ((blocksOf a55.body).map (·.1)) = true := by kernel_rfl
def Bline_noisy_0a (F : FnT) (N : Q → Option (Ext × S)) (E : Ext × Q → Option (Ext × S)) (L0 : Q → Option Yline_noisy_0) (n0 : Nat) (c1 : List PV) (n2 : Nat) (i3 : Int) (n4 : Nat) (c5 : List PV) (i6 : Int) (n7 : Nat) (c8 : List PV) (n9 : Nat) (c10 : List PV) (i11 : Int) (i12 : Int) (c13 : List PV) : Option (Ext × S) :=
  bif (decide ((0 : Int) < i6)) then
    bif (decide (((0 : Int) ≤ (0 : Int)) ∧ ((0 : Int) < (n4 : Int)))) then
      bindO (intC IntKind.i64 (c5[0]?)) fun x0 =>
      bif (decide ((n0 : Int) ≠ (0 : Int))) then
        bif (decide (((0 : Int) ≤ (Int.tmod i3 (n0 : Int))) ∧ ((Int.tmod i3 (n0 : Int)) < (n0 : Int)))) then
          bindO (intC IntKind.i64 (c1[((Int.toNat (Int.tmod i3 (n0 : Int))) * 1)]?)) fun x1 =>
          bif (decide (((0 : Int) ≤ (0 : Int)) ∧ ((0 : Int) < (n2 : Int)))) then
            bindO (Gv.overO c13 0 [(PV.int IntKind.i64 (w64 (x0 + x1)))]) fun x2 =>
            bif (decide ((n0 : Int) ≠ (0 : Int))) then
              N (Tline_noisy_0b n0 c1 n2 (w64 (Int.tdiv i3 (n0 : Int))) n4 c5 i6 (1 : Int) x2)
            else none
          else none
        else none
      else none
    else none
  else E (Xline_noisy_0a (n2, c13))
theorem Bline_noisy_0a_eq (F : FnT) (N : Q → Option (Ext × S)) (E : Ext × Q → Option (Ext × S)) (L0 : Q → Option Yline_noisy_0) (n0 : Nat) (c1 : List PV) (n2 : Nat) (i3 : Int) (n4 : Nat) (c5 : List PV) (i6 : Int) (n7 : Nat) (c8 : List PV) (n9 : Nat) (c10 : List PV) (i11 : Int) (i12 : Int) (c13 : List PV) : semB (callP F Eline_noisy 20) s55 (loopT [⟨0, Yline_noisy_0, L0, XLline_noisy_0⟩]) 400 (blkIn a55.body 0) N E (Tline_noisy_0a n0 c1 n2 i3 n4 c5 i6 n7 c8 n9 c10 i11 i12 c13) = Bline_noisy_0a F N E L0 n0 c1 n2 i3 n4 c5 i6 n7 c8 n9 c10 i11 i12 c13 := by kernel_rfl
theorem Rline_noisy_0a_of  (n0 : Nat) (c1 : List PV) (n2 : Nat) (i3 : Int) (n4 : Nat) (c5 : List PV) (i6 : Int) (n7 : Nat) (c8 : List PV) (n9 : Nat) (c10 : List PV) (i11 : Int) (i12 : Int) (c13 : List PV) {r : Ext × S} (h : Bline_noisy_0a (Fn env) Rline_noisy_0 exO Lline_noisy_0 n0 c1 n2 i3 n4 c5 i6 n7 c8 n9 c10 i11 i12 c13 = some r) : Rline_noisy_0 (Tline_noisy_0a n0 c1 n2 i3 n4 c5 i6 n7 c8 n9 c10 i11 i12 c13) = some r :=
  lp_of Eline_noisy_ok (by kernel_rfl) (lo_cons (lpO_ok Uline_noisy) lo_nil) (by kernel_rfl) ((Bline_noisy_0a_eq _ _ _ _ _ _ _ _ _ _ _ _ _ _ _ _ _ _).trans h)
def Bline_noisy_0b (F : FnT) (N : Q → Option (Ext × S)) (E : Ext × Q → Option (Ext × S)) (L0 : Q → Option Yline_noisy_0) (n0 : Nat) (c1 : List PV) (n2 : Nat) (i3 : Int) (n4 : Nat) (c5 : List PV) (i6 : Int) (i7 : Int) (c8 : List PV) : Option (Ext × S) :=
  bif (decide (i7 < i6)) then
    bif (decide (((0 : Int) ≤ i7) ∧ (i7 < (n4 : Int)))) then
      bindO (intC IntKind.i64 (c5[((Int.toNat i7) * 1)]?)) fun x0 =>
      bif (decide ((n0 : Int) ≠ (0 : Int))) then
        bif (decide (((0 : Int) ≤ (Int.tmod i3 (n0 : Int))) ∧ ((Int.tmod i3 (n0 : Int)) < (n0 : Int)))) then
          bindO (intC IntKind.i64 (c1[((Int.toNat (Int.tmod i3 (n0 : Int))) * 1)]?)) fun x1 =>
          bif (decide (((0 : Int) ≤ i7) ∧ (i7 < (n2 : Int)))) then
            bindO (Gv.overO c8 (0 + ((Int.toNat i7) * 1)) [(PV.int IntKind.i64 (w64 (x0 + x1)))]) fun x2 =>
            bif (decide ((n0 : Int) ≠ (0 : Int))) then
              N (Tline_noisy_0b n0 c1 n2 (w64 (Int.tdiv i3 (n0 : Int))) n4 c5 i6 (w64 (i7 + (1 : Int))) x2)
            else none
          else none
        else none
      else none
    else none
  else E (Xline_noisy_0a (n2, c8))
theorem Bline_noisy_0b_eq (F : FnT) (N : Q → Option (Ext × S)) (E : Ext × Q → Option (Ext × S)) (L0 : Q → Option Yline_noisy_0) (n0 : Nat) (c1 : List PV) (n2 : Nat) (i3 : Int) (n4 : Nat) (c5 : List PV) (i6 : Int) (i7 : Int) (c8 : List PV) : semB (callP F Eline_noisy 20) s55 (loopT [⟨0, Yline_noisy_0, L0, XLline_noisy_0⟩]) 400 (blkIn a55.body 0) N E (Tline_noisy_0b n0 c1 n2 i3 n4 c5 i6 i7 c8) = Bline_noisy_0b F N E L0 n0 c1 n2 i3 n4 c5 i6 i7 c8 := by kernel_rfl
theorem Rline_noisy_0b_of  (n0 : Nat) (c1 : List PV) (n2 : Nat) (i3 : Int) (n4 : Nat) (c5 : List PV) (i6 : Int) (i7 : Int) (c8 : List PV) {r : Ext × S} (h : Bline_noisy_0b (Fn env) Rline_noisy_0 exO Lline_noisy_0 n0 c1 n2 i3 n4 c5 i6 i7 c8 = some r) : Rline_noisy_0 (Tline_noisy_0b n0 c1 n2 i3 n4 c5 i6 i7 c8) = some r :=
  lp_of Eline_noisy_ok (by kernel_rfl) (lo_cons (lpO_ok Uline_noisy) lo_nil) (by kernel_rfl) ((Bline_noisy_0b_eq _ _ _ _ _ _ _ _ _ _ _ _ _).trans h)
def tline_noisy (F : FnT) (L0 : Q → Option Yline_noisy_0) (p0_0n : Nat) (p0_0c : List PV) (p0_1n : Nat) (p0_1c : List PV) (p0_2 : Int) (p0_3 : Int) (p1 : Int) : Option ((Nat) × (List PV)) :=
  bif (decide (((p0_0n : Int) = (p0_0n : Int)) ∧ (((0 : Int) ≤ (p0_0n : Int)) ∧ ((p0_0n : Int) ≤ (big : Int))))) then
    bindO (L0 (Tline_noisy_0a p0_1n p0_1c (Int.toNat (p0_0n : Int)) p1 p0_0n p0_0c (p0_0n : Int) p0_0n p0_0c p0_1n p0_1c p0_2 p0_3 (rep [(PV.int IntKind.i64 (0 : Int))] (Int.toNat (p0_0n : Int))))) fun y0 =>
    bif (decide ((0 + (y0.1 * 1)) ≤ (List.length y0.2))) then
      some (y0.1, (List.take (y0.1 * 1) (List.drop 0 y0.2)))
    else none
  else none
theorem tline_noisy_eq (F : FnT) (L0 : Q → Option Yline_noisy_0) (p0_0n : Nat) (p0_0c : List PV) (p0_1n : Nat) (p0_1c : List PV) (p0_2 : Int) (p0_3 : Int) (p1 : Int) : semF (callP F Eline_noisy 20) s55 (loopT [⟨0, Yline_noisy_0, L0, XLline_noisy_0⟩]) 400 a55 [PV.agg [PV.list p0_0n p0_0c, PV.list p0_1n p0_1c, PV.int IntKind.i64 p0_2, PV.int IntKind.i64 p0_3], PV.int IntKind.i64 p1] (fun rv => decR (RSh.one CK.list) rv.pv) = tline_noisy F L0 p0_0n p0_0c p0_1n p0_1c p0_2 p0_3 p1 := by kernel_rfl
noncomputable abbrev Fline_noisy (args : List PV) := Fn env 55 (RSh.one CK.list) args
theorem Fline_noisy_of  (p0_0n : Nat) (p0_0c : List PV) (p0_1n : Nat) (p0_1c : List PV) (p0_2 : Int) (p0_3 : Int) (p1 : Int) {res : ((Nat) × (List PV))} (h : tline_noisy (Fn env) Lline_noisy_0 p0_0n p0_0c p0_1n p0_1c p0_2 p0_3 p1 = some res) : Fline_noisy [PV.agg [PV.list p0_0n p0_0c, PV.list p0_1n p0_1c, PV.int IntKind.i64 p0_2, PV.int IntKind.i64 p0_3], PV.int IntKind.i64 p1] = some res :=
  fn_of Eline_noisy_ok rfl rfl (lo_cons (lpO_ok Uline_noisy) lo_nil) ((tline_noisy_eq _ _ _ _ _ _ _ _ _).trans h)

/-! ### line_Noisy -/

def Eline_Noisy : List Entry := [.out 53 (RSh.one (CK.int IntKind.i64)), .out 54 (RSh.one CK.bool), .out 55 (RSh.one CK.list)]
theorem Eline_Noisy_ok : ∀ e ∈ Eline_Noisy, EntOK env e := (ent_out (ent_out (ent_out ent_nil)))
theorem Uline_Noisy : uniq ((blocksOf a23.body).map (·.1)) = true := by kernel_rfl
def tline_Noisy (F : FnT) (p0_0n : Nat) (p0_0c : List PV) (p0_1n : Nat) (p0_1c : List PV) (p0_2 : Int) (p0_3 : Int) (p1 : Int) : Option (((Nat) × (List PV)) × (Int)) :=
  bindO (F 53 (RSh.one (CK.int IntKind.i64)) [(PV.agg [(PV.list p0_0n p0_0c), (PV.list p0_1n p0_1c), (PV.int IntKind.i64 p0_2), (PV.int IntKind.i64 p0_3)])]) fun (y0 : (Int)) =>
  bif (y0 != (0 : Int)) then
    some ((0, []), y0)
  else bindO (F 54 (RSh.one CK.bool) [(PV.agg [(PV.list p0_0n p0_0c), (PV.list p0_1n p0_1c), (PV.int IntKind.i64 p0_2), (PV.int IntKind.i64 p0_3)]), (PV.int IntKind.i64 p1)]) fun (y1 : (Bool)) =>
  bif y1 then
    some ((0, []), (6 : Int))
  else bindO (F 55 (RSh.one CK.list) [(PV.agg [(PV.list p0_0n p0_0c), (PV.list p0_1n p0_1c), (PV.int IntKind.i64 p0_2), (PV.int IntKind.i64 p0_3)]), (PV.int IntKind.i64 p1)]) fun (y2 : ((Nat) × (List PV))) =>
  some ((y2.1, y2.2), (0 : Int))
theorem tline_Noisy_eq (F : FnT) (p0_0n : Nat) (p0_0c : List PV) (p0_1n : Nat) (p0_1c : List PV) (p0_2 : Int) (p0_3 : Int) (p1 : Int) : semF (callP F Eline_Noisy 20) s23 (loopT []) 400 a23 [PV.agg [PV.list p0_0n p0_0c, PV.list p0_1n p0_1c, PV.int IntKind.i64 p0_2, PV.int IntKind.i64 p0_3], PV.int IntKind.i64 p1] (fun rv => decR (RSh.tup [(Prod.mk false [CK.list]), (Prod.mk false [(CK.int IntKind.i64)])]) rv.pv) = tline_Noisy F p0_0n p0_0c p0_1n p0_1c p0_2 p0_3 p1 := by kernel_rfl
noncomputable abbrev Fline_Noisy (args : List PV) := Fn env 23 (RSh.tup [(Prod.mk false [CK.list]), (Prod.mk false [(CK.int IntKind.i64)])]) args
theorem Fline_Noisy_of  (p0_0n : Nat) (p0_0c : List PV) (p0_1n : Nat) (p0_1c : List PV) (p0_2 : Int) (p0_3 : Int) (p1 : Int) {res : (((Nat) × (List PV)) × (Int))} (h : tline_Noisy (Fn env) p0_0n p0_0c p0_1n p0_1c p0_2 p0_3 p1 = some res) : Fline_Noisy [PV.agg [PV.list p0_0n p0_0c, PV.list p0_1n p0_1c, PV.int IntKind.i64 p0_2, PV.int IntKind.i64 p0_3], PV.int IntKind.i64 p1] = some res :=
  fn_of Eline_Noisy_ok rfl rfl lo_nil ((tline_Noisy_eq _ _ _ _ _ _ _ _).trans h)

end Gv
