/- What the functions do, round by round: M15. -/
import Derived.Test.YtkbbilbpejbmiaaM12
import Derived.Test.YtkbbilbpejbmiaaM13
namespace Gv
open Go
set_option maxRecDepth 100000

/-! ### line_casesOf_1 -/

def Eline_casesOf_1 : List Entry := [.out 45 (RSh.one (CK.int IntKind.i64)), .out 55 (RSh.one CK.list)]
theorem Eline_casesOf_1_ok : ∀ e ∈ Eline_casesOf_1, EntOK env e := (ent_out (ent_out ent_nil))
def Tline_casesOf_1_0a (n0 : Nat) (c1 : List PV) (n2 : Nat) (c3 : List PV) (i4 : Int) (i5 : Int) (i6 : Int) (i7 : Int) (c8 : List (Option Nat)) (n9 : Nat) (n10 : Nat) (c11 : List PV) : Q := ⟨(tm 17 [(0, AV.yv), (1, (AV.p (PV.imm [(PV.list n0 c1), (PV.list n2 c3), (PV.int IntKind.i64 i4), (PV.int IntKind.i64 i5)] 0))), (5, (AV.p (PV.int IntKind.i64 i6))), (6, (AV.p (PV.int IntKind.i64 i7)))]), (mm 17 [(0, (Bk.log c8 n9 n10 c11))])⟩
def Xline_casesOf_1_0a (y : List (Option Nat) × Nat × Nat × List PV) : Ext × Q := (Ext.ret, ⟨(tm 17 []), (mm 17 [(0, (Bk.log y.1 y.2.1 y.2.2.1 y.2.2.2))])⟩)
def Iline_casesOf_1_0a (q : Ext × S) : List (Option Nat) × Nat × Nat × List PV := ((pB_log0 (avM q.2 0)), (pB_log1 (avM q.2 0)), (pB_log2 (avM q.2 0)), (pB_log3 (avM q.2 0)))
def Xline_casesOf_1_0b (y : List (Option Nat) × Nat × Nat × List PV) : Ext × Q := (Ext.normal, ⟨(tm 17 []), (mm 17 [(0, (Bk.log y.1 y.2.1 y.2.2.1 y.2.2.2))])⟩)
def Iline_casesOf_1_0b (q : Ext × S) : List (Option Nat) × Nat × Nat × List PV := ((pB_log0 (avM q.2 0)), (pB_log1 (avM q.2 0)), (pB_log2 (avM q.2 0)), (pB_log3 (avM q.2 0)))
abbrev Yline_casesOf_1_0 : Type := (List (Option Nat) × Nat × Nat × List PV) ⊕ ((List (Option Nat) × Nat × Nat × List PV))
def XLline_casesOf_1_0 : XL Yline_casesOf_1_0 := .more Xline_casesOf_1_0a (.one Xline_casesOf_1_0b)
def Iline_casesOf_1_0 (q : Ext × S) : Yline_casesOf_1_0 := bif (cE q.1 == 2) then (Sum.inl (Iline_casesOf_1_0a q)) else (Sum.inr (Iline_casesOf_1_0b q))
theorem XIline_casesOf_1_0a (y : List (Option Nat) × Nat × Nat × List PV) : Iline_casesOf_1_0 (xe (Xline_casesOf_1_0a y)) = (Sum.inl y) := rfl
theorem XIline_casesOf_1_0b (y : List (Option Nat) × Nat × Nat × List PV) : Iline_casesOf_1_0 (xe (Xline_casesOf_1_0b y)) = (Sum.inr y) := rfl
theorem XIline_casesOf_1_0 (y : Yline_casesOf_1_0) : Iline_casesOf_1_0 (xe (XLline_casesOf_1_0.fn y)) = y := (match y with | .inl y => XIline_casesOf_1_0a y | .inr y => XIline_casesOf_1_0b y)
noncomputable abbrev Lline_casesOf_1_0 : Q → Option Yline_casesOf_1_0 := lpO env a92.body 0 XLline_casesOf_1_0
noncomputable abbrev Rline_casesOf_1_0 : Q → Option (Ext × S) := lpR env a92.body 0
theorem Lline_casesOf_1_0a_of {s : Q} {y : List (Option Nat) × Nat × Nat × List PV} (h : Rline_casesOf_1_0 s = exO (Xline_casesOf_1_0a y)) : Lline_casesOf_1_0 s = some (Sum.inl y) := lpO_of Iline_casesOf_1_0 XIline_casesOf_1_0 (y := (Sum.inl y)) h
theorem Lline_casesOf_1_0b_of {s : Q} {y : List (Option Nat) × Nat × Nat × List PV} (h : Rline_casesOf_1_0 s = exO (Xline_casesOf_1_0b y)) : Lline_casesOf_1_0 s = some (Sum.inr y) := lpO_of Iline_casesOf_1_0 XIline_casesOf_1_0 (y := (Sum.inr y)) h
theorem Uline_casesOf_1 : uniq ((blocksOf a92.body).map (·.1)) = true := by kernel_rfl
def Bline_casesOf_1_0a (F : FnT) (N : Q → Option (Ext × S)) (E : Ext × Q → Option (Ext × S)) (L0 : Q → Option Yline_casesOf_1_0) (n0 : Nat) (c1 : List PV) (n2 : Nat) (c3 : List PV) (i4 : Int) (i5 : Int) (i6 : Int) (i7 : Int) (c8 : List (Option Nat)) (n9 : Nat) (n10 : Nat) (c11 : List PV) : Option (Ext × S) :=
  bif (decide (i7 < i6)) then
    bindO (F 55 (RSh.one CK.list) [(PV.agg [(PV.list (Prod.mk n0 c1).1 (Prod.mk n0 c1).2), (PV.list (Prod.mk n2 c3).1 (Prod.mk n2 c3).2), (PV.int IntKind.i64 i4), (PV.int IntKind.i64 i5)]), (PV.int IntKind.i64 i7)]) fun (y0 : ((Nat) × (List PV))) =>
    bif (decide (n10 ≤ n9)) then
      bif (Gv.shapeOK c8 [(PV.int IntKind.i64 i7), (Gv.encR (RSh.one CK.list) y0)]) then
        bif (n10 != n9) then
          N (Tline_casesOf_1_0a n0 c1 n2 c3 i4 i5 i6 (w64 (i7 + (1 : Int))) c8 n9 (n10 + 1) (c11 ++ [(PV.int IntKind.i64 i7), (PV.list y0.1 y0.2)]))
        else E (Xline_casesOf_1_0a (c8, n9, (n10 + 1), (c11 ++ [(PV.int IntKind.i64 i7), (PV.list y0.1 y0.2)])))
      else none
    else none
  else E (Xline_casesOf_1_0b (c8, n9, n10, c11))
theorem Bline_casesOf_1_0a_eq (F : FnT) (N : Q → Option (Ext × S)) (E : Ext × Q → Option (Ext × S)) (L0 : Q → Option Yline_casesOf_1_0) (n0 : Nat) (c1 : List PV) (n2 : Nat) (c3 : List PV) (i4 : Int) (i5 : Int) (i6 : Int) (i7 : Int) (c8 : List (Option Nat)) (n9 : Nat) (n10 : Nat) (c11 : List PV) : semB (callP F Eline_casesOf_1 20) s92 (loopT [⟨0, Yline_casesOf_1_0, L0, XLline_casesOf_1_0⟩]) 400 (blkIn a92.body 0) N E (Tline_casesOf_1_0a n0 c1 n2 c3 i4 i5 i6 i7 c8 n9 n10 c11) = Bline_casesOf_1_0a F N E L0 n0 c1 n2 c3 i4 i5 i6 i7 c8 n9 n10 c11 := by kernel_rfl
theorem Rline_casesOf_1_0a_of  (n0 : Nat) (c1 : List PV) (n2 : Nat) (c3 : List PV) (i4 : Int) (i5 : Int) (i6 : Int) (i7 : Int) (c8 : List (Option Nat)) (n9 : Nat) (n10 : Nat) (c11 : List PV) {r : Ext × S} (h : Bline_casesOf_1_0a (Fn env) Rline_casesOf_1_0 exO Lline_casesOf_1_0 n0 c1 n2 c3 i4 i5 i6 i7 c8 n9 n10 c11 = some r) : Rline_casesOf_1_0 (Tline_casesOf_1_0a n0 c1 n2 c3 i4 i5 i6 i7 c8 n9 n10 c11) = some r :=
  lp_of Eline_casesOf_1_ok (by kernel_rfl) (lo_cons (lpO_ok Uline_casesOf_1) lo_nil) (by kernel_rfl) ((Bline_casesOf_1_0a_eq _ _ _ _ _ _ _ _ _ _ _ _ _ _ _ _).trans h)
def tline_casesOf_1 (F : FnT) (L0 : Q → Option Yline_casesOf_1_0)(k : Nat) (n m : Nat) (cs ds : List PV) (t u : Int) : Option ((Nat) × (List PV)) :=
  bindO (F 45 (RSh.one (CK.int IntKind.i64)) [(PV.agg [(PV.list (Prod.mk n cs).1 (Prod.mk n cs).2), (PV.list (Prod.mk m ds).1 (Prod.mk m ds).2), (PV.int IntKind.i64 t), (PV.int IntKind.i64 u)])]) fun (y0 : (Int)) =>
  bindO (L0 (Tline_casesOf_1_0a n cs m ds t u y0 (0 : Int) [Option.none, Option.none] k 0 [])) fun z =>
  Sum.elim (fun y1 =>
    some (y1.2.2.1, y1.2.2.2)) (fun y2 =>
    some (y2.2.2.1, y2.2.2.2)) z
theorem tline_casesOf_1_eq (F : FnT) (L0 : Q → Option Yline_casesOf_1_0)(k : Nat) (n m : Nat) (cs ds : List PV) (t u : Int) : semF (callP F Eline_casesOf_1 20) s92 (loopT [⟨0, Yline_casesOf_1_0, L0, XLline_casesOf_1_0⟩]) 400 a92 [.it [none, none] (k + 1), .imm [.list n cs, .list m ds, .int .i64 t, .int .i64 u] 0] (fun rv => decR (RSh.one CK.list) rv.pv) = tline_casesOf_1 F L0 k n m cs ds t u := by kernel_rfl
noncomputable abbrev Fline_casesOf_1 (args : List PV) := Fn env 92 (RSh.one CK.list) args
theorem Fline_casesOf_1_of (k : Nat) (n m : Nat) (cs ds : List PV) (t u : Int) {res : ((Nat) × (List PV))} (h : tline_casesOf_1 (Fn env) Lline_casesOf_1_0 k n m cs ds t u = some res) : Fline_casesOf_1 [.it [none, none] (k + 1), .imm [.list n cs, .list m ds, .int .i64 t, .int .i64 u] 0] = some res :=
  fn_of Eline_casesOf_1_ok rfl rfl (lo_cons (lpO_ok Uline_casesOf_1) lo_nil) ((tline_casesOf_1_eq _ _ _ _ _ _ _ _ _).trans h)

/-! ### line_minus -/

def Eline_minus : List Entry := [.out 63 (RSh.agg [(CK.int IntKind.i64), (CK.int IntKind.i64)])]
theorem Eline_minus_ok : ∀ e ∈ Eline_minus, EntOK env e := (ent_out ent_nil)
theorem Uline_minus : uniq ((blocksOf a62.body).map (·.1)) = true := by kernel_rfl
def tline_minus (F : FnT) (p0_0 : Int) (p0_1 : Int) (p1_0 : Int) (p1_1 : Int) : Option ((Int) × (Int)) :=
  bindO (F 63 (RSh.agg [(CK.int IntKind.i64), (CK.int IntKind.i64)]) [(PV.int IntKind.i64 (w64 ((w64 (p0_0 * p1_1)) - (w64 (p1_0 * p0_1))))), (PV.int IntKind.i64 (w64 (p0_1 * p1_1)))]) fun (y0 : ((Int) × (Int))) =>
  some (y0.1, y0.2)
theorem tline_minus_eq (F : FnT) (p0_0 : Int) (p0_1 : Int) (p1_0 : Int) (p1_1 : Int) : semF (callP F Eline_minus 20) s62 (loopT []) 400 a62 [PV.agg [PV.int IntKind.i64 p0_0, PV.int IntKind.i64 p0_1], PV.agg [PV.int IntKind.i64 p1_0, PV.int IntKind.i64 p1_1]] (fun rv => decR (RSh.agg [(CK.int IntKind.i64), (CK.int IntKind.i64)]) rv.pv) = tline_minus F p0_0 p0_1 p1_0 p1_1 := by kernel_rfl
noncomputable abbrev Fline_minus (args : List PV) := Fn env 62 (RSh.agg [(CK.int IntKind.i64), (CK.int IntKind.i64)]) args
theorem Fline_minus_of  (p0_0 : Int) (p0_1 : Int) (p1_0 : Int) (p1_1 : Int) {res : ((Int) × (Int))} (h : tline_minus (Fn env) p0_0 p0_1 p1_0 p1_1 = some res) : Fline_minus [PV.agg [PV.int IntKind.i64 p0_0, PV.int IntKind.i64 p0_1], PV.agg [PV.int IntKind.i64 p1_0, PV.int IntKind.i64 p1_1]] = some res :=
  fn_of Eline_minus_ok rfl rfl lo_nil ((tline_minus_eq _ _ _ _ _).trans h)

/-! ### line_isLess -/

def Eline_isLess : List Entry := []
theorem Eline_isLess_ok : ∀ e ∈ Eline_isLess, EntOK env e := ent_nil
theorem Uline_isLess : uniq ((blocksOf a95.body).map (·.1)) = true := by kernel_rfl
def tline_isLess (F : FnT) (p0_0 : Int) (p0_1 : Int) (p1_0 : Int) (p1_1 : Int) : Option (Bool) :=
  bif (decide ((w64 (p0_0 * p1_1)) < (w64 (p1_0 * p0_1)))) then
    some true
  else some false
theorem tline_isLess_eq (F : FnT) (p0_0 : Int) (p0_1 : Int) (p1_0 : Int) (p1_1 : Int) : semF (callP F Eline_isLess 20) s95 (loopT []) 400 a95 [PV.agg [PV.int IntKind.i64 p0_0, PV.int IntKind.i64 p0_1], PV.agg [PV.int IntKind.i64 p1_0, PV.int IntKind.i64 p1_1]] (fun rv => decR (RSh.one CK.bool) rv.pv) = tline_isLess F p0_0 p0_1 p1_0 p1_1 := by kernel_rfl
noncomputable abbrev Fline_isLess (args : List PV) := Fn env 95 (RSh.one CK.bool) args
theorem Fline_isLess_of  (p0_0 : Int) (p0_1 : Int) (p1_0 : Int) (p1_1 : Int) {res : (Bool)} (h : tline_isLess (Fn env) p0_0 p0_1 p1_0 p1_1 = some res) : Fline_isLess [PV.agg [PV.int IntKind.i64 p0_0, PV.int IntKind.i64 p0_1], PV.agg [PV.int IntKind.i64 p1_0, PV.int IntKind.i64 p1_1]] = some res :=
  fn_of Eline_isLess_ok rfl rfl lo_nil ((tline_isLess_eq _ _ _ _ _).trans h)

/-! ### line_errorIn -/

def Eline_errorIn : List Entry := [.out 59 (RSh.agg [(CK.int IntKind.i64), (CK.int IntKind.i64)]), .out 62 (RSh.agg [(CK.int IntKind.i64), (CK.int IntKind.i64)])]
theorem Eline_errorIn_ok : ∀ e ∈ Eline_errorIn, EntOK env e := (ent_out (ent_out ent_nil))
theorem Uline_errorIn : uniq ((blocksOf a94.body).map (·.1)) = true := by kernel_rfl
def tline_errorIn (F : FnT) (p0n : Nat) (p0c : List PV) (p1 : Int) (p2_0 : Int) (p2_1 : Int) : Option ((Int) × (Int)) :=
  bindO (F 59 (RSh.agg [(CK.int IntKind.i64), (CK.int IntKind.i64)]) [(PV.list p0n p0c), (PV.int IntKind.i64 p1)]) fun (y0 : ((Int) × (Int))) =>
  bindO (F 62 (RSh.agg [(CK.int IntKind.i64), (CK.int IntKind.i64)]) [(PV.agg [(PV.int IntKind.i64 y0.1), (PV.int IntKind.i64 y0.2)]), (PV.agg [(PV.int IntKind.i64 p2_0), (PV.int IntKind.i64 p2_1)])]) fun (y1 : ((Int) × (Int))) =>
  some ((if ((w64 ((0 : Int) - y1.1)) > y1.1) then (w64 ((0 : Int) - y1.1)) else y1.1), y1.2)
theorem tline_errorIn_eq (F : FnT) (p0n : Nat) (p0c : List PV) (p1 : Int) (p2_0 : Int) (p2_1 : Int) : semF (callP F Eline_errorIn 20) s94 (loopT []) 400 a94 [PV.list p0n p0c, PV.int IntKind.i64 p1, PV.agg [PV.int IntKind.i64 p2_0, PV.int IntKind.i64 p2_1]] (fun rv => decR (RSh.agg [(CK.int IntKind.i64), (CK.int IntKind.i64)]) rv.pv) = tline_errorIn F p0n p0c p1 p2_0 p2_1 := by kernel_rfl
noncomputable abbrev Fline_errorIn (args : List PV) := Fn env 94 (RSh.agg [(CK.int IntKind.i64), (CK.int IntKind.i64)]) args
theorem Fline_errorIn_of  (p0n : Nat) (p0c : List PV) (p1 : Int) (p2_0 : Int) (p2_1 : Int) {res : ((Int) × (Int))} (h : tline_errorIn (Fn env) p0n p0c p1 p2_0 p2_1 = some res) : Fline_errorIn [PV.list p0n p0c, PV.int IntKind.i64 p1, PV.agg [PV.int IntKind.i64 p2_0, PV.int IntKind.i64 p2_1]] = some res :=
  fn_of Eline_errorIn_ok rfl rfl lo_nil ((tline_errorIn_eq _ _ _ _ _ _).trans h)

/-! ### line_worstOf -/

def Eline_worstOf : List Entry := [.inl 61 a61 s61, .inl 87 a87 s87, .out 92 (RSh.one CK.list), .out 94 (RSh.agg [(CK.int IntKind.i64), (CK.int IntKind.i64)]), .out 95 (RSh.one CK.bool)]
theorem Eline_worstOf_ok : ∀ e ∈ Eline_worstOf, EntOK env e := (ent_inl rfl (ent_inl rfl (ent_out (ent_out (ent_out ent_nil)))))
def Tline_worstOf_3000028a (n0 : Nat) (c1 : List PV) (i2 : Int) (n3 : Nat) (c4 : List PV) (n5 : Nat) (c6 : List PV) (i7 : Int) (i8 : Int) (i9 : Int) (i10 : Int) (i11 : Int) (i12 : Int) : Q := ⟨(tm 52 [(2, (AV.loc 2 0)), (3, (AV.loc 3 0)), (4, (AV.loc 4 0)), (5, (AV.loc 5 0)), (28, (AV.p (PV.list n0 c1))), (29, (AV.p (PV.int IntKind.i64 i2)))]), (mm 52 [(2, (Bk.cells true [(AV.p (PV.list n3 c4)), (AV.p (PV.list n5 c6)), (AV.p (PV.int IntKind.i64 i7)), (AV.p (PV.int IntKind.i64 i8))])), (3, (Bk.pcs true [(PV.int IntKind.i64 i9)])), (4, (Bk.pcs true [(PV.int IntKind.i64 (0 : Int)), (PV.int IntKind.i64 (0 : Int)), (PV.int IntKind.i64 (0 : Int))])), (5, (Bk.pcs true [(PV.int IntKind.i64 i10), (PV.int IntKind.i64 i11), (PV.int IntKind.i64 i12)]))])⟩
def Xline_worstOf_3000028a (y : Nat × List PV × Nat × List PV × Int × Int × Int × Int × Int × Int) : Ext × Q := (Ext.normal, ⟨(tm 52 [(2, (AV.loc 2 0)), (3, (AV.loc 3 0)), (4, (AV.loc 4 0)), (5, (AV.loc 5 0))]), (mm 52 [(2, (Bk.cells true [(AV.p (PV.list y.1 y.2.1)), (AV.p (PV.list y.2.2.1 y.2.2.2.1)), (AV.p (PV.int IntKind.i64 y.2.2.2.2.1)), (AV.p (PV.int IntKind.i64 y.2.2.2.2.2.1))])), (3, (Bk.pcs true [(PV.int IntKind.i64 y.2.2.2.2.2.2.1)])), (4, (Bk.pcs true [(PV.int IntKind.i64 (0 : Int)), (PV.int IntKind.i64 (0 : Int)), (PV.int IntKind.i64 (0 : Int))])), (5, (Bk.pcs true [(PV.int IntKind.i64 y.2.2.2.2.2.2.2.1), (PV.int IntKind.i64 y.2.2.2.2.2.2.2.2.1), (PV.int IntKind.i64 y.2.2.2.2.2.2.2.2.2)]))])⟩)
def Iline_worstOf_3000028a (q : Ext × S) : Nat × List PV × Nat × List PV × Int × Int × Int × Int × Int × Int := ((pP_list0 (pA_p (hdA (pB_cells1 (avM q.2 2))))), (pP_list1 (pA_p (hdA (pB_cells1 (avM q.2 2))))), (pP_list0 (pA_p (hdA (List.tail (pB_cells1 (avM q.2 2)))))), (pP_list1 (pA_p (hdA (List.tail (pB_cells1 (avM q.2 2)))))), (pP_int1 (pA_p (hdA (List.tail (List.tail (pB_cells1 (avM q.2 2))))))), (pP_int1 (pA_p (hdA (List.tail (List.tail (List.tail (pB_cells1 (avM q.2 2)))))))), (pP_int1 (hdP (pB_pcs1 (avM q.2 3)))), (pP_int1 (hdP (pB_pcs1 (avM q.2 5)))), (pP_int1 (hdP (List.tail (pB_pcs1 (avM q.2 5))))), (pP_int1 (hdP (List.tail (List.tail (pB_pcs1 (avM q.2 5)))))))
abbrev Yline_worstOf_3000028 : Type := Nat × List PV × Nat × List PV × Int × Int × Int × Int × Int × Int
def XLline_worstOf_3000028 : XL Yline_worstOf_3000028 := .one Xline_worstOf_3000028a
def Iline_worstOf_3000028 (q : Ext × S) : Yline_worstOf_3000028 := (Iline_worstOf_3000028a q)
theorem XIline_worstOf_3000028a (y : Nat × List PV × Nat × List PV × Int × Int × Int × Int × Int × Int) : Iline_worstOf_3000028 (xe (Xline_worstOf_3000028a y)) = y := rfl
theorem XIline_worstOf_3000028 (y : Yline_worstOf_3000028) : Iline_worstOf_3000028 (xe (XLline_worstOf_3000028.fn y)) = y := XIline_worstOf_3000028a y
noncomputable abbrev Lline_worstOf_3000028 : Q → Option Yline_worstOf_3000028 := lpO env a64.body 3000028 XLline_worstOf_3000028
noncomputable abbrev Rline_worstOf_3000028 : Q → Option (Ext × S) := lpR env a64.body 3000028
theorem Lline_worstOf_3000028a_of {s : Q} {y : Nat × List PV × Nat × List PV × Int × Int × Int × Int × Int × Int} (h : Rline_worstOf_3000028 s = exO (Xline_worstOf_3000028a y)) : Lline_worstOf_3000028 s = some y := lpO_of Iline_worstOf_3000028 XIline_worstOf_3000028 (y := y) h
theorem Uline_worstOf : uniq ((blocksOf a64.body).map (·.1)) = true := by kernel_rfl
def Bline_worstOf_3000028a (F : FnT) (N : Q → Option (Ext × S)) (E : Ext × Q → Option (Ext × S)) (L3000028 : Q → Option Yline_worstOf_3000028) (n0 : Nat) (c1 : List PV) (i2 : Int) (n3 : Nat) (c4 : List PV) (n5 : Nat) (c6 : List PV) (i7 : Int) (i8 : Int) (i9 : Int) (i10 : Int) (i11 : Int) (i12 : Int) : Option (Ext × S) :=
  bif (decide (i2 < (n0 : Int))) then
    bif (decide (((0 : Int) ≤ i2) ∧ (i2 < (n0 : Int)))) then
      bindO (intC IntKind.i64 (c1[(((Int.toNat i2) * 2) + 0)]?)) fun x0 =>
      bindO (listC (c1[(((Int.toNat i2) * 2) + 1)]?)) fun x1 =>
      bindO (F 94 (RSh.agg [(CK.int IntKind.i64), (CK.int IntKind.i64)]) [(PV.list x1.1 x1.2), (PV.int IntKind.i64 i9), (PV.agg [(PV.int IntKind.i64 i7), (PV.int IntKind.i64 i8)])]) fun (y2 : ((Int) × (Int))) =>
      bindO (F 95 (RSh.one CK.bool) [(PV.agg [(PV.int IntKind.i64 i10), (PV.int IntKind.i64 i11)]), (PV.agg [(PV.int IntKind.i64 y2.1), (PV.int IntKind.i64 y2.2)])]) fun (y3 : (Bool)) =>
      bif y3 then
        N (Tline_worstOf_3000028a n0 c1 (w64 (i2 + (1 : Int))) n3 c4 n5 c6 i7 i8 i9 y2.1 y2.2 x0)
      else N (Tline_worstOf_3000028a n0 c1 (w64 (i2 + (1 : Int))) n3 c4 n5 c6 i7 i8 i9 i10 i11 i12)
    else none
  else E (Xline_worstOf_3000028a (n3, c4, n5, c6, i7, i8, i9, i10, i11, i12))
theorem Bline_worstOf_3000028a_eq (F : FnT) (N : Q → Option (Ext × S)) (E : Ext × Q → Option (Ext × S)) (L3000028 : Q → Option Yline_worstOf_3000028) (n0 : Nat) (c1 : List PV) (i2 : Int) (n3 : Nat) (c4 : List PV) (n5 : Nat) (c6 : List PV) (i7 : Int) (i8 : Int) (i9 : Int) (i10 : Int) (i11 : Int) (i12 : Int) : semB (callP F Eline_worstOf 20) s64 (loopT [⟨3000028, Yline_worstOf_3000028, L3000028, XLline_worstOf_3000028⟩]) 400 (blkIn a64.body 3000028) N E (Tline_worstOf_3000028a n0 c1 i2 n3 c4 n5 c6 i7 i8 i9 i10 i11 i12) = Bline_worstOf_3000028a F N E L3000028 n0 c1 i2 n3 c4 n5 c6 i7 i8 i9 i10 i11 i12 := by kernel_rfl
theorem Rline_worstOf_3000028a_of  (n0 : Nat) (c1 : List PV) (i2 : Int) (n3 : Nat) (c4 : List PV) (n5 : Nat) (c6 : List PV) (i7 : Int) (i8 : Int) (i9 : Int) (i10 : Int) (i11 : Int) (i12 : Int) {r : Ext × S} (h : Bline_worstOf_3000028a (Fn env) Rline_worstOf_3000028 exO Lline_worstOf_3000028 n0 c1 i2 n3 c4 n5 c6 i7 i8 i9 i10 i11 i12 = some r) : Rline_worstOf_3000028 (Tline_worstOf_3000028a n0 c1 i2 n3 c4 n5 c6 i7 i8 i9 i10 i11 i12) = some r :=
  lp_of Eline_worstOf_ok (by kernel_rfl) (lo_cons (lpO_ok Uline_worstOf) lo_nil) (by kernel_rfl) ((Bline_worstOf_3000028a_eq _ _ _ _ _ _ _ _ _ _ _ _ _ _ _ _ _).trans h)
def tline_worstOf (F : FnT) (L3000028 : Q → Option Yline_worstOf_3000028) (p0_0n : Nat) (p0_0c : List PV) (p0_1n : Nat) (p0_1c : List PV) (p0_2 : Int) (p0_3 : Int) (p1 : Int) : Option ((Int) × ((Int) × (Int))) :=
  bindO (F 92 (RSh.one CK.list) [(PV.it [Option.none, Option.none] 0), (PV.imm [(PV.list p0_0n p0_0c), (PV.list p0_1n p0_1c), (PV.int IntKind.i64 p0_2), (PV.int IntKind.i64 p0_3)] 0)]) fun (y0 : ((Nat) × (List PV))) =>
  bindO (L3000028 (Tline_worstOf_3000028a y0.1 y0.2 (0 : Int) p0_0n p0_0c p0_1n p0_1c p0_2 p0_3 p1 (0 : Int) (1 : Int) (0 : Int))) fun y1 =>
  some (y1.2.2.2.2.2.2.2.1, (y1.2.2.2.2.2.2.2.2.1, y1.2.2.2.2.2.2.2.2.2))
theorem tline_worstOf_eq (F : FnT) (L3000028 : Q → Option Yline_worstOf_3000028) (p0_0n : Nat) (p0_0c : List PV) (p0_1n : Nat) (p0_1c : List PV) (p0_2 : Int) (p0_3 : Int) (p1 : Int) : semF (callP F Eline_worstOf 20) s64 (loopT [⟨3000028, Yline_worstOf_3000028, L3000028, XLline_worstOf_3000028⟩]) 400 a64 [PV.agg [PV.list p0_0n p0_0c, PV.list p0_1n p0_1c, PV.int IntKind.i64 p0_2, PV.int IntKind.i64 p0_3], PV.int IntKind.i64 p1] (fun rv => decR (RSh.agg [(CK.int IntKind.i64), (CK.int IntKind.i64), (CK.int IntKind.i64)]) rv.pv) = tline_worstOf F L3000028 p0_0n p0_0c p0_1n p0_1c p0_2 p0_3 p1 := by kernel_rfl
noncomputable abbrev Fline_worstOf (args : List PV) := Fn env 64 (RSh.agg [(CK.int IntKind.i64), (CK.int IntKind.i64), (CK.int IntKind.i64)]) args
theorem Fline_worstOf_of  (p0_0n : Nat) (p0_0c : List PV) (p0_1n : Nat) (p0_1c : List PV) (p0_2 : Int) (p0_3 : Int) (p1 : Int) {res : ((Int) × ((Int) × (Int)))} (h : tline_worstOf (Fn env) Lline_worstOf_3000028 p0_0n p0_0c p0_1n p0_1c p0_2 p0_3 p1 = some res) : Fline_worstOf [PV.agg [PV.list p0_0n p0_0c, PV.list p0_1n p0_1c, PV.int IntKind.i64 p0_2, PV.int IntKind.i64 p0_3], PV.int IntKind.i64 p1] = some res :=
  fn_of Eline_worstOf_ok rfl rfl (lo_cons (lpO_ok Uline_worstOf) lo_nil) ((tline_worstOf_eq _ _ _ _ _ _ _ _ _).trans h)

/-! ### line_WorstOf -/

def Eline_WorstOf : List Entry := [.out 53 (RSh.one (CK.int IntKind.i64)), .out 58 (RSh.one (CK.int IntKind.i64)), .out 35 (RSh.one (CK.int IntKind.i64)), .out 64 (RSh.agg [(CK.int IntKind.i64), (CK.int IntKind.i64), (CK.int IntKind.i64)])]
theorem Eline_WorstOf_ok : ∀ e ∈ Eline_WorstOf, EntOK env e := (ent_out (ent_out (ent_out (ent_out ent_nil))))
theorem Uline_WorstOf : uniq ((blocksOf a29.body).map (·.1)) = true := by kernel_rfl
def tline_WorstOf (F : FnT) (p0_0n : Nat) (p0_0c : List PV) (p0_1n : Nat) (p0_1c : List PV) (p0_2 : Int) (p0_3 : Int) (p1 : Int) : Option ((Int) × ((Int) × ((Int) × (Int)))) :=
  bindO (F 53 (RSh.one (CK.int IntKind.i64)) [(PV.agg [(PV.list p0_0n p0_0c), (PV.list p0_1n p0_1c), (PV.int IntKind.i64 p0_2), (PV.int IntKind.i64 p0_3)])]) fun (y0 : (Int)) =>
  bindO (F 58 (RSh.one (CK.int IntKind.i64)) [(PV.int IntKind.i64 p1)]) fun (y1 : (Int)) =>
  bindO (F 35 (RSh.one (CK.int IntKind.i64)) [(PV.list 2 [(PV.int IntKind.i64 y0), (PV.int IntKind.i64 y1)])]) fun (y2 : (Int)) =>
  bif (y2 != (0 : Int)) then
    some ((0 : Int), ((0 : Int), ((0 : Int), y2)))
  else bindO (F 64 (RSh.agg [(CK.int IntKind.i64), (CK.int IntKind.i64), (CK.int IntKind.i64)]) [(PV.agg [(PV.list p0_0n p0_0c), (PV.list p0_1n p0_1c), (PV.int IntKind.i64 p0_2), (PV.int IntKind.i64 p0_3)]), (PV.int IntKind.i64 p1)]) fun (y3 : ((Int) × ((Int) × (Int)))) =>
  some (y3.1, (y3.2.1, (y3.2.2, (0 : Int))))
theorem tline_WorstOf_eq (F : FnT) (p0_0n : Nat) (p0_0c : List PV) (p0_1n : Nat) (p0_1c : List PV) (p0_2 : Int) (p0_3 : Int) (p1 : Int) : semF (callP F Eline_WorstOf 20) s29 (loopT []) 400 a29 [PV.agg [PV.list p0_0n p0_0c, PV.list p0_1n p0_1c, PV.int IntKind.i64 p0_2, PV.int IntKind.i64 p0_3], PV.int IntKind.i64 p1] (fun rv => decR (RSh.tup [(Prod.mk true [(CK.int IntKind.i64), (CK.int IntKind.i64), (CK.int IntKind.i64)]), (Prod.mk false [(CK.int IntKind.i64)])]) rv.pv) = tline_WorstOf F p0_0n p0_0c p0_1n p0_1c p0_2 p0_3 p1 := by kernel_rfl
noncomputable abbrev Fline_WorstOf (args : List PV) := Fn env 29 (RSh.tup [(Prod.mk true [(CK.int IntKind.i64), (CK.int IntKind.i64), (CK.int IntKind.i64)]), (Prod.mk false [(CK.int IntKind.i64)])]) args
theorem Fline_WorstOf_of  (p0_0n : Nat) (p0_0c : List PV) (p0_1n : Nat) (p0_1c : List PV) (p0_2 : Int) (p0_3 : Int) (p1 : Int) {res : ((Int) × ((Int) × ((Int) × (Int))))} (h : tline_WorstOf (Fn env) p0_0n p0_0c p0_1n p0_1c p0_2 p0_3 p1 = some res) : Fline_WorstOf [PV.agg [PV.list p0_0n p0_0c, PV.list p0_1n p0_1c, PV.int IntKind.i64 p0_2, PV.int IntKind.i64 p0_3], PV.int IntKind.i64 p1] = some res :=
  fn_of Eline_WorstOf_ok rfl rfl lo_nil ((tline_WorstOf_eq _ _ _ _ _ _ _ _).trans h)

/-! ### line_BiasOf -/

def Eline_BiasOf : List Entry := [.inl 61 a61 s61, .inl 60 a60 s60, .out 53 (RSh.one (CK.int IntKind.i64)), .out 35 (RSh.one (CK.int IntKind.i64)), .out 92 (RSh.one CK.list), .out 59 (RSh.agg [(CK.int IntKind.i64), (CK.int IntKind.i64)]), .out 45 (RSh.one (CK.int IntKind.i64)), .out 63 (RSh.agg [(CK.int IntKind.i64), (CK.int IntKind.i64)]), .out 62 (RSh.agg [(CK.int IntKind.i64), (CK.int IntKind.i64)])]
theorem Eline_BiasOf_ok : ∀ e ∈ Eline_BiasOf, EntOK env e := (ent_inl rfl (ent_inl rfl (ent_out (ent_out (ent_out (ent_out (ent_out (ent_out (ent_out ent_nil)))))))))
def Tline_BiasOf_3000045a (n0 : Nat) (c1 : List PV) (i2 : Int) (n3 : Nat) (c4 : List PV) (n5 : Nat) (c6 : List PV) (i7 : Int) (i8 : Int) (i9 : Int) (i10 : Int) : Q := ⟨(tm 69 [(2, (AV.loc 2 0)), (3, (AV.loc 3 0)), (4, (AV.loc 4 0)), (8, (AV.loc 8 0)), (45, (AV.p (PV.list n0 c1))), (46, (AV.p (PV.int IntKind.i64 i2)))]), (mm 69 [(2, (Bk.cells true [(AV.p (PV.list n3 c4)), (AV.p (PV.list n5 c6)), (AV.p (PV.int IntKind.i64 i7)), (AV.p (PV.int IntKind.i64 i8))])), (3, (Bk.pcs true [(PV.int IntKind.i64 i9)])), (4, (Bk.pcs true [(PV.int IntKind.i64 (0 : Int)), (PV.int IntKind.i64 (0 : Int))])), (8, (Bk.pcs true [(PV.int IntKind.i64 i10)]))])⟩
def Xline_BiasOf_3000045a (y : Nat × List PV × Nat × List PV × Int × Int × Int × Int) : Ext × Q := (Ext.normal, ⟨(tm 69 [(2, (AV.loc 2 0)), (3, (AV.loc 3 0)), (4, (AV.loc 4 0)), (8, (AV.loc 8 0))]), (mm 69 [(2, (Bk.cells true [(AV.p (PV.list y.1 y.2.1)), (AV.p (PV.list y.2.2.1 y.2.2.2.1)), (AV.p (PV.int IntKind.i64 y.2.2.2.2.1)), (AV.p (PV.int IntKind.i64 y.2.2.2.2.2.1))])), (3, (Bk.pcs true [(PV.int IntKind.i64 y.2.2.2.2.2.2.1)])), (4, (Bk.pcs true [(PV.int IntKind.i64 (0 : Int)), (PV.int IntKind.i64 (0 : Int))])), (8, (Bk.pcs true [(PV.int IntKind.i64 y.2.2.2.2.2.2.2)]))])⟩)
def Iline_BiasOf_3000045a (q : Ext × S) : Nat × List PV × Nat × List PV × Int × Int × Int × Int := ((pP_list0 (pA_p (hdA (pB_cells1 (avM q.2 2))))), (pP_list1 (pA_p (hdA (pB_cells1 (avM q.2 2))))), (pP_list0 (pA_p (hdA (List.tail (pB_cells1 (avM q.2 2)))))), (pP_list1 (pA_p (hdA (List.tail (pB_cells1 (avM q.2 2)))))), (pP_int1 (pA_p (hdA (List.tail (List.tail (pB_cells1 (avM q.2 2))))))), (pP_int1 (pA_p (hdA (List.tail (List.tail (List.tail (pB_cells1 (avM q.2 2)))))))), (pP_int1 (hdP (pB_pcs1 (avM q.2 3)))), (pP_int1 (hdP (pB_pcs1 (avM q.2 8)))))
abbrev Yline_BiasOf_3000045 : Type := Nat × List PV × Nat × List PV × Int × Int × Int × Int
def XLline_BiasOf_3000045 : XL Yline_BiasOf_3000045 := .one Xline_BiasOf_3000045a
def Iline_BiasOf_3000045 (q : Ext × S) : Yline_BiasOf_3000045 := (Iline_BiasOf_3000045a q)
theorem XIline_BiasOf_3000045a (y : Nat × List PV × Nat × List PV × Int × Int × Int × Int) : Iline_BiasOf_3000045 (xe (Xline_BiasOf_3000045a y)) = y := rfl
theorem XIline_BiasOf_3000045 (y : Yline_BiasOf_3000045) : Iline_BiasOf_3000045 (xe (XLline_BiasOf_3000045.fn y)) = y := XIline_BiasOf_3000045a y
noncomputable abbrev Lline_BiasOf_3000045 : Q → Option Yline_BiasOf_3000045 := lpO env a27.body 3000045 XLline_BiasOf_3000045
noncomputable abbrev Rline_BiasOf_3000045 : Q → Option (Ext × S) := lpR env a27.body 3000045
theorem Lline_BiasOf_3000045a_of {s : Q} {y : Nat × List PV × Nat × List PV × Int × Int × Int × Int} (h : Rline_BiasOf_3000045 s = exO (Xline_BiasOf_3000045a y)) : Lline_BiasOf_3000045 s = some y := lpO_of Iline_BiasOf_3000045 XIline_BiasOf_3000045 (y := y) h
theorem Uline_BiasOf : uniq ((blocksOf a27.body).map (·.1)) = true := by kernel_rfl
def Bline_BiasOf_3000045a (F : FnT) (N : Q → Option (Ext × S)) (E : Ext × Q → Option (Ext × S)) (L3000045 : Q → Option Yline_BiasOf_3000045) (n0 : Nat) (c1 : List PV) (i2 : Int) (n3 : Nat) (c4 : List PV) (n5 : Nat) (c6 : List PV) (i7 : Int) (i8 : Int) (i9 : Int) (i10 : Int) : Option (Ext × S) :=
  bif (decide (i2 < (n0 : Int))) then
    bif (decide (((0 : Int) ≤ i2) ∧ (i2 < (n0 : Int)))) then
      bindO (intC IntKind.i64 (c1[(((Int.toNat i2) * 2) + 0)]?)) fun x0 =>
      bindO (listC (c1[(((Int.toNat i2) * 2) + 1)]?)) fun x1 =>
      bindO (F 59 (RSh.agg [(CK.int IntKind.i64), (CK.int IntKind.i64)]) [(PV.list x1.1 x1.2), (PV.int IntKind.i64 i9)]) fun (y2 : ((Int) × (Int))) =>
      N (Tline_BiasOf_3000045a n0 c1 (w64 (i2 + (1 : Int))) n3 c4 n5 c6 i7 i8 i9 (w64 (i10 + y2.1)))
    else none
  else E (Xline_BiasOf_3000045a (n3, c4, n5, c6, i7, i8, i9, i10))
theorem Bline_BiasOf_3000045a_eq (F : FnT) (N : Q → Option (Ext × S)) (E : Ext × Q → Option (Ext × S)) (L3000045 : Q → Option Yline_BiasOf_3000045) (n0 : Nat) (c1 : List PV) (i2 : Int) (n3 : Nat) (c4 : List PV) (n5 : Nat) (c6 : List PV) (i7 : Int) (i8 : Int) (i9 : Int) (i10 : Int) : semB (callP F Eline_BiasOf 20) s27 (loopT [⟨3000045, Yline_BiasOf_3000045, L3000045, XLline_BiasOf_3000045⟩]) 400 (blkIn a27.body 3000045) N E (Tline_BiasOf_3000045a n0 c1 i2 n3 c4 n5 c6 i7 i8 i9 i10) = Bline_BiasOf_3000045a F N E L3000045 n0 c1 i2 n3 c4 n5 c6 i7 i8 i9 i10 := by kernel_rfl
theorem Rline_BiasOf_3000045a_of  (n0 : Nat) (c1 : List PV) (i2 : Int) (n3 : Nat) (c4 : List PV) (n5 : Nat) (c6 : List PV) (i7 : Int) (i8 : Int) (i9 : Int) (i10 : Int) {r : Ext × S} (h : Bline_BiasOf_3000045a (Fn env) Rline_BiasOf_3000045 exO Lline_BiasOf_3000045 n0 c1 i2 n3 c4 n5 c6 i7 i8 i9 i10 = some r) : Rline_BiasOf_3000045 (Tline_BiasOf_3000045a n0 c1 i2 n3 c4 n5 c6 i7 i8 i9 i10) = some r :=
  lp_of Eline_BiasOf_ok (by kernel_rfl) (lo_cons (lpO_ok Uline_BiasOf) lo_nil) (by kernel_rfl) ((Bline_BiasOf_3000045a_eq _ _ _ _ _ _ _ _ _ _ _ _ _ _ _).trans h)
def tline_BiasOf (F : FnT) (L3000045 : Q → Option Yline_BiasOf_3000045) (p0_0n : Nat) (p0_0c : List PV) (p0_1n : Nat) (p0_1c : List PV) (p0_2 : Int) (p0_3 : Int) (p1 : Int) : Option ((Int) × ((Int) × (Int))) :=
  bif (p1 == (0 : Int)) then
    bindO (F 53 (RSh.one (CK.int IntKind.i64)) [(PV.agg [(PV.list p0_0n p0_0c), (PV.list p0_1n p0_1c), (PV.int IntKind.i64 p0_2), (PV.int IntKind.i64 p0_3)])]) fun (y0 : (Int)) =>
    bindO (F 35 (RSh.one (CK.int IntKind.i64)) [(PV.list 2 [(PV.int IntKind.i64 y0), (PV.int IntKind.i64 (0 : Int))])]) fun (y1 : (Int)) =>
    bif (y1 != (0 : Int)) then
      some ((0 : Int), ((0 : Int), y1))
    else bindO (F 92 (RSh.one CK.list) [(PV.it [Option.none, Option.none] 0), (PV.imm [(PV.list p0_0n p0_0c), (PV.list p0_1n p0_1c), (PV.int IntKind.i64 p0_2), (PV.int IntKind.i64 p0_3)] 0)]) fun (y2 : ((Nat) × (List PV))) =>
    bindO (L3000045 (Tline_BiasOf_3000045a y2.1 y2.2 (0 : Int) p0_0n p0_0c p0_1n p0_1c p0_2 p0_3 p1 (0 : Int))) fun y3 =>
    bindO (F 45 (RSh.one (CK.int IntKind.i64)) [(PV.agg [(PV.list y3.1 y3.2.1), (PV.list y3.2.2.1 y3.2.2.2.1), (PV.int IntKind.i64 y3.2.2.2.2.1), (PV.int IntKind.i64 y3.2.2.2.2.2.1)])]) fun (y4 : (Int)) =>
    bindO (F 63 (RSh.agg [(CK.int IntKind.i64), (CK.int IntKind.i64)]) [(PV.int IntKind.i64 y3.2.2.2.2.2.2.2), (PV.int IntKind.i64 y4)]) fun (y5 : ((Int) × (Int))) =>
    bindO (F 62 (RSh.agg [(CK.int IntKind.i64), (CK.int IntKind.i64)]) [(PV.agg [(PV.int IntKind.i64 y5.1), (PV.int IntKind.i64 y5.2)]), (PV.agg [(PV.int IntKind.i64 y3.2.2.2.2.1), (PV.int IntKind.i64 y3.2.2.2.2.2.1)])]) fun (y6 : ((Int) × (Int))) =>
    some (y6.1, (y6.2, (0 : Int)))
  else bif (p1 == (3 : Int)) then
    bindO (F 53 (RSh.one (CK.int IntKind.i64)) [(PV.agg [(PV.list p0_0n p0_0c), (PV.list p0_1n p0_1c), (PV.int IntKind.i64 p0_2), (PV.int IntKind.i64 p0_3)])]) fun (y7 : (Int)) =>
    bindO (F 35 (RSh.one (CK.int IntKind.i64)) [(PV.list 2 [(PV.int IntKind.i64 y7), (PV.int IntKind.i64 (0 : Int))])]) fun (y8 : (Int)) =>
    bif (y8 != (0 : Int)) then
      some ((0 : Int), ((0 : Int), y8))
    else bindO (F 92 (RSh.one CK.list) [(PV.it [Option.none, Option.none] 0), (PV.imm [(PV.list p0_0n p0_0c), (PV.list p0_1n p0_1c), (PV.int IntKind.i64 p0_2), (PV.int IntKind.i64 p0_3)] 0)]) fun (y9 : ((Nat) × (List PV))) =>
    bindO (L3000045 (Tline_BiasOf_3000045a y9.1 y9.2 (0 : Int) p0_0n p0_0c p0_1n p0_1c p0_2 p0_3 p1 (0 : Int))) fun y10 =>
    bindO (F 45 (RSh.one (CK.int IntKind.i64)) [(PV.agg [(PV.list y10.1 y10.2.1), (PV.list y10.2.2.1 y10.2.2.2.1), (PV.int IntKind.i64 y10.2.2.2.2.1), (PV.int IntKind.i64 y10.2.2.2.2.2.1)])]) fun (y11 : (Int)) =>
    bindO (F 63 (RSh.agg [(CK.int IntKind.i64), (CK.int IntKind.i64)]) [(PV.int IntKind.i64 y10.2.2.2.2.2.2.2), (PV.int IntKind.i64 y11)]) fun (y12 : ((Int) × (Int))) =>
    bindO (F 62 (RSh.agg [(CK.int IntKind.i64), (CK.int IntKind.i64)]) [(PV.agg [(PV.int IntKind.i64 y12.1), (PV.int IntKind.i64 y12.2)]), (PV.agg [(PV.int IntKind.i64 y10.2.2.2.2.1), (PV.int IntKind.i64 y10.2.2.2.2.2.1)])]) fun (y13 : ((Int) × (Int))) =>
    some (y13.1, (y13.2, (0 : Int)))
  else bindO (F 53 (RSh.one (CK.int IntKind.i64)) [(PV.agg [(PV.list p0_0n p0_0c), (PV.list p0_1n p0_1c), (PV.int IntKind.i64 p0_2), (PV.int IntKind.i64 p0_3)])]) fun (y14 : (Int)) =>
  bindO (F 35 (RSh.one (CK.int IntKind.i64)) [(PV.list 2 [(PV.int IntKind.i64 y14), (PV.int IntKind.i64 (14 : Int))])]) fun (y15 : (Int)) =>
  bif (y15 != (0 : Int)) then
    some ((0 : Int), ((0 : Int), y15))
  else bindO (F 92 (RSh.one CK.list) [(PV.it [Option.none, Option.none] 0), (PV.imm [(PV.list p0_0n p0_0c), (PV.list p0_1n p0_1c), (PV.int IntKind.i64 p0_2), (PV.int IntKind.i64 p0_3)] 0)]) fun (y16 : ((Nat) × (List PV))) =>
  bindO (L3000045 (Tline_BiasOf_3000045a y16.1 y16.2 (0 : Int) p0_0n p0_0c p0_1n p0_1c p0_2 p0_3 p1 (0 : Int))) fun y17 =>
  bindO (F 45 (RSh.one (CK.int IntKind.i64)) [(PV.agg [(PV.list y17.1 y17.2.1), (PV.list y17.2.2.1 y17.2.2.2.1), (PV.int IntKind.i64 y17.2.2.2.2.1), (PV.int IntKind.i64 y17.2.2.2.2.2.1)])]) fun (y18 : (Int)) =>
  bindO (F 63 (RSh.agg [(CK.int IntKind.i64), (CK.int IntKind.i64)]) [(PV.int IntKind.i64 y17.2.2.2.2.2.2.2), (PV.int IntKind.i64 y18)]) fun (y19 : ((Int) × (Int))) =>
  bindO (F 62 (RSh.agg [(CK.int IntKind.i64), (CK.int IntKind.i64)]) [(PV.agg [(PV.int IntKind.i64 y19.1), (PV.int IntKind.i64 y19.2)]), (PV.agg [(PV.int IntKind.i64 y17.2.2.2.2.1), (PV.int IntKind.i64 y17.2.2.2.2.2.1)])]) fun (y20 : ((Int) × (Int))) =>
  some (y20.1, (y20.2, (0 : Int)))
theorem tline_BiasOf_eq (F : FnT) (L3000045 : Q → Option Yline_BiasOf_3000045) (p0_0n : Nat) (p0_0c : List PV) (p0_1n : Nat) (p0_1c : List PV) (p0_2 : Int) (p0_3 : Int) (p1 : Int) : semF (callP F Eline_BiasOf 20) s27 (loopT [⟨3000045, Yline_BiasOf_3000045, L3000045, XLline_BiasOf_3000045⟩]) 400 a27 [PV.agg [PV.list p0_0n p0_0c, PV.list p0_1n p0_1c, PV.int IntKind.i64 p0_2, PV.int IntKind.i64 p0_3], PV.int IntKind.i64 p1] (fun rv => decR (RSh.tup [(Prod.mk true [(CK.int IntKind.i64), (CK.int IntKind.i64)]), (Prod.mk false [(CK.int IntKind.i64)])]) rv.pv) = tline_BiasOf F L3000045 p0_0n p0_0c p0_1n p0_1c p0_2 p0_3 p1 := by kernel_rfl
noncomputable abbrev Fline_BiasOf (args : List PV) := Fn env 27 (RSh.tup [(Prod.mk true [(CK.int IntKind.i64), (CK.int IntKind.i64)]), (Prod.mk false [(CK.int IntKind.i64)])]) args
theorem Fline_BiasOf_of  (p0_0n : Nat) (p0_0c : List PV) (p0_1n : Nat) (p0_1c : List PV) (p0_2 : Int) (p0_3 : Int) (p1 : Int) {res : ((Int) × ((Int) × (Int)))} (h : tline_BiasOf (Fn env) Lline_BiasOf_3000045 p0_0n p0_0c p0_1n p0_1c p0_2 p0_3 p1 = some res) : Fline_BiasOf [PV.agg [PV.list p0_0n p0_0c, PV.list p0_1n p0_1c, PV.int IntKind.i64 p0_2, PV.int IntKind.i64 p0_3], PV.int IntKind.i64 p1] = some res :=
  fn_of Eline_BiasOf_ok rfl rfl (lo_cons (lpO_ok Uline_BiasOf) lo_nil) ((tline_BiasOf_eq _ _ _ _ _ _ _ _ _).trans h)

/-! ### BsCmp -/

def EBsCmp : List Entry := []
theorem EBsCmp_ok : ∀ e ∈ EBsCmp, EntOK env e := ent_nil
theorem UBsCmp : uniq ((blocksOf a22.body).map (·.1)) = true := by kernel_rfl
def tBsCmp (F : FnT) (p0_0 : Int) (p0_1 : Int) (p1_0 : Int) (p1_1 : Int) : Option (Int) :=
  bif (decide ((w64 (p0_0 * p1_1)) < (w64 (p1_0 * p0_1)))) then
    some (-1 : Int)
  else bif (decide ((w64 (p0_0 * p1_1)) > (w64 (p1_0 * p0_1)))) then
    some (1 : Int)
  else some (0 : Int)
theorem tBsCmp_eq (F : FnT) (p0_0 : Int) (p0_1 : Int) (p1_0 : Int) (p1_1 : Int) : semF (callP F EBsCmp 20) s22 (loopT []) 400 a22 [PV.agg [PV.int IntKind.i64 p0_0, PV.int IntKind.i64 p0_1], PV.agg [PV.int IntKind.i64 p1_0, PV.int IntKind.i64 p1_1]] (fun rv => decR (RSh.one (CK.int IntKind.i64)) rv.pv) = tBsCmp F p0_0 p0_1 p1_0 p1_1 := by kernel_rfl
noncomputable abbrev FBsCmp (args : List PV) := Fn env 22 (RSh.one (CK.int IntKind.i64)) args
theorem FBsCmp_of  (p0_0 : Int) (p0_1 : Int) (p1_0 : Int) (p1_1 : Int) {res : (Int)} (h : tBsCmp (Fn env) p0_0 p0_1 p1_0 p1_1 = some res) : FBsCmp [PV.agg [PV.int IntKind.i64 p0_0, PV.int IntKind.i64 p0_1], PV.agg [PV.int IntKind.i64 p1_0, PV.int IntKind.i64 p1_1]] = some res :=
  fn_of EBsCmp_ok rfl rfl lo_nil ((tBsCmp_eq _ _ _ _ _).trans h)

/-! ### Lwlight -/

def ELwlight : List Entry := [.out 6 (RSh.one CK.bool), .out 18 (RSh.one (CK.int IntKind.i64)), .out 9 (RSh.one (CK.int IntKind.i64))]
theorem ELwlight_ok : ∀ e ∈ ELwlight, EntOK env e := (ent_out (ent_out (ent_out ent_nil)))
theorem ULwlight : uniq ((blocksOf a17.body).map (·.1)) = true := by kernel_rfl
def tLwlight (F : FnT) (p0_0n : Nat) (p0_0c : List PV) (p0_1n : Nat) (p0_1c : List PV) (p0_2 : Int) (p0_3 : Int) : Option (Bool) :=
  bindO (F 6 (RSh.one CK.bool) [(PV.list p0_0n p0_0c)]) fun (y0 : (Bool)) =>
  bif y0 then
    bindO (F 6 (RSh.one CK.bool) [(PV.list p0_1n p0_1c)]) fun (y1 : (Bool)) =>
    bif y1 then
      bindO (F 18 (RSh.one (CK.int IntKind.i64)) [(PV.agg [(PV.list p0_0n p0_0c), (PV.list p0_1n p0_1c), (PV.int IntKind.i64 p0_2), (PV.int IntKind.i64 p0_3)])]) fun (y2 : (Int)) =>
      bif (y2 != (0 : Int)) then
        some true
      else bindO (F 9 (RSh.one (CK.int IntKind.i64)) [(PV.agg [(PV.list p0_1n p0_1c)]), (PV.int IntKind.i64 (p0_0n : Int))]) fun (y3 : (Int)) =>
      bif (decide (y3 ≤ (256 : Int))) then
        some true
      else some false
    else some false
  else some false
theorem tLwlight_eq (F : FnT) (p0_0n : Nat) (p0_0c : List PV) (p0_1n : Nat) (p0_1c : List PV) (p0_2 : Int) (p0_3 : Int) : semF (callP F ELwlight 20) s17 (loopT []) 400 a17 [PV.agg [PV.list p0_0n p0_0c, PV.list p0_1n p0_1c, PV.int IntKind.i64 p0_2, PV.int IntKind.i64 p0_3]] (fun rv => decR (RSh.one CK.bool) rv.pv) = tLwlight F p0_0n p0_0c p0_1n p0_1c p0_2 p0_3 := by kernel_rfl
noncomputable abbrev FLwlight (args : List PV) := Fn env 17 (RSh.one CK.bool) args
theorem FLwlight_of  (p0_0n : Nat) (p0_0c : List PV) (p0_1n : Nat) (p0_1c : List PV) (p0_2 : Int) (p0_3 : Int) {res : (Bool)} (h : tLwlight (Fn env) p0_0n p0_0c p0_1n p0_1c p0_2 p0_3 = some res) : FLwlight [PV.agg [PV.list p0_0n p0_0c, PV.list p0_1n p0_1c, PV.int IntKind.i64 p0_2, PV.int IntKind.i64 p0_3]] = some res :=
  fn_of ELwlight_ok rfl rfl lo_nil ((tLwlight_eq _ _ _ _ _ _ _).trans h)

end Gv
