/- What the functions do, round by round: M20. -/
import Derived.Test.YtdbnojfklmfniaaGreatM15
namespace Gv
open Go
set_option maxRecDepth 100000

/-! ### line_isNoKind -/

def Eline_isNoKind : List Entry := [.inl 75 a75 s75, .out 96 (RSh.one CK.bool)]
theorem Eline_isNoKind_ok : ∀ e ∈ Eline_isNoKind, EntOK env e := (ent_inl rfl (ent_out ent_nil))
theorem Uline_isNoKind : uniq ((blocksOf a73.body).map (·.1)) = true := by kernel_rfl
def tline_isNoKind (F : FnT) (p0 : Int) : Option (Bool) :=
  bindO (F 96 (RSh.one CK.bool) [(PV.int IntKind.i64 p0), (PV.imm [(PV.int IntKind.i64 (0 : Int))] 0), (PV.imm [(PV.int IntKind.i64 (3 : Int))] 0)]) fun (y0 : (Bool)) =>
  bif y0 then
    some true
  else some false
theorem tline_isNoKind_eq (F : FnT) (p0 : Int) : semF (callP F Eline_isNoKind 20) s73 (loopT []) 400 a73 [PV.int IntKind.i64 p0] (fun rv => decR (RSh.one CK.bool) rv.pv) = tline_isNoKind F p0 := by kernel_rfl
noncomputable abbrev Fline_isNoKind (args : List PV) := Fn env 73 (RSh.one CK.bool) args
theorem Fline_isNoKind_of  (p0 : Int) {res : (Bool)} (h : tline_isNoKind (Fn env) p0 = some res) : Fline_isNoKind [PV.int IntKind.i64 p0] = some res :=
  fn_of Eline_isNoKind_ok rfl rfl lo_nil ((tline_isNoKind_eq _ _).trans h)

/-! ### line_IndexFunc_nk -/

def Eline_IndexFunc_nk : List Entry := [.out 73 (RSh.one CK.bool)]
theorem Eline_IndexFunc_nk_ok : ∀ e ∈ Eline_IndexFunc_nk, EntOK env e := (ent_out ent_nil)
def Tline_IndexFunc_nk_0a (n0 : Nat) (c1 : List PV) (i2 : Int) (i3 : Int) : Q := ⟨(tm 19 [(0, (AV.p (PV.list n0 c1))), (1, (AV.p (PV.fn 73 []))), (7, (AV.p (PV.int IntKind.i64 i2))), (8, (AV.p (PV.int IntKind.i64 i3)))]), (mm 19 [])⟩
def Xline_IndexFunc_nk_0a (y : Int) : Ext × Q := (Ext.ret, ⟨(tm 19 [(4, (AV.p (PV.int IntKind.i64 y)))]), (mm 19 [])⟩)
def Iline_IndexFunc_nk_0a (q : Ext × S) : Int := (pP_int1 (pA_p (avT q.2 4)))
def Xline_IndexFunc_nk_0b (_y : Unit) : Ext × Q := (Ext.normal, ⟨(tm 19 []), (mm 19 [])⟩)
def Iline_IndexFunc_nk_0b (_q : Ext × S) : Unit := ()
abbrev Yline_IndexFunc_nk_0 : Type := (Int) ⊕ ((Unit))
def XLline_IndexFunc_nk_0 : XL Yline_IndexFunc_nk_0 := .more Xline_IndexFunc_nk_0a (.one Xline_IndexFunc_nk_0b)
def Iline_IndexFunc_nk_0 (q : Ext × S) : Yline_IndexFunc_nk_0 := bif (cE q.1 == 2) then (Sum.inl (Iline_IndexFunc_nk_0a q)) else (Sum.inr (Iline_IndexFunc_nk_0b q))
theorem XIline_IndexFunc_nk_0a (y : Int) : Iline_IndexFunc_nk_0 (xe (Xline_IndexFunc_nk_0a y)) = (Sum.inl y) := rfl
theorem XIline_IndexFunc_nk_0b (y : Unit) : Iline_IndexFunc_nk_0 (xe (Xline_IndexFunc_nk_0b y)) = (Sum.inr y) := rfl
theorem XIline_IndexFunc_nk_0 (y : Yline_IndexFunc_nk_0) : Iline_IndexFunc_nk_0 (xe (XLline_IndexFunc_nk_0.fn y)) = y := (match y with | .inl y => XIline_IndexFunc_nk_0a y | .inr y => XIline_IndexFunc_nk_0b y)
noncomputable abbrev Lline_IndexFunc_nk_0 : Q → Option Yline_IndexFunc_nk_0 := lpO env a95.body 0 XLline_IndexFunc_nk_0
noncomputable abbrev Rline_IndexFunc_nk_0 : Q → Option (Ext × S) := lpR env a95.body 0
theorem Lline_IndexFunc_nk_0a_of {s : Q} {y : Int} (h : Rline_IndexFunc_nk_0 s = exO (Xline_IndexFunc_nk_0a y)) : Lline_IndexFunc_nk_0 s = some (Sum.inl y) := lpO_of Iline_IndexFunc_nk_0 XIline_IndexFunc_nk_0 (y := (Sum.inl y)) h
theorem Lline_IndexFunc_nk_0b_of {s : Q} {y : Unit} (h : Rline_IndexFunc_nk_0 s = exO (Xline_IndexFunc_nk_0b y)) : Lline_IndexFunc_nk_0 s = some (Sum.inr y) := lpO_of Iline_IndexFunc_nk_0 XIline_IndexFunc_nk_0 (y := (Sum.inr y)) h
theorem Uline_IndexFunc_nk : uniq ((blocksOf a95.body).map (·.1)) = true := by kernel_rfl
def Bline_IndexFunc_nk_0a (F : FnT) (N : Q → Option (Ext × S)) (E : Ext × Q → Option (Ext × S)) (_L0 : Q → Option Yline_IndexFunc_nk_0) (n0 : Nat) (c1 : List PV) (i2 : Int) (i3 : Int) : Option (Ext × S) :=
  bif (decide (i3 < i2)) then
    bif (decide (((0 : Int) ≤ i3) ∧ (i3 < (n0 : Int)))) then
      bindO (intC IntKind.i64 (c1[((Int.toNat i3) * 1)]?)) fun x0 =>
      bindO (F 73 (RSh.one CK.bool) [(PV.int IntKind.i64 x0)]) fun (y1 : (Bool)) =>
      bif y1 then
        E (Xline_IndexFunc_nk_0a i3)
      else N (Tline_IndexFunc_nk_0a n0 c1 i2 (w64 (i3 + (1 : Int))))
    else none
  else E (Xline_IndexFunc_nk_0b ())
theorem Bline_IndexFunc_nk_0a_eq (F : FnT) (N : Q → Option (Ext × S)) (E : Ext × Q → Option (Ext × S)) (L0 : Q → Option Yline_IndexFunc_nk_0) (n0 : Nat) (c1 : List PV) (i2 : Int) (i3 : Int) : semB (callP F Eline_IndexFunc_nk 20) s95 (loopT [⟨0, Yline_IndexFunc_nk_0, L0, XLline_IndexFunc_nk_0⟩]) 400 (blkIn a95.body 0) N E (Tline_IndexFunc_nk_0a n0 c1 i2 i3) = Bline_IndexFunc_nk_0a F N E L0 n0 c1 i2 i3 := by kernel_rfl
theorem Rline_IndexFunc_nk_0a_of  (n0 : Nat) (c1 : List PV) (i2 : Int) (i3 : Int) {r : Ext × S} (h : Bline_IndexFunc_nk_0a (Fn env) Rline_IndexFunc_nk_0 exO Lline_IndexFunc_nk_0 n0 c1 i2 i3 = some r) : Rline_IndexFunc_nk_0 (Tline_IndexFunc_nk_0a n0 c1 i2 i3) = some r :=
  lp_of Eline_IndexFunc_nk_ok (by kernel_rfl) (lo_cons (lpO_ok Uline_IndexFunc_nk) lo_nil) (by kernel_rfl) ((Bline_IndexFunc_nk_0a_eq _ _ _ _ _ _ _ _).trans h)
def tline_IndexFunc_nk (_F : FnT) (L0 : Q → Option Yline_IndexFunc_nk_0)(n : Nat) (cs : List PV) : Option (Int) :=
  bindO (L0 (Tline_IndexFunc_nk_0a n cs (n : Int) (0 : Int))) fun z =>
  Sum.elim (fun y0 =>
    some y0) (fun _y1 =>
    some (-1 : Int)) z
theorem tline_IndexFunc_nk_eq (F : FnT) (L0 : Q → Option Yline_IndexFunc_nk_0)(n : Nat) (cs : List PV) : semF (callP F Eline_IndexFunc_nk 20) s95 (loopT [⟨0, Yline_IndexFunc_nk_0, L0, XLline_IndexFunc_nk_0⟩]) 400 a95 [.list n cs, .fn 73 []] (fun rv => decR (RSh.one (CK.int IntKind.i64)) rv.pv) = tline_IndexFunc_nk F L0 n cs := by kernel_rfl
noncomputable abbrev Fline_IndexFunc_nk (args : List PV) := Fn env 95 (RSh.one (CK.int IntKind.i64)) args
theorem Fline_IndexFunc_nk_of (n : Nat) (cs : List PV) {res : (Int)} (h : tline_IndexFunc_nk (Fn env) Lline_IndexFunc_nk_0 n cs = some res) : Fline_IndexFunc_nk [.list n cs, .fn 73 []] = some res :=
  fn_of Eline_IndexFunc_nk_ok rfl rfl (lo_cons (lpO_ok Uline_IndexFunc_nk) lo_nil) ((tline_IndexFunc_nk_eq _ _ _ _).trans h)

/-! ### line_ContainsFunc_nk -/

def Eline_ContainsFunc_nk : List Entry := [.out 95 (RSh.one (CK.int IntKind.i64))]
theorem Eline_ContainsFunc_nk_ok : ∀ e ∈ Eline_ContainsFunc_nk, EntOK env e := (ent_out ent_nil)
theorem Uline_ContainsFunc_nk : uniq ((blocksOf a70.body).map (·.1)) = true := by kernel_rfl
def tline_ContainsFunc_nk (F : FnT)(n : Nat) (cs : List PV) : Option (Bool) :=
  bindO (F 95 (RSh.one (CK.int IntKind.i64)) [(PV.list n cs), (PV.fn 73 [])]) fun (y0 : (Int)) =>
  bif (decide (y0 ≥ (0 : Int))) then
    some true
  else some false
theorem tline_ContainsFunc_nk_eq (F : FnT)(n : Nat) (cs : List PV) : semF (callP F Eline_ContainsFunc_nk 20) s70 (loopT []) 400 a70 [.list n cs, .fn 73 []] (fun rv => decR (RSh.one CK.bool) rv.pv) = tline_ContainsFunc_nk F n cs := by kernel_rfl
noncomputable abbrev Fline_ContainsFunc_nk (args : List PV) := Fn env 70 (RSh.one CK.bool) args
theorem Fline_ContainsFunc_nk_of (n : Nat) (cs : List PV) {res : (Bool)} (h : tline_ContainsFunc_nk (Fn env) n cs = some res) : Fline_ContainsFunc_nk [.list n cs, .fn 73 []] = some res :=
  fn_of Eline_ContainsFunc_nk_ok rfl rfl lo_nil ((tline_ContainsFunc_nk_eq _ _ _).trans h)

/-! ### line_kindsError -/

def Eline_kindsError : List Entry := [.inl 35 a35 s35, .out 70 (RSh.one CK.bool), .out 32 (RSh.one (CK.int IntKind.i64))]
theorem Eline_kindsError_ok : ∀ e ∈ Eline_kindsError, EntOK env e := (ent_inl rfl (ent_out (ent_out ent_nil)))
theorem Uline_kindsError : uniq ((blocksOf a48.body).map (·.1)) = true := by kernel_rfl
def tline_kindsError (F : FnT) (p0n : Nat) (p0c : List PV) : Option (Int) :=
  bif ((p0n : Int) == (0 : Int)) then
    bif (decide ((p0n : Int) > (4 : Int))) then
      bindO (F 70 (RSh.one CK.bool) [(PV.list p0n p0c), (PV.fn 73 [])]) fun (y0 : (Bool)) =>
      bif y0 then
        bindO (F 32 (RSh.one (CK.int IntKind.i64)) [(PV.list 3 [(PV.int IntKind.i64 (10 : Int)), (PV.int IntKind.i64 (8 : Int)), (PV.int IntKind.i64 (14 : Int))])]) fun (y1 : (Int)) =>
        some y1
      else bindO (F 32 (RSh.one (CK.int IntKind.i64)) [(PV.list 3 [(PV.int IntKind.i64 (10 : Int)), (PV.int IntKind.i64 (8 : Int)), (PV.int IntKind.i64 (0 : Int))])]) fun (y2 : (Int)) =>
      some y2
    else bindO (F 70 (RSh.one CK.bool) [(PV.list p0n p0c), (PV.fn 73 [])]) fun (y3 : (Bool)) =>
    bif y3 then
      bindO (F 32 (RSh.one (CK.int IntKind.i64)) [(PV.list 3 [(PV.int IntKind.i64 (10 : Int)), (PV.int IntKind.i64 (0 : Int)), (PV.int IntKind.i64 (14 : Int))])]) fun (y4 : (Int)) =>
      some y4
    else bindO (F 32 (RSh.one (CK.int IntKind.i64)) [(PV.list 3 [(PV.int IntKind.i64 (10 : Int)), (PV.int IntKind.i64 (0 : Int)), (PV.int IntKind.i64 (0 : Int))])]) fun (y5 : (Int)) =>
    some y5
  else bif (decide ((p0n : Int) > (4 : Int))) then
    bindO (F 70 (RSh.one CK.bool) [(PV.list p0n p0c), (PV.fn 73 [])]) fun (y6 : (Bool)) =>
    bif y6 then
      bindO (F 32 (RSh.one (CK.int IntKind.i64)) [(PV.list 3 [(PV.int IntKind.i64 (0 : Int)), (PV.int IntKind.i64 (8 : Int)), (PV.int IntKind.i64 (14 : Int))])]) fun (y7 : (Int)) =>
      some y7
    else bindO (F 32 (RSh.one (CK.int IntKind.i64)) [(PV.list 3 [(PV.int IntKind.i64 (0 : Int)), (PV.int IntKind.i64 (8 : Int)), (PV.int IntKind.i64 (0 : Int))])]) fun (y8 : (Int)) =>
    some y8
  else bindO (F 70 (RSh.one CK.bool) [(PV.list p0n p0c), (PV.fn 73 [])]) fun (y9 : (Bool)) =>
  bif y9 then
    bindO (F 32 (RSh.one (CK.int IntKind.i64)) [(PV.list 3 [(PV.int IntKind.i64 (0 : Int)), (PV.int IntKind.i64 (0 : Int)), (PV.int IntKind.i64 (14 : Int))])]) fun (y10 : (Int)) =>
    some y10
  else bindO (F 32 (RSh.one (CK.int IntKind.i64)) [(PV.list 3 [(PV.int IntKind.i64 (0 : Int)), (PV.int IntKind.i64 (0 : Int)), (PV.int IntKind.i64 (0 : Int))])]) fun (y11 : (Int)) =>
  some y11
theorem tline_kindsError_eq (F : FnT) (p0n : Nat) (p0c : List PV) : semF (callP F Eline_kindsError 20) s48 (loopT []) 400 a48 [PV.list p0n p0c] (fun rv => decR (RSh.one (CK.int IntKind.i64)) rv.pv) = tline_kindsError F p0n p0c := by kernel_rfl
noncomputable abbrev Fline_kindsError (args : List PV) := Fn env 48 (RSh.one (CK.int IntKind.i64)) args
theorem Fline_kindsError_of  (p0n : Nat) (p0c : List PV) {res : (Int)} (h : tline_kindsError (Fn env) p0n p0c = some res) : Fline_kindsError [PV.list p0n p0c] = some res :=
  fn_of Eline_kindsError_ok rfl rfl lo_nil ((tline_kindsError_eq _ _ _).trans h)

/-! ### line_BestOf -/

def Eline_BestOf : List Entry := [.out 33 (RSh.one (CK.int IntKind.i64)), .out 48 (RSh.one (CK.int IntKind.i64)), .out 32 (RSh.one (CK.int IntKind.i64)), .out 49 (RSh.agg [(CK.int IntKind.i64), (CK.int IntKind.i64), (CK.int IntKind.i64)]), .out 41 (RSh.one CK.bool)]
theorem Eline_BestOf_ok : ∀ e ∈ Eline_BestOf, EntOK env e := (ent_out (ent_out (ent_out (ent_out (ent_out ent_nil)))))
def Tline_BestOf_0a (i0 : Int) (n1 : Nat) (c2 : List PV) (i3 : Int) (i4 : Int) (n5 : Nat) (c6 : List PV) (n7 : Nat) (c8 : List PV) (i9 : Int) (i10 : Int) (i11 : Int) (i12 : Int) (i13 : Int) : Q := ⟨(tm 51 [(2, (AV.loc 2 0)), (5, (AV.loc 5 0)), (8, (AV.p (PV.int IntKind.i64 i0))), (9, (AV.loc 9 0)), (32, (AV.p (PV.list n1 c2))), (33, (AV.p (PV.int IntKind.i64 i3))), (34, (AV.p (PV.int IntKind.i64 i4)))]), (mm 51 [(2, (Bk.cells true [(AV.p (PV.list n5 c6)), (AV.p (PV.list n7 c8)), (AV.p (PV.int IntKind.i64 i9)), (AV.p (PV.int IntKind.i64 i10))])), (5, (Bk.pcs true [(PV.int IntKind.i64 (0 : Int)), (PV.int IntKind.i64 (0 : Int)), (PV.int IntKind.i64 (0 : Int))])), (9, (Bk.pcs true [(PV.int IntKind.i64 i11), (PV.int IntKind.i64 i12), (PV.int IntKind.i64 i13)]))])⟩
def Xline_BestOf_0a (y : Int × Nat × List PV × Nat × List PV × Int × Int × Int × Int × Int) : Ext × Q := (Ext.normal, ⟨(tm 51 [(5, (AV.loc 5 0)), (8, (AV.p (PV.int IntKind.i64 y.1))), (9, (AV.loc 9 0))]), (mm 51 [(2, (Bk.cells true [(AV.p (PV.list y.2.1 y.2.2.1)), (AV.p (PV.list y.2.2.2.1 y.2.2.2.2.1)), (AV.p (PV.int IntKind.i64 y.2.2.2.2.2.1)), (AV.p (PV.int IntKind.i64 y.2.2.2.2.2.2.1))])), (5, (Bk.pcs true [(PV.int IntKind.i64 (0 : Int)), (PV.int IntKind.i64 (0 : Int)), (PV.int IntKind.i64 (0 : Int))])), (9, (Bk.pcs true [(PV.int IntKind.i64 y.2.2.2.2.2.2.2.1), (PV.int IntKind.i64 y.2.2.2.2.2.2.2.2.1), (PV.int IntKind.i64 y.2.2.2.2.2.2.2.2.2)]))])⟩)
def Iline_BestOf_0a (q : Ext × S) : Int × Nat × List PV × Nat × List PV × Int × Int × Int × Int × Int := ((pP_int1 (pA_p (avT q.2 8))), (pP_list0 (pA_p (hdA (pB_cells1 (avM q.2 2))))), (pP_list1 (pA_p (hdA (pB_cells1 (avM q.2 2))))), (pP_list0 (pA_p (hdA (List.tail (pB_cells1 (avM q.2 2)))))), (pP_list1 (pA_p (hdA (List.tail (pB_cells1 (avM q.2 2)))))), (pP_int1 (pA_p (hdA (List.tail (List.tail (pB_cells1 (avM q.2 2))))))), (pP_int1 (pA_p (hdA (List.tail (List.tail (List.tail (pB_cells1 (avM q.2 2)))))))), (pP_int1 (hdP (pB_pcs1 (avM q.2 9)))), (pP_int1 (hdP (List.tail (pB_pcs1 (avM q.2 9))))), (pP_int1 (hdP (List.tail (List.tail (pB_pcs1 (avM q.2 9)))))))
abbrev Yline_BestOf_0 : Type := Int × Nat × List PV × Nat × List PV × Int × Int × Int × Int × Int
def XLline_BestOf_0 : XL Yline_BestOf_0 := .one Xline_BestOf_0a
def Iline_BestOf_0 (q : Ext × S) : Yline_BestOf_0 := (Iline_BestOf_0a q)
theorem XIline_BestOf_0a (y : Int × Nat × List PV × Nat × List PV × Int × Int × Int × Int × Int) : Iline_BestOf_0 (xe (Xline_BestOf_0a y)) = y := rfl
theorem XIline_BestOf_0 (y : Yline_BestOf_0) : Iline_BestOf_0 (xe (XLline_BestOf_0.fn y)) = y := XIline_BestOf_0a y
noncomputable abbrev Lline_BestOf_0 : Q → Option Yline_BestOf_0 := lpO env a12.body 0 XLline_BestOf_0
noncomputable abbrev Rline_BestOf_0 : Q → Option (Ext × S) := lpR env a12.body 0
theorem Lline_BestOf_0a_of {s : Q} {y : Int × Nat × List PV × Nat × List PV × Int × Int × Int × Int × Int} (h : Rline_BestOf_0 s = exO (Xline_BestOf_0a y)) : Lline_BestOf_0 s = some y := lpO_of Iline_BestOf_0 XIline_BestOf_0 (y := y) h
theorem Uline_BestOf : uniq ((blocksOf a12.body).map (·.1)) = true := by kernel_rfl
def Bline_BestOf_0a (F : FnT) (N : Q → Option (Ext × S)) (E : Ext × Q → Option (Ext × S)) (_L0 : Q → Option Yline_BestOf_0) (i0 : Int) (n1 : Nat) (c2 : List PV) (i3 : Int) (i4 : Int) (n5 : Nat) (c6 : List PV) (n7 : Nat) (c8 : List PV) (i9 : Int) (i10 : Int) (i11 : Int) (i12 : Int) (i13 : Int) : Option (Ext × S) :=
  bif (decide (i4 < i3)) then
    bif (decide (((0 : Int) ≤ i4) ∧ (i4 < (n1 : Int)))) then
      bindO (intC IntKind.i64 (c2[((Int.toNat i4) * 1)]?)) fun x0 =>
      bindO (F 49 (RSh.agg [(CK.int IntKind.i64), (CK.int IntKind.i64), (CK.int IntKind.i64)]) [(PV.agg [(PV.list n5 c6), (PV.list n7 c8), (PV.int IntKind.i64 i9), (PV.int IntKind.i64 i10)]), (PV.int IntKind.i64 x0)]) fun (y1 : ((Int) × ((Int) × (Int)))) =>
      bindO (F 41 (RSh.one CK.bool) [(PV.agg [(PV.int IntKind.i64 y1.1), (PV.int IntKind.i64 y1.2.1)]), (PV.agg [(PV.int IntKind.i64 i11), (PV.int IntKind.i64 i12)])]) fun (y2 : (Bool)) =>
      bif y2 then
        N (Tline_BestOf_0a x0 n1 c2 i3 (w64 (i4 + (1 : Int))) n5 c6 n7 c8 i9 i10 y1.1 y1.2.1 y1.2.2)
      else N (Tline_BestOf_0a i0 n1 c2 i3 (w64 (i4 + (1 : Int))) n5 c6 n7 c8 i9 i10 i11 i12 i13)
    else none
  else E (Xline_BestOf_0a (i0, n5, c6, n7, c8, i9, i10, i11, i12, i13))
theorem Bline_BestOf_0a_eq (F : FnT) (N : Q → Option (Ext × S)) (E : Ext × Q → Option (Ext × S)) (L0 : Q → Option Yline_BestOf_0) (i0 : Int) (n1 : Nat) (c2 : List PV) (i3 : Int) (i4 : Int) (n5 : Nat) (c6 : List PV) (n7 : Nat) (c8 : List PV) (i9 : Int) (i10 : Int) (i11 : Int) (i12 : Int) (i13 : Int) : semB (callP F Eline_BestOf 20) s12 (loopT [⟨0, Yline_BestOf_0, L0, XLline_BestOf_0⟩]) 400 (blkIn a12.body 0) N E (Tline_BestOf_0a i0 n1 c2 i3 i4 n5 c6 n7 c8 i9 i10 i11 i12 i13) = Bline_BestOf_0a F N E L0 i0 n1 c2 i3 i4 n5 c6 n7 c8 i9 i10 i11 i12 i13 := by kernel_rfl
theorem Rline_BestOf_0a_of  (i0 : Int) (n1 : Nat) (c2 : List PV) (i3 : Int) (i4 : Int) (n5 : Nat) (c6 : List PV) (n7 : Nat) (c8 : List PV) (i9 : Int) (i10 : Int) (i11 : Int) (i12 : Int) (i13 : Int) {r : Ext × S} (h : Bline_BestOf_0a (Fn env) Rline_BestOf_0 exO Lline_BestOf_0 i0 n1 c2 i3 i4 n5 c6 n7 c8 i9 i10 i11 i12 i13 = some r) : Rline_BestOf_0 (Tline_BestOf_0a i0 n1 c2 i3 i4 n5 c6 n7 c8 i9 i10 i11 i12 i13) = some r :=
  lp_of Eline_BestOf_ok (by kernel_rfl) (lo_cons (lpO_ok Uline_BestOf) lo_nil) (by kernel_rfl) ((Bline_BestOf_0a_eq _ _ _ _ _ _ _ _ _ _ _ _ _ _ _ _ _ _).trans h)
def tline_BestOf (F : FnT) (L0 : Q → Option Yline_BestOf_0) (p0_0n : Nat) (p0_0c : List PV) (p0_1n : Nat) (p0_1c : List PV) (p0_2 : Int) (p0_3 : Int) (p1n : Nat) (p1c : List PV) : Option ((Int) × ((Int) × ((Int) × ((Int) × (Int))))) :=
  bindO (F 33 (RSh.one (CK.int IntKind.i64)) [(PV.agg [(PV.list p0_0n p0_0c), (PV.list p0_1n p0_1c), (PV.int IntKind.i64 p0_2), (PV.int IntKind.i64 p0_3)])]) fun (y0 : (Int)) =>
  bindO (F 48 (RSh.one (CK.int IntKind.i64)) [(PV.list p1n p1c)]) fun (y1 : (Int)) =>
  bindO (F 32 (RSh.one (CK.int IntKind.i64)) [(PV.list 2 [(PV.int IntKind.i64 y0), (PV.int IntKind.i64 y1)])]) fun (y2 : (Int)) =>
  bif (y2 != (0 : Int)) then
    some ((0 : Int), ((0 : Int), ((0 : Int), ((0 : Int), y2))))
  else bif (decide (((0 : Int) ≤ (0 : Int)) ∧ ((0 : Int) < (p1n : Int)))) then
    bindO (intC IntKind.i64 (p1c[0]?)) fun x3 =>
    bif (decide (((0 : Int) ≤ (0 : Int)) ∧ ((0 : Int) < (p1n : Int)))) then
      bindO (intC IntKind.i64 (p1c[0]?)) fun x4 =>
      bindO (F 49 (RSh.agg [(CK.int IntKind.i64), (CK.int IntKind.i64), (CK.int IntKind.i64)]) [(PV.agg [(PV.list p0_0n p0_0c), (PV.list p0_1n p0_1c), (PV.int IntKind.i64 p0_2), (PV.int IntKind.i64 p0_3)]), (PV.int IntKind.i64 x4)]) fun (y5 : ((Int) × ((Int) × (Int)))) =>
      bif (decide (((0 : Int) ≤ (1 : Int)) ∧ ((1 : Int) ≤ ((Prod.mk p1n p1c).1 : Int)))) then
        bif (decide (((Int.toNat (1 : Int)) = (Prod.mk p1n p1c).1) ∨ ((((Int.toNat (1 : Int)) * 1) + (((Prod.mk p1n p1c).1 - (Int.toNat (1 : Int))) * 1)) ≤ (List.length p1c)))) then
          bindO (L0 (Tline_BestOf_0a x3 ((Prod.mk p1n p1c).1 - 1) (List.take (((Prod.mk p1n p1c).1 - 1) * 1) (List.drop 1 p1c)) (((Prod.mk p1n p1c).1 - 1 : Nat) : Int) (0 : Int) p0_0n p0_0c p0_1n p0_1c p0_2 p0_3 y5.1 y5.2.1 y5.2.2)) fun y6 =>
          some (y6.1, (y6.2.2.2.2.2.2.2.1, (y6.2.2.2.2.2.2.2.2.1, (y6.2.2.2.2.2.2.2.2.2, (0 : Int)))))
        else none
      else none
    else none
  else none
theorem tline_BestOf_eq (F : FnT) (L0 : Q → Option Yline_BestOf_0) (p0_0n : Nat) (p0_0c : List PV) (p0_1n : Nat) (p0_1c : List PV) (p0_2 : Int) (p0_3 : Int) (p1n : Nat) (p1c : List PV) : semF (callP F Eline_BestOf 20) s12 (loopT [⟨0, Yline_BestOf_0, L0, XLline_BestOf_0⟩]) 400 a12 [PV.agg [PV.list p0_0n p0_0c, PV.list p0_1n p0_1c, PV.int IntKind.i64 p0_2, PV.int IntKind.i64 p0_3], PV.list p1n p1c] (fun rv => decR (RSh.tup [(Prod.mk false [(CK.int IntKind.i64)]), (Prod.mk true [(CK.int IntKind.i64), (CK.int IntKind.i64), (CK.int IntKind.i64)]), (Prod.mk false [(CK.int IntKind.i64)])]) rv.pv) = tline_BestOf F L0 p0_0n p0_0c p0_1n p0_1c p0_2 p0_3 p1n p1c := by kernel_rfl
noncomputable abbrev Fline_BestOf (args : List PV) := Fn env 12 (RSh.tup [(Prod.mk false [(CK.int IntKind.i64)]), (Prod.mk true [(CK.int IntKind.i64), (CK.int IntKind.i64), (CK.int IntKind.i64)]), (Prod.mk false [(CK.int IntKind.i64)])]) args
theorem Fline_BestOf_of  (p0_0n : Nat) (p0_0c : List PV) (p0_1n : Nat) (p0_1c : List PV) (p0_2 : Int) (p0_3 : Int) (p1n : Nat) (p1c : List PV) {res : ((Int) × ((Int) × ((Int) × ((Int) × (Int)))))} (h : tline_BestOf (Fn env) Lline_BestOf_0 p0_0n p0_0c p0_1n p0_1c p0_2 p0_3 p1n p1c = some res) : Fline_BestOf [PV.agg [PV.list p0_0n p0_0c, PV.list p0_1n p0_1c, PV.int IntKind.i64 p0_2, PV.int IntKind.i64 p0_3], PV.list p1n p1c] = some res :=
  fn_of Eline_BestOf_ok rfl rfl (lo_cons (lpO_ok Uline_BestOf) lo_nil) ((tline_BestOf_eq _ _ _ _ _ _ _ _ _ _).trans h)

/-! ### RfKindsErr -/

def ERfKindsErr : List Entry := [.out 10 (RSh.one (CK.int IntKind.i64))]
theorem ERfKindsErr_ok : ∀ e ∈ ERfKindsErr, EntOK env e := (ent_out ent_nil)
def TRfKindsErr_0a (n0 : Nat) (c1 : List PV) (i2 : Int) : Q := ⟨(tm 25 [(0, (AV.p (PV.list n0 c1))), (3, (AV.p (PV.int IntKind.i64 i2)))]), (mm 25 [])⟩
def XRfKindsErr_0a (y : Int) : Ext × Q := (Ext.ret, ⟨(tm 25 [(2, (AV.p (PV.int IntKind.i64 y)))]), (mm 25 [])⟩)
def IRfKindsErr_0a (q : Ext × S) : Int := (pP_int1 (pA_p (avT q.2 2)))
def XRfKindsErr_0b (_y : Unit) : Ext × Q := (Ext.normal, ⟨(tm 25 []), (mm 25 [])⟩)
def IRfKindsErr_0b (_q : Ext × S) : Unit := ()
abbrev YRfKindsErr_0 : Type := (Int) ⊕ ((Unit))
def XLRfKindsErr_0 : XL YRfKindsErr_0 := .more XRfKindsErr_0a (.one XRfKindsErr_0b)
def IRfKindsErr_0 (q : Ext × S) : YRfKindsErr_0 := bif (cE q.1 == 2) then (Sum.inl (IRfKindsErr_0a q)) else (Sum.inr (IRfKindsErr_0b q))
theorem XIRfKindsErr_0a (y : Int) : IRfKindsErr_0 (xe (XRfKindsErr_0a y)) = (Sum.inl y) := rfl
theorem XIRfKindsErr_0b (y : Unit) : IRfKindsErr_0 (xe (XRfKindsErr_0b y)) = (Sum.inr y) := rfl
theorem XIRfKindsErr_0 (y : YRfKindsErr_0) : IRfKindsErr_0 (xe (XLRfKindsErr_0.fn y)) = y := (match y with | .inl y => XIRfKindsErr_0a y | .inr y => XIRfKindsErr_0b y)
noncomputable abbrev LRfKindsErr_0 : Q → Option YRfKindsErr_0 := lpO env a14.body 0 XLRfKindsErr_0
noncomputable abbrev RRfKindsErr_0 : Q → Option (Ext × S) := lpR env a14.body 0
theorem LRfKindsErr_0a_of {s : Q} {y : Int} (h : RRfKindsErr_0 s = exO (XRfKindsErr_0a y)) : LRfKindsErr_0 s = some (Sum.inl y) := lpO_of IRfKindsErr_0 XIRfKindsErr_0 (y := (Sum.inl y)) h
theorem LRfKindsErr_0b_of {s : Q} {y : Unit} (h : RRfKindsErr_0 s = exO (XRfKindsErr_0b y)) : LRfKindsErr_0 s = some (Sum.inr y) := lpO_of IRfKindsErr_0 XIRfKindsErr_0 (y := (Sum.inr y)) h
theorem URfKindsErr : uniq ((blocksOf a14.body).map (·.1)) = true := by kernel_rfl
def BRfKindsErr_0a (F : FnT) (N : Q → Option (Ext × S)) (E : Ext × Q → Option (Ext × S)) (_L0 : Q → Option YRfKindsErr_0) (n0 : Nat) (c1 : List PV) (i2 : Int) : Option (Ext × S) :=
  bif (decide (i2 < (n0 : Int))) then
    bif (decide (((0 : Int) ≤ i2) ∧ (i2 < (n0 : Int)))) then
      bindO (intC IntKind.i64 (c1[((Int.toNat i2) * 1)]?)) fun x0 =>
      bindO (F 10 (RSh.one (CK.int IntKind.i64)) [(PV.int IntKind.i64 x0)]) fun (y1 : (Int)) =>
      bif (y1 != (0 : Int)) then
        E (XRfKindsErr_0a y1)
      else N (TRfKindsErr_0a n0 c1 (w64 (i2 + (1 : Int))))
    else none
  else E (XRfKindsErr_0b ())
theorem BRfKindsErr_0a_eq (F : FnT) (N : Q → Option (Ext × S)) (E : Ext × Q → Option (Ext × S)) (L0 : Q → Option YRfKindsErr_0) (n0 : Nat) (c1 : List PV) (i2 : Int) : semB (callP F ERfKindsErr 20) s14 (loopT [⟨0, YRfKindsErr_0, L0, XLRfKindsErr_0⟩]) 400 (blkIn a14.body 0) N E (TRfKindsErr_0a n0 c1 i2) = BRfKindsErr_0a F N E L0 n0 c1 i2 := by kernel_rfl
theorem RRfKindsErr_0a_of  (n0 : Nat) (c1 : List PV) (i2 : Int) {r : Ext × S} (h : BRfKindsErr_0a (Fn env) RRfKindsErr_0 exO LRfKindsErr_0 n0 c1 i2 = some r) : RRfKindsErr_0 (TRfKindsErr_0a n0 c1 i2) = some r :=
  lp_of ERfKindsErr_ok (by kernel_rfl) (lo_cons (lpO_ok URfKindsErr) lo_nil) (by kernel_rfl) ((BRfKindsErr_0a_eq _ _ _ _ _ _ _).trans h)
def tRfKindsErr (_F : FnT) (L0 : Q → Option YRfKindsErr_0) (p0n : Nat) (p0c : List PV) : Option (Int) :=
  bif ((p0n : Int) == (0 : Int)) then
    some (10 : Int)
  else bif (decide ((p0n : Int) > (4 : Int))) then
    some (8 : Int)
  else bindO (L0 (TRfKindsErr_0a p0n p0c (0 : Int))) fun z =>
  Sum.elim (fun y0 =>
    some y0) (fun _y1 =>
    some (0 : Int)) z
theorem tRfKindsErr_eq (F : FnT) (L0 : Q → Option YRfKindsErr_0) (p0n : Nat) (p0c : List PV) : semF (callP F ERfKindsErr 20) s14 (loopT [⟨0, YRfKindsErr_0, L0, XLRfKindsErr_0⟩]) 400 a14 [PV.list p0n p0c] (fun rv => decR (RSh.one (CK.int IntKind.i64)) rv.pv) = tRfKindsErr F L0 p0n p0c := by kernel_rfl
noncomputable abbrev FRfKindsErr (args : List PV) := Fn env 14 (RSh.one (CK.int IntKind.i64)) args
theorem FRfKindsErr_of  (p0n : Nat) (p0c : List PV) {res : (Int)} (h : tRfKindsErr (Fn env) LRfKindsErr_0 p0n p0c = some res) : FRfKindsErr [PV.list p0n p0c] = some res :=
  fn_of ERfKindsErr_ok rfl rfl (lo_cons (lpO_ok URfKindsErr) lo_nil) ((tRfKindsErr_eq _ _ _ _).trans h)

/-! ### RfBest -/

def ERfBest : List Entry := [.out 50 (RSh.agg [(CK.int IntKind.i64), (CK.int IntKind.i64), (CK.int IntKind.i64)]), .out 19 (RSh.one (CK.int IntKind.i64))]
theorem ERfBest_ok : ∀ e ∈ ERfBest, EntOK env e := (ent_out (ent_out ent_nil))
def TRfBest_0a (n0 : Nat) (c1 : List PV) (i2 : Int) (i3 : Int) (n4 : Nat) (c5 : List PV) (n6 : Nat) (c7 : List PV) (i8 : Int) (i9 : Int) (i10 : Int) (i11 : Int) (i12 : Int) : Q := ⟨(tm 43 [(1, (AV.p (PV.list n0 c1))), (2, (AV.loc 2 0)), (5, (AV.loc 5 0)), (6, (AV.p (PV.int IntKind.i64 i2))), (7, (AV.loc 7 0)), (8, (AV.p (PV.int IntKind.i64 i3)))]), (mm 43 [(2, (Bk.cells true [(AV.p (PV.list n4 c5)), (AV.p (PV.list n6 c7)), (AV.p (PV.int IntKind.i64 i8)), (AV.p (PV.int IntKind.i64 i9))])), (5, (Bk.pcs true [(PV.int IntKind.i64 (0 : Int)), (PV.int IntKind.i64 (0 : Int)), (PV.int IntKind.i64 (0 : Int))])), (7, (Bk.pcs true [(PV.int IntKind.i64 i10), (PV.int IntKind.i64 i11), (PV.int IntKind.i64 i12)]))])⟩
def XRfBest_0a (y : Int × Nat × List PV × Nat × List PV × Int × Int × Int × Int × Int) : Ext × Q := (Ext.normal, ⟨(tm 43 [(5, (AV.loc 5 0)), (6, (AV.p (PV.int IntKind.i64 y.1))), (7, (AV.loc 7 0))]), (mm 43 [(2, (Bk.cells true [(AV.p (PV.list y.2.1 y.2.2.1)), (AV.p (PV.list y.2.2.2.1 y.2.2.2.2.1)), (AV.p (PV.int IntKind.i64 y.2.2.2.2.2.1)), (AV.p (PV.int IntKind.i64 y.2.2.2.2.2.2.1))])), (5, (Bk.pcs true [(PV.int IntKind.i64 (0 : Int)), (PV.int IntKind.i64 (0 : Int)), (PV.int IntKind.i64 (0 : Int))])), (7, (Bk.pcs true [(PV.int IntKind.i64 y.2.2.2.2.2.2.2.1), (PV.int IntKind.i64 y.2.2.2.2.2.2.2.2.1), (PV.int IntKind.i64 y.2.2.2.2.2.2.2.2.2)]))])⟩)
def IRfBest_0a (q : Ext × S) : Int × Nat × List PV × Nat × List PV × Int × Int × Int × Int × Int := ((pP_int1 (pA_p (avT q.2 6))), (pP_list0 (pA_p (hdA (pB_cells1 (avM q.2 2))))), (pP_list1 (pA_p (hdA (pB_cells1 (avM q.2 2))))), (pP_list0 (pA_p (hdA (List.tail (pB_cells1 (avM q.2 2)))))), (pP_list1 (pA_p (hdA (List.tail (pB_cells1 (avM q.2 2)))))), (pP_int1 (pA_p (hdA (List.tail (List.tail (pB_cells1 (avM q.2 2))))))), (pP_int1 (pA_p (hdA (List.tail (List.tail (List.tail (pB_cells1 (avM q.2 2)))))))), (pP_int1 (hdP (pB_pcs1 (avM q.2 7)))), (pP_int1 (hdP (List.tail (pB_pcs1 (avM q.2 7))))), (pP_int1 (hdP (List.tail (List.tail (pB_pcs1 (avM q.2 7)))))))
abbrev YRfBest_0 : Type := Int × Nat × List PV × Nat × List PV × Int × Int × Int × Int × Int
def XLRfBest_0 : XL YRfBest_0 := .one XRfBest_0a
def IRfBest_0 (q : Ext × S) : YRfBest_0 := (IRfBest_0a q)
theorem XIRfBest_0a (y : Int × Nat × List PV × Nat × List PV × Int × Int × Int × Int × Int) : IRfBest_0 (xe (XRfBest_0a y)) = y := rfl
theorem XIRfBest_0 (y : YRfBest_0) : IRfBest_0 (xe (XLRfBest_0.fn y)) = y := XIRfBest_0a y
noncomputable abbrev LRfBest_0 : Q → Option YRfBest_0 := lpO env a15.body 0 XLRfBest_0
noncomputable abbrev RRfBest_0 : Q → Option (Ext × S) := lpR env a15.body 0
theorem LRfBest_0a_of {s : Q} {y : Int × Nat × List PV × Nat × List PV × Int × Int × Int × Int × Int} (h : RRfBest_0 s = exO (XRfBest_0a y)) : LRfBest_0 s = some y := lpO_of IRfBest_0 XIRfBest_0 (y := y) h
theorem URfBest : uniq ((blocksOf a15.body).map (·.1)) = true := by kernel_rfl
def BRfBest_0a (F : FnT) (N : Q → Option (Ext × S)) (E : Ext × Q → Option (Ext × S)) (_L0 : Q → Option YRfBest_0) (n0 : Nat) (c1 : List PV) (i2 : Int) (i3 : Int) (n4 : Nat) (c5 : List PV) (n6 : Nat) (c7 : List PV) (i8 : Int) (i9 : Int) (i10 : Int) (i11 : Int) (i12 : Int) : Option (Ext × S) :=
  bif (decide (i3 < (n0 : Int))) then
    bif (decide (((0 : Int) ≤ i3) ∧ (i3 < (n0 : Int)))) then
      bindO (intC IntKind.i64 (c1[((Int.toNat i3) * 1)]?)) fun x0 =>
      bindO (F 50 (RSh.agg [(CK.int IntKind.i64), (CK.int IntKind.i64), (CK.int IntKind.i64)]) [(PV.agg [(PV.list n4 c5), (PV.list n6 c7), (PV.int IntKind.i64 i8), (PV.int IntKind.i64 i9)]), (PV.int IntKind.i64 x0)]) fun (y1 : ((Int) × ((Int) × (Int)))) =>
      bindO (F 19 (RSh.one (CK.int IntKind.i64)) [(PV.agg [(PV.int IntKind.i64 y1.1), (PV.int IntKind.i64 y1.2.1)]), (PV.agg [(PV.int IntKind.i64 i10), (PV.int IntKind.i64 i11)])]) fun (y2 : (Int)) =>
      bif (decide (y2 < (0 : Int))) then
        bif (decide (((0 : Int) ≤ i3) ∧ (i3 < (n0 : Int)))) then
          bindO (intC IntKind.i64 (c1[((Int.toNat i3) * 1)]?)) fun x3 =>
          N (TRfBest_0a n0 c1 x3 (w64 (i3 + (1 : Int))) n4 c5 n6 c7 i8 i9 y1.1 y1.2.1 y1.2.2)
        else none
      else N (TRfBest_0a n0 c1 i2 (w64 (i3 + (1 : Int))) n4 c5 n6 c7 i8 i9 i10 i11 i12)
    else none
  else E (XRfBest_0a (i2, n4, c5, n6, c7, i8, i9, i10, i11, i12))
theorem BRfBest_0a_eq (F : FnT) (N : Q → Option (Ext × S)) (E : Ext × Q → Option (Ext × S)) (L0 : Q → Option YRfBest_0) (n0 : Nat) (c1 : List PV) (i2 : Int) (i3 : Int) (n4 : Nat) (c5 : List PV) (n6 : Nat) (c7 : List PV) (i8 : Int) (i9 : Int) (i10 : Int) (i11 : Int) (i12 : Int) : semB (callP F ERfBest 20) s15 (loopT [⟨0, YRfBest_0, L0, XLRfBest_0⟩]) 400 (blkIn a15.body 0) N E (TRfBest_0a n0 c1 i2 i3 n4 c5 n6 c7 i8 i9 i10 i11 i12) = BRfBest_0a F N E L0 n0 c1 i2 i3 n4 c5 n6 c7 i8 i9 i10 i11 i12 := by kernel_rfl
theorem RRfBest_0a_of  (n0 : Nat) (c1 : List PV) (i2 : Int) (i3 : Int) (n4 : Nat) (c5 : List PV) (n6 : Nat) (c7 : List PV) (i8 : Int) (i9 : Int) (i10 : Int) (i11 : Int) (i12 : Int) {r : Ext × S} (h : BRfBest_0a (Fn env) RRfBest_0 exO LRfBest_0 n0 c1 i2 i3 n4 c5 n6 c7 i8 i9 i10 i11 i12 = some r) : RRfBest_0 (TRfBest_0a n0 c1 i2 i3 n4 c5 n6 c7 i8 i9 i10 i11 i12) = some r :=
  lp_of ERfBest_ok (by kernel_rfl) (lo_cons (lpO_ok URfBest) lo_nil) (by kernel_rfl) ((BRfBest_0a_eq _ _ _ _ _ _ _ _ _ _ _ _ _ _ _ _ _).trans h)
def tRfBest (F : FnT) (L0 : Q → Option YRfBest_0) (p0_0n : Nat) (p0_0c : List PV) (p0_1n : Nat) (p0_1c : List PV) (p0_2 : Int) (p0_3 : Int) (p1n : Nat) (p1c : List PV) : Option ((Int) × ((Int) × ((Int) × (Int)))) :=
  bif (decide (((0 : Int) ≤ (0 : Int)) ∧ ((0 : Int) < (p1n : Int)))) then
    bindO (intC IntKind.i64 (p1c[0]?)) fun x0 =>
    bif (decide (((0 : Int) ≤ (0 : Int)) ∧ ((0 : Int) < (p1n : Int)))) then
      bindO (intC IntKind.i64 (p1c[0]?)) fun x1 =>
      bindO (F 50 (RSh.agg [(CK.int IntKind.i64), (CK.int IntKind.i64), (CK.int IntKind.i64)]) [(PV.agg [(PV.list p0_0n p0_0c), (PV.list p0_1n p0_1c), (PV.int IntKind.i64 p0_2), (PV.int IntKind.i64 p0_3)]), (PV.int IntKind.i64 x1)]) fun (y2 : ((Int) × ((Int) × (Int)))) =>
      bindO (L0 (TRfBest_0a p1n p1c x0 (1 : Int) p0_0n p0_0c p0_1n p0_1c p0_2 p0_3 y2.1 y2.2.1 y2.2.2)) fun y3 =>
      some (y3.1, (y3.2.2.2.2.2.2.2.1, (y3.2.2.2.2.2.2.2.2.1, y3.2.2.2.2.2.2.2.2.2)))
    else none
  else none
theorem tRfBest_eq (F : FnT) (L0 : Q → Option YRfBest_0) (p0_0n : Nat) (p0_0c : List PV) (p0_1n : Nat) (p0_1c : List PV) (p0_2 : Int) (p0_3 : Int) (p1n : Nat) (p1c : List PV) : semF (callP F ERfBest 20) s15 (loopT [⟨0, YRfBest_0, L0, XLRfBest_0⟩]) 400 a15 [PV.agg [PV.list p0_0n p0_0c, PV.list p0_1n p0_1c, PV.int IntKind.i64 p0_2, PV.int IntKind.i64 p0_3], PV.list p1n p1c] (fun rv => decR (RSh.tup [(Prod.mk false [(CK.int IntKind.i64)]), (Prod.mk true [(CK.int IntKind.i64), (CK.int IntKind.i64), (CK.int IntKind.i64)])]) rv.pv) = tRfBest F L0 p0_0n p0_0c p0_1n p0_1c p0_2 p0_3 p1n p1c := by kernel_rfl
noncomputable abbrev FRfBest (args : List PV) := Fn env 15 (RSh.tup [(Prod.mk false [(CK.int IntKind.i64)]), (Prod.mk true [(CK.int IntKind.i64), (CK.int IntKind.i64), (CK.int IntKind.i64)])]) args
theorem FRfBest_of  (p0_0n : Nat) (p0_0c : List PV) (p0_1n : Nat) (p0_1c : List PV) (p0_2 : Int) (p0_3 : Int) (p1n : Nat) (p1c : List PV) {res : ((Int) × ((Int) × ((Int) × (Int))))} (h : tRfBest (Fn env) LRfBest_0 p0_0n p0_0c p0_1n p0_1c p0_2 p0_3 p1n p1c = some res) : FRfBest [PV.agg [PV.list p0_0n p0_0c, PV.list p0_1n p0_1c, PV.int IntKind.i64 p0_2, PV.int IntKind.i64 p0_3], PV.list p1n p1c] = some res :=
  fn_of ERfBest_ok rfl rfl (lo_cons (lpO_ok URfBest) lo_nil) ((tRfBest_eq _ _ _ _ _ _ _ _ _ _).trans h)

/-! ### LwLineBest -/

def ELwLineBest : List Entry := [.out 5 (RSh.one CK.bool), .out 6 (RSh.one CK.bool), .out 8 (RSh.agg [CK.list, CK.list, (CK.int IntKind.i64), (CK.int IntKind.i64)]), .out 13 (RSh.one CK.list), .out 12 (RSh.tup [(Prod.mk false [(CK.int IntKind.i64)]), (Prod.mk true [(CK.int IntKind.i64), (CK.int IntKind.i64), (CK.int IntKind.i64)]), (Prod.mk false [(CK.int IntKind.i64)])]), .out 9 (RSh.one (CK.int IntKind.i64)), .out 14 (RSh.one (CK.int IntKind.i64)), .out 15 (RSh.tup [(Prod.mk false [(CK.int IntKind.i64)]), (Prod.mk true [(CK.int IntKind.i64), (CK.int IntKind.i64), (CK.int IntKind.i64)])]), .out 16 (RSh.tup [(Prod.mk true [(CK.int IntKind.i64), (CK.int IntKind.i64), (CK.int IntKind.i64)]), (Prod.mk false [(CK.int IntKind.i64)])]), .out 17 (RSh.one CK.bool), .out 18 (RSh.one CK.bool), .out 19 (RSh.one (CK.int IntKind.i64))]
theorem ELwLineBest_ok : ∀ e ∈ ELwLineBest, EntOK env e := (ent_out (ent_out (ent_out (ent_out (ent_out (ent_out (ent_out (ent_out (ent_out (ent_out (ent_out (ent_out ent_nil))))))))))))
def TLwLineBest_0a (n0 : Nat) (c1 : List PV) (i2 : Int) (b3 : Bool) (i4 : Int) (n5 : Nat) (c6 : List PV) (n7 : Nat) (c8 : List PV) (i9 : Int) (i10 : Int) (i11 : Int) (i12 : Int) (i13 : Int) : Q := ⟨(tm 128 [(1, (AV.p (PV.list n0 c1))), (2, (AV.loc 2 0)), (5, (AV.p (PV.int IntKind.i64 i2))), (6, (AV.loc 6 0)), (11, (AV.p (PV.bool b3))), (12, (AV.p (PV.int IntKind.i64 i4)))]), (mm 128 [(2, (Bk.cells true [(AV.p (PV.list n5 c6)), (AV.p (PV.list n7 c8)), (AV.p (PV.int IntKind.i64 i9)), (AV.p (PV.int IntKind.i64 i10))])), (6, (Bk.pcs true [(PV.int IntKind.i64 i11), (PV.int IntKind.i64 i12), (PV.int IntKind.i64 i13)]))])⟩
def XLwLineBest_0a (y : Bool × Nat × List PV × Nat × List PV × Int × Int × Int × Int × Int) : Ext × Q := (Ext.normal, ⟨(tm 128 [(11, (AV.p (PV.bool y.1)))]), (mm 128 [(2, (Bk.cells true [(AV.p (PV.list y.2.1 y.2.2.1)), (AV.p (PV.list y.2.2.2.1 y.2.2.2.2.1)), (AV.p (PV.int IntKind.i64 y.2.2.2.2.2.1)), (AV.p (PV.int IntKind.i64 y.2.2.2.2.2.2.1))])), (6, (Bk.pcs true [(PV.int IntKind.i64 y.2.2.2.2.2.2.2.1), (PV.int IntKind.i64 y.2.2.2.2.2.2.2.2.1), (PV.int IntKind.i64 y.2.2.2.2.2.2.2.2.2)]))])⟩)
def ILwLineBest_0a (q : Ext × S) : Bool × Nat × List PV × Nat × List PV × Int × Int × Int × Int × Int := ((pP_bool0 (pA_p (avT q.2 11))), (pP_list0 (pA_p (hdA (pB_cells1 (avM q.2 2))))), (pP_list1 (pA_p (hdA (pB_cells1 (avM q.2 2))))), (pP_list0 (pA_p (hdA (List.tail (pB_cells1 (avM q.2 2)))))), (pP_list1 (pA_p (hdA (List.tail (pB_cells1 (avM q.2 2)))))), (pP_int1 (pA_p (hdA (List.tail (List.tail (pB_cells1 (avM q.2 2))))))), (pP_int1 (pA_p (hdA (List.tail (List.tail (List.tail (pB_cells1 (avM q.2 2)))))))), (pP_int1 (hdP (pB_pcs1 (avM q.2 6)))), (pP_int1 (hdP (List.tail (pB_pcs1 (avM q.2 6))))), (pP_int1 (hdP (List.tail (List.tail (pB_pcs1 (avM q.2 6)))))))
def XLwLineBest_0b (_y : Unit) : Ext × Q := (Ext.ret, ⟨(tm 128 [(4, (AV.p (PV.bool false)))]), (mm 128 [])⟩)
def ILwLineBest_0b (_q : Ext × S) : Unit := ()
abbrev YLwLineBest_0 : Type := (Bool × Nat × List PV × Nat × List PV × Int × Int × Int × Int × Int) ⊕ ((Unit))
def XLLwLineBest_0 : XL YLwLineBest_0 := .more XLwLineBest_0a (.one XLwLineBest_0b)
def ILwLineBest_0 (q : Ext × S) : YLwLineBest_0 := bif (cE q.1 == 0) then (Sum.inl (ILwLineBest_0a q)) else (Sum.inr (ILwLineBest_0b q))
theorem XILwLineBest_0a (y : Bool × Nat × List PV × Nat × List PV × Int × Int × Int × Int × Int) : ILwLineBest_0 (xe (XLwLineBest_0a y)) = (Sum.inl y) := rfl
theorem XILwLineBest_0b (y : Unit) : ILwLineBest_0 (xe (XLwLineBest_0b y)) = (Sum.inr y) := rfl
theorem XILwLineBest_0 (y : YLwLineBest_0) : ILwLineBest_0 (xe (XLLwLineBest_0.fn y)) = y := (match y with | .inl y => XILwLineBest_0a y | .inr y => XILwLineBest_0b y)
noncomputable abbrev LLwLineBest_0 : Q → Option YLwLineBest_0 := lpO env a4.body 0 XLLwLineBest_0
noncomputable abbrev RLwLineBest_0 : Q → Option (Ext × S) := lpR env a4.body 0
theorem LLwLineBest_0a_of {s : Q} {y : Bool × Nat × List PV × Nat × List PV × Int × Int × Int × Int × Int} (h : RLwLineBest_0 s = exO (XLwLineBest_0a y)) : LLwLineBest_0 s = some (Sum.inl y) := lpO_of ILwLineBest_0 XILwLineBest_0 (y := (Sum.inl y)) h
theorem LLwLineBest_0b_of {s : Q} {y : Unit} (h : RLwLineBest_0 s = exO (XLwLineBest_0b y)) : LLwLineBest_0 s = some (Sum.inr y) := lpO_of ILwLineBest_0 XILwLineBest_0 (y := (Sum.inr y)) h
def TLwLineBest_1000065a (n0 : Nat) (c1 : List PV) (n2 : Nat) (c3 : List PV) (n4 : Nat) (c5 : List PV) (i6 : Int) (i7 : Int) : Q := ⟨(tm 128 [(1, (AV.p (PV.list n0 c1))), (2, (AV.loc 2 0))]), (mm 128 [(2, (Bk.cells true [(AV.p (PV.list n2 c3)), (AV.p (PV.list n4 c5)), (AV.p (PV.int IntKind.i64 i6)), (AV.p (PV.int IntKind.i64 i7))]))])⟩
def XLwLineBest_1000065a (_y : Unit) : Ext × Q := (Ext.ret, ⟨(tm 128 [(4, (AV.p (PV.bool true)))]), (mm 128 [])⟩)
def ILwLineBest_1000065a (_q : Ext × S) : Unit := ()
def XLwLineBest_1000065b (y : Nat × List PV × Nat × List PV × Nat × List PV × Int × Int) : Ext × Q := (Ext.normal, ⟨(tm 128 [(1, (AV.p (PV.list y.1 y.2.1))), (2, (AV.loc 2 0))]), (mm 128 [(2, (Bk.cells true [(AV.p (PV.list y.2.2.1 y.2.2.2.1)), (AV.p (PV.list y.2.2.2.2.1 y.2.2.2.2.2.1)), (AV.p (PV.int IntKind.i64 y.2.2.2.2.2.2.1)), (AV.p (PV.int IntKind.i64 y.2.2.2.2.2.2.2))]))])⟩)
def ILwLineBest_1000065b (q : Ext × S) : Nat × List PV × Nat × List PV × Nat × List PV × Int × Int := ((pP_list0 (pA_p (avT q.2 1))), (pP_list1 (pA_p (avT q.2 1))), (pP_list0 (pA_p (hdA (pB_cells1 (avM q.2 2))))), (pP_list1 (pA_p (hdA (pB_cells1 (avM q.2 2))))), (pP_list0 (pA_p (hdA (List.tail (pB_cells1 (avM q.2 2)))))), (pP_list1 (pA_p (hdA (List.tail (pB_cells1 (avM q.2 2)))))), (pP_int1 (pA_p (hdA (List.tail (List.tail (pB_cells1 (avM q.2 2))))))), (pP_int1 (pA_p (hdA (List.tail (List.tail (List.tail (pB_cells1 (avM q.2 2)))))))))
abbrev YLwLineBest_1000065 : Type := (Unit) ⊕ ((Nat × List PV × Nat × List PV × Nat × List PV × Int × Int))
def XLLwLineBest_1000065 : XL YLwLineBest_1000065 := .more XLwLineBest_1000065a (.one XLwLineBest_1000065b)
def ILwLineBest_1000065 (q : Ext × S) : YLwLineBest_1000065 := bif (cE q.1 == 2) then (Sum.inl (ILwLineBest_1000065a q)) else (Sum.inr (ILwLineBest_1000065b q))
theorem XILwLineBest_1000065a (y : Unit) : ILwLineBest_1000065 (xe (XLwLineBest_1000065a y)) = (Sum.inl y) := rfl
theorem XILwLineBest_1000065b (y : Nat × List PV × Nat × List PV × Nat × List PV × Int × Int) : ILwLineBest_1000065 (xe (XLwLineBest_1000065b y)) = (Sum.inr y) := rfl
theorem XILwLineBest_1000065 (y : YLwLineBest_1000065) : ILwLineBest_1000065 (xe (XLLwLineBest_1000065.fn y)) = y := (match y with | .inl y => XILwLineBest_1000065a y | .inr y => XILwLineBest_1000065b y)
noncomputable abbrev LLwLineBest_1000065 : Q → Option YLwLineBest_1000065 := lpO env a4.body 1000065 XLLwLineBest_1000065
noncomputable abbrev RLwLineBest_1000065 : Q → Option (Ext × S) := lpR env a4.body 1000065
theorem LLwLineBest_1000065a_of {s : Q} {y : Unit} (h : RLwLineBest_1000065 s = exO (XLwLineBest_1000065a y)) : LLwLineBest_1000065 s = some (Sum.inl y) := lpO_of ILwLineBest_1000065 XILwLineBest_1000065 (y := (Sum.inl y)) h
theorem LLwLineBest_1000065b_of {s : Q} {y : Nat × List PV × Nat × List PV × Nat × List PV × Int × Int} (h : RLwLineBest_1000065 s = exO (XLwLineBest_1000065b y)) : LLwLineBest_1000065 s = some (Sum.inr y) := lpO_of ILwLineBest_1000065 XILwLineBest_1000065 (y := (Sum.inr y)) h
def TLwLineBest_1000054a (n0 : Nat) (c1 : List PV) (i2 : Int) (i3 : Int) (i4 : Int) (n5 : Nat) (c6 : List PV) (n7 : Nat) (c8 : List PV) (i9 : Int) (i10 : Int) (i11 : Int) (i12 : Int) (i13 : Int) : Q := ⟨(tm 128 [(1, (AV.p (PV.list n0 c1))), (2, (AV.loc 2 0)), (5, (AV.p (PV.int IntKind.i64 i2))), (6, (AV.loc 6 0)), (7, (AV.p (PV.int IntKind.i64 i3))), (8, (AV.p (PV.int IntKind.i64 i4)))]), (mm 128 [(2, (Bk.cells true [(AV.p (PV.list n5 c6)), (AV.p (PV.list n7 c8)), (AV.p (PV.int IntKind.i64 i9)), (AV.p (PV.int IntKind.i64 i10))])), (6, (Bk.pcs true [(PV.int IntKind.i64 i11), (PV.int IntKind.i64 i12), (PV.int IntKind.i64 i13)]))])⟩
def XLwLineBest_1000054a (y : Nat × List PV × Int × Int × Int × Nat × List PV × Nat × List PV × Int × Int × Int × Int × Int) : Ext × Q := (Ext.normal, ⟨(tm 128 [(1, (AV.p (PV.list y.1 y.2.1))), (2, (AV.loc 2 0)), (5, (AV.p (PV.int IntKind.i64 y.2.2.1))), (6, (AV.loc 6 0)), (7, (AV.p (PV.int IntKind.i64 y.2.2.2.1))), (8, (AV.p (PV.int IntKind.i64 y.2.2.2.2.1)))]), (mm 128 [(2, (Bk.cells true [(AV.p (PV.list y.2.2.2.2.2.1 y.2.2.2.2.2.2.1)), (AV.p (PV.list y.2.2.2.2.2.2.2.1 y.2.2.2.2.2.2.2.2.1)), (AV.p (PV.int IntKind.i64 y.2.2.2.2.2.2.2.2.2.1)), (AV.p (PV.int IntKind.i64 y.2.2.2.2.2.2.2.2.2.2.1))])), (6, (Bk.pcs true [(PV.int IntKind.i64 y.2.2.2.2.2.2.2.2.2.2.2.1), (PV.int IntKind.i64 y.2.2.2.2.2.2.2.2.2.2.2.2.1), (PV.int IntKind.i64 y.2.2.2.2.2.2.2.2.2.2.2.2.2)]))])⟩)
def ILwLineBest_1000054a (q : Ext × S) : Nat × List PV × Int × Int × Int × Nat × List PV × Nat × List PV × Int × Int × Int × Int × Int := ((pP_list0 (pA_p (avT q.2 1))), (pP_list1 (pA_p (avT q.2 1))), (pP_int1 (pA_p (avT q.2 5))), (pP_int1 (pA_p (avT q.2 7))), (pP_int1 (pA_p (avT q.2 8))), (pP_list0 (pA_p (hdA (pB_cells1 (avM q.2 2))))), (pP_list1 (pA_p (hdA (pB_cells1 (avM q.2 2))))), (pP_list0 (pA_p (hdA (List.tail (pB_cells1 (avM q.2 2)))))), (pP_list1 (pA_p (hdA (List.tail (pB_cells1 (avM q.2 2)))))), (pP_int1 (pA_p (hdA (List.tail (List.tail (pB_cells1 (avM q.2 2))))))), (pP_int1 (pA_p (hdA (List.tail (List.tail (List.tail (pB_cells1 (avM q.2 2)))))))), (pP_int1 (hdP (pB_pcs1 (avM q.2 6)))), (pP_int1 (hdP (List.tail (pB_pcs1 (avM q.2 6))))), (pP_int1 (hdP (List.tail (List.tail (pB_pcs1 (avM q.2 6)))))))
abbrev YLwLineBest_1000054 : Type := Nat × List PV × Int × Int × Int × Nat × List PV × Nat × List PV × Int × Int × Int × Int × Int
def XLLwLineBest_1000054 : XL YLwLineBest_1000054 := .one XLwLineBest_1000054a
def ILwLineBest_1000054 (q : Ext × S) : YLwLineBest_1000054 := (ILwLineBest_1000054a q)
theorem XILwLineBest_1000054a (y : Nat × List PV × Int × Int × Int × Nat × List PV × Nat × List PV × Int × Int × Int × Int × Int) : ILwLineBest_1000054 (xe (XLwLineBest_1000054a y)) = y := rfl
theorem XILwLineBest_1000054 (y : YLwLineBest_1000054) : ILwLineBest_1000054 (xe (XLLwLineBest_1000054.fn y)) = y := XILwLineBest_1000054a y
noncomputable abbrev LLwLineBest_1000054 : Q → Option YLwLineBest_1000054 := lpO env a4.body 1000054 XLLwLineBest_1000054
noncomputable abbrev RLwLineBest_1000054 : Q → Option (Ext × S) := lpR env a4.body 1000054
theorem LLwLineBest_1000054a_of {s : Q} {y : Nat × List PV × Int × Int × Int × Nat × List PV × Nat × List PV × Int × Int × Int × Int × Int} (h : RLwLineBest_1000054 s = exO (XLwLineBest_1000054a y)) : LLwLineBest_1000054 s = some y := lpO_of ILwLineBest_1000054 XILwLineBest_1000054 (y := y) h
def TLwLineBest_1000041a (n0 : Nat) (c1 : List PV) (i2 : Int) (i3 : Int) (i4 : Int) (n5 : Nat) (c6 : List PV) (n7 : Nat) (c8 : List PV) (i9 : Int) (i10 : Int) (i11 : Int) (i12 : Int) (i13 : Int) (i14 : Int) (i15 : Int) (i16 : Int) : Q := ⟨(tm 128 [(1, (AV.p (PV.list n0 c1))), (2, (AV.loc 2 0)), (5, (AV.p (PV.int IntKind.i64 i2))), (6, (AV.loc 6 0)), (7, (AV.p (PV.int IntKind.i64 i3))), (9, (AV.p (PV.int IntKind.i64 i4))), (10, (AV.loc 10 0))]), (mm 128 [(2, (Bk.cells true [(AV.p (PV.list n5 c6)), (AV.p (PV.list n7 c8)), (AV.p (PV.int IntKind.i64 i9)), (AV.p (PV.int IntKind.i64 i10))])), (6, (Bk.pcs true [(PV.int IntKind.i64 i11), (PV.int IntKind.i64 i12), (PV.int IntKind.i64 i13)])), (10, (Bk.pcs true [(PV.int IntKind.i64 i14), (PV.int IntKind.i64 i15), (PV.int IntKind.i64 i16)]))])⟩
def XLwLineBest_1000041a (_y : Unit) : Ext × Q := (Ext.ret, ⟨(tm 128 [(4, (AV.p (PV.bool false)))]), (mm 128 [])⟩)
def ILwLineBest_1000041a (_q : Ext × S) : Unit := ()
def XLwLineBest_1000041b (y : Nat × List PV × Int × Nat × List PV × Nat × List PV × Int × Int × Int × Int × Int) : Ext × Q := (Ext.normal, ⟨(tm 128 [(1, (AV.p (PV.list y.1 y.2.1))), (2, (AV.loc 2 0)), (5, (AV.p (PV.int IntKind.i64 y.2.2.1))), (6, (AV.loc 6 0))]), (mm 128 [(2, (Bk.cells true [(AV.p (PV.list y.2.2.2.1 y.2.2.2.2.1)), (AV.p (PV.list y.2.2.2.2.2.1 y.2.2.2.2.2.2.1)), (AV.p (PV.int IntKind.i64 y.2.2.2.2.2.2.2.1)), (AV.p (PV.int IntKind.i64 y.2.2.2.2.2.2.2.2.1))])), (6, (Bk.pcs true [(PV.int IntKind.i64 y.2.2.2.2.2.2.2.2.2.1), (PV.int IntKind.i64 y.2.2.2.2.2.2.2.2.2.2.1), (PV.int IntKind.i64 y.2.2.2.2.2.2.2.2.2.2.2)]))])⟩)
def ILwLineBest_1000041b (q : Ext × S) : Nat × List PV × Int × Nat × List PV × Nat × List PV × Int × Int × Int × Int × Int := ((pP_list0 (pA_p (avT q.2 1))), (pP_list1 (pA_p (avT q.2 1))), (pP_int1 (pA_p (avT q.2 5))), (pP_list0 (pA_p (hdA (pB_cells1 (avM q.2 2))))), (pP_list1 (pA_p (hdA (pB_cells1 (avM q.2 2))))), (pP_list0 (pA_p (hdA (List.tail (pB_cells1 (avM q.2 2)))))), (pP_list1 (pA_p (hdA (List.tail (pB_cells1 (avM q.2 2)))))), (pP_int1 (pA_p (hdA (List.tail (List.tail (pB_cells1 (avM q.2 2))))))), (pP_int1 (pA_p (hdA (List.tail (List.tail (List.tail (pB_cells1 (avM q.2 2)))))))), (pP_int1 (hdP (pB_pcs1 (avM q.2 6)))), (pP_int1 (hdP (List.tail (pB_pcs1 (avM q.2 6))))), (pP_int1 (hdP (List.tail (List.tail (pB_pcs1 (avM q.2 6)))))))
abbrev YLwLineBest_1000041 : Type := (Unit) ⊕ ((Nat × List PV × Int × Nat × List PV × Nat × List PV × Int × Int × Int × Int × Int))
def XLLwLineBest_1000041 : XL YLwLineBest_1000041 := .more XLwLineBest_1000041a (.one XLwLineBest_1000041b)
def ILwLineBest_1000041 (q : Ext × S) : YLwLineBest_1000041 := bif (cE q.1 == 2) then (Sum.inl (ILwLineBest_1000041a q)) else (Sum.inr (ILwLineBest_1000041b q))
theorem XILwLineBest_1000041a (y : Unit) : ILwLineBest_1000041 (xe (XLwLineBest_1000041a y)) = (Sum.inl y) := rfl
theorem XILwLineBest_1000041b (y : Nat × List PV × Int × Nat × List PV × Nat × List PV × Int × Int × Int × Int × Int) : ILwLineBest_1000041 (xe (XLwLineBest_1000041b y)) = (Sum.inr y) := rfl
theorem XILwLineBest_1000041 (y : YLwLineBest_1000041) : ILwLineBest_1000041 (xe (XLLwLineBest_1000041.fn y)) = y := (match y with | .inl y => XILwLineBest_1000041a y | .inr y => XILwLineBest_1000041b y)
noncomputable abbrev LLwLineBest_1000041 : Q → Option YLwLineBest_1000041 := lpO env a4.body 1000041 XLLwLineBest_1000041
noncomputable abbrev RLwLineBest_1000041 : Q → Option (Ext × S) := lpR env a4.body 1000041
theorem LLwLineBest_1000041a_of {s : Q} {y : Unit} (h : RLwLineBest_1000041 s = exO (XLwLineBest_1000041a y)) : LLwLineBest_1000041 s = some (Sum.inl y) := lpO_of ILwLineBest_1000041 XILwLineBest_1000041 (y := (Sum.inl y)) h
theorem LLwLineBest_1000041b_of {s : Q} {y : Nat × List PV × Int × Nat × List PV × Nat × List PV × Int × Int × Int × Int × Int} (h : RLwLineBest_1000041 s = exO (XLwLineBest_1000041b y)) : LLwLineBest_1000041 s = some (Sum.inr y) := lpO_of ILwLineBest_1000041 XILwLineBest_1000041 (y := (Sum.inr y)) h
def TLwLineBest_1000022a (n0 : Nat) (c1 : List PV) (i2 : Int) (b3 : Bool) (i4 : Int) (n5 : Nat) (c6 : List PV) (n7 : Nat) (c8 : List PV) (i9 : Int) (i10 : Int) (i11 : Int) (i12 : Int) (i13 : Int) : Q := ⟨(tm 128 [(1, (AV.p (PV.list n0 c1))), (2, (AV.loc 2 0)), (5, (AV.p (PV.int IntKind.i64 i2))), (6, (AV.loc 6 0)), (11, (AV.p (PV.bool b3))), (12, (AV.p (PV.int IntKind.i64 i4)))]), (mm 128 [(2, (Bk.cells true [(AV.p (PV.list n5 c6)), (AV.p (PV.list n7 c8)), (AV.p (PV.int IntKind.i64 i9)), (AV.p (PV.int IntKind.i64 i10))])), (6, (Bk.pcs true [(PV.int IntKind.i64 i11), (PV.int IntKind.i64 i12), (PV.int IntKind.i64 i13)]))])⟩
def XLwLineBest_1000022a (_y : Unit) : Ext × Q := (Ext.ret, ⟨(tm 128 [(4, (AV.p (PV.bool false)))]), (mm 128 [])⟩)
def ILwLineBest_1000022a (_q : Ext × S) : Unit := ()
def XLwLineBest_1000022b (y : Nat × List PV × Int × Bool × Int × Nat × List PV × Nat × List PV × Int × Int × Int × Int × Int) : Ext × Q := (Ext.normal, ⟨(tm 128 [(1, (AV.p (PV.list y.1 y.2.1))), (2, (AV.loc 2 0)), (5, (AV.p (PV.int IntKind.i64 y.2.2.1))), (6, (AV.loc 6 0)), (11, (AV.p (PV.bool y.2.2.2.1))), (12, (AV.p (PV.int IntKind.i64 y.2.2.2.2.1)))]), (mm 128 [(2, (Bk.cells true [(AV.p (PV.list y.2.2.2.2.2.1 y.2.2.2.2.2.2.1)), (AV.p (PV.list y.2.2.2.2.2.2.2.1 y.2.2.2.2.2.2.2.2.1)), (AV.p (PV.int IntKind.i64 y.2.2.2.2.2.2.2.2.2.1)), (AV.p (PV.int IntKind.i64 y.2.2.2.2.2.2.2.2.2.2.1))])), (6, (Bk.pcs true [(PV.int IntKind.i64 y.2.2.2.2.2.2.2.2.2.2.2.1), (PV.int IntKind.i64 y.2.2.2.2.2.2.2.2.2.2.2.2.1), (PV.int IntKind.i64 y.2.2.2.2.2.2.2.2.2.2.2.2.2)]))])⟩)
def ILwLineBest_1000022b (q : Ext × S) : Nat × List PV × Int × Bool × Int × Nat × List PV × Nat × List PV × Int × Int × Int × Int × Int := ((pP_list0 (pA_p (avT q.2 1))), (pP_list1 (pA_p (avT q.2 1))), (pP_int1 (pA_p (avT q.2 5))), (pP_bool0 (pA_p (avT q.2 11))), (pP_int1 (pA_p (avT q.2 12))), (pP_list0 (pA_p (hdA (pB_cells1 (avM q.2 2))))), (pP_list1 (pA_p (hdA (pB_cells1 (avM q.2 2))))), (pP_list0 (pA_p (hdA (List.tail (pB_cells1 (avM q.2 2)))))), (pP_list1 (pA_p (hdA (List.tail (pB_cells1 (avM q.2 2)))))), (pP_int1 (pA_p (hdA (List.tail (List.tail (pB_cells1 (avM q.2 2))))))), (pP_int1 (pA_p (hdA (List.tail (List.tail (List.tail (pB_cells1 (avM q.2 2)))))))), (pP_int1 (hdP (pB_pcs1 (avM q.2 6)))), (pP_int1 (hdP (List.tail (pB_pcs1 (avM q.2 6))))), (pP_int1 (hdP (List.tail (List.tail (pB_pcs1 (avM q.2 6)))))))
abbrev YLwLineBest_1000022 : Type := (Unit) ⊕ ((Nat × List PV × Int × Bool × Int × Nat × List PV × Nat × List PV × Int × Int × Int × Int × Int))
def XLLwLineBest_1000022 : XL YLwLineBest_1000022 := .more XLwLineBest_1000022a (.one XLwLineBest_1000022b)
def ILwLineBest_1000022 (q : Ext × S) : YLwLineBest_1000022 := bif (cE q.1 == 2) then (Sum.inl (ILwLineBest_1000022a q)) else (Sum.inr (ILwLineBest_1000022b q))
theorem XILwLineBest_1000022a (y : Unit) : ILwLineBest_1000022 (xe (XLwLineBest_1000022a y)) = (Sum.inl y) := rfl
theorem XILwLineBest_1000022b (y : Nat × List PV × Int × Bool × Int × Nat × List PV × Nat × List PV × Int × Int × Int × Int × Int) : ILwLineBest_1000022 (xe (XLwLineBest_1000022b y)) = (Sum.inr y) := rfl
theorem XILwLineBest_1000022 (y : YLwLineBest_1000022) : ILwLineBest_1000022 (xe (XLLwLineBest_1000022.fn y)) = y := (match y with | .inl y => XILwLineBest_1000022a y | .inr y => XILwLineBest_1000022b y)
noncomputable abbrev LLwLineBest_1000022 : Q → Option YLwLineBest_1000022 := lpO env a4.body 1000022 XLLwLineBest_1000022
noncomputable abbrev RLwLineBest_1000022 : Q → Option (Ext × S) := lpR env a4.body 1000022
theorem LLwLineBest_1000022a_of {s : Q} {y : Unit} (h : RLwLineBest_1000022 s = exO (XLwLineBest_1000022a y)) : LLwLineBest_1000022 s = some (Sum.inl y) := lpO_of ILwLineBest_1000022 XILwLineBest_1000022 (y := (Sum.inl y)) h
theorem LLwLineBest_1000022b_of {s : Q} {y : Nat × List PV × Int × Bool × Int × Nat × List PV × Nat × List PV × Int × Int × Int × Int × Int} (h : RLwLineBest_1000022 s = exO (XLwLineBest_1000022b y)) : LLwLineBest_1000022 s = some (Sum.inr y) := lpO_of ILwLineBest_1000022 XILwLineBest_1000022 (y := (Sum.inr y)) h
def TLwLineBest_1000017a (n0 : Nat) (c1 : List PV) (i2 : Int) (b3 : Bool) (i4 : Int) (i5 : Int) (n6 : Nat) (c7 : List PV) (n8 : Nat) (c9 : List PV) (i10 : Int) (i11 : Int) (i12 : Int) (i13 : Int) (i14 : Int) (i15 : Int) (i16 : Int) (i17 : Int) : Q := ⟨(tm 128 [(1, (AV.p (PV.list n0 c1))), (2, (AV.loc 2 0)), (5, (AV.p (PV.int IntKind.i64 i2))), (6, (AV.loc 6 0)), (11, (AV.p (PV.bool b3))), (12, (AV.p (PV.int IntKind.i64 i4))), (13, (AV.loc 13 0)), (14, (AV.p (PV.int IntKind.i64 i5)))]), (mm 128 [(2, (Bk.cells true [(AV.p (PV.list n6 c7)), (AV.p (PV.list n8 c9)), (AV.p (PV.int IntKind.i64 i10)), (AV.p (PV.int IntKind.i64 i11))])), (6, (Bk.pcs true [(PV.int IntKind.i64 i12), (PV.int IntKind.i64 i13), (PV.int IntKind.i64 i14)])), (13, (Bk.pcs true [(PV.int IntKind.i64 i15), (PV.int IntKind.i64 i16), (PV.int IntKind.i64 i17)]))])⟩
def XLwLineBest_1000017a (_y : Unit) : Ext × Q := (Ext.ret, ⟨(tm 128 [(4, (AV.p (PV.bool false)))]), (mm 128 [])⟩)
def ILwLineBest_1000017a (_q : Ext × S) : Unit := ()
def XLwLineBest_1000017b (y : Nat × List PV × Int × Bool × Int × Nat × List PV × Nat × List PV × Int × Int × Int × Int × Int × Int × Int × Int) : Ext × Q := (Ext.normal, ⟨(tm 128 [(1, (AV.p (PV.list y.1 y.2.1))), (2, (AV.loc 2 0)), (5, (AV.p (PV.int IntKind.i64 y.2.2.1))), (6, (AV.loc 6 0)), (11, (AV.p (PV.bool y.2.2.2.1))), (12, (AV.p (PV.int IntKind.i64 y.2.2.2.2.1))), (13, (AV.loc 13 0))]), (mm 128 [(2, (Bk.cells true [(AV.p (PV.list y.2.2.2.2.2.1 y.2.2.2.2.2.2.1)), (AV.p (PV.list y.2.2.2.2.2.2.2.1 y.2.2.2.2.2.2.2.2.1)), (AV.p (PV.int IntKind.i64 y.2.2.2.2.2.2.2.2.2.1)), (AV.p (PV.int IntKind.i64 y.2.2.2.2.2.2.2.2.2.2.1))])), (6, (Bk.pcs true [(PV.int IntKind.i64 y.2.2.2.2.2.2.2.2.2.2.2.1), (PV.int IntKind.i64 y.2.2.2.2.2.2.2.2.2.2.2.2.1), (PV.int IntKind.i64 y.2.2.2.2.2.2.2.2.2.2.2.2.2.1)])), (13, (Bk.pcs true [(PV.int IntKind.i64 y.2.2.2.2.2.2.2.2.2.2.2.2.2.2.1), (PV.int IntKind.i64 y.2.2.2.2.2.2.2.2.2.2.2.2.2.2.2.1), (PV.int IntKind.i64 y.2.2.2.2.2.2.2.2.2.2.2.2.2.2.2.2)]))])⟩)
def ILwLineBest_1000017b (q : Ext × S) : Nat × List PV × Int × Bool × Int × Nat × List PV × Nat × List PV × Int × Int × Int × Int × Int × Int × Int × Int := ((pP_list0 (pA_p (avT q.2 1))), (pP_list1 (pA_p (avT q.2 1))), (pP_int1 (pA_p (avT q.2 5))), (pP_bool0 (pA_p (avT q.2 11))), (pP_int1 (pA_p (avT q.2 12))), (pP_list0 (pA_p (hdA (pB_cells1 (avM q.2 2))))), (pP_list1 (pA_p (hdA (pB_cells1 (avM q.2 2))))), (pP_list0 (pA_p (hdA (List.tail (pB_cells1 (avM q.2 2)))))), (pP_list1 (pA_p (hdA (List.tail (pB_cells1 (avM q.2 2)))))), (pP_int1 (pA_p (hdA (List.tail (List.tail (pB_cells1 (avM q.2 2))))))), (pP_int1 (pA_p (hdA (List.tail (List.tail (List.tail (pB_cells1 (avM q.2 2)))))))), (pP_int1 (hdP (pB_pcs1 (avM q.2 6)))), (pP_int1 (hdP (List.tail (pB_pcs1 (avM q.2 6))))), (pP_int1 (hdP (List.tail (List.tail (pB_pcs1 (avM q.2 6)))))), (pP_int1 (hdP (pB_pcs1 (avM q.2 13)))), (pP_int1 (hdP (List.tail (pB_pcs1 (avM q.2 13))))), (pP_int1 (hdP (List.tail (List.tail (pB_pcs1 (avM q.2 13)))))))
abbrev YLwLineBest_1000017 : Type := (Unit) ⊕ ((Nat × List PV × Int × Bool × Int × Nat × List PV × Nat × List PV × Int × Int × Int × Int × Int × Int × Int × Int))
def XLLwLineBest_1000017 : XL YLwLineBest_1000017 := .more XLwLineBest_1000017a (.one XLwLineBest_1000017b)
def ILwLineBest_1000017 (q : Ext × S) : YLwLineBest_1000017 := bif (cE q.1 == 2) then (Sum.inl (ILwLineBest_1000017a q)) else (Sum.inr (ILwLineBest_1000017b q))
theorem XILwLineBest_1000017a (y : Unit) : ILwLineBest_1000017 (xe (XLwLineBest_1000017a y)) = (Sum.inl y) := rfl
theorem XILwLineBest_1000017b (y : Nat × List PV × Int × Bool × Int × Nat × List PV × Nat × List PV × Int × Int × Int × Int × Int × Int × Int × Int) : ILwLineBest_1000017 (xe (XLwLineBest_1000017b y)) = (Sum.inr y) := rfl
theorem XILwLineBest_1000017 (y : YLwLineBest_1000017) : ILwLineBest_1000017 (xe (XLLwLineBest_1000017.fn y)) = y := (match y with | .inl y => XILwLineBest_1000017a y | .inr y => XILwLineBest_1000017b y)
noncomputable abbrev LLwLineBest_1000017 : Q → Option YLwLineBest_1000017 := lpO env a4.body 1000017 XLLwLineBest_1000017
noncomputable abbrev RLwLineBest_1000017 : Q → Option (Ext × S) := lpR env a4.body 1000017
theorem LLwLineBest_1000017a_of {s : Q} {y : Unit} (h : RLwLineBest_1000017 s = exO (XLwLineBest_1000017a y)) : LLwLineBest_1000017 s = some (Sum.inl y) := lpO_of ILwLineBest_1000017 XILwLineBest_1000017 (y := (Sum.inl y)) h
theorem LLwLineBest_1000017b_of {s : Q} {y : Nat × List PV × Int × Bool × Int × Nat × List PV × Nat × List PV × Int × Int × Int × Int × Int × Int × Int × Int} (h : RLwLineBest_1000017 s = exO (XLwLineBest_1000017b y)) : LLwLineBest_1000017 s = some (Sum.inr y) := lpO_of ILwLineBest_1000017 XILwLineBest_1000017 (y := (Sum.inr y)) h
theorem ULwLineBest : uniq ((blocksOf a4.body).map (·.1)) = true := by kernel_rfl
def BLwLineBest_0a (_F : FnT) (N : Q → Option (Ext × S)) (E : Ext × Q → Option (Ext × S)) (_L0 : Q → Option YLwLineBest_0) (_L1000065 : Q → Option YLwLineBest_1000065) (_L1000054 : Q → Option YLwLineBest_1000054) (_L1000041 : Q → Option YLwLineBest_1000041) (L1000022 : Q → Option YLwLineBest_1000022) (_L1000017 : Q → Option YLwLineBest_1000017) (n0 : Nat) (c1 : List PV) (i2 : Int) (b3 : Bool) (i4 : Int) (n5 : Nat) (c6 : List PV) (n7 : Nat) (c8 : List PV) (i9 : Int) (i10 : Int) (i11 : Int) (i12 : Int) (i13 : Int) : Option (Ext × S) :=
  bif (decide (i4 < (n0 : Int))) then
    bindO (L1000022 (TLwLineBest_1000022a n0 c1 i2 b3 i4 n5 c6 n7 c8 i9 i10 i11 i12 i13)) fun z =>
    Sum.elim (fun _y0 =>
      E (XLwLineBest_0b ())) (fun y1 =>
      N (TLwLineBest_0a y1.1 y1.2.1 y1.2.2.1 y1.2.2.2.1 (w64 (y1.2.2.2.2.1 + (1 : Int))) y1.2.2.2.2.2.1 y1.2.2.2.2.2.2.1 y1.2.2.2.2.2.2.2.1 y1.2.2.2.2.2.2.2.2.1 y1.2.2.2.2.2.2.2.2.2.1 y1.2.2.2.2.2.2.2.2.2.2.1 y1.2.2.2.2.2.2.2.2.2.2.2.1 y1.2.2.2.2.2.2.2.2.2.2.2.2.1 y1.2.2.2.2.2.2.2.2.2.2.2.2.2)) z
  else E (XLwLineBest_0a (b3, n5, c6, n7, c8, i9, i10, i11, i12, i13))
theorem BLwLineBest_0a_eq (F : FnT) (N : Q → Option (Ext × S)) (E : Ext × Q → Option (Ext × S)) (L0 : Q → Option YLwLineBest_0) (L1000065 : Q → Option YLwLineBest_1000065) (L1000054 : Q → Option YLwLineBest_1000054) (L1000041 : Q → Option YLwLineBest_1000041) (L1000022 : Q → Option YLwLineBest_1000022) (L1000017 : Q → Option YLwLineBest_1000017) (n0 : Nat) (c1 : List PV) (i2 : Int) (b3 : Bool) (i4 : Int) (n5 : Nat) (c6 : List PV) (n7 : Nat) (c8 : List PV) (i9 : Int) (i10 : Int) (i11 : Int) (i12 : Int) (i13 : Int) : semB (callP F ELwLineBest 20) s4 (loopT [⟨0, YLwLineBest_0, L0, XLLwLineBest_0⟩, ⟨1000065, YLwLineBest_1000065, L1000065, XLLwLineBest_1000065⟩, ⟨1000054, YLwLineBest_1000054, L1000054, XLLwLineBest_1000054⟩, ⟨1000041, YLwLineBest_1000041, L1000041, XLLwLineBest_1000041⟩, ⟨1000022, YLwLineBest_1000022, L1000022, XLLwLineBest_1000022⟩, ⟨1000017, YLwLineBest_1000017, L1000017, XLLwLineBest_1000017⟩]) 400 (blkIn a4.body 0) N E (TLwLineBest_0a n0 c1 i2 b3 i4 n5 c6 n7 c8 i9 i10 i11 i12 i13) = BLwLineBest_0a F N E L0 L1000065 L1000054 L1000041 L1000022 L1000017 n0 c1 i2 b3 i4 n5 c6 n7 c8 i9 i10 i11 i12 i13 := by kernel_rfl
theorem RLwLineBest_0a_of  (n0 : Nat) (c1 : List PV) (i2 : Int) (b3 : Bool) (i4 : Int) (n5 : Nat) (c6 : List PV) (n7 : Nat) (c8 : List PV) (i9 : Int) (i10 : Int) (i11 : Int) (i12 : Int) (i13 : Int) {r : Ext × S} (h : BLwLineBest_0a (Fn env) RLwLineBest_0 exO LLwLineBest_0 LLwLineBest_1000065 LLwLineBest_1000054 LLwLineBest_1000041 LLwLineBest_1000022 LLwLineBest_1000017 n0 c1 i2 b3 i4 n5 c6 n7 c8 i9 i10 i11 i12 i13 = some r) : RLwLineBest_0 (TLwLineBest_0a n0 c1 i2 b3 i4 n5 c6 n7 c8 i9 i10 i11 i12 i13) = some r :=
  lp_of ELwLineBest_ok (by kernel_rfl) (lo_cons (lpO_ok ULwLineBest) (lo_cons (lpO_ok ULwLineBest) (lo_cons (lpO_ok ULwLineBest) (lo_cons (lpO_ok ULwLineBest) (lo_cons (lpO_ok ULwLineBest) (lo_cons (lpO_ok ULwLineBest) lo_nil)))))) (by kernel_rfl) ((BLwLineBest_0a_eq _ _ _ _ _ _ _ _ _ _ _ _ _ _ _ _ _ _ _ _ _ _ _).trans h)
def BLwLineBest_1000065a (F : FnT) (_N : Q → Option (Ext × S)) (E : Ext × Q → Option (Ext × S)) (_L0 : Q → Option YLwLineBest_0) (_L1000065 : Q → Option YLwLineBest_1000065) (_L1000054 : Q → Option YLwLineBest_1000054) (_L1000041 : Q → Option YLwLineBest_1000041) (_L1000022 : Q → Option YLwLineBest_1000022) (_L1000017 : Q → Option YLwLineBest_1000017) (n0 : Nat) (c1 : List PV) (n2 : Nat) (c3 : List PV) (n4 : Nat) (c5 : List PV) (i6 : Int) (i7 : Int) : Option (Ext × S) :=
  bindO (F 6 (RSh.one CK.bool) [(PV.agg [(PV.list n2 c3), (PV.list n4 c5), (PV.int IntKind.i64 i6), (PV.int IntKind.i64 i7)])]) fun (y0 : (Bool)) =>
  bif y0 then
    bif (decide ((n0 : Int) > (6 : Int))) then
      E (XLwLineBest_1000065a ())
    else E (XLwLineBest_1000065b (n0, c1, n2, c3, n4, c5, i6, i7))
  else E (XLwLineBest_1000065a ())
theorem BLwLineBest_1000065a_eq (F : FnT) (N : Q → Option (Ext × S)) (E : Ext × Q → Option (Ext × S)) (L0 : Q → Option YLwLineBest_0) (L1000065 : Q → Option YLwLineBest_1000065) (L1000054 : Q → Option YLwLineBest_1000054) (L1000041 : Q → Option YLwLineBest_1000041) (L1000022 : Q → Option YLwLineBest_1000022) (L1000017 : Q → Option YLwLineBest_1000017) (n0 : Nat) (c1 : List PV) (n2 : Nat) (c3 : List PV) (n4 : Nat) (c5 : List PV) (i6 : Int) (i7 : Int) : semN (callP F ELwLineBest 20) s4 (loopT [⟨0, YLwLineBest_0, L0, XLLwLineBest_0⟩, ⟨1000065, YLwLineBest_1000065, L1000065, XLLwLineBest_1000065⟩, ⟨1000054, YLwLineBest_1000054, L1000054, XLLwLineBest_1000054⟩, ⟨1000041, YLwLineBest_1000041, L1000041, XLLwLineBest_1000041⟩, ⟨1000022, YLwLineBest_1000022, L1000022, XLLwLineBest_1000022⟩, ⟨1000017, YLwLineBest_1000017, L1000017, XLLwLineBest_1000017⟩]) 400 (blkIn a4.body 1000065) E (TLwLineBest_1000065a n0 c1 n2 c3 n4 c5 i6 i7) = BLwLineBest_1000065a F N E L0 L1000065 L1000054 L1000041 L1000022 L1000017 n0 c1 n2 c3 n4 c5 i6 i7 := by kernel_rfl
theorem RLwLineBest_1000065a_of  (n0 : Nat) (c1 : List PV) (n2 : Nat) (c3 : List PV) (n4 : Nat) (c5 : List PV) (i6 : Int) (i7 : Int) {r : Ext × S} (h : BLwLineBest_1000065a (Fn env) RLwLineBest_1000065 exO LLwLineBest_0 LLwLineBest_1000065 LLwLineBest_1000054 LLwLineBest_1000041 LLwLineBest_1000022 LLwLineBest_1000017 n0 c1 n2 c3 n4 c5 i6 i7 = some r) : RLwLineBest_1000065 (TLwLineBest_1000065a n0 c1 n2 c3 n4 c5 i6 i7) = some r :=
  nd_of ELwLineBest_ok (by kernel_rfl) (lo_cons (lpO_ok ULwLineBest) (lo_cons (lpO_ok ULwLineBest) (lo_cons (lpO_ok ULwLineBest) (lo_cons (lpO_ok ULwLineBest) (lo_cons (lpO_ok ULwLineBest) (lo_cons (lpO_ok ULwLineBest) lo_nil)))))) (by kernel_rfl) ((BLwLineBest_1000065a_eq _ RLwLineBest_1000065 _ _ _ _ _ _ _ _ _ _ _ _ _ _ _).trans h)
def BLwLineBest_1000054a (F : FnT) (_N : Q → Option (Ext × S)) (E : Ext × Q → Option (Ext × S)) (_L0 : Q → Option YLwLineBest_0) (_L1000065 : Q → Option YLwLineBest_1000065) (_L1000054 : Q → Option YLwLineBest_1000054) (_L1000041 : Q → Option YLwLineBest_1000041) (_L1000022 : Q → Option YLwLineBest_1000022) (_L1000017 : Q → Option YLwLineBest_1000017) (n0 : Nat) (c1 : List PV) (i2 : Int) (i3 : Int) (i4 : Int) (n5 : Nat) (c6 : List PV) (n7 : Nat) (c8 : List PV) (i9 : Int) (i10 : Int) (i11 : Int) (i12 : Int) (i13 : Int) : Option (Ext × S) :=
  bif (i4 == (0 : Int)) then
    bindO (F 14 (RSh.one (CK.int IntKind.i64)) [(PV.list n0 c1)]) fun (y0 : (Int)) =>
    E (XLwLineBest_1000054a (n0, c1, i2, i3, y0, n5, c6, n7, c8, i9, i10, i11, i12, i13))
  else E (XLwLineBest_1000054a (n0, c1, i2, i3, i4, n5, c6, n7, c8, i9, i10, i11, i12, i13))
theorem BLwLineBest_1000054a_eq (F : FnT) (N : Q → Option (Ext × S)) (E : Ext × Q → Option (Ext × S)) (L0 : Q → Option YLwLineBest_0) (L1000065 : Q → Option YLwLineBest_1000065) (L1000054 : Q → Option YLwLineBest_1000054) (L1000041 : Q → Option YLwLineBest_1000041) (L1000022 : Q → Option YLwLineBest_1000022) (L1000017 : Q → Option YLwLineBest_1000017) (n0 : Nat) (c1 : List PV) (i2 : Int) (i3 : Int) (i4 : Int) (n5 : Nat) (c6 : List PV) (n7 : Nat) (c8 : List PV) (i9 : Int) (i10 : Int) (i11 : Int) (i12 : Int) (i13 : Int) : semN (callP F ELwLineBest 20) s4 (loopT [⟨0, YLwLineBest_0, L0, XLLwLineBest_0⟩, ⟨1000065, YLwLineBest_1000065, L1000065, XLLwLineBest_1000065⟩, ⟨1000054, YLwLineBest_1000054, L1000054, XLLwLineBest_1000054⟩, ⟨1000041, YLwLineBest_1000041, L1000041, XLLwLineBest_1000041⟩, ⟨1000022, YLwLineBest_1000022, L1000022, XLLwLineBest_1000022⟩, ⟨1000017, YLwLineBest_1000017, L1000017, XLLwLineBest_1000017⟩]) 400 (blkIn a4.body 1000054) E (TLwLineBest_1000054a n0 c1 i2 i3 i4 n5 c6 n7 c8 i9 i10 i11 i12 i13) = BLwLineBest_1000054a F N E L0 L1000065 L1000054 L1000041 L1000022 L1000017 n0 c1 i2 i3 i4 n5 c6 n7 c8 i9 i10 i11 i12 i13 := by kernel_rfl
theorem RLwLineBest_1000054a_of  (n0 : Nat) (c1 : List PV) (i2 : Int) (i3 : Int) (i4 : Int) (n5 : Nat) (c6 : List PV) (n7 : Nat) (c8 : List PV) (i9 : Int) (i10 : Int) (i11 : Int) (i12 : Int) (i13 : Int) {r : Ext × S} (h : BLwLineBest_1000054a (Fn env) RLwLineBest_1000054 exO LLwLineBest_0 LLwLineBest_1000065 LLwLineBest_1000054 LLwLineBest_1000041 LLwLineBest_1000022 LLwLineBest_1000017 n0 c1 i2 i3 i4 n5 c6 n7 c8 i9 i10 i11 i12 i13 = some r) : RLwLineBest_1000054 (TLwLineBest_1000054a n0 c1 i2 i3 i4 n5 c6 n7 c8 i9 i10 i11 i12 i13) = some r :=
  nd_of ELwLineBest_ok (by kernel_rfl) (lo_cons (lpO_ok ULwLineBest) (lo_cons (lpO_ok ULwLineBest) (lo_cons (lpO_ok ULwLineBest) (lo_cons (lpO_ok ULwLineBest) (lo_cons (lpO_ok ULwLineBest) (lo_cons (lpO_ok ULwLineBest) lo_nil)))))) (by kernel_rfl) ((BLwLineBest_1000054a_eq _ RLwLineBest_1000054 _ _ _ _ _ _ _ _ _ _ _ _ _ _ _ _ _ _ _ _ _).trans h)
def BLwLineBest_1000041a (_F : FnT) (_N : Q → Option (Ext × S)) (E : Ext × Q → Option (Ext × S)) (_L0 : Q → Option YLwLineBest_0) (_L1000065 : Q → Option YLwLineBest_1000065) (_L1000054 : Q → Option YLwLineBest_1000054) (_L1000041 : Q → Option YLwLineBest_1000041) (_L1000022 : Q → Option YLwLineBest_1000022) (_L1000017 : Q → Option YLwLineBest_1000017) (n0 : Nat) (c1 : List PV) (i2 : Int) (i3 : Int) (i4 : Int) (n5 : Nat) (c6 : List PV) (n7 : Nat) (c8 : List PV) (i9 : Int) (i10 : Int) (i11 : Int) (i12 : Int) (i13 : Int) (i14 : Int) (i15 : Int) (i16 : Int) : Option (Ext × S) :=
  bif (i3 != (0 : Int)) then
    E (XLwLineBest_1000041a ())
  else bif (i2 != i4) then
    E (XLwLineBest_1000041a ())
  else bif (!((i11 == i14) && ((i12 == i15) && ((i13 == i16) && true)))) then
    E (XLwLineBest_1000041a ())
  else E (XLwLineBest_1000041b (n0, c1, i2, n5, c6, n7, c8, i9, i10, i11, i12, i13))
theorem BLwLineBest_1000041a_eq (F : FnT) (N : Q → Option (Ext × S)) (E : Ext × Q → Option (Ext × S)) (L0 : Q → Option YLwLineBest_0) (L1000065 : Q → Option YLwLineBest_1000065) (L1000054 : Q → Option YLwLineBest_1000054) (L1000041 : Q → Option YLwLineBest_1000041) (L1000022 : Q → Option YLwLineBest_1000022) (L1000017 : Q → Option YLwLineBest_1000017) (n0 : Nat) (c1 : List PV) (i2 : Int) (i3 : Int) (i4 : Int) (n5 : Nat) (c6 : List PV) (n7 : Nat) (c8 : List PV) (i9 : Int) (i10 : Int) (i11 : Int) (i12 : Int) (i13 : Int) (i14 : Int) (i15 : Int) (i16 : Int) : semN (callP F ELwLineBest 20) s4 (loopT [⟨0, YLwLineBest_0, L0, XLLwLineBest_0⟩, ⟨1000065, YLwLineBest_1000065, L1000065, XLLwLineBest_1000065⟩, ⟨1000054, YLwLineBest_1000054, L1000054, XLLwLineBest_1000054⟩, ⟨1000041, YLwLineBest_1000041, L1000041, XLLwLineBest_1000041⟩, ⟨1000022, YLwLineBest_1000022, L1000022, XLLwLineBest_1000022⟩, ⟨1000017, YLwLineBest_1000017, L1000017, XLLwLineBest_1000017⟩]) 400 (blkIn a4.body 1000041) E (TLwLineBest_1000041a n0 c1 i2 i3 i4 n5 c6 n7 c8 i9 i10 i11 i12 i13 i14 i15 i16) = BLwLineBest_1000041a F N E L0 L1000065 L1000054 L1000041 L1000022 L1000017 n0 c1 i2 i3 i4 n5 c6 n7 c8 i9 i10 i11 i12 i13 i14 i15 i16 := by kernel_rfl
theorem RLwLineBest_1000041a_of  (n0 : Nat) (c1 : List PV) (i2 : Int) (i3 : Int) (i4 : Int) (n5 : Nat) (c6 : List PV) (n7 : Nat) (c8 : List PV) (i9 : Int) (i10 : Int) (i11 : Int) (i12 : Int) (i13 : Int) (i14 : Int) (i15 : Int) (i16 : Int) {r : Ext × S} (h : BLwLineBest_1000041a (Fn env) RLwLineBest_1000041 exO LLwLineBest_0 LLwLineBest_1000065 LLwLineBest_1000054 LLwLineBest_1000041 LLwLineBest_1000022 LLwLineBest_1000017 n0 c1 i2 i3 i4 n5 c6 n7 c8 i9 i10 i11 i12 i13 i14 i15 i16 = some r) : RLwLineBest_1000041 (TLwLineBest_1000041a n0 c1 i2 i3 i4 n5 c6 n7 c8 i9 i10 i11 i12 i13 i14 i15 i16) = some r :=
  nd_of ELwLineBest_ok (by kernel_rfl) (lo_cons (lpO_ok ULwLineBest) (lo_cons (lpO_ok ULwLineBest) (lo_cons (lpO_ok ULwLineBest) (lo_cons (lpO_ok ULwLineBest) (lo_cons (lpO_ok ULwLineBest) (lo_cons (lpO_ok ULwLineBest) lo_nil)))))) (by kernel_rfl) ((BLwLineBest_1000041a_eq _ RLwLineBest_1000041 _ _ _ _ _ _ _ _ _ _ _ _ _ _ _ _ _ _ _ _ _ _ _ _).trans h)
def BLwLineBest_1000022a (F : FnT) (_N : Q → Option (Ext × S)) (E : Ext × Q → Option (Ext × S)) (_L0 : Q → Option YLwLineBest_0) (_L1000065 : Q → Option YLwLineBest_1000065) (_L1000054 : Q → Option YLwLineBest_1000054) (_L1000041 : Q → Option YLwLineBest_1000041) (_L1000022 : Q → Option YLwLineBest_1000022) (L1000017 : Q → Option YLwLineBest_1000017) (n0 : Nat) (c1 : List PV) (i2 : Int) (b3 : Bool) (i4 : Int) (n5 : Nat) (c6 : List PV) (n7 : Nat) (c8 : List PV) (i9 : Int) (i10 : Int) (i11 : Int) (i12 : Int) (i13 : Int) : Option (Ext × S) :=
  bindO (F 8 (RSh.agg [CK.list, CK.list, (CK.int IntKind.i64), (CK.int IntKind.i64)]) [(PV.agg [(PV.list n5 c6), (PV.list n7 c8), (PV.int IntKind.i64 i9), (PV.int IntKind.i64 i10)])]) fun (y0 : (((Nat) × (List PV)) × (((Nat) × (List PV)) × ((Int) × (Int))))) =>
  bif (decide (((0 : Int) ≤ i4) ∧ (i4 < (n0 : Int)))) then
    bindO (intC IntKind.i64 (c1[((Int.toNat i4) * 1)]?)) fun x1 =>
    bindO (F 16 (RSh.tup [(Prod.mk true [(CK.int IntKind.i64), (CK.int IntKind.i64), (CK.int IntKind.i64)]), (Prod.mk false [(CK.int IntKind.i64)])]) [(PV.agg [(PV.list y0.1.1 y0.1.2), (PV.list y0.2.1.1 y0.2.1.2), (PV.int IntKind.i64 y0.2.2.1), (PV.int IntKind.i64 y0.2.2.2)]), (PV.int IntKind.i64 x1)]) fun (y2 : ((Int) × ((Int) × ((Int) × (Int))))) =>
    bindO (L1000017 (TLwLineBest_1000017a n0 c1 i2 b3 i4 y2.2.2.2 n5 c6 n7 c8 i9 i10 i11 i12 i13 y2.1 y2.2.1 y2.2.2.1)) fun z =>
    Sum.elim (fun _y3 =>
      E (XLwLineBest_1000022a ())) (fun y4 =>
      bif y4.2.2.2.1 then
        bindO (F 19 (RSh.one (CK.int IntKind.i64)) [(PV.agg [(PV.int IntKind.i64 y4.2.2.2.2.2.2.2.2.2.2.2.2.2.2.1), (PV.int IntKind.i64 y4.2.2.2.2.2.2.2.2.2.2.2.2.2.2.2.1)]), (PV.agg [(PV.int IntKind.i64 y4.2.2.2.2.2.2.2.2.2.2.2.1), (PV.int IntKind.i64 y4.2.2.2.2.2.2.2.2.2.2.2.2.1)])]) fun (y5 : (Int)) =>
        bif (decide (y5 < (0 : Int))) then
          E (XLwLineBest_1000022a ())
        else bif (y5 == (0 : Int)) then
          E (XLwLineBest_1000022b (y4.1, y4.2.1, y4.2.2.1, true, y4.2.2.2.2.1, y4.2.2.2.2.2.1, y4.2.2.2.2.2.2.1, y4.2.2.2.2.2.2.2.1, y4.2.2.2.2.2.2.2.2.1, y4.2.2.2.2.2.2.2.2.2.1, y4.2.2.2.2.2.2.2.2.2.2.1, y4.2.2.2.2.2.2.2.2.2.2.2.1, y4.2.2.2.2.2.2.2.2.2.2.2.2.1, y4.2.2.2.2.2.2.2.2.2.2.2.2.2.1))
        else E (XLwLineBest_1000022b (y4.1, y4.2.1, y4.2.2.1, true, y4.2.2.2.2.1, y4.2.2.2.2.2.1, y4.2.2.2.2.2.2.1, y4.2.2.2.2.2.2.2.1, y4.2.2.2.2.2.2.2.2.1, y4.2.2.2.2.2.2.2.2.2.1, y4.2.2.2.2.2.2.2.2.2.2.1, y4.2.2.2.2.2.2.2.2.2.2.2.1, y4.2.2.2.2.2.2.2.2.2.2.2.2.1, y4.2.2.2.2.2.2.2.2.2.2.2.2.2.1))
      else bif (decide (((0 : Int) ≤ y4.2.2.2.2.1) ∧ (y4.2.2.2.2.1 < (y4.1 : Int)))) then
        bindO (intC IntKind.i64 (y4.2.1[((Int.toNat y4.2.2.2.2.1) * 1)]?)) fun x6 =>
        bif (x6 == y4.2.2.1) then
          bindO (F 19 (RSh.one (CK.int IntKind.i64)) [(PV.agg [(PV.int IntKind.i64 y4.2.2.2.2.2.2.2.2.2.2.2.2.2.2.1), (PV.int IntKind.i64 y4.2.2.2.2.2.2.2.2.2.2.2.2.2.2.2.1)]), (PV.agg [(PV.int IntKind.i64 y4.2.2.2.2.2.2.2.2.2.2.2.1), (PV.int IntKind.i64 y4.2.2.2.2.2.2.2.2.2.2.2.2.1)])]) fun (y7 : (Int)) =>
          bif (decide (y7 < (0 : Int))) then
            E (XLwLineBest_1000022a ())
          else bif (y7 == (0 : Int)) then
            E (XLwLineBest_1000022b (y4.1, y4.2.1, y4.2.2.1, true, y4.2.2.2.2.1, y4.2.2.2.2.2.1, y4.2.2.2.2.2.2.1, y4.2.2.2.2.2.2.2.1, y4.2.2.2.2.2.2.2.2.1, y4.2.2.2.2.2.2.2.2.2.1, y4.2.2.2.2.2.2.2.2.2.2.1, y4.2.2.2.2.2.2.2.2.2.2.2.1, y4.2.2.2.2.2.2.2.2.2.2.2.2.1, y4.2.2.2.2.2.2.2.2.2.2.2.2.2.1))
          else E (XLwLineBest_1000022b (y4.1, y4.2.1, y4.2.2.1, true, y4.2.2.2.2.1, y4.2.2.2.2.2.1, y4.2.2.2.2.2.2.1, y4.2.2.2.2.2.2.2.1, y4.2.2.2.2.2.2.2.2.1, y4.2.2.2.2.2.2.2.2.2.1, y4.2.2.2.2.2.2.2.2.2.2.1, y4.2.2.2.2.2.2.2.2.2.2.2.1, y4.2.2.2.2.2.2.2.2.2.2.2.2.1, y4.2.2.2.2.2.2.2.2.2.2.2.2.2.1))
        else bindO (F 19 (RSh.one (CK.int IntKind.i64)) [(PV.agg [(PV.int IntKind.i64 y4.2.2.2.2.2.2.2.2.2.2.2.2.2.2.1), (PV.int IntKind.i64 y4.2.2.2.2.2.2.2.2.2.2.2.2.2.2.2.1)]), (PV.agg [(PV.int IntKind.i64 y4.2.2.2.2.2.2.2.2.2.2.2.1), (PV.int IntKind.i64 y4.2.2.2.2.2.2.2.2.2.2.2.2.1)])]) fun (y8 : (Int)) =>
        bif (decide (y8 < (0 : Int))) then
          E (XLwLineBest_1000022a ())
        else bif (y8 == (0 : Int)) then
          E (XLwLineBest_1000022a ())
        else E (XLwLineBest_1000022b (y4.1, y4.2.1, y4.2.2.1, false, y4.2.2.2.2.1, y4.2.2.2.2.2.1, y4.2.2.2.2.2.2.1, y4.2.2.2.2.2.2.2.1, y4.2.2.2.2.2.2.2.2.1, y4.2.2.2.2.2.2.2.2.2.1, y4.2.2.2.2.2.2.2.2.2.2.1, y4.2.2.2.2.2.2.2.2.2.2.2.1, y4.2.2.2.2.2.2.2.2.2.2.2.2.1, y4.2.2.2.2.2.2.2.2.2.2.2.2.2.1))
      else none) z
  else none
theorem BLwLineBest_1000022a_eq (F : FnT) (N : Q → Option (Ext × S)) (E : Ext × Q → Option (Ext × S)) (L0 : Q → Option YLwLineBest_0) (L1000065 : Q → Option YLwLineBest_1000065) (L1000054 : Q → Option YLwLineBest_1000054) (L1000041 : Q → Option YLwLineBest_1000041) (L1000022 : Q → Option YLwLineBest_1000022) (L1000017 : Q → Option YLwLineBest_1000017) (n0 : Nat) (c1 : List PV) (i2 : Int) (b3 : Bool) (i4 : Int) (n5 : Nat) (c6 : List PV) (n7 : Nat) (c8 : List PV) (i9 : Int) (i10 : Int) (i11 : Int) (i12 : Int) (i13 : Int) : semN (callP F ELwLineBest 20) s4 (loopT [⟨0, YLwLineBest_0, L0, XLLwLineBest_0⟩, ⟨1000065, YLwLineBest_1000065, L1000065, XLLwLineBest_1000065⟩, ⟨1000054, YLwLineBest_1000054, L1000054, XLLwLineBest_1000054⟩, ⟨1000041, YLwLineBest_1000041, L1000041, XLLwLineBest_1000041⟩, ⟨1000022, YLwLineBest_1000022, L1000022, XLLwLineBest_1000022⟩, ⟨1000017, YLwLineBest_1000017, L1000017, XLLwLineBest_1000017⟩]) 400 (blkIn a4.body 1000022) E (TLwLineBest_1000022a n0 c1 i2 b3 i4 n5 c6 n7 c8 i9 i10 i11 i12 i13) = BLwLineBest_1000022a F N E L0 L1000065 L1000054 L1000041 L1000022 L1000017 n0 c1 i2 b3 i4 n5 c6 n7 c8 i9 i10 i11 i12 i13 := by kernel_rfl
theorem RLwLineBest_1000022a_of  (n0 : Nat) (c1 : List PV) (i2 : Int) (b3 : Bool) (i4 : Int) (n5 : Nat) (c6 : List PV) (n7 : Nat) (c8 : List PV) (i9 : Int) (i10 : Int) (i11 : Int) (i12 : Int) (i13 : Int) {r : Ext × S} (h : BLwLineBest_1000022a (Fn env) RLwLineBest_1000022 exO LLwLineBest_0 LLwLineBest_1000065 LLwLineBest_1000054 LLwLineBest_1000041 LLwLineBest_1000022 LLwLineBest_1000017 n0 c1 i2 b3 i4 n5 c6 n7 c8 i9 i10 i11 i12 i13 = some r) : RLwLineBest_1000022 (TLwLineBest_1000022a n0 c1 i2 b3 i4 n5 c6 n7 c8 i9 i10 i11 i12 i13) = some r :=
  nd_of ELwLineBest_ok (by kernel_rfl) (lo_cons (lpO_ok ULwLineBest) (lo_cons (lpO_ok ULwLineBest) (lo_cons (lpO_ok ULwLineBest) (lo_cons (lpO_ok ULwLineBest) (lo_cons (lpO_ok ULwLineBest) (lo_cons (lpO_ok ULwLineBest) lo_nil)))))) (by kernel_rfl) ((BLwLineBest_1000022a_eq _ RLwLineBest_1000022 _ _ _ _ _ _ _ _ _ _ _ _ _ _ _ _ _ _ _ _ _).trans h)
def BLwLineBest_1000017a (F : FnT) (_N : Q → Option (Ext × S)) (E : Ext × Q → Option (Ext × S)) (_L0 : Q → Option YLwLineBest_0) (_L1000065 : Q → Option YLwLineBest_1000065) (_L1000054 : Q → Option YLwLineBest_1000054) (_L1000041 : Q → Option YLwLineBest_1000041) (_L1000022 : Q → Option YLwLineBest_1000022) (_L1000017 : Q → Option YLwLineBest_1000017) (n0 : Nat) (c1 : List PV) (i2 : Int) (b3 : Bool) (i4 : Int) (i5 : Int) (n6 : Nat) (c7 : List PV) (n8 : Nat) (c9 : List PV) (i10 : Int) (i11 : Int) (i12 : Int) (i13 : Int) (i14 : Int) (i15 : Int) (i16 : Int) (i17 : Int) : Option (Ext × S) :=
  bif (i5 != (0 : Int)) then
    E (XLwLineBest_1000017a ())
  else bindO (F 17 (RSh.one CK.bool) [(PV.agg [(PV.int IntKind.i64 i15), (PV.int IntKind.i64 i16)])]) fun (y0 : (Bool)) =>
  bif y0 then
    bindO (F 18 (RSh.one CK.bool) [(PV.agg [(PV.int IntKind.i64 i15), (PV.int IntKind.i64 i16)])]) fun (y1 : (Bool)) =>
    bif y1 then
      E (XLwLineBest_1000017b (n0, c1, i2, b3, i4, n6, c7, n8, c9, i10, i11, i12, i13, i14, i15, i16, i17))
    else E (XLwLineBest_1000017a ())
  else E (XLwLineBest_1000017a ())
theorem BLwLineBest_1000017a_eq (F : FnT) (N : Q → Option (Ext × S)) (E : Ext × Q → Option (Ext × S)) (L0 : Q → Option YLwLineBest_0) (L1000065 : Q → Option YLwLineBest_1000065) (L1000054 : Q → Option YLwLineBest_1000054) (L1000041 : Q → Option YLwLineBest_1000041) (L1000022 : Q → Option YLwLineBest_1000022) (L1000017 : Q → Option YLwLineBest_1000017) (n0 : Nat) (c1 : List PV) (i2 : Int) (b3 : Bool) (i4 : Int) (i5 : Int) (n6 : Nat) (c7 : List PV) (n8 : Nat) (c9 : List PV) (i10 : Int) (i11 : Int) (i12 : Int) (i13 : Int) (i14 : Int) (i15 : Int) (i16 : Int) (i17 : Int) : semN (callP F ELwLineBest 20) s4 (loopT [⟨0, YLwLineBest_0, L0, XLLwLineBest_0⟩, ⟨1000065, YLwLineBest_1000065, L1000065, XLLwLineBest_1000065⟩, ⟨1000054, YLwLineBest_1000054, L1000054, XLLwLineBest_1000054⟩, ⟨1000041, YLwLineBest_1000041, L1000041, XLLwLineBest_1000041⟩, ⟨1000022, YLwLineBest_1000022, L1000022, XLLwLineBest_1000022⟩, ⟨1000017, YLwLineBest_1000017, L1000017, XLLwLineBest_1000017⟩]) 400 (blkIn a4.body 1000017) E (TLwLineBest_1000017a n0 c1 i2 b3 i4 i5 n6 c7 n8 c9 i10 i11 i12 i13 i14 i15 i16 i17) = BLwLineBest_1000017a F N E L0 L1000065 L1000054 L1000041 L1000022 L1000017 n0 c1 i2 b3 i4 i5 n6 c7 n8 c9 i10 i11 i12 i13 i14 i15 i16 i17 := by kernel_rfl
theorem RLwLineBest_1000017a_of  (n0 : Nat) (c1 : List PV) (i2 : Int) (b3 : Bool) (i4 : Int) (i5 : Int) (n6 : Nat) (c7 : List PV) (n8 : Nat) (c9 : List PV) (i10 : Int) (i11 : Int) (i12 : Int) (i13 : Int) (i14 : Int) (i15 : Int) (i16 : Int) (i17 : Int) {r : Ext × S} (h : BLwLineBest_1000017a (Fn env) RLwLineBest_1000017 exO LLwLineBest_0 LLwLineBest_1000065 LLwLineBest_1000054 LLwLineBest_1000041 LLwLineBest_1000022 LLwLineBest_1000017 n0 c1 i2 b3 i4 i5 n6 c7 n8 c9 i10 i11 i12 i13 i14 i15 i16 i17 = some r) : RLwLineBest_1000017 (TLwLineBest_1000017a n0 c1 i2 b3 i4 i5 n6 c7 n8 c9 i10 i11 i12 i13 i14 i15 i16 i17) = some r :=
  nd_of ELwLineBest_ok (by kernel_rfl) (lo_cons (lpO_ok ULwLineBest) (lo_cons (lpO_ok ULwLineBest) (lo_cons (lpO_ok ULwLineBest) (lo_cons (lpO_ok ULwLineBest) (lo_cons (lpO_ok ULwLineBest) (lo_cons (lpO_ok ULwLineBest) lo_nil)))))) (by kernel_rfl) ((BLwLineBest_1000017a_eq _ RLwLineBest_1000017 _ _ _ _ _ _ _ _ _ _ _ _ _ _ _ _ _ _ _ _ _ _ _ _ _).trans h)
def tLwLineBest (F : FnT) (L0 : Q → Option YLwLineBest_0) (L1000065 : Q → Option YLwLineBest_1000065) (L1000054 : Q → Option YLwLineBest_1000054) (L1000041 : Q → Option YLwLineBest_1000041) (_L1000022 : Q → Option YLwLineBest_1000022) (_L1000017 : Q → Option YLwLineBest_1000017) (p0_0n : Nat) (p0_0c : List PV) (p0_1n : Nat) (p0_1c : List PV) (p0_2 : Int) (p0_3 : Int) (p1n : Nat) (p1c : List PV) : Option (Bool) :=
  bindO (F 5 (RSh.one CK.bool) []) fun (y0 : (Bool)) =>
  bif y0 then
    bindO (L1000065 (TLwLineBest_1000065a p1n p1c p0_0n p0_0c p0_1n p0_1c p0_2 p0_3)) fun z =>
    Sum.elim (fun _y1 =>
      some true) (fun y2 =>
      bindO (F 8 (RSh.agg [CK.list, CK.list, (CK.int IntKind.i64), (CK.int IntKind.i64)]) [(PV.agg [(PV.list y2.2.2.1 y2.2.2.2.1), (PV.list y2.2.2.2.2.1 y2.2.2.2.2.2.1), (PV.int IntKind.i64 y2.2.2.2.2.2.2.1), (PV.int IntKind.i64 y2.2.2.2.2.2.2.2)])]) fun (y3 : (((Nat) × (List PV)) × (((Nat) × (List PV)) × ((Int) × (Int))))) =>
      bindO (F 13 (RSh.one CK.list) [(PV.list y2.1 y2.2.1)]) fun (y4 : ((Nat) × (List PV))) =>
      bindO (F 12 (RSh.tup [(Prod.mk false [(CK.int IntKind.i64)]), (Prod.mk true [(CK.int IntKind.i64), (CK.int IntKind.i64), (CK.int IntKind.i64)]), (Prod.mk false [(CK.int IntKind.i64)])]) [(PV.agg [(PV.list y3.1.1 y3.1.2), (PV.list y3.2.1.1 y3.2.1.2), (PV.int IntKind.i64 y3.2.2.1), (PV.int IntKind.i64 y3.2.2.2)]), (PV.list y4.1 y4.2)]) fun (y5 : ((Int) × ((Int) × ((Int) × ((Int) × (Int)))))) =>
      bindO (F 9 (RSh.one (CK.int IntKind.i64)) [(PV.agg [(PV.list y2.2.2.1 y2.2.2.2.1), (PV.list y2.2.2.2.2.1 y2.2.2.2.2.2.1), (PV.int IntKind.i64 y2.2.2.2.2.2.2.1), (PV.int IntKind.i64 y2.2.2.2.2.2.2.2)])]) fun (y6 : (Int)) =>
      bindO (L1000054 (TLwLineBest_1000054a y2.1 y2.2.1 y5.1 y5.2.2.2.2 y6 y2.2.2.1 y2.2.2.2.1 y2.2.2.2.2.1 y2.2.2.2.2.2.1 y2.2.2.2.2.2.2.1 y2.2.2.2.2.2.2.2 y5.2.1 y5.2.2.1 y5.2.2.2.1)) fun y7 =>
      bif (y7.2.2.2.2.1 != (0 : Int)) then
        bif (y7.2.2.2.1 == y7.2.2.2.2.1) then
          bif (y7.2.2.1 == (0 : Int)) then
            bif ((y7.2.2.2.2.2.2.2.2.2.2.2.1 == (0 : Int)) && ((y7.2.2.2.2.2.2.2.2.2.2.2.2.1 == (0 : Int)) && ((y7.2.2.2.2.2.2.2.2.2.2.2.2.2 == (0 : Int)) && true))) then
              some true
            else some false
          else some false
        else some false
      else bindO (F 15 (RSh.tup [(Prod.mk false [(CK.int IntKind.i64)]), (Prod.mk true [(CK.int IntKind.i64), (CK.int IntKind.i64), (CK.int IntKind.i64)])]) [(PV.agg [(PV.list y7.2.2.2.2.2.1 y7.2.2.2.2.2.2.1), (PV.list y7.2.2.2.2.2.2.2.1 y7.2.2.2.2.2.2.2.2.1), (PV.int IntKind.i64 y7.2.2.2.2.2.2.2.2.2.1), (PV.int IntKind.i64 y7.2.2.2.2.2.2.2.2.2.2.1)]), (PV.list y7.1 y7.2.1)]) fun (y8 : ((Int) × ((Int) × ((Int) × (Int))))) =>
      bindO (L1000041 (TLwLineBest_1000041a y7.1 y7.2.1 y7.2.2.1 y7.2.2.2.1 y8.1 y7.2.2.2.2.2.1 y7.2.2.2.2.2.2.1 y7.2.2.2.2.2.2.2.1 y7.2.2.2.2.2.2.2.2.1 y7.2.2.2.2.2.2.2.2.2.1 y7.2.2.2.2.2.2.2.2.2.2.1 y7.2.2.2.2.2.2.2.2.2.2.2.1 y7.2.2.2.2.2.2.2.2.2.2.2.2.1 y7.2.2.2.2.2.2.2.2.2.2.2.2.2 y8.2.1 y8.2.2.1 y8.2.2.2)) fun z =>
      Sum.elim (fun _y9 =>
        some false) (fun y10 =>
        bindO (L0 (TLwLineBest_0a y10.1 y10.2.1 y10.2.2.1 false (0 : Int) y10.2.2.2.1 y10.2.2.2.2.1 y10.2.2.2.2.2.1 y10.2.2.2.2.2.2.1 y10.2.2.2.2.2.2.2.1 y10.2.2.2.2.2.2.2.2.1 y10.2.2.2.2.2.2.2.2.2.1 y10.2.2.2.2.2.2.2.2.2.2.1 y10.2.2.2.2.2.2.2.2.2.2.2)) fun z =>
        Sum.elim (fun y11 =>
          bif y11.1 then
            some true
          else some false) (fun _y12 =>
          some false) z) z) z
  else some false
theorem tLwLineBest_eq (F : FnT) (L0 : Q → Option YLwLineBest_0) (L1000065 : Q → Option YLwLineBest_1000065) (L1000054 : Q → Option YLwLineBest_1000054) (L1000041 : Q → Option YLwLineBest_1000041) (L1000022 : Q → Option YLwLineBest_1000022) (L1000017 : Q → Option YLwLineBest_1000017) (p0_0n : Nat) (p0_0c : List PV) (p0_1n : Nat) (p0_1c : List PV) (p0_2 : Int) (p0_3 : Int) (p1n : Nat) (p1c : List PV) : semF (callP F ELwLineBest 20) s4 (loopT [⟨0, YLwLineBest_0, L0, XLLwLineBest_0⟩, ⟨1000065, YLwLineBest_1000065, L1000065, XLLwLineBest_1000065⟩, ⟨1000054, YLwLineBest_1000054, L1000054, XLLwLineBest_1000054⟩, ⟨1000041, YLwLineBest_1000041, L1000041, XLLwLineBest_1000041⟩, ⟨1000022, YLwLineBest_1000022, L1000022, XLLwLineBest_1000022⟩, ⟨1000017, YLwLineBest_1000017, L1000017, XLLwLineBest_1000017⟩]) 400 a4 [PV.agg [PV.list p0_0n p0_0c, PV.list p0_1n p0_1c, PV.int IntKind.i64 p0_2, PV.int IntKind.i64 p0_3], PV.list p1n p1c] (fun rv => decR (RSh.one CK.bool) rv.pv) = tLwLineBest F L0 L1000065 L1000054 L1000041 L1000022 L1000017 p0_0n p0_0c p0_1n p0_1c p0_2 p0_3 p1n p1c := by kernel_rfl
noncomputable abbrev FLwLineBest (args : List PV) := Fn env 4 (RSh.one CK.bool) args
theorem FLwLineBest_of  (p0_0n : Nat) (p0_0c : List PV) (p0_1n : Nat) (p0_1c : List PV) (p0_2 : Int) (p0_3 : Int) (p1n : Nat) (p1c : List PV) {res : (Bool)} (h : tLwLineBest (Fn env) LLwLineBest_0 LLwLineBest_1000065 LLwLineBest_1000054 LLwLineBest_1000041 LLwLineBest_1000022 LLwLineBest_1000017 p0_0n p0_0c p0_1n p0_1c p0_2 p0_3 p1n p1c = some res) : FLwLineBest [PV.agg [PV.list p0_0n p0_0c, PV.list p0_1n p0_1c, PV.int IntKind.i64 p0_2, PV.int IntKind.i64 p0_3], PV.list p1n p1c] = some res :=
  fn_of ELwLineBest_ok rfl rfl (lo_cons (lpO_ok ULwLineBest) (lo_cons (lpO_ok ULwLineBest) (lo_cons (lpO_ok ULwLineBest) (lo_cons (lpO_ok ULwLineBest) (lo_cons (lpO_ok ULwLineBest) (lo_cons (lpO_ok ULwLineBest) lo_nil)))))) ((tLwLineBest_eq _ _ _ _ _ _ _ _ _ _ _ _ _ _ _).trans h)

end Gv
