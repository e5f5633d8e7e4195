/- What the functions do, round by round: M2. -/
import Derived.Test.YtkbbilbpejbmiaaM1
namespace Gv
open Go
set_option maxRecDepth 100000

/-! ### line_isDark -/

def Eline_isDark : List Entry := [.out 105 (RSh.one (CK.int IntKind.i64))]
theorem Eline_isDark_ok : ∀ e ∈ Eline_isDark, EntOK env e := (ent_out ent_nil)
theorem Uline_isDark : uniq ((blocksOf a86.body).map (·.1)) = true := by kernel_rfl
def tline_isDark (F : FnT) (p0n : Nat) (p0c : List PV) : Option (Bool) :=
  bindO (F 105 (RSh.one (CK.int IntKind.i64)) [(PV.list p0n p0c)]) fun (y0 : (Int)) =>
  bif (y0 == (0 : Int)) then
    some true
  else some false
theorem tline_isDark_eq (F : FnT) (p0n : Nat) (p0c : List PV) : semF (callP F Eline_isDark 20) s86 (loopT []) 400 a86 [PV.list p0n p0c] (fun rv => decR (RSh.one CK.bool) rv.pv) = tline_isDark F p0n p0c := by kernel_rfl
noncomputable abbrev Fline_isDark (args : List PV) := Fn env 86 (RSh.one CK.bool) args
theorem Fline_isDark_of  (p0n : Nat) (p0c : List PV) {res : (Bool)} (h : tline_isDark (Fn env) p0n p0c = some res) : Fline_isDark [PV.list p0n p0c] = some res :=
  fn_of Eline_isDark_ok rfl rfl lo_nil ((tline_isDark_eq _ _ _).trans h)

/-! ### line_near_1 -/

def Eline_near_1 : List Entry := []
theorem Eline_near_1_ok : ∀ e ∈ Eline_near_1, EntOK env e := ent_nil
def Tline_near_1_0a (i0 : Int) (i1 : Int) (n2 : Nat) (c3 : List PV) (i4 : Int) (c5 : List (Option Nat)) (n6 : Nat) (n7 : Nat) (c8 : List PV) : Q := ⟨(tm 31 [(0, AV.yv), (1, (AV.p (PV.imm [(PV.int IntKind.i64 i0)] 0))), (2, (AV.p (PV.imm [(PV.int IntKind.i64 i1)] 0))), (3, (AV.p (PV.imm [(PV.list n2 c3)] 0))), (5, (AV.p (PV.int IntKind.i64 i4)))]), (mm 31 [(0, (Bk.log c5 n6 n7 c8))])⟩
def Xline_near_1_0a (y : List (Option Nat) × Nat × Nat × List PV) : Ext × Q := (Ext.ret, ⟨(tm 31 []), (mm 31 [(0, (Bk.log y.1 y.2.1 y.2.2.1 y.2.2.2))])⟩)
def Iline_near_1_0a (q : Ext × S) : List (Option Nat) × Nat × Nat × List PV := ((pB_log0 (avM q.2 0)), (pB_log1 (avM q.2 0)), (pB_log2 (avM q.2 0)), (pB_log3 (avM q.2 0)))
def Xline_near_1_0b (y : List (Option Nat) × Nat × Nat × List PV) : Ext × Q := (Ext.normal, ⟨(tm 31 []), (mm 31 [(0, (Bk.log y.1 y.2.1 y.2.2.1 y.2.2.2))])⟩)
def Iline_near_1_0b (q : Ext × S) : List (Option Nat) × Nat × Nat × List PV := ((pB_log0 (avM q.2 0)), (pB_log1 (avM q.2 0)), (pB_log2 (avM q.2 0)), (pB_log3 (avM q.2 0)))
abbrev Yline_near_1_0 : Type := (List (Option Nat) × Nat × Nat × List PV) ⊕ ((List (Option Nat) × Nat × Nat × List PV))
def XLline_near_1_0 : XL Yline_near_1_0 := .more Xline_near_1_0a (.one Xline_near_1_0b)
def Iline_near_1_0 (q : Ext × S) : Yline_near_1_0 := bif (cE q.1 == 2) then (Sum.inl (Iline_near_1_0a q)) else (Sum.inr (Iline_near_1_0b q))
theorem XIline_near_1_0a (y : List (Option Nat) × Nat × Nat × List PV) : Iline_near_1_0 (xe (Xline_near_1_0a y)) = (Sum.inl y) := rfl
theorem XIline_near_1_0b (y : List (Option Nat) × Nat × Nat × List PV) : Iline_near_1_0 (xe (Xline_near_1_0b y)) = (Sum.inr y) := rfl
theorem XIline_near_1_0 (y : Yline_near_1_0) : Iline_near_1_0 (xe (XLline_near_1_0.fn y)) = y := (match y with | .inl y => XIline_near_1_0a y | .inr y => XIline_near_1_0b y)
noncomputable abbrev Lline_near_1_0 : Q → Option Yline_near_1_0 := lpO env a109.body 0 XLline_near_1_0
noncomputable abbrev Rline_near_1_0 : Q → Option (Ext × S) := lpR env a109.body 0
theorem Lline_near_1_0a_of {s : Q} {y : List (Option Nat) × Nat × Nat × List PV} (h : Rline_near_1_0 s = exO (Xline_near_1_0a y)) : Lline_near_1_0 s = some (Sum.inl y) := lpO_of Iline_near_1_0 XIline_near_1_0 (y := (Sum.inl y)) h
theorem Lline_near_1_0b_of {s : Q} {y : List (Option Nat) × Nat × Nat × List PV} (h : Rline_near_1_0 s = exO (Xline_near_1_0b y)) : Lline_near_1_0 s = some (Sum.inr y) := lpO_of Iline_near_1_0 XIline_near_1_0 (y := (Sum.inr y)) h
theorem Uline_near_1 : uniq ((blocksOf a109.body).map (·.1)) = true := by kernel_rfl
def Bline_near_1_0a (F : FnT) (N : Q → Option (Ext × S)) (E : Ext × Q → Option (Ext × S)) (L0 : Q → Option Yline_near_1_0) (i0 : Int) (i1 : Int) (n2 : Nat) (c3 : List PV) (i4 : Int) (c5 : List (Option Nat)) (n6 : Nat) (n7 : Nat) (c8 : List PV) : Option (Ext × S) :=
  bif (decide (i4 ≤ (w64 (i0 + i1)))) then
    bif (decide (i4 < ((Prod.mk n2 c3).1 : Int))) then
      bif (decide (((0 : Int) ≤ i4) ∧ (i4 < ((Prod.mk n2 c3).1 : Int)))) then
        bindO (intC IntKind.i64 ((Prod.mk n2 c3).2[((Int.toNat i4) * 1)]?)) fun x0 =>
        bif (decide (n7 ≤ n6)) then
          bif (Gv.shapeOK c5 [(PV.int IntKind.i64 i4), (PV.int IntKind.i64 x0)]) then
            bif (n7 != n6) then
              N (Tline_near_1_0a i0 i1 n2 c3 (w64 (i4 + (1 : Int))) c5 n6 (n7 + 1) (c8 ++ [(PV.int IntKind.i64 i4), (PV.int IntKind.i64 x0)]))
            else E (Xline_near_1_0a (c5, n6, (n7 + 1), (c8 ++ [(PV.int IntKind.i64 i4), (PV.int IntKind.i64 x0)])))
          else none
        else none
      else none
    else E (Xline_near_1_0b (c5, n6, n7, c8))
  else E (Xline_near_1_0b (c5, n6, n7, c8))
theorem Bline_near_1_0a_eq (F : FnT) (N : Q → Option (Ext × S)) (E : Ext × Q → Option (Ext × S)) (L0 : Q → Option Yline_near_1_0) (i0 : Int) (i1 : Int) (n2 : Nat) (c3 : List PV) (i4 : Int) (c5 : List (Option Nat)) (n6 : Nat) (n7 : Nat) (c8 : List PV) : semB (callP F Eline_near_1 20) s109 (loopT [⟨0, Yline_near_1_0, L0, XLline_near_1_0⟩]) 400 (blkIn a109.body 0) N E (Tline_near_1_0a i0 i1 n2 c3 i4 c5 n6 n7 c8) = Bline_near_1_0a F N E L0 i0 i1 n2 c3 i4 c5 n6 n7 c8 := by kernel_rfl
theorem Rline_near_1_0a_of  (i0 : Int) (i1 : Int) (n2 : Nat) (c3 : List PV) (i4 : Int) (c5 : List (Option Nat)) (n6 : Nat) (n7 : Nat) (c8 : List PV) {r : Ext × S} (h : Bline_near_1_0a (Fn env) Rline_near_1_0 exO Lline_near_1_0 i0 i1 n2 c3 i4 c5 n6 n7 c8 = some r) : Rline_near_1_0 (Tline_near_1_0a i0 i1 n2 c3 i4 c5 n6 n7 c8) = some r :=
  lp_of Eline_near_1_ok (by kernel_rfl) (lo_cons (lpO_ok Uline_near_1) lo_nil) (by kernel_rfl) ((Bline_near_1_0a_eq _ _ _ _ _ _ _ _ _ _ _ _ _).trans h)
def tline_near_1 (F : FnT) (L0 : Q → Option Yline_near_1_0)(k : Nat) (a b : Int) (n : Nat) (cs : List PV) : Option ((Nat) × (List PV)) :=
  bindO (L0 (Tline_near_1_0a a b n cs (if ((0 : Int) > (w64 (a - b))) then (0 : Int) else (w64 (a - b))) [Option.none, Option.none] k 0 [])) fun z =>
  Sum.elim (fun y0 =>
    some (y0.2.2.1, y0.2.2.2)) (fun y1 =>
    some (y1.2.2.1, y1.2.2.2)) z
theorem tline_near_1_eq (F : FnT) (L0 : Q → Option Yline_near_1_0)(k : Nat) (a b : Int) (n : Nat) (cs : List PV) : semF (callP F Eline_near_1 20) s109 (loopT [⟨0, Yline_near_1_0, L0, XLline_near_1_0⟩]) 400 a109 [.it [none, none] (k + 1), .imm [.int .i64 a] 0, .imm [.int .i64 b] 0, .imm [.list n cs] 0] (fun rv => decR (RSh.one CK.list) rv.pv) = tline_near_1 F L0 k a b n cs := by kernel_rfl
noncomputable abbrev Fline_near_1 (args : List PV) := Fn env 109 (RSh.one CK.list) args
theorem Fline_near_1_of (k : Nat) (a b : Int) (n : Nat) (cs : List PV) {res : ((Nat) × (List PV))} (h : tline_near_1 (Fn env) Lline_near_1_0 k a b n cs = some res) : Fline_near_1 [.it [none, none] (k + 1), .imm [.int .i64 a] 0, .imm [.int .i64 b] 0, .imm [.list n cs] 0] = some res :=
  fn_of Eline_near_1_ok rfl rfl (lo_cons (lpO_ok Uline_near_1) lo_nil) ((tline_near_1_eq _ _ _ _ _ _ _).trans h)

/-! ### line_AllS_1 -/

def Eline_AllS_1 : List Entry := []
theorem Eline_AllS_1_ok : ∀ e ∈ Eline_AllS_1, EntOK env e := ent_nil
def Tline_AllS_1_0a (n0 : Nat) (c1 : List PV) (i2 : Int) (i3 : Int) (c4 : List (Option Nat)) (n5 : Nat) (n6 : Nat) (c7 : List PV) : Q := ⟨(tm 18 [(0, AV.yv), (5, (AV.p (PV.list n0 c1))), (6, (AV.p (PV.int IntKind.i64 i2))), (7, (AV.p (PV.int IntKind.i64 i3)))]), (mm 18 [(0, (Bk.log c4 n5 n6 c7))])⟩
def Xline_AllS_1_0a (y : List (Option Nat) × Nat × Nat × List PV) : Ext × Q := (Ext.ret, ⟨(tm 18 []), (mm 18 [(0, (Bk.log y.1 y.2.1 y.2.2.1 y.2.2.2))])⟩)
def Iline_AllS_1_0a (q : Ext × S) : List (Option Nat) × Nat × Nat × List PV := ((pB_log0 (avM q.2 0)), (pB_log1 (avM q.2 0)), (pB_log2 (avM q.2 0)), (pB_log3 (avM q.2 0)))
def Xline_AllS_1_0b (y : List (Option Nat) × Nat × Nat × List PV) : Ext × Q := (Ext.normal, ⟨(tm 18 []), (mm 18 [(0, (Bk.log y.1 y.2.1 y.2.2.1 y.2.2.2))])⟩)
def Iline_AllS_1_0b (q : Ext × S) : List (Option Nat) × Nat × Nat × List PV := ((pB_log0 (avM q.2 0)), (pB_log1 (avM q.2 0)), (pB_log2 (avM q.2 0)), (pB_log3 (avM q.2 0)))
abbrev Yline_AllS_1_0 : Type := (List (Option Nat) × Nat × Nat × List PV) ⊕ ((List (Option Nat) × Nat × Nat × List PV))
def XLline_AllS_1_0 : XL Yline_AllS_1_0 := .more Xline_AllS_1_0a (.one Xline_AllS_1_0b)
def Iline_AllS_1_0 (q : Ext × S) : Yline_AllS_1_0 := bif (cE q.1 == 2) then (Sum.inl (Iline_AllS_1_0a q)) else (Sum.inr (Iline_AllS_1_0b q))
theorem XIline_AllS_1_0a (y : List (Option Nat) × Nat × Nat × List PV) : Iline_AllS_1_0 (xe (Xline_AllS_1_0a y)) = (Sum.inl y) := rfl
theorem XIline_AllS_1_0b (y : List (Option Nat) × Nat × Nat × List PV) : Iline_AllS_1_0 (xe (Xline_AllS_1_0b y)) = (Sum.inr y) := rfl
theorem XIline_AllS_1_0 (y : Yline_AllS_1_0) : Iline_AllS_1_0 (xe (XLline_AllS_1_0.fn y)) = y := (match y with | .inl y => XIline_AllS_1_0a y | .inr y => XIline_AllS_1_0b y)
noncomputable abbrev Lline_AllS_1_0 : Q → Option Yline_AllS_1_0 := lpO env a111.body 0 XLline_AllS_1_0
noncomputable abbrev Rline_AllS_1_0 : Q → Option (Ext × S) := lpR env a111.body 0
theorem Lline_AllS_1_0a_of {s : Q} {y : List (Option Nat) × Nat × Nat × List PV} (h : Rline_AllS_1_0 s = exO (Xline_AllS_1_0a y)) : Lline_AllS_1_0 s = some (Sum.inl y) := lpO_of Iline_AllS_1_0 XIline_AllS_1_0 (y := (Sum.inl y)) h
theorem Lline_AllS_1_0b_of {s : Q} {y : List (Option Nat) × Nat × Nat × List PV} (h : Rline_AllS_1_0 s = exO (Xline_AllS_1_0b y)) : Lline_AllS_1_0 s = some (Sum.inr y) := lpO_of Iline_AllS_1_0 XIline_AllS_1_0 (y := (Sum.inr y)) h
theorem Uline_AllS_1 : uniq ((blocksOf a111.body).map (·.1)) = true := by kernel_rfl
def Bline_AllS_1_0a (F : FnT) (N : Q → Option (Ext × S)) (E : Ext × Q → Option (Ext × S)) (L0 : Q → Option Yline_AllS_1_0) (n0 : Nat) (c1 : List PV) (i2 : Int) (i3 : Int) (c4 : List (Option Nat)) (n5 : Nat) (n6 : Nat) (c7 : List PV) : Option (Ext × S) :=
  bif (decide (i3 < i2)) then
    bif (decide (((0 : Int) ≤ i3) ∧ (i3 < (n0 : Int)))) then
      bindO (intC IntKind.i64 (c1[((Int.toNat i3) * 1)]?)) fun x0 =>
      bif (decide (n6 ≤ n5)) then
        bif (Gv.shapeOK c4 [(PV.int IntKind.i64 i3), (PV.int IntKind.i64 x0)]) then
          bif (n6 != n5) then
            N (Tline_AllS_1_0a n0 c1 i2 (w64 (i3 + (1 : Int))) c4 n5 (n6 + 1) (c7 ++ [(PV.int IntKind.i64 i3), (PV.int IntKind.i64 x0)]))
          else E (Xline_AllS_1_0a (c4, n5, (n6 + 1), (c7 ++ [(PV.int IntKind.i64 i3), (PV.int IntKind.i64 x0)])))
        else none
      else none
    else none
  else E (Xline_AllS_1_0b (c4, n5, n6, c7))
theorem Bline_AllS_1_0a_eq (F : FnT) (N : Q → Option (Ext × S)) (E : Ext × Q → Option (Ext × S)) (L0 : Q → Option Yline_AllS_1_0) (n0 : Nat) (c1 : List PV) (i2 : Int) (i3 : Int) (c4 : List (Option Nat)) (n5 : Nat) (n6 : Nat) (c7 : List PV) : semB (callP F Eline_AllS_1 20) s111 (loopT [⟨0, Yline_AllS_1_0, L0, XLline_AllS_1_0⟩]) 400 (blkIn a111.body 0) N E (Tline_AllS_1_0a n0 c1 i2 i3 c4 n5 n6 c7) = Bline_AllS_1_0a F N E L0 n0 c1 i2 i3 c4 n5 n6 c7 := by kernel_rfl
theorem Rline_AllS_1_0a_of  (n0 : Nat) (c1 : List PV) (i2 : Int) (i3 : Int) (c4 : List (Option Nat)) (n5 : Nat) (n6 : Nat) (c7 : List PV) {r : Ext × S} (h : Bline_AllS_1_0a (Fn env) Rline_AllS_1_0 exO Lline_AllS_1_0 n0 c1 i2 i3 c4 n5 n6 c7 = some r) : Rline_AllS_1_0 (Tline_AllS_1_0a n0 c1 i2 i3 c4 n5 n6 c7) = some r :=
  lp_of Eline_AllS_1_ok (by kernel_rfl) (lo_cons (lpO_ok Uline_AllS_1) lo_nil) (by kernel_rfl) ((Bline_AllS_1_0a_eq _ _ _ _ _ _ _ _ _ _ _ _).trans h)
def tline_AllS_1 (F : FnT) (L0 : Q → Option Yline_AllS_1_0)(k : Nat) (n : Nat) (cs : List PV) : Option ((Nat) × (List PV)) :=
  bindO (L0 (Tline_AllS_1_0a (Prod.mk n cs).1 (Prod.mk n cs).2 ((Prod.mk n cs).1 : Int) (0 : Int) [Option.none, Option.none] k 0 [])) fun z =>
  Sum.elim (fun y0 =>
    some (y0.2.2.1, y0.2.2.2)) (fun y1 =>
    some (y1.2.2.1, y1.2.2.2)) z
theorem tline_AllS_1_eq (F : FnT) (L0 : Q → Option Yline_AllS_1_0)(k : Nat) (n : Nat) (cs : List PV) : semF (callP F Eline_AllS_1 20) s111 (loopT [⟨0, Yline_AllS_1_0, L0, XLline_AllS_1_0⟩]) 400 a111 [.it [none, none] (k + 1), .imm [.list n cs] 0] (fun rv => decR (RSh.one CK.list) rv.pv) = tline_AllS_1 F L0 k n cs := by kernel_rfl
noncomputable abbrev Fline_AllS_1 (args : List PV) := Fn env 111 (RSh.one CK.list) args
theorem Fline_AllS_1_of (k : Nat) (n : Nat) (cs : List PV) {res : ((Nat) × (List PV))} (h : tline_AllS_1 (Fn env) Lline_AllS_1_0 k n cs = some res) : Fline_AllS_1 [.it [none, none] (k + 1), .imm [.list n cs] 0] = some res :=
  fn_of Eline_AllS_1_ok rfl rfl (lo_cons (lpO_ok Uline_AllS_1) lo_nil) ((tline_AllS_1_eq _ _ _ _ _).trans h)

/-! ### line_sums_near -/

def Eline_sums_near : List Entry := [.out 109 (RSh.one CK.list)]
theorem Eline_sums_near_ok : ∀ e ∈ Eline_sums_near, EntOK env e := (ent_out ent_nil)
def Tline_sums_near_3000019a (n0 : Nat) (c1 : List PV) (i2 : Int) (i3 : Int) (i4 : Int) : Q := ⟨(tm 43 [(2, (AV.loc 2 0)), (3, (AV.loc 3 0)), (19, (AV.p (PV.list n0 c1))), (20, (AV.p (PV.int IntKind.i64 i2)))]), (mm 43 [(2, (Bk.pcs true [(PV.int IntKind.i64 i3)])), (3, (Bk.pcs true [(PV.int IntKind.i64 i4)]))])⟩
def Xline_sums_near_3000019a (y : Int × Int) : Ext × Q := (Ext.normal, ⟨(tm 43 [(2, (AV.loc 2 0)), (3, (AV.loc 3 0))]), (mm 43 [(2, (Bk.pcs true [(PV.int IntKind.i64 y.1)])), (3, (Bk.pcs true [(PV.int IntKind.i64 y.2)]))])⟩)
def Iline_sums_near_3000019a (q : Ext × S) : Int × Int := ((pP_int1 (hdP (pB_pcs1 (avM q.2 2)))), (pP_int1 (hdP (pB_pcs1 (avM q.2 3)))))
abbrev Yline_sums_near_3000019 : Type := Int × Int
def XLline_sums_near_3000019 : XL Yline_sums_near_3000019 := .one Xline_sums_near_3000019a
def Iline_sums_near_3000019 (q : Ext × S) : Yline_sums_near_3000019 := (Iline_sums_near_3000019a q)
theorem XIline_sums_near_3000019a (y : Int × Int) : Iline_sums_near_3000019 (xe (Xline_sums_near_3000019a y)) = y := rfl
theorem XIline_sums_near_3000019 (y : Yline_sums_near_3000019) : Iline_sums_near_3000019 (xe (XLline_sums_near_3000019.fn y)) = y := XIline_sums_near_3000019a y
noncomputable abbrev Lline_sums_near_3000019 : Q → Option Yline_sums_near_3000019 := lpO env a107.body 3000019 XLline_sums_near_3000019
noncomputable abbrev Rline_sums_near_3000019 : Q → Option (Ext × S) := lpR env a107.body 3000019
theorem Lline_sums_near_3000019a_of {s : Q} {y : Int × Int} (h : Rline_sums_near_3000019 s = exO (Xline_sums_near_3000019a y)) : Lline_sums_near_3000019 s = some y := lpO_of Iline_sums_near_3000019 XIline_sums_near_3000019 (y := y) h
theorem Uline_sums_near : uniq ((blocksOf a107.body).map (·.1)) = true := by kernel_rfl
def Bline_sums_near_3000019a (F : FnT) (N : Q → Option (Ext × S)) (E : Ext × Q → Option (Ext × S)) (L3000019 : Q → Option Yline_sums_near_3000019) (n0 : Nat) (c1 : List PV) (i2 : Int) (i3 : Int) (i4 : Int) : Option (Ext × S) :=
  bif (decide (i2 < (n0 : Int))) then
    bif (decide (((0 : Int) ≤ i2) ∧ (i2 < (n0 : Int)))) then
      bindO (intC IntKind.i64 (c1[(((Int.toNat i2) * 2) + 0)]?)) fun x0 =>
      bindO (intC IntKind.i64 (c1[(((Int.toNat i2) * 2) + 1)]?)) fun x1 =>
      N (Tline_sums_near_3000019a n0 c1 (w64 (i2 + (1 : Int))) (w64 (i3 + x1)) (w64 (i4 + (w64 (x0 * x1)))))
    else none
  else E (Xline_sums_near_3000019a (i3, i4))
theorem Bline_sums_near_3000019a_eq (F : FnT) (N : Q → Option (Ext × S)) (E : Ext × Q → Option (Ext × S)) (L3000019 : Q → Option Yline_sums_near_3000019) (n0 : Nat) (c1 : List PV) (i2 : Int) (i3 : Int) (i4 : Int) : semB (callP F Eline_sums_near 20) s107 (loopT [⟨3000019, Yline_sums_near_3000019, L3000019, XLline_sums_near_3000019⟩]) 400 (blkIn a107.body 3000019) N E (Tline_sums_near_3000019a n0 c1 i2 i3 i4) = Bline_sums_near_3000019a F N E L3000019 n0 c1 i2 i3 i4 := by kernel_rfl
theorem Rline_sums_near_3000019a_of  (n0 : Nat) (c1 : List PV) (i2 : Int) (i3 : Int) (i4 : Int) {r : Ext × S} (h : Bline_sums_near_3000019a (Fn env) Rline_sums_near_3000019 exO Lline_sums_near_3000019 n0 c1 i2 i3 i4 = some r) : Rline_sums_near_3000019 (Tline_sums_near_3000019a n0 c1 i2 i3 i4) = some r :=
  lp_of Eline_sums_near_ok (by kernel_rfl) (lo_cons (lpO_ok Uline_sums_near) lo_nil) (by kernel_rfl) ((Bline_sums_near_3000019a_eq _ _ _ _ _ _ _ _ _).trans h)
def tline_sums_near (F : FnT) (L3000019 : Q → Option Yline_sums_near_3000019)(a b : Int) (n : Nat) (cs : List PV) : Option ((Int) × (Int)) :=
  bindO (F 109 (RSh.one CK.list) [(PV.it [Option.none, Option.none] 0), (PV.imm [(PV.int IntKind.i64 a)] 0), (PV.imm [(PV.int IntKind.i64 b)] 0), (PV.imm [(PV.list n cs)] 0)]) fun (y0 : ((Nat) × (List PV))) =>
  bindO (L3000019 (Tline_sums_near_3000019a y0.1 y0.2 (0 : Int) (0 : Int) (0 : Int))) fun y1 =>
  some (y1.1, y1.2)
theorem tline_sums_near_eq (F : FnT) (L3000019 : Q → Option Yline_sums_near_3000019)(a b : Int) (n : Nat) (cs : List PV) : semF (callP F Eline_sums_near 20) s107 (loopT [⟨3000019, Yline_sums_near_3000019, L3000019, XLline_sums_near_3000019⟩]) 400 a107 [.fn 109 [.imm [.int .i64 a] 0, .imm [.int .i64 b] 0, .imm [.list n cs] 0]] (fun rv => decR (RSh.tup [(Prod.mk false [(CK.int IntKind.i64)]), (Prod.mk false [(CK.int IntKind.i64)])]) rv.pv) = tline_sums_near F L3000019 a b n cs := by kernel_rfl
noncomputable abbrev Fline_sums_near (args : List PV) := Fn env 107 (RSh.tup [(Prod.mk false [(CK.int IntKind.i64)]), (Prod.mk false [(CK.int IntKind.i64)])]) args
theorem Fline_sums_near_of (a b : Int) (n : Nat) (cs : List PV) {res : ((Int) × (Int))} (h : tline_sums_near (Fn env) Lline_sums_near_3000019 a b n cs = some res) : Fline_sums_near [.fn 109 [.imm [.int .i64 a] 0, .imm [.int .i64 b] 0, .imm [.list n cs] 0]] = some res :=
  fn_of Eline_sums_near_ok rfl rfl (lo_cons (lpO_ok Uline_sums_near) lo_nil) ((tline_sums_near_eq _ _ _ _ _ _).trans h)

/-! ### line_sums_allS -/

def Eline_sums_allS : List Entry := [.out 111 (RSh.one CK.list)]
theorem Eline_sums_allS_ok : ∀ e ∈ Eline_sums_allS, EntOK env e := (ent_out ent_nil)
def Tline_sums_allS_3000019a (n0 : Nat) (c1 : List PV) (i2 : Int) (i3 : Int) (i4 : Int) : Q := ⟨(tm 43 [(2, (AV.loc 2 0)), (3, (AV.loc 3 0)), (19, (AV.p (PV.list n0 c1))), (20, (AV.p (PV.int IntKind.i64 i2)))]), (mm 43 [(2, (Bk.pcs true [(PV.int IntKind.i64 i3)])), (3, (Bk.pcs true [(PV.int IntKind.i64 i4)]))])⟩
def Xline_sums_allS_3000019a (y : Int × Int) : Ext × Q := (Ext.normal, ⟨(tm 43 [(2, (AV.loc 2 0)), (3, (AV.loc 3 0))]), (mm 43 [(2, (Bk.pcs true [(PV.int IntKind.i64 y.1)])), (3, (Bk.pcs true [(PV.int IntKind.i64 y.2)]))])⟩)
def Iline_sums_allS_3000019a (q : Ext × S) : Int × Int := ((pP_int1 (hdP (pB_pcs1 (avM q.2 2)))), (pP_int1 (hdP (pB_pcs1 (avM q.2 3)))))
abbrev Yline_sums_allS_3000019 : Type := Int × Int
def XLline_sums_allS_3000019 : XL Yline_sums_allS_3000019 := .one Xline_sums_allS_3000019a
def Iline_sums_allS_3000019 (q : Ext × S) : Yline_sums_allS_3000019 := (Iline_sums_allS_3000019a q)
theorem XIline_sums_allS_3000019a (y : Int × Int) : Iline_sums_allS_3000019 (xe (Xline_sums_allS_3000019a y)) = y := rfl
theorem XIline_sums_allS_3000019 (y : Yline_sums_allS_3000019) : Iline_sums_allS_3000019 (xe (XLline_sums_allS_3000019.fn y)) = y := XIline_sums_allS_3000019a y
noncomputable abbrev Lline_sums_allS_3000019 : Q → Option Yline_sums_allS_3000019 := lpO env a107.body 3000019 XLline_sums_allS_3000019
noncomputable abbrev Rline_sums_allS_3000019 : Q → Option (Ext × S) := lpR env a107.body 3000019
theorem Lline_sums_allS_3000019a_of {s : Q} {y : Int × Int} (h : Rline_sums_allS_3000019 s = exO (Xline_sums_allS_3000019a y)) : Lline_sums_allS_3000019 s = some y := lpO_of Iline_sums_allS_3000019 XIline_sums_allS_3000019 (y := y) h
theorem Uline_sums_allS : uniq ((blocksOf a107.body).map (·.1)) = true := by kernel_rfl
def Bline_sums_allS_3000019a (F : FnT) (N : Q → Option (Ext × S)) (E : Ext × Q → Option (Ext × S)) (L3000019 : Q → Option Yline_sums_allS_3000019) (n0 : Nat) (c1 : List PV) (i2 : Int) (i3 : Int) (i4 : Int) : Option (Ext × S) :=
  bif (decide (i2 < (n0 : Int))) then
    bif (decide (((0 : Int) ≤ i2) ∧ (i2 < (n0 : Int)))) then
      bindO (intC IntKind.i64 (c1[(((Int.toNat i2) * 2) + 0)]?)) fun x0 =>
      bindO (intC IntKind.i64 (c1[(((Int.toNat i2) * 2) + 1)]?)) fun x1 =>
      N (Tline_sums_allS_3000019a n0 c1 (w64 (i2 + (1 : Int))) (w64 (i3 + x1)) (w64 (i4 + (w64 (x0 * x1)))))
    else none
  else E (Xline_sums_allS_3000019a (i3, i4))
theorem Bline_sums_allS_3000019a_eq (F : FnT) (N : Q → Option (Ext × S)) (E : Ext × Q → Option (Ext × S)) (L3000019 : Q → Option Yline_sums_allS_3000019) (n0 : Nat) (c1 : List PV) (i2 : Int) (i3 : Int) (i4 : Int) : semB (callP F Eline_sums_allS 20) s107 (loopT [⟨3000019, Yline_sums_allS_3000019, L3000019, XLline_sums_allS_3000019⟩]) 400 (blkIn a107.body 3000019) N E (Tline_sums_allS_3000019a n0 c1 i2 i3 i4) = Bline_sums_allS_3000019a F N E L3000019 n0 c1 i2 i3 i4 := by kernel_rfl
theorem Rline_sums_allS_3000019a_of  (n0 : Nat) (c1 : List PV) (i2 : Int) (i3 : Int) (i4 : Int) {r : Ext × S} (h : Bline_sums_allS_3000019a (Fn env) Rline_sums_allS_3000019 exO Lline_sums_allS_3000019 n0 c1 i2 i3 i4 = some r) : Rline_sums_allS_3000019 (Tline_sums_allS_3000019a n0 c1 i2 i3 i4) = some r :=
  lp_of Eline_sums_allS_ok (by kernel_rfl) (lo_cons (lpO_ok Uline_sums_allS) lo_nil) (by kernel_rfl) ((Bline_sums_allS_3000019a_eq _ _ _ _ _ _ _ _ _).trans h)
def tline_sums_allS (F : FnT) (L3000019 : Q → Option Yline_sums_allS_3000019)(n : Nat) (cs : List PV) : Option ((Int) × (Int)) :=
  bindO (F 111 (RSh.one CK.list) [(PV.it [Option.none, Option.none] 0), (PV.imm [(PV.list n cs)] 0)]) fun (y0 : ((Nat) × (List PV))) =>
  bindO (L3000019 (Tline_sums_allS_3000019a y0.1 y0.2 (0 : Int) (0 : Int) (0 : Int))) fun y1 =>
  some (y1.1, y1.2)
theorem tline_sums_allS_eq (F : FnT) (L3000019 : Q → Option Yline_sums_allS_3000019)(n : Nat) (cs : List PV) : semF (callP F Eline_sums_allS 20) s107 (loopT [⟨3000019, Yline_sums_allS_3000019, L3000019, XLline_sums_allS_3000019⟩]) 400 a107 [.fn 111 [.imm [.list n cs] 0]] (fun rv => decR (RSh.tup [(Prod.mk false [(CK.int IntKind.i64)]), (Prod.mk false [(CK.int IntKind.i64)])]) rv.pv) = tline_sums_allS F L3000019 n cs := by kernel_rfl
noncomputable abbrev Fline_sums_allS (args : List PV) := Fn env 107 (RSh.tup [(Prod.mk false [(CK.int IntKind.i64)]), (Prod.mk false [(CK.int IntKind.i64)])]) args
theorem Fline_sums_allS_of (n : Nat) (cs : List PV) {res : ((Int) × (Int))} (h : tline_sums_allS (Fn env) Lline_sums_allS_3000019 n cs = some res) : Fline_sums_allS [.fn 111 [.imm [.list n cs] 0]] = some res :=
  fn_of Eline_sums_allS_ok rfl rfl (lo_cons (lpO_ok Uline_sums_allS) lo_nil) ((tline_sums_allS_eq _ _ _ _).trans h)

/-! ### line_divisor -/

def Eline_divisor : List Entry := []
theorem Eline_divisor_ok : ∀ e ∈ Eline_divisor, EntOK env e := ent_nil
def Tline_divisor_0a (i0 : Int) (i1 : Int) : Q := ⟨(tm 15 [(0, (AV.p (PV.int IntKind.i64 i0))), (1, (AV.p (PV.int IntKind.i64 i1)))]), (mm 15 [])⟩
def Xline_divisor_0a (y : Int) : Ext × Q := (Ext.normal, ⟨(tm 15 [(0, (AV.p (PV.int IntKind.i64 y)))]), (mm 15 [])⟩)
def Iline_divisor_0a (q : Ext × S) : Int := (pP_int1 (pA_p (avT q.2 0)))
abbrev Yline_divisor_0 : Type := Int
def XLline_divisor_0 : XL Yline_divisor_0 := .one Xline_divisor_0a
def Iline_divisor_0 (q : Ext × S) : Yline_divisor_0 := (Iline_divisor_0a q)
theorem XIline_divisor_0a (y : Int) : Iline_divisor_0 (xe (Xline_divisor_0a y)) = y := rfl
theorem XIline_divisor_0 (y : Yline_divisor_0) : Iline_divisor_0 (xe (XLline_divisor_0.fn y)) = y := XIline_divisor_0a y
noncomputable abbrev Lline_divisor_0 : Q → Option Yline_divisor_0 := lpO env a93.body 0 XLline_divisor_0
noncomputable abbrev Rline_divisor_0 : Q → Option (Ext × S) := lpR env a93.body 0
theorem Lline_divisor_0a_of {s : Q} {y : Int} (h : Rline_divisor_0 s = exO (Xline_divisor_0a y)) : Lline_divisor_0 s = some y := lpO_of Iline_divisor_0 XIline_divisor_0 (y := y) h
theorem Uline_divisor : uniq ((blocksOf a93.body).map (·.1)) = true := by kernel_rfl
def Bline_divisor_0a (F : FnT) (N : Q → Option (Ext × S)) (E : Ext × Q → Option (Ext × S)) (L0 : Q → Option Yline_divisor_0) (i0 : Int) (i1 : Int) : Option (Ext × S) :=
  bif (i1 != (0 : Int)) then
    bif (decide (i1 ≠ (0 : Int))) then
      N (Tline_divisor_0a i1 (Int.tmod i0 i1))
    else none
  else E (Xline_divisor_0a i0)
theorem Bline_divisor_0a_eq (F : FnT) (N : Q → Option (Ext × S)) (E : Ext × Q → Option (Ext × S)) (L0 : Q → Option Yline_divisor_0) (i0 : Int) (i1 : Int) : semB (callP F Eline_divisor 20) s93 (loopT [⟨0, Yline_divisor_0, L0, XLline_divisor_0⟩]) 400 (blkIn a93.body 0) N E (Tline_divisor_0a i0 i1) = Bline_divisor_0a F N E L0 i0 i1 := by kernel_rfl
theorem Rline_divisor_0a_of  (i0 : Int) (i1 : Int) {r : Ext × S} (h : Bline_divisor_0a (Fn env) Rline_divisor_0 exO Lline_divisor_0 i0 i1 = some r) : Rline_divisor_0 (Tline_divisor_0a i0 i1) = some r :=
  lp_of Eline_divisor_ok (by kernel_rfl) (lo_cons (lpO_ok Uline_divisor) lo_nil) (by kernel_rfl) ((Bline_divisor_0a_eq _ _ _ _ _ _).trans h)
def tline_divisor (F : FnT) (L0 : Q → Option Yline_divisor_0) (p0 : Int) (p1 : Int) : Option (Int) :=
  bindO (L0 (Tline_divisor_0a p0 p1)) fun y0 =>
  some (if ((w64 ((0 : Int) - y0)) > y0) then (w64 ((0 : Int) - y0)) else y0)
theorem tline_divisor_eq (F : FnT) (L0 : Q → Option Yline_divisor_0) (p0 : Int) (p1 : Int) : semF (callP F Eline_divisor 20) s93 (loopT [⟨0, Yline_divisor_0, L0, XLline_divisor_0⟩]) 400 a93 [PV.int IntKind.i64 p0, PV.int IntKind.i64 p1] (fun rv => decR (RSh.one (CK.int IntKind.i64)) rv.pv) = tline_divisor F L0 p0 p1 := by kernel_rfl
noncomputable abbrev Fline_divisor (args : List PV) := Fn env 93 (RSh.one (CK.int IntKind.i64)) args
theorem Fline_divisor_of  (p0 : Int) (p1 : Int) {res : (Int)} (h : tline_divisor (Fn env) Lline_divisor_0 p0 p1 = some res) : Fline_divisor [PV.int IntKind.i64 p0, PV.int IntKind.i64 p1] = some res :=
  fn_of Eline_divisor_ok rfl rfl (lo_cons (lpO_ok Uline_divisor) lo_nil) ((tline_divisor_eq _ _ _ _).trans h)

/-! ### line_lowest -/

def Eline_lowest : List Entry := [.out 93 (RSh.one (CK.int IntKind.i64))]
theorem Eline_lowest_ok : ∀ e ∈ Eline_lowest, EntOK env e := (ent_out ent_nil)
theorem Uline_lowest : uniq ((blocksOf a63.body).map (·.1)) = true := by kernel_rfl
def tline_lowest (F : FnT) (p0 : Int) (p1 : Int) : Option ((Int) × (Int)) :=
  bindO (F 93 (RSh.one (CK.int IntKind.i64)) [(PV.int IntKind.i64 p0), (PV.int IntKind.i64 p1)]) fun (y0 : (Int)) =>
  bif (decide (y0 ≠ (0 : Int))) then
    bif (decide (y0 ≠ (0 : Int))) then
      some ((w64 (Int.tdiv p0 y0)), (w64 (Int.tdiv p1 y0)))
    else none
  else none
theorem tline_lowest_eq (F : FnT) (p0 : Int) (p1 : Int) : semF (callP F Eline_lowest 20) s63 (loopT []) 400 a63 [PV.int IntKind.i64 p0, PV.int IntKind.i64 p1] (fun rv => decR (RSh.agg [(CK.int IntKind.i64), (CK.int IntKind.i64)]) rv.pv) = tline_lowest F p0 p1 := by kernel_rfl
noncomputable abbrev Fline_lowest (args : List PV) := Fn env 63 (RSh.agg [(CK.int IntKind.i64), (CK.int IntKind.i64)]) args
theorem Fline_lowest_of  (p0 : Int) (p1 : Int) {res : ((Int) × (Int))} (h : tline_lowest (Fn env) p0 p1 = some res) : Fline_lowest [PV.int IntKind.i64 p0, PV.int IntKind.i64 p1] = some res :=
  fn_of Eline_lowest_ok rfl rfl lo_nil ((tline_lowest_eq _ _ _).trans h)

/-! ### line_whole -/

def Eline_whole : List Entry := []
theorem Eline_whole_ok : ∀ e ∈ Eline_whole, EntOK env e := ent_nil
theorem Uline_whole : uniq ((blocksOf a87.body).map (·.1)) = true := by kernel_rfl
def tline_whole (F : FnT) (p0 : Int) : Option ((Int) × (Int)) :=
  some (p0, (1 : Int))
theorem tline_whole_eq (F : FnT) (p0 : Int) : semF (callP F Eline_whole 20) s87 (loopT []) 400 a87 [PV.int IntKind.i64 p0] (fun rv => decR (RSh.agg [(CK.int IntKind.i64), (CK.int IntKind.i64)]) rv.pv) = tline_whole F p0 := by kernel_rfl
noncomputable abbrev Fline_whole (args : List PV) := Fn env 87 (RSh.agg [(CK.int IntKind.i64), (CK.int IntKind.i64)]) args
theorem Fline_whole_of  (p0 : Int) {res : ((Int) × (Int))} (h : tline_whole (Fn env) p0 = some res) : Fline_whole [PV.int IntKind.i64 p0] = some res :=
  fn_of Eline_whole_ok rfl rfl lo_nil ((tline_whole_eq _ _).trans h)

/-! ### line_kindError -/

def Eline_kindError : List Entry := [.inl 85 a85 s85, .inl 73 a73 s73, .inl 60 a60 s60, .out 100 (RSh.one CK.bool)]
theorem Eline_kindError_ok : ∀ e ∈ Eline_kindError, EntOK env e := (ent_inl rfl (ent_inl rfl (ent_inl rfl (ent_out ent_nil))))
theorem Uline_kindError : uniq ((blocksOf a58.body).map (·.1)) = true := by kernel_rfl
def tline_kindError (F : FnT) (p0 : Int) : Option (Int) :=
  bindO (F 100 (RSh.one CK.bool) [(PV.int IntKind.i64 p0), (PV.imm [(PV.int IntKind.i64 (0 : Int))] 0), (PV.imm [(PV.int IntKind.i64 (3 : Int))] 0)]) fun (y0 : (Bool)) =>
  bif y0 then
    some (14 : Int)
  else some (0 : Int)
theorem tline_kindError_eq (F : FnT) (p0 : Int) : semF (callP F Eline_kindError 20) s58 (loopT []) 400 a58 [PV.int IntKind.i64 p0] (fun rv => decR (RSh.one (CK.int IntKind.i64)) rv.pv) = tline_kindError F p0 := by kernel_rfl
noncomputable abbrev Fline_kindError (args : List PV) := Fn env 58 (RSh.one (CK.int IntKind.i64)) args
theorem Fline_kindError_of  (p0 : Int) {res : (Int)} (h : tline_kindError (Fn env) p0 = some res) : Fline_kindError [PV.int IntKind.i64 p0] = some res :=
  fn_of Eline_kindError_ok rfl rfl lo_nil ((tline_kindError_eq _ _).trans h)

/-! ### line_byPeak -/

def Eline_byPeak : List Entry := [.out 106 (RSh.one (CK.int IntKind.i64)), .out 87 (RSh.agg [(CK.int IntKind.i64), (CK.int IntKind.i64)])]
theorem Eline_byPeak_ok : ∀ e ∈ Eline_byPeak, EntOK env e := (ent_out (ent_out ent_nil))
theorem Uline_byPeak : uniq ((blocksOf a88.body).map (·.1)) = true := by kernel_rfl
def tline_byPeak (F : FnT) (p0n : Nat) (p0c : List PV) : Option ((Int) × (Int)) :=
  bindO (F 106 (RSh.one (CK.int IntKind.i64)) [(PV.list p0n p0c)]) fun (y0 : (Int)) =>
  bindO (F 87 (RSh.agg [(CK.int IntKind.i64), (CK.int IntKind.i64)]) [(PV.int IntKind.i64 y0)]) fun (y1 : ((Int) × (Int))) =>
  some (y1.1, y1.2)
theorem tline_byPeak_eq (F : FnT) (p0n : Nat) (p0c : List PV) : semF (callP F Eline_byPeak 20) s88 (loopT []) 400 a88 [PV.list p0n p0c] (fun rv => decR (RSh.agg [(CK.int IntKind.i64), (CK.int IntKind.i64)]) rv.pv) = tline_byPeak F p0n p0c := by kernel_rfl
noncomputable abbrev Fline_byPeak (args : List PV) := Fn env 88 (RSh.agg [(CK.int IntKind.i64), (CK.int IntKind.i64)]) args
theorem Fline_byPeak_of  (p0n : Nat) (p0c : List PV) {res : ((Int) × (Int))} (h : tline_byPeak (Fn env) p0n p0c = some res) : Fline_byPeak [PV.list p0n p0c] = some res :=
  fn_of Eline_byPeak_ok rfl rfl lo_nil ((tline_byPeak_eq _ _ _).trans h)

/-! ### line_byCentroid -/

def Eline_byCentroid : List Entry := [.inl 108 a108 s108, .out 107 (RSh.tup [(Prod.mk false [(CK.int IntKind.i64)]), (Prod.mk false [(CK.int IntKind.i64)])]), .out 63 (RSh.agg [(CK.int IntKind.i64), (CK.int IntKind.i64)])]
theorem Eline_byCentroid_ok : ∀ e ∈ Eline_byCentroid, EntOK env e := (ent_inl rfl (ent_out (ent_out ent_nil)))
theorem Uline_byCentroid : uniq ((blocksOf a89.body).map (·.1)) = true := by kernel_rfl
def tline_byCentroid (F : FnT) (p0n : Nat) (p0c : List PV) : Option ((Int) × (Int)) :=
  bindO (F 107 (RSh.tup [(Prod.mk false [(CK.int IntKind.i64)]), (Prod.mk false [(CK.int IntKind.i64)])]) [(PV.fn 111 [(PV.imm [(PV.list p0n p0c)] 0)])]) fun (y0 : ((Int) × (Int))) =>
  bindO (F 63 (RSh.agg [(CK.int IntKind.i64), (CK.int IntKind.i64)]) [(PV.int IntKind.i64 y0.2), (PV.int IntKind.i64 y0.1)]) fun (y1 : ((Int) × (Int))) =>
  some (y1.1, y1.2)
theorem tline_byCentroid_eq (F : FnT) (p0n : Nat) (p0c : List PV) : semF (callP F Eline_byCentroid 20) s89 (loopT []) 400 a89 [PV.list p0n p0c] (fun rv => decR (RSh.agg [(CK.int IntKind.i64), (CK.int IntKind.i64)]) rv.pv) = tline_byCentroid F p0n p0c := by kernel_rfl
noncomputable abbrev Fline_byCentroid (args : List PV) := Fn env 89 (RSh.agg [(CK.int IntKind.i64), (CK.int IntKind.i64)]) args
theorem Fline_byCentroid_of  (p0n : Nat) (p0c : List PV) {res : ((Int) × (Int))} (h : tline_byCentroid (Fn env) p0n p0c = some res) : Fline_byCentroid [PV.list p0n p0c] = some res :=
  fn_of Eline_byCentroid_ok rfl rfl lo_nil ((tline_byCentroid_eq _ _ _).trans h)

/-! ### line_byParabola -/

def Eline_byParabola : List Entry := [.out 106 (RSh.one (CK.int IntKind.i64)), .out 87 (RSh.agg [(CK.int IntKind.i64), (CK.int IntKind.i64)]), .out 63 (RSh.agg [(CK.int IntKind.i64), (CK.int IntKind.i64)])]
theorem Eline_byParabola_ok : ∀ e ∈ Eline_byParabola, EntOK env e := (ent_out (ent_out (ent_out ent_nil)))
theorem Uline_byParabola : uniq ((blocksOf a90.body).map (·.1)) = true := by kernel_rfl
def tline_byParabola (F : FnT) (p0n : Nat) (p0c : List PV) : Option ((Int) × (Int)) :=
  bindO (F 106 (RSh.one (CK.int IntKind.i64)) [(PV.list p0n p0c)]) fun (y0 : (Int)) =>
  bif (y0 == (0 : Int)) then
    bindO (F 87 (RSh.agg [(CK.int IntKind.i64), (CK.int IntKind.i64)]) [(PV.int IntKind.i64 y0)]) fun (y1 : ((Int) × (Int))) =>
    some (y1.1, y1.2)
  else bif (y0 == (w64 ((p0n : Int) - (1 : Int)))) then
    bindO (F 87 (RSh.agg [(CK.int IntKind.i64), (CK.int IntKind.i64)]) [(PV.int IntKind.i64 y0)]) fun (y2 : ((Int) × (Int))) =>
    some (y2.1, y2.2)
  else bif (decide (((0 : Int) ≤ y0) ∧ (y0 < (p0n : Int)))) then
    bindO (intC IntKind.i64 (p0c[((Int.toNat y0) * 1)]?)) fun x3 =>
    bif (decide (((0 : Int) ≤ (w64 (y0 - (1 : Int)))) ∧ ((w64 (y0 - (1 : Int))) < (p0n : Int)))) then
      bindO (intC IntKind.i64 (p0c[((Int.toNat (w64 (y0 - (1 : Int)))) * 1)]?)) fun x4 =>
      bif (decide (((0 : Int) ≤ (w64 (y0 + (1 : Int)))) ∧ ((w64 (y0 + (1 : Int))) < (p0n : Int)))) then
        bindO (intC IntKind.i64 (p0c[((Int.toNat (w64 (y0 + (1 : Int)))) * 1)]?)) fun x5 =>
        bif (decide (((0 : Int) ≤ (w64 (y0 + (1 : Int)))) ∧ ((w64 (y0 + (1 : Int))) < (p0n : Int)))) then
          bindO (intC IntKind.i64 (p0c[((Int.toNat (w64 (y0 + (1 : Int)))) * 1)]?)) fun x6 =>
          bif (decide (((0 : Int) ≤ (w64 (y0 - (1 : Int)))) ∧ ((w64 (y0 - (1 : Int))) < (p0n : Int)))) then
            bindO (intC IntKind.i64 (p0c[((Int.toNat (w64 (y0 - (1 : Int)))) * 1)]?)) fun x7 =>
            bindO (F 63 (RSh.agg [(CK.int IntKind.i64), (CK.int IntKind.i64)]) [(PV.int IntKind.i64 (w64 ((w64 ((w64 ((w64 ((2 : Int) * (w64 ((w64 ((w64 ((2 : Int) * x3)) - x4)) - x5)))) * y0)) + x6)) - x7))), (PV.int IntKind.i64 (w64 ((2 : Int) * (w64 ((w64 ((w64 ((2 : Int) * x3)) - x4)) - x5)))))]) fun (y8 : ((Int) × (Int))) =>
            some (y8.1, y8.2)
          else none
        else none
      else none
    else none
  else none
theorem tline_byParabola_eq (F : FnT) (p0n : Nat) (p0c : List PV) : semF (callP F Eline_byParabola 20) s90 (loopT []) 400 a90 [PV.list p0n p0c] (fun rv => decR (RSh.agg [(CK.int IntKind.i64), (CK.int IntKind.i64)]) rv.pv) = tline_byParabola F p0n p0c := by kernel_rfl
noncomputable abbrev Fline_byParabola (args : List PV) := Fn env 90 (RSh.agg [(CK.int IntKind.i64), (CK.int IntKind.i64)]) args
theorem Fline_byParabola_of  (p0n : Nat) (p0c : List PV) {res : ((Int) × (Int))} (h : tline_byParabola (Fn env) p0n p0c = some res) : Fline_byParabola [PV.list p0n p0c] = some res :=
  fn_of Eline_byParabola_ok rfl rfl lo_nil ((tline_byParabola_eq _ _ _).trans h)

/-! ### line_byMedian -/

def Eline_byMedian : List Entry := [.inl 108 a108 s108, .out 107 (RSh.tup [(Prod.mk false [(CK.int IntKind.i64)]), (Prod.mk false [(CK.int IntKind.i64)])]), .out 87 (RSh.agg [(CK.int IntKind.i64), (CK.int IntKind.i64)])]
theorem Eline_byMedian_ok : ∀ e ∈ Eline_byMedian, EntOK env e := (ent_inl rfl (ent_out (ent_out ent_nil)))
def Tline_byMedian_0a (n0 : Nat) (c1 : List PV) (i2 : Int) (i3 : Int) (i4 : Int) : Q := ⟨(tm 30 [(0, (AV.p (PV.list n0 c1))), (2, (AV.loc 2 0)), (3, (AV.p (PV.int IntKind.i64 i2))), (5, (AV.p (PV.int IntKind.i64 i3))), (6, (AV.p (PV.int IntKind.i64 i4)))]), (mm 30 [(2, (Bk.pcs true [(PV.int IntKind.i64 (0 : Int)), (PV.int IntKind.i64 (0 : Int))]))])⟩
def Xline_byMedian_0a (y : Int) : Ext × Q := (Ext.normal, ⟨(tm 30 [(2, (AV.loc 2 0)), (5, (AV.p (PV.int IntKind.i64 y)))]), (mm 30 [(2, (Bk.pcs true [(PV.int IntKind.i64 (0 : Int)), (PV.int IntKind.i64 (0 : Int))]))])⟩)
def Iline_byMedian_0a (q : Ext × S) : Int := (pP_int1 (pA_p (avT q.2 5)))
abbrev Yline_byMedian_0 : Type := Int
def XLline_byMedian_0 : XL Yline_byMedian_0 := .one Xline_byMedian_0a
def Iline_byMedian_0 (q : Ext × S) : Yline_byMedian_0 := (Iline_byMedian_0a q)
theorem XIline_byMedian_0a (y : Int) : Iline_byMedian_0 (xe (Xline_byMedian_0a y)) = y := rfl
theorem XIline_byMedian_0 (y : Yline_byMedian_0) : Iline_byMedian_0 (xe (XLline_byMedian_0.fn y)) = y := XIline_byMedian_0a y
noncomputable abbrev Lline_byMedian_0 : Q → Option Yline_byMedian_0 := lpO env a91.body 0 XLline_byMedian_0
noncomputable abbrev Rline_byMedian_0 : Q → Option (Ext × S) := lpR env a91.body 0
theorem Lline_byMedian_0a_of {s : Q} {y : Int} (h : Rline_byMedian_0 s = exO (Xline_byMedian_0a y)) : Lline_byMedian_0 s = some y := lpO_of Iline_byMedian_0 XIline_byMedian_0 (y := y) h
theorem Uline_byMedian : uniq ((blocksOf a91.body).map (·.1)) = true := by kernel_rfl
def Bline_byMedian_0a (F : FnT) (N : Q → Option (Ext × S)) (E : Ext × Q → Option (Ext × S)) (L0 : Q → Option Yline_byMedian_0) (n0 : Nat) (c1 : List PV) (i2 : Int) (i3 : Int) (i4 : Int) : Option (Ext × S) :=
  bif (decide ((w64 ((2 : Int) * i4)) < i2)) then
    bif (decide (((0 : Int) ≤ (w64 (i3 + (1 : Int)))) ∧ ((w64 (i3 + (1 : Int))) < (n0 : Int)))) then
      bindO (intC IntKind.i64 (c1[((Int.toNat (w64 (i3 + (1 : Int)))) * 1)]?)) fun x0 =>
      N (Tline_byMedian_0a n0 c1 i2 (w64 (i3 + (1 : Int))) (w64 (i4 + x0)))
    else none
  else E (Xline_byMedian_0a i3)
theorem Bline_byMedian_0a_eq (F : FnT) (N : Q → Option (Ext × S)) (E : Ext × Q → Option (Ext × S)) (L0 : Q → Option Yline_byMedian_0) (n0 : Nat) (c1 : List PV) (i2 : Int) (i3 : Int) (i4 : Int) : semB (callP F Eline_byMedian 20) s91 (loopT [⟨0, Yline_byMedian_0, L0, XLline_byMedian_0⟩]) 400 (blkIn a91.body 0) N E (Tline_byMedian_0a n0 c1 i2 i3 i4) = Bline_byMedian_0a F N E L0 n0 c1 i2 i3 i4 := by kernel_rfl
theorem Rline_byMedian_0a_of  (n0 : Nat) (c1 : List PV) (i2 : Int) (i3 : Int) (i4 : Int) {r : Ext × S} (h : Bline_byMedian_0a (Fn env) Rline_byMedian_0 exO Lline_byMedian_0 n0 c1 i2 i3 i4 = some r) : Rline_byMedian_0 (Tline_byMedian_0a n0 c1 i2 i3 i4) = some r :=
  lp_of Eline_byMedian_ok (by kernel_rfl) (lo_cons (lpO_ok Uline_byMedian) lo_nil) (by kernel_rfl) ((Bline_byMedian_0a_eq _ _ _ _ _ _ _ _ _).trans h)
def tline_byMedian (F : FnT) (L0 : Q → Option Yline_byMedian_0) (p0n : Nat) (p0c : List PV) : Option ((Int) × (Int)) :=
  bindO (F 107 (RSh.tup [(Prod.mk false [(CK.int IntKind.i64)]), (Prod.mk false [(CK.int IntKind.i64)])]) [(PV.fn 111 [(PV.imm [(PV.list p0n p0c)] 0)])]) fun (y0 : ((Int) × (Int))) =>
  bif (decide (((0 : Int) ≤ (0 : Int)) ∧ ((0 : Int) < (p0n : Int)))) then
    bindO (intC IntKind.i64 (p0c[0]?)) fun x1 =>
    bindO (L0 (Tline_byMedian_0a p0n p0c y0.1 (0 : Int) x1)) fun y2 =>
    bindO (F 87 (RSh.agg [(CK.int IntKind.i64), (CK.int IntKind.i64)]) [(PV.int IntKind.i64 y2)]) fun (y3 : ((Int) × (Int))) =>
    some (y3.1, y3.2)
  else none
theorem tline_byMedian_eq (F : FnT) (L0 : Q → Option Yline_byMedian_0) (p0n : Nat) (p0c : List PV) : semF (callP F Eline_byMedian 20) s91 (loopT [⟨0, Yline_byMedian_0, L0, XLline_byMedian_0⟩]) 400 a91 [PV.list p0n p0c] (fun rv => decR (RSh.agg [(CK.int IntKind.i64), (CK.int IntKind.i64)]) rv.pv) = tline_byMedian F L0 p0n p0c := by kernel_rfl
noncomputable abbrev Fline_byMedian (args : List PV) := Fn env 91 (RSh.agg [(CK.int IntKind.i64), (CK.int IntKind.i64)]) args
theorem Fline_byMedian_of  (p0n : Nat) (p0c : List PV) {res : ((Int) × (Int))} (h : tline_byMedian (Fn env) Lline_byMedian_0 p0n p0c = some res) : Fline_byMedian [PV.list p0n p0c] = some res :=
  fn_of Eline_byMedian_ok rfl rfl (lo_cons (lpO_ok Uline_byMedian) lo_nil) ((tline_byMedian_eq _ _ _ _).trans h)

/-! ### line_estimate0 -/

def Eline_estimate0 : List Entry := [.out 86 (RSh.one CK.bool), .out 87 (RSh.agg [(CK.int IntKind.i64), (CK.int IntKind.i64)]), .out 88 (RSh.agg [(CK.int IntKind.i64), (CK.int IntKind.i64)])]
theorem Eline_estimate0_ok : ∀ e ∈ Eline_estimate0, EntOK env e := (ent_out (ent_out (ent_out ent_nil)))
theorem Uline_estimate0 : uniq ((blocksOf a59.body).map (·.1)) = true := by kernel_rfl
def tline_estimate0 (F : FnT)(n : Nat) (cs : List PV) : Option ((Int) × (Int)) :=
  bindO (F 86 (RSh.one CK.bool) [(PV.list n cs)]) fun (y0 : (Bool)) =>
  bif y0 then
    bindO (F 87 (RSh.agg [(CK.int IntKind.i64), (CK.int IntKind.i64)]) [(PV.int IntKind.i64 (0 : Int))]) fun (y1 : ((Int) × (Int))) =>
    some (y1.1, y1.2)
  else bindO (F 88 (RSh.agg [(CK.int IntKind.i64), (CK.int IntKind.i64)]) [(PV.list n cs)]) fun (y2 : ((Int) × (Int))) =>
  some (y2.1, y2.2)
theorem tline_estimate0_eq (F : FnT)(n : Nat) (cs : List PV) : semF (callP F Eline_estimate0 20) s59 (loopT []) 400 a59 [.list n cs, .int .i64 0] (fun rv => decR (RSh.agg [(CK.int IntKind.i64), (CK.int IntKind.i64)]) rv.pv) = tline_estimate0 F n cs := by kernel_rfl
noncomputable abbrev Fline_estimate0 (args : List PV) := Fn env 59 (RSh.agg [(CK.int IntKind.i64), (CK.int IntKind.i64)]) args
theorem Fline_estimate0_of (n : Nat) (cs : List PV) {res : ((Int) × (Int))} (h : tline_estimate0 (Fn env) n cs = some res) : Fline_estimate0 [.list n cs, .int .i64 0] = some res :=
  fn_of Eline_estimate0_ok rfl rfl lo_nil ((tline_estimate0_eq _ _ _).trans h)

/-! ### line_estimate1 -/

def Eline_estimate1 : List Entry := [.out 86 (RSh.one CK.bool), .out 87 (RSh.agg [(CK.int IntKind.i64), (CK.int IntKind.i64)]), .out 89 (RSh.agg [(CK.int IntKind.i64), (CK.int IntKind.i64)])]
theorem Eline_estimate1_ok : ∀ e ∈ Eline_estimate1, EntOK env e := (ent_out (ent_out (ent_out ent_nil)))
theorem Uline_estimate1 : uniq ((blocksOf a59.body).map (·.1)) = true := by kernel_rfl
def tline_estimate1 (F : FnT)(n : Nat) (cs : List PV) : Option ((Int) × (Int)) :=
  bindO (F 86 (RSh.one CK.bool) [(PV.list n cs)]) fun (y0 : (Bool)) =>
  bif y0 then
    bindO (F 87 (RSh.agg [(CK.int IntKind.i64), (CK.int IntKind.i64)]) [(PV.int IntKind.i64 (0 : Int))]) fun (y1 : ((Int) × (Int))) =>
    some (y1.1, y1.2)
  else bindO (F 89 (RSh.agg [(CK.int IntKind.i64), (CK.int IntKind.i64)]) [(PV.list n cs)]) fun (y2 : ((Int) × (Int))) =>
  some (y2.1, y2.2)
theorem tline_estimate1_eq (F : FnT)(n : Nat) (cs : List PV) : semF (callP F Eline_estimate1 20) s59 (loopT []) 400 a59 [.list n cs, .int .i64 1] (fun rv => decR (RSh.agg [(CK.int IntKind.i64), (CK.int IntKind.i64)]) rv.pv) = tline_estimate1 F n cs := by kernel_rfl
noncomputable abbrev Fline_estimate1 (args : List PV) := Fn env 59 (RSh.agg [(CK.int IntKind.i64), (CK.int IntKind.i64)]) args
theorem Fline_estimate1_of (n : Nat) (cs : List PV) {res : ((Int) × (Int))} (h : tline_estimate1 (Fn env) n cs = some res) : Fline_estimate1 [.list n cs, .int .i64 1] = some res :=
  fn_of Eline_estimate1_ok rfl rfl lo_nil ((tline_estimate1_eq _ _ _).trans h)

/-! ### line_estimate2 -/

def Eline_estimate2 : List Entry := [.out 86 (RSh.one CK.bool), .out 87 (RSh.agg [(CK.int IntKind.i64), (CK.int IntKind.i64)]), .out 90 (RSh.agg [(CK.int IntKind.i64), (CK.int IntKind.i64)])]
theorem Eline_estimate2_ok : ∀ e ∈ Eline_estimate2, EntOK env e := (ent_out (ent_out (ent_out ent_nil)))
theorem Uline_estimate2 : uniq ((blocksOf a59.body).map (·.1)) = true := by kernel_rfl
def tline_estimate2 (F : FnT)(n : Nat) (cs : List PV) : Option ((Int) × (Int)) :=
  bindO (F 86 (RSh.one CK.bool) [(PV.list n cs)]) fun (y0 : (Bool)) =>
  bif y0 then
    bindO (F 87 (RSh.agg [(CK.int IntKind.i64), (CK.int IntKind.i64)]) [(PV.int IntKind.i64 (0 : Int))]) fun (y1 : ((Int) × (Int))) =>
    some (y1.1, y1.2)
  else bindO (F 90 (RSh.agg [(CK.int IntKind.i64), (CK.int IntKind.i64)]) [(PV.list n cs)]) fun (y2 : ((Int) × (Int))) =>
  some (y2.1, y2.2)
theorem tline_estimate2_eq (F : FnT)(n : Nat) (cs : List PV) : semF (callP F Eline_estimate2 20) s59 (loopT []) 400 a59 [.list n cs, .int .i64 2] (fun rv => decR (RSh.agg [(CK.int IntKind.i64), (CK.int IntKind.i64)]) rv.pv) = tline_estimate2 F n cs := by kernel_rfl
noncomputable abbrev Fline_estimate2 (args : List PV) := Fn env 59 (RSh.agg [(CK.int IntKind.i64), (CK.int IntKind.i64)]) args
theorem Fline_estimate2_of (n : Nat) (cs : List PV) {res : ((Int) × (Int))} (h : tline_estimate2 (Fn env) n cs = some res) : Fline_estimate2 [.list n cs, .int .i64 2] = some res :=
  fn_of Eline_estimate2_ok rfl rfl lo_nil ((tline_estimate2_eq _ _ _).trans h)

/-! ### line_estimate3 -/

def Eline_estimate3 : List Entry := [.out 86 (RSh.one CK.bool), .out 87 (RSh.agg [(CK.int IntKind.i64), (CK.int IntKind.i64)]), .out 91 (RSh.agg [(CK.int IntKind.i64), (CK.int IntKind.i64)])]
theorem Eline_estimate3_ok : ∀ e ∈ Eline_estimate3, EntOK env e := (ent_out (ent_out (ent_out ent_nil)))
theorem Uline_estimate3 : uniq ((blocksOf a59.body).map (·.1)) = true := by kernel_rfl
def tline_estimate3 (F : FnT)(n : Nat) (cs : List PV) : Option ((Int) × (Int)) :=
  bindO (F 86 (RSh.one CK.bool) [(PV.list n cs)]) fun (y0 : (Bool)) =>
  bif y0 then
    bindO (F 87 (RSh.agg [(CK.int IntKind.i64), (CK.int IntKind.i64)]) [(PV.int IntKind.i64 (0 : Int))]) fun (y1 : ((Int) × (Int))) =>
    some (y1.1, y1.2)
  else bindO (F 91 (RSh.agg [(CK.int IntKind.i64), (CK.int IntKind.i64)]) [(PV.list n cs)]) fun (y2 : ((Int) × (Int))) =>
  some (y2.1, y2.2)
theorem tline_estimate3_eq (F : FnT)(n : Nat) (cs : List PV) : semF (callP F Eline_estimate3 20) s59 (loopT []) 400 a59 [.list n cs, .int .i64 3] (fun rv => decR (RSh.agg [(CK.int IntKind.i64), (CK.int IntKind.i64)]) rv.pv) = tline_estimate3 F n cs := by kernel_rfl
noncomputable abbrev Fline_estimate3 (args : List PV) := Fn env 59 (RSh.agg [(CK.int IntKind.i64), (CK.int IntKind.i64)]) args
theorem Fline_estimate3_of (n : Nat) (cs : List PV) {res : ((Int) × (Int))} (h : tline_estimate3 (Fn env) n cs = some res) : Fline_estimate3 [.list n cs, .int .i64 3] = some res :=
  fn_of Eline_estimate3_ok rfl rfl lo_nil ((tline_estimate3_eq _ _ _).trans h)

/-! ### line_Estimated -/

def Eline_Estimated : List Entry := [.out 57 (RSh.one (CK.int IntKind.i64)), .out 58 (RSh.one (CK.int IntKind.i64)), .out 35 (RSh.one (CK.int IntKind.i64)), .out 59 (RSh.agg [(CK.int IntKind.i64), (CK.int IntKind.i64)])]
theorem Eline_Estimated_ok : ∀ e ∈ Eline_Estimated, EntOK env e := (ent_out (ent_out (ent_out (ent_out ent_nil))))
theorem Uline_Estimated : uniq ((blocksOf a25.body).map (·.1)) = true := by kernel_rfl
def tline_Estimated (F : FnT) (p0n : Nat) (p0c : List PV) (p1 : Int) : Option ((Int) × ((Int) × (Int))) :=
  bindO (F 57 (RSh.one (CK.int IntKind.i64)) [(PV.list p0n p0c)]) fun (y0 : (Int)) =>
  bindO (F 58 (RSh.one (CK.int IntKind.i64)) [(PV.int IntKind.i64 p1)]) fun (y1 : (Int)) =>
  bindO (F 35 (RSh.one (CK.int IntKind.i64)) [(PV.list 2 [(PV.int IntKind.i64 y0), (PV.int IntKind.i64 y1)])]) fun (y2 : (Int)) =>
  bif (y2 != (0 : Int)) then
    some ((0 : Int), ((0 : Int), y2))
  else bindO (F 59 (RSh.agg [(CK.int IntKind.i64), (CK.int IntKind.i64)]) [(PV.list p0n p0c), (PV.int IntKind.i64 p1)]) fun (y3 : ((Int) × (Int))) =>
  some (y3.1, (y3.2, (0 : Int)))
theorem tline_Estimated_eq (F : FnT) (p0n : Nat) (p0c : List PV) (p1 : Int) : semF (callP F Eline_Estimated 20) s25 (loopT []) 400 a25 [PV.list p0n p0c, PV.int IntKind.i64 p1] (fun rv => decR (RSh.tup [(Prod.mk true [(CK.int IntKind.i64), (CK.int IntKind.i64)]), (Prod.mk false [(CK.int IntKind.i64)])]) rv.pv) = tline_Estimated F p0n p0c p1 := by kernel_rfl
noncomputable abbrev Fline_Estimated (args : List PV) := Fn env 25 (RSh.tup [(Prod.mk true [(CK.int IntKind.i64), (CK.int IntKind.i64)]), (Prod.mk false [(CK.int IntKind.i64)])]) args
theorem Fline_Estimated_of  (p0n : Nat) (p0c : List PV) (p1 : Int) {res : ((Int) × ((Int) × (Int)))} (h : tline_Estimated (Fn env) p0n p0c p1 = some res) : Fline_Estimated [PV.list p0n p0c, PV.int IntKind.i64 p1] = some res :=
  fn_of Eline_Estimated_ok rfl rfl lo_nil ((tline_Estimated_eq _ _ _ _).trans h)

/-! ### BsGcd -/

def EBsGcd : List Entry := [.out 83 (RSh.one (CK.int IntKind.i64))]
theorem EBsGcd_ok : ∀ e ∈ EBsGcd, EntOK env e := (ent_out ent_nil)
def TBsGcd_0a (i0 : Int) (i1 : Int) : Q := ⟨(tm 13 [(0, (AV.p (PV.int IntKind.i64 i0))), (1, (AV.p (PV.int IntKind.i64 i1)))]), (mm 13 [])⟩
def XBsGcd_0a (y : Int) : Ext × Q := (Ext.normal, ⟨(tm 13 [(0, (AV.p (PV.int IntKind.i64 y)))]), (mm 13 [])⟩)
def IBsGcd_0a (q : Ext × S) : Int := (pP_int1 (pA_p (avT q.2 0)))
abbrev YBsGcd_0 : Type := Int
def XLBsGcd_0 : XL YBsGcd_0 := .one XBsGcd_0a
def IBsGcd_0 (q : Ext × S) : YBsGcd_0 := (IBsGcd_0a q)
theorem XIBsGcd_0a (y : Int) : IBsGcd_0 (xe (XBsGcd_0a y)) = y := rfl
theorem XIBsGcd_0 (y : YBsGcd_0) : IBsGcd_0 (xe (XLBsGcd_0.fn y)) = y := XIBsGcd_0a y
noncomputable abbrev LBsGcd_0 : Q → Option YBsGcd_0 := lpO env a56.body 0 XLBsGcd_0
noncomputable abbrev RBsGcd_0 : Q → Option (Ext × S) := lpR env a56.body 0
theorem LBsGcd_0a_of {s : Q} {y : Int} (h : RBsGcd_0 s = exO (XBsGcd_0a y)) : LBsGcd_0 s = some y := lpO_of IBsGcd_0 XIBsGcd_0 (y := y) h
theorem UBsGcd : uniq ((blocksOf a56.body).map (·.1)) = true := by kernel_rfl
def BBsGcd_0a (F : FnT) (N : Q → Option (Ext × S)) (E : Ext × Q → Option (Ext × S)) (L0 : Q → Option YBsGcd_0) (i0 : Int) (i1 : Int) : Option (Ext × S) :=
  bif (i1 != (0 : Int)) then
    bif (decide (i1 ≠ (0 : Int))) then
      N (TBsGcd_0a i1 (Int.tmod i0 i1))
    else none
  else E (XBsGcd_0a i0)
theorem BBsGcd_0a_eq (F : FnT) (N : Q → Option (Ext × S)) (E : Ext × Q → Option (Ext × S)) (L0 : Q → Option YBsGcd_0) (i0 : Int) (i1 : Int) : semB (callP F EBsGcd 20) s56 (loopT [⟨0, YBsGcd_0, L0, XLBsGcd_0⟩]) 400 (blkIn a56.body 0) N E (TBsGcd_0a i0 i1) = BBsGcd_0a F N E L0 i0 i1 := by kernel_rfl
theorem RBsGcd_0a_of  (i0 : Int) (i1 : Int) {r : Ext × S} (h : BBsGcd_0a (Fn env) RBsGcd_0 exO LBsGcd_0 i0 i1 = some r) : RBsGcd_0 (TBsGcd_0a i0 i1) = some r :=
  lp_of EBsGcd_ok (by kernel_rfl) (lo_cons (lpO_ok UBsGcd) lo_nil) (by kernel_rfl) ((BBsGcd_0a_eq _ _ _ _ _ _).trans h)
def tBsGcd (F : FnT) (L0 : Q → Option YBsGcd_0) (p0 : Int) (p1 : Int) : Option (Int) :=
  bindO (L0 (TBsGcd_0a p0 p1)) fun y0 =>
  bindO (F 83 (RSh.one (CK.int IntKind.i64)) [(PV.int IntKind.i64 y0)]) fun (y1 : (Int)) =>
  some y1
theorem tBsGcd_eq (F : FnT) (L0 : Q → Option YBsGcd_0) (p0 : Int) (p1 : Int) : semF (callP F EBsGcd 20) s56 (loopT [⟨0, YBsGcd_0, L0, XLBsGcd_0⟩]) 400 a56 [PV.int IntKind.i64 p0, PV.int IntKind.i64 p1] (fun rv => decR (RSh.one (CK.int IntKind.i64)) rv.pv) = tBsGcd F L0 p0 p1 := by kernel_rfl
noncomputable abbrev FBsGcd (args : List PV) := Fn env 56 (RSh.one (CK.int IntKind.i64)) args
theorem FBsGcd_of  (p0 : Int) (p1 : Int) {res : (Int)} (h : tBsGcd (Fn env) LBsGcd_0 p0 p1 = some res) : FBsGcd [PV.int IntKind.i64 p0, PV.int IntKind.i64 p1] = some res :=
  fn_of EBsGcd_ok rfl rfl (lo_cons (lpO_ok UBsGcd) lo_nil) ((tBsGcd_eq _ _ _ _).trans h)

/-! ### BsSize -/

def EBsSize : List Entry := []
theorem EBsSize_ok : ∀ e ∈ EBsSize, EntOK env e := ent_nil
theorem UBsSize : uniq ((blocksOf a83.body).map (·.1)) = true := by kernel_rfl
def tBsSize (F : FnT) (p0 : Int) : Option (Int) :=
  some (if ((w64 ((0 : Int) - p0)) > p0) then (w64 ((0 : Int) - p0)) else p0)
theorem tBsSize_eq (F : FnT) (p0 : Int) : semF (callP F EBsSize 20) s83 (loopT []) 400 a83 [PV.int IntKind.i64 p0] (fun rv => decR (RSh.one (CK.int IntKind.i64)) rv.pv) = tBsSize F p0 := by kernel_rfl
noncomputable abbrev FBsSize (args : List PV) := Fn env 83 (RSh.one (CK.int IntKind.i64)) args
theorem FBsSize_of  (p0 : Int) {res : (Int)} (h : tBsSize (Fn env) p0 = some res) : FBsSize [PV.int IntKind.i64 p0] = some res :=
  fn_of EBsSize_ok rfl rfl lo_nil ((tBsSize_eq _ _).trans h)

/-! ### BsLowest -/

def EBsLowest : List Entry := [.out 56 (RSh.one (CK.int IntKind.i64))]
theorem EBsLowest_ok : ∀ e ∈ EBsLowest, EntOK env e := (ent_out ent_nil)
theorem UBsLowest : uniq ((blocksOf a24.body).map (·.1)) = true := by kernel_rfl
def tBsLowest (F : FnT) (p0 : Int) (p1 : Int) : Option ((Int) × (Int)) :=
  bindO (F 56 (RSh.one (CK.int IntKind.i64)) [(PV.int IntKind.i64 p0), (PV.int IntKind.i64 p1)]) fun (y0 : (Int)) =>
  bif (decide (p1 < (0 : Int))) then
    bif (decide ((w64 ((0 : Int) - y0)) ≠ (0 : Int))) then
      bif (decide ((w64 ((0 : Int) - y0)) ≠ (0 : Int))) then
        some ((w64 (Int.tdiv p0 (w64 ((0 : Int) - y0)))), (w64 (Int.tdiv p1 (w64 ((0 : Int) - y0)))))
      else none
    else none
  else bif (decide (y0 ≠ (0 : Int))) then
    bif (decide (y0 ≠ (0 : Int))) then
      some ((w64 (Int.tdiv p0 y0)), (w64 (Int.tdiv p1 y0)))
    else none
  else none
theorem tBsLowest_eq (F : FnT) (p0 : Int) (p1 : Int) : semF (callP F EBsLowest 20) s24 (loopT []) 400 a24 [PV.int IntKind.i64 p0, PV.int IntKind.i64 p1] (fun rv => decR (RSh.agg [(CK.int IntKind.i64), (CK.int IntKind.i64)]) rv.pv) = tBsLowest F p0 p1 := by kernel_rfl
noncomputable abbrev FBsLowest (args : List PV) := Fn env 24 (RSh.agg [(CK.int IntKind.i64), (CK.int IntKind.i64)]) args
theorem FBsLowest_of  (p0 : Int) (p1 : Int) {res : ((Int) × (Int))} (h : tBsLowest (Fn env) p0 p1 = some res) : FBsLowest [PV.int IntKind.i64 p0, PV.int IntKind.i64 p1] = some res :=
  fn_of EBsLowest_ok rfl rfl lo_nil ((tBsLowest_eq _ _ _).trans h)

/-! ### BsWhole -/

def EBsWhole : List Entry := []
theorem EBsWhole_ok : ∀ e ∈ EBsWhole, EntOK env e := ent_nil
theorem UBsWhole : uniq ((blocksOf a33.body).map (·.1)) = true := by kernel_rfl
def tBsWhole (F : FnT) (p0 : Int) : Option ((Int) × (Int)) :=
  some (p0, (1 : Int))
theorem tBsWhole_eq (F : FnT) (p0 : Int) : semF (callP F EBsWhole 20) s33 (loopT []) 400 a33 [PV.int IntKind.i64 p0] (fun rv => decR (RSh.agg [(CK.int IntKind.i64), (CK.int IntKind.i64)]) rv.pv) = tBsWhole F p0 := by kernel_rfl
noncomputable abbrev FBsWhole (args : List PV) := Fn env 33 (RSh.agg [(CK.int IntKind.i64), (CK.int IntKind.i64)]) args
theorem FBsWhole_of  (p0 : Int) {res : ((Int) × (Int))} (h : tBsWhole (Fn env) p0 = some res) : FBsWhole [PV.int IntKind.i64 p0] = some res :=
  fn_of EBsWhole_ok rfl rfl lo_nil ((tBsWhole_eq _ _).trans h)

end Gv
