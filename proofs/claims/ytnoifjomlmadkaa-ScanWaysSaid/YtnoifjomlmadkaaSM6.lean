/- What the functions do, round by round: SM6. -/
import Derived.Test.YtnoifjomlmadkaaSH1
namespace Gv
open Go
set_option maxRecDepth 100000

/-! ### L3_ScanWays -/

def EL3_ScanWays : List Entry := [.out 12 (RSh.one CK.bool), .out 27 (RSh.one CK.bool), .out 39 (RSh.one (CK.int IntKind.i64)), .out 32 (RSh.one (CK.int IntKind.i64)), .out 34 (RSh.tup [(Prod.mk false [CK.list]), (Prod.mk false [(CK.int IntKind.i64)])]), .out 29 (RSh.agg [(CK.int IntKind.i64), (CK.int IntKind.i64), (CK.int IntKind.i64), (CK.int IntKind.i64), (CK.int IntKind.i64), (CK.int IntKind.i64), CK.list]), .out 30 (RSh.tup [(Prod.mk false [CK.bool]), (Prod.mk false [(CK.int IntKind.i64)])]), .out 35 (RSh.tup [(Prod.mk false [(CK.int IntKind.i64)]), (Prod.mk false [(CK.int IntKind.i64)])]), .out 36 (RSh.tup [(Prod.mk false [CK.bool]), (Prod.mk false [(CK.int IntKind.i64)])]), .out 42 (RSh.one (CK.int IntKind.i64))]
theorem EL3_ScanWays_ok : ∀ e ∈ EL3_ScanWays, EntOK env e := (ent_out (ent_out (ent_out (ent_out (ent_out (ent_out (ent_out (ent_out (ent_out (ent_out ent_nil))))))))))
def TL3_ScanWays_0a (n0 : Nat) (c1 : List PV) (i2 : Int) (b3 : Bool) (i4 : Int) (i5 : Int) (i6 : Int) (i7 : Int) (i8 : Int) (i9 : Int) (i10 : Int) (n11 : Nat) (c12 : List PV) (i13 : Int) (i14 : Int) (i15 : Int) (i16 : Int) : Q := ⟨(tm 223 [(3, (AV.loc 3 0)), (4, (AV.loc 4 0)), (5, (AV.loc 5 0)), (7, (AV.p (PV.list n0 c1))), (11, (AV.p (PV.int IntKind.i64 i2))), (12, (AV.p (PV.bool b3))), (13, (AV.p (PV.int IntKind.i64 i4)))]), (mm 223 [(3, (Bk.cells true [(AV.p (PV.int IntKind.i64 i5)), (AV.p (PV.int IntKind.i64 i6)), (AV.p (PV.int IntKind.i64 i7)), (AV.p (PV.int IntKind.i64 i8)), (AV.p (PV.int IntKind.i64 i9)), (AV.p (PV.int IntKind.i64 i10)), (AV.p (PV.list n11 c12))])), (4, (Bk.pcs true [(PV.int IntKind.i64 i13), (PV.int IntKind.i64 i14)])), (5, (Bk.pcs true [(PV.int IntKind.i64 i15), (PV.int IntKind.i64 i16)]))])⟩
def XL3_ScanWays_0a (y : Int × Bool × Int × Int × Int × Int × Int × Int × Nat × List PV × Int × Int × Int × Int) : Ext × Q := (Ext.normal, ⟨(tm 223 [(3, (AV.loc 3 0)), (4, (AV.loc 4 0)), (5, (AV.loc 5 0)), (11, (AV.p (PV.int IntKind.i64 y.1))), (12, (AV.p (PV.bool y.2.1)))]), (mm 223 [(3, (Bk.cells true [(AV.p (PV.int IntKind.i64 y.2.2.1)), (AV.p (PV.int IntKind.i64 y.2.2.2.1)), (AV.p (PV.int IntKind.i64 y.2.2.2.2.1)), (AV.p (PV.int IntKind.i64 y.2.2.2.2.2.1)), (AV.p (PV.int IntKind.i64 y.2.2.2.2.2.2.1)), (AV.p (PV.int IntKind.i64 y.2.2.2.2.2.2.2.1)), (AV.p (PV.list y.2.2.2.2.2.2.2.2.1 y.2.2.2.2.2.2.2.2.2.1))])), (4, (Bk.pcs true [(PV.int IntKind.i64 y.2.2.2.2.2.2.2.2.2.2.1), (PV.int IntKind.i64 y.2.2.2.2.2.2.2.2.2.2.2.1)])), (5, (Bk.pcs true [(PV.int IntKind.i64 y.2.2.2.2.2.2.2.2.2.2.2.2.1), (PV.int IntKind.i64 y.2.2.2.2.2.2.2.2.2.2.2.2.2)]))])⟩)
def IL3_ScanWays_0a (q : Ext × S) : Int × Bool × Int × Int × Int × Int × Int × Int × Nat × List PV × Int × Int × Int × Int := ((pP_int1 (pA_p (avT q.2 11))), (pP_bool0 (pA_p (avT q.2 12))), (pP_int1 (pA_p (hdA (pB_cells1 (avM q.2 3))))), (pP_int1 (pA_p (hdA (List.tail (pB_cells1 (avM q.2 3)))))), (pP_int1 (pA_p (hdA (List.tail (List.tail (pB_cells1 (avM q.2 3))))))), (pP_int1 (pA_p (hdA (List.tail (List.tail (List.tail (pB_cells1 (avM q.2 3)))))))), (pP_int1 (pA_p (hdA (List.tail (List.tail (List.tail (List.tail (pB_cells1 (avM q.2 3))))))))), (pP_int1 (pA_p (hdA (List.tail (List.tail (List.tail (List.tail (List.tail (pB_cells1 (avM q.2 3)))))))))), (pP_list0 (pA_p (hdA (List.tail (List.tail (List.tail (List.tail (List.tail (List.tail (pB_cells1 (avM q.2 3))))))))))), (pP_list1 (pA_p (hdA (List.tail (List.tail (List.tail (List.tail (List.tail (List.tail (pB_cells1 (avM q.2 3))))))))))), (pP_int1 (hdP (pB_pcs1 (avM q.2 4)))), (pP_int1 (hdP (List.tail (pB_pcs1 (avM q.2 4))))), (pP_int1 (hdP (pB_pcs1 (avM q.2 5)))), (pP_int1 (hdP (List.tail (pB_pcs1 (avM q.2 5))))))
def XL3_ScanWays_0b (y : Unit) : Ext × Q := (Ext.ret, ⟨(tm 223 [(6, (AV.p (PV.bool false)))]), (mm 223 [])⟩)
def IL3_ScanWays_0b (q : Ext × S) : Unit := ()
abbrev YL3_ScanWays_0 : Type := (Int × Bool × Int × Int × Int × Int × Int × Int × Nat × List PV × Int × Int × Int × Int) ⊕ ((Unit))
def XLL3_ScanWays_0 : XL YL3_ScanWays_0 := .more XL3_ScanWays_0a (.one XL3_ScanWays_0b)
def IL3_ScanWays_0 (q : Ext × S) : YL3_ScanWays_0 := bif (cE q.1 == 0) then (Sum.inl (IL3_ScanWays_0a q)) else (Sum.inr (IL3_ScanWays_0b q))
theorem XIL3_ScanWays_0a (y : Int × Bool × Int × Int × Int × Int × Int × Int × Nat × List PV × Int × Int × Int × Int) : IL3_ScanWays_0 (xe (XL3_ScanWays_0a y)) = (Sum.inl y) := rfl
theorem XIL3_ScanWays_0b (y : Unit) : IL3_ScanWays_0 (xe (XL3_ScanWays_0b y)) = (Sum.inr y) := rfl
theorem XIL3_ScanWays_0 (y : YL3_ScanWays_0) : IL3_ScanWays_0 (xe (XLL3_ScanWays_0.fn y)) = y := (match y with | .inl y => XIL3_ScanWays_0a y | .inr y => XIL3_ScanWays_0b y)
noncomputable abbrev LL3_ScanWays_0 : Q → Option YL3_ScanWays_0 := lpO env a8.body 0 XLL3_ScanWays_0
noncomputable abbrev RL3_ScanWays_0 : Q → Option (Ext × S) := lpR env a8.body 0
theorem LL3_ScanWays_0a_of {s : Q} {y : Int × Bool × Int × Int × Int × Int × Int × Int × Nat × List PV × Int × Int × Int × Int} (h : RL3_ScanWays_0 s = exO (XL3_ScanWays_0a y)) : LL3_ScanWays_0 s = some (Sum.inl y) := lpO_of IL3_ScanWays_0 XIL3_ScanWays_0 (y := (Sum.inl y)) h
theorem LL3_ScanWays_0b_of {s : Q} {y : Unit} (h : RL3_ScanWays_0 s = exO (XL3_ScanWays_0b y)) : LL3_ScanWays_0 s = some (Sum.inr y) := lpO_of IL3_ScanWays_0 XIL3_ScanWays_0 (y := (Sum.inr y)) h
def TL3_ScanWays_1000073a (i0 : Int) (i1 : Int) (i2 : Int) (i3 : Int) (i4 : Int) (i5 : Int) (n6 : Nat) (c7 : List PV) (i8 : Int) (i9 : Int) (i10 : Int) (i11 : Int) : Q := ⟨(tm 223 [(3, (AV.loc 3 0)), (4, (AV.loc 4 0)), (5, (AV.loc 5 0))]), (mm 223 [(3, (Bk.cells true [(AV.p (PV.int IntKind.i64 i0)), (AV.p (PV.int IntKind.i64 i1)), (AV.p (PV.int IntKind.i64 i2)), (AV.p (PV.int IntKind.i64 i3)), (AV.p (PV.int IntKind.i64 i4)), (AV.p (PV.int IntKind.i64 i5)), (AV.p (PV.list n6 c7))])), (4, (Bk.pcs true [(PV.int IntKind.i64 i8), (PV.int IntKind.i64 i9)])), (5, (Bk.pcs true [(PV.int IntKind.i64 i10), (PV.int IntKind.i64 i11)]))])⟩
def XL3_ScanWays_1000073a (y : Unit) : Ext × Q := (Ext.ret, ⟨(tm 223 [(6, (AV.p (PV.bool true)))]), (mm 223 [])⟩)
def IL3_ScanWays_1000073a (q : Ext × S) : Unit := ()
def XL3_ScanWays_1000073b (y : Int × Int × Int × Int × Int × Int × Nat × List PV × Int × Int × Int × Int) : Ext × Q := (Ext.normal, ⟨(tm 223 [(3, (AV.loc 3 0)), (4, (AV.loc 4 0)), (5, (AV.loc 5 0))]), (mm 223 [(3, (Bk.cells true [(AV.p (PV.int IntKind.i64 y.1)), (AV.p (PV.int IntKind.i64 y.2.1)), (AV.p (PV.int IntKind.i64 y.2.2.1)), (AV.p (PV.int IntKind.i64 y.2.2.2.1)), (AV.p (PV.int IntKind.i64 y.2.2.2.2.1)), (AV.p (PV.int IntKind.i64 y.2.2.2.2.2.1)), (AV.p (PV.list y.2.2.2.2.2.2.1 y.2.2.2.2.2.2.2.1))])), (4, (Bk.pcs true [(PV.int IntKind.i64 y.2.2.2.2.2.2.2.2.1), (PV.int IntKind.i64 y.2.2.2.2.2.2.2.2.2.1)])), (5, (Bk.pcs true [(PV.int IntKind.i64 y.2.2.2.2.2.2.2.2.2.2.1), (PV.int IntKind.i64 y.2.2.2.2.2.2.2.2.2.2.2)]))])⟩)
def IL3_ScanWays_1000073b (q : Ext × S) : Int × Int × Int × Int × Int × Int × Nat × List PV × Int × Int × Int × Int := ((pP_int1 (pA_p (hdA (pB_cells1 (avM q.2 3))))), (pP_int1 (pA_p (hdA (List.tail (pB_cells1 (avM q.2 3)))))), (pP_int1 (pA_p (hdA (List.tail (List.tail (pB_cells1 (avM q.2 3))))))), (pP_int1 (pA_p (hdA (List.tail (List.tail (List.tail (pB_cells1 (avM q.2 3)))))))), (pP_int1 (pA_p (hdA (List.tail (List.tail (List.tail (List.tail (pB_cells1 (avM q.2 3))))))))), (pP_int1 (pA_p (hdA (List.tail (List.tail (List.tail (List.tail (List.tail (pB_cells1 (avM q.2 3)))))))))), (pP_list0 (pA_p (hdA (List.tail (List.tail (List.tail (List.tail (List.tail (List.tail (pB_cells1 (avM q.2 3))))))))))), (pP_list1 (pA_p (hdA (List.tail (List.tail (List.tail (List.tail (List.tail (List.tail (pB_cells1 (avM q.2 3))))))))))), (pP_int1 (hdP (pB_pcs1 (avM q.2 4)))), (pP_int1 (hdP (List.tail (pB_pcs1 (avM q.2 4))))), (pP_int1 (hdP (pB_pcs1 (avM q.2 5)))), (pP_int1 (hdP (List.tail (pB_pcs1 (avM q.2 5))))))
abbrev YL3_ScanWays_1000073 : Type := (Unit) ⊕ ((Int × Int × Int × Int × Int × Int × Nat × List PV × Int × Int × Int × Int))
def XLL3_ScanWays_1000073 : XL YL3_ScanWays_1000073 := .more XL3_ScanWays_1000073a (.one XL3_ScanWays_1000073b)
def IL3_ScanWays_1000073 (q : Ext × S) : YL3_ScanWays_1000073 := bif (cE q.1 == 2) then (Sum.inl (IL3_ScanWays_1000073a q)) else (Sum.inr (IL3_ScanWays_1000073b q))
theorem XIL3_ScanWays_1000073a (y : Unit) : IL3_ScanWays_1000073 (xe (XL3_ScanWays_1000073a y)) = (Sum.inl y) := rfl
theorem XIL3_ScanWays_1000073b (y : Int × Int × Int × Int × Int × Int × Nat × List PV × Int × Int × Int × Int) : IL3_ScanWays_1000073 (xe (XL3_ScanWays_1000073b y)) = (Sum.inr y) := rfl
theorem XIL3_ScanWays_1000073 (y : YL3_ScanWays_1000073) : IL3_ScanWays_1000073 (xe (XLL3_ScanWays_1000073.fn y)) = y := (match y with | .inl y => XIL3_ScanWays_1000073a y | .inr y => XIL3_ScanWays_1000073b y)
noncomputable abbrev LL3_ScanWays_1000073 : Q → Option YL3_ScanWays_1000073 := lpO env a8.body 1000073 XLL3_ScanWays_1000073
noncomputable abbrev RL3_ScanWays_1000073 : Q → Option (Ext × S) := lpR env a8.body 1000073
theorem LL3_ScanWays_1000073a_of {s : Q} {y : Unit} (h : RL3_ScanWays_1000073 s = exO (XL3_ScanWays_1000073a y)) : LL3_ScanWays_1000073 s = some (Sum.inl y) := lpO_of IL3_ScanWays_1000073 XIL3_ScanWays_1000073 (y := (Sum.inl y)) h
theorem LL3_ScanWays_1000073b_of {s : Q} {y : Int × Int × Int × Int × Int × Int × Nat × List PV × Int × Int × Int × Int} (h : RL3_ScanWays_1000073 s = exO (XL3_ScanWays_1000073b y)) : LL3_ScanWays_1000073 s = some (Sum.inr y) := lpO_of IL3_ScanWays_1000073 XIL3_ScanWays_1000073 (y := (Sum.inr y)) h
def TL3_ScanWays_1000062a (n0 : Nat) (c1 : List PV) (i2 : Int) (n3 : Nat) (c4 : List PV) (i5 : Int) (i6 : Int) (i7 : Int) (i8 : Int) (i9 : Int) (i10 : Int) (i11 : Int) (n12 : Nat) (c13 : List PV) (i14 : Int) (i15 : Int) (i16 : Int) (i17 : Int) : Q := ⟨(tm 223 [(3, (AV.loc 3 0)), (4, (AV.loc 4 0)), (5, (AV.loc 5 0)), (7, (AV.p (PV.list n0 c1))), (8, (AV.p (PV.int IntKind.i64 i2))), (9, (AV.p (PV.list n3 c4))), (10, (AV.p (PV.int IntKind.i64 i5)))]), (mm 223 [(3, (Bk.cells true [(AV.p (PV.int IntKind.i64 i6)), (AV.p (PV.int IntKind.i64 i7)), (AV.p (PV.int IntKind.i64 i8)), (AV.p (PV.int IntKind.i64 i9)), (AV.p (PV.int IntKind.i64 i10)), (AV.p (PV.int IntKind.i64 i11)), (AV.p (PV.list n12 c13))])), (4, (Bk.pcs true [(PV.int IntKind.i64 i14), (PV.int IntKind.i64 i15)])), (5, (Bk.pcs true [(PV.int IntKind.i64 i16), (PV.int IntKind.i64 i17)]))])⟩
def XL3_ScanWays_1000062a (y : Unit) : Ext × Q := (Ext.ret, ⟨(tm 223 [(6, (AV.p (PV.bool false)))]), (mm 223 [])⟩)
def IL3_ScanWays_1000062a (q : Ext × S) : Unit := ()
def XL3_ScanWays_1000062b (y : Nat × List PV × Int × Int × Int × Int × Int × Int × Nat × List PV × Int × Int × Int × Int) : Ext × Q := (Ext.normal, ⟨(tm 223 [(3, (AV.loc 3 0)), (4, (AV.loc 4 0)), (5, (AV.loc 5 0)), (7, (AV.p (PV.list y.1 y.2.1)))]), (mm 223 [(3, (Bk.cells true [(AV.p (PV.int IntKind.i64 y.2.2.1)), (AV.p (PV.int IntKind.i64 y.2.2.2.1)), (AV.p (PV.int IntKind.i64 y.2.2.2.2.1)), (AV.p (PV.int IntKind.i64 y.2.2.2.2.2.1)), (AV.p (PV.int IntKind.i64 y.2.2.2.2.2.2.1)), (AV.p (PV.int IntKind.i64 y.2.2.2.2.2.2.2.1)), (AV.p (PV.list y.2.2.2.2.2.2.2.2.1 y.2.2.2.2.2.2.2.2.2.1))])), (4, (Bk.pcs true [(PV.int IntKind.i64 y.2.2.2.2.2.2.2.2.2.2.1), (PV.int IntKind.i64 y.2.2.2.2.2.2.2.2.2.2.2.1)])), (5, (Bk.pcs true [(PV.int IntKind.i64 y.2.2.2.2.2.2.2.2.2.2.2.2.1), (PV.int IntKind.i64 y.2.2.2.2.2.2.2.2.2.2.2.2.2)]))])⟩)
def IL3_ScanWays_1000062b (q : Ext × S) : Nat × List PV × Int × Int × Int × Int × Int × Int × Nat × List PV × Int × Int × Int × Int := ((pP_list0 (pA_p (avT q.2 7))), (pP_list1 (pA_p (avT q.2 7))), (pP_int1 (pA_p (hdA (pB_cells1 (avM q.2 3))))), (pP_int1 (pA_p (hdA (List.tail (pB_cells1 (avM q.2 3)))))), (pP_int1 (pA_p (hdA (List.tail (List.tail (pB_cells1 (avM q.2 3))))))), (pP_int1 (pA_p (hdA (List.tail (List.tail (List.tail (pB_cells1 (avM q.2 3)))))))), (pP_int1 (pA_p (hdA (List.tail (List.tail (List.tail (List.tail (pB_cells1 (avM q.2 3))))))))), (pP_int1 (pA_p (hdA (List.tail (List.tail (List.tail (List.tail (List.tail (pB_cells1 (avM q.2 3)))))))))), (pP_list0 (pA_p (hdA (List.tail (List.tail (List.tail (List.tail (List.tail (List.tail (pB_cells1 (avM q.2 3))))))))))), (pP_list1 (pA_p (hdA (List.tail (List.tail (List.tail (List.tail (List.tail (List.tail (pB_cells1 (avM q.2 3))))))))))), (pP_int1 (hdP (pB_pcs1 (avM q.2 4)))), (pP_int1 (hdP (List.tail (pB_pcs1 (avM q.2 4))))), (pP_int1 (hdP (pB_pcs1 (avM q.2 5)))), (pP_int1 (hdP (List.tail (pB_pcs1 (avM q.2 5))))))
abbrev YL3_ScanWays_1000062 : Type := (Unit) ⊕ ((Nat × List PV × Int × Int × Int × Int × Int × Int × Nat × List PV × Int × Int × Int × Int))
def XLL3_ScanWays_1000062 : XL YL3_ScanWays_1000062 := .more XL3_ScanWays_1000062a (.one XL3_ScanWays_1000062b)
def IL3_ScanWays_1000062 (q : Ext × S) : YL3_ScanWays_1000062 := bif (cE q.1 == 2) then (Sum.inl (IL3_ScanWays_1000062a q)) else (Sum.inr (IL3_ScanWays_1000062b q))
theorem XIL3_ScanWays_1000062a (y : Unit) : IL3_ScanWays_1000062 (xe (XL3_ScanWays_1000062a y)) = (Sum.inl y) := rfl
theorem XIL3_ScanWays_1000062b (y : Nat × List PV × Int × Int × Int × Int × Int × Int × Nat × List PV × Int × Int × Int × Int) : IL3_ScanWays_1000062 (xe (XL3_ScanWays_1000062b y)) = (Sum.inr y) := rfl
theorem XIL3_ScanWays_1000062 (y : YL3_ScanWays_1000062) : IL3_ScanWays_1000062 (xe (XLL3_ScanWays_1000062.fn y)) = y := (match y with | .inl y => XIL3_ScanWays_1000062a y | .inr y => XIL3_ScanWays_1000062b y)
noncomputable abbrev LL3_ScanWays_1000062 : Q → Option YL3_ScanWays_1000062 := lpO env a8.body 1000062 XLL3_ScanWays_1000062
noncomputable abbrev RL3_ScanWays_1000062 : Q → Option (Ext × S) := lpR env a8.body 1000062
theorem LL3_ScanWays_1000062a_of {s : Q} {y : Unit} (h : RL3_ScanWays_1000062 s = exO (XL3_ScanWays_1000062a y)) : LL3_ScanWays_1000062 s = some (Sum.inl y) := lpO_of IL3_ScanWays_1000062 XIL3_ScanWays_1000062 (y := (Sum.inl y)) h
theorem LL3_ScanWays_1000062b_of {s : Q} {y : Nat × List PV × Int × Int × Int × Int × Int × Int × Nat × List PV × Int × Int × Int × Int} (h : RL3_ScanWays_1000062 s = exO (XL3_ScanWays_1000062b y)) : LL3_ScanWays_1000062 s = some (Sum.inr y) := lpO_of IL3_ScanWays_1000062 XIL3_ScanWays_1000062 (y := (Sum.inr y)) h
def TL3_ScanWays_1000043a (n0 : Nat) (c1 : List PV) (i2 : Int) (b3 : Bool) (i4 : Int) (i5 : Int) (i6 : Int) (i7 : Int) (i8 : Int) (i9 : Int) (i10 : Int) (n11 : Nat) (c12 : List PV) (i13 : Int) (i14 : Int) (i15 : Int) (i16 : Int) : Q := ⟨(tm 223 [(3, (AV.loc 3 0)), (4, (AV.loc 4 0)), (5, (AV.loc 5 0)), (7, (AV.p (PV.list n0 c1))), (11, (AV.p (PV.int IntKind.i64 i2))), (12, (AV.p (PV.bool b3))), (13, (AV.p (PV.int IntKind.i64 i4)))]), (mm 223 [(3, (Bk.cells true [(AV.p (PV.int IntKind.i64 i5)), (AV.p (PV.int IntKind.i64 i6)), (AV.p (PV.int IntKind.i64 i7)), (AV.p (PV.int IntKind.i64 i8)), (AV.p (PV.int IntKind.i64 i9)), (AV.p (PV.int IntKind.i64 i10)), (AV.p (PV.list n11 c12))])), (4, (Bk.pcs true [(PV.int IntKind.i64 i13), (PV.int IntKind.i64 i14)])), (5, (Bk.pcs true [(PV.int IntKind.i64 i15), (PV.int IntKind.i64 i16)]))])⟩
def XL3_ScanWays_1000043a (y : Unit) : Ext × Q := (Ext.ret, ⟨(tm 223 [(6, (AV.p (PV.bool false)))]), (mm 223 [])⟩)
def IL3_ScanWays_1000043a (q : Ext × S) : Unit := ()
def XL3_ScanWays_1000043b (y : Nat × List PV × Int × Bool × Int × Int × Int × Int × Int × Int × Int × Nat × List PV × Int × Int × Int × Int) : Ext × Q := (Ext.normal, ⟨(tm 223 [(3, (AV.loc 3 0)), (4, (AV.loc 4 0)), (5, (AV.loc 5 0)), (7, (AV.p (PV.list y.1 y.2.1))), (11, (AV.p (PV.int IntKind.i64 y.2.2.1))), (12, (AV.p (PV.bool y.2.2.2.1))), (13, (AV.p (PV.int IntKind.i64 y.2.2.2.2.1)))]), (mm 223 [(3, (Bk.cells true [(AV.p (PV.int IntKind.i64 y.2.2.2.2.2.1)), (AV.p (PV.int IntKind.i64 y.2.2.2.2.2.2.1)), (AV.p (PV.int IntKind.i64 y.2.2.2.2.2.2.2.1)), (AV.p (PV.int IntKind.i64 y.2.2.2.2.2.2.2.2.1)), (AV.p (PV.int IntKind.i64 y.2.2.2.2.2.2.2.2.2.1)), (AV.p (PV.int IntKind.i64 y.2.2.2.2.2.2.2.2.2.2.1)), (AV.p (PV.list y.2.2.2.2.2.2.2.2.2.2.2.1 y.2.2.2.2.2.2.2.2.2.2.2.2.1))])), (4, (Bk.pcs true [(PV.int IntKind.i64 y.2.2.2.2.2.2.2.2.2.2.2.2.2.1), (PV.int IntKind.i64 y.2.2.2.2.2.2.2.2.2.2.2.2.2.2.1)])), (5, (Bk.pcs true [(PV.int IntKind.i64 y.2.2.2.2.2.2.2.2.2.2.2.2.2.2.2.1), (PV.int IntKind.i64 y.2.2.2.2.2.2.2.2.2.2.2.2.2.2.2.2)]))])⟩)
def IL3_ScanWays_1000043b (q : Ext × S) : Nat × List PV × Int × Bool × Int × Int × Int × Int × Int × Int × Int × Nat × List PV × Int × Int × Int × Int := ((pP_list0 (pA_p (avT q.2 7))), (pP_list1 (pA_p (avT q.2 7))), (pP_int1 (pA_p (avT q.2 11))), (pP_bool0 (pA_p (avT q.2 12))), (pP_int1 (pA_p (avT q.2 13))), (pP_int1 (pA_p (hdA (pB_cells1 (avM q.2 3))))), (pP_int1 (pA_p (hdA (List.tail (pB_cells1 (avM q.2 3)))))), (pP_int1 (pA_p (hdA (List.tail (List.tail (pB_cells1 (avM q.2 3))))))), (pP_int1 (pA_p (hdA (List.tail (List.tail (List.tail (pB_cells1 (avM q.2 3)))))))), (pP_int1 (pA_p (hdA (List.tail (List.tail (List.tail (List.tail (pB_cells1 (avM q.2 3))))))))), (pP_int1 (pA_p (hdA (List.tail (List.tail (List.tail (List.tail (List.tail (pB_cells1 (avM q.2 3)))))))))), (pP_list0 (pA_p (hdA (List.tail (List.tail (List.tail (List.tail (List.tail (List.tail (pB_cells1 (avM q.2 3))))))))))), (pP_list1 (pA_p (hdA (List.tail (List.tail (List.tail (List.tail (List.tail (List.tail (pB_cells1 (avM q.2 3))))))))))), (pP_int1 (hdP (pB_pcs1 (avM q.2 4)))), (pP_int1 (hdP (List.tail (pB_pcs1 (avM q.2 4))))), (pP_int1 (hdP (pB_pcs1 (avM q.2 5)))), (pP_int1 (hdP (List.tail (pB_pcs1 (avM q.2 5))))))
abbrev YL3_ScanWays_1000043 : Type := (Unit) ⊕ ((Nat × List PV × Int × Bool × Int × Int × Int × Int × Int × Int × Int × Nat × List PV × Int × Int × Int × Int))
def XLL3_ScanWays_1000043 : XL YL3_ScanWays_1000043 := .more XL3_ScanWays_1000043a (.one XL3_ScanWays_1000043b)
def IL3_ScanWays_1000043 (q : Ext × S) : YL3_ScanWays_1000043 := bif (cE q.1 == 2) then (Sum.inl (IL3_ScanWays_1000043a q)) else (Sum.inr (IL3_ScanWays_1000043b q))
theorem XIL3_ScanWays_1000043a (y : Unit) : IL3_ScanWays_1000043 (xe (XL3_ScanWays_1000043a y)) = (Sum.inl y) := rfl
theorem XIL3_ScanWays_1000043b (y : Nat × List PV × Int × Bool × Int × Int × Int × Int × Int × Int × Int × Nat × List PV × Int × Int × Int × Int) : IL3_ScanWays_1000043 (xe (XL3_ScanWays_1000043b y)) = (Sum.inr y) := rfl
theorem XIL3_ScanWays_1000043 (y : YL3_ScanWays_1000043) : IL3_ScanWays_1000043 (xe (XLL3_ScanWays_1000043.fn y)) = y := (match y with | .inl y => XIL3_ScanWays_1000043a y | .inr y => XIL3_ScanWays_1000043b y)
noncomputable abbrev LL3_ScanWays_1000043 : Q → Option YL3_ScanWays_1000043 := lpO env a8.body 1000043 XLL3_ScanWays_1000043
noncomputable abbrev RL3_ScanWays_1000043 : Q → Option (Ext × S) := lpR env a8.body 1000043
theorem LL3_ScanWays_1000043a_of {s : Q} {y : Unit} (h : RL3_ScanWays_1000043 s = exO (XL3_ScanWays_1000043a y)) : LL3_ScanWays_1000043 s = some (Sum.inl y) := lpO_of IL3_ScanWays_1000043 XIL3_ScanWays_1000043 (y := (Sum.inl y)) h
theorem LL3_ScanWays_1000043b_of {s : Q} {y : Nat × List PV × Int × Bool × Int × Int × Int × Int × Int × Int × Int × Nat × List PV × Int × Int × Int × Int} (h : RL3_ScanWays_1000043 s = exO (XL3_ScanWays_1000043b y)) : LL3_ScanWays_1000043 s = some (Sum.inr y) := lpO_of IL3_ScanWays_1000043 XIL3_ScanWays_1000043 (y := (Sum.inr y)) h
theorem UL3_ScanWays : uniq ((blocksOf a8.body).map (·.1)) = true := by kernel_rfl
def BL3_ScanWays_0a (F : FnT) (N : Q → Option (Ext × S)) (E : Ext × Q → Option (Ext × S)) (L0 : Q → Option YL3_ScanWays_0) (L1000073 : Q → Option YL3_ScanWays_1000073) (L1000062 : Q → Option YL3_ScanWays_1000062) (L1000043 : Q → Option YL3_ScanWays_1000043) (n0 : Nat) (c1 : List PV) (i2 : Int) (b3 : Bool) (i4 : Int) (i5 : Int) (i6 : Int) (i7 : Int) (i8 : Int) (i9 : Int) (i10 : Int) (n11 : Nat) (c12 : List PV) (i13 : Int) (i14 : Int) (i15 : Int) (i16 : Int) : Option (Ext × S) :=
  bif (decide (i4 < (n0 : Int))) then
    bindO (L1000043 (TL3_ScanWays_1000043a n0 c1 i2 b3 i4 i5 i6 i7 i8 i9 i10 n11 c12 i13 i14 i15 i16)) fun z =>
    Sum.elim (fun y0 =>
      E (XL3_ScanWays_0b ())) (fun y1 =>
      N (TL3_ScanWays_0a y1.1 y1.2.1 y1.2.2.1 y1.2.2.2.1 (w64 (y1.2.2.2.2.1 + (1 : Int))) y1.2.2.2.2.2.1 y1.2.2.2.2.2.2.1 y1.2.2.2.2.2.2.2.1 y1.2.2.2.2.2.2.2.2.1 y1.2.2.2.2.2.2.2.2.2.1 y1.2.2.2.2.2.2.2.2.2.2.1 y1.2.2.2.2.2.2.2.2.2.2.2.1 y1.2.2.2.2.2.2.2.2.2.2.2.2.1 y1.2.2.2.2.2.2.2.2.2.2.2.2.2.1 y1.2.2.2.2.2.2.2.2.2.2.2.2.2.2.1 y1.2.2.2.2.2.2.2.2.2.2.2.2.2.2.2.1 y1.2.2.2.2.2.2.2.2.2.2.2.2.2.2.2.2)) z
  else E (XL3_ScanWays_0a (i2, b3, i5, i6, i7, i8, i9, i10, n11, c12, i13, i14, i15, i16))
theorem BL3_ScanWays_0a_eq (F : FnT) (N : Q → Option (Ext × S)) (E : Ext × Q → Option (Ext × S)) (L0 : Q → Option YL3_ScanWays_0) (L1000073 : Q → Option YL3_ScanWays_1000073) (L1000062 : Q → Option YL3_ScanWays_1000062) (L1000043 : Q → Option YL3_ScanWays_1000043) (n0 : Nat) (c1 : List PV) (i2 : Int) (b3 : Bool) (i4 : Int) (i5 : Int) (i6 : Int) (i7 : Int) (i8 : Int) (i9 : Int) (i10 : Int) (n11 : Nat) (c12 : List PV) (i13 : Int) (i14 : Int) (i15 : Int) (i16 : Int) : semB (callP F EL3_ScanWays 20) s8 (loopT [⟨0, YL3_ScanWays_0, L0, XLL3_ScanWays_0⟩, ⟨1000073, YL3_ScanWays_1000073, L1000073, XLL3_ScanWays_1000073⟩, ⟨1000062, YL3_ScanWays_1000062, L1000062, XLL3_ScanWays_1000062⟩, ⟨1000043, YL3_ScanWays_1000043, L1000043, XLL3_ScanWays_1000043⟩]) 400 (blkIn a8.body 0) N E (TL3_ScanWays_0a n0 c1 i2 b3 i4 i5 i6 i7 i8 i9 i10 n11 c12 i13 i14 i15 i16) = BL3_ScanWays_0a F N E L0 L1000073 L1000062 L1000043 n0 c1 i2 b3 i4 i5 i6 i7 i8 i9 i10 n11 c12 i13 i14 i15 i16 := by kernel_rfl
theorem RL3_ScanWays_0a_of  (n0 : Nat) (c1 : List PV) (i2 : Int) (b3 : Bool) (i4 : Int) (i5 : Int) (i6 : Int) (i7 : Int) (i8 : Int) (i9 : Int) (i10 : Int) (n11 : Nat) (c12 : List PV) (i13 : Int) (i14 : Int) (i15 : Int) (i16 : Int) {r : Ext × S} (h : BL3_ScanWays_0a (Fn env) RL3_ScanWays_0 exO LL3_ScanWays_0 LL3_ScanWays_1000073 LL3_ScanWays_1000062 LL3_ScanWays_1000043 n0 c1 i2 b3 i4 i5 i6 i7 i8 i9 i10 n11 c12 i13 i14 i15 i16 = some r) : RL3_ScanWays_0 (TL3_ScanWays_0a n0 c1 i2 b3 i4 i5 i6 i7 i8 i9 i10 n11 c12 i13 i14 i15 i16) = some r :=
  lp_of EL3_ScanWays_ok (by kernel_rfl) (lo_cons (lpO_ok UL3_ScanWays) (lo_cons (lpO_ok UL3_ScanWays) (lo_cons (lpO_ok UL3_ScanWays) (lo_cons (lpO_ok UL3_ScanWays) lo_nil)))) (by kernel_rfl) ((BL3_ScanWays_0a_eq _ _ _ _ _ _ _ _ _ _ _ _ _ _ _ _ _ _ _ _ _ _ _ _).trans h)
def BL3_ScanWays_1000073a (F : FnT) (N : Q → Option (Ext × S)) (E : Ext × Q → Option (Ext × S)) (L0 : Q → Option YL3_ScanWays_0) (L1000073 : Q → Option YL3_ScanWays_1000073) (L1000062 : Q → Option YL3_ScanWays_1000062) (L1000043 : Q → Option YL3_ScanWays_1000043) (i0 : Int) (i1 : Int) (i2 : Int) (i3 : Int) (i4 : Int) (i5 : Int) (n6 : Nat) (c7 : List PV) (i8 : Int) (i9 : Int) (i10 : Int) (i11 : Int) : Option (Ext × S) :=
  bindO (F 27 (RSh.one CK.bool) [(PV.agg [(PV.int IntKind.i64 i0), (PV.int IntKind.i64 i1), (PV.int IntKind.i64 i2), (PV.int IntKind.i64 i3), (PV.int IntKind.i64 i4), (PV.int IntKind.i64 i5), (PV.list n6 c7)])]) fun (y0 : (Bool)) =>
  bif y0 then
    bindO (F 39 (RSh.one (CK.int IntKind.i64)) [(PV.agg [(PV.int IntKind.i64 i0), (PV.int IntKind.i64 i1), (PV.int IntKind.i64 i2), (PV.int IntKind.i64 i3), (PV.int IntKind.i64 i4), (PV.int IntKind.i64 i5), (PV.list n6 c7)])]) fun (y1 : (Int)) =>
    bif (y1 != (0 : Int)) then
      E (XL3_ScanWays_1000073a ())
    else bindO (F 32 (RSh.one (CK.int IntKind.i64)) [(PV.agg [(PV.int IntKind.i64 i8), (PV.int IntKind.i64 i9)])]) fun (y2 : (Int)) =>
    bif (y2 != (0 : Int)) then
      E (XL3_ScanWays_1000073a ())
    else bindO (F 32 (RSh.one (CK.int IntKind.i64)) [(PV.agg [(PV.int IntKind.i64 i10), (PV.int IntKind.i64 i11)])]) fun (y3 : (Int)) =>
    bif (y3 != (0 : Int)) then
      E (XL3_ScanWays_1000073a ())
    else E (XL3_ScanWays_1000073b (i0, i1, i2, i3, i4, i5, n6, c7, i8, i9, i10, i11))
  else E (XL3_ScanWays_1000073a ())
theorem BL3_ScanWays_1000073a_eq (F : FnT) (N : Q → Option (Ext × S)) (E : Ext × Q → Option (Ext × S)) (L0 : Q → Option YL3_ScanWays_0) (L1000073 : Q → Option YL3_ScanWays_1000073) (L1000062 : Q → Option YL3_ScanWays_1000062) (L1000043 : Q → Option YL3_ScanWays_1000043) (i0 : Int) (i1 : Int) (i2 : Int) (i3 : Int) (i4 : Int) (i5 : Int) (n6 : Nat) (c7 : List PV) (i8 : Int) (i9 : Int) (i10 : Int) (i11 : Int) : semN (callP F EL3_ScanWays 20) s8 (loopT [⟨0, YL3_ScanWays_0, L0, XLL3_ScanWays_0⟩, ⟨1000073, YL3_ScanWays_1000073, L1000073, XLL3_ScanWays_1000073⟩, ⟨1000062, YL3_ScanWays_1000062, L1000062, XLL3_ScanWays_1000062⟩, ⟨1000043, YL3_ScanWays_1000043, L1000043, XLL3_ScanWays_1000043⟩]) 400 (blkIn a8.body 1000073) E (TL3_ScanWays_1000073a i0 i1 i2 i3 i4 i5 n6 c7 i8 i9 i10 i11) = BL3_ScanWays_1000073a F N E L0 L1000073 L1000062 L1000043 i0 i1 i2 i3 i4 i5 n6 c7 i8 i9 i10 i11 := by kernel_rfl
theorem RL3_ScanWays_1000073a_of  (i0 : Int) (i1 : Int) (i2 : Int) (i3 : Int) (i4 : Int) (i5 : Int) (n6 : Nat) (c7 : List PV) (i8 : Int) (i9 : Int) (i10 : Int) (i11 : Int) {r : Ext × S} (h : BL3_ScanWays_1000073a (Fn env) RL3_ScanWays_1000073 exO LL3_ScanWays_0 LL3_ScanWays_1000073 LL3_ScanWays_1000062 LL3_ScanWays_1000043 i0 i1 i2 i3 i4 i5 n6 c7 i8 i9 i10 i11 = some r) : RL3_ScanWays_1000073 (TL3_ScanWays_1000073a i0 i1 i2 i3 i4 i5 n6 c7 i8 i9 i10 i11) = some r :=
  nd_of EL3_ScanWays_ok (by kernel_rfl) (lo_cons (lpO_ok UL3_ScanWays) (lo_cons (lpO_ok UL3_ScanWays) (lo_cons (lpO_ok UL3_ScanWays) (lo_cons (lpO_ok UL3_ScanWays) lo_nil)))) (by kernel_rfl) ((BL3_ScanWays_1000073a_eq _ RL3_ScanWays_1000073 _ _ _ _ _ _ _ _ _ _ _ _ _ _ _ _ _).trans h)
def BL3_ScanWays_1000062a (F : FnT) (N : Q → Option (Ext × S)) (E : Ext × Q → Option (Ext × S)) (L0 : Q → Option YL3_ScanWays_0) (L1000073 : Q → Option YL3_ScanWays_1000073) (L1000062 : Q → Option YL3_ScanWays_1000062) (L1000043 : Q → Option YL3_ScanWays_1000043) (n0 : Nat) (c1 : List PV) (i2 : Int) (n3 : Nat) (c4 : List PV) (i5 : Int) (i6 : Int) (i7 : Int) (i8 : Int) (i9 : Int) (i10 : Int) (i11 : Int) (n12 : Nat) (c13 : List PV) (i14 : Int) (i15 : Int) (i16 : Int) (i17 : Int) : Option (Ext × S) :=
  bif (i2 != (0 : Int)) then
    E (XL3_ScanWays_1000062a ())
  else bif (i5 != (0 : Int)) then
    E (XL3_ScanWays_1000062a ())
  else bif ((n0 : Int) == (0 : Int)) then
    E (XL3_ScanWays_1000062a ())
  else bif (decide ((n0 : Int) > (300 : Int))) then
    E (XL3_ScanWays_1000062a ())
  else bif ((n3 : Int) != (n0 : Int)) then
    E (XL3_ScanWays_1000062a ())
  else bif (decide (((0 : Int) ≤ (0 : Int)) ∧ ((0 : Int) < (n0 : Int)))) then
    bindO (intC IntKind.i64 (c1[0]?)) fun x0 =>
    bindO (intC IntKind.i64 (c1[1]?)) fun x1 =>
    bif (!((x0 == i14) && ((x1 == i15) && true))) then
      E (XL3_ScanWays_1000062a ())
    else bif (decide (((0 : Int) ≤ (w64 ((n0 : Int) - (1 : Int)))) ∧ ((w64 ((n0 : Int) - (1 : Int))) < (n0 : Int)))) then
      bindO (intC IntKind.i64 (c1[((Int.toNat (w64 ((n0 : Int) - (1 : Int)))) * 2)]?)) fun x2 =>
      bindO (intC IntKind.i64 (c1[(((Int.toNat (w64 ((n0 : Int) - (1 : Int)))) * 2) + 1)]?)) fun x3 =>
      bif (!((x2 == i16) && ((x3 == i17) && true))) then
        E (XL3_ScanWays_1000062a ())
      else E (XL3_ScanWays_1000062b (n0, c1, i6, i7, i8, i9, i10, i11, n12, c13, i14, i15, i16, i17))
    else none
  else none
theorem BL3_ScanWays_1000062a_eq (F : FnT) (N : Q → Option (Ext × S)) (E : Ext × Q → Option (Ext × S)) (L0 : Q → Option YL3_ScanWays_0) (L1000073 : Q → Option YL3_ScanWays_1000073) (L1000062 : Q → Option YL3_ScanWays_1000062) (L1000043 : Q → Option YL3_ScanWays_1000043) (n0 : Nat) (c1 : List PV) (i2 : Int) (n3 : Nat) (c4 : List PV) (i5 : Int) (i6 : Int) (i7 : Int) (i8 : Int) (i9 : Int) (i10 : Int) (i11 : Int) (n12 : Nat) (c13 : List PV) (i14 : Int) (i15 : Int) (i16 : Int) (i17 : Int) : semN (callP F EL3_ScanWays 20) s8 (loopT [⟨0, YL3_ScanWays_0, L0, XLL3_ScanWays_0⟩, ⟨1000073, YL3_ScanWays_1000073, L1000073, XLL3_ScanWays_1000073⟩, ⟨1000062, YL3_ScanWays_1000062, L1000062, XLL3_ScanWays_1000062⟩, ⟨1000043, YL3_ScanWays_1000043, L1000043, XLL3_ScanWays_1000043⟩]) 400 (blkIn a8.body 1000062) E (TL3_ScanWays_1000062a n0 c1 i2 n3 c4 i5 i6 i7 i8 i9 i10 i11 n12 c13 i14 i15 i16 i17) = BL3_ScanWays_1000062a F N E L0 L1000073 L1000062 L1000043 n0 c1 i2 n3 c4 i5 i6 i7 i8 i9 i10 i11 n12 c13 i14 i15 i16 i17 := by kernel_rfl
theorem RL3_ScanWays_1000062a_of  (n0 : Nat) (c1 : List PV) (i2 : Int) (n3 : Nat) (c4 : List PV) (i5 : Int) (i6 : Int) (i7 : Int) (i8 : Int) (i9 : Int) (i10 : Int) (i11 : Int) (n12 : Nat) (c13 : List PV) (i14 : Int) (i15 : Int) (i16 : Int) (i17 : Int) {r : Ext × S} (h : BL3_ScanWays_1000062a (Fn env) RL3_ScanWays_1000062 exO LL3_ScanWays_0 LL3_ScanWays_1000073 LL3_ScanWays_1000062 LL3_ScanWays_1000043 n0 c1 i2 n3 c4 i5 i6 i7 i8 i9 i10 i11 n12 c13 i14 i15 i16 i17 = some r) : RL3_ScanWays_1000062 (TL3_ScanWays_1000062a n0 c1 i2 n3 c4 i5 i6 i7 i8 i9 i10 i11 n12 c13 i14 i15 i16 i17) = some r :=
  nd_of EL3_ScanWays_ok (by kernel_rfl) (lo_cons (lpO_ok UL3_ScanWays) (lo_cons (lpO_ok UL3_ScanWays) (lo_cons (lpO_ok UL3_ScanWays) (lo_cons (lpO_ok UL3_ScanWays) lo_nil)))) (by kernel_rfl) ((BL3_ScanWays_1000062a_eq _ RL3_ScanWays_1000062 _ _ _ _ _ _ _ _ _ _ _ _ _ _ _ _ _ _ _ _ _ _ _).trans h)
def BL3_ScanWays_1000043a (F : FnT) (N : Q → Option (Ext × S)) (E : Ext × Q → Option (Ext × S)) (L0 : Q → Option YL3_ScanWays_0) (L1000073 : Q → Option YL3_ScanWays_1000073) (L1000062 : Q → Option YL3_ScanWays_1000062) (L1000043 : Q → Option YL3_ScanWays_1000043) (n0 : Nat) (c1 : List PV) (i2 : Int) (b3 : Bool) (i4 : Int) (i5 : Int) (i6 : Int) (i7 : Int) (i8 : Int) (i9 : Int) (i10 : Int) (n11 : Nat) (c12 : List PV) (i13 : Int) (i14 : Int) (i15 : Int) (i16 : Int) : Option (Ext × S) :=
  bif (decide (((0 : Int) ≤ i4) ∧ (i4 < (n0 : Int)))) then
    bindO (intC IntKind.i64 (c1[((Int.toNat i4) * 2)]?)) fun x0 =>
    bindO (intC IntKind.i64 (c1[(((Int.toNat i4) * 2) + 1)]?)) fun x1 =>
    bindO (F 32 (RSh.one (CK.int IntKind.i64)) [(PV.agg [(PV.int IntKind.i64 x0), (PV.int IntKind.i64 x1)])]) fun (y2 : (Int)) =>
    bif (y2 != (0 : Int)) then
      E (XL3_ScanWays_1000043a ())
    else bindO (F 29 (RSh.agg [(CK.int IntKind.i64), (CK.int IntKind.i64), (CK.int IntKind.i64), (CK.int IntKind.i64), (CK.int IntKind.i64), (CK.int IntKind.i64), CK.list]) [(PV.agg [(PV.int IntKind.i64 i5), (PV.int IntKind.i64 i6), (PV.int IntKind.i64 i7), (PV.int IntKind.i64 i8), (PV.int IntKind.i64 i9), (PV.int IntKind.i64 i10), (PV.list n11 c12)])]) fun (y3 : ((Int) × ((Int) × ((Int) × ((Int) × ((Int) × ((Int) × ((Nat) × (List PV))))))))) =>
    bif (decide (((0 : Int) ≤ i4) ∧ (i4 < (n0 : Int)))) then
      bindO (intC IntKind.i64 (c1[((Int.toNat i4) * 2)]?)) fun x4 =>
      bindO (intC IntKind.i64 (c1[(((Int.toNat i4) * 2) + 1)]?)) fun x5 =>
      bindO (F 30 (RSh.tup [(Prod.mk false [CK.bool]), (Prod.mk false [(CK.int IntKind.i64)])]) [(PV.agg [(PV.int IntKind.i64 y3.1), (PV.int IntKind.i64 y3.2.1), (PV.int IntKind.i64 y3.2.2.1), (PV.int IntKind.i64 y3.2.2.2.1), (PV.int IntKind.i64 y3.2.2.2.2.1), (PV.int IntKind.i64 y3.2.2.2.2.2.1), (PV.list y3.2.2.2.2.2.2.1 y3.2.2.2.2.2.2.2)]), (PV.agg [(PV.int IntKind.i64 x4), (PV.int IntKind.i64 x5)])]) fun (y6 : ((Bool) × (Int))) =>
      bif y6.1 then
        bif (y6.2 != (0 : Int)) then
          E (XL3_ScanWays_1000043a ())
        else bif b3 then
          bif (i4 == (0 : Int)) then
            E (XL3_ScanWays_1000043b (n0, c1, i2, false, i4, i5, i6, i7, i8, i9, i10, n11, c12, i13, i14, i15, i16))
          else bif (decide (((0 : Int) ≤ i4) ∧ (i4 < (n0 : Int)))) then
            bindO (intC IntKind.i64 (c1[(((Int.toNat i4) * 2) + 0)]?)) fun x7 =>
            bif (decide (((0 : Int) ≤ (w64 (i4 - (1 : Int)))) ∧ ((w64 (i4 - (1 : Int))) < (n0 : Int)))) then
              bindO (intC IntKind.i64 (c1[(((Int.toNat (w64 (i4 - (1 : Int)))) * 2) + 0)]?)) fun x8 =>
              bindO (F 42 (RSh.one (CK.int IntKind.i64)) [(PV.int IntKind.i64 (w64 (x7 - x8))), (PV.int IntKind.i64 (360 : Int))]) fun (y9 : (Int)) =>
              bif (decide (((0 : Int) ≤ i4) ∧ (i4 < (n0 : Int)))) then
                bindO (intC IntKind.i64 (c1[(((Int.toNat i4) * 2) + 1)]?)) fun x10 =>
                bif (decide (((0 : Int) ≤ (w64 (i4 - (1 : Int)))) ∧ ((w64 (i4 - (1 : Int))) < (n0 : Int)))) then
                  bindO (intC IntKind.i64 (c1[(((Int.toNat (w64 (i4 - (1 : Int)))) * 2) + 1)]?)) fun x11 =>
                  bif ((w64 (x10 - x11)) == (0 : Int)) then
                    bif (y9 == (1 : Int)) then
                      E (XL3_ScanWays_1000043b (n0, c1, (w64 (i2 + (1 : Int))), false, i4, i5, i6, i7, i8, i9, i10, n11, c12, i13, i14, i15, i16))
                    else bif (y9 == (359 : Int)) then
                      E (XL3_ScanWays_1000043b (n0, c1, (w64 (i2 + (1 : Int))), false, i4, i5, i6, i7, i8, i9, i10, n11, c12, i13, i14, i15, i16))
                    else bif (y9 != (0 : Int)) then
                      E (XL3_ScanWays_1000043a ())
                    else bif ((w64 (x10 - x11)) != (1 : Int)) then
                      bif ((w64 (x10 - x11)) != (-1 : Int)) then
                        E (XL3_ScanWays_1000043a ())
                      else E (XL3_ScanWays_1000043b (n0, c1, i2, false, i4, i5, i6, i7, i8, i9, i10, n11, c12, i13, i14, i15, i16))
                    else E (XL3_ScanWays_1000043b (n0, c1, i2, false, i4, i5, i6, i7, i8, i9, i10, n11, c12, i13, i14, i15, i16))
                  else bif (y9 != (0 : Int)) then
                    E (XL3_ScanWays_1000043a ())
                  else bif ((w64 (x10 - x11)) != (1 : Int)) then
                    bif ((w64 (x10 - x11)) != (-1 : Int)) then
                      E (XL3_ScanWays_1000043a ())
                    else E (XL3_ScanWays_1000043b (n0, c1, i2, false, i4, i5, i6, i7, i8, i9, i10, n11, c12, i13, i14, i15, i16))
                  else E (XL3_ScanWays_1000043b (n0, c1, i2, false, i4, i5, i6, i7, i8, i9, i10, n11, c12, i13, i14, i15, i16))
                else none
              else none
            else none
          else none
        else bif (i4 == (0 : Int)) then
          E (XL3_ScanWays_1000043b (n0, c1, i2, false, i4, i5, i6, i7, i8, i9, i10, n11, c12, i13, i14, i15, i16))
        else bif (decide (((0 : Int) ≤ i4) ∧ (i4 < (n0 : Int)))) then
          bindO (intC IntKind.i64 (c1[(((Int.toNat i4) * 2) + 0)]?)) fun x12 =>
          bif (decide (((0 : Int) ≤ (w64 (i4 - (1 : Int)))) ∧ ((w64 (i4 - (1 : Int))) < (n0 : Int)))) then
            bindO (intC IntKind.i64 (c1[(((Int.toNat (w64 (i4 - (1 : Int)))) * 2) + 0)]?)) fun x13 =>
            bindO (F 42 (RSh.one (CK.int IntKind.i64)) [(PV.int IntKind.i64 (w64 (x12 - x13))), (PV.int IntKind.i64 (360 : Int))]) fun (y14 : (Int)) =>
            bif (decide (((0 : Int) ≤ i4) ∧ (i4 < (n0 : Int)))) then
              bindO (intC IntKind.i64 (c1[(((Int.toNat i4) * 2) + 1)]?)) fun x15 =>
              bif (decide (((0 : Int) ≤ (w64 (i4 - (1 : Int)))) ∧ ((w64 (i4 - (1 : Int))) < (n0 : Int)))) then
                bindO (intC IntKind.i64 (c1[(((Int.toNat (w64 (i4 - (1 : Int)))) * 2) + 1)]?)) fun x16 =>
                bif ((w64 (x15 - x16)) == (0 : Int)) then
                  bif (y14 == (1 : Int)) then
                    E (XL3_ScanWays_1000043b (n0, c1, (w64 (i2 + (1 : Int))), false, i4, i5, i6, i7, i8, i9, i10, n11, c12, i13, i14, i15, i16))
                  else bif (y14 == (359 : Int)) then
                    E (XL3_ScanWays_1000043b (n0, c1, (w64 (i2 + (1 : Int))), false, i4, i5, i6, i7, i8, i9, i10, n11, c12, i13, i14, i15, i16))
                  else bif (y14 != (0 : Int)) then
                    E (XL3_ScanWays_1000043a ())
                  else bif ((w64 (x15 - x16)) != (1 : Int)) then
                    bif ((w64 (x15 - x16)) != (-1 : Int)) then
                      E (XL3_ScanWays_1000043a ())
                    else E (XL3_ScanWays_1000043b (n0, c1, i2, false, i4, i5, i6, i7, i8, i9, i10, n11, c12, i13, i14, i15, i16))
                  else E (XL3_ScanWays_1000043b (n0, c1, i2, false, i4, i5, i6, i7, i8, i9, i10, n11, c12, i13, i14, i15, i16))
                else bif (y14 != (0 : Int)) then
                  E (XL3_ScanWays_1000043a ())
                else bif ((w64 (x15 - x16)) != (1 : Int)) then
                  bif ((w64 (x15 - x16)) != (-1 : Int)) then
                    E (XL3_ScanWays_1000043a ())
                  else E (XL3_ScanWays_1000043b (n0, c1, i2, false, i4, i5, i6, i7, i8, i9, i10, n11, c12, i13, i14, i15, i16))
                else E (XL3_ScanWays_1000043b (n0, c1, i2, false, i4, i5, i6, i7, i8, i9, i10, n11, c12, i13, i14, i15, i16))
              else none
            else none
          else none
        else none
      else bif (y6.2 != (0 : Int)) then
        E (XL3_ScanWays_1000043a ())
      else bif b3 then
        bif (i4 == (0 : Int)) then
          E (XL3_ScanWays_1000043b (n0, c1, i2, true, i4, i5, i6, i7, i8, i9, i10, n11, c12, i13, i14, i15, i16))
        else bif (decide (((0 : Int) ≤ i4) ∧ (i4 < (n0 : Int)))) then
          bindO (intC IntKind.i64 (c1[(((Int.toNat i4) * 2) + 0)]?)) fun x17 =>
          bif (decide (((0 : Int) ≤ (w64 (i4 - (1 : Int)))) ∧ ((w64 (i4 - (1 : Int))) < (n0 : Int)))) then
            bindO (intC IntKind.i64 (c1[(((Int.toNat (w64 (i4 - (1 : Int)))) * 2) + 0)]?)) fun x18 =>
            bindO (F 42 (RSh.one (CK.int IntKind.i64)) [(PV.int IntKind.i64 (w64 (x17 - x18))), (PV.int IntKind.i64 (360 : Int))]) fun (y19 : (Int)) =>
            bif (decide (((0 : Int) ≤ i4) ∧ (i4 < (n0 : Int)))) then
              bindO (intC IntKind.i64 (c1[(((Int.toNat i4) * 2) + 1)]?)) fun x20 =>
              bif (decide (((0 : Int) ≤ (w64 (i4 - (1 : Int)))) ∧ ((w64 (i4 - (1 : Int))) < (n0 : Int)))) then
                bindO (intC IntKind.i64 (c1[(((Int.toNat (w64 (i4 - (1 : Int)))) * 2) + 1)]?)) fun x21 =>
                bif ((w64 (x20 - x21)) == (0 : Int)) then
                  bif (y19 == (1 : Int)) then
                    E (XL3_ScanWays_1000043b (n0, c1, (w64 (i2 + (1 : Int))), true, i4, i5, i6, i7, i8, i9, i10, n11, c12, i13, i14, i15, i16))
                  else bif (y19 == (359 : Int)) then
                    E (XL3_ScanWays_1000043b (n0, c1, (w64 (i2 + (1 : Int))), true, i4, i5, i6, i7, i8, i9, i10, n11, c12, i13, i14, i15, i16))
                  else bif (y19 != (0 : Int)) then
                    E (XL3_ScanWays_1000043a ())
                  else bif ((w64 (x20 - x21)) != (1 : Int)) then
                    bif ((w64 (x20 - x21)) != (-1 : Int)) then
                      E (XL3_ScanWays_1000043a ())
                    else E (XL3_ScanWays_1000043b (n0, c1, i2, true, i4, i5, i6, i7, i8, i9, i10, n11, c12, i13, i14, i15, i16))
                  else E (XL3_ScanWays_1000043b (n0, c1, i2, true, i4, i5, i6, i7, i8, i9, i10, n11, c12, i13, i14, i15, i16))
                else bif (y19 != (0 : Int)) then
                  E (XL3_ScanWays_1000043a ())
                else bif ((w64 (x20 - x21)) != (1 : Int)) then
                  bif ((w64 (x20 - x21)) != (-1 : Int)) then
                    E (XL3_ScanWays_1000043a ())
                  else E (XL3_ScanWays_1000043b (n0, c1, i2, true, i4, i5, i6, i7, i8, i9, i10, n11, c12, i13, i14, i15, i16))
                else E (XL3_ScanWays_1000043b (n0, c1, i2, true, i4, i5, i6, i7, i8, i9, i10, n11, c12, i13, i14, i15, i16))
              else none
            else none
          else none
        else none
      else bif (i4 == (0 : Int)) then
        E (XL3_ScanWays_1000043b (n0, c1, i2, false, i4, i5, i6, i7, i8, i9, i10, n11, c12, i13, i14, i15, i16))
      else bif (decide (((0 : Int) ≤ i4) ∧ (i4 < (n0 : Int)))) then
        bindO (intC IntKind.i64 (c1[(((Int.toNat i4) * 2) + 0)]?)) fun x22 =>
        bif (decide (((0 : Int) ≤ (w64 (i4 - (1 : Int)))) ∧ ((w64 (i4 - (1 : Int))) < (n0 : Int)))) then
          bindO (intC IntKind.i64 (c1[(((Int.toNat (w64 (i4 - (1 : Int)))) * 2) + 0)]?)) fun x23 =>
          bindO (F 42 (RSh.one (CK.int IntKind.i64)) [(PV.int IntKind.i64 (w64 (x22 - x23))), (PV.int IntKind.i64 (360 : Int))]) fun (y24 : (Int)) =>
          bif (decide (((0 : Int) ≤ i4) ∧ (i4 < (n0 : Int)))) then
            bindO (intC IntKind.i64 (c1[(((Int.toNat i4) * 2) + 1)]?)) fun x25 =>
            bif (decide (((0 : Int) ≤ (w64 (i4 - (1 : Int)))) ∧ ((w64 (i4 - (1 : Int))) < (n0 : Int)))) then
              bindO (intC IntKind.i64 (c1[(((Int.toNat (w64 (i4 - (1 : Int)))) * 2) + 1)]?)) fun x26 =>
              bif ((w64 (x25 - x26)) == (0 : Int)) then
                bif (y24 == (1 : Int)) then
                  E (XL3_ScanWays_1000043b (n0, c1, (w64 (i2 + (1 : Int))), false, i4, i5, i6, i7, i8, i9, i10, n11, c12, i13, i14, i15, i16))
                else bif (y24 == (359 : Int)) then
                  E (XL3_ScanWays_1000043b (n0, c1, (w64 (i2 + (1 : Int))), false, i4, i5, i6, i7, i8, i9, i10, n11, c12, i13, i14, i15, i16))
                else bif (y24 != (0 : Int)) then
                  E (XL3_ScanWays_1000043a ())
                else bif ((w64 (x25 - x26)) != (1 : Int)) then
                  bif ((w64 (x25 - x26)) != (-1 : Int)) then
                    E (XL3_ScanWays_1000043a ())
                  else E (XL3_ScanWays_1000043b (n0, c1, i2, false, i4, i5, i6, i7, i8, i9, i10, n11, c12, i13, i14, i15, i16))
                else E (XL3_ScanWays_1000043b (n0, c1, i2, false, i4, i5, i6, i7, i8, i9, i10, n11, c12, i13, i14, i15, i16))
              else bif (y24 != (0 : Int)) then
                E (XL3_ScanWays_1000043a ())
              else bif ((w64 (x25 - x26)) != (1 : Int)) then
                bif ((w64 (x25 - x26)) != (-1 : Int)) then
                  E (XL3_ScanWays_1000043a ())
                else E (XL3_ScanWays_1000043b (n0, c1, i2, false, i4, i5, i6, i7, i8, i9, i10, n11, c12, i13, i14, i15, i16))
              else E (XL3_ScanWays_1000043b (n0, c1, i2, false, i4, i5, i6, i7, i8, i9, i10, n11, c12, i13, i14, i15, i16))
            else none
          else none
        else none
      else none
    else none
  else none
theorem BL3_ScanWays_1000043a_eq (F : FnT) (N : Q → Option (Ext × S)) (E : Ext × Q → Option (Ext × S)) (L0 : Q → Option YL3_ScanWays_0) (L1000073 : Q → Option YL3_ScanWays_1000073) (L1000062 : Q → Option YL3_ScanWays_1000062) (L1000043 : Q → Option YL3_ScanWays_1000043) (n0 : Nat) (c1 : List PV) (i2 : Int) (b3 : Bool) (i4 : Int) (i5 : Int) (i6 : Int) (i7 : Int) (i8 : Int) (i9 : Int) (i10 : Int) (n11 : Nat) (c12 : List PV) (i13 : Int) (i14 : Int) (i15 : Int) (i16 : Int) : semN (callP F EL3_ScanWays 20) s8 (loopT [⟨0, YL3_ScanWays_0, L0, XLL3_ScanWays_0⟩, ⟨1000073, YL3_ScanWays_1000073, L1000073, XLL3_ScanWays_1000073⟩, ⟨1000062, YL3_ScanWays_1000062, L1000062, XLL3_ScanWays_1000062⟩, ⟨1000043, YL3_ScanWays_1000043, L1000043, XLL3_ScanWays_1000043⟩]) 400 (blkIn a8.body 1000043) E (TL3_ScanWays_1000043a n0 c1 i2 b3 i4 i5 i6 i7 i8 i9 i10 n11 c12 i13 i14 i15 i16) = BL3_ScanWays_1000043a F N E L0 L1000073 L1000062 L1000043 n0 c1 i2 b3 i4 i5 i6 i7 i8 i9 i10 n11 c12 i13 i14 i15 i16 := by kernel_rfl
theorem RL3_ScanWays_1000043a_of  (n0 : Nat) (c1 : List PV) (i2 : Int) (b3 : Bool) (i4 : Int) (i5 : Int) (i6 : Int) (i7 : Int) (i8 : Int) (i9 : Int) (i10 : Int) (n11 : Nat) (c12 : List PV) (i13 : Int) (i14 : Int) (i15 : Int) (i16 : Int) {r : Ext × S} (h : BL3_ScanWays_1000043a (Fn env) RL3_ScanWays_1000043 exO LL3_ScanWays_0 LL3_ScanWays_1000073 LL3_ScanWays_1000062 LL3_ScanWays_1000043 n0 c1 i2 b3 i4 i5 i6 i7 i8 i9 i10 n11 c12 i13 i14 i15 i16 = some r) : RL3_ScanWays_1000043 (TL3_ScanWays_1000043a n0 c1 i2 b3 i4 i5 i6 i7 i8 i9 i10 n11 c12 i13 i14 i15 i16) = some r :=
  nd_of EL3_ScanWays_ok (by kernel_rfl) (lo_cons (lpO_ok UL3_ScanWays) (lo_cons (lpO_ok UL3_ScanWays) (lo_cons (lpO_ok UL3_ScanWays) (lo_cons (lpO_ok UL3_ScanWays) lo_nil)))) (by kernel_rfl) ((BL3_ScanWays_1000043a_eq _ RL3_ScanWays_1000043 _ _ _ _ _ _ _ _ _ _ _ _ _ _ _ _ _ _ _ _ _ _).trans h)
def tL3_ScanWays (F : FnT) (L0 : Q → Option YL3_ScanWays_0) (L1000073 : Q → Option YL3_ScanWays_1000073) (L1000062 : Q → Option YL3_ScanWays_1000062) (L1000043 : Q → Option YL3_ScanWays_1000043) (p0_0 : Int) (p0_1 : Int) (p0_2 : Int) (p0_3 : Int) (p0_4 : Int) (p0_5 : Int) (p0_6n : Nat) (p0_6c : List PV) (p1_0 : Int) (p1_1 : Int) (p2_0 : Int) (p2_1 : Int) : Option (Bool) :=
  bindO (F 12 (RSh.one CK.bool) []) fun (y0 : (Bool)) =>
  bif y0 then
    bindO (L1000073 (TL3_ScanWays_1000073a p0_0 p0_1 p0_2 p0_3 p0_4 p0_5 p0_6n p0_6c p1_0 p1_1 p2_0 p2_1)) fun z =>
    Sum.elim (fun y1 =>
      some true) (fun y2 =>
      bindO (F 34 (RSh.tup [(Prod.mk false [CK.list]), (Prod.mk false [(CK.int IntKind.i64)])]) [(PV.agg [(PV.int IntKind.i64 y2.2.2.2.2.2.2.2.2.1), (PV.int IntKind.i64 y2.2.2.2.2.2.2.2.2.2.1)]), (PV.agg [(PV.int IntKind.i64 y2.2.2.2.2.2.2.2.2.2.2.1), (PV.int IntKind.i64 y2.2.2.2.2.2.2.2.2.2.2.2)])]) fun (y3 : (((Nat) × (List PV)) × (Int))) =>
      bindO (F 34 (RSh.tup [(Prod.mk false [CK.list]), (Prod.mk false [(CK.int IntKind.i64)])]) [(PV.agg [(PV.int IntKind.i64 y2.2.2.2.2.2.2.2.2.2.2.1), (PV.int IntKind.i64 y2.2.2.2.2.2.2.2.2.2.2.2)]), (PV.agg [(PV.int IntKind.i64 y2.2.2.2.2.2.2.2.2.1), (PV.int IntKind.i64 y2.2.2.2.2.2.2.2.2.2.1)])]) fun (y4 : (((Nat) × (List PV)) × (Int))) =>
      bindO (L1000062 (TL3_ScanWays_1000062a y3.1.1 y3.1.2 y3.2 y4.1.1 y4.1.2 y4.2 y2.1 y2.2.1 y2.2.2.1 y2.2.2.2.1 y2.2.2.2.2.1 y2.2.2.2.2.2.1 y2.2.2.2.2.2.2.1 y2.2.2.2.2.2.2.2.1 y2.2.2.2.2.2.2.2.2.1 y2.2.2.2.2.2.2.2.2.2.1 y2.2.2.2.2.2.2.2.2.2.2.1 y2.2.2.2.2.2.2.2.2.2.2.2)) fun z =>
      Sum.elim (fun y5 =>
        some false) (fun y6 =>
        bindO (L0 (TL3_ScanWays_0a y6.1 y6.2.1 (0 : Int) true (0 : Int) y6.2.2.1 y6.2.2.2.1 y6.2.2.2.2.1 y6.2.2.2.2.2.1 y6.2.2.2.2.2.2.1 y6.2.2.2.2.2.2.2.1 y6.2.2.2.2.2.2.2.2.1 y6.2.2.2.2.2.2.2.2.2.1 y6.2.2.2.2.2.2.2.2.2.2.1 y6.2.2.2.2.2.2.2.2.2.2.2.1 y6.2.2.2.2.2.2.2.2.2.2.2.2.1 y6.2.2.2.2.2.2.2.2.2.2.2.2.2)) fun z =>
        Sum.elim (fun y7 =>
          bindO (F 29 (RSh.agg [(CK.int IntKind.i64), (CK.int IntKind.i64), (CK.int IntKind.i64), (CK.int IntKind.i64), (CK.int IntKind.i64), (CK.int IntKind.i64), CK.list]) [(PV.agg [(PV.int IntKind.i64 y7.2.2.1), (PV.int IntKind.i64 y7.2.2.2.1), (PV.int IntKind.i64 y7.2.2.2.2.1), (PV.int IntKind.i64 y7.2.2.2.2.2.1), (PV.int IntKind.i64 y7.2.2.2.2.2.2.1), (PV.int IntKind.i64 y7.2.2.2.2.2.2.2.1), (PV.list y7.2.2.2.2.2.2.2.2.1 y7.2.2.2.2.2.2.2.2.2.1)])]) fun (y8 : ((Int) × ((Int) × ((Int) × ((Int) × ((Int) × ((Int) × ((Nat) × (List PV))))))))) =>
          bindO (F 35 (RSh.tup [(Prod.mk false [(CK.int IntKind.i64)]), (Prod.mk false [(CK.int IntKind.i64)])]) [(PV.agg [(PV.int IntKind.i64 y8.1), (PV.int IntKind.i64 y8.2.1), (PV.int IntKind.i64 y8.2.2.1), (PV.int IntKind.i64 y8.2.2.2.1), (PV.int IntKind.i64 y8.2.2.2.2.1), (PV.int IntKind.i64 y8.2.2.2.2.2.1), (PV.list y8.2.2.2.2.2.2.1 y8.2.2.2.2.2.2.2)]), (PV.agg [(PV.int IntKind.i64 y7.2.2.2.2.2.2.2.2.2.2.1), (PV.int IntKind.i64 y7.2.2.2.2.2.2.2.2.2.2.2.1)]), (PV.agg [(PV.int IntKind.i64 y7.2.2.2.2.2.2.2.2.2.2.2.2.1), (PV.int IntKind.i64 y7.2.2.2.2.2.2.2.2.2.2.2.2.2)])]) fun (y9 : ((Int) × (Int))) =>
          bindO (F 29 (RSh.agg [(CK.int IntKind.i64), (CK.int IntKind.i64), (CK.int IntKind.i64), (CK.int IntKind.i64), (CK.int IntKind.i64), (CK.int IntKind.i64), CK.list]) [(PV.agg [(PV.int IntKind.i64 y7.2.2.1), (PV.int IntKind.i64 y7.2.2.2.1), (PV.int IntKind.i64 y7.2.2.2.2.1), (PV.int IntKind.i64 y7.2.2.2.2.2.1), (PV.int IntKind.i64 y7.2.2.2.2.2.2.1), (PV.int IntKind.i64 y7.2.2.2.2.2.2.2.1), (PV.list y7.2.2.2.2.2.2.2.2.1 y7.2.2.2.2.2.2.2.2.2.1)])]) fun (y10 : ((Int) × ((Int) × ((Int) × ((Int) × ((Int) × ((Int) × ((Nat) × (List PV))))))))) =>
          bindO (F 35 (RSh.tup [(Prod.mk false [(CK.int IntKind.i64)]), (Prod.mk false [(CK.int IntKind.i64)])]) [(PV.agg [(PV.int IntKind.i64 y10.1), (PV.int IntKind.i64 y10.2.1), (PV.int IntKind.i64 y10.2.2.1), (PV.int IntKind.i64 y10.2.2.2.1), (PV.int IntKind.i64 y10.2.2.2.2.1), (PV.int IntKind.i64 y10.2.2.2.2.2.1), (PV.list y10.2.2.2.2.2.2.1 y10.2.2.2.2.2.2.2)]), (PV.agg [(PV.int IntKind.i64 y7.2.2.2.2.2.2.2.2.2.2.2.2.1), (PV.int IntKind.i64 y7.2.2.2.2.2.2.2.2.2.2.2.2.2)]), (PV.agg [(PV.int IntKind.i64 y7.2.2.2.2.2.2.2.2.2.2.1), (PV.int IntKind.i64 y7.2.2.2.2.2.2.2.2.2.2.2.1)])]) fun (y11 : ((Int) × (Int))) =>
          bindO (F 29 (RSh.agg [(CK.int IntKind.i64), (CK.int IntKind.i64), (CK.int IntKind.i64), (CK.int IntKind.i64), (CK.int IntKind.i64), (CK.int IntKind.i64), CK.list]) [(PV.agg [(PV.int IntKind.i64 y7.2.2.1), (PV.int IntKind.i64 y7.2.2.2.1), (PV.int IntKind.i64 y7.2.2.2.2.1), (PV.int IntKind.i64 y7.2.2.2.2.2.1), (PV.int IntKind.i64 y7.2.2.2.2.2.2.1), (PV.int IntKind.i64 y7.2.2.2.2.2.2.2.1), (PV.list y7.2.2.2.2.2.2.2.2.1 y7.2.2.2.2.2.2.2.2.2.1)])]) fun (y12 : ((Int) × ((Int) × ((Int) × ((Int) × ((Int) × ((Int) × ((Nat) × (List PV))))))))) =>
          bindO (F 36 (RSh.tup [(Prod.mk false [CK.bool]), (Prod.mk false [(CK.int IntKind.i64)])]) [(PV.agg [(PV.int IntKind.i64 y12.1), (PV.int IntKind.i64 y12.2.1), (PV.int IntKind.i64 y12.2.2.1), (PV.int IntKind.i64 y12.2.2.2.1), (PV.int IntKind.i64 y12.2.2.2.2.1), (PV.int IntKind.i64 y12.2.2.2.2.2.1), (PV.list y12.2.2.2.2.2.2.1 y12.2.2.2.2.2.2.2)]), (PV.agg [(PV.int IntKind.i64 y7.2.2.2.2.2.2.2.2.2.2.1), (PV.int IntKind.i64 y7.2.2.2.2.2.2.2.2.2.2.2.1)]), (PV.agg [(PV.int IntKind.i64 y7.2.2.2.2.2.2.2.2.2.2.2.2.1), (PV.int IntKind.i64 y7.2.2.2.2.2.2.2.2.2.2.2.2.2)])]) fun (y13 : ((Bool) × (Int))) =>
          bif y13.1 then
            bif (y9.2 == (0 : Int)) then
              bif (y11.2 == (0 : Int)) then
                bif (y9.1 == y11.1) then
                  bif (decide ((w64 ((2 : Int) * y7.1)) ≤ (360 : Int))) then
                    bif (y13.2 == (0 : Int)) then
                      bif y7.2.1 then
                        some true
                      else some false
                    else some false
                  else some false
                else some false
              else some false
            else some false
          else bif (y9.2 == (0 : Int)) then
            bif (y11.2 == (0 : Int)) then
              bif (y9.1 == y11.1) then
                bif (decide ((w64 ((2 : Int) * y7.1)) ≤ (360 : Int))) then
                  bif (y13.2 == (0 : Int)) then
                    bif y7.2.1 then
                      some false
                    else some true
                  else some false
                else some false
              else some false
            else some false
          else some false) (fun y14 =>
          some false) z) z) z
  else some false
theorem tL3_ScanWays_eq (F : FnT) (L0 : Q → Option YL3_ScanWays_0) (L1000073 : Q → Option YL3_ScanWays_1000073) (L1000062 : Q → Option YL3_ScanWays_1000062) (L1000043 : Q → Option YL3_ScanWays_1000043) (p0_0 : Int) (p0_1 : Int) (p0_2 : Int) (p0_3 : Int) (p0_4 : Int) (p0_5 : Int) (p0_6n : Nat) (p0_6c : List PV) (p1_0 : Int) (p1_1 : Int) (p2_0 : Int) (p2_1 : Int) : semF (callP F EL3_ScanWays 20) s8 (loopT [⟨0, YL3_ScanWays_0, L0, XLL3_ScanWays_0⟩, ⟨1000073, YL3_ScanWays_1000073, L1000073, XLL3_ScanWays_1000073⟩, ⟨1000062, YL3_ScanWays_1000062, L1000062, XLL3_ScanWays_1000062⟩, ⟨1000043, YL3_ScanWays_1000043, L1000043, XLL3_ScanWays_1000043⟩]) 400 a8 [PV.agg [PV.int IntKind.i64 p0_0, PV.int IntKind.i64 p0_1, PV.int IntKind.i64 p0_2, PV.int IntKind.i64 p0_3, PV.int IntKind.i64 p0_4, PV.int IntKind.i64 p0_5, PV.list p0_6n p0_6c], PV.agg [PV.int IntKind.i64 p1_0, PV.int IntKind.i64 p1_1], PV.agg [PV.int IntKind.i64 p2_0, PV.int IntKind.i64 p2_1]] (fun rv => decR (RSh.one CK.bool) rv.pv) = tL3_ScanWays F L0 L1000073 L1000062 L1000043 p0_0 p0_1 p0_2 p0_3 p0_4 p0_5 p0_6n p0_6c p1_0 p1_1 p2_0 p2_1 := by kernel_rfl
noncomputable abbrev FL3_ScanWays (args : List PV) := Fn env 8 (RSh.one CK.bool) args
theorem FL3_ScanWays_of  (p0_0 : Int) (p0_1 : Int) (p0_2 : Int) (p0_3 : Int) (p0_4 : Int) (p0_5 : Int) (p0_6n : Nat) (p0_6c : List PV) (p1_0 : Int) (p1_1 : Int) (p2_0 : Int) (p2_1 : Int) {res : (Bool)} (h : tL3_ScanWays (Fn env) LL3_ScanWays_0 LL3_ScanWays_1000073 LL3_ScanWays_1000062 LL3_ScanWays_1000043 p0_0 p0_1 p0_2 p0_3 p0_4 p0_5 p0_6n p0_6c p1_0 p1_1 p2_0 p2_1 = some res) : FL3_ScanWays [PV.agg [PV.int IntKind.i64 p0_0, PV.int IntKind.i64 p0_1, PV.int IntKind.i64 p0_2, PV.int IntKind.i64 p0_3, PV.int IntKind.i64 p0_4, PV.int IntKind.i64 p0_5, PV.list p0_6n p0_6c], PV.agg [PV.int IntKind.i64 p1_0, PV.int IntKind.i64 p1_1], PV.agg [PV.int IntKind.i64 p2_0, PV.int IntKind.i64 p2_1]] = some res :=
  fn_of EL3_ScanWays_ok rfl rfl (lo_cons (lpO_ok UL3_ScanWays) (lo_cons (lpO_ok UL3_ScanWays) (lo_cons (lpO_ok UL3_ScanWays) (lo_cons (lpO_ok UL3_ScanWays) lo_nil)))) ((tL3_ScanWays_eq _ _ _ _ _ _ _ _ _ _ _ _ _ _ _ _ _).trans h)

end Gv
