/- What the functions do, round by round: P14. -/
import Derived.Test.YtggnifebabjoiaaGvEnv
namespace Gv
open Go
set_option maxRecDepth 100000
def Elaw6 : List Entry := [.out 13 (RSh.one CK.bool), .out 20 (RSh.one CK.bool), .out 38 (RSh.one (CK.int .i64)), .out 22 (RSh.one CK.list), .out 39 (RSh.tup [(Prod.mk false [CK.list]), (Prod.mk false [(CK.int .i64)])]), .out 40 (RSh.tup [(Prod.mk true [(CK.int .i64), (CK.int .i64)]), (Prod.mk false [(CK.int .i64)])]), .out 41 (RSh.one (CK.int .i64)), .out 42 (RSh.agg [(CK.int .i64), (CK.int .i64)]), .out 37 (RSh.one (CK.int .i64)), .out 34 (RSh.one (CK.int .i64)), .out 43 (RSh.one CK.list), .out 32 (RSh.one CK.bool), .out 29 (RSh.one CK.bool), .out 44 (RSh.one CK.bool), .out 45 (RSh.one CK.bool)]
theorem Elaw6_ok : ∀ e ∈ Elaw6, EntOK env e := (ent_out (ent_out (ent_out (ent_out (ent_out (ent_out (ent_out (ent_out (ent_out (ent_out (ent_out (ent_out (ent_out (ent_out (ent_out ent_nil)))))))))))))))
def Tlaw6_0a (n0 : Nat) (c1 : List PV) (n2 : Nat) (c3 : List PV) (i4 : Int) : Q := ⟨(tm 183 [(7, (AV.p (PV.list n0 c1))), (13, (AV.p (PV.list n2 c3))), (15, (AV.p (PV.int .i64 i4)))]), (mm 183 [])⟩
def Xlaw6_0a (_y : Unit) : Ext × Q := (Ext.normal, ⟨(tm 183 []), (mm 183 [])⟩)
def Ilaw6_0a (_q : Ext × S) : Unit := ()
def Xlaw6_0b (_y : Unit) : Ext × Q := (Ext.ret, ⟨(tm 183 [(6, (AV.p (PV.bool false)))]), (mm 183 [])⟩)
def Ilaw6_0b (_q : Ext × S) : Unit := ()
abbrev Ylaw6_0 : Type := (Unit) ⊕ ((Unit))
def XLlaw6_0 : XL Ylaw6_0 := .more Xlaw6_0a (.one Xlaw6_0b)
def Ilaw6_0 (q : Ext × S) : Ylaw6_0 := bif (cE q.1 == 0) then (Sum.inl (Ilaw6_0a q)) else (Sum.inr (Ilaw6_0b q))
theorem XIlaw6_0a (y : Unit) : Ilaw6_0 (xe (Xlaw6_0a y)) = (Sum.inl y) := rfl
theorem XIlaw6_0b (y : Unit) : Ilaw6_0 (xe (Xlaw6_0b y)) = (Sum.inr y) := rfl
theorem XIlaw6_0 (y : Ylaw6_0) : Ilaw6_0 (xe (XLlaw6_0.fn y)) = y := (match y with | .inl y => XIlaw6_0a y | .inr y => XIlaw6_0b y)
noncomputable abbrev Llaw6_0 : Q → Option Ylaw6_0 := lpO env a6.body 0 XLlaw6_0
noncomputable abbrev Rlaw6_0 : Q → Option (Ext × S) := lpR env a6.body 0
theorem Llaw6_0a_of {s : Q} {y : Unit} (h : Rlaw6_0 s = exO (Xlaw6_0a y)) : Llaw6_0 s = some (Sum.inl y) := lpO_of Ilaw6_0 XIlaw6_0 (y := (Sum.inl y)) h
def Tlaw6_1000086a (n0 : Nat) (c1 : List PV) (i2 : Int) (i3 : Int) (i4 : Int) (i5 : Int) (i6 : Int) (i7 : Int) : Q := ⟨(tm 183 [(0, (AV.p (PV.list n0 c1))), (4, (AV.loc 4 0)), (5, (AV.loc 5 0))]), (mm 183 [(4, (Bk.pcs true [(PV.int .i64 i2), (PV.int .i64 i3), (PV.int .i64 i4), (PV.int .i64 i5)])), (5, (Bk.pcs true [(PV.int .i64 i6), (PV.int .i64 i7)]))])⟩
def Xlaw6_1000086a (_y : Unit) : Ext × Q := (Ext.ret, ⟨(tm 183 [(6, (AV.p (PV.bool true)))]), (mm 183 [])⟩)
def Ilaw6_1000086a (_q : Ext × S) : Unit := ()
def Xlaw6_1000086b (y : Nat × List PV × Int × Int × Int × Int × Int × Int) : Ext × Q := (Ext.normal, ⟨(tm 183 [(0, (AV.p (PV.list y.1 y.2.1))), (4, (AV.loc 4 0)), (5, (AV.loc 5 0))]), (mm 183 [(4, (Bk.pcs true [(PV.int .i64 y.2.2.1), (PV.int .i64 y.2.2.2.1), (PV.int .i64 y.2.2.2.2.1), (PV.int .i64 y.2.2.2.2.2.1)])), (5, (Bk.pcs true [(PV.int .i64 y.2.2.2.2.2.2.1), (PV.int .i64 y.2.2.2.2.2.2.2)]))])⟩)
def Ilaw6_1000086b (q : Ext × S) : Nat × List PV × Int × Int × Int × Int × Int × Int := ((pP_list0 (pA_p (avT q.2 0))), (pP_list1 (pA_p (avT q.2 0))), (pP_int1 (hdP (pB_pcs1 (avM q.2 4)))), (pP_int1 (hdP (List.tail (pB_pcs1 (avM q.2 4))))), (pP_int1 (hdP (List.tail (List.tail (pB_pcs1 (avM q.2 4)))))), (pP_int1 (hdP (List.tail (List.tail (List.tail (pB_pcs1 (avM q.2 4))))))), (pP_int1 (hdP (pB_pcs1 (avM q.2 5)))), (pP_int1 (hdP (List.tail (pB_pcs1 (avM q.2 5))))))
abbrev Ylaw6_1000086 : Type := (Unit) ⊕ ((Nat × List PV × Int × Int × Int × Int × Int × Int))
def XLlaw6_1000086 : XL Ylaw6_1000086 := .more Xlaw6_1000086a (.one Xlaw6_1000086b)
def Ilaw6_1000086 (q : Ext × S) : Ylaw6_1000086 := bif (cE q.1 == 2) then (Sum.inl (Ilaw6_1000086a q)) else (Sum.inr (Ilaw6_1000086b q))
theorem XIlaw6_1000086a (y : Unit) : Ilaw6_1000086 (xe (Xlaw6_1000086a y)) = (Sum.inl y) := rfl
theorem XIlaw6_1000086b (y : Nat × List PV × Int × Int × Int × Int × Int × Int) : Ilaw6_1000086 (xe (Xlaw6_1000086b y)) = (Sum.inr y) := rfl
theorem XIlaw6_1000086 (y : Ylaw6_1000086) : Ilaw6_1000086 (xe (XLlaw6_1000086.fn y)) = y := (match y with | .inl y => XIlaw6_1000086a y | .inr y => XIlaw6_1000086b y)
noncomputable abbrev Llaw6_1000086 : Q → Option Ylaw6_1000086 := lpO env a6.body 1000086 XLlaw6_1000086
noncomputable abbrev Rlaw6_1000086 : Q → Option (Ext × S) := lpR env a6.body 1000086
theorem Llaw6_1000086a_of {s : Q} {y : Unit} (h : Rlaw6_1000086 s = exO (Xlaw6_1000086a y)) : Llaw6_1000086 s = some (Sum.inl y) := lpO_of Ilaw6_1000086 XIlaw6_1000086 (y := (Sum.inl y)) h
theorem Llaw6_1000086b_of {s : Q} {y : Nat × List PV × Int × Int × Int × Int × Int × Int} (h : Rlaw6_1000086 s = exO (Xlaw6_1000086b y)) : Llaw6_1000086 s = some (Sum.inr y) := lpO_of Ilaw6_1000086 XIlaw6_1000086 (y := (Sum.inr y)) h
def Tlaw6_1000075a (n0 : Nat) (c1 : List PV) (n2 : Nat) (c3 : List PV) (i4 : Int) (i5 : Int) (i6 : Int) (i7 : Int) (i8 : Int) (i9 : Int) (i10 : Int) (i11 : Int) (i12 : Int) (i13 : Int) : Q := ⟨(tm 183 [(0, (AV.p (PV.list n0 c1))), (4, (AV.loc 4 0)), (5, (AV.loc 5 0)), (7, (AV.p (PV.list n2 c3))), (8, (AV.p (PV.int .i64 i4))), (9, (AV.loc 9 0)), (10, (AV.p (PV.int .i64 i5)))]), (mm 183 [(4, (Bk.pcs true [(PV.int .i64 i6), (PV.int .i64 i7), (PV.int .i64 i8), (PV.int .i64 i9)])), (5, (Bk.pcs true [(PV.int .i64 i10), (PV.int .i64 i11)])), (9, (Bk.pcs true [(PV.int .i64 i12), (PV.int .i64 i13)]))])⟩
def Xlaw6_1000075a (_y : Unit) : Ext × Q := (Ext.ret, ⟨(tm 183 [(6, (AV.p (PV.bool false)))]), (mm 183 [])⟩)
def Ilaw6_1000075a (_q : Ext × S) : Unit := ()
def Xlaw6_1000075b (y : Nat × List PV × Nat × List PV × Int × Int × Int × Int × Int) : Ext × Q := (Ext.normal, ⟨(tm 183 [(0, (AV.p (PV.list y.1 y.2.1))), (4, (AV.loc 4 0)), (7, (AV.p (PV.list y.2.2.1 y.2.2.2.1))), (8, (AV.p (PV.int .i64 y.2.2.2.2.1)))]), (mm 183 [(4, (Bk.pcs true [(PV.int .i64 y.2.2.2.2.2.1), (PV.int .i64 y.2.2.2.2.2.2.1), (PV.int .i64 y.2.2.2.2.2.2.2.1), (PV.int .i64 y.2.2.2.2.2.2.2.2)]))])⟩)
def Ilaw6_1000075b (q : Ext × S) : Nat × List PV × Nat × List PV × Int × Int × Int × Int × Int := ((pP_list0 (pA_p (avT q.2 0))), (pP_list1 (pA_p (avT q.2 0))), (pP_list0 (pA_p (avT q.2 7))), (pP_list1 (pA_p (avT q.2 7))), (pP_int1 (pA_p (avT q.2 8))), (pP_int1 (hdP (pB_pcs1 (avM q.2 4)))), (pP_int1 (hdP (List.tail (pB_pcs1 (avM q.2 4))))), (pP_int1 (hdP (List.tail (List.tail (pB_pcs1 (avM q.2 4)))))), (pP_int1 (hdP (List.tail (List.tail (List.tail (pB_pcs1 (avM q.2 4))))))))
abbrev Ylaw6_1000075 : Type := (Unit) ⊕ ((Nat × List PV × Nat × List PV × Int × Int × Int × Int × Int))
def XLlaw6_1000075 : XL Ylaw6_1000075 := .more Xlaw6_1000075a (.one Xlaw6_1000075b)
def Ilaw6_1000075 (q : Ext × S) : Ylaw6_1000075 := bif (cE q.1 == 2) then (Sum.inl (Ilaw6_1000075a q)) else (Sum.inr (Ilaw6_1000075b q))
theorem XIlaw6_1000075a (y : Unit) : Ilaw6_1000075 (xe (Xlaw6_1000075a y)) = (Sum.inl y) := rfl
theorem XIlaw6_1000075b (y : Nat × List PV × Nat × List PV × Int × Int × Int × Int × Int) : Ilaw6_1000075 (xe (Xlaw6_1000075b y)) = (Sum.inr y) := rfl
theorem XIlaw6_1000075 (y : Ylaw6_1000075) : Ilaw6_1000075 (xe (XLlaw6_1000075.fn y)) = y := (match y with | .inl y => XIlaw6_1000075a y | .inr y => XIlaw6_1000075b y)
noncomputable abbrev Llaw6_1000075 : Q → Option Ylaw6_1000075 := lpO env a6.body 1000075 XLlaw6_1000075
noncomputable abbrev Rlaw6_1000075 : Q → Option (Ext × S) := lpR env a6.body 1000075
theorem Llaw6_1000075b_of {s : Q} {y : Nat × List PV × Nat × List PV × Int × Int × Int × Int × Int} (h : Rlaw6_1000075 s = exO (Xlaw6_1000075b y)) : Llaw6_1000075 s = some (Sum.inr y) := lpO_of Ilaw6_1000075 XIlaw6_1000075 (y := (Sum.inr y)) h
def Tlaw6_1000064a (n0 : Nat) (c1 : List PV) (n2 : Nat) (c3 : List PV) (i4 : Int) (i5 : Int) (i6 : Int) (i7 : Int) (i8 : Int) (i9 : Int) : Q := ⟨(tm 183 [(0, (AV.p (PV.list n0 c1))), (4, (AV.loc 4 0)), (7, (AV.p (PV.list n2 c3))), (8, (AV.p (PV.int .i64 i4))), (12, (AV.p (PV.int .i64 i5)))]), (mm 183 [(4, (Bk.pcs true [(PV.int .i64 i6), (PV.int .i64 i7), (PV.int .i64 i8), (PV.int .i64 i9)]))])⟩
def Xlaw6_1000064a (y : Nat × List PV × Nat × List PV × Int × Int × Int × Int × Int × Int) : Ext × Q := (Ext.normal, ⟨(tm 183 [(0, (AV.p (PV.list y.1 y.2.1))), (4, (AV.loc 4 0)), (7, (AV.p (PV.list y.2.2.1 y.2.2.2.1))), (8, (AV.p (PV.int .i64 y.2.2.2.2.1))), (12, (AV.p (PV.int .i64 y.2.2.2.2.2.1)))]), (mm 183 [(4, (Bk.pcs true [(PV.int .i64 y.2.2.2.2.2.2.1), (PV.int .i64 y.2.2.2.2.2.2.2.1), (PV.int .i64 y.2.2.2.2.2.2.2.2.1), (PV.int .i64 y.2.2.2.2.2.2.2.2.2)]))])⟩)
def Ilaw6_1000064a (q : Ext × S) : Nat × List PV × Nat × List PV × Int × Int × Int × Int × Int × Int := ((pP_list0 (pA_p (avT q.2 0))), (pP_list1 (pA_p (avT q.2 0))), (pP_list0 (pA_p (avT q.2 7))), (pP_list1 (pA_p (avT q.2 7))), (pP_int1 (pA_p (avT q.2 8))), (pP_int1 (pA_p (avT q.2 12))), (pP_int1 (hdP (pB_pcs1 (avM q.2 4)))), (pP_int1 (hdP (List.tail (pB_pcs1 (avM q.2 4))))), (pP_int1 (hdP (List.tail (List.tail (pB_pcs1 (avM q.2 4)))))), (pP_int1 (hdP (List.tail (List.tail (List.tail (pB_pcs1 (avM q.2 4))))))))
abbrev Ylaw6_1000064 : Type := Nat × List PV × Nat × List PV × Int × Int × Int × Int × Int × Int
def XLlaw6_1000064 : XL Ylaw6_1000064 := .one Xlaw6_1000064a
def Ilaw6_1000064 (q : Ext × S) : Ylaw6_1000064 := (Ilaw6_1000064a q)
theorem XIlaw6_1000064a (y : Nat × List PV × Nat × List PV × Int × Int × Int × Int × Int × Int) : Ilaw6_1000064 (xe (Xlaw6_1000064a y)) = y := rfl
theorem XIlaw6_1000064 (y : Ylaw6_1000064) : Ilaw6_1000064 (xe (XLlaw6_1000064.fn y)) = y := XIlaw6_1000064a y
noncomputable abbrev Llaw6_1000064 : Q → Option Ylaw6_1000064 := lpO env a6.body 1000064 XLlaw6_1000064
noncomputable abbrev Rlaw6_1000064 : Q → Option (Ext × S) := lpR env a6.body 1000064
theorem Llaw6_1000064a_of {s : Q} {y : Nat × List PV × Nat × List PV × Int × Int × Int × Int × Int × Int} (h : Rlaw6_1000064 s = exO (Xlaw6_1000064a y)) : Llaw6_1000064 s = some y := lpO_of Ilaw6_1000064 XIlaw6_1000064 (y := y) h
def Tlaw6_1000060a (n0 : Nat) (c1 : List PV) (n2 : Nat) (c3 : List PV) (i4 : Int) (i5 : Int) (i6 : Int) (i7 : Int) (i8 : Int) (i9 : Int) : Q := ⟨(tm 183 [(0, (AV.p (PV.list n0 c1))), (4, (AV.loc 4 0)), (7, (AV.p (PV.list n2 c3))), (8, (AV.p (PV.int .i64 i4))), (12, (AV.p (PV.int .i64 i5)))]), (mm 183 [(4, (Bk.pcs true [(PV.int .i64 i6), (PV.int .i64 i7), (PV.int .i64 i8), (PV.int .i64 i9)]))])⟩
def Xlaw6_1000060a (y : Nat × List PV × Nat × List PV × Int × Int × Int × Int × Int × Int) : Ext × Q := (Ext.normal, ⟨(tm 183 [(0, (AV.p (PV.list y.1 y.2.1))), (4, (AV.loc 4 0)), (7, (AV.p (PV.list y.2.2.1 y.2.2.2.1))), (8, (AV.p (PV.int .i64 y.2.2.2.2.1))), (12, (AV.p (PV.int .i64 y.2.2.2.2.2.1)))]), (mm 183 [(4, (Bk.pcs true [(PV.int .i64 y.2.2.2.2.2.2.1), (PV.int .i64 y.2.2.2.2.2.2.2.1), (PV.int .i64 y.2.2.2.2.2.2.2.2.1), (PV.int .i64 y.2.2.2.2.2.2.2.2.2)]))])⟩)
def Ilaw6_1000060a (q : Ext × S) : Nat × List PV × Nat × List PV × Int × Int × Int × Int × Int × Int := ((pP_list0 (pA_p (avT q.2 0))), (pP_list1 (pA_p (avT q.2 0))), (pP_list0 (pA_p (avT q.2 7))), (pP_list1 (pA_p (avT q.2 7))), (pP_int1 (pA_p (avT q.2 8))), (pP_int1 (pA_p (avT q.2 12))), (pP_int1 (hdP (pB_pcs1 (avM q.2 4)))), (pP_int1 (hdP (List.tail (pB_pcs1 (avM q.2 4))))), (pP_int1 (hdP (List.tail (List.tail (pB_pcs1 (avM q.2 4)))))), (pP_int1 (hdP (List.tail (List.tail (List.tail (pB_pcs1 (avM q.2 4))))))))
abbrev Ylaw6_1000060 : Type := Nat × List PV × Nat × List PV × Int × Int × Int × Int × Int × Int
def XLlaw6_1000060 : XL Ylaw6_1000060 := .one Xlaw6_1000060a
def Ilaw6_1000060 (q : Ext × S) : Ylaw6_1000060 := (Ilaw6_1000060a q)
theorem XIlaw6_1000060a (y : Nat × List PV × Nat × List PV × Int × Int × Int × Int × Int × Int) : Ilaw6_1000060 (xe (Xlaw6_1000060a y)) = y := rfl
theorem XIlaw6_1000060 (y : Ylaw6_1000060) : Ilaw6_1000060 (xe (XLlaw6_1000060.fn y)) = y := XIlaw6_1000060a y
noncomputable abbrev Llaw6_1000060 : Q → Option Ylaw6_1000060 := lpO env a6.body 1000060 XLlaw6_1000060
noncomputable abbrev Rlaw6_1000060 : Q → Option (Ext × S) := lpR env a6.body 1000060
theorem Llaw6_1000060a_of {s : Q} {y : Nat × List PV × Nat × List PV × Int × Int × Int × Int × Int × Int} (h : Rlaw6_1000060 s = exO (Xlaw6_1000060a y)) : Llaw6_1000060 s = some y := lpO_of Ilaw6_1000060 XIlaw6_1000060 (y := y) h
def Tlaw6_1000049a (n0 : Nat) (c1 : List PV) (n2 : Nat) (c3 : List PV) (i4 : Int) (i5 : Int) (i6 : Int) (i7 : Int) (i8 : Int) : Q := ⟨(tm 183 [(0, (AV.p (PV.list n0 c1))), (4, (AV.loc 4 0)), (7, (AV.p (PV.list n2 c3))), (8, (AV.p (PV.int .i64 i4)))]), (mm 183 [(4, (Bk.pcs true [(PV.int .i64 i5), (PV.int .i64 i6), (PV.int .i64 i7), (PV.int .i64 i8)]))])⟩
def Xlaw6_1000049a (_y : Unit) : Ext × Q := (Ext.ret, ⟨(tm 183 [(6, (AV.p (PV.bool false)))]), (mm 183 [])⟩)
def Ilaw6_1000049a (_q : Ext × S) : Unit := ()
def Xlaw6_1000049b (y : Nat × List PV × Nat × List PV × Int × Int × Int × Int) : Ext × Q := (Ext.normal, ⟨(tm 183 [(0, (AV.p (PV.list y.1 y.2.1))), (4, (AV.loc 4 0)), (7, (AV.p (PV.list y.2.2.1 y.2.2.2.1)))]), (mm 183 [(4, (Bk.pcs true [(PV.int .i64 y.2.2.2.2.1), (PV.int .i64 y.2.2.2.2.2.1), (PV.int .i64 y.2.2.2.2.2.2.1), (PV.int .i64 y.2.2.2.2.2.2.2)]))])⟩)
def Ilaw6_1000049b (q : Ext × S) : Nat × List PV × Nat × List PV × Int × Int × Int × Int := ((pP_list0 (pA_p (avT q.2 0))), (pP_list1 (pA_p (avT q.2 0))), (pP_list0 (pA_p (avT q.2 7))), (pP_list1 (pA_p (avT q.2 7))), (pP_int1 (hdP (pB_pcs1 (avM q.2 4)))), (pP_int1 (hdP (List.tail (pB_pcs1 (avM q.2 4))))), (pP_int1 (hdP (List.tail (List.tail (pB_pcs1 (avM q.2 4)))))), (pP_int1 (hdP (List.tail (List.tail (List.tail (pB_pcs1 (avM q.2 4))))))))
abbrev Ylaw6_1000049 : Type := (Unit) ⊕ ((Nat × List PV × Nat × List PV × Int × Int × Int × Int))
def XLlaw6_1000049 : XL Ylaw6_1000049 := .more Xlaw6_1000049a (.one Xlaw6_1000049b)
def Ilaw6_1000049 (q : Ext × S) : Ylaw6_1000049 := bif (cE q.1 == 2) then (Sum.inl (Ilaw6_1000049a q)) else (Sum.inr (Ilaw6_1000049b q))
theorem XIlaw6_1000049a (y : Unit) : Ilaw6_1000049 (xe (Xlaw6_1000049a y)) = (Sum.inl y) := rfl
theorem XIlaw6_1000049b (y : Nat × List PV × Nat × List PV × Int × Int × Int × Int) : Ilaw6_1000049 (xe (Xlaw6_1000049b y)) = (Sum.inr y) := rfl
theorem XIlaw6_1000049 (y : Ylaw6_1000049) : Ilaw6_1000049 (xe (XLlaw6_1000049.fn y)) = y := (match y with | .inl y => XIlaw6_1000049a y | .inr y => XIlaw6_1000049b y)
noncomputable abbrev Llaw6_1000049 : Q → Option Ylaw6_1000049 := lpO env a6.body 1000049 XLlaw6_1000049
noncomputable abbrev Rlaw6_1000049 : Q → Option (Ext × S) := lpR env a6.body 1000049
theorem Llaw6_1000049b_of {s : Q} {y : Nat × List PV × Nat × List PV × Int × Int × Int × Int} (h : Rlaw6_1000049 s = exO (Xlaw6_1000049b y)) : Llaw6_1000049 s = some (Sum.inr y) := lpO_of Ilaw6_1000049 XIlaw6_1000049 (y := (Sum.inr y)) h
def Tlaw6_1000042a (n0 : Nat) (c1 : List PV) (n2 : Nat) (c3 : List PV) (i4 : Int) (i5 : Int) (i6 : Int) (i7 : Int) : Q := ⟨(tm 183 [(0, (AV.p (PV.list n0 c1))), (4, (AV.loc 4 0)), (7, (AV.p (PV.list n2 c3)))]), (mm 183 [(4, (Bk.pcs true [(PV.int .i64 i4), (PV.int .i64 i5), (PV.int .i64 i6), (PV.int .i64 i7)]))])⟩
def Xlaw6_1000042a (y : Nat × List PV × Nat × List PV × Int × Int × Int × Int) : Ext × Q := (Ext.normal, ⟨(tm 183 [(0, (AV.p (PV.list y.1 y.2.1))), (4, (AV.loc 4 0)), (7, (AV.p (PV.list y.2.2.1 y.2.2.2.1)))]), (mm 183 [(4, (Bk.pcs true [(PV.int .i64 y.2.2.2.2.1), (PV.int .i64 y.2.2.2.2.2.1), (PV.int .i64 y.2.2.2.2.2.2.1), (PV.int .i64 y.2.2.2.2.2.2.2)]))])⟩)
def Ilaw6_1000042a (q : Ext × S) : Nat × List PV × Nat × List PV × Int × Int × Int × Int := ((pP_list0 (pA_p (avT q.2 0))), (pP_list1 (pA_p (avT q.2 0))), (pP_list0 (pA_p (avT q.2 7))), (pP_list1 (pA_p (avT q.2 7))), (pP_int1 (hdP (pB_pcs1 (avM q.2 4)))), (pP_int1 (hdP (List.tail (pB_pcs1 (avM q.2 4))))), (pP_int1 (hdP (List.tail (List.tail (pB_pcs1 (avM q.2 4)))))), (pP_int1 (hdP (List.tail (List.tail (List.tail (pB_pcs1 (avM q.2 4))))))))
def Xlaw6_1000042b (_y : Unit) : Ext × Q := (Ext.ret, ⟨(tm 183 [(6, (AV.p (PV.bool false)))]), (mm 183 [])⟩)
def Ilaw6_1000042b (_q : Ext × S) : Unit := ()
abbrev Ylaw6_1000042 : Type := (Nat × List PV × Nat × List PV × Int × Int × Int × Int) ⊕ ((Unit))
def XLlaw6_1000042 : XL Ylaw6_1000042 := .more Xlaw6_1000042a (.one Xlaw6_1000042b)
def Ilaw6_1000042 (q : Ext × S) : Ylaw6_1000042 := bif (cE q.1 == 0) then (Sum.inl (Ilaw6_1000042a q)) else (Sum.inr (Ilaw6_1000042b q))
theorem XIlaw6_1000042a (y : Nat × List PV × Nat × List PV × Int × Int × Int × Int) : Ilaw6_1000042 (xe (Xlaw6_1000042a y)) = (Sum.inl y) := rfl
theorem XIlaw6_1000042b (y : Unit) : Ilaw6_1000042 (xe (Xlaw6_1000042b y)) = (Sum.inr y) := rfl
theorem XIlaw6_1000042 (y : Ylaw6_1000042) : Ilaw6_1000042 (xe (XLlaw6_1000042.fn y)) = y := (match y with | .inl y => XIlaw6_1000042a y | .inr y => XIlaw6_1000042b y)
noncomputable abbrev Llaw6_1000042 : Q → Option Ylaw6_1000042 := lpO env a6.body 1000042 XLlaw6_1000042
noncomputable abbrev Rlaw6_1000042 : Q → Option (Ext × S) := lpR env a6.body 1000042
theorem Llaw6_1000042a_of {s : Q} {y : Nat × List PV × Nat × List PV × Int × Int × Int × Int} (h : Rlaw6_1000042 s = exO (Xlaw6_1000042a y)) : Llaw6_1000042 s = some (Sum.inl y) := lpO_of Ilaw6_1000042 XIlaw6_1000042 (y := (Sum.inl y)) h
def Tlaw6_1000009a (n0 : Nat) (c1 : List PV) (n2 : Nat) (c3 : List PV) (i4 : Int) : Q := ⟨(tm 183 [(7, (AV.p (PV.list n0 c1))), (13, (AV.p (PV.list n2 c3))), (15, (AV.p (PV.int .i64 i4)))]), (mm 183 [])⟩
def Xlaw6_1000009a (y : Nat × List PV × Nat × List PV × Int) : Ext × Q := (Ext.normal, ⟨(tm 183 [(7, (AV.p (PV.list y.1 y.2.1))), (13, (AV.p (PV.list y.2.2.1 y.2.2.2.1))), (15, (AV.p (PV.int .i64 y.2.2.2.2)))]), (mm 183 [])⟩)
def Ilaw6_1000009a (q : Ext × S) : Nat × List PV × Nat × List PV × Int := ((pP_list0 (pA_p (avT q.2 7))), (pP_list1 (pA_p (avT q.2 7))), (pP_list0 (pA_p (avT q.2 13))), (pP_list1 (pA_p (avT q.2 13))), (pP_int1 (pA_p (avT q.2 15))))
def Xlaw6_1000009b (_y : Unit) : Ext × Q := (Ext.ret, ⟨(tm 183 [(6, (AV.p (PV.bool false)))]), (mm 183 [])⟩)
def Ilaw6_1000009b (_q : Ext × S) : Unit := ()
abbrev Ylaw6_1000009 : Type := (Nat × List PV × Nat × List PV × Int) ⊕ ((Unit))
def XLlaw6_1000009 : XL Ylaw6_1000009 := .more Xlaw6_1000009a (.one Xlaw6_1000009b)
def Ilaw6_1000009 (q : Ext × S) : Ylaw6_1000009 := bif (cE q.1 == 0) then (Sum.inl (Ilaw6_1000009a q)) else (Sum.inr (Ilaw6_1000009b q))
theorem XIlaw6_1000009a (y : Nat × List PV × Nat × List PV × Int) : Ilaw6_1000009 (xe (Xlaw6_1000009a y)) = (Sum.inl y) := rfl
theorem XIlaw6_1000009b (y : Unit) : Ilaw6_1000009 (xe (Xlaw6_1000009b y)) = (Sum.inr y) := rfl
theorem XIlaw6_1000009 (y : Ylaw6_1000009) : Ilaw6_1000009 (xe (XLlaw6_1000009.fn y)) = y := (match y with | .inl y => XIlaw6_1000009a y | .inr y => XIlaw6_1000009b y)
noncomputable abbrev Llaw6_1000009 : Q → Option Ylaw6_1000009 := lpO env a6.body 1000009 XLlaw6_1000009
noncomputable abbrev Rlaw6_1000009 : Q → Option (Ext × S) := lpR env a6.body 1000009
theorem Llaw6_1000009a_of {s : Q} {y : Nat × List PV × Nat × List PV × Int} (h : Rlaw6_1000009 s = exO (Xlaw6_1000009a y)) : Llaw6_1000009 s = some (Sum.inl y) := lpO_of Ilaw6_1000009 XIlaw6_1000009 (y := (Sum.inl y)) h
theorem Ulaw6 : uniq ((blocksOf a6.body).map (·.1)) = true := by kernel_rfl
def Blaw6_0a (_F : FnT) (N : QO) (E : EO) (_L0 : Q → Option Ylaw6_0) (_L1000086 : Q → Option Ylaw6_1000086) (_L1000075 : Q → Option Ylaw6_1000075) (_L1000064 : Q → Option Ylaw6_1000064) (_L1000060 : Q → Option Ylaw6_1000060) (_L1000049 : Q → Option Ylaw6_1000049) (_L1000042 : Q → Option Ylaw6_1000042) (L1000009 : Q → Option Ylaw6_1000009) (n0 : Nat) (c1 : List PV) (n2 : Nat) (c3 : List PV) (i4 : Int) : Option (Ext × S) :=
  bif (decide (i4 < (n2 : Int))) then
    bindO (L1000009 (Tlaw6_1000009a n0 c1 n2 c3 i4)) fun z =>
    Sum.elim (fun y0 =>
      N (Tlaw6_0a y0.1 y0.2.1 y0.2.2.1 y0.2.2.2.1 (w64 (y0.2.2.2.2 + (1 : Int))))) (fun _y1 =>
      E (Xlaw6_0b ())) z
  else E (Xlaw6_0a ())
theorem Blaw6_0a_eq (F : FnT) (N : QO) (E : EO) (L0 : Q → Option Ylaw6_0) (L1000086 : Q → Option Ylaw6_1000086) (L1000075 : Q → Option Ylaw6_1000075) (L1000064 : Q → Option Ylaw6_1000064) (L1000060 : Q → Option Ylaw6_1000060) (L1000049 : Q → Option Ylaw6_1000049) (L1000042 : Q → Option Ylaw6_1000042) (L1000009 : Q → Option Ylaw6_1000009) (n0 : Nat) (c1 : List PV) (n2 : Nat) (c3 : List PV) (i4 : Int) : semB (callP F Elaw6 20) s6 (loopT [⟨0, Ylaw6_0, L0, XLlaw6_0⟩, ⟨1000086, Ylaw6_1000086, L1000086, XLlaw6_1000086⟩, ⟨1000075, Ylaw6_1000075, L1000075, XLlaw6_1000075⟩, ⟨1000064, Ylaw6_1000064, L1000064, XLlaw6_1000064⟩, ⟨1000060, Ylaw6_1000060, L1000060, XLlaw6_1000060⟩, ⟨1000049, Ylaw6_1000049, L1000049, XLlaw6_1000049⟩, ⟨1000042, Ylaw6_1000042, L1000042, XLlaw6_1000042⟩, ⟨1000009, Ylaw6_1000009, L1000009, XLlaw6_1000009⟩]) 400 (blkIn a6.body 0) N E (Tlaw6_0a n0 c1 n2 c3 i4) = Blaw6_0a F N E L0 L1000086 L1000075 L1000064 L1000060 L1000049 L1000042 L1000009 n0 c1 n2 c3 i4 := by kernel_rfl
theorem Rlaw6_0a_of  (n0 : Nat) (c1 : List PV) (n2 : Nat) (c3 : List PV) (i4 : Int) {r : Ext × S} (h : Blaw6_0a (Fn env) Rlaw6_0 exO Llaw6_0 Llaw6_1000086 Llaw6_1000075 Llaw6_1000064 Llaw6_1000060 Llaw6_1000049 Llaw6_1000042 Llaw6_1000009 n0 c1 n2 c3 i4 = some r) : Rlaw6_0 (Tlaw6_0a n0 c1 n2 c3 i4) = some r :=
  lp_of Elaw6_ok (by kernel_rfl) (lo_cons (lpO_ok Ulaw6) (lo_cons (lpO_ok Ulaw6) (lo_cons (lpO_ok Ulaw6) (lo_cons (lpO_ok Ulaw6) (lo_cons (lpO_ok Ulaw6) (lo_cons (lpO_ok Ulaw6) (lo_cons (lpO_ok Ulaw6) (lo_cons (lpO_ok Ulaw6) lo_nil)))))))) (by kernel_rfl) ((Blaw6_0a_eq _ _ _ _ _ _ _ _ _ _ _ _ _ _ _ _).trans h)
def Blaw6_1000086a (F : FnT) (_N : QO) (E : EO) (_L0 : Q → Option Ylaw6_0) (_L1000086 : Q → Option Ylaw6_1000086) (_L1000075 : Q → Option Ylaw6_1000075) (_L1000064 : Q → Option Ylaw6_1000064) (_L1000060 : Q → Option Ylaw6_1000060) (_L1000049 : Q → Option Ylaw6_1000049) (_L1000042 : Q → Option Ylaw6_1000042) (_L1000009 : Q → Option Ylaw6_1000009) (n0 : Nat) (c1 : List PV) (i2 : Int) (i3 : Int) (i4 : Int) (i5 : Int) (i6 : Int) (i7 : Int) : Option (Ext × S) :=
  bindO (F 20 (RSh.one CK.bool) [(PV.list n0 c1)]) fun (y0 : (Bool)) =>
  bif y0 then
    bindO (F 38 (RSh.one (CK.int .i64)) [(PV.agg [(PV.int .i64 i2), (PV.int .i64 i3)])]) fun (y1 : (Int)) =>
    bif (y1 == (0 : Int)) then
      bif (decide ((w64 (i3 - i2)) > (3000 : Int))) then
        E (Xlaw6_1000086a ())
      else E (Xlaw6_1000086b (n0, c1, i2, i3, i4, i5, i6, i7))
    else E (Xlaw6_1000086b (n0, c1, i2, i3, i4, i5, i6, i7))
  else E (Xlaw6_1000086a ())
theorem Blaw6_1000086a_eq (F : FnT) (N : QO) (E : EO) (L0 : Q → Option Ylaw6_0) (L1000086 : Q → Option Ylaw6_1000086) (L1000075 : Q → Option Ylaw6_1000075) (L1000064 : Q → Option Ylaw6_1000064) (L1000060 : Q → Option Ylaw6_1000060) (L1000049 : Q → Option Ylaw6_1000049) (L1000042 : Q → Option Ylaw6_1000042) (L1000009 : Q → Option Ylaw6_1000009) (n0 : Nat) (c1 : List PV) (i2 : Int) (i3 : Int) (i4 : Int) (i5 : Int) (i6 : Int) (i7 : Int) : semN (callP F Elaw6 20) s6 (loopT [⟨0, Ylaw6_0, L0, XLlaw6_0⟩, ⟨1000086, Ylaw6_1000086, L1000086, XLlaw6_1000086⟩, ⟨1000075, Ylaw6_1000075, L1000075, XLlaw6_1000075⟩, ⟨1000064, Ylaw6_1000064, L1000064, XLlaw6_1000064⟩, ⟨1000060, Ylaw6_1000060, L1000060, XLlaw6_1000060⟩, ⟨1000049, Ylaw6_1000049, L1000049, XLlaw6_1000049⟩, ⟨1000042, Ylaw6_1000042, L1000042, XLlaw6_1000042⟩, ⟨1000009, Ylaw6_1000009, L1000009, XLlaw6_1000009⟩]) 400 (blkIn a6.body 1000086) E (Tlaw6_1000086a n0 c1 i2 i3 i4 i5 i6 i7) = Blaw6_1000086a F N E L0 L1000086 L1000075 L1000064 L1000060 L1000049 L1000042 L1000009 n0 c1 i2 i3 i4 i5 i6 i7 := by kernel_rfl
theorem Rlaw6_1000086a_of  (n0 : Nat) (c1 : List PV) (i2 : Int) (i3 : Int) (i4 : Int) (i5 : Int) (i6 : Int) (i7 : Int) {r : Ext × S} (h : Blaw6_1000086a (Fn env) Rlaw6_1000086 exO Llaw6_0 Llaw6_1000086 Llaw6_1000075 Llaw6_1000064 Llaw6_1000060 Llaw6_1000049 Llaw6_1000042 Llaw6_1000009 n0 c1 i2 i3 i4 i5 i6 i7 = some r) : Rlaw6_1000086 (Tlaw6_1000086a n0 c1 i2 i3 i4 i5 i6 i7) = some r :=
  nd_of Elaw6_ok (by kernel_rfl) (lo_cons (lpO_ok Ulaw6) (lo_cons (lpO_ok Ulaw6) (lo_cons (lpO_ok Ulaw6) (lo_cons (lpO_ok Ulaw6) (lo_cons (lpO_ok Ulaw6) (lo_cons (lpO_ok Ulaw6) (lo_cons (lpO_ok Ulaw6) (lo_cons (lpO_ok Ulaw6) lo_nil)))))))) (by kernel_rfl) ((Blaw6_1000086a_eq _ Rlaw6_1000086 _ _ _ _ _ _ _ _ _ _ _ _ _ _ _ _ _).trans h)
def Blaw6_1000075a (F : FnT) (_N : QO) (E : EO) (_L0 : Q → Option Ylaw6_0) (_L1000086 : Q → Option Ylaw6_1000086) (_L1000075 : Q → Option Ylaw6_1000075) (_L1000064 : Q → Option Ylaw6_1000064) (_L1000060 : Q → Option Ylaw6_1000060) (_L1000049 : Q → Option Ylaw6_1000049) (_L1000042 : Q → Option Ylaw6_1000042) (_L1000009 : Q → Option Ylaw6_1000009) (n0 : Nat) (c1 : List PV) (n2 : Nat) (c3 : List PV) (i4 : Int) (i5 : Int) (i6 : Int) (i7 : Int) (i8 : Int) (i9 : Int) (i10 : Int) (i11 : Int) (i12 : Int) (i13 : Int) : Option (Ext × S) :=
  bindO (F 41 (RSh.one (CK.int .i64)) [(PV.int .i64 i9), (PV.agg [(PV.int .i64 i10), (PV.int .i64 i11)])]) fun (y0 : (Int)) =>
  bif (y0 != (0 : Int)) then
    bif (i5 != y0) then
      E (Xlaw6_1000075a ())
    else bif (!((i12 == (0 : Int)) && ((i13 == (0 : Int)) && true))) then
      E (Xlaw6_1000075a ())
    else bif (y0 == (0 : Int)) then
      bif (i5 != (0 : Int)) then
        E (Xlaw6_1000075a ())
      else bindO (F 42 (RSh.agg [(CK.int .i64), (CK.int .i64)]) [(PV.int .i64 i9), (PV.agg [(PV.int .i64 i10), (PV.int .i64 i11)])]) fun (y1 : ((Int) × (Int))) =>
      bif (!((i12 == y1.1) && ((i13 == y1.2) && true))) then
        E (Xlaw6_1000075a ())
      else E (Xlaw6_1000075b (n0, c1, n2, c3, i4, i6, i7, i8, i9))
    else E (Xlaw6_1000075b (n0, c1, n2, c3, i4, i6, i7, i8, i9))
  else bif (y0 == (0 : Int)) then
    bif (i5 != (0 : Int)) then
      E (Xlaw6_1000075a ())
    else bindO (F 42 (RSh.agg [(CK.int .i64), (CK.int .i64)]) [(PV.int .i64 i9), (PV.agg [(PV.int .i64 i10), (PV.int .i64 i11)])]) fun (y2 : ((Int) × (Int))) =>
    bif (!((i12 == y2.1) && ((i13 == y2.2) && true))) then
      E (Xlaw6_1000075a ())
    else E (Xlaw6_1000075b (n0, c1, n2, c3, i4, i6, i7, i8, i9))
  else E (Xlaw6_1000075b (n0, c1, n2, c3, i4, i6, i7, i8, i9))
theorem Blaw6_1000075a_eq (F : FnT) (N : QO) (E : EO) (L0 : Q → Option Ylaw6_0) (L1000086 : Q → Option Ylaw6_1000086) (L1000075 : Q → Option Ylaw6_1000075) (L1000064 : Q → Option Ylaw6_1000064) (L1000060 : Q → Option Ylaw6_1000060) (L1000049 : Q → Option Ylaw6_1000049) (L1000042 : Q → Option Ylaw6_1000042) (L1000009 : Q → Option Ylaw6_1000009) (n0 : Nat) (c1 : List PV) (n2 : Nat) (c3 : List PV) (i4 : Int) (i5 : Int) (i6 : Int) (i7 : Int) (i8 : Int) (i9 : Int) (i10 : Int) (i11 : Int) (i12 : Int) (i13 : Int) : semN (callP F Elaw6 20) s6 (loopT [⟨0, Ylaw6_0, L0, XLlaw6_0⟩, ⟨1000086, Ylaw6_1000086, L1000086, XLlaw6_1000086⟩, ⟨1000075, Ylaw6_1000075, L1000075, XLlaw6_1000075⟩, ⟨1000064, Ylaw6_1000064, L1000064, XLlaw6_1000064⟩, ⟨1000060, Ylaw6_1000060, L1000060, XLlaw6_1000060⟩, ⟨1000049, Ylaw6_1000049, L1000049, XLlaw6_1000049⟩, ⟨1000042, Ylaw6_1000042, L1000042, XLlaw6_1000042⟩, ⟨1000009, Ylaw6_1000009, L1000009, XLlaw6_1000009⟩]) 400 (blkIn a6.body 1000075) E (Tlaw6_1000075a n0 c1 n2 c3 i4 i5 i6 i7 i8 i9 i10 i11 i12 i13) = Blaw6_1000075a F N E L0 L1000086 L1000075 L1000064 L1000060 L1000049 L1000042 L1000009 n0 c1 n2 c3 i4 i5 i6 i7 i8 i9 i10 i11 i12 i13 := by kernel_rfl
theorem Rlaw6_1000075a_of  (n0 : Nat) (c1 : List PV) (n2 : Nat) (c3 : List PV) (i4 : Int) (i5 : Int) (i6 : Int) (i7 : Int) (i8 : Int) (i9 : Int) (i10 : Int) (i11 : Int) (i12 : Int) (i13 : Int) {r : Ext × S} (h : Blaw6_1000075a (Fn env) Rlaw6_1000075 exO Llaw6_0 Llaw6_1000086 Llaw6_1000075 Llaw6_1000064 Llaw6_1000060 Llaw6_1000049 Llaw6_1000042 Llaw6_1000009 n0 c1 n2 c3 i4 i5 i6 i7 i8 i9 i10 i11 i12 i13 = some r) : Rlaw6_1000075 (Tlaw6_1000075a n0 c1 n2 c3 i4 i5 i6 i7 i8 i9 i10 i11 i12 i13) = some r :=
  nd_of Elaw6_ok (by kernel_rfl) (lo_cons (lpO_ok Ulaw6) (lo_cons (lpO_ok Ulaw6) (lo_cons (lpO_ok Ulaw6) (lo_cons (lpO_ok Ulaw6) (lo_cons (lpO_ok Ulaw6) (lo_cons (lpO_ok Ulaw6) (lo_cons (lpO_ok Ulaw6) (lo_cons (lpO_ok Ulaw6) lo_nil)))))))) (by kernel_rfl) ((Blaw6_1000075a_eq _ Rlaw6_1000075 _ _ _ _ _ _ _ _ _ _ _ _ _ _ _ _ _ _ _ _ _ _ _).trans h)
def Blaw6_1000064a (F : FnT) (_N : QO) (E : EO) (_L0 : Q → Option Ylaw6_0) (_L1000086 : Q → Option Ylaw6_1000086) (_L1000075 : Q → Option Ylaw6_1000075) (_L1000064 : Q → Option Ylaw6_1000064) (_L1000060 : Q → Option Ylaw6_1000060) (_L1000049 : Q → Option Ylaw6_1000049) (_L1000042 : Q → Option Ylaw6_1000042) (_L1000009 : Q → Option Ylaw6_1000009) (n0 : Nat) (c1 : List PV) (n2 : Nat) (c3 : List PV) (i4 : Int) (i5 : Int) (i6 : Int) (i7 : Int) (i8 : Int) (i9 : Int) : Option (Ext × S) :=
  bif (i5 == (0 : Int)) then
    bindO (F 38 (RSh.one (CK.int .i64)) [(PV.agg [(PV.int .i64 i6), (PV.int .i64 i7)])]) fun (y0 : (Int)) =>
    E (Xlaw6_1000064a (n0, c1, n2, c3, i4, y0, i6, i7, i8, i9))
  else E (Xlaw6_1000064a (n0, c1, n2, c3, i4, i5, i6, i7, i8, i9))
theorem Blaw6_1000064a_eq (F : FnT) (N : QO) (E : EO) (L0 : Q → Option Ylaw6_0) (L1000086 : Q → Option Ylaw6_1000086) (L1000075 : Q → Option Ylaw6_1000075) (L1000064 : Q → Option Ylaw6_1000064) (L1000060 : Q → Option Ylaw6_1000060) (L1000049 : Q → Option Ylaw6_1000049) (L1000042 : Q → Option Ylaw6_1000042) (L1000009 : Q → Option Ylaw6_1000009) (n0 : Nat) (c1 : List PV) (n2 : Nat) (c3 : List PV) (i4 : Int) (i5 : Int) (i6 : Int) (i7 : Int) (i8 : Int) (i9 : Int) : semN (callP F Elaw6 20) s6 (loopT [⟨0, Ylaw6_0, L0, XLlaw6_0⟩, ⟨1000086, Ylaw6_1000086, L1000086, XLlaw6_1000086⟩, ⟨1000075, Ylaw6_1000075, L1000075, XLlaw6_1000075⟩, ⟨1000064, Ylaw6_1000064, L1000064, XLlaw6_1000064⟩, ⟨1000060, Ylaw6_1000060, L1000060, XLlaw6_1000060⟩, ⟨1000049, Ylaw6_1000049, L1000049, XLlaw6_1000049⟩, ⟨1000042, Ylaw6_1000042, L1000042, XLlaw6_1000042⟩, ⟨1000009, Ylaw6_1000009, L1000009, XLlaw6_1000009⟩]) 400 (blkIn a6.body 1000064) E (Tlaw6_1000064a n0 c1 n2 c3 i4 i5 i6 i7 i8 i9) = Blaw6_1000064a F N E L0 L1000086 L1000075 L1000064 L1000060 L1000049 L1000042 L1000009 n0 c1 n2 c3 i4 i5 i6 i7 i8 i9 := by kernel_rfl
theorem Rlaw6_1000064a_of  (n0 : Nat) (c1 : List PV) (n2 : Nat) (c3 : List PV) (i4 : Int) (i5 : Int) (i6 : Int) (i7 : Int) (i8 : Int) (i9 : Int) {r : Ext × S} (h : Blaw6_1000064a (Fn env) Rlaw6_1000064 exO Llaw6_0 Llaw6_1000086 Llaw6_1000075 Llaw6_1000064 Llaw6_1000060 Llaw6_1000049 Llaw6_1000042 Llaw6_1000009 n0 c1 n2 c3 i4 i5 i6 i7 i8 i9 = some r) : Rlaw6_1000064 (Tlaw6_1000064a n0 c1 n2 c3 i4 i5 i6 i7 i8 i9) = some r :=
  nd_of Elaw6_ok (by kernel_rfl) (lo_cons (lpO_ok Ulaw6) (lo_cons (lpO_ok Ulaw6) (lo_cons (lpO_ok Ulaw6) (lo_cons (lpO_ok Ulaw6) (lo_cons (lpO_ok Ulaw6) (lo_cons (lpO_ok Ulaw6) (lo_cons (lpO_ok Ulaw6) (lo_cons (lpO_ok Ulaw6) lo_nil)))))))) (by kernel_rfl) ((Blaw6_1000064a_eq _ Rlaw6_1000064 _ _ _ _ _ _ _ _ _ _ _ _ _ _ _ _ _ _ _).trans h)
def Blaw6_1000060a (F : FnT) (_N : QO) (E : EO) (_L0 : Q → Option Ylaw6_0) (_L1000086 : Q → Option Ylaw6_1000086) (_L1000075 : Q → Option Ylaw6_1000075) (_L1000064 : Q → Option Ylaw6_1000064) (_L1000060 : Q → Option Ylaw6_1000060) (_L1000049 : Q → Option Ylaw6_1000049) (_L1000042 : Q → Option Ylaw6_1000042) (_L1000009 : Q → Option Ylaw6_1000009) (n0 : Nat) (c1 : List PV) (n2 : Nat) (c3 : List PV) (i4 : Int) (i5 : Int) (i6 : Int) (i7 : Int) (i8 : Int) (i9 : Int) : Option (Ext × S) :=
  bif (i5 == (0 : Int)) then
    bindO (F 34 (RSh.one (CK.int .i64)) [(PV.int .i64 i8)]) fun (y0 : (Int)) =>
    E (Xlaw6_1000060a (n0, c1, n2, c3, i4, y0, i6, i7, i8, i9))
  else E (Xlaw6_1000060a (n0, c1, n2, c3, i4, i5, i6, i7, i8, i9))
theorem Blaw6_1000060a_eq (F : FnT) (N : QO) (E : EO) (L0 : Q → Option Ylaw6_0) (L1000086 : Q → Option Ylaw6_1000086) (L1000075 : Q → Option Ylaw6_1000075) (L1000064 : Q → Option Ylaw6_1000064) (L1000060 : Q → Option Ylaw6_1000060) (L1000049 : Q → Option Ylaw6_1000049) (L1000042 : Q → Option Ylaw6_1000042) (L1000009 : Q → Option Ylaw6_1000009) (n0 : Nat) (c1 : List PV) (n2 : Nat) (c3 : List PV) (i4 : Int) (i5 : Int) (i6 : Int) (i7 : Int) (i8 : Int) (i9 : Int) : semN (callP F Elaw6 20) s6 (loopT [⟨0, Ylaw6_0, L0, XLlaw6_0⟩, ⟨1000086, Ylaw6_1000086, L1000086, XLlaw6_1000086⟩, ⟨1000075, Ylaw6_1000075, L1000075, XLlaw6_1000075⟩, ⟨1000064, Ylaw6_1000064, L1000064, XLlaw6_1000064⟩, ⟨1000060, Ylaw6_1000060, L1000060, XLlaw6_1000060⟩, ⟨1000049, Ylaw6_1000049, L1000049, XLlaw6_1000049⟩, ⟨1000042, Ylaw6_1000042, L1000042, XLlaw6_1000042⟩, ⟨1000009, Ylaw6_1000009, L1000009, XLlaw6_1000009⟩]) 400 (blkIn a6.body 1000060) E (Tlaw6_1000060a n0 c1 n2 c3 i4 i5 i6 i7 i8 i9) = Blaw6_1000060a F N E L0 L1000086 L1000075 L1000064 L1000060 L1000049 L1000042 L1000009 n0 c1 n2 c3 i4 i5 i6 i7 i8 i9 := by kernel_rfl
theorem Rlaw6_1000060a_of  (n0 : Nat) (c1 : List PV) (n2 : Nat) (c3 : List PV) (i4 : Int) (i5 : Int) (i6 : Int) (i7 : Int) (i8 : Int) (i9 : Int) {r : Ext × S} (h : Blaw6_1000060a (Fn env) Rlaw6_1000060 exO Llaw6_0 Llaw6_1000086 Llaw6_1000075 Llaw6_1000064 Llaw6_1000060 Llaw6_1000049 Llaw6_1000042 Llaw6_1000009 n0 c1 n2 c3 i4 i5 i6 i7 i8 i9 = some r) : Rlaw6_1000060 (Tlaw6_1000060a n0 c1 n2 c3 i4 i5 i6 i7 i8 i9) = some r :=
  nd_of Elaw6_ok (by kernel_rfl) (lo_cons (lpO_ok Ulaw6) (lo_cons (lpO_ok Ulaw6) (lo_cons (lpO_ok Ulaw6) (lo_cons (lpO_ok Ulaw6) (lo_cons (lpO_ok Ulaw6) (lo_cons (lpO_ok Ulaw6) (lo_cons (lpO_ok Ulaw6) (lo_cons (lpO_ok Ulaw6) lo_nil)))))))) (by kernel_rfl) ((Blaw6_1000060a_eq _ Rlaw6_1000060 _ _ _ _ _ _ _ _ _ _ _ _ _ _ _ _ _ _ _).trans h)
def Blaw6_1000049a (F : FnT) (_N : QO) (E : EO) (_L0 : Q → Option Ylaw6_0) (_L1000086 : Q → Option Ylaw6_1000086) (_L1000075 : Q → Option Ylaw6_1000075) (_L1000064 : Q → Option Ylaw6_1000064) (_L1000060 : Q → Option Ylaw6_1000060) (_L1000049 : Q → Option Ylaw6_1000049) (_L1000042 : Q → Option Ylaw6_1000042) (_L1000009 : Q → Option Ylaw6_1000009) (n0 : Nat) (c1 : List PV) (n2 : Nat) (c3 : List PV) (i4 : Int) (i5 : Int) (i6 : Int) (i7 : Int) (i8 : Int) : Option (Ext × S) :=
  bif (i4 != (0 : Int)) then
    E (Xlaw6_1000049a ())
  else bindO (F 43 (RSh.one CK.list) [(PV.list n0 c1), (PV.agg [(PV.int .i64 i5), (PV.int .i64 i6)]), (PV.int .i64 i7)]) fun (y0 : ((Nat) × (List PV))) =>
  bindO (F 32 (RSh.one CK.bool) [(PV.list n2 c3), (PV.list y0.1 y0.2)]) fun (y1 : (Bool)) =>
  bif y1 then
    E (Xlaw6_1000049b (n0, c1, n2, c3, i5, i6, i7, i8))
  else E (Xlaw6_1000049a ())
theorem Blaw6_1000049a_eq (F : FnT) (N : QO) (E : EO) (L0 : Q → Option Ylaw6_0) (L1000086 : Q → Option Ylaw6_1000086) (L1000075 : Q → Option Ylaw6_1000075) (L1000064 : Q → Option Ylaw6_1000064) (L1000060 : Q → Option Ylaw6_1000060) (L1000049 : Q → Option Ylaw6_1000049) (L1000042 : Q → Option Ylaw6_1000042) (L1000009 : Q → Option Ylaw6_1000009) (n0 : Nat) (c1 : List PV) (n2 : Nat) (c3 : List PV) (i4 : Int) (i5 : Int) (i6 : Int) (i7 : Int) (i8 : Int) : semN (callP F Elaw6 20) s6 (loopT [⟨0, Ylaw6_0, L0, XLlaw6_0⟩, ⟨1000086, Ylaw6_1000086, L1000086, XLlaw6_1000086⟩, ⟨1000075, Ylaw6_1000075, L1000075, XLlaw6_1000075⟩, ⟨1000064, Ylaw6_1000064, L1000064, XLlaw6_1000064⟩, ⟨1000060, Ylaw6_1000060, L1000060, XLlaw6_1000060⟩, ⟨1000049, Ylaw6_1000049, L1000049, XLlaw6_1000049⟩, ⟨1000042, Ylaw6_1000042, L1000042, XLlaw6_1000042⟩, ⟨1000009, Ylaw6_1000009, L1000009, XLlaw6_1000009⟩]) 400 (blkIn a6.body 1000049) E (Tlaw6_1000049a n0 c1 n2 c3 i4 i5 i6 i7 i8) = Blaw6_1000049a F N E L0 L1000086 L1000075 L1000064 L1000060 L1000049 L1000042 L1000009 n0 c1 n2 c3 i4 i5 i6 i7 i8 := by kernel_rfl
theorem Rlaw6_1000049a_of  (n0 : Nat) (c1 : List PV) (n2 : Nat) (c3 : List PV) (i4 : Int) (i5 : Int) (i6 : Int) (i7 : Int) (i8 : Int) {r : Ext × S} (h : Blaw6_1000049a (Fn env) Rlaw6_1000049 exO Llaw6_0 Llaw6_1000086 Llaw6_1000075 Llaw6_1000064 Llaw6_1000060 Llaw6_1000049 Llaw6_1000042 Llaw6_1000009 n0 c1 n2 c3 i4 i5 i6 i7 i8 = some r) : Rlaw6_1000049 (Tlaw6_1000049a n0 c1 n2 c3 i4 i5 i6 i7 i8) = some r :=
  nd_of Elaw6_ok (by kernel_rfl) (lo_cons (lpO_ok Ulaw6) (lo_cons (lpO_ok Ulaw6) (lo_cons (lpO_ok Ulaw6) (lo_cons (lpO_ok Ulaw6) (lo_cons (lpO_ok Ulaw6) (lo_cons (lpO_ok Ulaw6) (lo_cons (lpO_ok Ulaw6) (lo_cons (lpO_ok Ulaw6) lo_nil)))))))) (by kernel_rfl) ((Blaw6_1000049a_eq _ Rlaw6_1000049 _ _ _ _ _ _ _ _ _ _ _ _ _ _ _ _ _ _).trans h)
def Blaw6_1000042a (F : FnT) (_N : QO) (E : EO) (_L0 : Q → Option Ylaw6_0) (_L1000086 : Q → Option Ylaw6_1000086) (_L1000075 : Q → Option Ylaw6_1000075) (_L1000064 : Q → Option Ylaw6_1000064) (_L1000060 : Q → Option Ylaw6_1000060) (_L1000049 : Q → Option Ylaw6_1000049) (_L1000042 : Q → Option Ylaw6_1000042) (_L1000009 : Q → Option Ylaw6_1000009) (n0 : Nat) (c1 : List PV) (n2 : Nat) (c3 : List PV) (i4 : Int) (i5 : Int) (i6 : Int) (i7 : Int) : Option (Ext × S) :=
  bindO (F 29 (RSh.one CK.bool) [(PV.int .i64 i7), (PV.int .i64 i4), (PV.int .i64 i5)]) fun (y0 : (Bool)) =>
  bif y0 then
    bindO (F 44 (RSh.one CK.bool) [(PV.list n2 c3), (PV.int .i64 i7)]) fun (y1 : (Bool)) =>
    bif y1 then
      bindO (F 45 (RSh.one CK.bool) [(PV.list n0 c1), (PV.int .i64 i6), (PV.int .i64 i7)]) fun (y2 : (Bool)) =>
      bif y2 then
        E (Xlaw6_1000042a (n0, c1, n2, c3, i4, i5, i6, i7))
      else E (Xlaw6_1000042b ())
    else bindO (F 45 (RSh.one CK.bool) [(PV.list n0 c1), (PV.int .i64 i6), (PV.int .i64 i7)]) fun (y3 : (Bool)) =>
    bif y3 then
      E (Xlaw6_1000042b ())
    else E (Xlaw6_1000042a (n0, c1, n2, c3, i4, i5, i6, i7))
  else E (Xlaw6_1000042a (n0, c1, n2, c3, i4, i5, i6, i7))
theorem Blaw6_1000042a_eq (F : FnT) (N : QO) (E : EO) (L0 : Q → Option Ylaw6_0) (L1000086 : Q → Option Ylaw6_1000086) (L1000075 : Q → Option Ylaw6_1000075) (L1000064 : Q → Option Ylaw6_1000064) (L1000060 : Q → Option Ylaw6_1000060) (L1000049 : Q → Option Ylaw6_1000049) (L1000042 : Q → Option Ylaw6_1000042) (L1000009 : Q → Option Ylaw6_1000009) (n0 : Nat) (c1 : List PV) (n2 : Nat) (c3 : List PV) (i4 : Int) (i5 : Int) (i6 : Int) (i7 : Int) : semN (callP F Elaw6 20) s6 (loopT [⟨0, Ylaw6_0, L0, XLlaw6_0⟩, ⟨1000086, Ylaw6_1000086, L1000086, XLlaw6_1000086⟩, ⟨1000075, Ylaw6_1000075, L1000075, XLlaw6_1000075⟩, ⟨1000064, Ylaw6_1000064, L1000064, XLlaw6_1000064⟩, ⟨1000060, Ylaw6_1000060, L1000060, XLlaw6_1000060⟩, ⟨1000049, Ylaw6_1000049, L1000049, XLlaw6_1000049⟩, ⟨1000042, Ylaw6_1000042, L1000042, XLlaw6_1000042⟩, ⟨1000009, Ylaw6_1000009, L1000009, XLlaw6_1000009⟩]) 400 (blkIn a6.body 1000042) E (Tlaw6_1000042a n0 c1 n2 c3 i4 i5 i6 i7) = Blaw6_1000042a F N E L0 L1000086 L1000075 L1000064 L1000060 L1000049 L1000042 L1000009 n0 c1 n2 c3 i4 i5 i6 i7 := by kernel_rfl
theorem Rlaw6_1000042a_of  (n0 : Nat) (c1 : List PV) (n2 : Nat) (c3 : List PV) (i4 : Int) (i5 : Int) (i6 : Int) (i7 : Int) {r : Ext × S} (h : Blaw6_1000042a (Fn env) Rlaw6_1000042 exO Llaw6_0 Llaw6_1000086 Llaw6_1000075 Llaw6_1000064 Llaw6_1000060 Llaw6_1000049 Llaw6_1000042 Llaw6_1000009 n0 c1 n2 c3 i4 i5 i6 i7 = some r) : Rlaw6_1000042 (Tlaw6_1000042a n0 c1 n2 c3 i4 i5 i6 i7) = some r :=
  nd_of Elaw6_ok (by kernel_rfl) (lo_cons (lpO_ok Ulaw6) (lo_cons (lpO_ok Ulaw6) (lo_cons (lpO_ok Ulaw6) (lo_cons (lpO_ok Ulaw6) (lo_cons (lpO_ok Ulaw6) (lo_cons (lpO_ok Ulaw6) (lo_cons (lpO_ok Ulaw6) (lo_cons (lpO_ok Ulaw6) lo_nil)))))))) (by kernel_rfl) ((Blaw6_1000042a_eq _ Rlaw6_1000042 _ _ _ _ _ _ _ _ _ _ _ _ _ _ _ _ _).trans h)
def Blaw6_1000009a (F : FnT) (_N : QO) (E : EO) (_L0 : Q → Option Ylaw6_0) (_L1000086 : Q → Option Ylaw6_1000086) (_L1000075 : Q → Option Ylaw6_1000075) (_L1000064 : Q → Option Ylaw6_1000064) (_L1000060 : Q → Option Ylaw6_1000060) (_L1000049 : Q → Option Ylaw6_1000049) (_L1000042 : Q → Option Ylaw6_1000042) (_L1000009 : Q → Option Ylaw6_1000009) (n0 : Nat) (c1 : List PV) (n2 : Nat) (c3 : List PV) (i4 : Int) : Option (Ext × S) :=
  bif (decide (((0 : Int) ≤ i4) ∧ (i4 < (n2 : Int)))) then
    bindO (intC .i64 (c3[(((Int.toNat i4) * 2) + 0)]?)) fun x0 =>
    bindO (F 44 (RSh.one CK.bool) [(PV.list n0 c1), (PV.int .i64 x0)]) fun (y1 : (Bool)) =>
    bif y1 then
      bif (decide (((0 : Int) ≤ i4) ∧ (i4 < (n2 : Int)))) then
        bindO (intC .i64 (c3[(((Int.toNat i4) * 2) + 1)]?)) fun x2 =>
        bindO (F 44 (RSh.one CK.bool) [(PV.list n0 c1), (PV.int .i64 x2)]) fun (y3 : (Bool)) =>
        bif y3 then
          E (Xlaw6_1000009a (n0, c1, n2, c3, i4))
        else E (Xlaw6_1000009b ())
      else none
    else E (Xlaw6_1000009b ())
  else none
theorem Blaw6_1000009a_eq (F : FnT) (N : QO) (E : EO) (L0 : Q → Option Ylaw6_0) (L1000086 : Q → Option Ylaw6_1000086) (L1000075 : Q → Option Ylaw6_1000075) (L1000064 : Q → Option Ylaw6_1000064) (L1000060 : Q → Option Ylaw6_1000060) (L1000049 : Q → Option Ylaw6_1000049) (L1000042 : Q → Option Ylaw6_1000042) (L1000009 : Q → Option Ylaw6_1000009) (n0 : Nat) (c1 : List PV) (n2 : Nat) (c3 : List PV) (i4 : Int) : semN (callP F Elaw6 20) s6 (loopT [⟨0, Ylaw6_0, L0, XLlaw6_0⟩, ⟨1000086, Ylaw6_1000086, L1000086, XLlaw6_1000086⟩, ⟨1000075, Ylaw6_1000075, L1000075, XLlaw6_1000075⟩, ⟨1000064, Ylaw6_1000064, L1000064, XLlaw6_1000064⟩, ⟨1000060, Ylaw6_1000060, L1000060, XLlaw6_1000060⟩, ⟨1000049, Ylaw6_1000049, L1000049, XLlaw6_1000049⟩, ⟨1000042, Ylaw6_1000042, L1000042, XLlaw6_1000042⟩, ⟨1000009, Ylaw6_1000009, L1000009, XLlaw6_1000009⟩]) 400 (blkIn a6.body 1000009) E (Tlaw6_1000009a n0 c1 n2 c3 i4) = Blaw6_1000009a F N E L0 L1000086 L1000075 L1000064 L1000060 L1000049 L1000042 L1000009 n0 c1 n2 c3 i4 := by kernel_rfl
theorem Rlaw6_1000009a_of  (n0 : Nat) (c1 : List PV) (n2 : Nat) (c3 : List PV) (i4 : Int) {r : Ext × S} (h : Blaw6_1000009a (Fn env) Rlaw6_1000009 exO Llaw6_0 Llaw6_1000086 Llaw6_1000075 Llaw6_1000064 Llaw6_1000060 Llaw6_1000049 Llaw6_1000042 Llaw6_1000009 n0 c1 n2 c3 i4 = some r) : Rlaw6_1000009 (Tlaw6_1000009a n0 c1 n2 c3 i4) = some r :=
  nd_of Elaw6_ok (by kernel_rfl) (lo_cons (lpO_ok Ulaw6) (lo_cons (lpO_ok Ulaw6) (lo_cons (lpO_ok Ulaw6) (lo_cons (lpO_ok Ulaw6) (lo_cons (lpO_ok Ulaw6) (lo_cons (lpO_ok Ulaw6) (lo_cons (lpO_ok Ulaw6) (lo_cons (lpO_ok Ulaw6) lo_nil)))))))) (by kernel_rfl) ((Blaw6_1000009a_eq _ Rlaw6_1000009 _ _ _ _ _ _ _ _ _ _ _ _ _ _).trans h)
def tlaw6 (F : FnT) (L0 : Q → Option Ylaw6_0) (L1000086 : Q → Option Ylaw6_1000086) (L1000075 : Q → Option Ylaw6_1000075) (L1000064 : Q → Option Ylaw6_1000064) (L1000060 : Q → Option Ylaw6_1000060) (L1000049 : Q → Option Ylaw6_1000049) (L1000042 : Q → Option Ylaw6_1000042) (_L1000009 : Q → Option Ylaw6_1000009) (p0n : Nat) (p0c : List PV) (p1_0 : Int) (p1_1 : Int) (p1_2 : Int) (p1_3 : Int) (p2_0 : Int) (p2_1 : Int) : Option (Bool) :=
  bindO (F 13 (RSh.one CK.bool) []) fun (y0 : (Bool)) =>
  bif y0 then
    bindO (L1000086 (Tlaw6_1000086a p0n p0c p1_0 p1_1 p1_2 p1_3 p2_0 p2_1)) fun z =>
    Sum.elim (fun _y1 =>
      some true) (fun y2 =>
      bindO (F 22 (RSh.one CK.list) [(PV.list y2.1 y2.2.1)]) fun (y3 : ((Nat) × (List PV))) =>
      bindO (F 39 (RSh.tup [(Prod.mk false [CK.list]), (Prod.mk false [(CK.int .i64)])]) [(PV.list y3.1 y3.2), (PV.agg [(PV.int .i64 y2.2.2.1), (PV.int .i64 y2.2.2.2.1)]), (PV.int .i64 y2.2.2.2.2.1)]) fun (y4 : (((Nat) × (List PV)) × (Int))) =>
      bindO (F 40 (RSh.tup [(Prod.mk true [(CK.int .i64), (CK.int .i64)]), (Prod.mk false [(CK.int .i64)])]) [(PV.int .i64 y2.2.2.2.2.2.1), (PV.agg [(PV.int .i64 y2.2.2.2.2.2.2.1), (PV.int .i64 y2.2.2.2.2.2.2.2)])]) fun (y5 : ((Int) × ((Int) × (Int)))) =>
      bindO (L1000075 (Tlaw6_1000075a y2.1 y2.2.1 y4.1.1 y4.1.2 y4.2 y5.2.2 y2.2.2.1 y2.2.2.2.1 y2.2.2.2.2.1 y2.2.2.2.2.2.1 y2.2.2.2.2.2.2.1 y2.2.2.2.2.2.2.2 y5.1 y5.2.1)) fun z =>
      Sum.elim (fun _y6 =>
        some false) (fun y7 =>
        bindO (F 37 (RSh.one (CK.int .i64)) [(PV.list y7.1 y7.2.1)]) fun (y8 : (Int)) =>
        bindO (L1000064 (Tlaw6_1000064a y7.1 y7.2.1 y7.2.2.1 y7.2.2.2.1 y7.2.2.2.2.1 y8 y7.2.2.2.2.2.1 y7.2.2.2.2.2.2.1 y7.2.2.2.2.2.2.2.1 y7.2.2.2.2.2.2.2.2)) fun y9 =>
        bindO (L1000060 (Tlaw6_1000060a y9.1 y9.2.1 y9.2.2.1 y9.2.2.2.1 y9.2.2.2.2.1 y9.2.2.2.2.2.1 y9.2.2.2.2.2.2.1 y9.2.2.2.2.2.2.2.1 y9.2.2.2.2.2.2.2.2.1 y9.2.2.2.2.2.2.2.2.2)) fun y10 =>
        bif (y10.2.2.2.2.2.1 != (0 : Int)) then
          bif (y10.2.2.2.2.1 == y10.2.2.2.2.2.1) then
            bif ((y10.2.2.1 : Int) == (0 : Int)) then
              some true
            else some false
          else some false
        else bindO (L1000049 (Tlaw6_1000049a y10.1 y10.2.1 y10.2.2.1 y10.2.2.2.1 y10.2.2.2.2.1 y10.2.2.2.2.2.2.1 y10.2.2.2.2.2.2.2.1 y10.2.2.2.2.2.2.2.2.1 y10.2.2.2.2.2.2.2.2.2)) fun z =>
        Sum.elim (fun _y11 =>
          some false) (fun y12 =>
          bindO (L1000042 (Tlaw6_1000042a y12.1 y12.2.1 y12.2.2.1 y12.2.2.2.1 y12.2.2.2.2.1 y12.2.2.2.2.2.1 y12.2.2.2.2.2.2.1 y12.2.2.2.2.2.2.2)) fun z =>
          Sum.elim (fun y13 =>
            bif (y13.2.2.2.2.2.2.1 == (50000 : Int)) then
              some true
            else bindO (F 22 (RSh.one CK.list) [(PV.list y13.1 y13.2.1)]) fun (y14 : ((Nat) × (List PV))) =>
            bindO (F 39 (RSh.tup [(Prod.mk false [CK.list]), (Prod.mk false [(CK.int .i64)])]) [(PV.list y14.1 y14.2), (PV.agg [(PV.int .i64 y13.2.2.2.2.1), (PV.int .i64 y13.2.2.2.2.2.1)]), (PV.int .i64 (w64 (y13.2.2.2.2.2.2.1 + (1 : Int))))]) fun (y15 : (((Nat) × (List PV)) × (Int))) =>
            bif (y15.2 != (0 : Int)) then
              some false
            else bindO (L0 (Tlaw6_0a y13.2.2.1 y13.2.2.2.1 y15.1.1 y15.1.2 (0 : Int))) fun z =>
            Sum.elim (fun _y16 =>
              some true) (fun _y17 =>
              some false) z) (fun _y18 =>
            some false) z) z) z) z
  else some false
theorem tlaw6_eq (F : FnT) (L0 : Q → Option Ylaw6_0) (L1000086 : Q → Option Ylaw6_1000086) (L1000075 : Q → Option Ylaw6_1000075) (L1000064 : Q → Option Ylaw6_1000064) (L1000060 : Q → Option Ylaw6_1000060) (L1000049 : Q → Option Ylaw6_1000049) (L1000042 : Q → Option Ylaw6_1000042) (L1000009 : Q → Option Ylaw6_1000009) (p0n : Nat) (p0c : List PV) (p1_0 : Int) (p1_1 : Int) (p1_2 : Int) (p1_3 : Int) (p2_0 : Int) (p2_1 : Int) : semF (callP F Elaw6 20) s6 (loopT [⟨0, Ylaw6_0, L0, XLlaw6_0⟩, ⟨1000086, Ylaw6_1000086, L1000086, XLlaw6_1000086⟩, ⟨1000075, Ylaw6_1000075, L1000075, XLlaw6_1000075⟩, ⟨1000064, Ylaw6_1000064, L1000064, XLlaw6_1000064⟩, ⟨1000060, Ylaw6_1000060, L1000060, XLlaw6_1000060⟩, ⟨1000049, Ylaw6_1000049, L1000049, XLlaw6_1000049⟩, ⟨1000042, Ylaw6_1000042, L1000042, XLlaw6_1000042⟩, ⟨1000009, Ylaw6_1000009, L1000009, XLlaw6_1000009⟩]) 400 a6 [PV.list p0n p0c, PV.agg [PV.int .i64 p1_0, PV.int .i64 p1_1, PV.int .i64 p1_2, PV.int .i64 p1_3], PV.agg [PV.int .i64 p2_0, PV.int .i64 p2_1]] (fun rv => decR (RSh.one CK.bool) rv.pv) = tlaw6 F L0 L1000086 L1000075 L1000064 L1000060 L1000049 L1000042 L1000009 p0n p0c p1_0 p1_1 p1_2 p1_3 p2_0 p2_1 := by kernel_rfl
noncomputable abbrev Flaw6 (args : List PV) := Fn env 6 (RSh.one CK.bool) args
theorem Flaw6_of  (p0n : Nat) (p0c : List PV) (p1_0 : Int) (p1_1 : Int) (p1_2 : Int) (p1_3 : Int) (p2_0 : Int) (p2_1 : Int) {res : (Bool)} (h : tlaw6 (Fn env) Llaw6_0 Llaw6_1000086 Llaw6_1000075 Llaw6_1000064 Llaw6_1000060 Llaw6_1000049 Llaw6_1000042 Llaw6_1000009 p0n p0c p1_0 p1_1 p1_2 p1_3 p2_0 p2_1 = some res) : Flaw6 [PV.list p0n p0c, PV.agg [PV.int .i64 p1_0, PV.int .i64 p1_1, PV.int .i64 p1_2, PV.int .i64 p1_3], PV.agg [PV.int .i64 p2_0, PV.int .i64 p2_1]] = some res :=
  fn_of Elaw6_ok rfl rfl (lo_cons (lpO_ok Ulaw6) (lo_cons (lpO_ok Ulaw6) (lo_cons (lpO_ok Ulaw6) (lo_cons (lpO_ok Ulaw6) (lo_cons (lpO_ok Ulaw6) (lo_cons (lpO_ok Ulaw6) (lo_cons (lpO_ok Ulaw6) (lo_cons (lpO_ok Ulaw6) lo_nil)))))))) ((tlaw6_eq _ _ _ _ _ _ _ _ _ _ _ _ _ _ _ _ _).trans h)
end Gv
