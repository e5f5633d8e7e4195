/- What the functions do, round by round: P7b. -/
import Derived.Test.YtggnifebabjoiaaGvEnv
namespace Gv
open Go
set_option maxRecDepth 100000
def Elaw7 : List Entry := [.out 13 (RSh.one CK.bool), .out 46 (RSh.tup [(Prod.mk true [CK.bool, (CK.int .i64), (CK.int .i64), (CK.int .i64), (CK.int .i64)]), (Prod.mk false [(CK.int .i64)])]), .out 47 (RSh.one (CK.int .i64)), .out 48 (RSh.one (CK.int .i64)), .out 49 (RSh.one (CK.int .i64)), .out 50 (RSh.one (CK.int .i64)), .out 51 (RSh.one (CK.int .i64)), .out 52 (RSh.tup [(Prod.mk true [CK.bool, (CK.int .i64), (CK.int .i64), (CK.int .i64), (CK.int .i64)]), (Prod.mk false [(CK.int .i64)])])]
theorem Elaw7_ok : ∀ e ∈ Elaw7, EntOK env e := (ent_out (ent_out (ent_out (ent_out (ent_out (ent_out (ent_out (ent_out ent_nil))))))))
def Tlaw7_1000027a (i0 : Int) (i1 : Int) (i2 : Int) (i3 : Int) (i4 : Int) (b5 : Bool) (i6 : Int) (i7 : Int) (i8 : Int) (i9 : Int) (i10 : Int) (i11 : Int) (i12 : Int) (b13 : Bool) (i14 : Int) (i15 : Int) (i16 : Int) (i17 : Int) : Q := ⟨(tm 76 [(3, (AV.loc 3 0)), (4, (AV.loc 4 0)), (5, (AV.loc 5 0)), (7, (AV.loc 7 0)), (8, (AV.p (PV.int .i64 i0)))]), (mm 76 [(3, (Bk.pcs true [(PV.int .i64 i1), (PV.int .i64 i2), (PV.int .i64 i3), (PV.int .i64 i4)])), (4, (Bk.pcs true [(PV.bool b5), (PV.int .i64 i6), (PV.int .i64 i7), (PV.int .i64 i8), (PV.int .i64 i9)])), (5, (Bk.pcs true [(PV.int .i64 i10), (PV.int .i64 i11), (PV.int .i64 i12)])), (7, (Bk.pcs true [(PV.bool b13), (PV.int .i64 i14), (PV.int .i64 i15), (PV.int .i64 i16), (PV.int .i64 i17)]))])⟩
def Xlaw7_1000027a (y : Unit) : Ext × Q := (Ext.ret, ⟨(tm 76 [(6, (AV.p (PV.bool false)))]), (mm 76 [])⟩)
def Ilaw7_1000027a (q : Ext × S) : Unit := ()
def Xlaw7_1000027b (y : Int × Int × Int × Int × Int × Bool × Int × Int × Int × Int × Int × Int × Int × Bool × Int × Int × Int × Int) : Ext × Q := (Ext.normal, ⟨(tm 76 [(3, (AV.loc 3 0)), (4, (AV.loc 4 0)), (5, (AV.loc 5 0)), (7, (AV.loc 7 0)), (8, (AV.p (PV.int .i64 y.1)))]), (mm 76 [(3, (Bk.pcs true [(PV.int .i64 y.2.1), (PV.int .i64 y.2.2.1), (PV.int .i64 y.2.2.2.1), (PV.int .i64 y.2.2.2.2.1)])), (4, (Bk.pcs true [(PV.bool y.2.2.2.2.2.1), (PV.int .i64 y.2.2.2.2.2.2.1), (PV.int .i64 y.2.2.2.2.2.2.2.1), (PV.int .i64 y.2.2.2.2.2.2.2.2.1), (PV.int .i64 y.2.2.2.2.2.2.2.2.2.1)])), (5, (Bk.pcs true [(PV.int .i64 y.2.2.2.2.2.2.2.2.2.2.1), (PV.int .i64 y.2.2.2.2.2.2.2.2.2.2.2.1), (PV.int .i64 y.2.2.2.2.2.2.2.2.2.2.2.2.1)])), (7, (Bk.pcs true [(PV.bool y.2.2.2.2.2.2.2.2.2.2.2.2.2.1), (PV.int .i64 y.2.2.2.2.2.2.2.2.2.2.2.2.2.2.1), (PV.int .i64 y.2.2.2.2.2.2.2.2.2.2.2.2.2.2.2.1), (PV.int .i64 y.2.2.2.2.2.2.2.2.2.2.2.2.2.2.2.2.1), (PV.int .i64 y.2.2.2.2.2.2.2.2.2.2.2.2.2.2.2.2.2)]))])⟩)
def Ilaw7_1000027b (q : Ext × S) : Int × Int × Int × Int × Int × Bool × Int × Int × Int × Int × Int × Int × Int × Bool × Int × Int × Int × Int := ((pP_int1 (pA_p (avT q.2 8))), (pP_int1 (hdP (pB_pcs1 (avM q.2 3)))), (pP_int1 (hdP (List.tail (pB_pcs1 (avM q.2 3))))), (pP_int1 (hdP (List.tail (List.tail (pB_pcs1 (avM q.2 3)))))), (pP_int1 (hdP (List.tail (List.tail (List.tail (pB_pcs1 (avM q.2 3))))))), (pP_bool0 (hdP (pB_pcs1 (avM q.2 4)))), (pP_int1 (hdP (List.tail (pB_pcs1 (avM q.2 4))))), (pP_int1 (hdP (List.tail (List.tail (pB_pcs1 (avM q.2 4)))))), (pP_int1 (hdP (List.tail (List.tail (List.tail (pB_pcs1 (avM q.2 4))))))), (pP_int1 (hdP (List.tail (List.tail (List.tail (List.tail (pB_pcs1 (avM q.2 4)))))))), (pP_int1 (hdP (pB_pcs1 (avM q.2 5)))), (pP_int1 (hdP (List.tail (pB_pcs1 (avM q.2 5))))), (pP_int1 (hdP (List.tail (List.tail (pB_pcs1 (avM q.2 5)))))), (pP_bool0 (hdP (pB_pcs1 (avM q.2 7)))), (pP_int1 (hdP (List.tail (pB_pcs1 (avM q.2 7))))), (pP_int1 (hdP (List.tail (List.tail (pB_pcs1 (avM q.2 7)))))), (pP_int1 (hdP (List.tail (List.tail (List.tail (pB_pcs1 (avM q.2 7))))))), (pP_int1 (hdP (List.tail (List.tail (List.tail (List.tail (pB_pcs1 (avM q.2 7)))))))))
abbrev Ylaw7_1000027 : Type := (Unit) ⊕ ((Int × Int × Int × Int × Int × Bool × Int × Int × Int × Int × Int × Int × Int × Bool × Int × Int × Int × Int))
def XLlaw7_1000027 : XL Ylaw7_1000027 := .more Xlaw7_1000027a (.one Xlaw7_1000027b)
def Ilaw7_1000027 (q : Ext × S) : Ylaw7_1000027 := bif (cE q.1 == 2) then (Sum.inl (Ilaw7_1000027a q)) else (Sum.inr (Ilaw7_1000027b q))
theorem XIlaw7_1000027a (y : Unit) : Ilaw7_1000027 (xe (Xlaw7_1000027a y)) = (Sum.inl y) := rfl
theorem XIlaw7_1000027b (y : Int × Int × Int × Int × Int × Bool × Int × Int × Int × Int × Int × Int × Int × Bool × Int × Int × Int × Int) : Ilaw7_1000027 (xe (Xlaw7_1000027b y)) = (Sum.inr y) := rfl
theorem XIlaw7_1000027 (y : Ylaw7_1000027) : Ilaw7_1000027 (xe (XLlaw7_1000027.fn y)) = y := (match y with | .inl y => XIlaw7_1000027a y | .inr y => XIlaw7_1000027b y)
noncomputable abbrev Llaw7_1000027 : Q → Option Ylaw7_1000027 := lpO env a7.body 1000027 XLlaw7_1000027
noncomputable abbrev Rlaw7_1000027 : Q → Option (Ext × S) := lpR env a7.body 1000027
theorem Llaw7_1000027b_of {s : Q} {y : Int × Int × Int × Int × Int × Bool × Int × Int × Int × Int × Int × Int × Int × Bool × Int × Int × Int × Int} (h : Rlaw7_1000027 s = exO (Xlaw7_1000027b y)) : Llaw7_1000027 s = some (Sum.inr y) := lpO_of Ilaw7_1000027 XIlaw7_1000027 (y := (Sum.inr y)) h
def Tlaw7_1000018a (i0 : Int) (i1 : Int) (i2 : Int) (i3 : Int) (i4 : Int) (i5 : Int) (b6 : Bool) (i7 : Int) (i8 : Int) (i9 : Int) (i10 : Int) (i11 : Int) (i12 : Int) (i13 : Int) (b14 : Bool) (i15 : Int) (i16 : Int) (i17 : Int) (i18 : Int) : Q := ⟨(tm 76 [(3, (AV.loc 3 0)), (4, (AV.loc 4 0)), (5, (AV.loc 5 0)), (7, (AV.loc 7 0)), (8, (AV.p (PV.int .i64 i0))), (9, (AV.p (PV.int .i64 i1)))]), (mm 76 [(3, (Bk.pcs true [(PV.int .i64 i2), (PV.int .i64 i3), (PV.int .i64 i4), (PV.int .i64 i5)])), (4, (Bk.pcs true [(PV.bool b6), (PV.int .i64 i7), (PV.int .i64 i8), (PV.int .i64 i9), (PV.int .i64 i10)])), (5, (Bk.pcs true [(PV.int .i64 i11), (PV.int .i64 i12), (PV.int .i64 i13)])), (7, (Bk.pcs true [(PV.bool b14), (PV.int .i64 i15), (PV.int .i64 i16), (PV.int .i64 i17), (PV.int .i64 i18)]))])⟩
def Xlaw7_1000018a (y : Int × Int × Int × Int × Int × Int × Bool × Int × Int × Int × Int × Int × Int × Int × Bool × Int × Int × Int × Int) : Ext × Q := (Ext.normal, ⟨(tm 76 [(3, (AV.loc 3 0)), (4, (AV.loc 4 0)), (5, (AV.loc 5 0)), (7, (AV.loc 7 0)), (8, (AV.p (PV.int .i64 y.1))), (9, (AV.p (PV.int .i64 y.2.1)))]), (mm 76 [(3, (Bk.pcs true [(PV.int .i64 y.2.2.1), (PV.int .i64 y.2.2.2.1), (PV.int .i64 y.2.2.2.2.1), (PV.int .i64 y.2.2.2.2.2.1)])), (4, (Bk.pcs true [(PV.bool y.2.2.2.2.2.2.1), (PV.int .i64 y.2.2.2.2.2.2.2.1), (PV.int .i64 y.2.2.2.2.2.2.2.2.1), (PV.int .i64 y.2.2.2.2.2.2.2.2.2.1), (PV.int .i64 y.2.2.2.2.2.2.2.2.2.2.1)])), (5, (Bk.pcs true [(PV.int .i64 y.2.2.2.2.2.2.2.2.2.2.2.1), (PV.int .i64 y.2.2.2.2.2.2.2.2.2.2.2.2.1), (PV.int .i64 y.2.2.2.2.2.2.2.2.2.2.2.2.2.1)])), (7, (Bk.pcs true [(PV.bool y.2.2.2.2.2.2.2.2.2.2.2.2.2.2.1), (PV.int .i64 y.2.2.2.2.2.2.2.2.2.2.2.2.2.2.2.1), (PV.int .i64 y.2.2.2.2.2.2.2.2.2.2.2.2.2.2.2.2.1), (PV.int .i64 y.2.2.2.2.2.2.2.2.2.2.2.2.2.2.2.2.2.1), (PV.int .i64 y.2.2.2.2.2.2.2.2.2.2.2.2.2.2.2.2.2.2)]))])⟩)
def Ilaw7_1000018a (q : Ext × S) : Int × Int × Int × Int × Int × Int × Bool × Int × Int × Int × Int × Int × Int × Int × Bool × Int × Int × Int × Int := ((pP_int1 (pA_p (avT q.2 8))), (pP_int1 (pA_p (avT q.2 9))), (pP_int1 (hdP (pB_pcs1 (avM q.2 3)))), (pP_int1 (hdP (List.tail (pB_pcs1 (avM q.2 3))))), (pP_int1 (hdP (List.tail (List.tail (pB_pcs1 (avM q.2 3)))))), (pP_int1 (hdP (List.tail (List.tail (List.tail (pB_pcs1 (avM q.2 3))))))), (pP_bool0 (hdP (pB_pcs1 (avM q.2 4)))), (pP_int1 (hdP (List.tail (pB_pcs1 (avM q.2 4))))), (pP_int1 (hdP (List.tail (List.tail (pB_pcs1 (avM q.2 4)))))), (pP_int1 (hdP (List.tail (List.tail (List.tail (pB_pcs1 (avM q.2 4))))))), (pP_int1 (hdP (List.tail (List.tail (List.tail (List.tail (pB_pcs1 (avM q.2 4)))))))), (pP_int1 (hdP (pB_pcs1 (avM q.2 5)))), (pP_int1 (hdP (List.tail (pB_pcs1 (avM q.2 5))))), (pP_int1 (hdP (List.tail (List.tail (pB_pcs1 (avM q.2 5)))))), (pP_bool0 (hdP (pB_pcs1 (avM q.2 7)))), (pP_int1 (hdP (List.tail (pB_pcs1 (avM q.2 7))))), (pP_int1 (hdP (List.tail (List.tail (pB_pcs1 (avM q.2 7)))))), (pP_int1 (hdP (List.tail (List.tail (List.tail (pB_pcs1 (avM q.2 7))))))), (pP_int1 (hdP (List.tail (List.tail (List.tail (List.tail (pB_pcs1 (avM q.2 7)))))))))
abbrev Ylaw7_1000018 : Type := Int × Int × Int × Int × Int × Int × Bool × Int × Int × Int × Int × Int × Int × Int × Bool × Int × Int × Int × Int
def XLlaw7_1000018 : XL Ylaw7_1000018 := .one Xlaw7_1000018a
def Ilaw7_1000018 (q : Ext × S) : Ylaw7_1000018 := (Ilaw7_1000018a q)
theorem XIlaw7_1000018a (y : Int × Int × Int × Int × Int × Int × Bool × Int × Int × Int × Int × Int × Int × Int × Bool × Int × Int × Int × Int) : Ilaw7_1000018 (xe (Xlaw7_1000018a y)) = y := rfl
theorem XIlaw7_1000018 (y : Ylaw7_1000018) : Ilaw7_1000018 (xe (XLlaw7_1000018.fn y)) = y := XIlaw7_1000018a y
noncomputable abbrev Llaw7_1000018 : Q → Option Ylaw7_1000018 := lpO env a7.body 1000018 XLlaw7_1000018
noncomputable abbrev Rlaw7_1000018 : Q → Option (Ext × S) := lpR env a7.body 1000018
theorem Llaw7_1000018a_of {s : Q} {y : Int × Int × Int × Int × Int × Int × Bool × Int × Int × Int × Int × Int × Int × Int × Bool × Int × Int × Int × Int} (h : Rlaw7_1000018 s = exO (Xlaw7_1000018a y)) : Llaw7_1000018 s = some y := lpO_of Ilaw7_1000018 XIlaw7_1000018 (y := y) h
def Tlaw7_1000014a (i0 : Int) (i1 : Int) (i2 : Int) (i3 : Int) (i4 : Int) (i5 : Int) (b6 : Bool) (i7 : Int) (i8 : Int) (i9 : Int) (i10 : Int) (i11 : Int) (i12 : Int) (i13 : Int) (b14 : Bool) (i15 : Int) (i16 : Int) (i17 : Int) (i18 : Int) : Q := ⟨(tm 76 [(3, (AV.loc 3 0)), (4, (AV.loc 4 0)), (5, (AV.loc 5 0)), (7, (AV.loc 7 0)), (8, (AV.p (PV.int .i64 i0))), (9, (AV.p (PV.int .i64 i1)))]), (mm 76 [(3, (Bk.pcs true [(PV.int .i64 i2), (PV.int .i64 i3), (PV.int .i64 i4), (PV.int .i64 i5)])), (4, (Bk.pcs true [(PV.bool b6), (PV.int .i64 i7), (PV.int .i64 i8), (PV.int .i64 i9), (PV.int .i64 i10)])), (5, (Bk.pcs true [(PV.int .i64 i11), (PV.int .i64 i12), (PV.int .i64 i13)])), (7, (Bk.pcs true [(PV.bool b14), (PV.int .i64 i15), (PV.int .i64 i16), (PV.int .i64 i17), (PV.int .i64 i18)]))])⟩
def Xlaw7_1000014a (y : Int × Int × Int × Int × Int × Int × Bool × Int × Int × Int × Int × Int × Int × Int × Bool × Int × Int × Int × Int) : Ext × Q := (Ext.normal, ⟨(tm 76 [(3, (AV.loc 3 0)), (4, (AV.loc 4 0)), (5, (AV.loc 5 0)), (7, (AV.loc 7 0)), (8, (AV.p (PV.int .i64 y.1))), (9, (AV.p (PV.int .i64 y.2.1)))]), (mm 76 [(3, (Bk.pcs true [(PV.int .i64 y.2.2.1), (PV.int .i64 y.2.2.2.1), (PV.int .i64 y.2.2.2.2.1), (PV.int .i64 y.2.2.2.2.2.1)])), (4, (Bk.pcs true [(PV.bool y.2.2.2.2.2.2.1), (PV.int .i64 y.2.2.2.2.2.2.2.1), (PV.int .i64 y.2.2.2.2.2.2.2.2.1), (PV.int .i64 y.2.2.2.2.2.2.2.2.2.1), (PV.int .i64 y.2.2.2.2.2.2.2.2.2.2.1)])), (5, (Bk.pcs true [(PV.int .i64 y.2.2.2.2.2.2.2.2.2.2.2.1), (PV.int .i64 y.2.2.2.2.2.2.2.2.2.2.2.2.1), (PV.int .i64 y.2.2.2.2.2.2.2.2.2.2.2.2.2.1)])), (7, (Bk.pcs true [(PV.bool y.2.2.2.2.2.2.2.2.2.2.2.2.2.2.1), (PV.int .i64 y.2.2.2.2.2.2.2.2.2.2.2.2.2.2.2.1), (PV.int .i64 y.2.2.2.2.2.2.2.2.2.2.2.2.2.2.2.2.1), (PV.int .i64 y.2.2.2.2.2.2.2.2.2.2.2.2.2.2.2.2.2.1), (PV.int .i64 y.2.2.2.2.2.2.2.2.2.2.2.2.2.2.2.2.2.2)]))])⟩)
def Ilaw7_1000014a (q : Ext × S) : Int × Int × Int × Int × Int × Int × Bool × Int × Int × Int × Int × Int × Int × Int × Bool × Int × Int × Int × Int := ((pP_int1 (pA_p (avT q.2 8))), (pP_int1 (pA_p (avT q.2 9))), (pP_int1 (hdP (pB_pcs1 (avM q.2 3)))), (pP_int1 (hdP (List.tail (pB_pcs1 (avM q.2 3))))), (pP_int1 (hdP (List.tail (List.tail (pB_pcs1 (avM q.2 3)))))), (pP_int1 (hdP (List.tail (List.tail (List.tail (pB_pcs1 (avM q.2 3))))))), (pP_bool0 (hdP (pB_pcs1 (avM q.2 4)))), (pP_int1 (hdP (List.tail (pB_pcs1 (avM q.2 4))))), (pP_int1 (hdP (List.tail (List.tail (pB_pcs1 (avM q.2 4)))))), (pP_int1 (hdP (List.tail (List.tail (List.tail (pB_pcs1 (avM q.2 4))))))), (pP_int1 (hdP (List.tail (List.tail (List.tail (List.tail (pB_pcs1 (avM q.2 4)))))))), (pP_int1 (hdP (pB_pcs1 (avM q.2 5)))), (pP_int1 (hdP (List.tail (pB_pcs1 (avM q.2 5))))), (pP_int1 (hdP (List.tail (List.tail (pB_pcs1 (avM q.2 5)))))), (pP_bool0 (hdP (pB_pcs1 (avM q.2 7)))), (pP_int1 (hdP (List.tail (pB_pcs1 (avM q.2 7))))), (pP_int1 (hdP (List.tail (List.tail (pB_pcs1 (avM q.2 7)))))), (pP_int1 (hdP (List.tail (List.tail (List.tail (pB_pcs1 (avM q.2 7))))))), (pP_int1 (hdP (List.tail (List.tail (List.tail (List.tail (pB_pcs1 (avM q.2 7)))))))))
abbrev Ylaw7_1000014 : Type := Int × Int × Int × Int × Int × Int × Bool × Int × Int × Int × Int × Int × Int × Int × Bool × Int × Int × Int × Int
def XLlaw7_1000014 : XL Ylaw7_1000014 := .one Xlaw7_1000014a
def Ilaw7_1000014 (q : Ext × S) : Ylaw7_1000014 := (Ilaw7_1000014a q)
theorem XIlaw7_1000014a (y : Int × Int × Int × Int × Int × Int × Bool × Int × Int × Int × Int × Int × Int × Int × Bool × Int × Int × Int × Int) : Ilaw7_1000014 (xe (Xlaw7_1000014a y)) = y := rfl
theorem XIlaw7_1000014 (y : Ylaw7_1000014) : Ilaw7_1000014 (xe (XLlaw7_1000014.fn y)) = y := XIlaw7_1000014a y
noncomputable abbrev Llaw7_1000014 : Q → Option Ylaw7_1000014 := lpO env a7.body 1000014 XLlaw7_1000014
noncomputable abbrev Rlaw7_1000014 : Q → Option (Ext × S) := lpR env a7.body 1000014
theorem Llaw7_1000014a_of {s : Q} {y : Int × Int × Int × Int × Int × Int × Bool × Int × Int × Int × Int × Int × Int × Int × Bool × Int × Int × Int × Int} (h : Rlaw7_1000014 s = exO (Xlaw7_1000014a y)) : Llaw7_1000014 s = some y := lpO_of Ilaw7_1000014 XIlaw7_1000014 (y := y) h
theorem Ulaw7 : uniq ((blocksOf a7.body).map (·.1)) = true := by kernel_rfl
def Blaw7_1000027a (F : FnT) (N : QO) (E : EO) (L1000027 : Q → Option Ylaw7_1000027) (L1000018 : Q → Option Ylaw7_1000018) (L1000014 : Q → Option Ylaw7_1000014) (i0 : Int) (i1 : Int) (i2 : Int) (i3 : Int) (i4 : Int) (b5 : Bool) (i6 : Int) (i7 : Int) (i8 : Int) (i9 : Int) (i10 : Int) (i11 : Int) (i12 : Int) (b13 : Bool) (i14 : Int) (i15 : Int) (i16 : Int) (i17 : Int) : Option (Ext × S) :=
  bindO (F 47 (RSh.one (CK.int .i64)) [(PV.agg [(PV.int .i64 i1), (PV.int .i64 i2), (PV.int .i64 i3), (PV.int .i64 i4)])]) fun (y0 : (Int)) =>
  bindO (F 48 (RSh.one (CK.int .i64)) [(PV.agg [(PV.int .i64 i1), (PV.int .i64 i2), (PV.int .i64 i3), (PV.int .i64 i4)])]) fun (y1 : (Int)) =>
  bif (y0 != y1) then
    E (Xlaw7_1000027a ())
  else bif b5 then
    bindO (F 49 (RSh.one (CK.int .i64)) [(PV.agg [(PV.bool true), (PV.int .i64 i6), (PV.int .i64 i7), (PV.int .i64 i8), (PV.int .i64 i9)])]) fun (y2 : (Int)) =>
    bif b5 then
      bindO (F 50 (RSh.one (CK.int .i64)) [(PV.agg [(PV.bool true), (PV.int .i64 i6), (PV.int .i64 i7), (PV.int .i64 i8), (PV.int .i64 i9)])]) fun (y3 : (Int)) =>
      bif (y2 != y3) then
        E (Xlaw7_1000027a ())
      else E (Xlaw7_1000027b (i0, i1, i2, i3, i4, b5, i6, i7, i8, i9, i10, i11, i12, b13, i14, i15, i16, i17))
    else bindO (F 50 (RSh.one (CK.int .i64)) [(PV.agg [(PV.bool false), (PV.int .i64 i6), (PV.int .i64 i7), (PV.int .i64 i8), (PV.int .i64 i9)])]) fun (y4 : (Int)) =>
    bif (y2 != y4) then
      E (Xlaw7_1000027a ())
    else E (Xlaw7_1000027b (i0, i1, i2, i3, i4, b5, i6, i7, i8, i9, i10, i11, i12, b13, i14, i15, i16, i17))
  else bindO (F 49 (RSh.one (CK.int .i64)) [(PV.agg [(PV.bool false), (PV.int .i64 i6), (PV.int .i64 i7), (PV.int .i64 i8), (PV.int .i64 i9)])]) fun (y5 : (Int)) =>
  bif b5 then
    bindO (F 50 (RSh.one (CK.int .i64)) [(PV.agg [(PV.bool true), (PV.int .i64 i6), (PV.int .i64 i7), (PV.int .i64 i8), (PV.int .i64 i9)])]) fun (y6 : (Int)) =>
    bif (y5 != y6) then
      E (Xlaw7_1000027a ())
    else E (Xlaw7_1000027b (i0, i1, i2, i3, i4, b5, i6, i7, i8, i9, i10, i11, i12, b13, i14, i15, i16, i17))
  else bindO (F 50 (RSh.one (CK.int .i64)) [(PV.agg [(PV.bool false), (PV.int .i64 i6), (PV.int .i64 i7), (PV.int .i64 i8), (PV.int .i64 i9)])]) fun (y7 : (Int)) =>
  bif (y5 != y7) then
    E (Xlaw7_1000027a ())
  else E (Xlaw7_1000027b (i0, i1, i2, i3, i4, b5, i6, i7, i8, i9, i10, i11, i12, b13, i14, i15, i16, i17))
theorem Blaw7_1000027a_eq (F : FnT) (N : QO) (E : EO) (L1000027 : Q → Option Ylaw7_1000027) (L1000018 : Q → Option Ylaw7_1000018) (L1000014 : Q → Option Ylaw7_1000014) (i0 : Int) (i1 : Int) (i2 : Int) (i3 : Int) (i4 : Int) (b5 : Bool) (i6 : Int) (i7 : Int) (i8 : Int) (i9 : Int) (i10 : Int) (i11 : Int) (i12 : Int) (b13 : Bool) (i14 : Int) (i15 : Int) (i16 : Int) (i17 : Int) : semN (callP F Elaw7 20) s7 (loopT [⟨1000027, Ylaw7_1000027, L1000027, XLlaw7_1000027⟩, ⟨1000018, Ylaw7_1000018, L1000018, XLlaw7_1000018⟩, ⟨1000014, Ylaw7_1000014, L1000014, XLlaw7_1000014⟩]) 400 (blkIn a7.body 1000027) E (Tlaw7_1000027a i0 i1 i2 i3 i4 b5 i6 i7 i8 i9 i10 i11 i12 b13 i14 i15 i16 i17) = Blaw7_1000027a F N E L1000027 L1000018 L1000014 i0 i1 i2 i3 i4 b5 i6 i7 i8 i9 i10 i11 i12 b13 i14 i15 i16 i17 := by kernel_rfl
theorem Rlaw7_1000027a_of  (i0 : Int) (i1 : Int) (i2 : Int) (i3 : Int) (i4 : Int) (b5 : Bool) (i6 : Int) (i7 : Int) (i8 : Int) (i9 : Int) (i10 : Int) (i11 : Int) (i12 : Int) (b13 : Bool) (i14 : Int) (i15 : Int) (i16 : Int) (i17 : Int) {r : Ext × S} (h : Blaw7_1000027a (Fn env) Rlaw7_1000027 exO Llaw7_1000027 Llaw7_1000018 Llaw7_1000014 i0 i1 i2 i3 i4 b5 i6 i7 i8 i9 i10 i11 i12 b13 i14 i15 i16 i17 = some r) : Rlaw7_1000027 (Tlaw7_1000027a i0 i1 i2 i3 i4 b5 i6 i7 i8 i9 i10 i11 i12 b13 i14 i15 i16 i17) = some r :=
  nd_of Elaw7_ok (by kernel_rfl) (lo_cons (lpO_ok Ulaw7) (lo_cons (lpO_ok Ulaw7) (lo_cons (lpO_ok Ulaw7) lo_nil))) (by kernel_rfl) ((Blaw7_1000027a_eq _ Rlaw7_1000027 _ _ _ _ _ _ _ _ _ _ _ _ _ _ _ _ _ _ _ _ _ _).trans h)
def Blaw7_1000018a (F : FnT) (N : QO) (E : EO) (L1000027 : Q → Option Ylaw7_1000027) (L1000018 : Q → Option Ylaw7_1000018) (L1000014 : Q → Option Ylaw7_1000014) (i0 : Int) (i1 : Int) (i2 : Int) (i3 : Int) (i4 : Int) (i5 : Int) (b6 : Bool) (i7 : Int) (i8 : Int) (i9 : Int) (i10 : Int) (i11 : Int) (i12 : Int) (i13 : Int) (b14 : Bool) (i15 : Int) (i16 : Int) (i17 : Int) (i18 : Int) : Option (Ext × S) :=
  bif (i1 == (0 : Int)) then
    bif b6 then
      bindO (F 50 (RSh.one (CK.int .i64)) [(PV.agg [(PV.bool true), (PV.int .i64 i7), (PV.int .i64 i8), (PV.int .i64 i9), (PV.int .i64 i10)])]) fun (y0 : (Int)) =>
      E (Xlaw7_1000018a (i0, y0, i2, i3, i4, i5, b6, i7, i8, i9, i10, i11, i12, i13, b14, i15, i16, i17, i18))
    else bindO (F 50 (RSh.one (CK.int .i64)) [(PV.agg [(PV.bool false), (PV.int .i64 i7), (PV.int .i64 i8), (PV.int .i64 i9), (PV.int .i64 i10)])]) fun (y1 : (Int)) =>
    E (Xlaw7_1000018a (i0, y1, i2, i3, i4, i5, b6, i7, i8, i9, i10, i11, i12, i13, b14, i15, i16, i17, i18))
  else E (Xlaw7_1000018a (i0, i1, i2, i3, i4, i5, b6, i7, i8, i9, i10, i11, i12, i13, b14, i15, i16, i17, i18))
theorem Blaw7_1000018a_eq (F : FnT) (N : QO) (E : EO) (L1000027 : Q → Option Ylaw7_1000027) (L1000018 : Q → Option Ylaw7_1000018) (L1000014 : Q → Option Ylaw7_1000014) (i0 : Int) (i1 : Int) (i2 : Int) (i3 : Int) (i4 : Int) (i5 : Int) (b6 : Bool) (i7 : Int) (i8 : Int) (i9 : Int) (i10 : Int) (i11 : Int) (i12 : Int) (i13 : Int) (b14 : Bool) (i15 : Int) (i16 : Int) (i17 : Int) (i18 : Int) : semN (callP F Elaw7 20) s7 (loopT [⟨1000027, Ylaw7_1000027, L1000027, XLlaw7_1000027⟩, ⟨1000018, Ylaw7_1000018, L1000018, XLlaw7_1000018⟩, ⟨1000014, Ylaw7_1000014, L1000014, XLlaw7_1000014⟩]) 400 (blkIn a7.body 1000018) E (Tlaw7_1000018a i0 i1 i2 i3 i4 i5 b6 i7 i8 i9 i10 i11 i12 i13 b14 i15 i16 i17 i18) = Blaw7_1000018a F N E L1000027 L1000018 L1000014 i0 i1 i2 i3 i4 i5 b6 i7 i8 i9 i10 i11 i12 i13 b14 i15 i16 i17 i18 := by kernel_rfl
theorem Rlaw7_1000018a_of  (i0 : Int) (i1 : Int) (i2 : Int) (i3 : Int) (i4 : Int) (i5 : Int) (b6 : Bool) (i7 : Int) (i8 : Int) (i9 : Int) (i10 : Int) (i11 : Int) (i12 : Int) (i13 : Int) (b14 : Bool) (i15 : Int) (i16 : Int) (i17 : Int) (i18 : Int) {r : Ext × S} (h : Blaw7_1000018a (Fn env) Rlaw7_1000018 exO Llaw7_1000027 Llaw7_1000018 Llaw7_1000014 i0 i1 i2 i3 i4 i5 b6 i7 i8 i9 i10 i11 i12 i13 b14 i15 i16 i17 i18 = some r) : Rlaw7_1000018 (Tlaw7_1000018a i0 i1 i2 i3 i4 i5 b6 i7 i8 i9 i10 i11 i12 i13 b14 i15 i16 i17 i18) = some r :=
  nd_of Elaw7_ok (by kernel_rfl) (lo_cons (lpO_ok Ulaw7) (lo_cons (lpO_ok Ulaw7) (lo_cons (lpO_ok Ulaw7) lo_nil))) (by kernel_rfl) ((Blaw7_1000018a_eq _ Rlaw7_1000018 _ _ _ _ _ _ _ _ _ _ _ _ _ _ _ _ _ _ _ _ _ _ _).trans h)
def Blaw7_1000014a (F : FnT) (N : QO) (E : EO) (L1000027 : Q → Option Ylaw7_1000027) (L1000018 : Q → Option Ylaw7_1000018) (L1000014 : Q → Option Ylaw7_1000014) (i0 : Int) (i1 : Int) (i2 : Int) (i3 : Int) (i4 : Int) (i5 : Int) (b6 : Bool) (i7 : Int) (i8 : Int) (i9 : Int) (i10 : Int) (i11 : Int) (i12 : Int) (i13 : Int) (b14 : Bool) (i15 : Int) (i16 : Int) (i17 : Int) (i18 : Int) : Option (Ext × S) :=
  bif (i1 == (0 : Int)) then
    bindO (F 51 (RSh.one (CK.int .i64)) [(PV.agg [(PV.int .i64 i11), (PV.int .i64 i12), (PV.int .i64 i13)])]) fun (y0 : (Int)) =>
    E (Xlaw7_1000014a (i0, y0, i2, i3, i4, i5, b6, i7, i8, i9, i10, i11, i12, i13, b14, i15, i16, i17, i18))
  else E (Xlaw7_1000014a (i0, i1, i2, i3, i4, i5, b6, i7, i8, i9, i10, i11, i12, i13, b14, i15, i16, i17, i18))
theorem Blaw7_1000014a_eq (F : FnT) (N : QO) (E : EO) (L1000027 : Q → Option Ylaw7_1000027) (L1000018 : Q → Option Ylaw7_1000018) (L1000014 : Q → Option Ylaw7_1000014) (i0 : Int) (i1 : Int) (i2 : Int) (i3 : Int) (i4 : Int) (i5 : Int) (b6 : Bool) (i7 : Int) (i8 : Int) (i9 : Int) (i10 : Int) (i11 : Int) (i12 : Int) (i13 : Int) (b14 : Bool) (i15 : Int) (i16 : Int) (i17 : Int) (i18 : Int) : semN (callP F Elaw7 20) s7 (loopT [⟨1000027, Ylaw7_1000027, L1000027, XLlaw7_1000027⟩, ⟨1000018, Ylaw7_1000018, L1000018, XLlaw7_1000018⟩, ⟨1000014, Ylaw7_1000014, L1000014, XLlaw7_1000014⟩]) 400 (blkIn a7.body 1000014) E (Tlaw7_1000014a i0 i1 i2 i3 i4 i5 b6 i7 i8 i9 i10 i11 i12 i13 b14 i15 i16 i17 i18) = Blaw7_1000014a F N E L1000027 L1000018 L1000014 i0 i1 i2 i3 i4 i5 b6 i7 i8 i9 i10 i11 i12 i13 b14 i15 i16 i17 i18 := by kernel_rfl
theorem Rlaw7_1000014a_of  (i0 : Int) (i1 : Int) (i2 : Int) (i3 : Int) (i4 : Int) (i5 : Int) (b6 : Bool) (i7 : Int) (i8 : Int) (i9 : Int) (i10 : Int) (i11 : Int) (i12 : Int) (i13 : Int) (b14 : Bool) (i15 : Int) (i16 : Int) (i17 : Int) (i18 : Int) {r : Ext × S} (h : Blaw7_1000014a (Fn env) Rlaw7_1000014 exO Llaw7_1000027 Llaw7_1000018 Llaw7_1000014 i0 i1 i2 i3 i4 i5 b6 i7 i8 i9 i10 i11 i12 i13 b14 i15 i16 i17 i18 = some r) : Rlaw7_1000014 (Tlaw7_1000014a i0 i1 i2 i3 i4 i5 b6 i7 i8 i9 i10 i11 i12 i13 b14 i15 i16 i17 i18) = some r :=
  nd_of Elaw7_ok (by kernel_rfl) (lo_cons (lpO_ok Ulaw7) (lo_cons (lpO_ok Ulaw7) (lo_cons (lpO_ok Ulaw7) lo_nil))) (by kernel_rfl) ((Blaw7_1000014a_eq _ Rlaw7_1000014 _ _ _ _ _ _ _ _ _ _ _ _ _ _ _ _ _ _ _ _ _ _ _).trans h)
def tlaw7 (F : FnT) (L1000027 : Q → Option Ylaw7_1000027) (L1000018 : Q → Option Ylaw7_1000018) (L1000014 : Q → Option Ylaw7_1000014) (p0_0 : Int) (p0_1 : Int) (p0_2 : Int) (p0_3 : Int) (p1_0 : Bool) (p1_1 : Int) (p1_2 : Int) (p1_3 : Int) (p1_4 : Int) (p2_0 : Int) (p2_1 : Int) (p2_2 : Int) : Option (Bool) :=
  bindO (F 13 (RSh.one CK.bool) []) fun (y0 : (Bool)) =>
  bif y0 then
    bif p1_0 then
      bindO (F 46 (RSh.tup [(Prod.mk true [CK.bool, (CK.int .i64), (CK.int .i64), (CK.int .i64), (CK.int .i64)]), (Prod.mk false [(CK.int .i64)])]) [(PV.agg [(PV.int .i64 p0_0), (PV.int .i64 p0_1), (PV.int .i64 p0_2), (PV.int .i64 p0_3)]), (PV.agg [(PV.bool true), (PV.int .i64 p1_1), (PV.int .i64 p1_2), (PV.int .i64 p1_3), (PV.int .i64 p1_4)]), (PV.agg [(PV.int .i64 p2_0), (PV.int .i64 p2_1), (PV.int .i64 p2_2)])]) fun (y1 : ((Bool) × ((Int) × ((Int) × ((Int) × ((Int) × (Int))))))) =>
      bindO (L1000027 (Tlaw7_1000027a y1.2.2.2.2.2 p0_0 p0_1 p0_2 p0_3 p1_0 p1_1 p1_2 p1_3 p1_4 p2_0 p2_1 p2_2 y1.1 y1.2.1 y1.2.2.1 y1.2.2.2.1 y1.2.2.2.2.1)) fun z =>
      Sum.elim (fun y2 =>
        some false) (fun y3 =>
        bindO (F 48 (RSh.one (CK.int .i64)) [(PV.agg [(PV.int .i64 y3.2.1), (PV.int .i64 y3.2.2.1), (PV.int .i64 y3.2.2.2.1), (PV.int .i64 y3.2.2.2.2.1)])]) fun (y4 : (Int)) =>
        bindO (L1000018 (Tlaw7_1000018a y3.1 y4 y3.2.1 y3.2.2.1 y3.2.2.2.1 y3.2.2.2.2.1 y3.2.2.2.2.2.1 y3.2.2.2.2.2.2.1 y3.2.2.2.2.2.2.2.1 y3.2.2.2.2.2.2.2.2.1 y3.2.2.2.2.2.2.2.2.2.1 y3.2.2.2.2.2.2.2.2.2.2.1 y3.2.2.2.2.2.2.2.2.2.2.2.1 y3.2.2.2.2.2.2.2.2.2.2.2.2.1 y3.2.2.2.2.2.2.2.2.2.2.2.2.2.1 y3.2.2.2.2.2.2.2.2.2.2.2.2.2.2.1 y3.2.2.2.2.2.2.2.2.2.2.2.2.2.2.2.1 y3.2.2.2.2.2.2.2.2.2.2.2.2.2.2.2.2.1 y3.2.2.2.2.2.2.2.2.2.2.2.2.2.2.2.2.2)) fun y5 =>
        bindO (L1000014 (Tlaw7_1000014a y5.1 y5.2.1 y5.2.2.1 y5.2.2.2.1 y5.2.2.2.2.1 y5.2.2.2.2.2.1 y5.2.2.2.2.2.2.1 y5.2.2.2.2.2.2.2.1 y5.2.2.2.2.2.2.2.2.1 y5.2.2.2.2.2.2.2.2.2.1 y5.2.2.2.2.2.2.2.2.2.2.1 y5.2.2.2.2.2.2.2.2.2.2.2.1 y5.2.2.2.2.2.2.2.2.2.2.2.2.1 y5.2.2.2.2.2.2.2.2.2.2.2.2.2.1 y5.2.2.2.2.2.2.2.2.2.2.2.2.2.2.1 y5.2.2.2.2.2.2.2.2.2.2.2.2.2.2.2.1 y5.2.2.2.2.2.2.2.2.2.2.2.2.2.2.2.2.1 y5.2.2.2.2.2.2.2.2.2.2.2.2.2.2.2.2.2.1 y5.2.2.2.2.2.2.2.2.2.2.2.2.2.2.2.2.2.2)) fun y6 =>
        bif (y6.2.1 != (0 : Int)) then
          bif (y6.1 == y6.2.1) then
            bif y6.2.2.2.2.2.2.2.2.2.2.2.2.2.2.1 then
              some false
            else bif (true && ((y6.2.2.2.2.2.2.2.2.2.2.2.2.2.2.2.1 == (0 : Int)) && ((y6.2.2.2.2.2.2.2.2.2.2.2.2.2.2.2.2.1 == (0 : Int)) && ((y6.2.2.2.2.2.2.2.2.2.2.2.2.2.2.2.2.2.1 == (0 : Int)) && ((y6.2.2.2.2.2.2.2.2.2.2.2.2.2.2.2.2.2.2 == (0 : Int)) && true))))) then
              some true
            else some false
          else some false
        else bif y6.2.2.2.2.2.2.1 then
          bindO (F 52 (RSh.tup [(Prod.mk true [CK.bool, (CK.int .i64), (CK.int .i64), (CK.int .i64), (CK.int .i64)]), (Prod.mk false [(CK.int .i64)])]) [(PV.agg [(PV.int .i64 y6.2.2.1), (PV.int .i64 y6.2.2.2.1), (PV.int .i64 y6.2.2.2.2.1), (PV.int .i64 y6.2.2.2.2.2.1)]), (PV.agg [(PV.bool true), (PV.int .i64 y6.2.2.2.2.2.2.2.1), (PV.int .i64 y6.2.2.2.2.2.2.2.2.1), (PV.int .i64 y6.2.2.2.2.2.2.2.2.2.1), (PV.int .i64 y6.2.2.2.2.2.2.2.2.2.2.1)]), (PV.agg [(PV.int .i64 y6.2.2.2.2.2.2.2.2.2.2.2.1), (PV.int .i64 y6.2.2.2.2.2.2.2.2.2.2.2.2.1), (PV.int .i64 y6.2.2.2.2.2.2.2.2.2.2.2.2.2.1)])]) fun (y7 : ((Bool) × ((Int) × ((Int) × ((Int) × ((Int) × (Int))))))) =>
          bif (y6.1 == y7.2.2.2.2.2) then
            bif y6.2.2.2.2.2.2.2.2.2.2.2.2.2.2.1 then
              bif y7.1 then
                bif (true && ((y6.2.2.2.2.2.2.2.2.2.2.2.2.2.2.2.1 == y7.2.1) && ((y6.2.2.2.2.2.2.2.2.2.2.2.2.2.2.2.2.1 == y7.2.2.1) && ((y6.2.2.2.2.2.2.2.2.2.2.2.2.2.2.2.2.2.1 == y7.2.2.2.1) && ((y6.2.2.2.2.2.2.2.2.2.2.2.2.2.2.2.2.2.2 == y7.2.2.2.2.1) && true))))) then
                  bif (y7.2.2.2.2.2 != (0 : Int)) then
                    some true
                  else bif y6.2.2.2.2.2.2.2.2.2.2.2.2.2.2.1 then
                    bindO (F 49 (RSh.one (CK.int .i64)) [(PV.agg [(PV.bool true), (PV.int .i64 y6.2.2.2.2.2.2.2.2.2.2.2.2.2.2.2.1), (PV.int .i64 y6.2.2.2.2.2.2.2.2.2.2.2.2.2.2.2.2.1), (PV.int .i64 y6.2.2.2.2.2.2.2.2.2.2.2.2.2.2.2.2.2.1), (PV.int .i64 y6.2.2.2.2.2.2.2.2.2.2.2.2.2.2.2.2.2.2)])]) fun (y8 : (Int)) =>
                    bif (y8 == (0 : Int)) then
                      some true
                    else some false
                  else bindO (F 49 (RSh.one (CK.int .i64)) [(PV.agg [(PV.bool false), (PV.int .i64 y6.2.2.2.2.2.2.2.2.2.2.2.2.2.2.2.1), (PV.int .i64 y6.2.2.2.2.2.2.2.2.2.2.2.2.2.2.2.2.1), (PV.int .i64 y6.2.2.2.2.2.2.2.2.2.2.2.2.2.2.2.2.2.1), (PV.int .i64 y6.2.2.2.2.2.2.2.2.2.2.2.2.2.2.2.2.2.2)])]) fun (y9 : (Int)) =>
                  bif (y9 == (0 : Int)) then
                    some true
                  else some false
                else some false
              else some false
            else bif y7.1 then
              some false
            else bif (true && ((y6.2.2.2.2.2.2.2.2.2.2.2.2.2.2.2.1 == y7.2.1) && ((y6.2.2.2.2.2.2.2.2.2.2.2.2.2.2.2.2.1 == y7.2.2.1) && ((y6.2.2.2.2.2.2.2.2.2.2.2.2.2.2.2.2.2.1 == y7.2.2.2.1) && ((y6.2.2.2.2.2.2.2.2.2.2.2.2.2.2.2.2.2.2 == y7.2.2.2.2.1) && true))))) then
              bif (y7.2.2.2.2.2 != (0 : Int)) then
                some true
              else bif y6.2.2.2.2.2.2.2.2.2.2.2.2.2.2.1 then
                bindO (F 49 (RSh.one (CK.int .i64)) [(PV.agg [(PV.bool true), (PV.int .i64 y6.2.2.2.2.2.2.2.2.2.2.2.2.2.2.2.1), (PV.int .i64 y6.2.2.2.2.2.2.2.2.2.2.2.2.2.2.2.2.1), (PV.int .i64 y6.2.2.2.2.2.2.2.2.2.2.2.2.2.2.2.2.2.1), (PV.int .i64 y6.2.2.2.2.2.2.2.2.2.2.2.2.2.2.2.2.2.2)])]) fun (y10 : (Int)) =>
                bif (y10 == (0 : Int)) then
                  some true
                else some false
              else bindO (F 49 (RSh.one (CK.int .i64)) [(PV.agg [(PV.bool false), (PV.int .i64 y6.2.2.2.2.2.2.2.2.2.2.2.2.2.2.2.1), (PV.int .i64 y6.2.2.2.2.2.2.2.2.2.2.2.2.2.2.2.2.1), (PV.int .i64 y6.2.2.2.2.2.2.2.2.2.2.2.2.2.2.2.2.2.1), (PV.int .i64 y6.2.2.2.2.2.2.2.2.2.2.2.2.2.2.2.2.2.2)])]) fun (y11 : (Int)) =>
              bif (y11 == (0 : Int)) then
                some true
              else some false
            else some false
          else some false
        else bindO (F 52 (RSh.tup [(Prod.mk true [CK.bool, (CK.int .i64), (CK.int .i64), (CK.int .i64), (CK.int .i64)]), (Prod.mk false [(CK.int .i64)])]) [(PV.agg [(PV.int .i64 y6.2.2.1), (PV.int .i64 y6.2.2.2.1), (PV.int .i64 y6.2.2.2.2.1), (PV.int .i64 y6.2.2.2.2.2.1)]), (PV.agg [(PV.bool false), (PV.int .i64 y6.2.2.2.2.2.2.2.1), (PV.int .i64 y6.2.2.2.2.2.2.2.2.1), (PV.int .i64 y6.2.2.2.2.2.2.2.2.2.1), (PV.int .i64 y6.2.2.2.2.2.2.2.2.2.2.1)]), (PV.agg [(PV.int .i64 y6.2.2.2.2.2.2.2.2.2.2.2.1), (PV.int .i64 y6.2.2.2.2.2.2.2.2.2.2.2.2.1), (PV.int .i64 y6.2.2.2.2.2.2.2.2.2.2.2.2.2.1)])]) fun (y12 : ((Bool) × ((Int) × ((Int) × ((Int) × ((Int) × (Int))))))) =>
        bif (y6.1 == y12.2.2.2.2.2) then
          bif y6.2.2.2.2.2.2.2.2.2.2.2.2.2.2.1 then
            bif y12.1 then
              bif (true && ((y6.2.2.2.2.2.2.2.2.2.2.2.2.2.2.2.1 == y12.2.1) && ((y6.2.2.2.2.2.2.2.2.2.2.2.2.2.2.2.2.1 == y12.2.2.1) && ((y6.2.2.2.2.2.2.2.2.2.2.2.2.2.2.2.2.2.1 == y12.2.2.2.1) && ((y6.2.2.2.2.2.2.2.2.2.2.2.2.2.2.2.2.2.2 == y12.2.2.2.2.1) && true))))) then
                bif (y12.2.2.2.2.2 != (0 : Int)) then
                  some true
                else bif y6.2.2.2.2.2.2.2.2.2.2.2.2.2.2.1 then
                  bindO (F 49 (RSh.one (CK.int .i64)) [(PV.agg [(PV.bool true), (PV.int .i64 y6.2.2.2.2.2.2.2.2.2.2.2.2.2.2.2.1), (PV.int .i64 y6.2.2.2.2.2.2.2.2.2.2.2.2.2.2.2.2.1), (PV.int .i64 y6.2.2.2.2.2.2.2.2.2.2.2.2.2.2.2.2.2.1), (PV.int .i64 y6.2.2.2.2.2.2.2.2.2.2.2.2.2.2.2.2.2.2)])]) fun (y13 : (Int)) =>
                  bif (y13 == (0 : Int)) then
                    some true
                  else some false
                else bindO (F 49 (RSh.one (CK.int .i64)) [(PV.agg [(PV.bool false), (PV.int .i64 y6.2.2.2.2.2.2.2.2.2.2.2.2.2.2.2.1), (PV.int .i64 y6.2.2.2.2.2.2.2.2.2.2.2.2.2.2.2.2.1), (PV.int .i64 y6.2.2.2.2.2.2.2.2.2.2.2.2.2.2.2.2.2.1), (PV.int .i64 y6.2.2.2.2.2.2.2.2.2.2.2.2.2.2.2.2.2.2)])]) fun (y14 : (Int)) =>
                bif (y14 == (0 : Int)) then
                  some true
                else some false
              else some false
            else some false
          else bif y12.1 then
            some false
          else bif (true && ((y6.2.2.2.2.2.2.2.2.2.2.2.2.2.2.2.1 == y12.2.1) && ((y6.2.2.2.2.2.2.2.2.2.2.2.2.2.2.2.2.1 == y12.2.2.1) && ((y6.2.2.2.2.2.2.2.2.2.2.2.2.2.2.2.2.2.1 == y12.2.2.2.1) && ((y6.2.2.2.2.2.2.2.2.2.2.2.2.2.2.2.2.2.2 == y12.2.2.2.2.1) && true))))) then
            bif (y12.2.2.2.2.2 != (0 : Int)) then
              some true
            else bif y6.2.2.2.2.2.2.2.2.2.2.2.2.2.2.1 then
              bindO (F 49 (RSh.one (CK.int .i64)) [(PV.agg [(PV.bool true), (PV.int .i64 y6.2.2.2.2.2.2.2.2.2.2.2.2.2.2.2.1), (PV.int .i64 y6.2.2.2.2.2.2.2.2.2.2.2.2.2.2.2.2.1), (PV.int .i64 y6.2.2.2.2.2.2.2.2.2.2.2.2.2.2.2.2.2.1), (PV.int .i64 y6.2.2.2.2.2.2.2.2.2.2.2.2.2.2.2.2.2.2)])]) fun (y15 : (Int)) =>
              bif (y15 == (0 : Int)) then
                some true
              else some false
            else bindO (F 49 (RSh.one (CK.int .i64)) [(PV.agg [(PV.bool false), (PV.int .i64 y6.2.2.2.2.2.2.2.2.2.2.2.2.2.2.2.1), (PV.int .i64 y6.2.2.2.2.2.2.2.2.2.2.2.2.2.2.2.2.1), (PV.int .i64 y6.2.2.2.2.2.2.2.2.2.2.2.2.2.2.2.2.2.1), (PV.int .i64 y6.2.2.2.2.2.2.2.2.2.2.2.2.2.2.2.2.2.2)])]) fun (y16 : (Int)) =>
            bif (y16 == (0 : Int)) then
              some true
            else some false
          else some false
        else some false) z
    else bindO (F 46 (RSh.tup [(Prod.mk true [CK.bool, (CK.int .i64), (CK.int .i64), (CK.int .i64), (CK.int .i64)]), (Prod.mk false [(CK.int .i64)])]) [(PV.agg [(PV.int .i64 p0_0), (PV.int .i64 p0_1), (PV.int .i64 p0_2), (PV.int .i64 p0_3)]), (PV.agg [(PV.bool false), (PV.int .i64 p1_1), (PV.int .i64 p1_2), (PV.int .i64 p1_3), (PV.int .i64 p1_4)]), (PV.agg [(PV.int .i64 p2_0), (PV.int .i64 p2_1), (PV.int .i64 p2_2)])]) fun (y17 : ((Bool) × ((Int) × ((Int) × ((Int) × ((Int) × (Int))))))) =>
    bindO (L1000027 (Tlaw7_1000027a y17.2.2.2.2.2 p0_0 p0_1 p0_2 p0_3 p1_0 p1_1 p1_2 p1_3 p1_4 p2_0 p2_1 p2_2 y17.1 y17.2.1 y17.2.2.1 y17.2.2.2.1 y17.2.2.2.2.1)) fun z =>
    Sum.elim (fun y18 =>
      some false) (fun y19 =>
      bindO (F 48 (RSh.one (CK.int .i64)) [(PV.agg [(PV.int .i64 y19.2.1), (PV.int .i64 y19.2.2.1), (PV.int .i64 y19.2.2.2.1), (PV.int .i64 y19.2.2.2.2.1)])]) fun (y20 : (Int)) =>
      bindO (L1000018 (Tlaw7_1000018a y19.1 y20 y19.2.1 y19.2.2.1 y19.2.2.2.1 y19.2.2.2.2.1 y19.2.2.2.2.2.1 y19.2.2.2.2.2.2.1 y19.2.2.2.2.2.2.2.1 y19.2.2.2.2.2.2.2.2.1 y19.2.2.2.2.2.2.2.2.2.1 y19.2.2.2.2.2.2.2.2.2.2.1 y19.2.2.2.2.2.2.2.2.2.2.2.1 y19.2.2.2.2.2.2.2.2.2.2.2.2.1 y19.2.2.2.2.2.2.2.2.2.2.2.2.2.1 y19.2.2.2.2.2.2.2.2.2.2.2.2.2.2.1 y19.2.2.2.2.2.2.2.2.2.2.2.2.2.2.2.1 y19.2.2.2.2.2.2.2.2.2.2.2.2.2.2.2.2.1 y19.2.2.2.2.2.2.2.2.2.2.2.2.2.2.2.2.2)) fun y21 =>
      bindO (L1000014 (Tlaw7_1000014a y21.1 y21.2.1 y21.2.2.1 y21.2.2.2.1 y21.2.2.2.2.1 y21.2.2.2.2.2.1 y21.2.2.2.2.2.2.1 y21.2.2.2.2.2.2.2.1 y21.2.2.2.2.2.2.2.2.1 y21.2.2.2.2.2.2.2.2.2.1 y21.2.2.2.2.2.2.2.2.2.2.1 y21.2.2.2.2.2.2.2.2.2.2.2.1 y21.2.2.2.2.2.2.2.2.2.2.2.2.1 y21.2.2.2.2.2.2.2.2.2.2.2.2.2.1 y21.2.2.2.2.2.2.2.2.2.2.2.2.2.2.1 y21.2.2.2.2.2.2.2.2.2.2.2.2.2.2.2.1 y21.2.2.2.2.2.2.2.2.2.2.2.2.2.2.2.2.1 y21.2.2.2.2.2.2.2.2.2.2.2.2.2.2.2.2.2.1 y21.2.2.2.2.2.2.2.2.2.2.2.2.2.2.2.2.2.2)) fun y22 =>
      bif (y22.2.1 != (0 : Int)) then
        bif (y22.1 == y22.2.1) then
          bif y22.2.2.2.2.2.2.2.2.2.2.2.2.2.2.1 then
            some false
          else bif (true && ((y22.2.2.2.2.2.2.2.2.2.2.2.2.2.2.2.1 == (0 : Int)) && ((y22.2.2.2.2.2.2.2.2.2.2.2.2.2.2.2.2.1 == (0 : Int)) && ((y22.2.2.2.2.2.2.2.2.2.2.2.2.2.2.2.2.2.1 == (0 : Int)) && ((y22.2.2.2.2.2.2.2.2.2.2.2.2.2.2.2.2.2.2 == (0 : Int)) && true))))) then
            some true
          else some false
        else some false
      else bif y22.2.2.2.2.2.2.1 then
        bindO (F 52 (RSh.tup [(Prod.mk true [CK.bool, (CK.int .i64), (CK.int .i64), (CK.int .i64), (CK.int .i64)]), (Prod.mk false [(CK.int .i64)])]) [(PV.agg [(PV.int .i64 y22.2.2.1), (PV.int .i64 y22.2.2.2.1), (PV.int .i64 y22.2.2.2.2.1), (PV.int .i64 y22.2.2.2.2.2.1)]), (PV.agg [(PV.bool true), (PV.int .i64 y22.2.2.2.2.2.2.2.1), (PV.int .i64 y22.2.2.2.2.2.2.2.2.1), (PV.int .i64 y22.2.2.2.2.2.2.2.2.2.1), (PV.int .i64 y22.2.2.2.2.2.2.2.2.2.2.1)]), (PV.agg [(PV.int .i64 y22.2.2.2.2.2.2.2.2.2.2.2.1), (PV.int .i64 y22.2.2.2.2.2.2.2.2.2.2.2.2.1), (PV.int .i64 y22.2.2.2.2.2.2.2.2.2.2.2.2.2.1)])]) fun (y23 : ((Bool) × ((Int) × ((Int) × ((Int) × ((Int) × (Int))))))) =>
        bif (y22.1 == y23.2.2.2.2.2) then
          bif y22.2.2.2.2.2.2.2.2.2.2.2.2.2.2.1 then
            bif y23.1 then
              bif (true && ((y22.2.2.2.2.2.2.2.2.2.2.2.2.2.2.2.1 == y23.2.1) && ((y22.2.2.2.2.2.2.2.2.2.2.2.2.2.2.2.2.1 == y23.2.2.1) && ((y22.2.2.2.2.2.2.2.2.2.2.2.2.2.2.2.2.2.1 == y23.2.2.2.1) && ((y22.2.2.2.2.2.2.2.2.2.2.2.2.2.2.2.2.2.2 == y23.2.2.2.2.1) && true))))) then
                bif (y23.2.2.2.2.2 != (0 : Int)) then
                  some true
                else bif y22.2.2.2.2.2.2.2.2.2.2.2.2.2.2.1 then
                  bindO (F 49 (RSh.one (CK.int .i64)) [(PV.agg [(PV.bool true), (PV.int .i64 y22.2.2.2.2.2.2.2.2.2.2.2.2.2.2.2.1), (PV.int .i64 y22.2.2.2.2.2.2.2.2.2.2.2.2.2.2.2.2.1), (PV.int .i64 y22.2.2.2.2.2.2.2.2.2.2.2.2.2.2.2.2.2.1), (PV.int .i64 y22.2.2.2.2.2.2.2.2.2.2.2.2.2.2.2.2.2.2)])]) fun (y24 : (Int)) =>
                  bif (y24 == (0 : Int)) then
                    some true
                  else some false
                else bindO (F 49 (RSh.one (CK.int .i64)) [(PV.agg [(PV.bool false), (PV.int .i64 y22.2.2.2.2.2.2.2.2.2.2.2.2.2.2.2.1), (PV.int .i64 y22.2.2.2.2.2.2.2.2.2.2.2.2.2.2.2.2.1), (PV.int .i64 y22.2.2.2.2.2.2.2.2.2.2.2.2.2.2.2.2.2.1), (PV.int .i64 y22.2.2.2.2.2.2.2.2.2.2.2.2.2.2.2.2.2.2)])]) fun (y25 : (Int)) =>
                bif (y25 == (0 : Int)) then
                  some true
                else some false
              else some false
            else some false
          else bif y23.1 then
            some false
          else bif (true && ((y22.2.2.2.2.2.2.2.2.2.2.2.2.2.2.2.1 == y23.2.1) && ((y22.2.2.2.2.2.2.2.2.2.2.2.2.2.2.2.2.1 == y23.2.2.1) && ((y22.2.2.2.2.2.2.2.2.2.2.2.2.2.2.2.2.2.1 == y23.2.2.2.1) && ((y22.2.2.2.2.2.2.2.2.2.2.2.2.2.2.2.2.2.2 == y23.2.2.2.2.1) && true))))) then
            bif (y23.2.2.2.2.2 != (0 : Int)) then
              some true
            else bif y22.2.2.2.2.2.2.2.2.2.2.2.2.2.2.1 then
              bindO (F 49 (RSh.one (CK.int .i64)) [(PV.agg [(PV.bool true), (PV.int .i64 y22.2.2.2.2.2.2.2.2.2.2.2.2.2.2.2.1), (PV.int .i64 y22.2.2.2.2.2.2.2.2.2.2.2.2.2.2.2.2.1), (PV.int .i64 y22.2.2.2.2.2.2.2.2.2.2.2.2.2.2.2.2.2.1), (PV.int .i64 y22.2.2.2.2.2.2.2.2.2.2.2.2.2.2.2.2.2.2)])]) fun (y26 : (Int)) =>
              bif (y26 == (0 : Int)) then
                some true
              else some false
            else bindO (F 49 (RSh.one (CK.int .i64)) [(PV.agg [(PV.bool false), (PV.int .i64 y22.2.2.2.2.2.2.2.2.2.2.2.2.2.2.2.1), (PV.int .i64 y22.2.2.2.2.2.2.2.2.2.2.2.2.2.2.2.2.1), (PV.int .i64 y22.2.2.2.2.2.2.2.2.2.2.2.2.2.2.2.2.2.1), (PV.int .i64 y22.2.2.2.2.2.2.2.2.2.2.2.2.2.2.2.2.2.2)])]) fun (y27 : (Int)) =>
            bif (y27 == (0 : Int)) then
              some true
            else some false
          else some false
        else some false
      else bindO (F 52 (RSh.tup [(Prod.mk true [CK.bool, (CK.int .i64), (CK.int .i64), (CK.int .i64), (CK.int .i64)]), (Prod.mk false [(CK.int .i64)])]) [(PV.agg [(PV.int .i64 y22.2.2.1), (PV.int .i64 y22.2.2.2.1), (PV.int .i64 y22.2.2.2.2.1), (PV.int .i64 y22.2.2.2.2.2.1)]), (PV.agg [(PV.bool false), (PV.int .i64 y22.2.2.2.2.2.2.2.1), (PV.int .i64 y22.2.2.2.2.2.2.2.2.1), (PV.int .i64 y22.2.2.2.2.2.2.2.2.2.1), (PV.int .i64 y22.2.2.2.2.2.2.2.2.2.2.1)]), (PV.agg [(PV.int .i64 y22.2.2.2.2.2.2.2.2.2.2.2.1), (PV.int .i64 y22.2.2.2.2.2.2.2.2.2.2.2.2.1), (PV.int .i64 y22.2.2.2.2.2.2.2.2.2.2.2.2.2.1)])]) fun (y28 : ((Bool) × ((Int) × ((Int) × ((Int) × ((Int) × (Int))))))) =>
      bif (y22.1 == y28.2.2.2.2.2) then
        bif y22.2.2.2.2.2.2.2.2.2.2.2.2.2.2.1 then
          bif y28.1 then
            bif (true && ((y22.2.2.2.2.2.2.2.2.2.2.2.2.2.2.2.1 == y28.2.1) && ((y22.2.2.2.2.2.2.2.2.2.2.2.2.2.2.2.2.1 == y28.2.2.1) && ((y22.2.2.2.2.2.2.2.2.2.2.2.2.2.2.2.2.2.1 == y28.2.2.2.1) && ((y22.2.2.2.2.2.2.2.2.2.2.2.2.2.2.2.2.2.2 == y28.2.2.2.2.1) && true))))) then
              bif (y28.2.2.2.2.2 != (0 : Int)) then
                some true
              else bif y22.2.2.2.2.2.2.2.2.2.2.2.2.2.2.1 then
                bindO (F 49 (RSh.one (CK.int .i64)) [(PV.agg [(PV.bool true), (PV.int .i64 y22.2.2.2.2.2.2.2.2.2.2.2.2.2.2.2.1), (PV.int .i64 y22.2.2.2.2.2.2.2.2.2.2.2.2.2.2.2.2.1), (PV.int .i64 y22.2.2.2.2.2.2.2.2.2.2.2.2.2.2.2.2.2.1), (PV.int .i64 y22.2.2.2.2.2.2.2.2.2.2.2.2.2.2.2.2.2.2)])]) fun (y29 : (Int)) =>
                bif (y29 == (0 : Int)) then
                  some true
                else some false
              else bindO (F 49 (RSh.one (CK.int .i64)) [(PV.agg [(PV.bool false), (PV.int .i64 y22.2.2.2.2.2.2.2.2.2.2.2.2.2.2.2.1), (PV.int .i64 y22.2.2.2.2.2.2.2.2.2.2.2.2.2.2.2.2.1), (PV.int .i64 y22.2.2.2.2.2.2.2.2.2.2.2.2.2.2.2.2.2.1), (PV.int .i64 y22.2.2.2.2.2.2.2.2.2.2.2.2.2.2.2.2.2.2)])]) fun (y30 : (Int)) =>
              bif (y30 == (0 : Int)) then
                some true
              else some false
            else some false
          else some false
        else bif y28.1 then
          some false
        else bif (true && ((y22.2.2.2.2.2.2.2.2.2.2.2.2.2.2.2.1 == y28.2.1) && ((y22.2.2.2.2.2.2.2.2.2.2.2.2.2.2.2.2.1 == y28.2.2.1) && ((y22.2.2.2.2.2.2.2.2.2.2.2.2.2.2.2.2.2.1 == y28.2.2.2.1) && ((y22.2.2.2.2.2.2.2.2.2.2.2.2.2.2.2.2.2.2 == y28.2.2.2.2.1) && true))))) then
          bif (y28.2.2.2.2.2 != (0 : Int)) then
            some true
          else bif y22.2.2.2.2.2.2.2.2.2.2.2.2.2.2.1 then
            bindO (F 49 (RSh.one (CK.int .i64)) [(PV.agg [(PV.bool true), (PV.int .i64 y22.2.2.2.2.2.2.2.2.2.2.2.2.2.2.2.1), (PV.int .i64 y22.2.2.2.2.2.2.2.2.2.2.2.2.2.2.2.2.1), (PV.int .i64 y22.2.2.2.2.2.2.2.2.2.2.2.2.2.2.2.2.2.1), (PV.int .i64 y22.2.2.2.2.2.2.2.2.2.2.2.2.2.2.2.2.2.2)])]) fun (y31 : (Int)) =>
            bif (y31 == (0 : Int)) then
              some true
            else some false
          else bindO (F 49 (RSh.one (CK.int .i64)) [(PV.agg [(PV.bool false), (PV.int .i64 y22.2.2.2.2.2.2.2.2.2.2.2.2.2.2.2.1), (PV.int .i64 y22.2.2.2.2.2.2.2.2.2.2.2.2.2.2.2.2.1), (PV.int .i64 y22.2.2.2.2.2.2.2.2.2.2.2.2.2.2.2.2.2.1), (PV.int .i64 y22.2.2.2.2.2.2.2.2.2.2.2.2.2.2.2.2.2.2)])]) fun (y32 : (Int)) =>
          bif (y32 == (0 : Int)) then
            some true
          else some false
        else some false
      else some false) z
  else some false
theorem tlaw7_eq (F : FnT) (L1000027 : Q → Option Ylaw7_1000027) (L1000018 : Q → Option Ylaw7_1000018) (L1000014 : Q → Option Ylaw7_1000014) (p0_0 : Int) (p0_1 : Int) (p0_2 : Int) (p0_3 : Int) (p1_0 : Bool) (p1_1 : Int) (p1_2 : Int) (p1_3 : Int) (p1_4 : Int) (p2_0 : Int) (p2_1 : Int) (p2_2 : Int) : semF (callP F Elaw7 20) s7 (loopT [⟨1000027, Ylaw7_1000027, L1000027, XLlaw7_1000027⟩, ⟨1000018, Ylaw7_1000018, L1000018, XLlaw7_1000018⟩, ⟨1000014, Ylaw7_1000014, L1000014, XLlaw7_1000014⟩]) 400 a7 [PV.agg [PV.int .i64 p0_0, PV.int .i64 p0_1, PV.int .i64 p0_2, PV.int .i64 p0_3], PV.agg [PV.bool p1_0, PV.int .i64 p1_1, PV.int .i64 p1_2, PV.int .i64 p1_3, PV.int .i64 p1_4], PV.agg [PV.int .i64 p2_0, PV.int .i64 p2_1, PV.int .i64 p2_2]] (fun rv => decR (RSh.one CK.bool) rv.pv) = tlaw7 F L1000027 L1000018 L1000014 p0_0 p0_1 p0_2 p0_3 p1_0 p1_1 p1_2 p1_3 p1_4 p2_0 p2_1 p2_2 := by kernel_rfl
noncomputable abbrev Flaw7 (args : List PV) := Fn env 7 (RSh.one CK.bool) args
theorem Flaw7_of  (p0_0 : Int) (p0_1 : Int) (p0_2 : Int) (p0_3 : Int) (p1_0 : Bool) (p1_1 : Int) (p1_2 : Int) (p1_3 : Int) (p1_4 : Int) (p2_0 : Int) (p2_1 : Int) (p2_2 : Int) {res : (Bool)} (h : tlaw7 (Fn env) Llaw7_1000027 Llaw7_1000018 Llaw7_1000014 p0_0 p0_1 p0_2 p0_3 p1_0 p1_1 p1_2 p1_3 p1_4 p2_0 p2_1 p2_2 = some res) : Flaw7 [PV.agg [PV.int .i64 p0_0, PV.int .i64 p0_1, PV.int .i64 p0_2, PV.int .i64 p0_3], PV.agg [PV.bool p1_0, PV.int .i64 p1_1, PV.int .i64 p1_2, PV.int .i64 p1_3, PV.int .i64 p1_4], PV.agg [PV.int .i64 p2_0, PV.int .i64 p2_1, PV.int .i64 p2_2]] = some res :=
  fn_of Elaw7_ok rfl rfl (lo_cons (lpO_ok Ulaw7) (lo_cons (lpO_ok Ulaw7) (lo_cons (lpO_ok Ulaw7) lo_nil))) ((tlaw7_eq _ _ _ _ _ _ _ _ _ _ _ _ _ _ _ _).trans h)
end Gv
