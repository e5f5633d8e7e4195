/- What the functions do, round by round: QL3. -/
import Derived.Test.YtfhgjanheaocaaaGvEnv
namespace Gv
open Go
set_option maxRecDepth 100000
def Elaw3 : List Entry := [.out 5 (RSh.one CK.bool), .out 6 (RSh.one (CK.int .i64)), .out 7 (RSh.one (CK.int .i64)), .out 8 (RSh.one (CK.int .i64)), .out 9 (RSh.one CK.bool), .out 10 (RSh.tup [(Prod.mk true [(CK.int .i64), (CK.int .i64)]), (Prod.mk false [(CK.int .i64)])]), .out 11 (RSh.agg [(CK.int .i64), (CK.int .i64)])]
theorem Elaw3_ok : ∀ e ∈ Elaw3, EntOK env e := (ent_out (ent_out (ent_out (ent_out (ent_out (ent_out (ent_out ent_nil)))))))
def Tlaw3_1000060a (i0 i1 i2 i3 i4 i5 i6 i7 i8 : Int) : Q := ⟨(tm 226 [(2, (AV.p (PV.int .i64 i0))), (3, (AV.loc 3 0)), (4, (AV.loc 4 0))]), (mm 226 [(3, (Bk.pcs true [(PV.int .i64 i1), (PV.int .i64 i2), (PV.int .i64 i3), (PV.int .i64 i4), (PV.int .i64 i5)])), (4, (Bk.pcs true [(PV.int .i64 i6), (PV.int .i64 i7), (PV.int .i64 i8)]))])⟩
def Xlaw3_1000060a (_y : Unit) : Ext × Q := (Ext.ret, ⟨(tm 226 [(6, (AV.p (PV.bool true)))]), (mm 226 [])⟩)
def Ilaw3_1000060a (_q : Ext × S) : Unit := ()
def Xlaw3_1000060b (y : Int × Int × Int × Int × Int × Int × Int × Int × Int) : Ext × Q := (Ext.normal, ⟨(tm 226 [(2, (AV.p (PV.int .i64 y.1))), (3, (AV.loc 3 0)), (4, (AV.loc 4 0))]), (mm 226 [(3, (Bk.pcs true [(PV.int .i64 y.2.1), (PV.int .i64 y.2.2.1), (PV.int .i64 y.2.2.2.1), (PV.int .i64 y.2.2.2.2.1), (PV.int .i64 y.2.2.2.2.2.1)])), (4, (Bk.pcs true [(PV.int .i64 y.2.2.2.2.2.2.1), (PV.int .i64 y.2.2.2.2.2.2.2.1), (PV.int .i64 y.2.2.2.2.2.2.2.2)]))])⟩)
def Ilaw3_1000060b (q : Ext × S) : Int × Int × Int × Int × Int × Int × Int × Int × Int := ((pP_int1 (pA_p (avT q.2 2))), (pP_int1 (hdP (pB_pcs1 (avM q.2 3)))), (pP_int1 (hdP (List.tail (pB_pcs1 (avM q.2 3))))), (pP_int1 (hdP (List.tail (List.tail (pB_pcs1 (avM q.2 3)))))), (pP_int1 (hdP (List.tail (List.tail (List.tail (pB_pcs1 (avM q.2 3))))))), (pP_int1 (hdP (List.tail (List.tail (List.tail (List.tail (pB_pcs1 (avM q.2 3)))))))), (pP_int1 (hdP (pB_pcs1 (avM q.2 4)))), (pP_int1 (hdP (List.tail (pB_pcs1 (avM q.2 4))))), (pP_int1 (hdP (List.tail (List.tail (pB_pcs1 (avM q.2 4)))))))
abbrev Ylaw3_1000060 : Type := (Unit) ⊕ ((Int × Int × Int × Int × Int × Int × Int × Int × Int))
def XLlaw3_1000060 : XL Ylaw3_1000060 := .more Xlaw3_1000060a (.one Xlaw3_1000060b)
def Ilaw3_1000060 (q : Ext × S) : Ylaw3_1000060 := bif (cE q.1 == 2) then (Sum.inl (Ilaw3_1000060a q)) else (Sum.inr (Ilaw3_1000060b q))
theorem XIlaw3_1000060a (y : Unit) : Ilaw3_1000060 (xe (Xlaw3_1000060a y)) = (Sum.inl y) := by kernel_rfl
theorem XIlaw3_1000060b (y : Int × Int × Int × Int × Int × Int × Int × Int × Int) : Ilaw3_1000060 (xe (Xlaw3_1000060b y)) = (Sum.inr y) := by kernel_rfl
theorem XIlaw3_1000060 (y : Ylaw3_1000060) : Ilaw3_1000060 (xe (XLlaw3_1000060.fn y)) = y := (match y with | .inl y => XIlaw3_1000060a y | .inr y => XIlaw3_1000060b y)
noncomputable abbrev Llaw3_1000060 : Q → Option Ylaw3_1000060 := lpO env a3.body 1000060 XLlaw3_1000060
noncomputable abbrev Rlaw3_1000060 : Q → Option (Ext × S) := lpR env a3.body 1000060
theorem Llaw3_1000060a_of {s : Q} {y : Unit} (h : Rlaw3_1000060 s = exO (Xlaw3_1000060a y)) : Llaw3_1000060 s = some (Sum.inl y) := lpO_of Ilaw3_1000060 XIlaw3_1000060 (y := (Sum.inl y)) h
theorem Llaw3_1000060b_of {s : Q} {y : Int × Int × Int × Int × Int × Int × Int × Int × Int} (h : Rlaw3_1000060 s = exO (Xlaw3_1000060b y)) : Llaw3_1000060 s = some (Sum.inr y) := lpO_of Ilaw3_1000060 XIlaw3_1000060 (y := (Sum.inr y)) h
def Tlaw3_1000034a (i0 i1 i2 i3 i4 i5 i6 i7 i8 i9 i10 i11 i12 i13 i14 i15 i16 i17 i18 i19 : Int) : Q := ⟨(tm 226 [(2, (AV.p (PV.int .i64 i0))), (3, (AV.loc 3 0)), (4, (AV.loc 4 0)), (7, (AV.loc 7 0)), (10, (AV.loc 10 0)), (11, (AV.p (PV.int .i64 i1))), (12, (AV.loc 12 0)), (13, (AV.p (PV.int .i64 i2))), (14, (AV.loc 14 0)), (15, (AV.p (PV.int .i64 i3)))]), (mm 226 [(3, (Bk.pcs true [(PV.int .i64 i4), (PV.int .i64 i5), (PV.int .i64 i6), (PV.int .i64 i7), (PV.int .i64 i8)])), (4, (Bk.pcs true [(PV.int .i64 i9), (PV.int .i64 i10), (PV.int .i64 i11)])), (7, (Bk.pcs true [(PV.int .i64 i12), (PV.int .i64 i13)])), (10, (Bk.pcs true [(PV.int .i64 i14), (PV.int .i64 i15)])), (12, (Bk.pcs true [(PV.int .i64 i16), (PV.int .i64 i17)])), (14, (Bk.pcs true [(PV.int .i64 i18), (PV.int .i64 i19)]))])⟩
def Xlaw3_1000034a (_y : Unit) : Ext × Q := (Ext.ret, ⟨(tm 226 [(6, (AV.p (PV.bool false)))]), (mm 226 [])⟩)
def Ilaw3_1000034a (_q : Ext × S) : Unit := ()
def Xlaw3_1000034b (y : Int × Int × Int × Int × Int × Int × Int × Int × Int × Int × Int) : Ext × Q := (Ext.normal, ⟨(tm 226 [(2, (AV.p (PV.int .i64 y.1))), (3, (AV.loc 3 0)), (4, (AV.loc 4 0)), (7, (AV.loc 7 0))]), (mm 226 [(3, (Bk.pcs true [(PV.int .i64 y.2.1), (PV.int .i64 y.2.2.1), (PV.int .i64 y.2.2.2.1), (PV.int .i64 y.2.2.2.2.1), (PV.int .i64 y.2.2.2.2.2.1)])), (4, (Bk.pcs true [(PV.int .i64 y.2.2.2.2.2.2.1), (PV.int .i64 y.2.2.2.2.2.2.2.1), (PV.int .i64 y.2.2.2.2.2.2.2.2.1)])), (7, (Bk.pcs true [(PV.int .i64 y.2.2.2.2.2.2.2.2.2.1), (PV.int .i64 y.2.2.2.2.2.2.2.2.2.2)]))])⟩)
def Ilaw3_1000034b (q : Ext × S) : Int × Int × Int × Int × Int × Int × Int × Int × Int × Int × Int := ((pP_int1 (pA_p (avT q.2 2))), (pP_int1 (hdP (pB_pcs1 (avM q.2 3)))), (pP_int1 (hdP (List.tail (pB_pcs1 (avM q.2 3))))), (pP_int1 (hdP (List.tail (List.tail (pB_pcs1 (avM q.2 3)))))), (pP_int1 (hdP (List.tail (List.tail (List.tail (pB_pcs1 (avM q.2 3))))))), (pP_int1 (hdP (List.tail (List.tail (List.tail (List.tail (pB_pcs1 (avM q.2 3)))))))), (pP_int1 (hdP (pB_pcs1 (avM q.2 4)))), (pP_int1 (hdP (List.tail (pB_pcs1 (avM q.2 4))))), (pP_int1 (hdP (List.tail (List.tail (pB_pcs1 (avM q.2 4)))))), (pP_int1 (hdP (pB_pcs1 (avM q.2 7)))), (pP_int1 (hdP (List.tail (pB_pcs1 (avM q.2 7))))))
abbrev Ylaw3_1000034 : Type := (Unit) ⊕ ((Int × Int × Int × Int × Int × Int × Int × Int × Int × Int × Int))
def XLlaw3_1000034 : XL Ylaw3_1000034 := .more Xlaw3_1000034a (.one Xlaw3_1000034b)
def Ilaw3_1000034 (q : Ext × S) : Ylaw3_1000034 := bif (cE q.1 == 2) then (Sum.inl (Ilaw3_1000034a q)) else (Sum.inr (Ilaw3_1000034b q))
theorem XIlaw3_1000034a (y : Unit) : Ilaw3_1000034 (xe (Xlaw3_1000034a y)) = (Sum.inl y) := by kernel_rfl
theorem XIlaw3_1000034b (y : Int × Int × Int × Int × Int × Int × Int × Int × Int × Int × Int) : Ilaw3_1000034 (xe (Xlaw3_1000034b y)) = (Sum.inr y) := by kernel_rfl
theorem XIlaw3_1000034 (y : Ylaw3_1000034) : Ilaw3_1000034 (xe (XLlaw3_1000034.fn y)) = y := (match y with | .inl y => XIlaw3_1000034a y | .inr y => XIlaw3_1000034b y)
noncomputable abbrev Llaw3_1000034 : Q → Option Ylaw3_1000034 := lpO env a3.body 1000034 XLlaw3_1000034
noncomputable abbrev Rlaw3_1000034 : Q → Option (Ext × S) := lpR env a3.body 1000034
theorem Llaw3_1000034b_of {s : Q} {y : Int × Int × Int × Int × Int × Int × Int × Int × Int × Int × Int} (h : Rlaw3_1000034 s = exO (Xlaw3_1000034b y)) : Llaw3_1000034 s = some (Sum.inr y) := lpO_of Ilaw3_1000034 XIlaw3_1000034 (y := (Sum.inr y)) h
def Tlaw3_1000021a (i0 i1 i2 i3 i4 i5 i6 i7 i8 i9 i10 i11 i12 i13 : Int) : Q := ⟨(tm 226 [(2, (AV.p (PV.int .i64 i0))), (3, (AV.loc 3 0)), (4, (AV.loc 4 0)), (7, (AV.loc 7 0)), (19, (AV.loc 19 0)), (20, (AV.p (PV.int .i64 i1)))]), (mm 226 [(3, (Bk.pcs true [(PV.int .i64 i2), (PV.int .i64 i3), (PV.int .i64 i4), (PV.int .i64 i5), (PV.int .i64 i6)])), (4, (Bk.pcs true [(PV.int .i64 i7), (PV.int .i64 i8), (PV.int .i64 i9)])), (7, (Bk.pcs true [(PV.int .i64 i10), (PV.int .i64 i11)])), (19, (Bk.pcs true [(PV.int .i64 i12), (PV.int .i64 i13)]))])⟩
def Xlaw3_1000021a (_y : Unit) : Ext × Q := (Ext.ret, ⟨(tm 226 [(6, (AV.p (PV.bool false)))]), (mm 226 [])⟩)
def Ilaw3_1000021a (_q : Ext × S) : Unit := ()
def Xlaw3_1000021b (y : Int × Int × Int × Int × Int × Int × Int × Int × Int × Int × Int) : Ext × Q := (Ext.normal, ⟨(tm 226 [(2, (AV.p (PV.int .i64 y.1))), (3, (AV.loc 3 0)), (4, (AV.loc 4 0)), (7, (AV.loc 7 0))]), (mm 226 [(3, (Bk.pcs true [(PV.int .i64 y.2.1), (PV.int .i64 y.2.2.1), (PV.int .i64 y.2.2.2.1), (PV.int .i64 y.2.2.2.2.1), (PV.int .i64 y.2.2.2.2.2.1)])), (4, (Bk.pcs true [(PV.int .i64 y.2.2.2.2.2.2.1), (PV.int .i64 y.2.2.2.2.2.2.2.1), (PV.int .i64 y.2.2.2.2.2.2.2.2.1)])), (7, (Bk.pcs true [(PV.int .i64 y.2.2.2.2.2.2.2.2.2.1), (PV.int .i64 y.2.2.2.2.2.2.2.2.2.2)]))])⟩)
def Ilaw3_1000021b (q : Ext × S) : Int × Int × Int × Int × Int × Int × Int × Int × Int × Int × Int := ((pP_int1 (pA_p (avT q.2 2))), (pP_int1 (hdP (pB_pcs1 (avM q.2 3)))), (pP_int1 (hdP (List.tail (pB_pcs1 (avM q.2 3))))), (pP_int1 (hdP (List.tail (List.tail (pB_pcs1 (avM q.2 3)))))), (pP_int1 (hdP (List.tail (List.tail (List.tail (pB_pcs1 (avM q.2 3))))))), (pP_int1 (hdP (List.tail (List.tail (List.tail (List.tail (pB_pcs1 (avM q.2 3)))))))), (pP_int1 (hdP (pB_pcs1 (avM q.2 4)))), (pP_int1 (hdP (List.tail (pB_pcs1 (avM q.2 4))))), (pP_int1 (hdP (List.tail (List.tail (pB_pcs1 (avM q.2 4)))))), (pP_int1 (hdP (pB_pcs1 (avM q.2 7)))), (pP_int1 (hdP (List.tail (pB_pcs1 (avM q.2 7))))))
abbrev Ylaw3_1000021 : Type := (Unit) ⊕ ((Int × Int × Int × Int × Int × Int × Int × Int × Int × Int × Int))
def XLlaw3_1000021 : XL Ylaw3_1000021 := .more Xlaw3_1000021a (.one Xlaw3_1000021b)
def Ilaw3_1000021 (q : Ext × S) : Ylaw3_1000021 := bif (cE q.1 == 2) then (Sum.inl (Ilaw3_1000021a q)) else (Sum.inr (Ilaw3_1000021b q))
theorem XIlaw3_1000021a (y : Unit) : Ilaw3_1000021 (xe (Xlaw3_1000021a y)) = (Sum.inl y) := by kernel_rfl
theorem XIlaw3_1000021b (y : Int × Int × Int × Int × Int × Int × Int × Int × Int × Int × Int) : Ilaw3_1000021 (xe (Xlaw3_1000021b y)) = (Sum.inr y) := by kernel_rfl
theorem XIlaw3_1000021 (y : Ylaw3_1000021) : Ilaw3_1000021 (xe (XLlaw3_1000021.fn y)) = y := (match y with | .inl y => XIlaw3_1000021a y | .inr y => XIlaw3_1000021b y)
noncomputable abbrev Llaw3_1000021 : Q → Option Ylaw3_1000021 := lpO env a3.body 1000021 XLlaw3_1000021
noncomputable abbrev Rlaw3_1000021 : Q → Option (Ext × S) := lpR env a3.body 1000021
theorem Llaw3_1000021b_of {s : Q} {y : Int × Int × Int × Int × Int × Int × Int × Int × Int × Int × Int} (h : Rlaw3_1000021 s = exO (Xlaw3_1000021b y)) : Llaw3_1000021 s = some (Sum.inr y) := lpO_of Ilaw3_1000021 XIlaw3_1000021 (y := (Sum.inr y)) h
def Tlaw3_1000010a (i0 i1 i2 i3 i4 i5 i6 i7 i8 i9 : Int) : Q := ⟨(tm 226 [(7, (AV.loc 7 0)), (21, (AV.loc 21 0)), (22, (AV.loc 22 0)), (23, (AV.loc 23 0))]), (mm 226 [(7, (Bk.pcs true [(PV.int .i64 i0), (PV.int .i64 i1)])), (21, (Bk.pcs true [(PV.int .i64 i2), (PV.int .i64 i3), (PV.int .i64 i4)])), (22, (Bk.pcs true [(PV.int .i64 i5), (PV.int .i64 i6), (PV.int .i64 i7)])), (23, (Bk.pcs true [(PV.int .i64 i8), (PV.int .i64 i9)]))])⟩
def Xlaw3_1000010a (_y : Unit) : Ext × Q := (Ext.ret, ⟨(tm 226 [(6, (AV.p (PV.bool true)))]), (mm 226 [])⟩)
def Ilaw3_1000010a (_q : Ext × S) : Unit := ()
def Xlaw3_1000010b (y : Int × Int × Int × Int × Int × Int × Int × Int × Int × Int) : Ext × Q := (Ext.normal, ⟨(tm 226 [(7, (AV.loc 7 0)), (21, (AV.loc 21 0)), (22, (AV.loc 22 0)), (23, (AV.loc 23 0))]), (mm 226 [(7, (Bk.pcs true [(PV.int .i64 y.1), (PV.int .i64 y.2.1)])), (21, (Bk.pcs true [(PV.int .i64 y.2.2.1), (PV.int .i64 y.2.2.2.1), (PV.int .i64 y.2.2.2.2.1)])), (22, (Bk.pcs true [(PV.int .i64 y.2.2.2.2.2.1), (PV.int .i64 y.2.2.2.2.2.2.1), (PV.int .i64 y.2.2.2.2.2.2.2.1)])), (23, (Bk.pcs true [(PV.int .i64 y.2.2.2.2.2.2.2.2.1), (PV.int .i64 y.2.2.2.2.2.2.2.2.2)]))])⟩)
def Ilaw3_1000010b (q : Ext × S) : Int × Int × Int × Int × Int × Int × Int × Int × Int × Int := ((pP_int1 (hdP (pB_pcs1 (avM q.2 7)))), (pP_int1 (hdP (List.tail (pB_pcs1 (avM q.2 7))))), (pP_int1 (hdP (pB_pcs1 (avM q.2 21)))), (pP_int1 (hdP (List.tail (pB_pcs1 (avM q.2 21))))), (pP_int1 (hdP (List.tail (List.tail (pB_pcs1 (avM q.2 21)))))), (pP_int1 (hdP (pB_pcs1 (avM q.2 22)))), (pP_int1 (hdP (List.tail (pB_pcs1 (avM q.2 22))))), (pP_int1 (hdP (List.tail (List.tail (pB_pcs1 (avM q.2 22)))))), (pP_int1 (hdP (pB_pcs1 (avM q.2 23)))), (pP_int1 (hdP (List.tail (pB_pcs1 (avM q.2 23))))))
abbrev Ylaw3_1000010 : Type := (Unit) ⊕ ((Int × Int × Int × Int × Int × Int × Int × Int × Int × Int))
def XLlaw3_1000010 : XL Ylaw3_1000010 := .more Xlaw3_1000010a (.one Xlaw3_1000010b)
def Ilaw3_1000010 (q : Ext × S) : Ylaw3_1000010 := bif (cE q.1 == 2) then (Sum.inl (Ilaw3_1000010a q)) else (Sum.inr (Ilaw3_1000010b q))
theorem XIlaw3_1000010a (y : Unit) : Ilaw3_1000010 (xe (Xlaw3_1000010a y)) = (Sum.inl y) := by kernel_rfl
theorem XIlaw3_1000010b (y : Int × Int × Int × Int × Int × Int × Int × Int × Int × Int) : Ilaw3_1000010 (xe (Xlaw3_1000010b y)) = (Sum.inr y) := by kernel_rfl
theorem XIlaw3_1000010 (y : Ylaw3_1000010) : Ilaw3_1000010 (xe (XLlaw3_1000010.fn y)) = y := (match y with | .inl y => XIlaw3_1000010a y | .inr y => XIlaw3_1000010b y)
noncomputable abbrev Llaw3_1000010 : Q → Option Ylaw3_1000010 := lpO env a3.body 1000010 XLlaw3_1000010
noncomputable abbrev Rlaw3_1000010 : Q → Option (Ext × S) := lpR env a3.body 1000010
theorem Llaw3_1000010a_of {s : Q} {y : Unit} (h : Rlaw3_1000010 s = exO (Xlaw3_1000010a y)) : Llaw3_1000010 s = some (Sum.inl y) := lpO_of Ilaw3_1000010 XIlaw3_1000010 (y := (Sum.inl y)) h
theorem Llaw3_1000010b_of {s : Q} {y : Int × Int × Int × Int × Int × Int × Int × Int × Int × Int} (h : Rlaw3_1000010 s = exO (Xlaw3_1000010b y)) : Llaw3_1000010 s = some (Sum.inr y) := lpO_of Ilaw3_1000010 XIlaw3_1000010 (y := (Sum.inr y)) h
theorem Ulaw3 : uniq ((blocksOf a3.body).map (·.1)) = true := by kernel_rfl
def Blaw3_1000060a (F : FnT) (_N : QO) (E : EO) (_L1000060 : Q → Option Ylaw3_1000060) (_L1000034 : Q → Option Ylaw3_1000034) (_L1000021 : Q → Option Ylaw3_1000021) (_L1000010 : Q → Option Ylaw3_1000010) (i0 i1 i2 i3 i4 i5 i6 i7 i8 : Int) : Option (Ext × S) :=
  bindO (F 6 (RSh.one (CK.int .i64)) [(PV.agg [(PV.int .i64 i1), (PV.int .i64 i2), (PV.int .i64 i3)])]) fun (y0 : (Int)) =>
  bif (y0 != (0 : Int)) then
    E (Xlaw3_1000060a ())
  else bindO (F 7 (RSh.one (CK.int .i64)) [(PV.agg [(PV.int .i64 i6), (PV.int .i64 i7), (PV.int .i64 i8)])]) fun (y1 : (Int)) =>
  bif (y1 != (0 : Int)) then
    E (Xlaw3_1000060a ())
  else bindO (F 8 (RSh.one (CK.int .i64)) [(PV.agg [(PV.int .i64 i4), (PV.int .i64 i5)])]) fun (y2 : (Int)) =>
  bif (y2 != (0 : Int)) then
    E (Xlaw3_1000060a ())
  else bindO (F 9 (RSh.one CK.bool) [(PV.int .i64 i0), (PV.int .i64 (-100 : Int)), (PV.int .i64 (100 : Int))]) fun (y3 : (Bool)) =>
  bif y3 then
    E (Xlaw3_1000060b (i0, i1, i2, i3, i4, i5, i6, i7, i8))
  else E (Xlaw3_1000060a ())
theorem Blaw3_1000060a_eq (F : FnT) (N : QO) (E : EO) (L1000060 : Q → Option Ylaw3_1000060) (L1000034 : Q → Option Ylaw3_1000034) (L1000021 : Q → Option Ylaw3_1000021) (L1000010 : Q → Option Ylaw3_1000010) (i0 i1 i2 i3 i4 i5 i6 i7 i8 : Int) : semN (callP F Elaw3 20) s3 (loopT [⟨1000060, Ylaw3_1000060, L1000060, XLlaw3_1000060⟩, ⟨1000034, Ylaw3_1000034, L1000034, XLlaw3_1000034⟩, ⟨1000021, Ylaw3_1000021, L1000021, XLlaw3_1000021⟩, ⟨1000010, Ylaw3_1000010, L1000010, XLlaw3_1000010⟩]) 400 (blkIn a3.body 1000060) E (Tlaw3_1000060a i0 i1 i2 i3 i4 i5 i6 i7 i8) = Blaw3_1000060a F N E L1000060 L1000034 L1000021 L1000010 i0 i1 i2 i3 i4 i5 i6 i7 i8 := by kernel_rfl
theorem Rlaw3_1000060a_of  (i0 i1 i2 i3 i4 i5 i6 i7 i8 : Int) {r : Ext × S} (h : Blaw3_1000060a (Fn env) Rlaw3_1000060 exO Llaw3_1000060 Llaw3_1000034 Llaw3_1000021 Llaw3_1000010 i0 i1 i2 i3 i4 i5 i6 i7 i8 = some r) : Rlaw3_1000060 (Tlaw3_1000060a i0 i1 i2 i3 i4 i5 i6 i7 i8) = some r :=
  nd_of Elaw3_ok (by kernel_rfl) (lo_cons (lpO_ok Ulaw3) (lo_cons (lpO_ok Ulaw3) (lo_cons (lpO_ok Ulaw3) (lo_cons (lpO_ok Ulaw3) lo_nil)))) (by kernel_rfl) ((Blaw3_1000060a_eq _ Rlaw3_1000060 _ _ _ _ _ _ _ _ _ _ _ _ _ _).trans h)
def Blaw3_1000034a (F : FnT) (_N : QO) (E : EO) (_L1000060 : Q → Option Ylaw3_1000060) (_L1000034 : Q → Option Ylaw3_1000034) (_L1000021 : Q → Option Ylaw3_1000021) (_L1000010 : Q → Option Ylaw3_1000010) (i0 i1 i2 i3 i4 i5 i6 i7 i8 i9 i10 i11 i12 i13 i14 i15 i16 i17 i18 i19 : Int) : Option (Ext × S) :=
  bif (i1 != (0 : Int)) then
    E (Xlaw3_1000034a ())
  else bif (i15 != i13) then
    E (Xlaw3_1000034a ())
  else bif (i14 != (w64 ((0 : Int) - i12))) then
    E (Xlaw3_1000034a ())
  else bif (i2 != (0 : Int)) then
    E (Xlaw3_1000034a ())
  else bindO (F 11 (RSh.agg [(CK.int .i64), (CK.int .i64)]) [(PV.int .i64 (0 : Int))]) fun (y0 : ((Int) × (Int))) =>
  bif (!((i16 == y0.1) && ((i17 == y0.2) && true))) then
    E (Xlaw3_1000034a ())
  else bif (i3 != (0 : Int)) then
    E (Xlaw3_1000034a ())
  else bindO (F 11 (RSh.agg [(CK.int .i64), (CK.int .i64)]) [(PV.int .i64 (0 : Int))]) fun (y1 : ((Int) × (Int))) =>
  bif (!((i18 == y1.1) && ((i19 == y1.2) && true))) then
    E (Xlaw3_1000034a ())
  else E (Xlaw3_1000034b (i0, i4, i5, i6, i7, i8, i9, i10, i11, i12, i13))
theorem Blaw3_1000034a_eq (F : FnT) (N : QO) (E : EO) (L1000060 : Q → Option Ylaw3_1000060) (L1000034 : Q → Option Ylaw3_1000034) (L1000021 : Q → Option Ylaw3_1000021) (L1000010 : Q → Option Ylaw3_1000010) (i0 i1 i2 i3 i4 i5 i6 i7 i8 i9 i10 i11 i12 i13 i14 i15 i16 i17 i18 i19 : Int) : semN (callP F Elaw3 20) s3 (loopT [⟨1000060, Ylaw3_1000060, L1000060, XLlaw3_1000060⟩, ⟨1000034, Ylaw3_1000034, L1000034, XLlaw3_1000034⟩, ⟨1000021, Ylaw3_1000021, L1000021, XLlaw3_1000021⟩, ⟨1000010, Ylaw3_1000010, L1000010, XLlaw3_1000010⟩]) 400 (blkIn a3.body 1000034) E (Tlaw3_1000034a i0 i1 i2 i3 i4 i5 i6 i7 i8 i9 i10 i11 i12 i13 i14 i15 i16 i17 i18 i19) = Blaw3_1000034a F N E L1000060 L1000034 L1000021 L1000010 i0 i1 i2 i3 i4 i5 i6 i7 i8 i9 i10 i11 i12 i13 i14 i15 i16 i17 i18 i19 := by kernel_rfl
theorem Rlaw3_1000034a_of  (i0 i1 i2 i3 i4 i5 i6 i7 i8 i9 i10 i11 i12 i13 i14 i15 i16 i17 i18 i19 : Int) {r : Ext × S} (h : Blaw3_1000034a (Fn env) Rlaw3_1000034 exO Llaw3_1000060 Llaw3_1000034 Llaw3_1000021 Llaw3_1000010 i0 i1 i2 i3 i4 i5 i6 i7 i8 i9 i10 i11 i12 i13 i14 i15 i16 i17 i18 i19 = some r) : Rlaw3_1000034 (Tlaw3_1000034a i0 i1 i2 i3 i4 i5 i6 i7 i8 i9 i10 i11 i12 i13 i14 i15 i16 i17 i18 i19) = some r :=
  nd_of Elaw3_ok (by kernel_rfl) (lo_cons (lpO_ok Ulaw3) (lo_cons (lpO_ok Ulaw3) (lo_cons (lpO_ok Ulaw3) (lo_cons (lpO_ok Ulaw3) lo_nil)))) (by kernel_rfl) ((Blaw3_1000034a_eq _ Rlaw3_1000034 _ _ _ _ _ _ _ _ _ _ _ _ _ _ _ _ _ _ _ _ _ _ _ _ _).trans h)
def Blaw3_1000021a (_F : FnT) (_N : QO) (E : EO) (_L1000060 : Q → Option Ylaw3_1000060) (_L1000034 : Q → Option Ylaw3_1000034) (_L1000021 : Q → Option Ylaw3_1000021) (_L1000010 : Q → Option Ylaw3_1000010) (i0 i1 i2 i3 i4 i5 i6 i7 i8 i9 i10 i11 i12 i13 : Int) : Option (Ext × S) :=
  bif (i1 != (0 : Int)) then
    E (Xlaw3_1000021a ())
  else bif (i13 != i11) then
    E (Xlaw3_1000021a ())
  else bif (i12 != (w64 ((0 : Int) - i10))) then
    E (Xlaw3_1000021a ())
  else E (Xlaw3_1000021b (i0, i2, i3, i4, i5, i6, i7, i8, i9, i10, i11))
theorem Blaw3_1000021a_eq (F : FnT) (N : QO) (E : EO) (L1000060 : Q → Option Ylaw3_1000060) (L1000034 : Q → Option Ylaw3_1000034) (L1000021 : Q → Option Ylaw3_1000021) (L1000010 : Q → Option Ylaw3_1000010) (i0 i1 i2 i3 i4 i5 i6 i7 i8 i9 i10 i11 i12 i13 : Int) : semN (callP F Elaw3 20) s3 (loopT [⟨1000060, Ylaw3_1000060, L1000060, XLlaw3_1000060⟩, ⟨1000034, Ylaw3_1000034, L1000034, XLlaw3_1000034⟩, ⟨1000021, Ylaw3_1000021, L1000021, XLlaw3_1000021⟩, ⟨1000010, Ylaw3_1000010, L1000010, XLlaw3_1000010⟩]) 400 (blkIn a3.body 1000021) E (Tlaw3_1000021a i0 i1 i2 i3 i4 i5 i6 i7 i8 i9 i10 i11 i12 i13) = Blaw3_1000021a F N E L1000060 L1000034 L1000021 L1000010 i0 i1 i2 i3 i4 i5 i6 i7 i8 i9 i10 i11 i12 i13 := by kernel_rfl
theorem Rlaw3_1000021a_of  (i0 i1 i2 i3 i4 i5 i6 i7 i8 i9 i10 i11 i12 i13 : Int) {r : Ext × S} (h : Blaw3_1000021a (Fn env) Rlaw3_1000021 exO Llaw3_1000060 Llaw3_1000034 Llaw3_1000021 Llaw3_1000010 i0 i1 i2 i3 i4 i5 i6 i7 i8 i9 i10 i11 i12 i13 = some r) : Rlaw3_1000021 (Tlaw3_1000021a i0 i1 i2 i3 i4 i5 i6 i7 i8 i9 i10 i11 i12 i13) = some r :=
  nd_of Elaw3_ok (by kernel_rfl) (lo_cons (lpO_ok Ulaw3) (lo_cons (lpO_ok Ulaw3) (lo_cons (lpO_ok Ulaw3) (lo_cons (lpO_ok Ulaw3) lo_nil)))) (by kernel_rfl) ((Blaw3_1000021a_eq _ Rlaw3_1000021 _ _ _ _ _ _ _ _ _ _ _ _ _ _ _ _ _ _ _).trans h)
def Blaw3_1000010a (F : FnT) (_N : QO) (E : EO) (_L1000060 : Q → Option Ylaw3_1000060) (_L1000034 : Q → Option Ylaw3_1000034) (_L1000021 : Q → Option Ylaw3_1000021) (_L1000010 : Q → Option Ylaw3_1000010) (i0 i1 i2 i3 i4 i5 i6 i7 i8 i9 : Int) : Option (Ext × S) :=
  bindO (F 6 (RSh.one (CK.int .i64)) [(PV.agg [(PV.int .i64 i2), (PV.int .i64 i3), (PV.int .i64 i4)])]) fun (y0 : (Int)) =>
  bif (y0 != (0 : Int)) then
    E (Xlaw3_1000010a ())
  else bindO (F 7 (RSh.one (CK.int .i64)) [(PV.agg [(PV.int .i64 i5), (PV.int .i64 i6), (PV.int .i64 i7)])]) fun (y1 : (Int)) =>
  bif (y1 != (0 : Int)) then
    E (Xlaw3_1000010a ())
  else bindO (F 8 (RSh.one (CK.int .i64)) [(PV.agg [(PV.int .i64 i8), (PV.int .i64 i9)])]) fun (y2 : (Int)) =>
  bif (y2 != (0 : Int)) then
    E (Xlaw3_1000010a ())
  else E (Xlaw3_1000010b (i0, i1, i2, i3, i4, i5, i6, i7, i8, i9))
theorem Blaw3_1000010a_eq (F : FnT) (N : QO) (E : EO) (L1000060 : Q → Option Ylaw3_1000060) (L1000034 : Q → Option Ylaw3_1000034) (L1000021 : Q → Option Ylaw3_1000021) (L1000010 : Q → Option Ylaw3_1000010) (i0 i1 i2 i3 i4 i5 i6 i7 i8 i9 : Int) : semN (callP F Elaw3 20) s3 (loopT [⟨1000060, Ylaw3_1000060, L1000060, XLlaw3_1000060⟩, ⟨1000034, Ylaw3_1000034, L1000034, XLlaw3_1000034⟩, ⟨1000021, Ylaw3_1000021, L1000021, XLlaw3_1000021⟩, ⟨1000010, Ylaw3_1000010, L1000010, XLlaw3_1000010⟩]) 400 (blkIn a3.body 1000010) E (Tlaw3_1000010a i0 i1 i2 i3 i4 i5 i6 i7 i8 i9) = Blaw3_1000010a F N E L1000060 L1000034 L1000021 L1000010 i0 i1 i2 i3 i4 i5 i6 i7 i8 i9 := by kernel_rfl
theorem Rlaw3_1000010a_of  (i0 i1 i2 i3 i4 i5 i6 i7 i8 i9 : Int) {r : Ext × S} (h : Blaw3_1000010a (Fn env) Rlaw3_1000010 exO Llaw3_1000060 Llaw3_1000034 Llaw3_1000021 Llaw3_1000010 i0 i1 i2 i3 i4 i5 i6 i7 i8 i9 = some r) : Rlaw3_1000010 (Tlaw3_1000010a i0 i1 i2 i3 i4 i5 i6 i7 i8 i9) = some r :=
  nd_of Elaw3_ok (by kernel_rfl) (lo_cons (lpO_ok Ulaw3) (lo_cons (lpO_ok Ulaw3) (lo_cons (lpO_ok Ulaw3) (lo_cons (lpO_ok Ulaw3) lo_nil)))) (by kernel_rfl) ((Blaw3_1000010a_eq _ Rlaw3_1000010 _ _ _ _ _ _ _ _ _ _ _ _ _ _ _).trans h)
def tlaw3 (F : FnT) (L1000060 : Q → Option Ylaw3_1000060) (L1000034 : Q → Option Ylaw3_1000034) (L1000021 : Q → Option Ylaw3_1000021) (L1000010 : Q → Option Ylaw3_1000010) (p0_0 p0_1 p0_2 p0_3 p0_4 p1_0 p1_1 p1_2 p2 : Int) : Option (Bool) :=
  bindO (F 5 (RSh.one CK.bool) []) fun (y0 : (Bool)) =>
  bif y0 then
    bindO (L1000060 (Tlaw3_1000060a p2 p0_0 p0_1 p0_2 p0_3 p0_4 p1_0 p1_1 p1_2)) fun z =>
    Sum.elim (fun _y1 =>
      some true) (fun y2 =>
      bindO (F 10 (RSh.tup [(Prod.mk true [(CK.int .i64), (CK.int .i64)]), (Prod.mk false [(CK.int .i64)])]) [(PV.agg [(PV.int .i64 y2.2.1), (PV.int .i64 y2.2.2.1), (PV.int .i64 y2.2.2.2.1)]), (PV.agg [(PV.int .i64 y2.2.2.2.2.2.2.1), (PV.int .i64 y2.2.2.2.2.2.2.2.1), (PV.int .i64 y2.2.2.2.2.2.2.2.2)]), (PV.agg [(PV.int .i64 y2.2.2.2.2.1), (PV.int .i64 y2.2.2.2.2.2.1)])]) fun (y3 : ((Int) × ((Int) × (Int)))) =>
      bif (y3.2.2 != (0 : Int)) then
        bif (y3.2.2 == (8 : Int)) then
          some true
        else some false
      else bindO (F 10 (RSh.tup [(Prod.mk true [(CK.int .i64), (CK.int .i64)]), (Prod.mk false [(CK.int .i64)])]) [(PV.agg [(PV.int .i64 y2.2.1), (PV.int .i64 y2.2.2.1), (PV.int .i64 (w64 ((0 : Int) - y2.2.2.2.1)))]), (PV.agg [(PV.int .i64 y2.2.2.2.2.2.2.1), (PV.int .i64 y2.2.2.2.2.2.2.2.1), (PV.int .i64 y2.2.2.2.2.2.2.2.2)]), (PV.agg [(PV.int .i64 y2.2.2.2.2.1), (PV.int .i64 y2.2.2.2.2.2.1)])]) fun (y4 : ((Int) × ((Int) × (Int)))) =>
      bindO (F 10 (RSh.tup [(Prod.mk true [(CK.int .i64), (CK.int .i64)]), (Prod.mk false [(CK.int .i64)])]) [(PV.agg [(PV.int .i64 y2.2.1), (PV.int .i64 y2.2.2.1), (PV.int .i64 y2.2.2.2.1)]), (PV.agg [(PV.int .i64 y2.2.2.2.2.2.2.1), (PV.int .i64 y2.2.2.2.2.2.2.2.1), (PV.int .i64 y2.2.2.2.2.2.2.2.2)]), (PV.agg [(PV.int .i64 y2.2.1), (PV.int .i64 y2.2.2.1)])]) fun (y5 : ((Int) × ((Int) × (Int)))) =>
      bindO (F 10 (RSh.tup [(Prod.mk true [(CK.int .i64), (CK.int .i64)]), (Prod.mk false [(CK.int .i64)])]) [(PV.agg [(PV.int .i64 y2.2.1), (PV.int .i64 y2.2.2.1), (PV.int .i64 y2.2.2.2.1)]), (PV.agg [(PV.int .i64 y2.2.2.2.2.2.2.1), (PV.int .i64 y2.2.2.2.2.2.2.2.1), (PV.int .i64 y2.2.2.2.2.2.2.2.2)]), (PV.agg [(PV.int .i64 y2.2.2.2.2.2.2.1), (PV.int .i64 y2.2.2.2.2.2.2.2.1)])]) fun (y6 : ((Int) × ((Int) × (Int)))) =>
      bindO (L1000034 (Tlaw3_1000034a y2.1 y4.2.2 y5.2.2 y6.2.2 y2.2.1 y2.2.2.1 y2.2.2.2.1 y2.2.2.2.2.1 y2.2.2.2.2.2.1 y2.2.2.2.2.2.2.1 y2.2.2.2.2.2.2.2.1 y2.2.2.2.2.2.2.2.2 y3.1 y3.2.1 y4.1 y4.2.1 y5.1 y5.2.1 y6.1 y6.2.1)) fun z =>
      Sum.elim (fun _y7 =>
        some false) (fun y8 =>
        bindO (F 10 (RSh.tup [(Prod.mk true [(CK.int .i64), (CK.int .i64)]), (Prod.mk false [(CK.int .i64)])]) [(PV.agg [(PV.int .i64 (w64 ((0 : Int) - y8.2.1))), (PV.int .i64 y8.2.2.1), (PV.int .i64 y8.2.2.2.1)]), (PV.agg [(PV.int .i64 (w64 ((0 : Int) - y8.2.2.2.2.2.2.1))), (PV.int .i64 y8.2.2.2.2.2.2.2.1), (PV.int .i64 y8.2.2.2.2.2.2.2.2.1)]), (PV.agg [(PV.int .i64 (w64 ((0 : Int) - y8.2.2.2.2.1))), (PV.int .i64 y8.2.2.2.2.2.1)])]) fun (y9 : ((Int) × ((Int) × (Int)))) =>
        bindO (L1000021 (Tlaw3_1000021a y8.1 y9.2.2 y8.2.1 y8.2.2.1 y8.2.2.2.1 y8.2.2.2.2.1 y8.2.2.2.2.2.1 y8.2.2.2.2.2.2.1 y8.2.2.2.2.2.2.2.1 y8.2.2.2.2.2.2.2.2.1 y8.2.2.2.2.2.2.2.2.2.1 y8.2.2.2.2.2.2.2.2.2.2 y9.1 y9.2.1)) fun z =>
        Sum.elim (fun _y10 =>
          some false) (fun y11 =>
          bindO (L1000010 (Tlaw3_1000010a y11.2.2.2.2.2.2.2.2.2.1 y11.2.2.2.2.2.2.2.2.2.2 (w64 (y11.2.1 + y11.1)) y11.2.2.1 y11.2.2.2.1 (w64 (y11.2.2.2.2.2.2.1 + y11.1)) y11.2.2.2.2.2.2.2.1 y11.2.2.2.2.2.2.2.2.1 (w64 (y11.2.2.2.2.1 + y11.1)) y11.2.2.2.2.2.1)) fun z =>
          Sum.elim (fun _y12 =>
            some true) (fun y13 =>
            bindO (F 10 (RSh.tup [(Prod.mk true [(CK.int .i64), (CK.int .i64)]), (Prod.mk false [(CK.int .i64)])]) [(PV.agg [(PV.int .i64 y13.2.2.1), (PV.int .i64 y13.2.2.2.1), (PV.int .i64 y13.2.2.2.2.1)]), (PV.agg [(PV.int .i64 y13.2.2.2.2.2.1), (PV.int .i64 y13.2.2.2.2.2.2.1), (PV.int .i64 y13.2.2.2.2.2.2.2.1)]), (PV.agg [(PV.int .i64 y13.2.2.2.2.2.2.2.2.1), (PV.int .i64 y13.2.2.2.2.2.2.2.2.2)])]) fun (y14 : ((Int) × ((Int) × (Int)))) =>
            bif (y14.2.2 == (0 : Int)) then
              bif ((y14.1 == y13.1) && ((y14.2.1 == y13.2.1) && true)) then
                some true
              else some false
            else some false) z) z) z) z
  else some false
theorem tlaw3_eq (F : FnT) (L1000060 : Q → Option Ylaw3_1000060) (L1000034 : Q → Option Ylaw3_1000034) (L1000021 : Q → Option Ylaw3_1000021) (L1000010 : Q → Option Ylaw3_1000010) (p0_0 p0_1 p0_2 p0_3 p0_4 p1_0 p1_1 p1_2 p2 : Int) : semF (callP F Elaw3 20) s3 (loopT [⟨1000060, Ylaw3_1000060, L1000060, XLlaw3_1000060⟩, ⟨1000034, Ylaw3_1000034, L1000034, XLlaw3_1000034⟩, ⟨1000021, Ylaw3_1000021, L1000021, XLlaw3_1000021⟩, ⟨1000010, Ylaw3_1000010, L1000010, XLlaw3_1000010⟩]) 400 a3 [PV.agg [PV.int .i64 p0_0, PV.int .i64 p0_1, PV.int .i64 p0_2, PV.int .i64 p0_3, PV.int .i64 p0_4], PV.agg [PV.int .i64 p1_0, PV.int .i64 p1_1, PV.int .i64 p1_2], PV.int .i64 p2] (fun rv => decR (RSh.one CK.bool) rv.pv) = tlaw3 F L1000060 L1000034 L1000021 L1000010 p0_0 p0_1 p0_2 p0_3 p0_4 p1_0 p1_1 p1_2 p2 := by kernel_rfl
noncomputable abbrev Flaw3 (args : List PV) := Fn env 3 (RSh.one CK.bool) args
theorem Flaw3_of  (p0_0 p0_1 p0_2 p0_3 p0_4 p1_0 p1_1 p1_2 p2 : Int) {res : (Bool)} (h : tlaw3 (Fn env) Llaw3_1000060 Llaw3_1000034 Llaw3_1000021 Llaw3_1000010 p0_0 p0_1 p0_2 p0_3 p0_4 p1_0 p1_1 p1_2 p2 = some res) : Flaw3 [PV.agg [PV.int .i64 p0_0, PV.int .i64 p0_1, PV.int .i64 p0_2, PV.int .i64 p0_3, PV.int .i64 p0_4], PV.agg [PV.int .i64 p1_0, PV.int .i64 p1_1, PV.int .i64 p1_2], PV.int .i64 p2] = some res :=
  fn_of Elaw3_ok rfl rfl (lo_cons (lpO_ok Ulaw3) (lo_cons (lpO_ok Ulaw3) (lo_cons (lpO_ok Ulaw3) (lo_cons (lpO_ok Ulaw3) lo_nil)))) ((tlaw3_eq _ _ _ _ _ _ _ _ _ _ _ _ _ _).trans h)
end Gv
