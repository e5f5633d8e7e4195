/- What the functions do, round by round: P10. -/
import Derived.Test.YtggnifebabjoiaaGvEnv
namespace Gv
open Go
set_option maxRecDepth 100000
set_option maxHeartbeats 4000000
def Elaw10 : List Entry := [.inl 55 a55 s55, .out 13 (RSh.one CK.bool), .out 53 (RSh.one CK.bool), .out 48 (RSh.one (CK.int .i64)), .out 63 (RSh.one (CK.int .i64)), .out 29 (RSh.one CK.bool), .out 56 (RSh.tup [(Prod.mk true [CK.bool, (CK.int .i64), (CK.int .i64), (CK.int .i64), (CK.int .i64)]), (Prod.mk false [(CK.int .i64)])]), .out 18 (RSh.one (CK.int .i64)), .out 57 (RSh.tup [(Prod.mk false [CK.list]), (Prod.mk false [(CK.int .i64)])])]
theorem Elaw10_ok : ∀ e ∈ Elaw10, EntOK env e := (ent_inl rfl (ent_out (ent_out (ent_out (ent_out (ent_out (ent_out (ent_out (ent_out ent_nil)))))))))
def Tlaw10_0a (n0 : Nat) (c1 : List PV) (i2 : Int) (n3 : Nat) (i4 : Int) (i5 : Int) (i6 : Int) (i7 : Int) (i8 : Int) (n9 : Nat) (c10 : List PV) : Q := ⟨(tm 233 [(1, (AV.p (PV.list n0 c1))), (3, (AV.loc 3 0)), (7, (AV.p (PV.int .i64 i2))), (18, (AV.vap 158 n3 3)), (19, (AV.p (PV.int .i64 i4)))]), (mm 233 [(3, (Bk.pcs true [(PV.int .i64 i5), (PV.int .i64 i6), (PV.int .i64 i7), (PV.int .i64 i8)])), (158, (Bk.vec true n9 3 c10))])⟩
def Xlaw10_0a (y : Nat × List PV × Int × Nat × Int × Int × Int × Int × Nat × List PV) : Ext × Q := (Ext.normal, ⟨(tm 233 [(1, (AV.p (PV.list y.1 y.2.1))), (3, (AV.loc 3 0)), (7, (AV.p (PV.int .i64 y.2.2.1))), (18, (AV.vap 158 y.2.2.2.1 3))]), (mm 233 [(3, (Bk.pcs true [(PV.int .i64 y.2.2.2.2.1), (PV.int .i64 y.2.2.2.2.2.1), (PV.int .i64 y.2.2.2.2.2.2.1), (PV.int .i64 y.2.2.2.2.2.2.2.1)])), (158, (Bk.vec true y.2.2.2.2.2.2.2.2.1 3 y.2.2.2.2.2.2.2.2.2))])⟩)
def Ilaw10_0a (q : Ext × S) : Nat × List PV × Int × Nat × Int × Int × Int × Int × Nat × List PV := ((pP_list0 (pA_p (avT q.2 1))), (pP_list1 (pA_p (avT q.2 1))), (pP_int1 (pA_p (avT q.2 7))), (pA_vap1 (avT q.2 18)), (pP_int1 (hdP (pB_pcs1 (avM q.2 3)))), (pP_int1 (hdP (List.tail (pB_pcs1 (avM q.2 3))))), (pP_int1 (hdP (List.tail (List.tail (pB_pcs1 (avM q.2 3)))))), (pP_int1 (hdP (List.tail (List.tail (List.tail (pB_pcs1 (avM q.2 3))))))), (pB_vec1 (avM q.2 158)), (pB_vec3 (avM q.2 158)))
abbrev Ylaw10_0 : Type := Nat × List PV × Int × Nat × Int × Int × Int × Int × Nat × List PV
def XLlaw10_0 : XL Ylaw10_0 := .one Xlaw10_0a
def Ilaw10_0 (q : Ext × S) : Ylaw10_0 := (Ilaw10_0a q)
theorem XIlaw10_0a (y : Nat × List PV × Int × Nat × Int × Int × Int × Int × Nat × List PV) : Ilaw10_0 (xe (Xlaw10_0a y)) = y := rfl
theorem XIlaw10_0 (y : Ylaw10_0) : Ilaw10_0 (xe (XLlaw10_0.fn y)) = y := XIlaw10_0a y
noncomputable abbrev Llaw10_0 : Q → Option Ylaw10_0 := lpO env a10.body 0 XLlaw10_0
noncomputable abbrev Rlaw10_0 : Q → Option (Ext × S) := lpR env a10.body 0
theorem Llaw10_0a_of {s : Q} {y : Nat × List PV × Int × Nat × Int × Int × Int × Int × Nat × List PV} (h : Rlaw10_0 s = exO (Xlaw10_0a y)) : Llaw10_0 s = some y := lpO_of Ilaw10_0 XIlaw10_0 (y := y) h
def Tlaw10_2a (i0 : Int) (n1 : Nat) (c2 : List PV) (n3 : Nat) (c4 : List PV) (i5 : Int) : Q := ⟨(tm 233 [(7, (AV.p (PV.int .i64 i0))), (20, (AV.p (PV.list n1 c2))), (22, (AV.p (PV.list n3 c4))), (24, (AV.p (PV.int .i64 i5)))]), (mm 233 [])⟩
def Xlaw10_2a (_y : Unit) : Ext × Q := (Ext.ret, ⟨(tm 233 [(6, (AV.p (PV.bool false)))]), (mm 233 [])⟩)
def Ilaw10_2a (_q : Ext × S) : Unit := ()
def Xlaw10_2b (_y : Unit) : Ext × Q := (Ext.normal, ⟨(tm 233 []), (mm 233 [])⟩)
def Ilaw10_2b (_q : Ext × S) : Unit := ()
abbrev Ylaw10_2 : Type := (Unit) ⊕ ((Unit))
def XLlaw10_2 : XL Ylaw10_2 := .more Xlaw10_2a (.one Xlaw10_2b)
def Ilaw10_2 (q : Ext × S) : Ylaw10_2 := bif (cE q.1 == 2) then (Sum.inl (Ilaw10_2a q)) else (Sum.inr (Ilaw10_2b q))
theorem XIlaw10_2a (y : Unit) : Ilaw10_2 (xe (Xlaw10_2a y)) = (Sum.inl y) := rfl
theorem XIlaw10_2b (y : Unit) : Ilaw10_2 (xe (Xlaw10_2b y)) = (Sum.inr y) := rfl
theorem XIlaw10_2 (y : Ylaw10_2) : Ilaw10_2 (xe (XLlaw10_2.fn y)) = y := (match y with | .inl y => XIlaw10_2a y | .inr y => XIlaw10_2b y)
noncomputable abbrev Llaw10_2 : Q → Option Ylaw10_2 := lpO env a10.body 2 XLlaw10_2
noncomputable abbrev Rlaw10_2 : Q → Option (Ext × S) := lpR env a10.body 2
def Tlaw10_1000069a (n0 : Nat) (c1 : List PV) (i2 : Int) (i3 : Int) (i4 : Int) (i5 : Int) (i6 : Int) (i7 : Int) : Q := ⟨(tm 233 [(1, (AV.p (PV.list n0 c1))), (3, (AV.loc 3 0)), (7, (AV.p (PV.int .i64 i2))), (8, (AV.p (PV.int .i64 i3)))]), (mm 233 [(3, (Bk.pcs true [(PV.int .i64 i4), (PV.int .i64 i5), (PV.int .i64 i6), (PV.int .i64 i7)]))])⟩
def Xlaw10_1000069a (_y : Unit) : Ext × Q := (Ext.ret, ⟨(tm 233 [(6, (AV.p (PV.bool true)))]), (mm 233 [])⟩)
def Ilaw10_1000069a (_q : Ext × S) : Unit := ()
def Xlaw10_1000069b (y : Nat × List PV × Int × Int × Int × Int × Int × Int) : Ext × Q := (Ext.normal, ⟨(tm 233 [(1, (AV.p (PV.list y.1 y.2.1))), (3, (AV.loc 3 0)), (7, (AV.p (PV.int .i64 y.2.2.1))), (8, (AV.p (PV.int .i64 y.2.2.2.1)))]), (mm 233 [(3, (Bk.pcs true [(PV.int .i64 y.2.2.2.2.1), (PV.int .i64 y.2.2.2.2.2.1), (PV.int .i64 y.2.2.2.2.2.2.1), (PV.int .i64 y.2.2.2.2.2.2.2)]))])⟩)
def Ilaw10_1000069b (q : Ext × S) : Nat × List PV × Int × Int × Int × Int × Int × Int := ((pP_list0 (pA_p (avT q.2 1))), (pP_list1 (pA_p (avT q.2 1))), (pP_int1 (pA_p (avT q.2 7))), (pP_int1 (pA_p (avT q.2 8))), (pP_int1 (hdP (pB_pcs1 (avM q.2 3)))), (pP_int1 (hdP (List.tail (pB_pcs1 (avM q.2 3))))), (pP_int1 (hdP (List.tail (List.tail (pB_pcs1 (avM q.2 3)))))), (pP_int1 (hdP (List.tail (List.tail (List.tail (pB_pcs1 (avM q.2 3))))))))
abbrev Ylaw10_1000069 : Type := (Unit) ⊕ ((Nat × List PV × Int × Int × Int × Int × Int × Int))
def XLlaw10_1000069 : XL Ylaw10_1000069 := .more Xlaw10_1000069a (.one Xlaw10_1000069b)
def Ilaw10_1000069 (q : Ext × S) : Ylaw10_1000069 := bif (cE q.1 == 2) then (Sum.inl (Ilaw10_1000069a q)) else (Sum.inr (Ilaw10_1000069b q))
theorem XIlaw10_1000069a (y : Unit) : Ilaw10_1000069 (xe (Xlaw10_1000069a y)) = (Sum.inl y) := rfl
theorem XIlaw10_1000069b (y : Nat × List PV × Int × Int × Int × Int × Int × Int) : Ilaw10_1000069 (xe (Xlaw10_1000069b y)) = (Sum.inr y) := rfl
theorem XIlaw10_1000069 (y : Ylaw10_1000069) : Ilaw10_1000069 (xe (XLlaw10_1000069.fn y)) = y := (match y with | .inl y => XIlaw10_1000069a y | .inr y => XIlaw10_1000069b y)
noncomputable abbrev Llaw10_1000069 : Q → Option Ylaw10_1000069 := lpO env a10.body 1000069 XLlaw10_1000069
noncomputable abbrev Rlaw10_1000069 : Q → Option (Ext × S) := lpR env a10.body 1000069
theorem Llaw10_1000069a_of {s : Q} {y : Unit} (h : Rlaw10_1000069 s = exO (Xlaw10_1000069a y)) : Llaw10_1000069 s = some (Sum.inl y) := lpO_of Ilaw10_1000069 XIlaw10_1000069 (y := (Sum.inl y)) h
theorem Llaw10_1000069b_of {s : Q} {y : Nat × List PV × Int × Int × Int × Int × Int × Int} (h : Rlaw10_1000069 s = exO (Xlaw10_1000069b y)) : Llaw10_1000069 s = some (Sum.inr y) := lpO_of Ilaw10_1000069 XIlaw10_1000069 (y := (Sum.inr y)) h
def Tlaw10_1000052a (n0 : Nat) (c1 : List PV) (i2 : Int) (i3 : Int) (i4 : Int) (i5 : Int) (i6 : Int) (i7 : Int) (i8 : Int) (i9 : Int) (i10 : Int) (i11 : Int) (b12 : Bool) (i13 : Int) (i14 : Int) (i15 : Int) (i16 : Int) (b17 : Bool) (i18 : Int) (i19 : Int) (i20 : Int) (i21 : Int) (b22 : Bool) (i23 : Int) (i24 : Int) (i25 : Int) (i26 : Int) (b27 : Bool) (i28 : Int) (i29 : Int) (i30 : Int) (i31 : Int) : Q := ⟨(tm 233 [(1, (AV.p (PV.list n0 c1))), (3, (AV.loc 3 0)), (7, (AV.p (PV.int .i64 i2))), (9, (AV.p (PV.int .i64 i3))), (10, (AV.loc 10 0)), (11, (AV.p (PV.int .i64 i4))), (12, (AV.loc 12 0)), (13, (AV.p (PV.int .i64 i5))), (14, (AV.loc 14 0)), (15, (AV.p (PV.int .i64 i6))), (16, (AV.loc 16 0)), (17, (AV.p (PV.int .i64 i7)))]), (mm 233 [(3, (Bk.pcs true [(PV.int .i64 i8), (PV.int .i64 i9), (PV.int .i64 i10), (PV.int .i64 i11)])), (10, (Bk.pcs true [(PV.bool b12), (PV.int .i64 i13), (PV.int .i64 i14), (PV.int .i64 i15), (PV.int .i64 i16)])), (12, (Bk.pcs true [(PV.bool b17), (PV.int .i64 i18), (PV.int .i64 i19), (PV.int .i64 i20), (PV.int .i64 i21)])), (14, (Bk.pcs true [(PV.bool b22), (PV.int .i64 i23), (PV.int .i64 i24), (PV.int .i64 i25), (PV.int .i64 i26)])), (16, (Bk.pcs true [(PV.bool b27), (PV.int .i64 i28), (PV.int .i64 i29), (PV.int .i64 i30), (PV.int .i64 i31)]))])⟩
def Xlaw10_1000052a (_y : Unit) : Ext × Q := (Ext.ret, ⟨(tm 233 [(6, (AV.p (PV.bool false)))]), (mm 233 [])⟩)
def Ilaw10_1000052a (_q : Ext × S) : Unit := ()
def Xlaw10_1000052b (y : Nat × List PV × Int × Int × Int × Int × Int) : Ext × Q := (Ext.normal, ⟨(tm 233 [(1, (AV.p (PV.list y.1 y.2.1))), (3, (AV.loc 3 0)), (7, (AV.p (PV.int .i64 y.2.2.1)))]), (mm 233 [(3, (Bk.pcs true [(PV.int .i64 y.2.2.2.1), (PV.int .i64 y.2.2.2.2.1), (PV.int .i64 y.2.2.2.2.2.1), (PV.int .i64 y.2.2.2.2.2.2)]))])⟩)
def Ilaw10_1000052b (q : Ext × S) : Nat × List PV × Int × Int × Int × Int × Int := ((pP_list0 (pA_p (avT q.2 1))), (pP_list1 (pA_p (avT q.2 1))), (pP_int1 (pA_p (avT q.2 7))), (pP_int1 (hdP (pB_pcs1 (avM q.2 3)))), (pP_int1 (hdP (List.tail (pB_pcs1 (avM q.2 3))))), (pP_int1 (hdP (List.tail (List.tail (pB_pcs1 (avM q.2 3)))))), (pP_int1 (hdP (List.tail (List.tail (List.tail (pB_pcs1 (avM q.2 3))))))))
abbrev Ylaw10_1000052 : Type := (Unit) ⊕ ((Nat × List PV × Int × Int × Int × Int × Int))
def XLlaw10_1000052 : XL Ylaw10_1000052 := .more Xlaw10_1000052a (.one Xlaw10_1000052b)
def Ilaw10_1000052 (q : Ext × S) : Ylaw10_1000052 := bif (cE q.1 == 2) then (Sum.inl (Ilaw10_1000052a q)) else (Sum.inr (Ilaw10_1000052b q))
theorem XIlaw10_1000052a (y : Unit) : Ilaw10_1000052 (xe (Xlaw10_1000052a y)) = (Sum.inl y) := rfl
theorem XIlaw10_1000052b (y : Nat × List PV × Int × Int × Int × Int × Int) : Ilaw10_1000052 (xe (Xlaw10_1000052b y)) = (Sum.inr y) := rfl
theorem XIlaw10_1000052 (y : Ylaw10_1000052) : Ilaw10_1000052 (xe (XLlaw10_1000052.fn y)) = y := (match y with | .inl y => XIlaw10_1000052a y | .inr y => XIlaw10_1000052b y)
noncomputable abbrev Llaw10_1000052 : Q → Option Ylaw10_1000052 := lpO env a10.body 1000052 XLlaw10_1000052
noncomputable abbrev Rlaw10_1000052 : Q → Option (Ext × S) := lpR env a10.body 1000052
theorem Llaw10_1000052b_of {s : Q} {y : Nat × List PV × Int × Int × Int × Int × Int} (h : Rlaw10_1000052 s = exO (Xlaw10_1000052b y)) : Llaw10_1000052 s = some (Sum.inr y) := lpO_of Ilaw10_1000052 XIlaw10_1000052 (y := (Sum.inr y)) h
def Tlaw10_1000026a (i0 : Int) (n1 : Nat) (c2 : List PV) (i3 : Int) (n4 : Nat) (c5 : List PV) (i6 : Int) : Q := ⟨(tm 233 [(7, (AV.p (PV.int .i64 i0))), (20, (AV.p (PV.list n1 c2))), (21, (AV.p (PV.int .i64 i3))), (22, (AV.p (PV.list n4 c5))), (23, (AV.p (PV.int .i64 i6)))]), (mm 233 [])⟩
def Xlaw10_1000026a (_y : Unit) : Ext × Q := (Ext.ret, ⟨(tm 233 [(6, (AV.p (PV.bool false)))]), (mm 233 [])⟩)
def Ilaw10_1000026a (_q : Ext × S) : Unit := ()
def Xlaw10_1000026b (y : Int × Nat × List PV × Nat × List PV) : Ext × Q := (Ext.normal, ⟨(tm 233 [(7, (AV.p (PV.int .i64 y.1))), (20, (AV.p (PV.list y.2.1 y.2.2.1))), (22, (AV.p (PV.list y.2.2.2.1 y.2.2.2.2)))]), (mm 233 [])⟩)
def Ilaw10_1000026b (q : Ext × S) : Int × Nat × List PV × Nat × List PV := ((pP_int1 (pA_p (avT q.2 7))), (pP_list0 (pA_p (avT q.2 20))), (pP_list1 (pA_p (avT q.2 20))), (pP_list0 (pA_p (avT q.2 22))), (pP_list1 (pA_p (avT q.2 22))))
abbrev Ylaw10_1000026 : Type := (Unit) ⊕ ((Int × Nat × List PV × Nat × List PV))
def XLlaw10_1000026 : XL Ylaw10_1000026 := .more Xlaw10_1000026a (.one Xlaw10_1000026b)
def Ilaw10_1000026 (q : Ext × S) : Ylaw10_1000026 := bif (cE q.1 == 2) then (Sum.inl (Ilaw10_1000026a q)) else (Sum.inr (Ilaw10_1000026b q))
theorem XIlaw10_1000026a (y : Unit) : Ilaw10_1000026 (xe (Xlaw10_1000026a y)) = (Sum.inl y) := rfl
theorem XIlaw10_1000026b (y : Int × Nat × List PV × Nat × List PV) : Ilaw10_1000026 (xe (Xlaw10_1000026b y)) = (Sum.inr y) := rfl
theorem XIlaw10_1000026 (y : Ylaw10_1000026) : Ilaw10_1000026 (xe (XLlaw10_1000026.fn y)) = y := (match y with | .inl y => XIlaw10_1000026a y | .inr y => XIlaw10_1000026b y)
noncomputable abbrev Llaw10_1000026 : Q → Option Ylaw10_1000026 := lpO env a10.body 1000026 XLlaw10_1000026
noncomputable abbrev Rlaw10_1000026 : Q → Option (Ext × S) := lpR env a10.body 1000026
theorem Llaw10_1000026b_of {s : Q} {y : Int × Nat × List PV × Nat × List PV} (h : Rlaw10_1000026 s = exO (Xlaw10_1000026b y)) : Llaw10_1000026 s = some (Sum.inr y) := lpO_of Ilaw10_1000026 XIlaw10_1000026 (y := (Sum.inr y)) h
theorem Ulaw10 : uniq ((blocksOf a10.body).map (·.1)) = true := by kernel_rfl
def Blaw10_0a (_F : FnT) (N : QO) (E : EO) (_L0 : Q → Option Ylaw10_0) (_L2 : Q → Option Ylaw10_2) (_L1000069 : Q → Option Ylaw10_1000069) (_L1000052 : Q → Option Ylaw10_1000052) (_L1000026 : Q → Option Ylaw10_1000026) (n0 : Nat) (c1 : List PV) (i2 : Int) (n3 : Nat) (i4 : Int) (i5 : Int) (i6 : Int) (i7 : Int) (i8 : Int) (n9 : Nat) (c10 : List PV) : Option (Ext × S) :=
  bif (decide (i4 < (n3 : Int))) then
    bif (decide (((0 : Int) ≤ i4) ∧ (i4 < (n3 : Int)))) then
      bif (decide (n9 = n3)) then
        bindO (intC .i64 (c10[(((Int.toNat i4) * 3) + 0)]?)) fun x0 =>
        bif (decide (((0 : Int) ≤ i4) ∧ (i4 < (n3 : Int)))) then
          bif (decide (n9 = n3)) then
            bindO (Gv.overO c10 (((Int.toNat i4) * 3) + 0) [(PV.int .i64 (w64 (x0 + i2)))]) fun x1 =>
            N (Tlaw10_0a n0 c1 i2 n3 (w64 (i4 + (1 : Int))) i5 i6 i7 i8 n3 x1)
          else none
        else none
      else none
    else none
  else E (Xlaw10_0a (n0, c1, i2, n3, i5, i6, i7, i8, n9, c10))
theorem Blaw10_0a_eq (F : FnT) (N : QO) (E : EO) (L0 : Q → Option Ylaw10_0) (L2 : Q → Option Ylaw10_2) (L1000069 : Q → Option Ylaw10_1000069) (L1000052 : Q → Option Ylaw10_1000052) (L1000026 : Q → Option Ylaw10_1000026) (n0 : Nat) (c1 : List PV) (i2 : Int) (n3 : Nat) (i4 : Int) (i5 : Int) (i6 : Int) (i7 : Int) (i8 : Int) (n9 : Nat) (c10 : List PV) : semB (callP F Elaw10 20) s10 (loopT [⟨0, Ylaw10_0, L0, XLlaw10_0⟩, ⟨2, Ylaw10_2, L2, XLlaw10_2⟩, ⟨1000069, Ylaw10_1000069, L1000069, XLlaw10_1000069⟩, ⟨1000052, Ylaw10_1000052, L1000052, XLlaw10_1000052⟩, ⟨1000026, Ylaw10_1000026, L1000026, XLlaw10_1000026⟩]) 400 (blkIn a10.body 0) N E (Tlaw10_0a n0 c1 i2 n3 i4 i5 i6 i7 i8 n9 c10) = Blaw10_0a F N E L0 L2 L1000069 L1000052 L1000026 n0 c1 i2 n3 i4 i5 i6 i7 i8 n9 c10 := by kernel_rfl
theorem Rlaw10_0a_of  (n0 : Nat) (c1 : List PV) (i2 : Int) (n3 : Nat) (i4 : Int) (i5 : Int) (i6 : Int) (i7 : Int) (i8 : Int) (n9 : Nat) (c10 : List PV) {r : Ext × S} (h : Blaw10_0a (Fn env) Rlaw10_0 exO Llaw10_0 Llaw10_2 Llaw10_1000069 Llaw10_1000052 Llaw10_1000026 n0 c1 i2 n3 i4 i5 i6 i7 i8 n9 c10 = some r) : Rlaw10_0 (Tlaw10_0a n0 c1 i2 n3 i4 i5 i6 i7 i8 n9 c10) = some r :=
  lp_of Elaw10_ok (by kernel_rfl) (lo_cons (lpO_ok Ulaw10) (lo_cons (lpO_ok Ulaw10) (lo_cons (lpO_ok Ulaw10) (lo_cons (lpO_ok Ulaw10) (lo_cons (lpO_ok Ulaw10) lo_nil))))) (by kernel_rfl) ((Blaw10_0a_eq _ _ _ _ _ _ _ _ _ _ _ _ _ _ _ _ _ _ _).trans h)
def Blaw10_2a (_F : FnT) (N : QO) (E : EO) (_L0 : Q → Option Ylaw10_0) (_L2 : Q → Option Ylaw10_2) (_L1000069 : Q → Option Ylaw10_1000069) (_L1000052 : Q → Option Ylaw10_1000052) (_L1000026 : Q → Option Ylaw10_1000026) (i0 : Int) (n1 : Nat) (c2 : List PV) (n3 : Nat) (c4 : List PV) (i5 : Int) : Option (Ext × S) :=
  bif (decide (i5 < (n1 : Int))) then
    bif (decide (((0 : Int) ≤ i5) ∧ (i5 < (n3 : Int)))) then
      bindO (intC .i64 (c4[((Int.toNat i5) * 3)]?)) fun x0 =>
      bindO (intC .i64 (c4[(((Int.toNat i5) * 3) + 1)]?)) fun x1 =>
      bindO (intC .i64 (c4[((((Int.toNat i5) * 3) + 1) + 1)]?)) fun x2 =>
      bif (decide (((0 : Int) ≤ i5) ∧ (i5 < (n1 : Int)))) then
        bindO (intC .i64 (c2[(((Int.toNat i5) * 3) + 0)]?)) fun x3 =>
        bif (decide (((0 : Int) ≤ i5) ∧ (i5 < (n1 : Int)))) then
          bindO (intC .i64 (c2[(((Int.toNat i5) * 3) + 1)]?)) fun x4 =>
          bif (decide (((0 : Int) ≤ i5) ∧ (i5 < (n1 : Int)))) then
            bindO (intC .i64 (c2[(((Int.toNat i5) * 3) + 2)]?)) fun x5 =>
            bif (!((x0 == x3) && ((x1 == (w64 (x4 + i0))) && ((x2 == (w64 (x5 + i0))) && true)))) then
              E (Xlaw10_2a ())
            else N (Tlaw10_2a i0 n1 c2 n3 c4 (w64 (i5 + (1 : Int))))
          else none
        else none
      else none
    else none
  else E (Xlaw10_2b ())
theorem Blaw10_2a_eq (F : FnT) (N : QO) (E : EO) (L0 : Q → Option Ylaw10_0) (L2 : Q → Option Ylaw10_2) (L1000069 : Q → Option Ylaw10_1000069) (L1000052 : Q → Option Ylaw10_1000052) (L1000026 : Q → Option Ylaw10_1000026) (i0 : Int) (n1 : Nat) (c2 : List PV) (n3 : Nat) (c4 : List PV) (i5 : Int) : semB (callP F Elaw10 20) s10 (loopT [⟨0, Ylaw10_0, L0, XLlaw10_0⟩, ⟨2, Ylaw10_2, L2, XLlaw10_2⟩, ⟨1000069, Ylaw10_1000069, L1000069, XLlaw10_1000069⟩, ⟨1000052, Ylaw10_1000052, L1000052, XLlaw10_1000052⟩, ⟨1000026, Ylaw10_1000026, L1000026, XLlaw10_1000026⟩]) 400 (blkIn a10.body 2) N E (Tlaw10_2a i0 n1 c2 n3 c4 i5) = Blaw10_2a F N E L0 L2 L1000069 L1000052 L1000026 i0 n1 c2 n3 c4 i5 := by kernel_rfl
theorem Rlaw10_2a_of  (i0 : Int) (n1 : Nat) (c2 : List PV) (n3 : Nat) (c4 : List PV) (i5 : Int) {r : Ext × S} (h : Blaw10_2a (Fn env) Rlaw10_2 exO Llaw10_0 Llaw10_2 Llaw10_1000069 Llaw10_1000052 Llaw10_1000026 i0 n1 c2 n3 c4 i5 = some r) : Rlaw10_2 (Tlaw10_2a i0 n1 c2 n3 c4 i5) = some r :=
  lp_of Elaw10_ok (by kernel_rfl) (lo_cons (lpO_ok Ulaw10) (lo_cons (lpO_ok Ulaw10) (lo_cons (lpO_ok Ulaw10) (lo_cons (lpO_ok Ulaw10) (lo_cons (lpO_ok Ulaw10) lo_nil))))) (by kernel_rfl) ((Blaw10_2a_eq _ _ _ _ _ _ _ _ _ _ _ _ _ _).trans h)
def Blaw10_1000069a (F : FnT) (_N : QO) (E : EO) (_L0 : Q → Option Ylaw10_0) (_L2 : Q → Option Ylaw10_2) (_L1000069 : Q → Option Ylaw10_1000069) (_L1000052 : Q → Option Ylaw10_1000052) (_L1000026 : Q → Option Ylaw10_1000026) (n0 : Nat) (c1 : List PV) (i2 : Int) (i3 : Int) (i4 : Int) (i5 : Int) (i6 : Int) (i7 : Int) : Option (Ext × S) :=
  bindO (F 53 (RSh.one CK.bool) [(PV.list n0 c1)]) fun (y0 : (Bool)) =>
  bif y0 then
    bif ((n0 : Int) == (0 : Int)) then
      E (Xlaw10_1000069a ())
    else bindO (F 48 (RSh.one (CK.int .i64)) [(PV.agg [(PV.int .i64 i4), (PV.int .i64 i5), (PV.int .i64 i6), (PV.int .i64 i7)])]) fun (y1 : (Int)) =>
    bif (y1 != (0 : Int)) then
      E (Xlaw10_1000069a ())
    else bindO (F 63 (RSh.one (CK.int .i64)) [(PV.list n0 c1)]) fun (y2 : (Int)) =>
    bif (y2 != (0 : Int)) then
      E (Xlaw10_1000069a ())
    else bif (decide (((0 : Int) ≤ (w64 ((n0 : Int) - (1 : Int)))) ∧ ((w64 ((n0 : Int) - (1 : Int))) < (n0 : Int)))) then
      bindO (intC .i64 (c1[(((Int.toNat (w64 ((n0 : Int) - (1 : Int)))) * 3) + 0)]?)) fun x3 =>
      bif (decide (x3 > (1000000000 : Int))) then
        E (Xlaw10_1000069a ())
      else bindO (F 29 (RSh.one CK.bool) [(PV.int .i64 i2), (PV.int .i64 (0 : Int)), (PV.int .i64 (1000000 : Int))]) fun (y4 : (Bool)) =>
      bif y4 then
        E (Xlaw10_1000069b (n0, c1, i2, i3, i4, i5, i6, i7))
      else E (Xlaw10_1000069a ())
    else none
  else E (Xlaw10_1000069a ())
theorem Blaw10_1000069a_eq (F : FnT) (N : QO) (E : EO) (L0 : Q → Option Ylaw10_0) (L2 : Q → Option Ylaw10_2) (L1000069 : Q → Option Ylaw10_1000069) (L1000052 : Q → Option Ylaw10_1000052) (L1000026 : Q → Option Ylaw10_1000026) (n0 : Nat) (c1 : List PV) (i2 : Int) (i3 : Int) (i4 : Int) (i5 : Int) (i6 : Int) (i7 : Int) : semN (callP F Elaw10 20) s10 (loopT [⟨0, Ylaw10_0, L0, XLlaw10_0⟩, ⟨2, Ylaw10_2, L2, XLlaw10_2⟩, ⟨1000069, Ylaw10_1000069, L1000069, XLlaw10_1000069⟩, ⟨1000052, Ylaw10_1000052, L1000052, XLlaw10_1000052⟩, ⟨1000026, Ylaw10_1000026, L1000026, XLlaw10_1000026⟩]) 400 (blkIn a10.body 1000069) E (Tlaw10_1000069a n0 c1 i2 i3 i4 i5 i6 i7) = Blaw10_1000069a F N E L0 L2 L1000069 L1000052 L1000026 n0 c1 i2 i3 i4 i5 i6 i7 := by kernel_rfl
theorem Rlaw10_1000069a_of  (n0 : Nat) (c1 : List PV) (i2 : Int) (i3 : Int) (i4 : Int) (i5 : Int) (i6 : Int) (i7 : Int) {r : Ext × S} (h : Blaw10_1000069a (Fn env) Rlaw10_1000069 exO Llaw10_0 Llaw10_2 Llaw10_1000069 Llaw10_1000052 Llaw10_1000026 n0 c1 i2 i3 i4 i5 i6 i7 = some r) : Rlaw10_1000069 (Tlaw10_1000069a n0 c1 i2 i3 i4 i5 i6 i7) = some r :=
  nd_of Elaw10_ok (by kernel_rfl) (lo_cons (lpO_ok Ulaw10) (lo_cons (lpO_ok Ulaw10) (lo_cons (lpO_ok Ulaw10) (lo_cons (lpO_ok Ulaw10) (lo_cons (lpO_ok Ulaw10) lo_nil))))) (by kernel_rfl) ((Blaw10_1000069a_eq _ Rlaw10_1000069 _ _ _ _ _ _ _ _ _ _ _ _ _ _).trans h)
def Blaw10_1000052a (_F : FnT) (_N : QO) (E : EO) (_L0 : Q → Option Ylaw10_0) (_L2 : Q → Option Ylaw10_2) (_L1000069 : Q → Option Ylaw10_1000069) (_L1000052 : Q → Option Ylaw10_1000052) (_L1000026 : Q → Option Ylaw10_1000026) (n0 : Nat) (c1 : List PV) (i2 : Int) (i3 : Int) (i4 : Int) (i5 : Int) (i6 : Int) (i7 : Int) (i8 : Int) (i9 : Int) (i10 : Int) (i11 : Int) (b12 : Bool) (i13 : Int) (i14 : Int) (i15 : Int) (i16 : Int) (b17 : Bool) (i18 : Int) (i19 : Int) (i20 : Int) (i21 : Int) (b22 : Bool) (i23 : Int) (_i24 : Int) (i25 : Int) (_i26 : Int) (b27 : Bool) (i28 : Int) (i29 : Int) (i30 : Int) (i31 : Int) : Option (Ext × S) :=
  bif (i4 != (0 : Int)) then
    E (Xlaw10_1000052a ())
  else bif (i5 != (0 : Int)) then
    E (Xlaw10_1000052a ())
  else bif (i6 != (0 : Int)) then
    E (Xlaw10_1000052a ())
  else bif (i7 != (0 : Int)) then
    E (Xlaw10_1000052a ())
  else bif b17 then
    bif b12 then
      bif (!(true && ((i18 == i13) && ((i19 == i14) && ((i20 == i15) && ((i21 == i16) && true)))))) then
        E (Xlaw10_1000052a ())
      else bif b27 then
        bif b12 then
          bif (!(true && ((i28 == i13) && ((i29 == i14) && ((i30 == i15) && ((i31 == i16) && true)))))) then
            E (Xlaw10_1000052a ())
          else bif b22 then
            E (Xlaw10_1000052a ())
          else bif (i23 != i13) then
            E (Xlaw10_1000052a ())
          else bif (i25 != i3) then
            E (Xlaw10_1000052a ())
          else E (Xlaw10_1000052b (n0, c1, i2, i8, i9, i10, i11))
        else E (Xlaw10_1000052a ())
      else bif b12 then
        E (Xlaw10_1000052a ())
      else bif (!(true && ((i28 == i13) && ((i29 == i14) && ((i30 == i15) && ((i31 == i16) && true)))))) then
        E (Xlaw10_1000052a ())
      else bif b22 then
        E (Xlaw10_1000052a ())
      else bif (i23 != i13) then
        E (Xlaw10_1000052a ())
      else bif (i25 != i3) then
        E (Xlaw10_1000052a ())
      else E (Xlaw10_1000052b (n0, c1, i2, i8, i9, i10, i11))
    else E (Xlaw10_1000052a ())
  else bif b12 then
    E (Xlaw10_1000052a ())
  else bif (!(true && ((i18 == i13) && ((i19 == i14) && ((i20 == i15) && ((i21 == i16) && true)))))) then
    E (Xlaw10_1000052a ())
  else bif b27 then
    bif b12 then
      bif (!(true && ((i28 == i13) && ((i29 == i14) && ((i30 == i15) && ((i31 == i16) && true)))))) then
        E (Xlaw10_1000052a ())
      else bif b22 then
        E (Xlaw10_1000052a ())
      else bif (i23 != i13) then
        E (Xlaw10_1000052a ())
      else bif (i25 != i3) then
        E (Xlaw10_1000052a ())
      else E (Xlaw10_1000052b (n0, c1, i2, i8, i9, i10, i11))
    else E (Xlaw10_1000052a ())
  else bif b12 then
    E (Xlaw10_1000052a ())
  else bif (!(true && ((i28 == i13) && ((i29 == i14) && ((i30 == i15) && ((i31 == i16) && true)))))) then
    E (Xlaw10_1000052a ())
  else bif b22 then
    E (Xlaw10_1000052a ())
  else bif (i23 != i13) then
    E (Xlaw10_1000052a ())
  else bif (i25 != i3) then
    E (Xlaw10_1000052a ())
  else E (Xlaw10_1000052b (n0, c1, i2, i8, i9, i10, i11))
theorem Blaw10_1000052a_eq (F : FnT) (N : QO) (E : EO) (L0 : Q → Option Ylaw10_0) (L2 : Q → Option Ylaw10_2) (L1000069 : Q → Option Ylaw10_1000069) (L1000052 : Q → Option Ylaw10_1000052) (L1000026 : Q → Option Ylaw10_1000026) (n0 : Nat) (c1 : List PV) (i2 : Int) (i3 : Int) (i4 : Int) (i5 : Int) (i6 : Int) (i7 : Int) (i8 : Int) (i9 : Int) (i10 : Int) (i11 : Int) (b12 : Bool) (i13 : Int) (i14 : Int) (i15 : Int) (i16 : Int) (b17 : Bool) (i18 : Int) (i19 : Int) (i20 : Int) (i21 : Int) (b22 : Bool) (i23 : Int) (i24 : Int) (i25 : Int) (i26 : Int) (b27 : Bool) (i28 : Int) (i29 : Int) (i30 : Int) (i31 : Int) : semN (callP F Elaw10 20) s10 (loopT [⟨0, Ylaw10_0, L0, XLlaw10_0⟩, ⟨2, Ylaw10_2, L2, XLlaw10_2⟩, ⟨1000069, Ylaw10_1000069, L1000069, XLlaw10_1000069⟩, ⟨1000052, Ylaw10_1000052, L1000052, XLlaw10_1000052⟩, ⟨1000026, Ylaw10_1000026, L1000026, XLlaw10_1000026⟩]) 400 (blkIn a10.body 1000052) E (Tlaw10_1000052a n0 c1 i2 i3 i4 i5 i6 i7 i8 i9 i10 i11 b12 i13 i14 i15 i16 b17 i18 i19 i20 i21 b22 i23 i24 i25 i26 b27 i28 i29 i30 i31) = Blaw10_1000052a F N E L0 L2 L1000069 L1000052 L1000026 n0 c1 i2 i3 i4 i5 i6 i7 i8 i9 i10 i11 b12 i13 i14 i15 i16 b17 i18 i19 i20 i21 b22 i23 i24 i25 i26 b27 i28 i29 i30 i31 := by kernel_rfl
theorem Rlaw10_1000052a_of  (n0 : Nat) (c1 : List PV) (i2 : Int) (i3 : Int) (i4 : Int) (i5 : Int) (i6 : Int) (i7 : Int) (i8 : Int) (i9 : Int) (i10 : Int) (i11 : Int) (b12 : Bool) (i13 : Int) (i14 : Int) (i15 : Int) (i16 : Int) (b17 : Bool) (i18 : Int) (i19 : Int) (i20 : Int) (i21 : Int) (b22 : Bool) (i23 : Int) (i24 : Int) (i25 : Int) (i26 : Int) (b27 : Bool) (i28 : Int) (i29 : Int) (i30 : Int) (i31 : Int) {r : Ext × S} (h : Blaw10_1000052a (Fn env) Rlaw10_1000052 exO Llaw10_0 Llaw10_2 Llaw10_1000069 Llaw10_1000052 Llaw10_1000026 n0 c1 i2 i3 i4 i5 i6 i7 i8 i9 i10 i11 b12 i13 i14 i15 i16 b17 i18 i19 i20 i21 b22 i23 i24 i25 i26 b27 i28 i29 i30 i31 = some r) : Rlaw10_1000052 (Tlaw10_1000052a n0 c1 i2 i3 i4 i5 i6 i7 i8 i9 i10 i11 b12 i13 i14 i15 i16 b17 i18 i19 i20 i21 b22 i23 i24 i25 i26 b27 i28 i29 i30 i31) = some r :=
  nd_of Elaw10_ok (by kernel_rfl) (lo_cons (lpO_ok Ulaw10) (lo_cons (lpO_ok Ulaw10) (lo_cons (lpO_ok Ulaw10) (lo_cons (lpO_ok Ulaw10) (lo_cons (lpO_ok Ulaw10) lo_nil))))) (by kernel_rfl) ((Blaw10_1000052a_eq _ Rlaw10_1000052 _ _ _ _ _ _ _ _ _ _ _ _ _ _ _ _ _ _ _ _ _ _ _ _ _ _ _ _ _ _ _ _ _ _ _ _ _ _).trans h)
def Blaw10_1000026a (_F : FnT) (_N : QO) (E : EO) (_L0 : Q → Option Ylaw10_0) (_L2 : Q → Option Ylaw10_2) (_L1000069 : Q → Option Ylaw10_1000069) (_L1000052 : Q → Option Ylaw10_1000052) (_L1000026 : Q → Option Ylaw10_1000026) (i0 : Int) (n1 : Nat) (c2 : List PV) (i3 : Int) (n4 : Nat) (c5 : List PV) (i6 : Int) : Option (Ext × S) :=
  bif (i3 != (0 : Int)) then
    E (Xlaw10_1000026a ())
  else bif (i6 != (0 : Int)) then
    E (Xlaw10_1000026a ())
  else bif ((n1 : Int) != (n4 : Int)) then
    E (Xlaw10_1000026a ())
  else E (Xlaw10_1000026b (i0, n1, c2, n4, c5))
theorem Blaw10_1000026a_eq (F : FnT) (N : QO) (E : EO) (L0 : Q → Option Ylaw10_0) (L2 : Q → Option Ylaw10_2) (L1000069 : Q → Option Ylaw10_1000069) (L1000052 : Q → Option Ylaw10_1000052) (L1000026 : Q → Option Ylaw10_1000026) (i0 : Int) (n1 : Nat) (c2 : List PV) (i3 : Int) (n4 : Nat) (c5 : List PV) (i6 : Int) : semN (callP F Elaw10 20) s10 (loopT [⟨0, Ylaw10_0, L0, XLlaw10_0⟩, ⟨2, Ylaw10_2, L2, XLlaw10_2⟩, ⟨1000069, Ylaw10_1000069, L1000069, XLlaw10_1000069⟩, ⟨1000052, Ylaw10_1000052, L1000052, XLlaw10_1000052⟩, ⟨1000026, Ylaw10_1000026, L1000026, XLlaw10_1000026⟩]) 400 (blkIn a10.body 1000026) E (Tlaw10_1000026a i0 n1 c2 i3 n4 c5 i6) = Blaw10_1000026a F N E L0 L2 L1000069 L1000052 L1000026 i0 n1 c2 i3 n4 c5 i6 := by kernel_rfl
theorem Rlaw10_1000026a_of  (i0 : Int) (n1 : Nat) (c2 : List PV) (i3 : Int) (n4 : Nat) (c5 : List PV) (i6 : Int) {r : Ext × S} (h : Blaw10_1000026a (Fn env) Rlaw10_1000026 exO Llaw10_0 Llaw10_2 Llaw10_1000069 Llaw10_1000052 Llaw10_1000026 i0 n1 c2 i3 n4 c5 i6 = some r) : Rlaw10_1000026 (Tlaw10_1000026a i0 n1 c2 i3 n4 c5 i6) = some r :=
  nd_of Elaw10_ok (by kernel_rfl) (lo_cons (lpO_ok Ulaw10) (lo_cons (lpO_ok Ulaw10) (lo_cons (lpO_ok Ulaw10) (lo_cons (lpO_ok Ulaw10) (lo_cons (lpO_ok Ulaw10) lo_nil))))) (by kernel_rfl) ((Blaw10_1000026a_eq _ Rlaw10_1000026 _ _ _ _ _ _ _ _ _ _ _ _ _).trans h)
def tlaw10 (F : FnT) (L0 : Q → Option Ylaw10_0) (L2 : Q → Option Ylaw10_2) (L1000069 : Q → Option Ylaw10_1000069) (L1000052 : Q → Option Ylaw10_1000052) (L1000026 : Q → Option Ylaw10_1000026) (p0_0 : Int) (p0_1 : Int) (p0_2 : Int) (p0_3 : Int) (p1n : Nat) (p1c : List PV) (p2_0 : Int) (p2_1 : Int) : Option (Bool) :=
  bindO (F 13 (RSh.one CK.bool) []) fun (y0 : (Bool)) =>
  bif y0 then
    bindO (L1000069 (Tlaw10_1000069a p1n p1c p2_0 p2_1 p0_0 p0_1 p0_2 p0_3)) fun z =>
    Sum.elim (fun _y1 =>
      some true) (fun y2 =>
      bif (decide (((0 : Int) ≤ (w64 ((y2.1 : Int) - (1 : Int)))) ∧ ((w64 ((y2.1 : Int) - (1 : Int))) < (y2.1 : Int)))) then
        bindO (intC .i64 (y2.2.1[(((Int.toNat (w64 ((y2.1 : Int) - (1 : Int)))) * 3) + 0)]?)) fun x3 =>
        bif (decide (y2.1 = 0)) then
          bindO (F 56 (RSh.tup [(Prod.mk true [CK.bool, (CK.int .i64), (CK.int .i64), (CK.int .i64), (CK.int .i64)]), (Prod.mk false [(CK.int .i64)])]) [(PV.agg [(PV.int .i64 y2.2.2.2.2.1), (PV.int .i64 y2.2.2.2.2.2.1), (PV.int .i64 y2.2.2.2.2.2.2.1), (PV.int .i64 y2.2.2.2.2.2.2.2)]), (PV.list 0 []), (PV.int .i64 x3)]) fun (y4 : ((Bool) × ((Int) × ((Int) × ((Int) × ((Int) × (Int))))))) =>
          bif (decide (y2.1 = 0)) then
            bindO (F 56 (RSh.tup [(Prod.mk true [CK.bool, (CK.int .i64), (CK.int .i64), (CK.int .i64), (CK.int .i64)]), (Prod.mk false [(CK.int .i64)])]) [(PV.agg [(PV.int .i64 y2.2.2.2.2.1), (PV.int .i64 y2.2.2.2.2.2.1), (PV.int .i64 y2.2.2.2.2.2.2.1), (PV.int .i64 y2.2.2.2.2.2.2.2)]), (PV.list 0 []), (PV.int .i64 (w64 (x3 + y2.2.2.2.2.2.2.2)))]) fun (y5 : ((Bool) × ((Int) × ((Int) × ((Int) × ((Int) × (Int))))))) =>
            bif (decide (y2.1 = 0)) then
              bindO (F 56 (RSh.tup [(Prod.mk true [CK.bool, (CK.int .i64), (CK.int .i64), (CK.int .i64), (CK.int .i64)]), (Prod.mk false [(CK.int .i64)])]) [(PV.agg [(PV.int .i64 y2.2.2.2.2.1), (PV.int .i64 y2.2.2.2.2.2.1), (PV.int .i64 y2.2.2.2.2.2.2.1), (PV.int .i64 y2.2.2.2.2.2.2.2)]), (PV.list 0 []), (PV.int .i64 (w64 ((w64 (x3 + y2.2.2.2.2.2.2.2)) + (1 : Int))))]) fun (y6 : ((Bool) × ((Int) × ((Int) × ((Int) × ((Int) × (Int))))))) =>
              bif (decide (y2.1 = 0)) then
                bindO (F 18 (RSh.one (CK.int .i64)) [(PV.int .i64 y2.2.2.2.1), (PV.int .i64 (w64 (y2.2.2.2.2.2.2.2 + (1 : Int))))]) fun (y7 : (Int)) =>
                bindO (F 56 (RSh.tup [(Prod.mk true [CK.bool, (CK.int .i64), (CK.int .i64), (CK.int .i64), (CK.int .i64)]), (Prod.mk false [(CK.int .i64)])]) [(PV.agg [(PV.int .i64 y2.2.2.2.2.1), (PV.int .i64 y2.2.2.2.2.2.1), (PV.int .i64 y2.2.2.2.2.2.2.1), (PV.int .i64 y2.2.2.2.2.2.2.2)]), (PV.list 0 []), (PV.int .i64 (w64 (x3 + y7)))]) fun (y8 : ((Bool) × ((Int) × ((Int) × ((Int) × ((Int) × (Int))))))) =>
                bindO (L1000052 (Tlaw10_1000052a y2.1 y2.2.1 y2.2.2.1 x3 y4.2.2.2.2.2 y5.2.2.2.2.2 y6.2.2.2.2.2 y8.2.2.2.2.2 y2.2.2.2.2.1 y2.2.2.2.2.2.1 y2.2.2.2.2.2.2.1 y2.2.2.2.2.2.2.2 y4.1 y4.2.1 y4.2.2.1 y4.2.2.2.1 y4.2.2.2.2.1 y5.1 y5.2.1 y5.2.2.1 y5.2.2.2.1 y5.2.2.2.2.1 y6.1 y6.2.1 y6.2.2.1 y6.2.2.2.1 y6.2.2.2.2.1 y8.1 y8.2.1 y8.2.2.1 y8.2.2.2.1 y8.2.2.2.2.1)) fun z =>
                Sum.elim (fun _y9 =>
                  some false) (fun y10 =>
                  bif (decide (y10.1 = 0)) then
                    bindO (L0 (Tlaw10_0a y10.1 y10.2.1 y10.2.2.1 0 (0 : Int) y10.2.2.2.1 y10.2.2.2.2.1 y10.2.2.2.2.2.1 y10.2.2.2.2.2.2 0 [])) fun y11 =>
                    bif (decide (y11.1 = 0)) then
                      bindO (F 57 (RSh.tup [(Prod.mk false [CK.list]), (Prod.mk false [(CK.int .i64)])]) [(PV.agg [(PV.int .i64 y11.2.2.2.2.1), (PV.int .i64 y11.2.2.2.2.2.1), (PV.int .i64 y11.2.2.2.2.2.2.1), (PV.int .i64 y11.2.2.2.2.2.2.2.1)]), (PV.list 0 [])]) fun (y12 : (((Nat) × (List PV)) × (Int))) =>
                      bif (decide (y11.2.2.2.2.2.2.2.2.1 = y11.2.2.2.1)) then
                        bindO (F 57 (RSh.tup [(Prod.mk false [CK.list]), (Prod.mk false [(CK.int .i64)])]) [(PV.agg [(PV.int .i64 y11.2.2.2.2.1), (PV.int .i64 y11.2.2.2.2.2.1), (PV.int .i64 y11.2.2.2.2.2.2.1), (PV.int .i64 y11.2.2.2.2.2.2.2.1)]), (PV.list y11.2.2.2.1 y11.2.2.2.2.2.2.2.2.2)]) fun (y13 : (((Nat) × (List PV)) × (Int))) =>
                        bindO (L1000026 (Tlaw10_1000026a y11.2.2.1 y12.1.1 y12.1.2 y12.2 y13.1.1 y13.1.2 y13.2)) fun z =>
                        Sum.elim (fun _y14 =>
                          some false) (fun y15 =>
                          bindO (L2 (Tlaw10_2a y15.1 y15.2.1 y15.2.2.1 y15.2.2.2.1 y15.2.2.2.2 (0 : Int))) fun z =>
                          Sum.elim (fun _y16 =>
                            some false) (fun _y17 =>
                            some true) z) z
                      else none
                    else bif (decide ((List.length y11.2.1) = (y11.1 * 3))) then
                      bif (decide ((0 = 0) ∧ ((0 + y11.1) ≤ big))) then
                        bif (decide ((0 + y11.1) = (0 + y11.1))) then
                          bindO (F 57 (RSh.tup [(Prod.mk false [CK.list]), (Prod.mk false [(CK.int .i64)])]) [(PV.agg [(PV.int .i64 y11.2.2.2.2.1), (PV.int .i64 y11.2.2.2.2.2.1), (PV.int .i64 y11.2.2.2.2.2.2.1), (PV.int .i64 y11.2.2.2.2.2.2.2.1)]), (PV.list (0 + y11.1) ([] ++ y11.2.1))]) fun (y18 : (((Nat) × (List PV)) × (Int))) =>
                          bif (decide (y11.2.2.2.2.2.2.2.2.1 = y11.2.2.2.1)) then
                            bindO (F 57 (RSh.tup [(Prod.mk false [CK.list]), (Prod.mk false [(CK.int .i64)])]) [(PV.agg [(PV.int .i64 y11.2.2.2.2.1), (PV.int .i64 y11.2.2.2.2.2.1), (PV.int .i64 y11.2.2.2.2.2.2.1), (PV.int .i64 y11.2.2.2.2.2.2.2.1)]), (PV.list y11.2.2.2.1 y11.2.2.2.2.2.2.2.2.2)]) fun (y19 : (((Nat) × (List PV)) × (Int))) =>
                            bindO (L1000026 (Tlaw10_1000026a y11.2.2.1 y18.1.1 y18.1.2 y18.2 y19.1.1 y19.1.2 y19.2)) fun z =>
                            Sum.elim (fun _y20 =>
                              some false) (fun y21 =>
                              bindO (L2 (Tlaw10_2a y21.1 y21.2.1 y21.2.2.1 y21.2.2.2.1 y21.2.2.2.2 (0 : Int))) fun z =>
                              Sum.elim (fun _y22 =>
                                some false) (fun _y23 =>
                                some true) z) z
                          else none
                        else none
                      else none
                    else none
                  else bif (decide ((List.length y10.2.1) = (y10.1 * 3))) then
                    bif (decide ((0 = 0) ∧ ((0 + y10.1) ≤ big))) then
                      bif (decide ((0 + y10.1) = (0 + y10.1))) then
                        bif (decide ((List.all ([] ++ y10.2.1) Gv.plain) = true)) then
                          bindO (L0 (Tlaw10_0a y10.1 y10.2.1 y10.2.2.1 (0 + y10.1) (0 : Int) y10.2.2.2.1 y10.2.2.2.2.1 y10.2.2.2.2.2.1 y10.2.2.2.2.2.2 (0 + y10.1) ([] ++ y10.2.1))) fun y24 =>
                          bif (decide (y24.1 = 0)) then
                            bindO (F 57 (RSh.tup [(Prod.mk false [CK.list]), (Prod.mk false [(CK.int .i64)])]) [(PV.agg [(PV.int .i64 y24.2.2.2.2.1), (PV.int .i64 y24.2.2.2.2.2.1), (PV.int .i64 y24.2.2.2.2.2.2.1), (PV.int .i64 y24.2.2.2.2.2.2.2.1)]), (PV.list 0 [])]) fun (y25 : (((Nat) × (List PV)) × (Int))) =>
                            bif (decide (y24.2.2.2.2.2.2.2.2.1 = y24.2.2.2.1)) then
                              bindO (F 57 (RSh.tup [(Prod.mk false [CK.list]), (Prod.mk false [(CK.int .i64)])]) [(PV.agg [(PV.int .i64 y24.2.2.2.2.1), (PV.int .i64 y24.2.2.2.2.2.1), (PV.int .i64 y24.2.2.2.2.2.2.1), (PV.int .i64 y24.2.2.2.2.2.2.2.1)]), (PV.list y24.2.2.2.1 y24.2.2.2.2.2.2.2.2.2)]) fun (y26 : (((Nat) × (List PV)) × (Int))) =>
                              bindO (L1000026 (Tlaw10_1000026a y24.2.2.1 y25.1.1 y25.1.2 y25.2 y26.1.1 y26.1.2 y26.2)) fun z =>
                              Sum.elim (fun _y27 =>
                                some false) (fun y28 =>
                                bindO (L2 (Tlaw10_2a y28.1 y28.2.1 y28.2.2.1 y28.2.2.2.1 y28.2.2.2.2 (0 : Int))) fun z =>
                                Sum.elim (fun _y29 =>
                                  some false) (fun _y30 =>
                                  some true) z) z
                            else none
                          else bif (decide ((List.length y24.2.1) = (y24.1 * 3))) then
                            bif (decide ((0 = 0) ∧ ((0 + y24.1) ≤ big))) then
                              bif (decide ((0 + y24.1) = (0 + y24.1))) then
                                bindO (F 57 (RSh.tup [(Prod.mk false [CK.list]), (Prod.mk false [(CK.int .i64)])]) [(PV.agg [(PV.int .i64 y24.2.2.2.2.1), (PV.int .i64 y24.2.2.2.2.2.1), (PV.int .i64 y24.2.2.2.2.2.2.1), (PV.int .i64 y24.2.2.2.2.2.2.2.1)]), (PV.list (0 + y24.1) ([] ++ y24.2.1))]) fun (y31 : (((Nat) × (List PV)) × (Int))) =>
                                bif (decide (y24.2.2.2.2.2.2.2.2.1 = y24.2.2.2.1)) then
                                  bindO (F 57 (RSh.tup [(Prod.mk false [CK.list]), (Prod.mk false [(CK.int .i64)])]) [(PV.agg [(PV.int .i64 y24.2.2.2.2.1), (PV.int .i64 y24.2.2.2.2.2.1), (PV.int .i64 y24.2.2.2.2.2.2.1), (PV.int .i64 y24.2.2.2.2.2.2.2.1)]), (PV.list y24.2.2.2.1 y24.2.2.2.2.2.2.2.2.2)]) fun (y32 : (((Nat) × (List PV)) × (Int))) =>
                                  bindO (L1000026 (Tlaw10_1000026a y24.2.2.1 y31.1.1 y31.1.2 y31.2 y32.1.1 y32.1.2 y32.2)) fun z =>
                                  Sum.elim (fun _y33 =>
                                    some false) (fun y34 =>
                                    bindO (L2 (Tlaw10_2a y34.1 y34.2.1 y34.2.2.1 y34.2.2.2.1 y34.2.2.2.2 (0 : Int))) fun z =>
                                    Sum.elim (fun _y35 =>
                                      some false) (fun _y36 =>
                                      some true) z) z
                                else none
                              else none
                            else none
                          else none
                        else none
                      else none
                    else none
                  else none) z
              else bif (decide ((List.length y2.2.1) = (y2.1 * 3))) then
                bif (decide ((0 = 0) ∧ ((0 + y2.1) ≤ big))) then
                  bif (decide ((0 + y2.1) = (0 + y2.1))) then
                    bindO (F 18 (RSh.one (CK.int .i64)) [(PV.int .i64 y2.2.2.2.1), (PV.int .i64 (w64 (y2.2.2.2.2.2.2.2 + (1 : Int))))]) fun (y37 : (Int)) =>
                    bindO (F 56 (RSh.tup [(Prod.mk true [CK.bool, (CK.int .i64), (CK.int .i64), (CK.int .i64), (CK.int .i64)]), (Prod.mk false [(CK.int .i64)])]) [(PV.agg [(PV.int .i64 y2.2.2.2.2.1), (PV.int .i64 y2.2.2.2.2.2.1), (PV.int .i64 y2.2.2.2.2.2.2.1), (PV.int .i64 y2.2.2.2.2.2.2.2)]), (PV.list (0 + y2.1) ([] ++ y2.2.1)), (PV.int .i64 (w64 (x3 + y37)))]) fun (y38 : ((Bool) × ((Int) × ((Int) × ((Int) × ((Int) × (Int))))))) =>
                    bindO (L1000052 (Tlaw10_1000052a y2.1 y2.2.1 y2.2.2.1 x3 y4.2.2.2.2.2 y5.2.2.2.2.2 y6.2.2.2.2.2 y38.2.2.2.2.2 y2.2.2.2.2.1 y2.2.2.2.2.2.1 y2.2.2.2.2.2.2.1 y2.2.2.2.2.2.2.2 y4.1 y4.2.1 y4.2.2.1 y4.2.2.2.1 y4.2.2.2.2.1 y5.1 y5.2.1 y5.2.2.1 y5.2.2.2.1 y5.2.2.2.2.1 y6.1 y6.2.1 y6.2.2.1 y6.2.2.2.1 y6.2.2.2.2.1 y38.1 y38.2.1 y38.2.2.1 y38.2.2.2.1 y38.2.2.2.2.1)) fun z =>
                    Sum.elim (fun _y39 =>
                      some false) (fun y40 =>
                      bif (decide (y40.1 = 0)) then
                        bindO (L0 (Tlaw10_0a y40.1 y40.2.1 y40.2.2.1 0 (0 : Int) y40.2.2.2.1 y40.2.2.2.2.1 y40.2.2.2.2.2.1 y40.2.2.2.2.2.2 0 [])) fun y41 =>
                        bif (decide (y41.1 = 0)) then
                          bindO (F 57 (RSh.tup [(Prod.mk false [CK.list]), (Prod.mk false [(CK.int .i64)])]) [(PV.agg [(PV.int .i64 y41.2.2.2.2.1), (PV.int .i64 y41.2.2.2.2.2.1), (PV.int .i64 y41.2.2.2.2.2.2.1), (PV.int .i64 y41.2.2.2.2.2.2.2.1)]), (PV.list 0 [])]) fun (y42 : (((Nat) × (List PV)) × (Int))) =>
                          bif (decide (y41.2.2.2.2.2.2.2.2.1 = y41.2.2.2.1)) then
                            bindO (F 57 (RSh.tup [(Prod.mk false [CK.list]), (Prod.mk false [(CK.int .i64)])]) [(PV.agg [(PV.int .i64 y41.2.2.2.2.1), (PV.int .i64 y41.2.2.2.2.2.1), (PV.int .i64 y41.2.2.2.2.2.2.1), (PV.int .i64 y41.2.2.2.2.2.2.2.1)]), (PV.list y41.2.2.2.1 y41.2.2.2.2.2.2.2.2.2)]) fun (y43 : (((Nat) × (List PV)) × (Int))) =>
                            bindO (L1000026 (Tlaw10_1000026a y41.2.2.1 y42.1.1 y42.1.2 y42.2 y43.1.1 y43.1.2 y43.2)) fun z =>
                            Sum.elim (fun _y44 =>
                              some false) (fun y45 =>
                              bindO (L2 (Tlaw10_2a y45.1 y45.2.1 y45.2.2.1 y45.2.2.2.1 y45.2.2.2.2 (0 : Int))) fun z =>
                              Sum.elim (fun _y46 =>
                                some false) (fun _y47 =>
                                some true) z) z
                          else none
                        else bif (decide ((List.length y41.2.1) = (y41.1 * 3))) then
                          bif (decide ((0 = 0) ∧ ((0 + y41.1) ≤ big))) then
                            bif (decide ((0 + y41.1) = (0 + y41.1))) then
                              bindO (F 57 (RSh.tup [(Prod.mk false [CK.list]), (Prod.mk false [(CK.int .i64)])]) [(PV.agg [(PV.int .i64 y41.2.2.2.2.1), (PV.int .i64 y41.2.2.2.2.2.1), (PV.int .i64 y41.2.2.2.2.2.2.1), (PV.int .i64 y41.2.2.2.2.2.2.2.1)]), (PV.list (0 + y41.1) ([] ++ y41.2.1))]) fun (y48 : (((Nat) × (List PV)) × (Int))) =>
                              bif (decide (y41.2.2.2.2.2.2.2.2.1 = y41.2.2.2.1)) then
                                bindO (F 57 (RSh.tup [(Prod.mk false [CK.list]), (Prod.mk false [(CK.int .i64)])]) [(PV.agg [(PV.int .i64 y41.2.2.2.2.1), (PV.int .i64 y41.2.2.2.2.2.1), (PV.int .i64 y41.2.2.2.2.2.2.1), (PV.int .i64 y41.2.2.2.2.2.2.2.1)]), (PV.list y41.2.2.2.1 y41.2.2.2.2.2.2.2.2.2)]) fun (y49 : (((Nat) × (List PV)) × (Int))) =>
                                bindO (L1000026 (Tlaw10_1000026a y41.2.2.1 y48.1.1 y48.1.2 y48.2 y49.1.1 y49.1.2 y49.2)) fun z =>
                                Sum.elim (fun _y50 =>
                                  some false) (fun y51 =>
                                  bindO (L2 (Tlaw10_2a y51.1 y51.2.1 y51.2.2.1 y51.2.2.2.1 y51.2.2.2.2 (0 : Int))) fun z =>
                                  Sum.elim (fun _y52 =>
                                    some false) (fun _y53 =>
                                    some true) z) z
                              else none
                            else none
                          else none
                        else none
                      else bif (decide ((List.length y40.2.1) = (y40.1 * 3))) then
                        bif (decide ((0 = 0) ∧ ((0 + y40.1) ≤ big))) then
                          bif (decide ((0 + y40.1) = (0 + y40.1))) then
                            bif (decide ((List.all ([] ++ y40.2.1) Gv.plain) = true)) then
                              bindO (L0 (Tlaw10_0a y40.1 y40.2.1 y40.2.2.1 (0 + y40.1) (0 : Int) y40.2.2.2.1 y40.2.2.2.2.1 y40.2.2.2.2.2.1 y40.2.2.2.2.2.2 (0 + y40.1) ([] ++ y40.2.1))) fun y54 =>
                              bif (decide (y54.1 = 0)) then
                                bindO (F 57 (RSh.tup [(Prod.mk false [CK.list]), (Prod.mk false [(CK.int .i64)])]) [(PV.agg [(PV.int .i64 y54.2.2.2.2.1), (PV.int .i64 y54.2.2.2.2.2.1), (PV.int .i64 y54.2.2.2.2.2.2.1), (PV.int .i64 y54.2.2.2.2.2.2.2.1)]), (PV.list 0 [])]) fun (y55 : (((Nat) × (List PV)) × (Int))) =>
                                bif (decide (y54.2.2.2.2.2.2.2.2.1 = y54.2.2.2.1)) then
                                  bindO (F 57 (RSh.tup [(Prod.mk false [CK.list]), (Prod.mk false [(CK.int .i64)])]) [(PV.agg [(PV.int .i64 y54.2.2.2.2.1), (PV.int .i64 y54.2.2.2.2.2.1), (PV.int .i64 y54.2.2.2.2.2.2.1), (PV.int .i64 y54.2.2.2.2.2.2.2.1)]), (PV.list y54.2.2.2.1 y54.2.2.2.2.2.2.2.2.2)]) fun (y56 : (((Nat) × (List PV)) × (Int))) =>
                                  bindO (L1000026 (Tlaw10_1000026a y54.2.2.1 y55.1.1 y55.1.2 y55.2 y56.1.1 y56.1.2 y56.2)) fun z =>
                                  Sum.elim (fun _y57 =>
                                    some false) (fun y58 =>
                                    bindO (L2 (Tlaw10_2a y58.1 y58.2.1 y58.2.2.1 y58.2.2.2.1 y58.2.2.2.2 (0 : Int))) fun z =>
                                    Sum.elim (fun _y59 =>
                                      some false) (fun _y60 =>
                                      some true) z) z
                                else none
                              else bif (decide ((List.length y54.2.1) = (y54.1 * 3))) then
                                bif (decide ((0 = 0) ∧ ((0 + y54.1) ≤ big))) then
                                  bif (decide ((0 + y54.1) = (0 + y54.1))) then
                                    bindO (F 57 (RSh.tup [(Prod.mk false [CK.list]), (Prod.mk false [(CK.int .i64)])]) [(PV.agg [(PV.int .i64 y54.2.2.2.2.1), (PV.int .i64 y54.2.2.2.2.2.1), (PV.int .i64 y54.2.2.2.2.2.2.1), (PV.int .i64 y54.2.2.2.2.2.2.2.1)]), (PV.list (0 + y54.1) ([] ++ y54.2.1))]) fun (y61 : (((Nat) × (List PV)) × (Int))) =>
                                    bif (decide (y54.2.2.2.2.2.2.2.2.1 = y54.2.2.2.1)) then
                                      bindO (F 57 (RSh.tup [(Prod.mk false [CK.list]), (Prod.mk false [(CK.int .i64)])]) [(PV.agg [(PV.int .i64 y54.2.2.2.2.1), (PV.int .i64 y54.2.2.2.2.2.1), (PV.int .i64 y54.2.2.2.2.2.2.1), (PV.int .i64 y54.2.2.2.2.2.2.2.1)]), (PV.list y54.2.2.2.1 y54.2.2.2.2.2.2.2.2.2)]) fun (y62 : (((Nat) × (List PV)) × (Int))) =>
                                      bindO (L1000026 (Tlaw10_1000026a y54.2.2.1 y61.1.1 y61.1.2 y61.2 y62.1.1 y62.1.2 y62.2)) fun z =>
                                      Sum.elim (fun _y63 =>
                                        some false) (fun y64 =>
                                        bindO (L2 (Tlaw10_2a y64.1 y64.2.1 y64.2.2.1 y64.2.2.2.1 y64.2.2.2.2 (0 : Int))) fun z =>
                                        Sum.elim (fun _y65 =>
                                          some false) (fun _y66 =>
                                          some true) z) z
                                    else none
                                  else none
                                else none
                              else none
                            else none
                          else none
                        else none
                      else none) z
                  else none
                else none
              else none
            else bif (decide ((List.length y2.2.1) = (y2.1 * 3))) then
              bif (decide ((0 = 0) ∧ ((0 + y2.1) ≤ big))) then
                bif (decide ((0 + y2.1) = (0 + y2.1))) then
                  bindO (F 56 (RSh.tup [(Prod.mk true [CK.bool, (CK.int .i64), (CK.int .i64), (CK.int .i64), (CK.int .i64)]), (Prod.mk false [(CK.int .i64)])]) [(PV.agg [(PV.int .i64 y2.2.2.2.2.1), (PV.int .i64 y2.2.2.2.2.2.1), (PV.int .i64 y2.2.2.2.2.2.2.1), (PV.int .i64 y2.2.2.2.2.2.2.2)]), (PV.list (0 + y2.1) ([] ++ y2.2.1)), (PV.int .i64 (w64 ((w64 (x3 + y2.2.2.2.2.2.2.2)) + (1 : Int))))]) fun (y67 : ((Bool) × ((Int) × ((Int) × ((Int) × ((Int) × (Int))))))) =>
                  bif (decide (y2.1 = 0)) then
                    bindO (F 18 (RSh.one (CK.int .i64)) [(PV.int .i64 y2.2.2.2.1), (PV.int .i64 (w64 (y2.2.2.2.2.2.2.2 + (1 : Int))))]) fun (y68 : (Int)) =>
                    bindO (F 56 (RSh.tup [(Prod.mk true [CK.bool, (CK.int .i64), (CK.int .i64), (CK.int .i64), (CK.int .i64)]), (Prod.mk false [(CK.int .i64)])]) [(PV.agg [(PV.int .i64 y2.2.2.2.2.1), (PV.int .i64 y2.2.2.2.2.2.1), (PV.int .i64 y2.2.2.2.2.2.2.1), (PV.int .i64 y2.2.2.2.2.2.2.2)]), (PV.list 0 []), (PV.int .i64 (w64 (x3 + y68)))]) fun (y69 : ((Bool) × ((Int) × ((Int) × ((Int) × ((Int) × (Int))))))) =>
                    bindO (L1000052 (Tlaw10_1000052a y2.1 y2.2.1 y2.2.2.1 x3 y4.2.2.2.2.2 y5.2.2.2.2.2 y67.2.2.2.2.2 y69.2.2.2.2.2 y2.2.2.2.2.1 y2.2.2.2.2.2.1 y2.2.2.2.2.2.2.1 y2.2.2.2.2.2.2.2 y4.1 y4.2.1 y4.2.2.1 y4.2.2.2.1 y4.2.2.2.2.1 y5.1 y5.2.1 y5.2.2.1 y5.2.2.2.1 y5.2.2.2.2.1 y67.1 y67.2.1 y67.2.2.1 y67.2.2.2.1 y67.2.2.2.2.1 y69.1 y69.2.1 y69.2.2.1 y69.2.2.2.1 y69.2.2.2.2.1)) fun z =>
                    Sum.elim (fun _y70 =>
                      some false) (fun y71 =>
                      bif (decide (y71.1 = 0)) then
                        bindO (L0 (Tlaw10_0a y71.1 y71.2.1 y71.2.2.1 0 (0 : Int) y71.2.2.2.1 y71.2.2.2.2.1 y71.2.2.2.2.2.1 y71.2.2.2.2.2.2 0 [])) fun y72 =>
                        bif (decide (y72.1 = 0)) then
                          bindO (F 57 (RSh.tup [(Prod.mk false [CK.list]), (Prod.mk false [(CK.int .i64)])]) [(PV.agg [(PV.int .i64 y72.2.2.2.2.1), (PV.int .i64 y72.2.2.2.2.2.1), (PV.int .i64 y72.2.2.2.2.2.2.1), (PV.int .i64 y72.2.2.2.2.2.2.2.1)]), (PV.list 0 [])]) fun (y73 : (((Nat) × (List PV)) × (Int))) =>
                          bif (decide (y72.2.2.2.2.2.2.2.2.1 = y72.2.2.2.1)) then
                            bindO (F 57 (RSh.tup [(Prod.mk false [CK.list]), (Prod.mk false [(CK.int .i64)])]) [(PV.agg [(PV.int .i64 y72.2.2.2.2.1), (PV.int .i64 y72.2.2.2.2.2.1), (PV.int .i64 y72.2.2.2.2.2.2.1), (PV.int .i64 y72.2.2.2.2.2.2.2.1)]), (PV.list y72.2.2.2.1 y72.2.2.2.2.2.2.2.2.2)]) fun (y74 : (((Nat) × (List PV)) × (Int))) =>
                            bindO (L1000026 (Tlaw10_1000026a y72.2.2.1 y73.1.1 y73.1.2 y73.2 y74.1.1 y74.1.2 y74.2)) fun z =>
                            Sum.elim (fun _y75 =>
                              some false) (fun y76 =>
                              bindO (L2 (Tlaw10_2a y76.1 y76.2.1 y76.2.2.1 y76.2.2.2.1 y76.2.2.2.2 (0 : Int))) fun z =>
                              Sum.elim (fun _y77 =>
                                some false) (fun _y78 =>
                                some true) z) z
                          else none
                        else bif (decide ((List.length y72.2.1) = (y72.1 * 3))) then
                          bif (decide ((0 = 0) ∧ ((0 + y72.1) ≤ big))) then
                            bif (decide ((0 + y72.1) = (0 + y72.1))) then
                              bindO (F 57 (RSh.tup [(Prod.mk false [CK.list]), (Prod.mk false [(CK.int .i64)])]) [(PV.agg [(PV.int .i64 y72.2.2.2.2.1), (PV.int .i64 y72.2.2.2.2.2.1), (PV.int .i64 y72.2.2.2.2.2.2.1), (PV.int .i64 y72.2.2.2.2.2.2.2.1)]), (PV.list (0 + y72.1) ([] ++ y72.2.1))]) fun (y79 : (((Nat) × (List PV)) × (Int))) =>
                              bif (decide (y72.2.2.2.2.2.2.2.2.1 = y72.2.2.2.1)) then
                                bindO (F 57 (RSh.tup [(Prod.mk false [CK.list]), (Prod.mk false [(CK.int .i64)])]) [(PV.agg [(PV.int .i64 y72.2.2.2.2.1), (PV.int .i64 y72.2.2.2.2.2.1), (PV.int .i64 y72.2.2.2.2.2.2.1), (PV.int .i64 y72.2.2.2.2.2.2.2.1)]), (PV.list y72.2.2.2.1 y72.2.2.2.2.2.2.2.2.2)]) fun (y80 : (((Nat) × (List PV)) × (Int))) =>
                                bindO (L1000026 (Tlaw10_1000026a y72.2.2.1 y79.1.1 y79.1.2 y79.2 y80.1.1 y80.1.2 y80.2)) fun z =>
                                Sum.elim (fun _y81 =>
                                  some false) (fun y82 =>
                                  bindO (L2 (Tlaw10_2a y82.1 y82.2.1 y82.2.2.1 y82.2.2.2.1 y82.2.2.2.2 (0 : Int))) fun z =>
                                  Sum.elim (fun _y83 =>
                                    some false) (fun _y84 =>
                                    some true) z) z
                              else none
                            else none
                          else none
                        else none
                      else bif (decide ((List.length y71.2.1) = (y71.1 * 3))) then
                        bif (decide ((0 = 0) ∧ ((0 + y71.1) ≤ big))) then
                          bif (decide ((0 + y71.1) = (0 + y71.1))) then
                            bif (decide ((List.all ([] ++ y71.2.1) Gv.plain) = true)) then
                              bindO (L0 (Tlaw10_0a y71.1 y71.2.1 y71.2.2.1 (0 + y71.1) (0 : Int) y71.2.2.2.1 y71.2.2.2.2.1 y71.2.2.2.2.2.1 y71.2.2.2.2.2.2 (0 + y71.1) ([] ++ y71.2.1))) fun y85 =>
                              bif (decide (y85.1 = 0)) then
                                bindO (F 57 (RSh.tup [(Prod.mk false [CK.list]), (Prod.mk false [(CK.int .i64)])]) [(PV.agg [(PV.int .i64 y85.2.2.2.2.1), (PV.int .i64 y85.2.2.2.2.2.1), (PV.int .i64 y85.2.2.2.2.2.2.1), (PV.int .i64 y85.2.2.2.2.2.2.2.1)]), (PV.list 0 [])]) fun (y86 : (((Nat) × (List PV)) × (Int))) =>
                                bif (decide (y85.2.2.2.2.2.2.2.2.1 = y85.2.2.2.1)) then
                                  bindO (F 57 (RSh.tup [(Prod.mk false [CK.list]), (Prod.mk false [(CK.int .i64)])]) [(PV.agg [(PV.int .i64 y85.2.2.2.2.1), (PV.int .i64 y85.2.2.2.2.2.1), (PV.int .i64 y85.2.2.2.2.2.2.1), (PV.int .i64 y85.2.2.2.2.2.2.2.1)]), (PV.list y85.2.2.2.1 y85.2.2.2.2.2.2.2.2.2)]) fun (y87 : (((Nat) × (List PV)) × (Int))) =>
                                  bindO (L1000026 (Tlaw10_1000026a y85.2.2.1 y86.1.1 y86.1.2 y86.2 y87.1.1 y87.1.2 y87.2)) fun z =>
                                  Sum.elim (fun _y88 =>
                                    some false) (fun y89 =>
                                    bindO (L2 (Tlaw10_2a y89.1 y89.2.1 y89.2.2.1 y89.2.2.2.1 y89.2.2.2.2 (0 : Int))) fun z =>
                                    Sum.elim (fun _y90 =>
                                      some false) (fun _y91 =>
                                      some true) z) z
                                else none
                              else bif (decide ((List.length y85.2.1) = (y85.1 * 3))) then
                                bif (decide ((0 = 0) ∧ ((0 + y85.1) ≤ big))) then
                                  bif (decide ((0 + y85.1) = (0 + y85.1))) then
                                    bindO (F 57 (RSh.tup [(Prod.mk false [CK.list]), (Prod.mk false [(CK.int .i64)])]) [(PV.agg [(PV.int .i64 y85.2.2.2.2.1), (PV.int .i64 y85.2.2.2.2.2.1), (PV.int .i64 y85.2.2.2.2.2.2.1), (PV.int .i64 y85.2.2.2.2.2.2.2.1)]), (PV.list (0 + y85.1) ([] ++ y85.2.1))]) fun (y92 : (((Nat) × (List PV)) × (Int))) =>
                                    bif (decide (y85.2.2.2.2.2.2.2.2.1 = y85.2.2.2.1)) then
                                      bindO (F 57 (RSh.tup [(Prod.mk false [CK.list]), (Prod.mk false [(CK.int .i64)])]) [(PV.agg [(PV.int .i64 y85.2.2.2.2.1), (PV.int .i64 y85.2.2.2.2.2.1), (PV.int .i64 y85.2.2.2.2.2.2.1), (PV.int .i64 y85.2.2.2.2.2.2.2.1)]), (PV.list y85.2.2.2.1 y85.2.2.2.2.2.2.2.2.2)]) fun (y93 : (((Nat) × (List PV)) × (Int))) =>
                                      bindO (L1000026 (Tlaw10_1000026a y85.2.2.1 y92.1.1 y92.1.2 y92.2 y93.1.1 y93.1.2 y93.2)) fun z =>
                                      Sum.elim (fun _y94 =>
                                        some false) (fun y95 =>
                                        bindO (L2 (Tlaw10_2a y95.1 y95.2.1 y95.2.2.1 y95.2.2.2.1 y95.2.2.2.2 (0 : Int))) fun z =>
                                        Sum.elim (fun _y96 =>
                                          some false) (fun _y97 =>
                                          some true) z) z
                                    else none
                                  else none
                                else none
                              else none
                            else none
                          else none
                        else none
                      else none) z
                  else bif (decide ((List.length y2.2.1) = (y2.1 * 3))) then
                    bif (decide ((0 = 0) ∧ ((0 + y2.1) ≤ big))) then
                      bif (decide ((0 + y2.1) = (0 + y2.1))) then
                        bindO (F 18 (RSh.one (CK.int .i64)) [(PV.int .i64 y2.2.2.2.1), (PV.int .i64 (w64 (y2.2.2.2.2.2.2.2 + (1 : Int))))]) fun (y98 : (Int)) =>
                        bindO (F 56 (RSh.tup [(Prod.mk true [CK.bool, (CK.int .i64), (CK.int .i64), (CK.int .i64), (CK.int .i64)]), (Prod.mk false [(CK.int .i64)])]) [(PV.agg [(PV.int .i64 y2.2.2.2.2.1), (PV.int .i64 y2.2.2.2.2.2.1), (PV.int .i64 y2.2.2.2.2.2.2.1), (PV.int .i64 y2.2.2.2.2.2.2.2)]), (PV.list (0 + y2.1) ([] ++ y2.2.1)), (PV.int .i64 (w64 (x3 + y98)))]) fun (y99 : ((Bool) × ((Int) × ((Int) × ((Int) × ((Int) × (Int))))))) =>
                        bindO (L1000052 (Tlaw10_1000052a y2.1 y2.2.1 y2.2.2.1 x3 y4.2.2.2.2.2 y5.2.2.2.2.2 y67.2.2.2.2.2 y99.2.2.2.2.2 y2.2.2.2.2.1 y2.2.2.2.2.2.1 y2.2.2.2.2.2.2.1 y2.2.2.2.2.2.2.2 y4.1 y4.2.1 y4.2.2.1 y4.2.2.2.1 y4.2.2.2.2.1 y5.1 y5.2.1 y5.2.2.1 y5.2.2.2.1 y5.2.2.2.2.1 y67.1 y67.2.1 y67.2.2.1 y67.2.2.2.1 y67.2.2.2.2.1 y99.1 y99.2.1 y99.2.2.1 y99.2.2.2.1 y99.2.2.2.2.1)) fun z =>
                        Sum.elim (fun _y100 =>
                          some false) (fun y101 =>
                          bif (decide (y101.1 = 0)) then
                            bindO (L0 (Tlaw10_0a y101.1 y101.2.1 y101.2.2.1 0 (0 : Int) y101.2.2.2.1 y101.2.2.2.2.1 y101.2.2.2.2.2.1 y101.2.2.2.2.2.2 0 [])) fun y102 =>
                            bif (decide (y102.1 = 0)) then
                              bindO (F 57 (RSh.tup [(Prod.mk false [CK.list]), (Prod.mk false [(CK.int .i64)])]) [(PV.agg [(PV.int .i64 y102.2.2.2.2.1), (PV.int .i64 y102.2.2.2.2.2.1), (PV.int .i64 y102.2.2.2.2.2.2.1), (PV.int .i64 y102.2.2.2.2.2.2.2.1)]), (PV.list 0 [])]) fun (y103 : (((Nat) × (List PV)) × (Int))) =>
                              bif (decide (y102.2.2.2.2.2.2.2.2.1 = y102.2.2.2.1)) then
                                bindO (F 57 (RSh.tup [(Prod.mk false [CK.list]), (Prod.mk false [(CK.int .i64)])]) [(PV.agg [(PV.int .i64 y102.2.2.2.2.1), (PV.int .i64 y102.2.2.2.2.2.1), (PV.int .i64 y102.2.2.2.2.2.2.1), (PV.int .i64 y102.2.2.2.2.2.2.2.1)]), (PV.list y102.2.2.2.1 y102.2.2.2.2.2.2.2.2.2)]) fun (y104 : (((Nat) × (List PV)) × (Int))) =>
                                bindO (L1000026 (Tlaw10_1000026a y102.2.2.1 y103.1.1 y103.1.2 y103.2 y104.1.1 y104.1.2 y104.2)) fun z =>
                                Sum.elim (fun _y105 =>
                                  some false) (fun y106 =>
                                  bindO (L2 (Tlaw10_2a y106.1 y106.2.1 y106.2.2.1 y106.2.2.2.1 y106.2.2.2.2 (0 : Int))) fun z =>
                                  Sum.elim (fun _y107 =>
                                    some false) (fun _y108 =>
                                    some true) z) z
                              else none
                            else bif (decide ((List.length y102.2.1) = (y102.1 * 3))) then
                              bif (decide ((0 = 0) ∧ ((0 + y102.1) ≤ big))) then
                                bif (decide ((0 + y102.1) = (0 + y102.1))) then
                                  bindO (F 57 (RSh.tup [(Prod.mk false [CK.list]), (Prod.mk false [(CK.int .i64)])]) [(PV.agg [(PV.int .i64 y102.2.2.2.2.1), (PV.int .i64 y102.2.2.2.2.2.1), (PV.int .i64 y102.2.2.2.2.2.2.1), (PV.int .i64 y102.2.2.2.2.2.2.2.1)]), (PV.list (0 + y102.1) ([] ++ y102.2.1))]) fun (y109 : (((Nat) × (List PV)) × (Int))) =>
                                  bif (decide (y102.2.2.2.2.2.2.2.2.1 = y102.2.2.2.1)) then
                                    bindO (F 57 (RSh.tup [(Prod.mk false [CK.list]), (Prod.mk false [(CK.int .i64)])]) [(PV.agg [(PV.int .i64 y102.2.2.2.2.1), (PV.int .i64 y102.2.2.2.2.2.1), (PV.int .i64 y102.2.2.2.2.2.2.1), (PV.int .i64 y102.2.2.2.2.2.2.2.1)]), (PV.list y102.2.2.2.1 y102.2.2.2.2.2.2.2.2.2)]) fun (y110 : (((Nat) × (List PV)) × (Int))) =>
                                    bindO (L1000026 (Tlaw10_1000026a y102.2.2.1 y109.1.1 y109.1.2 y109.2 y110.1.1 y110.1.2 y110.2)) fun z =>
                                    Sum.elim (fun _y111 =>
                                      some false) (fun y112 =>
                                      bindO (L2 (Tlaw10_2a y112.1 y112.2.1 y112.2.2.1 y112.2.2.2.1 y112.2.2.2.2 (0 : Int))) fun z =>
                                      Sum.elim (fun _y113 =>
                                        some false) (fun _y114 =>
                                        some true) z) z
                                  else none
                                else none
                              else none
                            else none
                          else bif (decide ((List.length y101.2.1) = (y101.1 * 3))) then
                            bif (decide ((0 = 0) ∧ ((0 + y101.1) ≤ big))) then
                              bif (decide ((0 + y101.1) = (0 + y101.1))) then
                                bif (decide ((List.all ([] ++ y101.2.1) Gv.plain) = true)) then
                                  bindO (L0 (Tlaw10_0a y101.1 y101.2.1 y101.2.2.1 (0 + y101.1) (0 : Int) y101.2.2.2.1 y101.2.2.2.2.1 y101.2.2.2.2.2.1 y101.2.2.2.2.2.2 (0 + y101.1) ([] ++ y101.2.1))) fun y115 =>
                                  bif (decide (y115.1 = 0)) then
                                    bindO (F 57 (RSh.tup [(Prod.mk false [CK.list]), (Prod.mk false [(CK.int .i64)])]) [(PV.agg [(PV.int .i64 y115.2.2.2.2.1), (PV.int .i64 y115.2.2.2.2.2.1), (PV.int .i64 y115.2.2.2.2.2.2.1), (PV.int .i64 y115.2.2.2.2.2.2.2.1)]), (PV.list 0 [])]) fun (y116 : (((Nat) × (List PV)) × (Int))) =>
                                    bif (decide (y115.2.2.2.2.2.2.2.2.1 = y115.2.2.2.1)) then
                                      bindO (F 57 (RSh.tup [(Prod.mk false [CK.list]), (Prod.mk false [(CK.int .i64)])]) [(PV.agg [(PV.int .i64 y115.2.2.2.2.1), (PV.int .i64 y115.2.2.2.2.2.1), (PV.int .i64 y115.2.2.2.2.2.2.1), (PV.int .i64 y115.2.2.2.2.2.2.2.1)]), (PV.list y115.2.2.2.1 y115.2.2.2.2.2.2.2.2.2)]) fun (y117 : (((Nat) × (List PV)) × (Int))) =>
                                      bindO (L1000026 (Tlaw10_1000026a y115.2.2.1 y116.1.1 y116.1.2 y116.2 y117.1.1 y117.1.2 y117.2)) fun z =>
                                      Sum.elim (fun _y118 =>
                                        some false) (fun y119 =>
                                        bindO (L2 (Tlaw10_2a y119.1 y119.2.1 y119.2.2.1 y119.2.2.2.1 y119.2.2.2.2 (0 : Int))) fun z =>
                                        Sum.elim (fun _y120 =>
                                          some false) (fun _y121 =>
                                          some true) z) z
                                    else none
                                  else bif (decide ((List.length y115.2.1) = (y115.1 * 3))) then
                                    bif (decide ((0 = 0) ∧ ((0 + y115.1) ≤ big))) then
                                      bif (decide ((0 + y115.1) = (0 + y115.1))) then
                                        bindO (F 57 (RSh.tup [(Prod.mk false [CK.list]), (Prod.mk false [(CK.int .i64)])]) [(PV.agg [(PV.int .i64 y115.2.2.2.2.1), (PV.int .i64 y115.2.2.2.2.2.1), (PV.int .i64 y115.2.2.2.2.2.2.1), (PV.int .i64 y115.2.2.2.2.2.2.2.1)]), (PV.list (0 + y115.1) ([] ++ y115.2.1))]) fun (y122 : (((Nat) × (List PV)) × (Int))) =>
                                        bif (decide (y115.2.2.2.2.2.2.2.2.1 = y115.2.2.2.1)) then
                                          bindO (F 57 (RSh.tup [(Prod.mk false [CK.list]), (Prod.mk false [(CK.int .i64)])]) [(PV.agg [(PV.int .i64 y115.2.2.2.2.1), (PV.int .i64 y115.2.2.2.2.2.1), (PV.int .i64 y115.2.2.2.2.2.2.1), (PV.int .i64 y115.2.2.2.2.2.2.2.1)]), (PV.list y115.2.2.2.1 y115.2.2.2.2.2.2.2.2.2)]) fun (y123 : (((Nat) × (List PV)) × (Int))) =>
                                          bindO (L1000026 (Tlaw10_1000026a y115.2.2.1 y122.1.1 y122.1.2 y122.2 y123.1.1 y123.1.2 y123.2)) fun z =>
                                          Sum.elim (fun _y124 =>
                                            some false) (fun y125 =>
                                            bindO (L2 (Tlaw10_2a y125.1 y125.2.1 y125.2.2.1 y125.2.2.2.1 y125.2.2.2.2 (0 : Int))) fun z =>
                                            Sum.elim (fun _y126 =>
                                              some false) (fun _y127 =>
                                              some true) z) z
                                        else none
                                      else none
                                    else none
                                  else none
                                else none
                              else none
                            else none
                          else none) z
                      else none
                    else none
                  else none
                else none
              else none
            else none
          else bif (decide ((List.length y2.2.1) = (y2.1 * 3))) then
            bif (decide ((0 = 0) ∧ ((0 + y2.1) ≤ big))) then
              bif (decide ((0 + y2.1) = (0 + y2.1))) then
                bindO (F 56 (RSh.tup [(Prod.mk true [CK.bool, (CK.int .i64), (CK.int .i64), (CK.int .i64), (CK.int .i64)]), (Prod.mk false [(CK.int .i64)])]) [(PV.agg [(PV.int .i64 y2.2.2.2.2.1), (PV.int .i64 y2.2.2.2.2.2.1), (PV.int .i64 y2.2.2.2.2.2.2.1), (PV.int .i64 y2.2.2.2.2.2.2.2)]), (PV.list (0 + y2.1) ([] ++ y2.2.1)), (PV.int .i64 (w64 (x3 + y2.2.2.2.2.2.2.2)))]) fun (y128 : ((Bool) × ((Int) × ((Int) × ((Int) × ((Int) × (Int))))))) =>
                bif (decide (y2.1 = 0)) then
                  bindO (F 56 (RSh.tup [(Prod.mk true [CK.bool, (CK.int .i64), (CK.int .i64), (CK.int .i64), (CK.int .i64)]), (Prod.mk false [(CK.int .i64)])]) [(PV.agg [(PV.int .i64 y2.2.2.2.2.1), (PV.int .i64 y2.2.2.2.2.2.1), (PV.int .i64 y2.2.2.2.2.2.2.1), (PV.int .i64 y2.2.2.2.2.2.2.2)]), (PV.list 0 []), (PV.int .i64 (w64 ((w64 (x3 + y2.2.2.2.2.2.2.2)) + (1 : Int))))]) fun (y129 : ((Bool) × ((Int) × ((Int) × ((Int) × ((Int) × (Int))))))) =>
                  bif (decide (y2.1 = 0)) then
                    bindO (F 18 (RSh.one (CK.int .i64)) [(PV.int .i64 y2.2.2.2.1), (PV.int .i64 (w64 (y2.2.2.2.2.2.2.2 + (1 : Int))))]) fun (y130 : (Int)) =>
                    bindO (F 56 (RSh.tup [(Prod.mk true [CK.bool, (CK.int .i64), (CK.int .i64), (CK.int .i64), (CK.int .i64)]), (Prod.mk false [(CK.int .i64)])]) [(PV.agg [(PV.int .i64 y2.2.2.2.2.1), (PV.int .i64 y2.2.2.2.2.2.1), (PV.int .i64 y2.2.2.2.2.2.2.1), (PV.int .i64 y2.2.2.2.2.2.2.2)]), (PV.list 0 []), (PV.int .i64 (w64 (x3 + y130)))]) fun (y131 : ((Bool) × ((Int) × ((Int) × ((Int) × ((Int) × (Int))))))) =>
                    bindO (L1000052 (Tlaw10_1000052a y2.1 y2.2.1 y2.2.2.1 x3 y4.2.2.2.2.2 y128.2.2.2.2.2 y129.2.2.2.2.2 y131.2.2.2.2.2 y2.2.2.2.2.1 y2.2.2.2.2.2.1 y2.2.2.2.2.2.2.1 y2.2.2.2.2.2.2.2 y4.1 y4.2.1 y4.2.2.1 y4.2.2.2.1 y4.2.2.2.2.1 y128.1 y128.2.1 y128.2.2.1 y128.2.2.2.1 y128.2.2.2.2.1 y129.1 y129.2.1 y129.2.2.1 y129.2.2.2.1 y129.2.2.2.2.1 y131.1 y131.2.1 y131.2.2.1 y131.2.2.2.1 y131.2.2.2.2.1)) fun z =>
                    Sum.elim (fun _y132 =>
                      some false) (fun y133 =>
                      bif (decide (y133.1 = 0)) then
                        bindO (L0 (Tlaw10_0a y133.1 y133.2.1 y133.2.2.1 0 (0 : Int) y133.2.2.2.1 y133.2.2.2.2.1 y133.2.2.2.2.2.1 y133.2.2.2.2.2.2 0 [])) fun y134 =>
                        bif (decide (y134.1 = 0)) then
                          bindO (F 57 (RSh.tup [(Prod.mk false [CK.list]), (Prod.mk false [(CK.int .i64)])]) [(PV.agg [(PV.int .i64 y134.2.2.2.2.1), (PV.int .i64 y134.2.2.2.2.2.1), (PV.int .i64 y134.2.2.2.2.2.2.1), (PV.int .i64 y134.2.2.2.2.2.2.2.1)]), (PV.list 0 [])]) fun (y135 : (((Nat) × (List PV)) × (Int))) =>
                          bif (decide (y134.2.2.2.2.2.2.2.2.1 = y134.2.2.2.1)) then
                            bindO (F 57 (RSh.tup [(Prod.mk false [CK.list]), (Prod.mk false [(CK.int .i64)])]) [(PV.agg [(PV.int .i64 y134.2.2.2.2.1), (PV.int .i64 y134.2.2.2.2.2.1), (PV.int .i64 y134.2.2.2.2.2.2.1), (PV.int .i64 y134.2.2.2.2.2.2.2.1)]), (PV.list y134.2.2.2.1 y134.2.2.2.2.2.2.2.2.2)]) fun (y136 : (((Nat) × (List PV)) × (Int))) =>
                            bindO (L1000026 (Tlaw10_1000026a y134.2.2.1 y135.1.1 y135.1.2 y135.2 y136.1.1 y136.1.2 y136.2)) fun z =>
                            Sum.elim (fun _y137 =>
                              some false) (fun y138 =>
                              bindO (L2 (Tlaw10_2a y138.1 y138.2.1 y138.2.2.1 y138.2.2.2.1 y138.2.2.2.2 (0 : Int))) fun z =>
                              Sum.elim (fun _y139 =>
                                some false) (fun _y140 =>
                                some true) z) z
                          else none
                        else bif (decide ((List.length y134.2.1) = (y134.1 * 3))) then
                          bif (decide ((0 = 0) ∧ ((0 + y134.1) ≤ big))) then
                            bif (decide ((0 + y134.1) = (0 + y134.1))) then
                              bindO (F 57 (RSh.tup [(Prod.mk false [CK.list]), (Prod.mk false [(CK.int .i64)])]) [(PV.agg [(PV.int .i64 y134.2.2.2.2.1), (PV.int .i64 y134.2.2.2.2.2.1), (PV.int .i64 y134.2.2.2.2.2.2.1), (PV.int .i64 y134.2.2.2.2.2.2.2.1)]), (PV.list (0 + y134.1) ([] ++ y134.2.1))]) fun (y141 : (((Nat) × (List PV)) × (Int))) =>
                              bif (decide (y134.2.2.2.2.2.2.2.2.1 = y134.2.2.2.1)) then
                                bindO (F 57 (RSh.tup [(Prod.mk false [CK.list]), (Prod.mk false [(CK.int .i64)])]) [(PV.agg [(PV.int .i64 y134.2.2.2.2.1), (PV.int .i64 y134.2.2.2.2.2.1), (PV.int .i64 y134.2.2.2.2.2.2.1), (PV.int .i64 y134.2.2.2.2.2.2.2.1)]), (PV.list y134.2.2.2.1 y134.2.2.2.2.2.2.2.2.2)]) fun (y142 : (((Nat) × (List PV)) × (Int))) =>
                                bindO (L1000026 (Tlaw10_1000026a y134.2.2.1 y141.1.1 y141.1.2 y141.2 y142.1.1 y142.1.2 y142.2)) fun z =>
                                Sum.elim (fun _y143 =>
                                  some false) (fun y144 =>
                                  bindO (L2 (Tlaw10_2a y144.1 y144.2.1 y144.2.2.1 y144.2.2.2.1 y144.2.2.2.2 (0 : Int))) fun z =>
                                  Sum.elim (fun _y145 =>
                                    some false) (fun _y146 =>
                                    some true) z) z
                              else none
                            else none
                          else none
                        else none
                      else bif (decide ((List.length y133.2.1) = (y133.1 * 3))) then
                        bif (decide ((0 = 0) ∧ ((0 + y133.1) ≤ big))) then
                          bif (decide ((0 + y133.1) = (0 + y133.1))) then
                            bif (decide ((List.all ([] ++ y133.2.1) Gv.plain) = true)) then
                              bindO (L0 (Tlaw10_0a y133.1 y133.2.1 y133.2.2.1 (0 + y133.1) (0 : Int) y133.2.2.2.1 y133.2.2.2.2.1 y133.2.2.2.2.2.1 y133.2.2.2.2.2.2 (0 + y133.1) ([] ++ y133.2.1))) fun y147 =>
                              bif (decide (y147.1 = 0)) then
                                bindO (F 57 (RSh.tup [(Prod.mk false [CK.list]), (Prod.mk false [(CK.int .i64)])]) [(PV.agg [(PV.int .i64 y147.2.2.2.2.1), (PV.int .i64 y147.2.2.2.2.2.1), (PV.int .i64 y147.2.2.2.2.2.2.1), (PV.int .i64 y147.2.2.2.2.2.2.2.1)]), (PV.list 0 [])]) fun (y148 : (((Nat) × (List PV)) × (Int))) =>
                                bif (decide (y147.2.2.2.2.2.2.2.2.1 = y147.2.2.2.1)) then
                                  bindO (F 57 (RSh.tup [(Prod.mk false [CK.list]), (Prod.mk false [(CK.int .i64)])]) [(PV.agg [(PV.int .i64 y147.2.2.2.2.1), (PV.int .i64 y147.2.2.2.2.2.1), (PV.int .i64 y147.2.2.2.2.2.2.1), (PV.int .i64 y147.2.2.2.2.2.2.2.1)]), (PV.list y147.2.2.2.1 y147.2.2.2.2.2.2.2.2.2)]) fun (y149 : (((Nat) × (List PV)) × (Int))) =>
                                  bindO (L1000026 (Tlaw10_1000026a y147.2.2.1 y148.1.1 y148.1.2 y148.2 y149.1.1 y149.1.2 y149.2)) fun z =>
                                  Sum.elim (fun _y150 =>
                                    some false) (fun y151 =>
                                    bindO (L2 (Tlaw10_2a y151.1 y151.2.1 y151.2.2.1 y151.2.2.2.1 y151.2.2.2.2 (0 : Int))) fun z =>
                                    Sum.elim (fun _y152 =>
                                      some false) (fun _y153 =>
                                      some true) z) z
                                else none
                              else bif (decide ((List.length y147.2.1) = (y147.1 * 3))) then
                                bif (decide ((0 = 0) ∧ ((0 + y147.1) ≤ big))) then
                                  bif (decide ((0 + y147.1) = (0 + y147.1))) then
                                    bindO (F 57 (RSh.tup [(Prod.mk false [CK.list]), (Prod.mk false [(CK.int .i64)])]) [(PV.agg [(PV.int .i64 y147.2.2.2.2.1), (PV.int .i64 y147.2.2.2.2.2.1), (PV.int .i64 y147.2.2.2.2.2.2.1), (PV.int .i64 y147.2.2.2.2.2.2.2.1)]), (PV.list (0 + y147.1) ([] ++ y147.2.1))]) fun (y154 : (((Nat) × (List PV)) × (Int))) =>
                                    bif (decide (y147.2.2.2.2.2.2.2.2.1 = y147.2.2.2.1)) then
                                      bindO (F 57 (RSh.tup [(Prod.mk false [CK.list]), (Prod.mk false [(CK.int .i64)])]) [(PV.agg [(PV.int .i64 y147.2.2.2.2.1), (PV.int .i64 y147.2.2.2.2.2.1), (PV.int .i64 y147.2.2.2.2.2.2.1), (PV.int .i64 y147.2.2.2.2.2.2.2.1)]), (PV.list y147.2.2.2.1 y147.2.2.2.2.2.2.2.2.2)]) fun (y155 : (((Nat) × (List PV)) × (Int))) =>
                                      bindO (L1000026 (Tlaw10_1000026a y147.2.2.1 y154.1.1 y154.1.2 y154.2 y155.1.1 y155.1.2 y155.2)) fun z =>
                                      Sum.elim (fun _y156 =>
                                        some false) (fun y157 =>
                                        bindO (L2 (Tlaw10_2a y157.1 y157.2.1 y157.2.2.1 y157.2.2.2.1 y157.2.2.2.2 (0 : Int))) fun z =>
                                        Sum.elim (fun _y158 =>
                                          some false) (fun _y159 =>
                                          some true) z) z
                                    else none
                                  else none
                                else none
                              else none
                            else none
                          else none
                        else none
                      else none) z
                  else bif (decide ((List.length y2.2.1) = (y2.1 * 3))) then
                    bif (decide ((0 = 0) ∧ ((0 + y2.1) ≤ big))) then
                      bif (decide ((0 + y2.1) = (0 + y2.1))) then
                        bindO (F 18 (RSh.one (CK.int .i64)) [(PV.int .i64 y2.2.2.2.1), (PV.int .i64 (w64 (y2.2.2.2.2.2.2.2 + (1 : Int))))]) fun (y160 : (Int)) =>
                        bindO (F 56 (RSh.tup [(Prod.mk true [CK.bool, (CK.int .i64), (CK.int .i64), (CK.int .i64), (CK.int .i64)]), (Prod.mk false [(CK.int .i64)])]) [(PV.agg [(PV.int .i64 y2.2.2.2.2.1), (PV.int .i64 y2.2.2.2.2.2.1), (PV.int .i64 y2.2.2.2.2.2.2.1), (PV.int .i64 y2.2.2.2.2.2.2.2)]), (PV.list (0 + y2.1) ([] ++ y2.2.1)), (PV.int .i64 (w64 (x3 + y160)))]) fun (y161 : ((Bool) × ((Int) × ((Int) × ((Int) × ((Int) × (Int))))))) =>
                        bindO (L1000052 (Tlaw10_1000052a y2.1 y2.2.1 y2.2.2.1 x3 y4.2.2.2.2.2 y128.2.2.2.2.2 y129.2.2.2.2.2 y161.2.2.2.2.2 y2.2.2.2.2.1 y2.2.2.2.2.2.1 y2.2.2.2.2.2.2.1 y2.2.2.2.2.2.2.2 y4.1 y4.2.1 y4.2.2.1 y4.2.2.2.1 y4.2.2.2.2.1 y128.1 y128.2.1 y128.2.2.1 y128.2.2.2.1 y128.2.2.2.2.1 y129.1 y129.2.1 y129.2.2.1 y129.2.2.2.1 y129.2.2.2.2.1 y161.1 y161.2.1 y161.2.2.1 y161.2.2.2.1 y161.2.2.2.2.1)) fun z =>
                        Sum.elim (fun _y162 =>
                          some false) (fun y163 =>
                          bif (decide (y163.1 = 0)) then
                            bindO (L0 (Tlaw10_0a y163.1 y163.2.1 y163.2.2.1 0 (0 : Int) y163.2.2.2.1 y163.2.2.2.2.1 y163.2.2.2.2.2.1 y163.2.2.2.2.2.2 0 [])) fun y164 =>
                            bif (decide (y164.1 = 0)) then
                              bindO (F 57 (RSh.tup [(Prod.mk false [CK.list]), (Prod.mk false [(CK.int .i64)])]) [(PV.agg [(PV.int .i64 y164.2.2.2.2.1), (PV.int .i64 y164.2.2.2.2.2.1), (PV.int .i64 y164.2.2.2.2.2.2.1), (PV.int .i64 y164.2.2.2.2.2.2.2.1)]), (PV.list 0 [])]) fun (y165 : (((Nat) × (List PV)) × (Int))) =>
                              bif (decide (y164.2.2.2.2.2.2.2.2.1 = y164.2.2.2.1)) then
                                bindO (F 57 (RSh.tup [(Prod.mk false [CK.list]), (Prod.mk false [(CK.int .i64)])]) [(PV.agg [(PV.int .i64 y164.2.2.2.2.1), (PV.int .i64 y164.2.2.2.2.2.1), (PV.int .i64 y164.2.2.2.2.2.2.1), (PV.int .i64 y164.2.2.2.2.2.2.2.1)]), (PV.list y164.2.2.2.1 y164.2.2.2.2.2.2.2.2.2)]) fun (y166 : (((Nat) × (List PV)) × (Int))) =>
                                bindO (L1000026 (Tlaw10_1000026a y164.2.2.1 y165.1.1 y165.1.2 y165.2 y166.1.1 y166.1.2 y166.2)) fun z =>
                                Sum.elim (fun _y167 =>
                                  some false) (fun y168 =>
                                  bindO (L2 (Tlaw10_2a y168.1 y168.2.1 y168.2.2.1 y168.2.2.2.1 y168.2.2.2.2 (0 : Int))) fun z =>
                                  Sum.elim (fun _y169 =>
                                    some false) (fun _y170 =>
                                    some true) z) z
                              else none
                            else bif (decide ((List.length y164.2.1) = (y164.1 * 3))) then
                              bif (decide ((0 = 0) ∧ ((0 + y164.1) ≤ big))) then
                                bif (decide ((0 + y164.1) = (0 + y164.1))) then
                                  bindO (F 57 (RSh.tup [(Prod.mk false [CK.list]), (Prod.mk false [(CK.int .i64)])]) [(PV.agg [(PV.int .i64 y164.2.2.2.2.1), (PV.int .i64 y164.2.2.2.2.2.1), (PV.int .i64 y164.2.2.2.2.2.2.1), (PV.int .i64 y164.2.2.2.2.2.2.2.1)]), (PV.list (0 + y164.1) ([] ++ y164.2.1))]) fun (y171 : (((Nat) × (List PV)) × (Int))) =>
                                  bif (decide (y164.2.2.2.2.2.2.2.2.1 = y164.2.2.2.1)) then
                                    bindO (F 57 (RSh.tup [(Prod.mk false [CK.list]), (Prod.mk false [(CK.int .i64)])]) [(PV.agg [(PV.int .i64 y164.2.2.2.2.1), (PV.int .i64 y164.2.2.2.2.2.1), (PV.int .i64 y164.2.2.2.2.2.2.1), (PV.int .i64 y164.2.2.2.2.2.2.2.1)]), (PV.list y164.2.2.2.1 y164.2.2.2.2.2.2.2.2.2)]) fun (y172 : (((Nat) × (List PV)) × (Int))) =>
                                    bindO (L1000026 (Tlaw10_1000026a y164.2.2.1 y171.1.1 y171.1.2 y171.2 y172.1.1 y172.1.2 y172.2)) fun z =>
                                    Sum.elim (fun _y173 =>
                                      some false) (fun y174 =>
                                      bindO (L2 (Tlaw10_2a y174.1 y174.2.1 y174.2.2.1 y174.2.2.2.1 y174.2.2.2.2 (0 : Int))) fun z =>
                                      Sum.elim (fun _y175 =>
                                        some false) (fun _y176 =>
                                        some true) z) z
                                  else none
                                else none
                              else none
                            else none
                          else bif (decide ((List.length y163.2.1) = (y163.1 * 3))) then
                            bif (decide ((0 = 0) ∧ ((0 + y163.1) ≤ big))) then
                              bif (decide ((0 + y163.1) = (0 + y163.1))) then
                                bif (decide ((List.all ([] ++ y163.2.1) Gv.plain) = true)) then
                                  bindO (L0 (Tlaw10_0a y163.1 y163.2.1 y163.2.2.1 (0 + y163.1) (0 : Int) y163.2.2.2.1 y163.2.2.2.2.1 y163.2.2.2.2.2.1 y163.2.2.2.2.2.2 (0 + y163.1) ([] ++ y163.2.1))) fun y177 =>
                                  bif (decide (y177.1 = 0)) then
                                    bindO (F 57 (RSh.tup [(Prod.mk false [CK.list]), (Prod.mk false [(CK.int .i64)])]) [(PV.agg [(PV.int .i64 y177.2.2.2.2.1), (PV.int .i64 y177.2.2.2.2.2.1), (PV.int .i64 y177.2.2.2.2.2.2.1), (PV.int .i64 y177.2.2.2.2.2.2.2.1)]), (PV.list 0 [])]) fun (y178 : (((Nat) × (List PV)) × (Int))) =>
                                    bif (decide (y177.2.2.2.2.2.2.2.2.1 = y177.2.2.2.1)) then
                                      bindO (F 57 (RSh.tup [(Prod.mk false [CK.list]), (Prod.mk false [(CK.int .i64)])]) [(PV.agg [(PV.int .i64 y177.2.2.2.2.1), (PV.int .i64 y177.2.2.2.2.2.1), (PV.int .i64 y177.2.2.2.2.2.2.1), (PV.int .i64 y177.2.2.2.2.2.2.2.1)]), (PV.list y177.2.2.2.1 y177.2.2.2.2.2.2.2.2.2)]) fun (y179 : (((Nat) × (List PV)) × (Int))) =>
                                      bindO (L1000026 (Tlaw10_1000026a y177.2.2.1 y178.1.1 y178.1.2 y178.2 y179.1.1 y179.1.2 y179.2)) fun z =>
                                      Sum.elim (fun _y180 =>
                                        some false) (fun y181 =>
                                        bindO (L2 (Tlaw10_2a y181.1 y181.2.1 y181.2.2.1 y181.2.2.2.1 y181.2.2.2.2 (0 : Int))) fun z =>
                                        Sum.elim (fun _y182 =>
                                          some false) (fun _y183 =>
                                          some true) z) z
                                    else none
                                  else bif (decide ((List.length y177.2.1) = (y177.1 * 3))) then
                                    bif (decide ((0 = 0) ∧ ((0 + y177.1) ≤ big))) then
                                      bif (decide ((0 + y177.1) = (0 + y177.1))) then
                                        bindO (F 57 (RSh.tup [(Prod.mk false [CK.list]), (Prod.mk false [(CK.int .i64)])]) [(PV.agg [(PV.int .i64 y177.2.2.2.2.1), (PV.int .i64 y177.2.2.2.2.2.1), (PV.int .i64 y177.2.2.2.2.2.2.1), (PV.int .i64 y177.2.2.2.2.2.2.2.1)]), (PV.list (0 + y177.1) ([] ++ y177.2.1))]) fun (y184 : (((Nat) × (List PV)) × (Int))) =>
                                        bif (decide (y177.2.2.2.2.2.2.2.2.1 = y177.2.2.2.1)) then
                                          bindO (F 57 (RSh.tup [(Prod.mk false [CK.list]), (Prod.mk false [(CK.int .i64)])]) [(PV.agg [(PV.int .i64 y177.2.2.2.2.1), (PV.int .i64 y177.2.2.2.2.2.1), (PV.int .i64 y177.2.2.2.2.2.2.1), (PV.int .i64 y177.2.2.2.2.2.2.2.1)]), (PV.list y177.2.2.2.1 y177.2.2.2.2.2.2.2.2.2)]) fun (y185 : (((Nat) × (List PV)) × (Int))) =>
                                          bindO (L1000026 (Tlaw10_1000026a y177.2.2.1 y184.1.1 y184.1.2 y184.2 y185.1.1 y185.1.2 y185.2)) fun z =>
                                          Sum.elim (fun _y186 =>
                                            some false) (fun y187 =>
                                            bindO (L2 (Tlaw10_2a y187.1 y187.2.1 y187.2.2.1 y187.2.2.2.1 y187.2.2.2.2 (0 : Int))) fun z =>
                                            Sum.elim (fun _y188 =>
                                              some false) (fun _y189 =>
                                              some true) z) z
                                        else none
                                      else none
                                    else none
                                  else none
                                else none
                              else none
                            else none
                          else none) z
                      else none
                    else none
                  else none
                else bif (decide ((List.length y2.2.1) = (y2.1 * 3))) then
                  bif (decide ((0 = 0) ∧ ((0 + y2.1) ≤ big))) then
                    bif (decide ((0 + y2.1) = (0 + y2.1))) then
                      bindO (F 56 (RSh.tup [(Prod.mk true [CK.bool, (CK.int .i64), (CK.int .i64), (CK.int .i64), (CK.int .i64)]), (Prod.mk false [(CK.int .i64)])]) [(PV.agg [(PV.int .i64 y2.2.2.2.2.1), (PV.int .i64 y2.2.2.2.2.2.1), (PV.int .i64 y2.2.2.2.2.2.2.1), (PV.int .i64 y2.2.2.2.2.2.2.2)]), (PV.list (0 + y2.1) ([] ++ y2.2.1)), (PV.int .i64 (w64 ((w64 (x3 + y2.2.2.2.2.2.2.2)) + (1 : Int))))]) fun (y190 : ((Bool) × ((Int) × ((Int) × ((Int) × ((Int) × (Int))))))) =>
                      bif (decide (y2.1 = 0)) then
                        bindO (F 18 (RSh.one (CK.int .i64)) [(PV.int .i64 y2.2.2.2.1), (PV.int .i64 (w64 (y2.2.2.2.2.2.2.2 + (1 : Int))))]) fun (y191 : (Int)) =>
                        bindO (F 56 (RSh.tup [(Prod.mk true [CK.bool, (CK.int .i64), (CK.int .i64), (CK.int .i64), (CK.int .i64)]), (Prod.mk false [(CK.int .i64)])]) [(PV.agg [(PV.int .i64 y2.2.2.2.2.1), (PV.int .i64 y2.2.2.2.2.2.1), (PV.int .i64 y2.2.2.2.2.2.2.1), (PV.int .i64 y2.2.2.2.2.2.2.2)]), (PV.list 0 []), (PV.int .i64 (w64 (x3 + y191)))]) fun (y192 : ((Bool) × ((Int) × ((Int) × ((Int) × ((Int) × (Int))))))) =>
                        bindO (L1000052 (Tlaw10_1000052a y2.1 y2.2.1 y2.2.2.1 x3 y4.2.2.2.2.2 y128.2.2.2.2.2 y190.2.2.2.2.2 y192.2.2.2.2.2 y2.2.2.2.2.1 y2.2.2.2.2.2.1 y2.2.2.2.2.2.2.1 y2.2.2.2.2.2.2.2 y4.1 y4.2.1 y4.2.2.1 y4.2.2.2.1 y4.2.2.2.2.1 y128.1 y128.2.1 y128.2.2.1 y128.2.2.2.1 y128.2.2.2.2.1 y190.1 y190.2.1 y190.2.2.1 y190.2.2.2.1 y190.2.2.2.2.1 y192.1 y192.2.1 y192.2.2.1 y192.2.2.2.1 y192.2.2.2.2.1)) fun z =>
                        Sum.elim (fun _y193 =>
                          some false) (fun y194 =>
                          bif (decide (y194.1 = 0)) then
                            bindO (L0 (Tlaw10_0a y194.1 y194.2.1 y194.2.2.1 0 (0 : Int) y194.2.2.2.1 y194.2.2.2.2.1 y194.2.2.2.2.2.1 y194.2.2.2.2.2.2 0 [])) fun y195 =>
                            bif (decide (y195.1 = 0)) then
                              bindO (F 57 (RSh.tup [(Prod.mk false [CK.list]), (Prod.mk false [(CK.int .i64)])]) [(PV.agg [(PV.int .i64 y195.2.2.2.2.1), (PV.int .i64 y195.2.2.2.2.2.1), (PV.int .i64 y195.2.2.2.2.2.2.1), (PV.int .i64 y195.2.2.2.2.2.2.2.1)]), (PV.list 0 [])]) fun (y196 : (((Nat) × (List PV)) × (Int))) =>
                              bif (decide (y195.2.2.2.2.2.2.2.2.1 = y195.2.2.2.1)) then
                                bindO (F 57 (RSh.tup [(Prod.mk false [CK.list]), (Prod.mk false [(CK.int .i64)])]) [(PV.agg [(PV.int .i64 y195.2.2.2.2.1), (PV.int .i64 y195.2.2.2.2.2.1), (PV.int .i64 y195.2.2.2.2.2.2.1), (PV.int .i64 y195.2.2.2.2.2.2.2.1)]), (PV.list y195.2.2.2.1 y195.2.2.2.2.2.2.2.2.2)]) fun (y197 : (((Nat) × (List PV)) × (Int))) =>
                                bindO (L1000026 (Tlaw10_1000026a y195.2.2.1 y196.1.1 y196.1.2 y196.2 y197.1.1 y197.1.2 y197.2)) fun z =>
                                Sum.elim (fun _y198 =>
                                  some false) (fun y199 =>
                                  bindO (L2 (Tlaw10_2a y199.1 y199.2.1 y199.2.2.1 y199.2.2.2.1 y199.2.2.2.2 (0 : Int))) fun z =>
                                  Sum.elim (fun _y200 =>
                                    some false) (fun _y201 =>
                                    some true) z) z
                              else none
                            else bif (decide ((List.length y195.2.1) = (y195.1 * 3))) then
                              bif (decide ((0 = 0) ∧ ((0 + y195.1) ≤ big))) then
                                bif (decide ((0 + y195.1) = (0 + y195.1))) then
                                  bindO (F 57 (RSh.tup [(Prod.mk false [CK.list]), (Prod.mk false [(CK.int .i64)])]) [(PV.agg [(PV.int .i64 y195.2.2.2.2.1), (PV.int .i64 y195.2.2.2.2.2.1), (PV.int .i64 y195.2.2.2.2.2.2.1), (PV.int .i64 y195.2.2.2.2.2.2.2.1)]), (PV.list (0 + y195.1) ([] ++ y195.2.1))]) fun (y202 : (((Nat) × (List PV)) × (Int))) =>
                                  bif (decide (y195.2.2.2.2.2.2.2.2.1 = y195.2.2.2.1)) then
                                    bindO (F 57 (RSh.tup [(Prod.mk false [CK.list]), (Prod.mk false [(CK.int .i64)])]) [(PV.agg [(PV.int .i64 y195.2.2.2.2.1), (PV.int .i64 y195.2.2.2.2.2.1), (PV.int .i64 y195.2.2.2.2.2.2.1), (PV.int .i64 y195.2.2.2.2.2.2.2.1)]), (PV.list y195.2.2.2.1 y195.2.2.2.2.2.2.2.2.2)]) fun (y203 : (((Nat) × (List PV)) × (Int))) =>
                                    bindO (L1000026 (Tlaw10_1000026a y195.2.2.1 y202.1.1 y202.1.2 y202.2 y203.1.1 y203.1.2 y203.2)) fun z =>
                                    Sum.elim (fun _y204 =>
                                      some false) (fun y205 =>
                                      bindO (L2 (Tlaw10_2a y205.1 y205.2.1 y205.2.2.1 y205.2.2.2.1 y205.2.2.2.2 (0 : Int))) fun z =>
                                      Sum.elim (fun _y206 =>
                                        some false) (fun _y207 =>
                                        some true) z) z
                                  else none
                                else none
                              else none
                            else none
                          else bif (decide ((List.length y194.2.1) = (y194.1 * 3))) then
                            bif (decide ((0 = 0) ∧ ((0 + y194.1) ≤ big))) then
                              bif (decide ((0 + y194.1) = (0 + y194.1))) then
                                bif (decide ((List.all ([] ++ y194.2.1) Gv.plain) = true)) then
                                  bindO (L0 (Tlaw10_0a y194.1 y194.2.1 y194.2.2.1 (0 + y194.1) (0 : Int) y194.2.2.2.1 y194.2.2.2.2.1 y194.2.2.2.2.2.1 y194.2.2.2.2.2.2 (0 + y194.1) ([] ++ y194.2.1))) fun y208 =>
                                  bif (decide (y208.1 = 0)) then
                                    bindO (F 57 (RSh.tup [(Prod.mk false [CK.list]), (Prod.mk false [(CK.int .i64)])]) [(PV.agg [(PV.int .i64 y208.2.2.2.2.1), (PV.int .i64 y208.2.2.2.2.2.1), (PV.int .i64 y208.2.2.2.2.2.2.1), (PV.int .i64 y208.2.2.2.2.2.2.2.1)]), (PV.list 0 [])]) fun (y209 : (((Nat) × (List PV)) × (Int))) =>
                                    bif (decide (y208.2.2.2.2.2.2.2.2.1 = y208.2.2.2.1)) then
                                      bindO (F 57 (RSh.tup [(Prod.mk false [CK.list]), (Prod.mk false [(CK.int .i64)])]) [(PV.agg [(PV.int .i64 y208.2.2.2.2.1), (PV.int .i64 y208.2.2.2.2.2.1), (PV.int .i64 y208.2.2.2.2.2.2.1), (PV.int .i64 y208.2.2.2.2.2.2.2.1)]), (PV.list y208.2.2.2.1 y208.2.2.2.2.2.2.2.2.2)]) fun (y210 : (((Nat) × (List PV)) × (Int))) =>
                                      bindO (L1000026 (Tlaw10_1000026a y208.2.2.1 y209.1.1 y209.1.2 y209.2 y210.1.1 y210.1.2 y210.2)) fun z =>
                                      Sum.elim (fun _y211 =>
                                        some false) (fun y212 =>
                                        bindO (L2 (Tlaw10_2a y212.1 y212.2.1 y212.2.2.1 y212.2.2.2.1 y212.2.2.2.2 (0 : Int))) fun z =>
                                        Sum.elim (fun _y213 =>
                                          some false) (fun _y214 =>
                                          some true) z) z
                                    else none
                                  else bif (decide ((List.length y208.2.1) = (y208.1 * 3))) then
                                    bif (decide ((0 = 0) ∧ ((0 + y208.1) ≤ big))) then
                                      bif (decide ((0 + y208.1) = (0 + y208.1))) then
                                        bindO (F 57 (RSh.tup [(Prod.mk false [CK.list]), (Prod.mk false [(CK.int .i64)])]) [(PV.agg [(PV.int .i64 y208.2.2.2.2.1), (PV.int .i64 y208.2.2.2.2.2.1), (PV.int .i64 y208.2.2.2.2.2.2.1), (PV.int .i64 y208.2.2.2.2.2.2.2.1)]), (PV.list (0 + y208.1) ([] ++ y208.2.1))]) fun (y215 : (((Nat) × (List PV)) × (Int))) =>
                                        bif (decide (y208.2.2.2.2.2.2.2.2.1 = y208.2.2.2.1)) then
                                          bindO (F 57 (RSh.tup [(Prod.mk false [CK.list]), (Prod.mk false [(CK.int .i64)])]) [(PV.agg [(PV.int .i64 y208.2.2.2.2.1), (PV.int .i64 y208.2.2.2.2.2.1), (PV.int .i64 y208.2.2.2.2.2.2.1), (PV.int .i64 y208.2.2.2.2.2.2.2.1)]), (PV.list y208.2.2.2.1 y208.2.2.2.2.2.2.2.2.2)]) fun (y216 : (((Nat) × (List PV)) × (Int))) =>
                                          bindO (L1000026 (Tlaw10_1000026a y208.2.2.1 y215.1.1 y215.1.2 y215.2 y216.1.1 y216.1.2 y216.2)) fun z =>
                                          Sum.elim (fun _y217 =>
                                            some false) (fun y218 =>
                                            bindO (L2 (Tlaw10_2a y218.1 y218.2.1 y218.2.2.1 y218.2.2.2.1 y218.2.2.2.2 (0 : Int))) fun z =>
                                            Sum.elim (fun _y219 =>
                                              some false) (fun _y220 =>
                                              some true) z) z
                                        else none
                                      else none
                                    else none
                                  else none
                                else none
                              else none
                            else none
                          else none) z
                      else bif (decide ((List.length y2.2.1) = (y2.1 * 3))) then
                        bif (decide ((0 = 0) ∧ ((0 + y2.1) ≤ big))) then
                          bif (decide ((0 + y2.1) = (0 + y2.1))) then
                            bindO (F 18 (RSh.one (CK.int .i64)) [(PV.int .i64 y2.2.2.2.1), (PV.int .i64 (w64 (y2.2.2.2.2.2.2.2 + (1 : Int))))]) fun (y221 : (Int)) =>
                            bindO (F 56 (RSh.tup [(Prod.mk true [CK.bool, (CK.int .i64), (CK.int .i64), (CK.int .i64), (CK.int .i64)]), (Prod.mk false [(CK.int .i64)])]) [(PV.agg [(PV.int .i64 y2.2.2.2.2.1), (PV.int .i64 y2.2.2.2.2.2.1), (PV.int .i64 y2.2.2.2.2.2.2.1), (PV.int .i64 y2.2.2.2.2.2.2.2)]), (PV.list (0 + y2.1) ([] ++ y2.2.1)), (PV.int .i64 (w64 (x3 + y221)))]) fun (y222 : ((Bool) × ((Int) × ((Int) × ((Int) × ((Int) × (Int))))))) =>
                            bindO (L1000052 (Tlaw10_1000052a y2.1 y2.2.1 y2.2.2.1 x3 y4.2.2.2.2.2 y128.2.2.2.2.2 y190.2.2.2.2.2 y222.2.2.2.2.2 y2.2.2.2.2.1 y2.2.2.2.2.2.1 y2.2.2.2.2.2.2.1 y2.2.2.2.2.2.2.2 y4.1 y4.2.1 y4.2.2.1 y4.2.2.2.1 y4.2.2.2.2.1 y128.1 y128.2.1 y128.2.2.1 y128.2.2.2.1 y128.2.2.2.2.1 y190.1 y190.2.1 y190.2.2.1 y190.2.2.2.1 y190.2.2.2.2.1 y222.1 y222.2.1 y222.2.2.1 y222.2.2.2.1 y222.2.2.2.2.1)) fun z =>
                            Sum.elim (fun _y223 =>
                              some false) (fun y224 =>
                              bif (decide (y224.1 = 0)) then
                                bindO (L0 (Tlaw10_0a y224.1 y224.2.1 y224.2.2.1 0 (0 : Int) y224.2.2.2.1 y224.2.2.2.2.1 y224.2.2.2.2.2.1 y224.2.2.2.2.2.2 0 [])) fun y225 =>
                                bif (decide (y225.1 = 0)) then
                                  bindO (F 57 (RSh.tup [(Prod.mk false [CK.list]), (Prod.mk false [(CK.int .i64)])]) [(PV.agg [(PV.int .i64 y225.2.2.2.2.1), (PV.int .i64 y225.2.2.2.2.2.1), (PV.int .i64 y225.2.2.2.2.2.2.1), (PV.int .i64 y225.2.2.2.2.2.2.2.1)]), (PV.list 0 [])]) fun (y226 : (((Nat) × (List PV)) × (Int))) =>
                                  bif (decide (y225.2.2.2.2.2.2.2.2.1 = y225.2.2.2.1)) then
                                    bindO (F 57 (RSh.tup [(Prod.mk false [CK.list]), (Prod.mk false [(CK.int .i64)])]) [(PV.agg [(PV.int .i64 y225.2.2.2.2.1), (PV.int .i64 y225.2.2.2.2.2.1), (PV.int .i64 y225.2.2.2.2.2.2.1), (PV.int .i64 y225.2.2.2.2.2.2.2.1)]), (PV.list y225.2.2.2.1 y225.2.2.2.2.2.2.2.2.2)]) fun (y227 : (((Nat) × (List PV)) × (Int))) =>
                                    bindO (L1000026 (Tlaw10_1000026a y225.2.2.1 y226.1.1 y226.1.2 y226.2 y227.1.1 y227.1.2 y227.2)) fun z =>
                                    Sum.elim (fun _y228 =>
                                      some false) (fun y229 =>
                                      bindO (L2 (Tlaw10_2a y229.1 y229.2.1 y229.2.2.1 y229.2.2.2.1 y229.2.2.2.2 (0 : Int))) fun z =>
                                      Sum.elim (fun _y230 =>
                                        some false) (fun _y231 =>
                                        some true) z) z
                                  else none
                                else bif (decide ((List.length y225.2.1) = (y225.1 * 3))) then
                                  bif (decide ((0 = 0) ∧ ((0 + y225.1) ≤ big))) then
                                    bif (decide ((0 + y225.1) = (0 + y225.1))) then
                                      bindO (F 57 (RSh.tup [(Prod.mk false [CK.list]), (Prod.mk false [(CK.int .i64)])]) [(PV.agg [(PV.int .i64 y225.2.2.2.2.1), (PV.int .i64 y225.2.2.2.2.2.1), (PV.int .i64 y225.2.2.2.2.2.2.1), (PV.int .i64 y225.2.2.2.2.2.2.2.1)]), (PV.list (0 + y225.1) ([] ++ y225.2.1))]) fun (y232 : (((Nat) × (List PV)) × (Int))) =>
                                      bif (decide (y225.2.2.2.2.2.2.2.2.1 = y225.2.2.2.1)) then
                                        bindO (F 57 (RSh.tup [(Prod.mk false [CK.list]), (Prod.mk false [(CK.int .i64)])]) [(PV.agg [(PV.int .i64 y225.2.2.2.2.1), (PV.int .i64 y225.2.2.2.2.2.1), (PV.int .i64 y225.2.2.2.2.2.2.1), (PV.int .i64 y225.2.2.2.2.2.2.2.1)]), (PV.list y225.2.2.2.1 y225.2.2.2.2.2.2.2.2.2)]) fun (y233 : (((Nat) × (List PV)) × (Int))) =>
                                        bindO (L1000026 (Tlaw10_1000026a y225.2.2.1 y232.1.1 y232.1.2 y232.2 y233.1.1 y233.1.2 y233.2)) fun z =>
                                        Sum.elim (fun _y234 =>
                                          some false) (fun y235 =>
                                          bindO (L2 (Tlaw10_2a y235.1 y235.2.1 y235.2.2.1 y235.2.2.2.1 y235.2.2.2.2 (0 : Int))) fun z =>
                                          Sum.elim (fun _y236 =>
                                            some false) (fun _y237 =>
                                            some true) z) z
                                      else none
                                    else none
                                  else none
                                else none
                              else bif (decide ((List.length y224.2.1) = (y224.1 * 3))) then
                                bif (decide ((0 = 0) ∧ ((0 + y224.1) ≤ big))) then
                                  bif (decide ((0 + y224.1) = (0 + y224.1))) then
                                    bif (decide ((List.all ([] ++ y224.2.1) Gv.plain) = true)) then
                                      bindO (L0 (Tlaw10_0a y224.1 y224.2.1 y224.2.2.1 (0 + y224.1) (0 : Int) y224.2.2.2.1 y224.2.2.2.2.1 y224.2.2.2.2.2.1 y224.2.2.2.2.2.2 (0 + y224.1) ([] ++ y224.2.1))) fun y238 =>
                                      bif (decide (y238.1 = 0)) then
                                        bindO (F 57 (RSh.tup [(Prod.mk false [CK.list]), (Prod.mk false [(CK.int .i64)])]) [(PV.agg [(PV.int .i64 y238.2.2.2.2.1), (PV.int .i64 y238.2.2.2.2.2.1), (PV.int .i64 y238.2.2.2.2.2.2.1), (PV.int .i64 y238.2.2.2.2.2.2.2.1)]), (PV.list 0 [])]) fun (y239 : (((Nat) × (List PV)) × (Int))) =>
                                        bif (decide (y238.2.2.2.2.2.2.2.2.1 = y238.2.2.2.1)) then
                                          bindO (F 57 (RSh.tup [(Prod.mk false [CK.list]), (Prod.mk false [(CK.int .i64)])]) [(PV.agg [(PV.int .i64 y238.2.2.2.2.1), (PV.int .i64 y238.2.2.2.2.2.1), (PV.int .i64 y238.2.2.2.2.2.2.1), (PV.int .i64 y238.2.2.2.2.2.2.2.1)]), (PV.list y238.2.2.2.1 y238.2.2.2.2.2.2.2.2.2)]) fun (y240 : (((Nat) × (List PV)) × (Int))) =>
                                          bindO (L1000026 (Tlaw10_1000026a y238.2.2.1 y239.1.1 y239.1.2 y239.2 y240.1.1 y240.1.2 y240.2)) fun z =>
                                          Sum.elim (fun _y241 =>
                                            some false) (fun y242 =>
                                            bindO (L2 (Tlaw10_2a y242.1 y242.2.1 y242.2.2.1 y242.2.2.2.1 y242.2.2.2.2 (0 : Int))) fun z =>
                                            Sum.elim (fun _y243 =>
                                              some false) (fun _y244 =>
                                              some true) z) z
                                        else none
                                      else bif (decide ((List.length y238.2.1) = (y238.1 * 3))) then
                                        bif (decide ((0 = 0) ∧ ((0 + y238.1) ≤ big))) then
                                          bif (decide ((0 + y238.1) = (0 + y238.1))) then
                                            bindO (F 57 (RSh.tup [(Prod.mk false [CK.list]), (Prod.mk false [(CK.int .i64)])]) [(PV.agg [(PV.int .i64 y238.2.2.2.2.1), (PV.int .i64 y238.2.2.2.2.2.1), (PV.int .i64 y238.2.2.2.2.2.2.1), (PV.int .i64 y238.2.2.2.2.2.2.2.1)]), (PV.list (0 + y238.1) ([] ++ y238.2.1))]) fun (y245 : (((Nat) × (List PV)) × (Int))) =>
                                            bif (decide (y238.2.2.2.2.2.2.2.2.1 = y238.2.2.2.1)) then
                                              bindO (F 57 (RSh.tup [(Prod.mk false [CK.list]), (Prod.mk false [(CK.int .i64)])]) [(PV.agg [(PV.int .i64 y238.2.2.2.2.1), (PV.int .i64 y238.2.2.2.2.2.1), (PV.int .i64 y238.2.2.2.2.2.2.1), (PV.int .i64 y238.2.2.2.2.2.2.2.1)]), (PV.list y238.2.2.2.1 y238.2.2.2.2.2.2.2.2.2)]) fun (y246 : (((Nat) × (List PV)) × (Int))) =>
                                              bindO (L1000026 (Tlaw10_1000026a y238.2.2.1 y245.1.1 y245.1.2 y245.2 y246.1.1 y246.1.2 y246.2)) fun z =>
                                              Sum.elim (fun _y247 =>
                                                some false) (fun y248 =>
                                                bindO (L2 (Tlaw10_2a y248.1 y248.2.1 y248.2.2.1 y248.2.2.2.1 y248.2.2.2.2 (0 : Int))) fun z =>
                                                Sum.elim (fun _y249 =>
                                                  some false) (fun _y250 =>
                                                  some true) z) z
                                            else none
                                          else none
                                        else none
                                      else none
                                    else none
                                  else none
                                else none
                              else none) z
                          else none
                        else none
                      else none
                    else none
                  else none
                else none
              else none
            else none
          else none
        else bif (decide ((List.length y2.2.1) = (y2.1 * 3))) then
          bif (decide ((0 = 0) ∧ ((0 + y2.1) ≤ big))) then
            bif (decide ((0 + y2.1) = (0 + y2.1))) then
              bindO (F 56 (RSh.tup [(Prod.mk true [CK.bool, (CK.int .i64), (CK.int .i64), (CK.int .i64), (CK.int .i64)]), (Prod.mk false [(CK.int .i64)])]) [(PV.agg [(PV.int .i64 y2.2.2.2.2.1), (PV.int .i64 y2.2.2.2.2.2.1), (PV.int .i64 y2.2.2.2.2.2.2.1), (PV.int .i64 y2.2.2.2.2.2.2.2)]), (PV.list (0 + y2.1) ([] ++ y2.2.1)), (PV.int .i64 x3)]) fun (y251 : ((Bool) × ((Int) × ((Int) × ((Int) × ((Int) × (Int))))))) =>
              bif (decide (y2.1 = 0)) then
                bindO (F 56 (RSh.tup [(Prod.mk true [CK.bool, (CK.int .i64), (CK.int .i64), (CK.int .i64), (CK.int .i64)]), (Prod.mk false [(CK.int .i64)])]) [(PV.agg [(PV.int .i64 y2.2.2.2.2.1), (PV.int .i64 y2.2.2.2.2.2.1), (PV.int .i64 y2.2.2.2.2.2.2.1), (PV.int .i64 y2.2.2.2.2.2.2.2)]), (PV.list 0 []), (PV.int .i64 (w64 (x3 + y2.2.2.2.2.2.2.2)))]) fun (y252 : ((Bool) × ((Int) × ((Int) × ((Int) × ((Int) × (Int))))))) =>
                bif (decide (y2.1 = 0)) then
                  bindO (F 56 (RSh.tup [(Prod.mk true [CK.bool, (CK.int .i64), (CK.int .i64), (CK.int .i64), (CK.int .i64)]), (Prod.mk false [(CK.int .i64)])]) [(PV.agg [(PV.int .i64 y2.2.2.2.2.1), (PV.int .i64 y2.2.2.2.2.2.1), (PV.int .i64 y2.2.2.2.2.2.2.1), (PV.int .i64 y2.2.2.2.2.2.2.2)]), (PV.list 0 []), (PV.int .i64 (w64 ((w64 (x3 + y2.2.2.2.2.2.2.2)) + (1 : Int))))]) fun (y253 : ((Bool) × ((Int) × ((Int) × ((Int) × ((Int) × (Int))))))) =>
                  bif (decide (y2.1 = 0)) then
                    bindO (F 18 (RSh.one (CK.int .i64)) [(PV.int .i64 y2.2.2.2.1), (PV.int .i64 (w64 (y2.2.2.2.2.2.2.2 + (1 : Int))))]) fun (y254 : (Int)) =>
                    bindO (F 56 (RSh.tup [(Prod.mk true [CK.bool, (CK.int .i64), (CK.int .i64), (CK.int .i64), (CK.int .i64)]), (Prod.mk false [(CK.int .i64)])]) [(PV.agg [(PV.int .i64 y2.2.2.2.2.1), (PV.int .i64 y2.2.2.2.2.2.1), (PV.int .i64 y2.2.2.2.2.2.2.1), (PV.int .i64 y2.2.2.2.2.2.2.2)]), (PV.list 0 []), (PV.int .i64 (w64 (x3 + y254)))]) fun (y255 : ((Bool) × ((Int) × ((Int) × ((Int) × ((Int) × (Int))))))) =>
                    bindO (L1000052 (Tlaw10_1000052a y2.1 y2.2.1 y2.2.2.1 x3 y251.2.2.2.2.2 y252.2.2.2.2.2 y253.2.2.2.2.2 y255.2.2.2.2.2 y2.2.2.2.2.1 y2.2.2.2.2.2.1 y2.2.2.2.2.2.2.1 y2.2.2.2.2.2.2.2 y251.1 y251.2.1 y251.2.2.1 y251.2.2.2.1 y251.2.2.2.2.1 y252.1 y252.2.1 y252.2.2.1 y252.2.2.2.1 y252.2.2.2.2.1 y253.1 y253.2.1 y253.2.2.1 y253.2.2.2.1 y253.2.2.2.2.1 y255.1 y255.2.1 y255.2.2.1 y255.2.2.2.1 y255.2.2.2.2.1)) fun z =>
                    Sum.elim (fun _y256 =>
                      some false) (fun y257 =>
                      bif (decide (y257.1 = 0)) then
                        bindO (L0 (Tlaw10_0a y257.1 y257.2.1 y257.2.2.1 0 (0 : Int) y257.2.2.2.1 y257.2.2.2.2.1 y257.2.2.2.2.2.1 y257.2.2.2.2.2.2 0 [])) fun y258 =>
                        bif (decide (y258.1 = 0)) then
                          bindO (F 57 (RSh.tup [(Prod.mk false [CK.list]), (Prod.mk false [(CK.int .i64)])]) [(PV.agg [(PV.int .i64 y258.2.2.2.2.1), (PV.int .i64 y258.2.2.2.2.2.1), (PV.int .i64 y258.2.2.2.2.2.2.1), (PV.int .i64 y258.2.2.2.2.2.2.2.1)]), (PV.list 0 [])]) fun (y259 : (((Nat) × (List PV)) × (Int))) =>
                          bif (decide (y258.2.2.2.2.2.2.2.2.1 = y258.2.2.2.1)) then
                            bindO (F 57 (RSh.tup [(Prod.mk false [CK.list]), (Prod.mk false [(CK.int .i64)])]) [(PV.agg [(PV.int .i64 y258.2.2.2.2.1), (PV.int .i64 y258.2.2.2.2.2.1), (PV.int .i64 y258.2.2.2.2.2.2.1), (PV.int .i64 y258.2.2.2.2.2.2.2.1)]), (PV.list y258.2.2.2.1 y258.2.2.2.2.2.2.2.2.2)]) fun (y260 : (((Nat) × (List PV)) × (Int))) =>
                            bindO (L1000026 (Tlaw10_1000026a y258.2.2.1 y259.1.1 y259.1.2 y259.2 y260.1.1 y260.1.2 y260.2)) fun z =>
                            Sum.elim (fun _y261 =>
                              some false) (fun y262 =>
                              bindO (L2 (Tlaw10_2a y262.1 y262.2.1 y262.2.2.1 y262.2.2.2.1 y262.2.2.2.2 (0 : Int))) fun z =>
                              Sum.elim (fun _y263 =>
                                some false) (fun _y264 =>
                                some true) z) z
                          else none
                        else bif (decide ((List.length y258.2.1) = (y258.1 * 3))) then
                          bif (decide ((0 = 0) ∧ ((0 + y258.1) ≤ big))) then
                            bif (decide ((0 + y258.1) = (0 + y258.1))) then
                              bindO (F 57 (RSh.tup [(Prod.mk false [CK.list]), (Prod.mk false [(CK.int .i64)])]) [(PV.agg [(PV.int .i64 y258.2.2.2.2.1), (PV.int .i64 y258.2.2.2.2.2.1), (PV.int .i64 y258.2.2.2.2.2.2.1), (PV.int .i64 y258.2.2.2.2.2.2.2.1)]), (PV.list (0 + y258.1) ([] ++ y258.2.1))]) fun (y265 : (((Nat) × (List PV)) × (Int))) =>
                              bif (decide (y258.2.2.2.2.2.2.2.2.1 = y258.2.2.2.1)) then
                                bindO (F 57 (RSh.tup [(Prod.mk false [CK.list]), (Prod.mk false [(CK.int .i64)])]) [(PV.agg [(PV.int .i64 y258.2.2.2.2.1), (PV.int .i64 y258.2.2.2.2.2.1), (PV.int .i64 y258.2.2.2.2.2.2.1), (PV.int .i64 y258.2.2.2.2.2.2.2.1)]), (PV.list y258.2.2.2.1 y258.2.2.2.2.2.2.2.2.2)]) fun (y266 : (((Nat) × (List PV)) × (Int))) =>
                                bindO (L1000026 (Tlaw10_1000026a y258.2.2.1 y265.1.1 y265.1.2 y265.2 y266.1.1 y266.1.2 y266.2)) fun z =>
                                Sum.elim (fun _y267 =>
                                  some false) (fun y268 =>
                                  bindO (L2 (Tlaw10_2a y268.1 y268.2.1 y268.2.2.1 y268.2.2.2.1 y268.2.2.2.2 (0 : Int))) fun z =>
                                  Sum.elim (fun _y269 =>
                                    some false) (fun _y270 =>
                                    some true) z) z
                              else none
                            else none
                          else none
                        else none
                      else bif (decide ((List.length y257.2.1) = (y257.1 * 3))) then
                        bif (decide ((0 = 0) ∧ ((0 + y257.1) ≤ big))) then
                          bif (decide ((0 + y257.1) = (0 + y257.1))) then
                            bif (decide ((List.all ([] ++ y257.2.1) Gv.plain) = true)) then
                              bindO (L0 (Tlaw10_0a y257.1 y257.2.1 y257.2.2.1 (0 + y257.1) (0 : Int) y257.2.2.2.1 y257.2.2.2.2.1 y257.2.2.2.2.2.1 y257.2.2.2.2.2.2 (0 + y257.1) ([] ++ y257.2.1))) fun y271 =>
                              bif (decide (y271.1 = 0)) then
                                bindO (F 57 (RSh.tup [(Prod.mk false [CK.list]), (Prod.mk false [(CK.int .i64)])]) [(PV.agg [(PV.int .i64 y271.2.2.2.2.1), (PV.int .i64 y271.2.2.2.2.2.1), (PV.int .i64 y271.2.2.2.2.2.2.1), (PV.int .i64 y271.2.2.2.2.2.2.2.1)]), (PV.list 0 [])]) fun (y272 : (((Nat) × (List PV)) × (Int))) =>
                                bif (decide (y271.2.2.2.2.2.2.2.2.1 = y271.2.2.2.1)) then
                                  bindO (F 57 (RSh.tup [(Prod.mk false [CK.list]), (Prod.mk false [(CK.int .i64)])]) [(PV.agg [(PV.int .i64 y271.2.2.2.2.1), (PV.int .i64 y271.2.2.2.2.2.1), (PV.int .i64 y271.2.2.2.2.2.2.1), (PV.int .i64 y271.2.2.2.2.2.2.2.1)]), (PV.list y271.2.2.2.1 y271.2.2.2.2.2.2.2.2.2)]) fun (y273 : (((Nat) × (List PV)) × (Int))) =>
                                  bindO (L1000026 (Tlaw10_1000026a y271.2.2.1 y272.1.1 y272.1.2 y272.2 y273.1.1 y273.1.2 y273.2)) fun z =>
                                  Sum.elim (fun _y274 =>
                                    some false) (fun y275 =>
                                    bindO (L2 (Tlaw10_2a y275.1 y275.2.1 y275.2.2.1 y275.2.2.2.1 y275.2.2.2.2 (0 : Int))) fun z =>
                                    Sum.elim (fun _y276 =>
                                      some false) (fun _y277 =>
                                      some true) z) z
                                else none
                              else bif (decide ((List.length y271.2.1) = (y271.1 * 3))) then
                                bif (decide ((0 = 0) ∧ ((0 + y271.1) ≤ big))) then
                                  bif (decide ((0 + y271.1) = (0 + y271.1))) then
                                    bindO (F 57 (RSh.tup [(Prod.mk false [CK.list]), (Prod.mk false [(CK.int .i64)])]) [(PV.agg [(PV.int .i64 y271.2.2.2.2.1), (PV.int .i64 y271.2.2.2.2.2.1), (PV.int .i64 y271.2.2.2.2.2.2.1), (PV.int .i64 y271.2.2.2.2.2.2.2.1)]), (PV.list (0 + y271.1) ([] ++ y271.2.1))]) fun (y278 : (((Nat) × (List PV)) × (Int))) =>
                                    bif (decide (y271.2.2.2.2.2.2.2.2.1 = y271.2.2.2.1)) then
                                      bindO (F 57 (RSh.tup [(Prod.mk false [CK.list]), (Prod.mk false [(CK.int .i64)])]) [(PV.agg [(PV.int .i64 y271.2.2.2.2.1), (PV.int .i64 y271.2.2.2.2.2.1), (PV.int .i64 y271.2.2.2.2.2.2.1), (PV.int .i64 y271.2.2.2.2.2.2.2.1)]), (PV.list y271.2.2.2.1 y271.2.2.2.2.2.2.2.2.2)]) fun (y279 : (((Nat) × (List PV)) × (Int))) =>
                                      bindO (L1000026 (Tlaw10_1000026a y271.2.2.1 y278.1.1 y278.1.2 y278.2 y279.1.1 y279.1.2 y279.2)) fun z =>
                                      Sum.elim (fun _y280 =>
                                        some false) (fun y281 =>
                                        bindO (L2 (Tlaw10_2a y281.1 y281.2.1 y281.2.2.1 y281.2.2.2.1 y281.2.2.2.2 (0 : Int))) fun z =>
                                        Sum.elim (fun _y282 =>
                                          some false) (fun _y283 =>
                                          some true) z) z
                                    else none
                                  else none
                                else none
                              else none
                            else none
                          else none
                        else none
                      else none) z
                  else bif (decide ((List.length y2.2.1) = (y2.1 * 3))) then
                    bif (decide ((0 = 0) ∧ ((0 + y2.1) ≤ big))) then
                      bif (decide ((0 + y2.1) = (0 + y2.1))) then
                        bindO (F 18 (RSh.one (CK.int .i64)) [(PV.int .i64 y2.2.2.2.1), (PV.int .i64 (w64 (y2.2.2.2.2.2.2.2 + (1 : Int))))]) fun (y284 : (Int)) =>
                        bindO (F 56 (RSh.tup [(Prod.mk true [CK.bool, (CK.int .i64), (CK.int .i64), (CK.int .i64), (CK.int .i64)]), (Prod.mk false [(CK.int .i64)])]) [(PV.agg [(PV.int .i64 y2.2.2.2.2.1), (PV.int .i64 y2.2.2.2.2.2.1), (PV.int .i64 y2.2.2.2.2.2.2.1), (PV.int .i64 y2.2.2.2.2.2.2.2)]), (PV.list (0 + y2.1) ([] ++ y2.2.1)), (PV.int .i64 (w64 (x3 + y284)))]) fun (y285 : ((Bool) × ((Int) × ((Int) × ((Int) × ((Int) × (Int))))))) =>
                        bindO (L1000052 (Tlaw10_1000052a y2.1 y2.2.1 y2.2.2.1 x3 y251.2.2.2.2.2 y252.2.2.2.2.2 y253.2.2.2.2.2 y285.2.2.2.2.2 y2.2.2.2.2.1 y2.2.2.2.2.2.1 y2.2.2.2.2.2.2.1 y2.2.2.2.2.2.2.2 y251.1 y251.2.1 y251.2.2.1 y251.2.2.2.1 y251.2.2.2.2.1 y252.1 y252.2.1 y252.2.2.1 y252.2.2.2.1 y252.2.2.2.2.1 y253.1 y253.2.1 y253.2.2.1 y253.2.2.2.1 y253.2.2.2.2.1 y285.1 y285.2.1 y285.2.2.1 y285.2.2.2.1 y285.2.2.2.2.1)) fun z =>
                        Sum.elim (fun _y286 =>
                          some false) (fun y287 =>
                          bif (decide (y287.1 = 0)) then
                            bindO (L0 (Tlaw10_0a y287.1 y287.2.1 y287.2.2.1 0 (0 : Int) y287.2.2.2.1 y287.2.2.2.2.1 y287.2.2.2.2.2.1 y287.2.2.2.2.2.2 0 [])) fun y288 =>
                            bif (decide (y288.1 = 0)) then
                              bindO (F 57 (RSh.tup [(Prod.mk false [CK.list]), (Prod.mk false [(CK.int .i64)])]) [(PV.agg [(PV.int .i64 y288.2.2.2.2.1), (PV.int .i64 y288.2.2.2.2.2.1), (PV.int .i64 y288.2.2.2.2.2.2.1), (PV.int .i64 y288.2.2.2.2.2.2.2.1)]), (PV.list 0 [])]) fun (y289 : (((Nat) × (List PV)) × (Int))) =>
                              bif (decide (y288.2.2.2.2.2.2.2.2.1 = y288.2.2.2.1)) then
                                bindO (F 57 (RSh.tup [(Prod.mk false [CK.list]), (Prod.mk false [(CK.int .i64)])]) [(PV.agg [(PV.int .i64 y288.2.2.2.2.1), (PV.int .i64 y288.2.2.2.2.2.1), (PV.int .i64 y288.2.2.2.2.2.2.1), (PV.int .i64 y288.2.2.2.2.2.2.2.1)]), (PV.list y288.2.2.2.1 y288.2.2.2.2.2.2.2.2.2)]) fun (y290 : (((Nat) × (List PV)) × (Int))) =>
                                bindO (L1000026 (Tlaw10_1000026a y288.2.2.1 y289.1.1 y289.1.2 y289.2 y290.1.1 y290.1.2 y290.2)) fun z =>
                                Sum.elim (fun _y291 =>
                                  some false) (fun y292 =>
                                  bindO (L2 (Tlaw10_2a y292.1 y292.2.1 y292.2.2.1 y292.2.2.2.1 y292.2.2.2.2 (0 : Int))) fun z =>
                                  Sum.elim (fun _y293 =>
                                    some false) (fun _y294 =>
                                    some true) z) z
                              else none
                            else bif (decide ((List.length y288.2.1) = (y288.1 * 3))) then
                              bif (decide ((0 = 0) ∧ ((0 + y288.1) ≤ big))) then
                                bif (decide ((0 + y288.1) = (0 + y288.1))) then
                                  bindO (F 57 (RSh.tup [(Prod.mk false [CK.list]), (Prod.mk false [(CK.int .i64)])]) [(PV.agg [(PV.int .i64 y288.2.2.2.2.1), (PV.int .i64 y288.2.2.2.2.2.1), (PV.int .i64 y288.2.2.2.2.2.2.1), (PV.int .i64 y288.2.2.2.2.2.2.2.1)]), (PV.list (0 + y288.1) ([] ++ y288.2.1))]) fun (y295 : (((Nat) × (List PV)) × (Int))) =>
                                  bif (decide (y288.2.2.2.2.2.2.2.2.1 = y288.2.2.2.1)) then
                                    bindO (F 57 (RSh.tup [(Prod.mk false [CK.list]), (Prod.mk false [(CK.int .i64)])]) [(PV.agg [(PV.int .i64 y288.2.2.2.2.1), (PV.int .i64 y288.2.2.2.2.2.1), (PV.int .i64 y288.2.2.2.2.2.2.1), (PV.int .i64 y288.2.2.2.2.2.2.2.1)]), (PV.list y288.2.2.2.1 y288.2.2.2.2.2.2.2.2.2)]) fun (y296 : (((Nat) × (List PV)) × (Int))) =>
                                    bindO (L1000026 (Tlaw10_1000026a y288.2.2.1 y295.1.1 y295.1.2 y295.2 y296.1.1 y296.1.2 y296.2)) fun z =>
                                    Sum.elim (fun _y297 =>
                                      some false) (fun y298 =>
                                      bindO (L2 (Tlaw10_2a y298.1 y298.2.1 y298.2.2.1 y298.2.2.2.1 y298.2.2.2.2 (0 : Int))) fun z =>
                                      Sum.elim (fun _y299 =>
                                        some false) (fun _y300 =>
                                        some true) z) z
                                  else none
                                else none
                              else none
                            else none
                          else bif (decide ((List.length y287.2.1) = (y287.1 * 3))) then
                            bif (decide ((0 = 0) ∧ ((0 + y287.1) ≤ big))) then
                              bif (decide ((0 + y287.1) = (0 + y287.1))) then
                                bif (decide ((List.all ([] ++ y287.2.1) Gv.plain) = true)) then
                                  bindO (L0 (Tlaw10_0a y287.1 y287.2.1 y287.2.2.1 (0 + y287.1) (0 : Int) y287.2.2.2.1 y287.2.2.2.2.1 y287.2.2.2.2.2.1 y287.2.2.2.2.2.2 (0 + y287.1) ([] ++ y287.2.1))) fun y301 =>
                                  bif (decide (y301.1 = 0)) then
                                    bindO (F 57 (RSh.tup [(Prod.mk false [CK.list]), (Prod.mk false [(CK.int .i64)])]) [(PV.agg [(PV.int .i64 y301.2.2.2.2.1), (PV.int .i64 y301.2.2.2.2.2.1), (PV.int .i64 y301.2.2.2.2.2.2.1), (PV.int .i64 y301.2.2.2.2.2.2.2.1)]), (PV.list 0 [])]) fun (y302 : (((Nat) × (List PV)) × (Int))) =>
                                    bif (decide (y301.2.2.2.2.2.2.2.2.1 = y301.2.2.2.1)) then
                                      bindO (F 57 (RSh.tup [(Prod.mk false [CK.list]), (Prod.mk false [(CK.int .i64)])]) [(PV.agg [(PV.int .i64 y301.2.2.2.2.1), (PV.int .i64 y301.2.2.2.2.2.1), (PV.int .i64 y301.2.2.2.2.2.2.1), (PV.int .i64 y301.2.2.2.2.2.2.2.1)]), (PV.list y301.2.2.2.1 y301.2.2.2.2.2.2.2.2.2)]) fun (y303 : (((Nat) × (List PV)) × (Int))) =>
                                      bindO (L1000026 (Tlaw10_1000026a y301.2.2.1 y302.1.1 y302.1.2 y302.2 y303.1.1 y303.1.2 y303.2)) fun z =>
                                      Sum.elim (fun _y304 =>
                                        some false) (fun y305 =>
                                        bindO (L2 (Tlaw10_2a y305.1 y305.2.1 y305.2.2.1 y305.2.2.2.1 y305.2.2.2.2 (0 : Int))) fun z =>
                                        Sum.elim (fun _y306 =>
                                          some false) (fun _y307 =>
                                          some true) z) z
                                    else none
                                  else bif (decide ((List.length y301.2.1) = (y301.1 * 3))) then
                                    bif (decide ((0 = 0) ∧ ((0 + y301.1) ≤ big))) then
                                      bif (decide ((0 + y301.1) = (0 + y301.1))) then
                                        bindO (F 57 (RSh.tup [(Prod.mk false [CK.list]), (Prod.mk false [(CK.int .i64)])]) [(PV.agg [(PV.int .i64 y301.2.2.2.2.1), (PV.int .i64 y301.2.2.2.2.2.1), (PV.int .i64 y301.2.2.2.2.2.2.1), (PV.int .i64 y301.2.2.2.2.2.2.2.1)]), (PV.list (0 + y301.1) ([] ++ y301.2.1))]) fun (y308 : (((Nat) × (List PV)) × (Int))) =>
                                        bif (decide (y301.2.2.2.2.2.2.2.2.1 = y301.2.2.2.1)) then
                                          bindO (F 57 (RSh.tup [(Prod.mk false [CK.list]), (Prod.mk false [(CK.int .i64)])]) [(PV.agg [(PV.int .i64 y301.2.2.2.2.1), (PV.int .i64 y301.2.2.2.2.2.1), (PV.int .i64 y301.2.2.2.2.2.2.1), (PV.int .i64 y301.2.2.2.2.2.2.2.1)]), (PV.list y301.2.2.2.1 y301.2.2.2.2.2.2.2.2.2)]) fun (y309 : (((Nat) × (List PV)) × (Int))) =>
                                          bindO (L1000026 (Tlaw10_1000026a y301.2.2.1 y308.1.1 y308.1.2 y308.2 y309.1.1 y309.1.2 y309.2)) fun z =>
                                          Sum.elim (fun _y310 =>
                                            some false) (fun y311 =>
                                            bindO (L2 (Tlaw10_2a y311.1 y311.2.1 y311.2.2.1 y311.2.2.2.1 y311.2.2.2.2 (0 : Int))) fun z =>
                                            Sum.elim (fun _y312 =>
                                              some false) (fun _y313 =>
                                              some true) z) z
                                        else none
                                      else none
                                    else none
                                  else none
                                else none
                              else none
                            else none
                          else none) z
                      else none
                    else none
                  else none
                else bif (decide ((List.length y2.2.1) = (y2.1 * 3))) then
                  bif (decide ((0 = 0) ∧ ((0 + y2.1) ≤ big))) then
                    bif (decide ((0 + y2.1) = (0 + y2.1))) then
                      bindO (F 56 (RSh.tup [(Prod.mk true [CK.bool, (CK.int .i64), (CK.int .i64), (CK.int .i64), (CK.int .i64)]), (Prod.mk false [(CK.int .i64)])]) [(PV.agg [(PV.int .i64 y2.2.2.2.2.1), (PV.int .i64 y2.2.2.2.2.2.1), (PV.int .i64 y2.2.2.2.2.2.2.1), (PV.int .i64 y2.2.2.2.2.2.2.2)]), (PV.list (0 + y2.1) ([] ++ y2.2.1)), (PV.int .i64 (w64 ((w64 (x3 + y2.2.2.2.2.2.2.2)) + (1 : Int))))]) fun (y314 : ((Bool) × ((Int) × ((Int) × ((Int) × ((Int) × (Int))))))) =>
                      bif (decide (y2.1 = 0)) then
                        bindO (F 18 (RSh.one (CK.int .i64)) [(PV.int .i64 y2.2.2.2.1), (PV.int .i64 (w64 (y2.2.2.2.2.2.2.2 + (1 : Int))))]) fun (y315 : (Int)) =>
                        bindO (F 56 (RSh.tup [(Prod.mk true [CK.bool, (CK.int .i64), (CK.int .i64), (CK.int .i64), (CK.int .i64)]), (Prod.mk false [(CK.int .i64)])]) [(PV.agg [(PV.int .i64 y2.2.2.2.2.1), (PV.int .i64 y2.2.2.2.2.2.1), (PV.int .i64 y2.2.2.2.2.2.2.1), (PV.int .i64 y2.2.2.2.2.2.2.2)]), (PV.list 0 []), (PV.int .i64 (w64 (x3 + y315)))]) fun (y316 : ((Bool) × ((Int) × ((Int) × ((Int) × ((Int) × (Int))))))) =>
                        bindO (L1000052 (Tlaw10_1000052a y2.1 y2.2.1 y2.2.2.1 x3 y251.2.2.2.2.2 y252.2.2.2.2.2 y314.2.2.2.2.2 y316.2.2.2.2.2 y2.2.2.2.2.1 y2.2.2.2.2.2.1 y2.2.2.2.2.2.2.1 y2.2.2.2.2.2.2.2 y251.1 y251.2.1 y251.2.2.1 y251.2.2.2.1 y251.2.2.2.2.1 y252.1 y252.2.1 y252.2.2.1 y252.2.2.2.1 y252.2.2.2.2.1 y314.1 y314.2.1 y314.2.2.1 y314.2.2.2.1 y314.2.2.2.2.1 y316.1 y316.2.1 y316.2.2.1 y316.2.2.2.1 y316.2.2.2.2.1)) fun z =>
                        Sum.elim (fun _y317 =>
                          some false) (fun y318 =>
                          bif (decide (y318.1 = 0)) then
                            bindO (L0 (Tlaw10_0a y318.1 y318.2.1 y318.2.2.1 0 (0 : Int) y318.2.2.2.1 y318.2.2.2.2.1 y318.2.2.2.2.2.1 y318.2.2.2.2.2.2 0 [])) fun y319 =>
                            bif (decide (y319.1 = 0)) then
                              bindO (F 57 (RSh.tup [(Prod.mk false [CK.list]), (Prod.mk false [(CK.int .i64)])]) [(PV.agg [(PV.int .i64 y319.2.2.2.2.1), (PV.int .i64 y319.2.2.2.2.2.1), (PV.int .i64 y319.2.2.2.2.2.2.1), (PV.int .i64 y319.2.2.2.2.2.2.2.1)]), (PV.list 0 [])]) fun (y320 : (((Nat) × (List PV)) × (Int))) =>
                              bif (decide (y319.2.2.2.2.2.2.2.2.1 = y319.2.2.2.1)) then
                                bindO (F 57 (RSh.tup [(Prod.mk false [CK.list]), (Prod.mk false [(CK.int .i64)])]) [(PV.agg [(PV.int .i64 y319.2.2.2.2.1), (PV.int .i64 y319.2.2.2.2.2.1), (PV.int .i64 y319.2.2.2.2.2.2.1), (PV.int .i64 y319.2.2.2.2.2.2.2.1)]), (PV.list y319.2.2.2.1 y319.2.2.2.2.2.2.2.2.2)]) fun (y321 : (((Nat) × (List PV)) × (Int))) =>
                                bindO (L1000026 (Tlaw10_1000026a y319.2.2.1 y320.1.1 y320.1.2 y320.2 y321.1.1 y321.1.2 y321.2)) fun z =>
                                Sum.elim (fun _y322 =>
                                  some false) (fun y323 =>
                                  bindO (L2 (Tlaw10_2a y323.1 y323.2.1 y323.2.2.1 y323.2.2.2.1 y323.2.2.2.2 (0 : Int))) fun z =>
                                  Sum.elim (fun _y324 =>
                                    some false) (fun _y325 =>
                                    some true) z) z
                              else none
                            else bif (decide ((List.length y319.2.1) = (y319.1 * 3))) then
                              bif (decide ((0 = 0) ∧ ((0 + y319.1) ≤ big))) then
                                bif (decide ((0 + y319.1) = (0 + y319.1))) then
                                  bindO (F 57 (RSh.tup [(Prod.mk false [CK.list]), (Prod.mk false [(CK.int .i64)])]) [(PV.agg [(PV.int .i64 y319.2.2.2.2.1), (PV.int .i64 y319.2.2.2.2.2.1), (PV.int .i64 y319.2.2.2.2.2.2.1), (PV.int .i64 y319.2.2.2.2.2.2.2.1)]), (PV.list (0 + y319.1) ([] ++ y319.2.1))]) fun (y326 : (((Nat) × (List PV)) × (Int))) =>
                                  bif (decide (y319.2.2.2.2.2.2.2.2.1 = y319.2.2.2.1)) then
                                    bindO (F 57 (RSh.tup [(Prod.mk false [CK.list]), (Prod.mk false [(CK.int .i64)])]) [(PV.agg [(PV.int .i64 y319.2.2.2.2.1), (PV.int .i64 y319.2.2.2.2.2.1), (PV.int .i64 y319.2.2.2.2.2.2.1), (PV.int .i64 y319.2.2.2.2.2.2.2.1)]), (PV.list y319.2.2.2.1 y319.2.2.2.2.2.2.2.2.2)]) fun (y327 : (((Nat) × (List PV)) × (Int))) =>
                                    bindO (L1000026 (Tlaw10_1000026a y319.2.2.1 y326.1.1 y326.1.2 y326.2 y327.1.1 y327.1.2 y327.2)) fun z =>
                                    Sum.elim (fun _y328 =>
                                      some false) (fun y329 =>
                                      bindO (L2 (Tlaw10_2a y329.1 y329.2.1 y329.2.2.1 y329.2.2.2.1 y329.2.2.2.2 (0 : Int))) fun z =>
                                      Sum.elim (fun _y330 =>
                                        some false) (fun _y331 =>
                                        some true) z) z
                                  else none
                                else none
                              else none
                            else none
                          else bif (decide ((List.length y318.2.1) = (y318.1 * 3))) then
                            bif (decide ((0 = 0) ∧ ((0 + y318.1) ≤ big))) then
                              bif (decide ((0 + y318.1) = (0 + y318.1))) then
                                bif (decide ((List.all ([] ++ y318.2.1) Gv.plain) = true)) then
                                  bindO (L0 (Tlaw10_0a y318.1 y318.2.1 y318.2.2.1 (0 + y318.1) (0 : Int) y318.2.2.2.1 y318.2.2.2.2.1 y318.2.2.2.2.2.1 y318.2.2.2.2.2.2 (0 + y318.1) ([] ++ y318.2.1))) fun y332 =>
                                  bif (decide (y332.1 = 0)) then
                                    bindO (F 57 (RSh.tup [(Prod.mk false [CK.list]), (Prod.mk false [(CK.int .i64)])]) [(PV.agg [(PV.int .i64 y332.2.2.2.2.1), (PV.int .i64 y332.2.2.2.2.2.1), (PV.int .i64 y332.2.2.2.2.2.2.1), (PV.int .i64 y332.2.2.2.2.2.2.2.1)]), (PV.list 0 [])]) fun (y333 : (((Nat) × (List PV)) × (Int))) =>
                                    bif (decide (y332.2.2.2.2.2.2.2.2.1 = y332.2.2.2.1)) then
                                      bindO (F 57 (RSh.tup [(Prod.mk false [CK.list]), (Prod.mk false [(CK.int .i64)])]) [(PV.agg [(PV.int .i64 y332.2.2.2.2.1), (PV.int .i64 y332.2.2.2.2.2.1), (PV.int .i64 y332.2.2.2.2.2.2.1), (PV.int .i64 y332.2.2.2.2.2.2.2.1)]), (PV.list y332.2.2.2.1 y332.2.2.2.2.2.2.2.2.2)]) fun (y334 : (((Nat) × (List PV)) × (Int))) =>
                                      bindO (L1000026 (Tlaw10_1000026a y332.2.2.1 y333.1.1 y333.1.2 y333.2 y334.1.1 y334.1.2 y334.2)) fun z =>
                                      Sum.elim (fun _y335 =>
                                        some false) (fun y336 =>
                                        bindO (L2 (Tlaw10_2a y336.1 y336.2.1 y336.2.2.1 y336.2.2.2.1 y336.2.2.2.2 (0 : Int))) fun z =>
                                        Sum.elim (fun _y337 =>
                                          some false) (fun _y338 =>
                                          some true) z) z
                                    else none
                                  else bif (decide ((List.length y332.2.1) = (y332.1 * 3))) then
                                    bif (decide ((0 = 0) ∧ ((0 + y332.1) ≤ big))) then
                                      bif (decide ((0 + y332.1) = (0 + y332.1))) then
                                        bindO (F 57 (RSh.tup [(Prod.mk false [CK.list]), (Prod.mk false [(CK.int .i64)])]) [(PV.agg [(PV.int .i64 y332.2.2.2.2.1), (PV.int .i64 y332.2.2.2.2.2.1), (PV.int .i64 y332.2.2.2.2.2.2.1), (PV.int .i64 y332.2.2.2.2.2.2.2.1)]), (PV.list (0 + y332.1) ([] ++ y332.2.1))]) fun (y339 : (((Nat) × (List PV)) × (Int))) =>
                                        bif (decide (y332.2.2.2.2.2.2.2.2.1 = y332.2.2.2.1)) then
                                          bindO (F 57 (RSh.tup [(Prod.mk false [CK.list]), (Prod.mk false [(CK.int .i64)])]) [(PV.agg [(PV.int .i64 y332.2.2.2.2.1), (PV.int .i64 y332.2.2.2.2.2.1), (PV.int .i64 y332.2.2.2.2.2.2.1), (PV.int .i64 y332.2.2.2.2.2.2.2.1)]), (PV.list y332.2.2.2.1 y332.2.2.2.2.2.2.2.2.2)]) fun (y340 : (((Nat) × (List PV)) × (Int))) =>
                                          bindO (L1000026 (Tlaw10_1000026a y332.2.2.1 y339.1.1 y339.1.2 y339.2 y340.1.1 y340.1.2 y340.2)) fun z =>
                                          Sum.elim (fun _y341 =>
                                            some false) (fun y342 =>
                                            bindO (L2 (Tlaw10_2a y342.1 y342.2.1 y342.2.2.1 y342.2.2.2.1 y342.2.2.2.2 (0 : Int))) fun z =>
                                            Sum.elim (fun _y343 =>
                                              some false) (fun _y344 =>
                                              some true) z) z
                                        else none
                                      else none
                                    else none
                                  else none
                                else none
                              else none
                            else none
                          else none) z
                      else bif (decide ((List.length y2.2.1) = (y2.1 * 3))) then
                        bif (decide ((0 = 0) ∧ ((0 + y2.1) ≤ big))) then
                          bif (decide ((0 + y2.1) = (0 + y2.1))) then
                            bindO (F 18 (RSh.one (CK.int .i64)) [(PV.int .i64 y2.2.2.2.1), (PV.int .i64 (w64 (y2.2.2.2.2.2.2.2 + (1 : Int))))]) fun (y345 : (Int)) =>
                            bindO (F 56 (RSh.tup [(Prod.mk true [CK.bool, (CK.int .i64), (CK.int .i64), (CK.int .i64), (CK.int .i64)]), (Prod.mk false [(CK.int .i64)])]) [(PV.agg [(PV.int .i64 y2.2.2.2.2.1), (PV.int .i64 y2.2.2.2.2.2.1), (PV.int .i64 y2.2.2.2.2.2.2.1), (PV.int .i64 y2.2.2.2.2.2.2.2)]), (PV.list (0 + y2.1) ([] ++ y2.2.1)), (PV.int .i64 (w64 (x3 + y345)))]) fun (y346 : ((Bool) × ((Int) × ((Int) × ((Int) × ((Int) × (Int))))))) =>
                            bindO (L1000052 (Tlaw10_1000052a y2.1 y2.2.1 y2.2.2.1 x3 y251.2.2.2.2.2 y252.2.2.2.2.2 y314.2.2.2.2.2 y346.2.2.2.2.2 y2.2.2.2.2.1 y2.2.2.2.2.2.1 y2.2.2.2.2.2.2.1 y2.2.2.2.2.2.2.2 y251.1 y251.2.1 y251.2.2.1 y251.2.2.2.1 y251.2.2.2.2.1 y252.1 y252.2.1 y252.2.2.1 y252.2.2.2.1 y252.2.2.2.2.1 y314.1 y314.2.1 y314.2.2.1 y314.2.2.2.1 y314.2.2.2.2.1 y346.1 y346.2.1 y346.2.2.1 y346.2.2.2.1 y346.2.2.2.2.1)) fun z =>
                            Sum.elim (fun _y347 =>
                              some false) (fun y348 =>
                              bif (decide (y348.1 = 0)) then
                                bindO (L0 (Tlaw10_0a y348.1 y348.2.1 y348.2.2.1 0 (0 : Int) y348.2.2.2.1 y348.2.2.2.2.1 y348.2.2.2.2.2.1 y348.2.2.2.2.2.2 0 [])) fun y349 =>
                                bif (decide (y349.1 = 0)) then
                                  bindO (F 57 (RSh.tup [(Prod.mk false [CK.list]), (Prod.mk false [(CK.int .i64)])]) [(PV.agg [(PV.int .i64 y349.2.2.2.2.1), (PV.int .i64 y349.2.2.2.2.2.1), (PV.int .i64 y349.2.2.2.2.2.2.1), (PV.int .i64 y349.2.2.2.2.2.2.2.1)]), (PV.list 0 [])]) fun (y350 : (((Nat) × (List PV)) × (Int))) =>
                                  bif (decide (y349.2.2.2.2.2.2.2.2.1 = y349.2.2.2.1)) then
                                    bindO (F 57 (RSh.tup [(Prod.mk false [CK.list]), (Prod.mk false [(CK.int .i64)])]) [(PV.agg [(PV.int .i64 y349.2.2.2.2.1), (PV.int .i64 y349.2.2.2.2.2.1), (PV.int .i64 y349.2.2.2.2.2.2.1), (PV.int .i64 y349.2.2.2.2.2.2.2.1)]), (PV.list y349.2.2.2.1 y349.2.2.2.2.2.2.2.2.2)]) fun (y351 : (((Nat) × (List PV)) × (Int))) =>
                                    bindO (L1000026 (Tlaw10_1000026a y349.2.2.1 y350.1.1 y350.1.2 y350.2 y351.1.1 y351.1.2 y351.2)) fun z =>
                                    Sum.elim (fun _y352 =>
                                      some false) (fun y353 =>
                                      bindO (L2 (Tlaw10_2a y353.1 y353.2.1 y353.2.2.1 y353.2.2.2.1 y353.2.2.2.2 (0 : Int))) fun z =>
                                      Sum.elim (fun _y354 =>
                                        some false) (fun _y355 =>
                                        some true) z) z
                                  else none
                                else bif (decide ((List.length y349.2.1) = (y349.1 * 3))) then
                                  bif (decide ((0 = 0) ∧ ((0 + y349.1) ≤ big))) then
                                    bif (decide ((0 + y349.1) = (0 + y349.1))) then
                                      bindO (F 57 (RSh.tup [(Prod.mk false [CK.list]), (Prod.mk false [(CK.int .i64)])]) [(PV.agg [(PV.int .i64 y349.2.2.2.2.1), (PV.int .i64 y349.2.2.2.2.2.1), (PV.int .i64 y349.2.2.2.2.2.2.1), (PV.int .i64 y349.2.2.2.2.2.2.2.1)]), (PV.list (0 + y349.1) ([] ++ y349.2.1))]) fun (y356 : (((Nat) × (List PV)) × (Int))) =>
                                      bif (decide (y349.2.2.2.2.2.2.2.2.1 = y349.2.2.2.1)) then
                                        bindO (F 57 (RSh.tup [(Prod.mk false [CK.list]), (Prod.mk false [(CK.int .i64)])]) [(PV.agg [(PV.int .i64 y349.2.2.2.2.1), (PV.int .i64 y349.2.2.2.2.2.1), (PV.int .i64 y349.2.2.2.2.2.2.1), (PV.int .i64 y349.2.2.2.2.2.2.2.1)]), (PV.list y349.2.2.2.1 y349.2.2.2.2.2.2.2.2.2)]) fun (y357 : (((Nat) × (List PV)) × (Int))) =>
                                        bindO (L1000026 (Tlaw10_1000026a y349.2.2.1 y356.1.1 y356.1.2 y356.2 y357.1.1 y357.1.2 y357.2)) fun z =>
                                        Sum.elim (fun _y358 =>
                                          some false) (fun y359 =>
                                          bindO (L2 (Tlaw10_2a y359.1 y359.2.1 y359.2.2.1 y359.2.2.2.1 y359.2.2.2.2 (0 : Int))) fun z =>
                                          Sum.elim (fun _y360 =>
                                            some false) (fun _y361 =>
                                            some true) z) z
                                      else none
                                    else none
                                  else none
                                else none
                              else bif (decide ((List.length y348.2.1) = (y348.1 * 3))) then
                                bif (decide ((0 = 0) ∧ ((0 + y348.1) ≤ big))) then
                                  bif (decide ((0 + y348.1) = (0 + y348.1))) then
                                    bif (decide ((List.all ([] ++ y348.2.1) Gv.plain) = true)) then
                                      bindO (L0 (Tlaw10_0a y348.1 y348.2.1 y348.2.2.1 (0 + y348.1) (0 : Int) y348.2.2.2.1 y348.2.2.2.2.1 y348.2.2.2.2.2.1 y348.2.2.2.2.2.2 (0 + y348.1) ([] ++ y348.2.1))) fun y362 =>
                                      bif (decide (y362.1 = 0)) then
                                        bindO (F 57 (RSh.tup [(Prod.mk false [CK.list]), (Prod.mk false [(CK.int .i64)])]) [(PV.agg [(PV.int .i64 y362.2.2.2.2.1), (PV.int .i64 y362.2.2.2.2.2.1), (PV.int .i64 y362.2.2.2.2.2.2.1), (PV.int .i64 y362.2.2.2.2.2.2.2.1)]), (PV.list 0 [])]) fun (y363 : (((Nat) × (List PV)) × (Int))) =>
                                        bif (decide (y362.2.2.2.2.2.2.2.2.1 = y362.2.2.2.1)) then
                                          bindO (F 57 (RSh.tup [(Prod.mk false [CK.list]), (Prod.mk false [(CK.int .i64)])]) [(PV.agg [(PV.int .i64 y362.2.2.2.2.1), (PV.int .i64 y362.2.2.2.2.2.1), (PV.int .i64 y362.2.2.2.2.2.2.1), (PV.int .i64 y362.2.2.2.2.2.2.2.1)]), (PV.list y362.2.2.2.1 y362.2.2.2.2.2.2.2.2.2)]) fun (y364 : (((Nat) × (List PV)) × (Int))) =>
                                          bindO (L1000026 (Tlaw10_1000026a y362.2.2.1 y363.1.1 y363.1.2 y363.2 y364.1.1 y364.1.2 y364.2)) fun z =>
                                          Sum.elim (fun _y365 =>
                                            some false) (fun y366 =>
                                            bindO (L2 (Tlaw10_2a y366.1 y366.2.1 y366.2.2.1 y366.2.2.2.1 y366.2.2.2.2 (0 : Int))) fun z =>
                                            Sum.elim (fun _y367 =>
                                              some false) (fun _y368 =>
                                              some true) z) z
                                        else none
                                      else bif (decide ((List.length y362.2.1) = (y362.1 * 3))) then
                                        bif (decide ((0 = 0) ∧ ((0 + y362.1) ≤ big))) then
                                          bif (decide ((0 + y362.1) = (0 + y362.1))) then
                                            bindO (F 57 (RSh.tup [(Prod.mk false [CK.list]), (Prod.mk false [(CK.int .i64)])]) [(PV.agg [(PV.int .i64 y362.2.2.2.2.1), (PV.int .i64 y362.2.2.2.2.2.1), (PV.int .i64 y362.2.2.2.2.2.2.1), (PV.int .i64 y362.2.2.2.2.2.2.2.1)]), (PV.list (0 + y362.1) ([] ++ y362.2.1))]) fun (y369 : (((Nat) × (List PV)) × (Int))) =>
                                            bif (decide (y362.2.2.2.2.2.2.2.2.1 = y362.2.2.2.1)) then
                                              bindO (F 57 (RSh.tup [(Prod.mk false [CK.list]), (Prod.mk false [(CK.int .i64)])]) [(PV.agg [(PV.int .i64 y362.2.2.2.2.1), (PV.int .i64 y362.2.2.2.2.2.1), (PV.int .i64 y362.2.2.2.2.2.2.1), (PV.int .i64 y362.2.2.2.2.2.2.2.1)]), (PV.list y362.2.2.2.1 y362.2.2.2.2.2.2.2.2.2)]) fun (y370 : (((Nat) × (List PV)) × (Int))) =>
                                              bindO (L1000026 (Tlaw10_1000026a y362.2.2.1 y369.1.1 y369.1.2 y369.2 y370.1.1 y370.1.2 y370.2)) fun z =>
                                              Sum.elim (fun _y371 =>
                                                some false) (fun y372 =>
                                                bindO (L2 (Tlaw10_2a y372.1 y372.2.1 y372.2.2.1 y372.2.2.2.1 y372.2.2.2.2 (0 : Int))) fun z =>
                                                Sum.elim (fun _y373 =>
                                                  some false) (fun _y374 =>
                                                  some true) z) z
                                            else none
                                          else none
                                        else none
                                      else none
                                    else none
                                  else none
                                else none
                              else none) z
                          else none
                        else none
                      else none
                    else none
                  else none
                else none
              else bif (decide ((List.length y2.2.1) = (y2.1 * 3))) then
                bif (decide ((0 = 0) ∧ ((0 + y2.1) ≤ big))) then
                  bif (decide ((0 + y2.1) = (0 + y2.1))) then
                    bindO (F 56 (RSh.tup [(Prod.mk true [CK.bool, (CK.int .i64), (CK.int .i64), (CK.int .i64), (CK.int .i64)]), (Prod.mk false [(CK.int .i64)])]) [(PV.agg [(PV.int .i64 y2.2.2.2.2.1), (PV.int .i64 y2.2.2.2.2.2.1), (PV.int .i64 y2.2.2.2.2.2.2.1), (PV.int .i64 y2.2.2.2.2.2.2.2)]), (PV.list (0 + y2.1) ([] ++ y2.2.1)), (PV.int .i64 (w64 (x3 + y2.2.2.2.2.2.2.2)))]) fun (y375 : ((Bool) × ((Int) × ((Int) × ((Int) × ((Int) × (Int))))))) =>
                    bif (decide (y2.1 = 0)) then
                      bindO (F 56 (RSh.tup [(Prod.mk true [CK.bool, (CK.int .i64), (CK.int .i64), (CK.int .i64), (CK.int .i64)]), (Prod.mk false [(CK.int .i64)])]) [(PV.agg [(PV.int .i64 y2.2.2.2.2.1), (PV.int .i64 y2.2.2.2.2.2.1), (PV.int .i64 y2.2.2.2.2.2.2.1), (PV.int .i64 y2.2.2.2.2.2.2.2)]), (PV.list 0 []), (PV.int .i64 (w64 ((w64 (x3 + y2.2.2.2.2.2.2.2)) + (1 : Int))))]) fun (y376 : ((Bool) × ((Int) × ((Int) × ((Int) × ((Int) × (Int))))))) =>
                      bif (decide (y2.1 = 0)) then
                        bindO (F 18 (RSh.one (CK.int .i64)) [(PV.int .i64 y2.2.2.2.1), (PV.int .i64 (w64 (y2.2.2.2.2.2.2.2 + (1 : Int))))]) fun (y377 : (Int)) =>
                        bindO (F 56 (RSh.tup [(Prod.mk true [CK.bool, (CK.int .i64), (CK.int .i64), (CK.int .i64), (CK.int .i64)]), (Prod.mk false [(CK.int .i64)])]) [(PV.agg [(PV.int .i64 y2.2.2.2.2.1), (PV.int .i64 y2.2.2.2.2.2.1), (PV.int .i64 y2.2.2.2.2.2.2.1), (PV.int .i64 y2.2.2.2.2.2.2.2)]), (PV.list 0 []), (PV.int .i64 (w64 (x3 + y377)))]) fun (y378 : ((Bool) × ((Int) × ((Int) × ((Int) × ((Int) × (Int))))))) =>
                        bindO (L1000052 (Tlaw10_1000052a y2.1 y2.2.1 y2.2.2.1 x3 y251.2.2.2.2.2 y375.2.2.2.2.2 y376.2.2.2.2.2 y378.2.2.2.2.2 y2.2.2.2.2.1 y2.2.2.2.2.2.1 y2.2.2.2.2.2.2.1 y2.2.2.2.2.2.2.2 y251.1 y251.2.1 y251.2.2.1 y251.2.2.2.1 y251.2.2.2.2.1 y375.1 y375.2.1 y375.2.2.1 y375.2.2.2.1 y375.2.2.2.2.1 y376.1 y376.2.1 y376.2.2.1 y376.2.2.2.1 y376.2.2.2.2.1 y378.1 y378.2.1 y378.2.2.1 y378.2.2.2.1 y378.2.2.2.2.1)) fun z =>
                        Sum.elim (fun _y379 =>
                          some false) (fun y380 =>
                          bif (decide (y380.1 = 0)) then
                            bindO (L0 (Tlaw10_0a y380.1 y380.2.1 y380.2.2.1 0 (0 : Int) y380.2.2.2.1 y380.2.2.2.2.1 y380.2.2.2.2.2.1 y380.2.2.2.2.2.2 0 [])) fun y381 =>
                            bif (decide (y381.1 = 0)) then
                              bindO (F 57 (RSh.tup [(Prod.mk false [CK.list]), (Prod.mk false [(CK.int .i64)])]) [(PV.agg [(PV.int .i64 y381.2.2.2.2.1), (PV.int .i64 y381.2.2.2.2.2.1), (PV.int .i64 y381.2.2.2.2.2.2.1), (PV.int .i64 y381.2.2.2.2.2.2.2.1)]), (PV.list 0 [])]) fun (y382 : (((Nat) × (List PV)) × (Int))) =>
                              bif (decide (y381.2.2.2.2.2.2.2.2.1 = y381.2.2.2.1)) then
                                bindO (F 57 (RSh.tup [(Prod.mk false [CK.list]), (Prod.mk false [(CK.int .i64)])]) [(PV.agg [(PV.int .i64 y381.2.2.2.2.1), (PV.int .i64 y381.2.2.2.2.2.1), (PV.int .i64 y381.2.2.2.2.2.2.1), (PV.int .i64 y381.2.2.2.2.2.2.2.1)]), (PV.list y381.2.2.2.1 y381.2.2.2.2.2.2.2.2.2)]) fun (y383 : (((Nat) × (List PV)) × (Int))) =>
                                bindO (L1000026 (Tlaw10_1000026a y381.2.2.1 y382.1.1 y382.1.2 y382.2 y383.1.1 y383.1.2 y383.2)) fun z =>
                                Sum.elim (fun _y384 =>
                                  some false) (fun y385 =>
                                  bindO (L2 (Tlaw10_2a y385.1 y385.2.1 y385.2.2.1 y385.2.2.2.1 y385.2.2.2.2 (0 : Int))) fun z =>
                                  Sum.elim (fun _y386 =>
                                    some false) (fun _y387 =>
                                    some true) z) z
                              else none
                            else bif (decide ((List.length y381.2.1) = (y381.1 * 3))) then
                              bif (decide ((0 = 0) ∧ ((0 + y381.1) ≤ big))) then
                                bif (decide ((0 + y381.1) = (0 + y381.1))) then
                                  bindO (F 57 (RSh.tup [(Prod.mk false [CK.list]), (Prod.mk false [(CK.int .i64)])]) [(PV.agg [(PV.int .i64 y381.2.2.2.2.1), (PV.int .i64 y381.2.2.2.2.2.1), (PV.int .i64 y381.2.2.2.2.2.2.1), (PV.int .i64 y381.2.2.2.2.2.2.2.1)]), (PV.list (0 + y381.1) ([] ++ y381.2.1))]) fun (y388 : (((Nat) × (List PV)) × (Int))) =>
                                  bif (decide (y381.2.2.2.2.2.2.2.2.1 = y381.2.2.2.1)) then
                                    bindO (F 57 (RSh.tup [(Prod.mk false [CK.list]), (Prod.mk false [(CK.int .i64)])]) [(PV.agg [(PV.int .i64 y381.2.2.2.2.1), (PV.int .i64 y381.2.2.2.2.2.1), (PV.int .i64 y381.2.2.2.2.2.2.1), (PV.int .i64 y381.2.2.2.2.2.2.2.1)]), (PV.list y381.2.2.2.1 y381.2.2.2.2.2.2.2.2.2)]) fun (y389 : (((Nat) × (List PV)) × (Int))) =>
                                    bindO (L1000026 (Tlaw10_1000026a y381.2.2.1 y388.1.1 y388.1.2 y388.2 y389.1.1 y389.1.2 y389.2)) fun z =>
                                    Sum.elim (fun _y390 =>
                                      some false) (fun y391 =>
                                      bindO (L2 (Tlaw10_2a y391.1 y391.2.1 y391.2.2.1 y391.2.2.2.1 y391.2.2.2.2 (0 : Int))) fun z =>
                                      Sum.elim (fun _y392 =>
                                        some false) (fun _y393 =>
                                        some true) z) z
                                  else none
                                else none
                              else none
                            else none
                          else bif (decide ((List.length y380.2.1) = (y380.1 * 3))) then
                            bif (decide ((0 = 0) ∧ ((0 + y380.1) ≤ big))) then
                              bif (decide ((0 + y380.1) = (0 + y380.1))) then
                                bif (decide ((List.all ([] ++ y380.2.1) Gv.plain) = true)) then
                                  bindO (L0 (Tlaw10_0a y380.1 y380.2.1 y380.2.2.1 (0 + y380.1) (0 : Int) y380.2.2.2.1 y380.2.2.2.2.1 y380.2.2.2.2.2.1 y380.2.2.2.2.2.2 (0 + y380.1) ([] ++ y380.2.1))) fun y394 =>
                                  bif (decide (y394.1 = 0)) then
                                    bindO (F 57 (RSh.tup [(Prod.mk false [CK.list]), (Prod.mk false [(CK.int .i64)])]) [(PV.agg [(PV.int .i64 y394.2.2.2.2.1), (PV.int .i64 y394.2.2.2.2.2.1), (PV.int .i64 y394.2.2.2.2.2.2.1), (PV.int .i64 y394.2.2.2.2.2.2.2.1)]), (PV.list 0 [])]) fun (y395 : (((Nat) × (List PV)) × (Int))) =>
                                    bif (decide (y394.2.2.2.2.2.2.2.2.1 = y394.2.2.2.1)) then
                                      bindO (F 57 (RSh.tup [(Prod.mk false [CK.list]), (Prod.mk false [(CK.int .i64)])]) [(PV.agg [(PV.int .i64 y394.2.2.2.2.1), (PV.int .i64 y394.2.2.2.2.2.1), (PV.int .i64 y394.2.2.2.2.2.2.1), (PV.int .i64 y394.2.2.2.2.2.2.2.1)]), (PV.list y394.2.2.2.1 y394.2.2.2.2.2.2.2.2.2)]) fun (y396 : (((Nat) × (List PV)) × (Int))) =>
                                      bindO (L1000026 (Tlaw10_1000026a y394.2.2.1 y395.1.1 y395.1.2 y395.2 y396.1.1 y396.1.2 y396.2)) fun z =>
                                      Sum.elim (fun _y397 =>
                                        some false) (fun y398 =>
                                        bindO (L2 (Tlaw10_2a y398.1 y398.2.1 y398.2.2.1 y398.2.2.2.1 y398.2.2.2.2 (0 : Int))) fun z =>
                                        Sum.elim (fun _y399 =>
                                          some false) (fun _y400 =>
                                          some true) z) z
                                    else none
                                  else bif (decide ((List.length y394.2.1) = (y394.1 * 3))) then
                                    bif (decide ((0 = 0) ∧ ((0 + y394.1) ≤ big))) then
                                      bif (decide ((0 + y394.1) = (0 + y394.1))) then
                                        bindO (F 57 (RSh.tup [(Prod.mk false [CK.list]), (Prod.mk false [(CK.int .i64)])]) [(PV.agg [(PV.int .i64 y394.2.2.2.2.1), (PV.int .i64 y394.2.2.2.2.2.1), (PV.int .i64 y394.2.2.2.2.2.2.1), (PV.int .i64 y394.2.2.2.2.2.2.2.1)]), (PV.list (0 + y394.1) ([] ++ y394.2.1))]) fun (y401 : (((Nat) × (List PV)) × (Int))) =>
                                        bif (decide (y394.2.2.2.2.2.2.2.2.1 = y394.2.2.2.1)) then
                                          bindO (F 57 (RSh.tup [(Prod.mk false [CK.list]), (Prod.mk false [(CK.int .i64)])]) [(PV.agg [(PV.int .i64 y394.2.2.2.2.1), (PV.int .i64 y394.2.2.2.2.2.1), (PV.int .i64 y394.2.2.2.2.2.2.1), (PV.int .i64 y394.2.2.2.2.2.2.2.1)]), (PV.list y394.2.2.2.1 y394.2.2.2.2.2.2.2.2.2)]) fun (y402 : (((Nat) × (List PV)) × (Int))) =>
                                          bindO (L1000026 (Tlaw10_1000026a y394.2.2.1 y401.1.1 y401.1.2 y401.2 y402.1.1 y402.1.2 y402.2)) fun z =>
                                          Sum.elim (fun _y403 =>
                                            some false) (fun y404 =>
                                            bindO (L2 (Tlaw10_2a y404.1 y404.2.1 y404.2.2.1 y404.2.2.2.1 y404.2.2.2.2 (0 : Int))) fun z =>
                                            Sum.elim (fun _y405 =>
                                              some false) (fun _y406 =>
                                              some true) z) z
                                        else none
                                      else none
                                    else none
                                  else none
                                else none
                              else none
                            else none
                          else none) z
                      else bif (decide ((List.length y2.2.1) = (y2.1 * 3))) then
                        bif (decide ((0 = 0) ∧ ((0 + y2.1) ≤ big))) then
                          bif (decide ((0 + y2.1) = (0 + y2.1))) then
                            bindO (F 18 (RSh.one (CK.int .i64)) [(PV.int .i64 y2.2.2.2.1), (PV.int .i64 (w64 (y2.2.2.2.2.2.2.2 + (1 : Int))))]) fun (y407 : (Int)) =>
                            bindO (F 56 (RSh.tup [(Prod.mk true [CK.bool, (CK.int .i64), (CK.int .i64), (CK.int .i64), (CK.int .i64)]), (Prod.mk false [(CK.int .i64)])]) [(PV.agg [(PV.int .i64 y2.2.2.2.2.1), (PV.int .i64 y2.2.2.2.2.2.1), (PV.int .i64 y2.2.2.2.2.2.2.1), (PV.int .i64 y2.2.2.2.2.2.2.2)]), (PV.list (0 + y2.1) ([] ++ y2.2.1)), (PV.int .i64 (w64 (x3 + y407)))]) fun (y408 : ((Bool) × ((Int) × ((Int) × ((Int) × ((Int) × (Int))))))) =>
                            bindO (L1000052 (Tlaw10_1000052a y2.1 y2.2.1 y2.2.2.1 x3 y251.2.2.2.2.2 y375.2.2.2.2.2 y376.2.2.2.2.2 y408.2.2.2.2.2 y2.2.2.2.2.1 y2.2.2.2.2.2.1 y2.2.2.2.2.2.2.1 y2.2.2.2.2.2.2.2 y251.1 y251.2.1 y251.2.2.1 y251.2.2.2.1 y251.2.2.2.2.1 y375.1 y375.2.1 y375.2.2.1 y375.2.2.2.1 y375.2.2.2.2.1 y376.1 y376.2.1 y376.2.2.1 y376.2.2.2.1 y376.2.2.2.2.1 y408.1 y408.2.1 y408.2.2.1 y408.2.2.2.1 y408.2.2.2.2.1)) fun z =>
                            Sum.elim (fun _y409 =>
                              some false) (fun y410 =>
                              bif (decide (y410.1 = 0)) then
                                bindO (L0 (Tlaw10_0a y410.1 y410.2.1 y410.2.2.1 0 (0 : Int) y410.2.2.2.1 y410.2.2.2.2.1 y410.2.2.2.2.2.1 y410.2.2.2.2.2.2 0 [])) fun y411 =>
                                bif (decide (y411.1 = 0)) then
                                  bindO (F 57 (RSh.tup [(Prod.mk false [CK.list]), (Prod.mk false [(CK.int .i64)])]) [(PV.agg [(PV.int .i64 y411.2.2.2.2.1), (PV.int .i64 y411.2.2.2.2.2.1), (PV.int .i64 y411.2.2.2.2.2.2.1), (PV.int .i64 y411.2.2.2.2.2.2.2.1)]), (PV.list 0 [])]) fun (y412 : (((Nat) × (List PV)) × (Int))) =>
                                  bif (decide (y411.2.2.2.2.2.2.2.2.1 = y411.2.2.2.1)) then
                                    bindO (F 57 (RSh.tup [(Prod.mk false [CK.list]), (Prod.mk false [(CK.int .i64)])]) [(PV.agg [(PV.int .i64 y411.2.2.2.2.1), (PV.int .i64 y411.2.2.2.2.2.1), (PV.int .i64 y411.2.2.2.2.2.2.1), (PV.int .i64 y411.2.2.2.2.2.2.2.1)]), (PV.list y411.2.2.2.1 y411.2.2.2.2.2.2.2.2.2)]) fun (y413 : (((Nat) × (List PV)) × (Int))) =>
                                    bindO (L1000026 (Tlaw10_1000026a y411.2.2.1 y412.1.1 y412.1.2 y412.2 y413.1.1 y413.1.2 y413.2)) fun z =>
                                    Sum.elim (fun _y414 =>
                                      some false) (fun y415 =>
                                      bindO (L2 (Tlaw10_2a y415.1 y415.2.1 y415.2.2.1 y415.2.2.2.1 y415.2.2.2.2 (0 : Int))) fun z =>
                                      Sum.elim (fun _y416 =>
                                        some false) (fun _y417 =>
                                        some true) z) z
                                  else none
                                else bif (decide ((List.length y411.2.1) = (y411.1 * 3))) then
                                  bif (decide ((0 = 0) ∧ ((0 + y411.1) ≤ big))) then
                                    bif (decide ((0 + y411.1) = (0 + y411.1))) then
                                      bindO (F 57 (RSh.tup [(Prod.mk false [CK.list]), (Prod.mk false [(CK.int .i64)])]) [(PV.agg [(PV.int .i64 y411.2.2.2.2.1), (PV.int .i64 y411.2.2.2.2.2.1), (PV.int .i64 y411.2.2.2.2.2.2.1), (PV.int .i64 y411.2.2.2.2.2.2.2.1)]), (PV.list (0 + y411.1) ([] ++ y411.2.1))]) fun (y418 : (((Nat) × (List PV)) × (Int))) =>
                                      bif (decide (y411.2.2.2.2.2.2.2.2.1 = y411.2.2.2.1)) then
                                        bindO (F 57 (RSh.tup [(Prod.mk false [CK.list]), (Prod.mk false [(CK.int .i64)])]) [(PV.agg [(PV.int .i64 y411.2.2.2.2.1), (PV.int .i64 y411.2.2.2.2.2.1), (PV.int .i64 y411.2.2.2.2.2.2.1), (PV.int .i64 y411.2.2.2.2.2.2.2.1)]), (PV.list y411.2.2.2.1 y411.2.2.2.2.2.2.2.2.2)]) fun (y419 : (((Nat) × (List PV)) × (Int))) =>
                                        bindO (L1000026 (Tlaw10_1000026a y411.2.2.1 y418.1.1 y418.1.2 y418.2 y419.1.1 y419.1.2 y419.2)) fun z =>
                                        Sum.elim (fun _y420 =>
                                          some false) (fun y421 =>
                                          bindO (L2 (Tlaw10_2a y421.1 y421.2.1 y421.2.2.1 y421.2.2.2.1 y421.2.2.2.2 (0 : Int))) fun z =>
                                          Sum.elim (fun _y422 =>
                                            some false) (fun _y423 =>
                                            some true) z) z
                                      else none
                                    else none
                                  else none
                                else none
                              else bif (decide ((List.length y410.2.1) = (y410.1 * 3))) then
                                bif (decide ((0 = 0) ∧ ((0 + y410.1) ≤ big))) then
                                  bif (decide ((0 + y410.1) = (0 + y410.1))) then
                                    bif (decide ((List.all ([] ++ y410.2.1) Gv.plain) = true)) then
                                      bindO (L0 (Tlaw10_0a y410.1 y410.2.1 y410.2.2.1 (0 + y410.1) (0 : Int) y410.2.2.2.1 y410.2.2.2.2.1 y410.2.2.2.2.2.1 y410.2.2.2.2.2.2 (0 + y410.1) ([] ++ y410.2.1))) fun y424 =>
                                      bif (decide (y424.1 = 0)) then
                                        bindO (F 57 (RSh.tup [(Prod.mk false [CK.list]), (Prod.mk false [(CK.int .i64)])]) [(PV.agg [(PV.int .i64 y424.2.2.2.2.1), (PV.int .i64 y424.2.2.2.2.2.1), (PV.int .i64 y424.2.2.2.2.2.2.1), (PV.int .i64 y424.2.2.2.2.2.2.2.1)]), (PV.list 0 [])]) fun (y425 : (((Nat) × (List PV)) × (Int))) =>
                                        bif (decide (y424.2.2.2.2.2.2.2.2.1 = y424.2.2.2.1)) then
                                          bindO (F 57 (RSh.tup [(Prod.mk false [CK.list]), (Prod.mk false [(CK.int .i64)])]) [(PV.agg [(PV.int .i64 y424.2.2.2.2.1), (PV.int .i64 y424.2.2.2.2.2.1), (PV.int .i64 y424.2.2.2.2.2.2.1), (PV.int .i64 y424.2.2.2.2.2.2.2.1)]), (PV.list y424.2.2.2.1 y424.2.2.2.2.2.2.2.2.2)]) fun (y426 : (((Nat) × (List PV)) × (Int))) =>
                                          bindO (L1000026 (Tlaw10_1000026a y424.2.2.1 y425.1.1 y425.1.2 y425.2 y426.1.1 y426.1.2 y426.2)) fun z =>
                                          Sum.elim (fun _y427 =>
                                            some false) (fun y428 =>
                                            bindO (L2 (Tlaw10_2a y428.1 y428.2.1 y428.2.2.1 y428.2.2.2.1 y428.2.2.2.2 (0 : Int))) fun z =>
                                            Sum.elim (fun _y429 =>
                                              some false) (fun _y430 =>
                                              some true) z) z
                                        else none
                                      else bif (decide ((List.length y424.2.1) = (y424.1 * 3))) then
                                        bif (decide ((0 = 0) ∧ ((0 + y424.1) ≤ big))) then
                                          bif (decide ((0 + y424.1) = (0 + y424.1))) then
                                            bindO (F 57 (RSh.tup [(Prod.mk false [CK.list]), (Prod.mk false [(CK.int .i64)])]) [(PV.agg [(PV.int .i64 y424.2.2.2.2.1), (PV.int .i64 y424.2.2.2.2.2.1), (PV.int .i64 y424.2.2.2.2.2.2.1), (PV.int .i64 y424.2.2.2.2.2.2.2.1)]), (PV.list (0 + y424.1) ([] ++ y424.2.1))]) fun (y431 : (((Nat) × (List PV)) × (Int))) =>
                                            bif (decide (y424.2.2.2.2.2.2.2.2.1 = y424.2.2.2.1)) then
                                              bindO (F 57 (RSh.tup [(Prod.mk false [CK.list]), (Prod.mk false [(CK.int .i64)])]) [(PV.agg [(PV.int .i64 y424.2.2.2.2.1), (PV.int .i64 y424.2.2.2.2.2.1), (PV.int .i64 y424.2.2.2.2.2.2.1), (PV.int .i64 y424.2.2.2.2.2.2.2.1)]), (PV.list y424.2.2.2.1 y424.2.2.2.2.2.2.2.2.2)]) fun (y432 : (((Nat) × (List PV)) × (Int))) =>
                                              bindO (L1000026 (Tlaw10_1000026a y424.2.2.1 y431.1.1 y431.1.2 y431.2 y432.1.1 y432.1.2 y432.2)) fun z =>
                                              Sum.elim (fun _y433 =>
                                                some false) (fun y434 =>
                                                bindO (L2 (Tlaw10_2a y434.1 y434.2.1 y434.2.2.1 y434.2.2.2.1 y434.2.2.2.2 (0 : Int))) fun z =>
                                                Sum.elim (fun _y435 =>
                                                  some false) (fun _y436 =>
                                                  some true) z) z
                                            else none
                                          else none
                                        else none
                                      else none
                                    else none
                                  else none
                                else none
                              else none) z
                          else none
                        else none
                      else none
                    else bif (decide ((List.length y2.2.1) = (y2.1 * 3))) then
                      bif (decide ((0 = 0) ∧ ((0 + y2.1) ≤ big))) then
                        bif (decide ((0 + y2.1) = (0 + y2.1))) then
                          bindO (F 56 (RSh.tup [(Prod.mk true [CK.bool, (CK.int .i64), (CK.int .i64), (CK.int .i64), (CK.int .i64)]), (Prod.mk false [(CK.int .i64)])]) [(PV.agg [(PV.int .i64 y2.2.2.2.2.1), (PV.int .i64 y2.2.2.2.2.2.1), (PV.int .i64 y2.2.2.2.2.2.2.1), (PV.int .i64 y2.2.2.2.2.2.2.2)]), (PV.list (0 + y2.1) ([] ++ y2.2.1)), (PV.int .i64 (w64 ((w64 (x3 + y2.2.2.2.2.2.2.2)) + (1 : Int))))]) fun (y437 : ((Bool) × ((Int) × ((Int) × ((Int) × ((Int) × (Int))))))) =>
                          bif (decide (y2.1 = 0)) then
                            bindO (F 18 (RSh.one (CK.int .i64)) [(PV.int .i64 y2.2.2.2.1), (PV.int .i64 (w64 (y2.2.2.2.2.2.2.2 + (1 : Int))))]) fun (y438 : (Int)) =>
                            bindO (F 56 (RSh.tup [(Prod.mk true [CK.bool, (CK.int .i64), (CK.int .i64), (CK.int .i64), (CK.int .i64)]), (Prod.mk false [(CK.int .i64)])]) [(PV.agg [(PV.int .i64 y2.2.2.2.2.1), (PV.int .i64 y2.2.2.2.2.2.1), (PV.int .i64 y2.2.2.2.2.2.2.1), (PV.int .i64 y2.2.2.2.2.2.2.2)]), (PV.list 0 []), (PV.int .i64 (w64 (x3 + y438)))]) fun (y439 : ((Bool) × ((Int) × ((Int) × ((Int) × ((Int) × (Int))))))) =>
                            bindO (L1000052 (Tlaw10_1000052a y2.1 y2.2.1 y2.2.2.1 x3 y251.2.2.2.2.2 y375.2.2.2.2.2 y437.2.2.2.2.2 y439.2.2.2.2.2 y2.2.2.2.2.1 y2.2.2.2.2.2.1 y2.2.2.2.2.2.2.1 y2.2.2.2.2.2.2.2 y251.1 y251.2.1 y251.2.2.1 y251.2.2.2.1 y251.2.2.2.2.1 y375.1 y375.2.1 y375.2.2.1 y375.2.2.2.1 y375.2.2.2.2.1 y437.1 y437.2.1 y437.2.2.1 y437.2.2.2.1 y437.2.2.2.2.1 y439.1 y439.2.1 y439.2.2.1 y439.2.2.2.1 y439.2.2.2.2.1)) fun z =>
                            Sum.elim (fun _y440 =>
                              some false) (fun y441 =>
                              bif (decide (y441.1 = 0)) then
                                bindO (L0 (Tlaw10_0a y441.1 y441.2.1 y441.2.2.1 0 (0 : Int) y441.2.2.2.1 y441.2.2.2.2.1 y441.2.2.2.2.2.1 y441.2.2.2.2.2.2 0 [])) fun y442 =>
                                bif (decide (y442.1 = 0)) then
                                  bindO (F 57 (RSh.tup [(Prod.mk false [CK.list]), (Prod.mk false [(CK.int .i64)])]) [(PV.agg [(PV.int .i64 y442.2.2.2.2.1), (PV.int .i64 y442.2.2.2.2.2.1), (PV.int .i64 y442.2.2.2.2.2.2.1), (PV.int .i64 y442.2.2.2.2.2.2.2.1)]), (PV.list 0 [])]) fun (y443 : (((Nat) × (List PV)) × (Int))) =>
                                  bif (decide (y442.2.2.2.2.2.2.2.2.1 = y442.2.2.2.1)) then
                                    bindO (F 57 (RSh.tup [(Prod.mk false [CK.list]), (Prod.mk false [(CK.int .i64)])]) [(PV.agg [(PV.int .i64 y442.2.2.2.2.1), (PV.int .i64 y442.2.2.2.2.2.1), (PV.int .i64 y442.2.2.2.2.2.2.1), (PV.int .i64 y442.2.2.2.2.2.2.2.1)]), (PV.list y442.2.2.2.1 y442.2.2.2.2.2.2.2.2.2)]) fun (y444 : (((Nat) × (List PV)) × (Int))) =>
                                    bindO (L1000026 (Tlaw10_1000026a y442.2.2.1 y443.1.1 y443.1.2 y443.2 y444.1.1 y444.1.2 y444.2)) fun z =>
                                    Sum.elim (fun _y445 =>
                                      some false) (fun y446 =>
                                      bindO (L2 (Tlaw10_2a y446.1 y446.2.1 y446.2.2.1 y446.2.2.2.1 y446.2.2.2.2 (0 : Int))) fun z =>
                                      Sum.elim (fun _y447 =>
                                        some false) (fun _y448 =>
                                        some true) z) z
                                  else none
                                else bif (decide ((List.length y442.2.1) = (y442.1 * 3))) then
                                  bif (decide ((0 = 0) ∧ ((0 + y442.1) ≤ big))) then
                                    bif (decide ((0 + y442.1) = (0 + y442.1))) then
                                      bindO (F 57 (RSh.tup [(Prod.mk false [CK.list]), (Prod.mk false [(CK.int .i64)])]) [(PV.agg [(PV.int .i64 y442.2.2.2.2.1), (PV.int .i64 y442.2.2.2.2.2.1), (PV.int .i64 y442.2.2.2.2.2.2.1), (PV.int .i64 y442.2.2.2.2.2.2.2.1)]), (PV.list (0 + y442.1) ([] ++ y442.2.1))]) fun (y449 : (((Nat) × (List PV)) × (Int))) =>
                                      bif (decide (y442.2.2.2.2.2.2.2.2.1 = y442.2.2.2.1)) then
                                        bindO (F 57 (RSh.tup [(Prod.mk false [CK.list]), (Prod.mk false [(CK.int .i64)])]) [(PV.agg [(PV.int .i64 y442.2.2.2.2.1), (PV.int .i64 y442.2.2.2.2.2.1), (PV.int .i64 y442.2.2.2.2.2.2.1), (PV.int .i64 y442.2.2.2.2.2.2.2.1)]), (PV.list y442.2.2.2.1 y442.2.2.2.2.2.2.2.2.2)]) fun (y450 : (((Nat) × (List PV)) × (Int))) =>
                                        bindO (L1000026 (Tlaw10_1000026a y442.2.2.1 y449.1.1 y449.1.2 y449.2 y450.1.1 y450.1.2 y450.2)) fun z =>
                                        Sum.elim (fun _y451 =>
                                          some false) (fun y452 =>
                                          bindO (L2 (Tlaw10_2a y452.1 y452.2.1 y452.2.2.1 y452.2.2.2.1 y452.2.2.2.2 (0 : Int))) fun z =>
                                          Sum.elim (fun _y453 =>
                                            some false) (fun _y454 =>
                                            some true) z) z
                                      else none
                                    else none
                                  else none
                                else none
                              else bif (decide ((List.length y441.2.1) = (y441.1 * 3))) then
                                bif (decide ((0 = 0) ∧ ((0 + y441.1) ≤ big))) then
                                  bif (decide ((0 + y441.1) = (0 + y441.1))) then
                                    bif (decide ((List.all ([] ++ y441.2.1) Gv.plain) = true)) then
                                      bindO (L0 (Tlaw10_0a y441.1 y441.2.1 y441.2.2.1 (0 + y441.1) (0 : Int) y441.2.2.2.1 y441.2.2.2.2.1 y441.2.2.2.2.2.1 y441.2.2.2.2.2.2 (0 + y441.1) ([] ++ y441.2.1))) fun y455 =>
                                      bif (decide (y455.1 = 0)) then
                                        bindO (F 57 (RSh.tup [(Prod.mk false [CK.list]), (Prod.mk false [(CK.int .i64)])]) [(PV.agg [(PV.int .i64 y455.2.2.2.2.1), (PV.int .i64 y455.2.2.2.2.2.1), (PV.int .i64 y455.2.2.2.2.2.2.1), (PV.int .i64 y455.2.2.2.2.2.2.2.1)]), (PV.list 0 [])]) fun (y456 : (((Nat) × (List PV)) × (Int))) =>
                                        bif (decide (y455.2.2.2.2.2.2.2.2.1 = y455.2.2.2.1)) then
                                          bindO (F 57 (RSh.tup [(Prod.mk false [CK.list]), (Prod.mk false [(CK.int .i64)])]) [(PV.agg [(PV.int .i64 y455.2.2.2.2.1), (PV.int .i64 y455.2.2.2.2.2.1), (PV.int .i64 y455.2.2.2.2.2.2.1), (PV.int .i64 y455.2.2.2.2.2.2.2.1)]), (PV.list y455.2.2.2.1 y455.2.2.2.2.2.2.2.2.2)]) fun (y457 : (((Nat) × (List PV)) × (Int))) =>
                                          bindO (L1000026 (Tlaw10_1000026a y455.2.2.1 y456.1.1 y456.1.2 y456.2 y457.1.1 y457.1.2 y457.2)) fun z =>
                                          Sum.elim (fun _y458 =>
                                            some false) (fun y459 =>
                                            bindO (L2 (Tlaw10_2a y459.1 y459.2.1 y459.2.2.1 y459.2.2.2.1 y459.2.2.2.2 (0 : Int))) fun z =>
                                            Sum.elim (fun _y460 =>
                                              some false) (fun _y461 =>
                                              some true) z) z
                                        else none
                                      else bif (decide ((List.length y455.2.1) = (y455.1 * 3))) then
                                        bif (decide ((0 = 0) ∧ ((0 + y455.1) ≤ big))) then
                                          bif (decide ((0 + y455.1) = (0 + y455.1))) then
                                            bindO (F 57 (RSh.tup [(Prod.mk false [CK.list]), (Prod.mk false [(CK.int .i64)])]) [(PV.agg [(PV.int .i64 y455.2.2.2.2.1), (PV.int .i64 y455.2.2.2.2.2.1), (PV.int .i64 y455.2.2.2.2.2.2.1), (PV.int .i64 y455.2.2.2.2.2.2.2.1)]), (PV.list (0 + y455.1) ([] ++ y455.2.1))]) fun (y462 : (((Nat) × (List PV)) × (Int))) =>
                                            bif (decide (y455.2.2.2.2.2.2.2.2.1 = y455.2.2.2.1)) then
                                              bindO (F 57 (RSh.tup [(Prod.mk false [CK.list]), (Prod.mk false [(CK.int .i64)])]) [(PV.agg [(PV.int .i64 y455.2.2.2.2.1), (PV.int .i64 y455.2.2.2.2.2.1), (PV.int .i64 y455.2.2.2.2.2.2.1), (PV.int .i64 y455.2.2.2.2.2.2.2.1)]), (PV.list y455.2.2.2.1 y455.2.2.2.2.2.2.2.2.2)]) fun (y463 : (((Nat) × (List PV)) × (Int))) =>
                                              bindO (L1000026 (Tlaw10_1000026a y455.2.2.1 y462.1.1 y462.1.2 y462.2 y463.1.1 y463.1.2 y463.2)) fun z =>
                                              Sum.elim (fun _y464 =>
                                                some false) (fun y465 =>
                                                bindO (L2 (Tlaw10_2a y465.1 y465.2.1 y465.2.2.1 y465.2.2.2.1 y465.2.2.2.2 (0 : Int))) fun z =>
                                                Sum.elim (fun _y466 =>
                                                  some false) (fun _y467 =>
                                                  some true) z) z
                                            else none
                                          else none
                                        else none
                                      else none
                                    else none
                                  else none
                                else none
                              else none) z
                          else bif (decide ((List.length y2.2.1) = (y2.1 * 3))) then
                            bif (decide ((0 = 0) ∧ ((0 + y2.1) ≤ big))) then
                              bif (decide ((0 + y2.1) = (0 + y2.1))) then
                                bindO (F 18 (RSh.one (CK.int .i64)) [(PV.int .i64 y2.2.2.2.1), (PV.int .i64 (w64 (y2.2.2.2.2.2.2.2 + (1 : Int))))]) fun (y468 : (Int)) =>
                                bindO (F 56 (RSh.tup [(Prod.mk true [CK.bool, (CK.int .i64), (CK.int .i64), (CK.int .i64), (CK.int .i64)]), (Prod.mk false [(CK.int .i64)])]) [(PV.agg [(PV.int .i64 y2.2.2.2.2.1), (PV.int .i64 y2.2.2.2.2.2.1), (PV.int .i64 y2.2.2.2.2.2.2.1), (PV.int .i64 y2.2.2.2.2.2.2.2)]), (PV.list (0 + y2.1) ([] ++ y2.2.1)), (PV.int .i64 (w64 (x3 + y468)))]) fun (y469 : ((Bool) × ((Int) × ((Int) × ((Int) × ((Int) × (Int))))))) =>
                                bindO (L1000052 (Tlaw10_1000052a y2.1 y2.2.1 y2.2.2.1 x3 y251.2.2.2.2.2 y375.2.2.2.2.2 y437.2.2.2.2.2 y469.2.2.2.2.2 y2.2.2.2.2.1 y2.2.2.2.2.2.1 y2.2.2.2.2.2.2.1 y2.2.2.2.2.2.2.2 y251.1 y251.2.1 y251.2.2.1 y251.2.2.2.1 y251.2.2.2.2.1 y375.1 y375.2.1 y375.2.2.1 y375.2.2.2.1 y375.2.2.2.2.1 y437.1 y437.2.1 y437.2.2.1 y437.2.2.2.1 y437.2.2.2.2.1 y469.1 y469.2.1 y469.2.2.1 y469.2.2.2.1 y469.2.2.2.2.1)) fun z =>
                                Sum.elim (fun _y470 =>
                                  some false) (fun y471 =>
                                  bif (decide (y471.1 = 0)) then
                                    bindO (L0 (Tlaw10_0a y471.1 y471.2.1 y471.2.2.1 0 (0 : Int) y471.2.2.2.1 y471.2.2.2.2.1 y471.2.2.2.2.2.1 y471.2.2.2.2.2.2 0 [])) fun y472 =>
                                    bif (decide (y472.1 = 0)) then
                                      bindO (F 57 (RSh.tup [(Prod.mk false [CK.list]), (Prod.mk false [(CK.int .i64)])]) [(PV.agg [(PV.int .i64 y472.2.2.2.2.1), (PV.int .i64 y472.2.2.2.2.2.1), (PV.int .i64 y472.2.2.2.2.2.2.1), (PV.int .i64 y472.2.2.2.2.2.2.2.1)]), (PV.list 0 [])]) fun (y473 : (((Nat) × (List PV)) × (Int))) =>
                                      bif (decide (y472.2.2.2.2.2.2.2.2.1 = y472.2.2.2.1)) then
                                        bindO (F 57 (RSh.tup [(Prod.mk false [CK.list]), (Prod.mk false [(CK.int .i64)])]) [(PV.agg [(PV.int .i64 y472.2.2.2.2.1), (PV.int .i64 y472.2.2.2.2.2.1), (PV.int .i64 y472.2.2.2.2.2.2.1), (PV.int .i64 y472.2.2.2.2.2.2.2.1)]), (PV.list y472.2.2.2.1 y472.2.2.2.2.2.2.2.2.2)]) fun (y474 : (((Nat) × (List PV)) × (Int))) =>
                                        bindO (L1000026 (Tlaw10_1000026a y472.2.2.1 y473.1.1 y473.1.2 y473.2 y474.1.1 y474.1.2 y474.2)) fun z =>
                                        Sum.elim (fun _y475 =>
                                          some false) (fun y476 =>
                                          bindO (L2 (Tlaw10_2a y476.1 y476.2.1 y476.2.2.1 y476.2.2.2.1 y476.2.2.2.2 (0 : Int))) fun z =>
                                          Sum.elim (fun _y477 =>
                                            some false) (fun _y478 =>
                                            some true) z) z
                                      else none
                                    else bif (decide ((List.length y472.2.1) = (y472.1 * 3))) then
                                      bif (decide ((0 = 0) ∧ ((0 + y472.1) ≤ big))) then
                                        bif (decide ((0 + y472.1) = (0 + y472.1))) then
                                          bindO (F 57 (RSh.tup [(Prod.mk false [CK.list]), (Prod.mk false [(CK.int .i64)])]) [(PV.agg [(PV.int .i64 y472.2.2.2.2.1), (PV.int .i64 y472.2.2.2.2.2.1), (PV.int .i64 y472.2.2.2.2.2.2.1), (PV.int .i64 y472.2.2.2.2.2.2.2.1)]), (PV.list (0 + y472.1) ([] ++ y472.2.1))]) fun (y479 : (((Nat) × (List PV)) × (Int))) =>
                                          bif (decide (y472.2.2.2.2.2.2.2.2.1 = y472.2.2.2.1)) then
                                            bindO (F 57 (RSh.tup [(Prod.mk false [CK.list]), (Prod.mk false [(CK.int .i64)])]) [(PV.agg [(PV.int .i64 y472.2.2.2.2.1), (PV.int .i64 y472.2.2.2.2.2.1), (PV.int .i64 y472.2.2.2.2.2.2.1), (PV.int .i64 y472.2.2.2.2.2.2.2.1)]), (PV.list y472.2.2.2.1 y472.2.2.2.2.2.2.2.2.2)]) fun (y480 : (((Nat) × (List PV)) × (Int))) =>
                                            bindO (L1000026 (Tlaw10_1000026a y472.2.2.1 y479.1.1 y479.1.2 y479.2 y480.1.1 y480.1.2 y480.2)) fun z =>
                                            Sum.elim (fun _y481 =>
                                              some false) (fun y482 =>
                                              bindO (L2 (Tlaw10_2a y482.1 y482.2.1 y482.2.2.1 y482.2.2.2.1 y482.2.2.2.2 (0 : Int))) fun z =>
                                              Sum.elim (fun _y483 =>
                                                some false) (fun _y484 =>
                                                some true) z) z
                                          else none
                                        else none
                                      else none
                                    else none
                                  else bif (decide ((List.length y471.2.1) = (y471.1 * 3))) then
                                    bif (decide ((0 = 0) ∧ ((0 + y471.1) ≤ big))) then
                                      bif (decide ((0 + y471.1) = (0 + y471.1))) then
                                        bif (decide ((List.all ([] ++ y471.2.1) Gv.plain) = true)) then
                                          bindO (L0 (Tlaw10_0a y471.1 y471.2.1 y471.2.2.1 (0 + y471.1) (0 : Int) y471.2.2.2.1 y471.2.2.2.2.1 y471.2.2.2.2.2.1 y471.2.2.2.2.2.2 (0 + y471.1) ([] ++ y471.2.1))) fun y485 =>
                                          bif (decide (y485.1 = 0)) then
                                            bindO (F 57 (RSh.tup [(Prod.mk false [CK.list]), (Prod.mk false [(CK.int .i64)])]) [(PV.agg [(PV.int .i64 y485.2.2.2.2.1), (PV.int .i64 y485.2.2.2.2.2.1), (PV.int .i64 y485.2.2.2.2.2.2.1), (PV.int .i64 y485.2.2.2.2.2.2.2.1)]), (PV.list 0 [])]) fun (y486 : (((Nat) × (List PV)) × (Int))) =>
                                            bif (decide (y485.2.2.2.2.2.2.2.2.1 = y485.2.2.2.1)) then
                                              bindO (F 57 (RSh.tup [(Prod.mk false [CK.list]), (Prod.mk false [(CK.int .i64)])]) [(PV.agg [(PV.int .i64 y485.2.2.2.2.1), (PV.int .i64 y485.2.2.2.2.2.1), (PV.int .i64 y485.2.2.2.2.2.2.1), (PV.int .i64 y485.2.2.2.2.2.2.2.1)]), (PV.list y485.2.2.2.1 y485.2.2.2.2.2.2.2.2.2)]) fun (y487 : (((Nat) × (List PV)) × (Int))) =>
                                              bindO (L1000026 (Tlaw10_1000026a y485.2.2.1 y486.1.1 y486.1.2 y486.2 y487.1.1 y487.1.2 y487.2)) fun z =>
                                              Sum.elim (fun _y488 =>
                                                some false) (fun y489 =>
                                                bindO (L2 (Tlaw10_2a y489.1 y489.2.1 y489.2.2.1 y489.2.2.2.1 y489.2.2.2.2 (0 : Int))) fun z =>
                                                Sum.elim (fun _y490 =>
                                                  some false) (fun _y491 =>
                                                  some true) z) z
                                            else none
                                          else bif (decide ((List.length y485.2.1) = (y485.1 * 3))) then
                                            bif (decide ((0 = 0) ∧ ((0 + y485.1) ≤ big))) then
                                              bif (decide ((0 + y485.1) = (0 + y485.1))) then
                                                bindO (F 57 (RSh.tup [(Prod.mk false [CK.list]), (Prod.mk false [(CK.int .i64)])]) [(PV.agg [(PV.int .i64 y485.2.2.2.2.1), (PV.int .i64 y485.2.2.2.2.2.1), (PV.int .i64 y485.2.2.2.2.2.2.1), (PV.int .i64 y485.2.2.2.2.2.2.2.1)]), (PV.list (0 + y485.1) ([] ++ y485.2.1))]) fun (y492 : (((Nat) × (List PV)) × (Int))) =>
                                                bif (decide (y485.2.2.2.2.2.2.2.2.1 = y485.2.2.2.1)) then
                                                  bindO (F 57 (RSh.tup [(Prod.mk false [CK.list]), (Prod.mk false [(CK.int .i64)])]) [(PV.agg [(PV.int .i64 y485.2.2.2.2.1), (PV.int .i64 y485.2.2.2.2.2.1), (PV.int .i64 y485.2.2.2.2.2.2.1), (PV.int .i64 y485.2.2.2.2.2.2.2.1)]), (PV.list y485.2.2.2.1 y485.2.2.2.2.2.2.2.2.2)]) fun (y493 : (((Nat) × (List PV)) × (Int))) =>
                                                  bindO (L1000026 (Tlaw10_1000026a y485.2.2.1 y492.1.1 y492.1.2 y492.2 y493.1.1 y493.1.2 y493.2)) fun z =>
                                                  Sum.elim (fun _y494 =>
                                                    some false) (fun y495 =>
                                                    bindO (L2 (Tlaw10_2a y495.1 y495.2.1 y495.2.2.1 y495.2.2.2.1 y495.2.2.2.2 (0 : Int))) fun z =>
                                                    Sum.elim (fun _y496 =>
                                                      some false) (fun _y497 =>
                                                      some true) z) z
                                                else none
                                              else none
                                            else none
                                          else none
                                        else none
                                      else none
                                    else none
                                  else none) z
                              else none
                            else none
                          else none
                        else none
                      else none
                    else none
                  else none
                else none
              else none
            else none
          else none
        else none
      else none) z
  else some false
theorem tlaw10_eq (F : FnT) (L0 : Q → Option Ylaw10_0) (L2 : Q → Option Ylaw10_2) (L1000069 : Q → Option Ylaw10_1000069) (L1000052 : Q → Option Ylaw10_1000052) (L1000026 : Q → Option Ylaw10_1000026) (p0_0 : Int) (p0_1 : Int) (p0_2 : Int) (p0_3 : Int) (p1n : Nat) (p1c : List PV) (p2_0 : Int) (p2_1 : Int) : semF (callP F Elaw10 20) s10 (loopT [⟨0, Ylaw10_0, L0, XLlaw10_0⟩, ⟨2, Ylaw10_2, L2, XLlaw10_2⟩, ⟨1000069, Ylaw10_1000069, L1000069, XLlaw10_1000069⟩, ⟨1000052, Ylaw10_1000052, L1000052, XLlaw10_1000052⟩, ⟨1000026, Ylaw10_1000026, L1000026, XLlaw10_1000026⟩]) 400 a10 [PV.agg [PV.int .i64 p0_0, PV.int .i64 p0_1, PV.int .i64 p0_2, PV.int .i64 p0_3], PV.list p1n p1c, PV.agg [PV.int .i64 p2_0, PV.int .i64 p2_1]] (fun rv => decR (RSh.one CK.bool) rv.pv) = tlaw10 F L0 L2 L1000069 L1000052 L1000026 p0_0 p0_1 p0_2 p0_3 p1n p1c p2_0 p2_1 := by kernel_rfl
noncomputable abbrev Flaw10 (args : List PV) := Fn env 10 (RSh.one CK.bool) args
theorem Flaw10_of  (p0_0 : Int) (p0_1 : Int) (p0_2 : Int) (p0_3 : Int) (p1n : Nat) (p1c : List PV) (p2_0 : Int) (p2_1 : Int) {res : (Bool)} (h : tlaw10 (Fn env) Llaw10_0 Llaw10_2 Llaw10_1000069 Llaw10_1000052 Llaw10_1000026 p0_0 p0_1 p0_2 p0_3 p1n p1c p2_0 p2_1 = some res) : Flaw10 [PV.agg [PV.int .i64 p0_0, PV.int .i64 p0_1, PV.int .i64 p0_2, PV.int .i64 p0_3], PV.list p1n p1c, PV.agg [PV.int .i64 p2_0, PV.int .i64 p2_1]] = some res :=
  fn_of Elaw10_ok rfl rfl (lo_cons (lpO_ok Ulaw10) (lo_cons (lpO_ok Ulaw10) (lo_cons (lpO_ok Ulaw10) (lo_cons (lpO_ok Ulaw10) (lo_cons (lpO_ok Ulaw10) lo_nil))))) ((tlaw10_eq _ _ _ _ _ _ _ _ _ _ _ _ _ _).trans h)
end Gv
