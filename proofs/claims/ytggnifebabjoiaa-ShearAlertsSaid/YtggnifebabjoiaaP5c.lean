/- What the functions do, round by round: P5c. -/
import Derived.Test.YtggnifebabjoiaaGvEnv
namespace Gv
open Go
set_option maxRecDepth 100000
def ErAl : List Entry := [.out 108 (RSh.agg [CK.bool, (CK.int .i64), (CK.int .i64), (CK.int .i64), (CK.int .i64)]), .out 52 (RSh.tup [(Prod.mk true [CK.bool, (CK.int .i64), (CK.int .i64), (CK.int .i64), (CK.int .i64)]), (Prod.mk false [(CK.int .i64)])])]
theorem ErAl_ok : ∀ e ∈ ErAl, EntOK env e := (ent_out (ent_out ent_nil))
def TrAl_0a (n0 : Nat) (c1 : List PV) (i2 : Int) (i3 : Int) (i4 : Int) (i5 : Int) (i6 : Int) (b7 : Bool) (i8 : Int) (i9 : Int) (i10 : Int) (i11 : Int) : Q := ⟨(tm 93 [(1, (AV.p (PV.list n0 c1))), (2, (AV.loc 2 0)), (5, AV.nilS), (6, (AV.loc 6 0)), (7, (AV.p (PV.int .i64 i2)))]), (mm 93 [(2, (Bk.pcs true [(PV.int .i64 i3), (PV.int .i64 i4), (PV.int .i64 i5), (PV.int .i64 i6)])), (6, (Bk.pcs true [(PV.bool b7), (PV.int .i64 i8), (PV.int .i64 i9), (PV.int .i64 i10), (PV.int .i64 i11)]))])⟩
def TrAl_0b (n0 : Nat) (c1 : List PV) (n2 : Nat) (i3 : Int) (i4 : Int) (i5 : Int) (i6 : Int) (i7 : Int) (b8 : Bool) (i9 : Int) (i10 : Int) (i11 : Int) (i12 : Int) (n13 : Nat) (c14 : List PV) : Q := ⟨(tm 93 [(1, (AV.p (PV.list n0 c1))), (2, (AV.loc 2 0)), (5, (AV.vap 78 n2 3)), (6, (AV.loc 6 0)), (7, (AV.p (PV.int .i64 i3)))]), (mm 93 [(2, (Bk.pcs true [(PV.int .i64 i4), (PV.int .i64 i5), (PV.int .i64 i6), (PV.int .i64 i7)])), (6, (Bk.pcs true [(PV.bool b8), (PV.int .i64 i9), (PV.int .i64 i10), (PV.int .i64 i11), (PV.int .i64 i12)])), (78, (Bk.vec true n13 3 c14))])⟩
def XrAl_0a (y : Int × Int × Int × Int × Bool × Int × Int × Int × Int) : Ext × Q := (Ext.normal, ⟨(tm 93 [(2, (AV.loc 2 0)), (5, AV.nilS), (6, (AV.loc 6 0))]), (mm 93 [(2, (Bk.pcs true [(PV.int .i64 y.1), (PV.int .i64 y.2.1), (PV.int .i64 y.2.2.1), (PV.int .i64 y.2.2.2.1)])), (6, (Bk.pcs true [(PV.bool y.2.2.2.2.1), (PV.int .i64 y.2.2.2.2.2.1), (PV.int .i64 y.2.2.2.2.2.2.1), (PV.int .i64 y.2.2.2.2.2.2.2.1), (PV.int .i64 y.2.2.2.2.2.2.2.2)]))])⟩)
def IrAl_0a (q : Ext × S) : Int × Int × Int × Int × Bool × Int × Int × Int × Int := ((pP_int1 (hdP (pB_pcs1 (avM q.2 2)))), (pP_int1 (hdP (List.tail (pB_pcs1 (avM q.2 2))))), (pP_int1 (hdP (List.tail (List.tail (pB_pcs1 (avM q.2 2)))))), (pP_int1 (hdP (List.tail (List.tail (List.tail (pB_pcs1 (avM q.2 2))))))), (pP_bool0 (hdP (pB_pcs1 (avM q.2 6)))), (pP_int1 (hdP (List.tail (pB_pcs1 (avM q.2 6))))), (pP_int1 (hdP (List.tail (List.tail (pB_pcs1 (avM q.2 6)))))), (pP_int1 (hdP (List.tail (List.tail (List.tail (pB_pcs1 (avM q.2 6))))))), (pP_int1 (hdP (List.tail (List.tail (List.tail (List.tail (pB_pcs1 (avM q.2 6)))))))))
def XrAl_0b (y : Nat × Int × Int × Int × Int × Bool × Int × Int × Int × Int × Nat × List PV) : Ext × Q := (Ext.normal, ⟨(tm 93 [(2, (AV.loc 2 0)), (5, (AV.vap 78 y.1 3)), (6, (AV.loc 6 0))]), (mm 93 [(2, (Bk.pcs true [(PV.int .i64 y.2.1), (PV.int .i64 y.2.2.1), (PV.int .i64 y.2.2.2.1), (PV.int .i64 y.2.2.2.2.1)])), (6, (Bk.pcs true [(PV.bool y.2.2.2.2.2.1), (PV.int .i64 y.2.2.2.2.2.2.1), (PV.int .i64 y.2.2.2.2.2.2.2.1), (PV.int .i64 y.2.2.2.2.2.2.2.2.1), (PV.int .i64 y.2.2.2.2.2.2.2.2.2.1)])), (78, (Bk.vec true y.2.2.2.2.2.2.2.2.2.2.1 3 y.2.2.2.2.2.2.2.2.2.2.2))])⟩)
def IrAl_0b (q : Ext × S) : Nat × Int × Int × Int × Int × Bool × Int × Int × Int × Int × Nat × List PV := ((pA_vap1 (avT q.2 5)), (pP_int1 (hdP (pB_pcs1 (avM q.2 2)))), (pP_int1 (hdP (List.tail (pB_pcs1 (avM q.2 2))))), (pP_int1 (hdP (List.tail (List.tail (pB_pcs1 (avM q.2 2)))))), (pP_int1 (hdP (List.tail (List.tail (List.tail (pB_pcs1 (avM q.2 2))))))), (pP_bool0 (hdP (pB_pcs1 (avM q.2 6)))), (pP_int1 (hdP (List.tail (pB_pcs1 (avM q.2 6))))), (pP_int1 (hdP (List.tail (List.tail (pB_pcs1 (avM q.2 6)))))), (pP_int1 (hdP (List.tail (List.tail (List.tail (pB_pcs1 (avM q.2 6))))))), (pP_int1 (hdP (List.tail (List.tail (List.tail (List.tail (pB_pcs1 (avM q.2 6)))))))), (pB_vec1 (avM q.2 78)), (pB_vec3 (avM q.2 78)))
abbrev YrAl_0 : Type := (Int × Int × Int × Int × Bool × Int × Int × Int × Int) ⊕ ((Nat × Int × Int × Int × Int × Bool × Int × Int × Int × Int × Nat × List PV))
def XLrAl_0 : XL YrAl_0 := .more XrAl_0a (.one XrAl_0b)
def IrAl_0 (q : Ext × S) : YrAl_0 := bif (cA (avT q.2 5) == 1) then (Sum.inl (IrAl_0a q)) else (Sum.inr (IrAl_0b q))
theorem XIrAl_0a (y : Int × Int × Int × Int × Bool × Int × Int × Int × Int) : IrAl_0 (xe (XrAl_0a y)) = (Sum.inl y) := rfl
theorem XIrAl_0b (y : Nat × Int × Int × Int × Int × Bool × Int × Int × Int × Int × Nat × List PV) : IrAl_0 (xe (XrAl_0b y)) = (Sum.inr y) := rfl
theorem XIrAl_0 (y : YrAl_0) : IrAl_0 (xe (XLrAl_0.fn y)) = y := (match y with | .inl y => XIrAl_0a y | .inr y => XIrAl_0b y)
noncomputable abbrev LrAl_0 : Q → Option YrAl_0 := lpO env a60.body 0 XLrAl_0
noncomputable abbrev RrAl_0 : Q → Option (Ext × S) := lpR env a60.body 0
theorem UrAl : uniq ((blocksOf a60.body).map (·.1)) = true := by kernel_rfl
def BrAl_0a (F : FnT) (N : QO) (E : EO) (_L0 : Q → Option YrAl_0) (n0 : Nat) (c1 : List PV) (i2 : Int) (i3 : Int) (i4 : Int) (i5 : Int) (i6 : Int) (b7 : Bool) (i8 : Int) (i9 : Int) (i10 : Int) (i11 : Int) : Option (Ext × S) :=
  bif (decide (i2 < (n0 : Int))) then
    bif b7 then
      bif b7 then
        bif (decide (((0 : Int) ≤ i2) ∧ (i2 < (n0 : Int)))) then
          bindO (intC .i64 (c1[((Int.toNat i2) * 3)]?)) fun x0 =>
          bindO (intC .i64 (c1[(((Int.toNat i2) * 3) + 1)]?)) fun x1 =>
          bindO (intC .i64 (c1[((((Int.toNat i2) * 3) + 1) + 1)]?)) fun x2 =>
          bindO (F 52 (RSh.tup [(Prod.mk true [CK.bool, (CK.int .i64), (CK.int .i64), (CK.int .i64), (CK.int .i64)]), (Prod.mk false [(CK.int .i64)])]) [(PV.agg [(PV.int .i64 i3), (PV.int .i64 i4), (PV.int .i64 i5), (PV.int .i64 i6)]), (PV.agg [(PV.bool true), (PV.int .i64 i8), (PV.int .i64 i9), (PV.int .i64 i10), (PV.int .i64 i11)]), (PV.agg [(PV.int .i64 x0), (PV.int .i64 x1), (PV.int .i64 x2)])]) fun (y3 : ((Bool) × ((Int) × ((Int) × ((Int) × ((Int) × (Int))))))) =>
          bif y3.1 then
            bif (y3.2.1 != i8) then
              bif (decide (((0 : Int) ≤ i2) ∧ (i2 < (n0 : Int)))) then
                bindO (intC .i64 (c1[(((Int.toNat i2) * 3) + 0)]?)) fun _x4 =>
                none
              else none
            else bif y3.1 then
              bif (y3.2.1 != i8) then
                bif (decide (((0 : Int) ≤ i2) ∧ (i2 < (n0 : Int)))) then
                  bindO (intC .i64 (c1[(((Int.toNat i2) * 3) + 0)]?)) fun x5 =>
                  N (TrAl_0b n0 c1 1 (w64 (i2 + (1 : Int))) i3 i4 i5 i6 y3.1 y3.2.1 y3.2.2.1 y3.2.2.2.1 y3.2.2.2.2.1 1 [(PV.int .i64 y3.2.1), (PV.int .i64 x5), (PV.int .i64 (0 : Int))])
                else none
              else N (TrAl_0a n0 c1 (w64 (i2 + (1 : Int))) i3 i4 i5 i6 y3.1 y3.2.1 y3.2.2.1 y3.2.2.2.1 y3.2.2.2.2.1)
            else N (TrAl_0a n0 c1 (w64 (i2 + (1 : Int))) i3 i4 i5 i6 y3.1 y3.2.1 y3.2.2.1 y3.2.2.2.1 y3.2.2.2.2.1)
          else bif (decide (((0 : Int) ≤ i2) ∧ (i2 < (n0 : Int)))) then
            bindO (intC .i64 (c1[(((Int.toNat i2) * 3) + 0)]?)) fun _x6 =>
            none
          else none
        else none
      else bif (decide (((0 : Int) ≤ i2) ∧ (i2 < (n0 : Int)))) then
        bindO (intC .i64 (c1[((Int.toNat i2) * 3)]?)) fun x7 =>
        bindO (intC .i64 (c1[(((Int.toNat i2) * 3) + 1)]?)) fun x8 =>
        bindO (intC .i64 (c1[((((Int.toNat i2) * 3) + 1) + 1)]?)) fun x9 =>
        bindO (F 52 (RSh.tup [(Prod.mk true [CK.bool, (CK.int .i64), (CK.int .i64), (CK.int .i64), (CK.int .i64)]), (Prod.mk false [(CK.int .i64)])]) [(PV.agg [(PV.int .i64 i3), (PV.int .i64 i4), (PV.int .i64 i5), (PV.int .i64 i6)]), (PV.agg [(PV.bool false), (PV.int .i64 i8), (PV.int .i64 i9), (PV.int .i64 i10), (PV.int .i64 i11)]), (PV.agg [(PV.int .i64 x7), (PV.int .i64 x8), (PV.int .i64 x9)])]) fun (y10 : ((Bool) × ((Int) × ((Int) × ((Int) × ((Int) × (Int))))))) =>
        bif y10.1 then
          bif (y10.2.1 != i8) then
            bif (decide (((0 : Int) ≤ i2) ∧ (i2 < (n0 : Int)))) then
              bindO (intC .i64 (c1[(((Int.toNat i2) * 3) + 0)]?)) fun _x11 =>
              none
            else none
          else bif y10.1 then
            bif (y10.2.1 != i8) then
              bif (decide (((0 : Int) ≤ i2) ∧ (i2 < (n0 : Int)))) then
                bindO (intC .i64 (c1[(((Int.toNat i2) * 3) + 0)]?)) fun x12 =>
                N (TrAl_0b n0 c1 1 (w64 (i2 + (1 : Int))) i3 i4 i5 i6 y10.1 y10.2.1 y10.2.2.1 y10.2.2.2.1 y10.2.2.2.2.1 1 [(PV.int .i64 y10.2.1), (PV.int .i64 x12), (PV.int .i64 (0 : Int))])
              else none
            else N (TrAl_0a n0 c1 (w64 (i2 + (1 : Int))) i3 i4 i5 i6 y10.1 y10.2.1 y10.2.2.1 y10.2.2.2.1 y10.2.2.2.2.1)
          else N (TrAl_0a n0 c1 (w64 (i2 + (1 : Int))) i3 i4 i5 i6 y10.1 y10.2.1 y10.2.2.1 y10.2.2.2.1 y10.2.2.2.2.1)
        else bif (decide (((0 : Int) ≤ i2) ∧ (i2 < (n0 : Int)))) then
          bindO (intC .i64 (c1[(((Int.toNat i2) * 3) + 0)]?)) fun _x13 =>
          none
        else none
      else none
    else bif b7 then
      bif (decide (((0 : Int) ≤ i2) ∧ (i2 < (n0 : Int)))) then
        bindO (intC .i64 (c1[((Int.toNat i2) * 3)]?)) fun x14 =>
        bindO (intC .i64 (c1[(((Int.toNat i2) * 3) + 1)]?)) fun x15 =>
        bindO (intC .i64 (c1[((((Int.toNat i2) * 3) + 1) + 1)]?)) fun x16 =>
        bindO (F 52 (RSh.tup [(Prod.mk true [CK.bool, (CK.int .i64), (CK.int .i64), (CK.int .i64), (CK.int .i64)]), (Prod.mk false [(CK.int .i64)])]) [(PV.agg [(PV.int .i64 i3), (PV.int .i64 i4), (PV.int .i64 i5), (PV.int .i64 i6)]), (PV.agg [(PV.bool true), (PV.int .i64 i8), (PV.int .i64 i9), (PV.int .i64 i10), (PV.int .i64 i11)]), (PV.agg [(PV.int .i64 x14), (PV.int .i64 x15), (PV.int .i64 x16)])]) fun (y17 : ((Bool) × ((Int) × ((Int) × ((Int) × ((Int) × (Int))))))) =>
        bif y17.1 then
          bif (y17.2.1 != i8) then
            bif (decide (((0 : Int) ≤ i2) ∧ (i2 < (n0 : Int)))) then
              bindO (intC .i64 (c1[(((Int.toNat i2) * 3) + 0)]?)) fun x18 =>
              N (TrAl_0b n0 c1 1 (w64 (i2 + (1 : Int))) i3 i4 i5 i6 y17.1 y17.2.1 y17.2.2.1 y17.2.2.2.1 y17.2.2.2.2.1 1 [(PV.int .i64 y17.2.1), (PV.int .i64 x18), (PV.int .i64 (0 : Int))])
            else none
          else N (TrAl_0a n0 c1 (w64 (i2 + (1 : Int))) i3 i4 i5 i6 y17.1 y17.2.1 y17.2.2.1 y17.2.2.2.1 y17.2.2.2.2.1)
        else N (TrAl_0a n0 c1 (w64 (i2 + (1 : Int))) i3 i4 i5 i6 y17.1 y17.2.1 y17.2.2.1 y17.2.2.2.1 y17.2.2.2.2.1)
      else none
    else bif (decide (((0 : Int) ≤ i2) ∧ (i2 < (n0 : Int)))) then
      bindO (intC .i64 (c1[((Int.toNat i2) * 3)]?)) fun x19 =>
      bindO (intC .i64 (c1[(((Int.toNat i2) * 3) + 1)]?)) fun x20 =>
      bindO (intC .i64 (c1[((((Int.toNat i2) * 3) + 1) + 1)]?)) fun x21 =>
      bindO (F 52 (RSh.tup [(Prod.mk true [CK.bool, (CK.int .i64), (CK.int .i64), (CK.int .i64), (CK.int .i64)]), (Prod.mk false [(CK.int .i64)])]) [(PV.agg [(PV.int .i64 i3), (PV.int .i64 i4), (PV.int .i64 i5), (PV.int .i64 i6)]), (PV.agg [(PV.bool false), (PV.int .i64 i8), (PV.int .i64 i9), (PV.int .i64 i10), (PV.int .i64 i11)]), (PV.agg [(PV.int .i64 x19), (PV.int .i64 x20), (PV.int .i64 x21)])]) fun (y22 : ((Bool) × ((Int) × ((Int) × ((Int) × ((Int) × (Int))))))) =>
      bif y22.1 then
        bif (y22.2.1 != i8) then
          bif (decide (((0 : Int) ≤ i2) ∧ (i2 < (n0 : Int)))) then
            bindO (intC .i64 (c1[(((Int.toNat i2) * 3) + 0)]?)) fun x23 =>
            N (TrAl_0b n0 c1 1 (w64 (i2 + (1 : Int))) i3 i4 i5 i6 y22.1 y22.2.1 y22.2.2.1 y22.2.2.2.1 y22.2.2.2.2.1 1 [(PV.int .i64 y22.2.1), (PV.int .i64 x23), (PV.int .i64 (0 : Int))])
          else none
        else N (TrAl_0a n0 c1 (w64 (i2 + (1 : Int))) i3 i4 i5 i6 y22.1 y22.2.1 y22.2.2.1 y22.2.2.2.1 y22.2.2.2.2.1)
      else N (TrAl_0a n0 c1 (w64 (i2 + (1 : Int))) i3 i4 i5 i6 y22.1 y22.2.1 y22.2.2.1 y22.2.2.2.1 y22.2.2.2.2.1)
    else none
  else E (XrAl_0a (i3, i4, i5, i6, b7, i8, i9, i10, i11))
theorem BrAl_0a_eq (F : FnT) (N : QO) (E : EO) (L0 : Q → Option YrAl_0) (n0 : Nat) (c1 : List PV) (i2 : Int) (i3 : Int) (i4 : Int) (i5 : Int) (i6 : Int) (b7 : Bool) (i8 : Int) (i9 : Int) (i10 : Int) (i11 : Int) : semB (callP F ErAl 20) s60 (loopT [⟨0, YrAl_0, L0, XLrAl_0⟩]) 400 (blkIn a60.body 0) N E (TrAl_0a n0 c1 i2 i3 i4 i5 i6 b7 i8 i9 i10 i11) = BrAl_0a F N E L0 n0 c1 i2 i3 i4 i5 i6 b7 i8 i9 i10 i11 := by kernel_rfl
theorem RrAl_0a_of  (n0 : Nat) (c1 : List PV) (i2 : Int) (i3 : Int) (i4 : Int) (i5 : Int) (i6 : Int) (b7 : Bool) (i8 : Int) (i9 : Int) (i10 : Int) (i11 : Int) {r : Ext × S} (h : BrAl_0a (Fn env) RrAl_0 exO LrAl_0 n0 c1 i2 i3 i4 i5 i6 b7 i8 i9 i10 i11 = some r) : RrAl_0 (TrAl_0a n0 c1 i2 i3 i4 i5 i6 b7 i8 i9 i10 i11) = some r :=
  lp_of ErAl_ok (by kernel_rfl) (lo_cons (lpO_ok UrAl) lo_nil) (by kernel_rfl) ((BrAl_0a_eq _ _ _ _ _ _ _ _ _ _ _ _ _ _ _ _).trans h)
def BrAl_0b (F : FnT) (N : QO) (E : EO) (_L0 : Q → Option YrAl_0) (n0 : Nat) (c1 : List PV) (n2 : Nat) (i3 : Int) (i4 : Int) (i5 : Int) (i6 : Int) (i7 : Int) (b8 : Bool) (i9 : Int) (i10 : Int) (i11 : Int) (i12 : Int) (n13 : Nat) (c14 : List PV) : Option (Ext × S) :=
  bif (decide (i3 < (n0 : Int))) then
    bif b8 then
      bif b8 then
        bif (decide (((0 : Int) ≤ i3) ∧ (i3 < (n0 : Int)))) then
          bindO (intC .i64 (c1[((Int.toNat i3) * 3)]?)) fun x0 =>
          bindO (intC .i64 (c1[(((Int.toNat i3) * 3) + 1)]?)) fun x1 =>
          bindO (intC .i64 (c1[((((Int.toNat i3) * 3) + 1) + 1)]?)) fun x2 =>
          bindO (F 52 (RSh.tup [(Prod.mk true [CK.bool, (CK.int .i64), (CK.int .i64), (CK.int .i64), (CK.int .i64)]), (Prod.mk false [(CK.int .i64)])]) [(PV.agg [(PV.int .i64 i4), (PV.int .i64 i5), (PV.int .i64 i6), (PV.int .i64 i7)]), (PV.agg [(PV.bool true), (PV.int .i64 i9), (PV.int .i64 i10), (PV.int .i64 i11), (PV.int .i64 i12)]), (PV.agg [(PV.int .i64 x0), (PV.int .i64 x1), (PV.int .i64 x2)])]) fun (y3 : ((Bool) × ((Int) × ((Int) × ((Int) × ((Int) × (Int))))))) =>
          bif y3.1 then
            bif (y3.2.1 != i9) then
              bif (decide (((0 : Int) ≤ i3) ∧ (i3 < (n0 : Int)))) then
                bindO (intC .i64 (c1[(((Int.toNat i3) * 3) + 0)]?)) fun x4 =>
                bif (decide (((0 : Int) ≤ (w64 ((n2 : Int) - (1 : Int)))) ∧ ((w64 ((n2 : Int) - (1 : Int))) < (n2 : Int)))) then
                  bif (decide (n13 = n2)) then
                    bindO (Gv.overO c14 (((Int.toNat (w64 ((n2 : Int) - (1 : Int)))) * 3) + 2) [(PV.int .i64 (if ((w64 (i11 + i7)) < (w64 (x4 - (1 : Int)))) then (w64 (i11 + i7)) else (w64 (x4 - (1 : Int)))))]) fun x5 =>
                    bif y3.1 then
                      bif (y3.2.1 != i9) then
                        bif (decide (((0 : Int) ≤ i3) ∧ (i3 < (n0 : Int)))) then
                          bindO (intC .i64 (c1[(((Int.toNat i3) * 3) + 0)]?)) fun x6 =>
                          bif (decide ((n2 = n2) ∧ ((n2 + 1) ≤ big))) then
                            N (TrAl_0b n0 c1 (n2 + 1) (w64 (i3 + (1 : Int))) i4 i5 i6 i7 y3.1 y3.2.1 y3.2.2.1 y3.2.2.2.1 y3.2.2.2.2.1 (n2 + 1) (x5 ++ [(PV.int .i64 y3.2.1), (PV.int .i64 x6), (PV.int .i64 (0 : Int))]))
                          else none
                        else none
                      else N (TrAl_0b n0 c1 n2 (w64 (i3 + (1 : Int))) i4 i5 i6 i7 y3.1 y3.2.1 y3.2.2.1 y3.2.2.2.1 y3.2.2.2.2.1 n2 x5)
                    else N (TrAl_0b n0 c1 n2 (w64 (i3 + (1 : Int))) i4 i5 i6 i7 y3.1 y3.2.1 y3.2.2.1 y3.2.2.2.1 y3.2.2.2.2.1 n2 x5)
                  else none
                else none
              else none
            else bif y3.1 then
              bif (y3.2.1 != i9) then
                bif (decide (((0 : Int) ≤ i3) ∧ (i3 < (n0 : Int)))) then
                  bindO (intC .i64 (c1[(((Int.toNat i3) * 3) + 0)]?)) fun x7 =>
                  bif (decide ((n13 = n2) ∧ ((n2 + 1) ≤ big))) then
                    N (TrAl_0b n0 c1 (n2 + 1) (w64 (i3 + (1 : Int))) i4 i5 i6 i7 y3.1 y3.2.1 y3.2.2.1 y3.2.2.2.1 y3.2.2.2.2.1 (n2 + 1) (c14 ++ [(PV.int .i64 y3.2.1), (PV.int .i64 x7), (PV.int .i64 (0 : Int))]))
                  else none
                else none
              else N (TrAl_0b n0 c1 n2 (w64 (i3 + (1 : Int))) i4 i5 i6 i7 y3.1 y3.2.1 y3.2.2.1 y3.2.2.2.1 y3.2.2.2.2.1 n13 c14)
            else N (TrAl_0b n0 c1 n2 (w64 (i3 + (1 : Int))) i4 i5 i6 i7 y3.1 y3.2.1 y3.2.2.1 y3.2.2.2.1 y3.2.2.2.2.1 n13 c14)
          else bif (decide (((0 : Int) ≤ i3) ∧ (i3 < (n0 : Int)))) then
            bindO (intC .i64 (c1[(((Int.toNat i3) * 3) + 0)]?)) fun x8 =>
            bif (decide (((0 : Int) ≤ (w64 ((n2 : Int) - (1 : Int)))) ∧ ((w64 ((n2 : Int) - (1 : Int))) < (n2 : Int)))) then
              bif (decide (n13 = n2)) then
                bindO (Gv.overO c14 (((Int.toNat (w64 ((n2 : Int) - (1 : Int)))) * 3) + 2) [(PV.int .i64 (if ((w64 (i11 + i7)) < (w64 (x8 - (1 : Int)))) then (w64 (i11 + i7)) else (w64 (x8 - (1 : Int)))))]) fun x9 =>
                bif y3.1 then
                  bif (y3.2.1 != i9) then
                    bif (decide (((0 : Int) ≤ i3) ∧ (i3 < (n0 : Int)))) then
                      bindO (intC .i64 (c1[(((Int.toNat i3) * 3) + 0)]?)) fun x10 =>
                      bif (decide ((n2 = n2) ∧ ((n2 + 1) ≤ big))) then
                        N (TrAl_0b n0 c1 (n2 + 1) (w64 (i3 + (1 : Int))) i4 i5 i6 i7 y3.1 y3.2.1 y3.2.2.1 y3.2.2.2.1 y3.2.2.2.2.1 (n2 + 1) (x9 ++ [(PV.int .i64 y3.2.1), (PV.int .i64 x10), (PV.int .i64 (0 : Int))]))
                      else none
                    else none
                  else N (TrAl_0b n0 c1 n2 (w64 (i3 + (1 : Int))) i4 i5 i6 i7 y3.1 y3.2.1 y3.2.2.1 y3.2.2.2.1 y3.2.2.2.2.1 n2 x9)
                else N (TrAl_0b n0 c1 n2 (w64 (i3 + (1 : Int))) i4 i5 i6 i7 y3.1 y3.2.1 y3.2.2.1 y3.2.2.2.1 y3.2.2.2.2.1 n2 x9)
              else none
            else none
          else none
        else none
      else bif (decide (((0 : Int) ≤ i3) ∧ (i3 < (n0 : Int)))) then
        bindO (intC .i64 (c1[((Int.toNat i3) * 3)]?)) fun x11 =>
        bindO (intC .i64 (c1[(((Int.toNat i3) * 3) + 1)]?)) fun x12 =>
        bindO (intC .i64 (c1[((((Int.toNat i3) * 3) + 1) + 1)]?)) fun x13 =>
        bindO (F 52 (RSh.tup [(Prod.mk true [CK.bool, (CK.int .i64), (CK.int .i64), (CK.int .i64), (CK.int .i64)]), (Prod.mk false [(CK.int .i64)])]) [(PV.agg [(PV.int .i64 i4), (PV.int .i64 i5), (PV.int .i64 i6), (PV.int .i64 i7)]), (PV.agg [(PV.bool false), (PV.int .i64 i9), (PV.int .i64 i10), (PV.int .i64 i11), (PV.int .i64 i12)]), (PV.agg [(PV.int .i64 x11), (PV.int .i64 x12), (PV.int .i64 x13)])]) fun (y14 : ((Bool) × ((Int) × ((Int) × ((Int) × ((Int) × (Int))))))) =>
        bif y14.1 then
          bif (y14.2.1 != i9) then
            bif (decide (((0 : Int) ≤ i3) ∧ (i3 < (n0 : Int)))) then
              bindO (intC .i64 (c1[(((Int.toNat i3) * 3) + 0)]?)) fun x15 =>
              bif (decide (((0 : Int) ≤ (w64 ((n2 : Int) - (1 : Int)))) ∧ ((w64 ((n2 : Int) - (1 : Int))) < (n2 : Int)))) then
                bif (decide (n13 = n2)) then
                  bindO (Gv.overO c14 (((Int.toNat (w64 ((n2 : Int) - (1 : Int)))) * 3) + 2) [(PV.int .i64 (if ((w64 (i11 + i7)) < (w64 (x15 - (1 : Int)))) then (w64 (i11 + i7)) else (w64 (x15 - (1 : Int)))))]) fun x16 =>
                  bif y14.1 then
                    bif (y14.2.1 != i9) then
                      bif (decide (((0 : Int) ≤ i3) ∧ (i3 < (n0 : Int)))) then
                        bindO (intC .i64 (c1[(((Int.toNat i3) * 3) + 0)]?)) fun x17 =>
                        bif (decide ((n2 = n2) ∧ ((n2 + 1) ≤ big))) then
                          N (TrAl_0b n0 c1 (n2 + 1) (w64 (i3 + (1 : Int))) i4 i5 i6 i7 y14.1 y14.2.1 y14.2.2.1 y14.2.2.2.1 y14.2.2.2.2.1 (n2 + 1) (x16 ++ [(PV.int .i64 y14.2.1), (PV.int .i64 x17), (PV.int .i64 (0 : Int))]))
                        else none
                      else none
                    else N (TrAl_0b n0 c1 n2 (w64 (i3 + (1 : Int))) i4 i5 i6 i7 y14.1 y14.2.1 y14.2.2.1 y14.2.2.2.1 y14.2.2.2.2.1 n2 x16)
                  else N (TrAl_0b n0 c1 n2 (w64 (i3 + (1 : Int))) i4 i5 i6 i7 y14.1 y14.2.1 y14.2.2.1 y14.2.2.2.1 y14.2.2.2.2.1 n2 x16)
                else none
              else none
            else none
          else bif y14.1 then
            bif (y14.2.1 != i9) then
              bif (decide (((0 : Int) ≤ i3) ∧ (i3 < (n0 : Int)))) then
                bindO (intC .i64 (c1[(((Int.toNat i3) * 3) + 0)]?)) fun x18 =>
                bif (decide ((n13 = n2) ∧ ((n2 + 1) ≤ big))) then
                  N (TrAl_0b n0 c1 (n2 + 1) (w64 (i3 + (1 : Int))) i4 i5 i6 i7 y14.1 y14.2.1 y14.2.2.1 y14.2.2.2.1 y14.2.2.2.2.1 (n2 + 1) (c14 ++ [(PV.int .i64 y14.2.1), (PV.int .i64 x18), (PV.int .i64 (0 : Int))]))
                else none
              else none
            else N (TrAl_0b n0 c1 n2 (w64 (i3 + (1 : Int))) i4 i5 i6 i7 y14.1 y14.2.1 y14.2.2.1 y14.2.2.2.1 y14.2.2.2.2.1 n13 c14)
          else N (TrAl_0b n0 c1 n2 (w64 (i3 + (1 : Int))) i4 i5 i6 i7 y14.1 y14.2.1 y14.2.2.1 y14.2.2.2.1 y14.2.2.2.2.1 n13 c14)
        else bif (decide (((0 : Int) ≤ i3) ∧ (i3 < (n0 : Int)))) then
          bindO (intC .i64 (c1[(((Int.toNat i3) * 3) + 0)]?)) fun x19 =>
          bif (decide (((0 : Int) ≤ (w64 ((n2 : Int) - (1 : Int)))) ∧ ((w64 ((n2 : Int) - (1 : Int))) < (n2 : Int)))) then
            bif (decide (n13 = n2)) then
              bindO (Gv.overO c14 (((Int.toNat (w64 ((n2 : Int) - (1 : Int)))) * 3) + 2) [(PV.int .i64 (if ((w64 (i11 + i7)) < (w64 (x19 - (1 : Int)))) then (w64 (i11 + i7)) else (w64 (x19 - (1 : Int)))))]) fun x20 =>
              bif y14.1 then
                bif (y14.2.1 != i9) then
                  bif (decide (((0 : Int) ≤ i3) ∧ (i3 < (n0 : Int)))) then
                    bindO (intC .i64 (c1[(((Int.toNat i3) * 3) + 0)]?)) fun x21 =>
                    bif (decide ((n2 = n2) ∧ ((n2 + 1) ≤ big))) then
                      N (TrAl_0b n0 c1 (n2 + 1) (w64 (i3 + (1 : Int))) i4 i5 i6 i7 y14.1 y14.2.1 y14.2.2.1 y14.2.2.2.1 y14.2.2.2.2.1 (n2 + 1) (x20 ++ [(PV.int .i64 y14.2.1), (PV.int .i64 x21), (PV.int .i64 (0 : Int))]))
                    else none
                  else none
                else N (TrAl_0b n0 c1 n2 (w64 (i3 + (1 : Int))) i4 i5 i6 i7 y14.1 y14.2.1 y14.2.2.1 y14.2.2.2.1 y14.2.2.2.2.1 n2 x20)
              else N (TrAl_0b n0 c1 n2 (w64 (i3 + (1 : Int))) i4 i5 i6 i7 y14.1 y14.2.1 y14.2.2.1 y14.2.2.2.1 y14.2.2.2.2.1 n2 x20)
            else none
          else none
        else none
      else none
    else bif b8 then
      bif (decide (((0 : Int) ≤ i3) ∧ (i3 < (n0 : Int)))) then
        bindO (intC .i64 (c1[((Int.toNat i3) * 3)]?)) fun x22 =>
        bindO (intC .i64 (c1[(((Int.toNat i3) * 3) + 1)]?)) fun x23 =>
        bindO (intC .i64 (c1[((((Int.toNat i3) * 3) + 1) + 1)]?)) fun x24 =>
        bindO (F 52 (RSh.tup [(Prod.mk true [CK.bool, (CK.int .i64), (CK.int .i64), (CK.int .i64), (CK.int .i64)]), (Prod.mk false [(CK.int .i64)])]) [(PV.agg [(PV.int .i64 i4), (PV.int .i64 i5), (PV.int .i64 i6), (PV.int .i64 i7)]), (PV.agg [(PV.bool true), (PV.int .i64 i9), (PV.int .i64 i10), (PV.int .i64 i11), (PV.int .i64 i12)]), (PV.agg [(PV.int .i64 x22), (PV.int .i64 x23), (PV.int .i64 x24)])]) fun (y25 : ((Bool) × ((Int) × ((Int) × ((Int) × ((Int) × (Int))))))) =>
        bif y25.1 then
          bif (y25.2.1 != i9) then
            bif (decide (((0 : Int) ≤ i3) ∧ (i3 < (n0 : Int)))) then
              bindO (intC .i64 (c1[(((Int.toNat i3) * 3) + 0)]?)) fun x26 =>
              bif (decide ((n13 = n2) ∧ ((n2 + 1) ≤ big))) then
                N (TrAl_0b n0 c1 (n2 + 1) (w64 (i3 + (1 : Int))) i4 i5 i6 i7 y25.1 y25.2.1 y25.2.2.1 y25.2.2.2.1 y25.2.2.2.2.1 (n2 + 1) (c14 ++ [(PV.int .i64 y25.2.1), (PV.int .i64 x26), (PV.int .i64 (0 : Int))]))
              else none
            else none
          else N (TrAl_0b n0 c1 n2 (w64 (i3 + (1 : Int))) i4 i5 i6 i7 y25.1 y25.2.1 y25.2.2.1 y25.2.2.2.1 y25.2.2.2.2.1 n13 c14)
        else N (TrAl_0b n0 c1 n2 (w64 (i3 + (1 : Int))) i4 i5 i6 i7 y25.1 y25.2.1 y25.2.2.1 y25.2.2.2.1 y25.2.2.2.2.1 n13 c14)
      else none
    else bif (decide (((0 : Int) ≤ i3) ∧ (i3 < (n0 : Int)))) then
      bindO (intC .i64 (c1[((Int.toNat i3) * 3)]?)) fun x27 =>
      bindO (intC .i64 (c1[(((Int.toNat i3) * 3) + 1)]?)) fun x28 =>
      bindO (intC .i64 (c1[((((Int.toNat i3) * 3) + 1) + 1)]?)) fun x29 =>
      bindO (F 52 (RSh.tup [(Prod.mk true [CK.bool, (CK.int .i64), (CK.int .i64), (CK.int .i64), (CK.int .i64)]), (Prod.mk false [(CK.int .i64)])]) [(PV.agg [(PV.int .i64 i4), (PV.int .i64 i5), (PV.int .i64 i6), (PV.int .i64 i7)]), (PV.agg [(PV.bool false), (PV.int .i64 i9), (PV.int .i64 i10), (PV.int .i64 i11), (PV.int .i64 i12)]), (PV.agg [(PV.int .i64 x27), (PV.int .i64 x28), (PV.int .i64 x29)])]) fun (y30 : ((Bool) × ((Int) × ((Int) × ((Int) × ((Int) × (Int))))))) =>
      bif y30.1 then
        bif (y30.2.1 != i9) then
          bif (decide (((0 : Int) ≤ i3) ∧ (i3 < (n0 : Int)))) then
            bindO (intC .i64 (c1[(((Int.toNat i3) * 3) + 0)]?)) fun x31 =>
            bif (decide ((n13 = n2) ∧ ((n2 + 1) ≤ big))) then
              N (TrAl_0b n0 c1 (n2 + 1) (w64 (i3 + (1 : Int))) i4 i5 i6 i7 y30.1 y30.2.1 y30.2.2.1 y30.2.2.2.1 y30.2.2.2.2.1 (n2 + 1) (c14 ++ [(PV.int .i64 y30.2.1), (PV.int .i64 x31), (PV.int .i64 (0 : Int))]))
            else none
          else none
        else N (TrAl_0b n0 c1 n2 (w64 (i3 + (1 : Int))) i4 i5 i6 i7 y30.1 y30.2.1 y30.2.2.1 y30.2.2.2.1 y30.2.2.2.2.1 n13 c14)
      else N (TrAl_0b n0 c1 n2 (w64 (i3 + (1 : Int))) i4 i5 i6 i7 y30.1 y30.2.1 y30.2.2.1 y30.2.2.2.1 y30.2.2.2.2.1 n13 c14)
    else none
  else E (XrAl_0b (n2, i4, i5, i6, i7, b8, i9, i10, i11, i12, n13, c14))
theorem BrAl_0b_eq (F : FnT) (N : QO) (E : EO) (L0 : Q → Option YrAl_0) (n0 : Nat) (c1 : List PV) (n2 : Nat) (i3 : Int) (i4 : Int) (i5 : Int) (i6 : Int) (i7 : Int) (b8 : Bool) (i9 : Int) (i10 : Int) (i11 : Int) (i12 : Int) (n13 : Nat) (c14 : List PV) : semB (callP F ErAl 20) s60 (loopT [⟨0, YrAl_0, L0, XLrAl_0⟩]) 400 (blkIn a60.body 0) N E (TrAl_0b n0 c1 n2 i3 i4 i5 i6 i7 b8 i9 i10 i11 i12 n13 c14) = BrAl_0b F N E L0 n0 c1 n2 i3 i4 i5 i6 i7 b8 i9 i10 i11 i12 n13 c14 := by kernel_rfl
theorem RrAl_0b_of  (n0 : Nat) (c1 : List PV) (n2 : Nat) (i3 : Int) (i4 : Int) (i5 : Int) (i6 : Int) (i7 : Int) (b8 : Bool) (i9 : Int) (i10 : Int) (i11 : Int) (i12 : Int) (n13 : Nat) (c14 : List PV) {r : Ext × S} (h : BrAl_0b (Fn env) RrAl_0 exO LrAl_0 n0 c1 n2 i3 i4 i5 i6 i7 b8 i9 i10 i11 i12 n13 c14 = some r) : RrAl_0 (TrAl_0b n0 c1 n2 i3 i4 i5 i6 i7 b8 i9 i10 i11 i12 n13 c14) = some r :=
  lp_of ErAl_ok (by kernel_rfl) (lo_cons (lpO_ok UrAl) lo_nil) (by kernel_rfl) ((BrAl_0b_eq _ _ _ _ _ _ _ _ _ _ _ _ _ _ _ _ _ _ _).trans h)
def trAl (F : FnT) (L0 : Q → Option YrAl_0) (p0_0 : Int) (p0_1 : Int) (p0_2 : Int) (p0_3 : Int) (p1n : Nat) (p1c : List PV) : Option ((Nat) × (List PV)) :=
  bindO (F 108 (RSh.agg [CK.bool, (CK.int .i64), (CK.int .i64), (CK.int .i64), (CK.int .i64)]) []) fun (y0 : ((Bool) × ((Int) × ((Int) × ((Int) × (Int)))))) =>
  bindO (L0 (TrAl_0a p1n p1c (0 : Int) p0_0 p0_1 p0_2 p0_3 y0.1 y0.2.1 y0.2.2.1 y0.2.2.2.1 y0.2.2.2.2)) fun z =>
  Sum.elim (fun y1 =>
    bif y1.2.2.2.2.1 then
      none
    else some (0, [])) (fun y2 =>
    bif y2.2.2.2.2.2.1 then
      bif (decide (((0 : Int) ≤ (w64 ((y2.1 : Int) - (1 : Int)))) ∧ ((w64 ((y2.1 : Int) - (1 : Int))) < (y2.1 : Int)))) then
        bif (decide (y2.2.2.2.2.2.2.2.2.2.2.1 = y2.1)) then
          bindO (Gv.overO y2.2.2.2.2.2.2.2.2.2.2.2 (((Int.toNat (w64 ((y2.1 : Int) - (1 : Int)))) * 3) + 2) [(PV.int .i64 (w64 (y2.2.2.2.2.2.2.2.2.1 + y2.2.2.2.2.1)))]) fun x3 =>
          bif (decide (y2.1 = y2.1)) then
            some (y2.1, x3)
          else none
        else none
      else none
    else bif (decide (y2.2.2.2.2.2.2.2.2.2.2.1 = y2.1)) then
      some (y2.1, y2.2.2.2.2.2.2.2.2.2.2.2)
    else none) z
theorem trAl_eq (F : FnT) (L0 : Q → Option YrAl_0) (p0_0 : Int) (p0_1 : Int) (p0_2 : Int) (p0_3 : Int) (p1n : Nat) (p1c : List PV) : semF (callP F ErAl 20) s60 (loopT [⟨0, YrAl_0, L0, XLrAl_0⟩]) 400 a60 [PV.agg [PV.int .i64 p0_0, PV.int .i64 p0_1, PV.int .i64 p0_2, PV.int .i64 p0_3], PV.list p1n p1c] (fun rv => decR (RSh.one CK.list) rv.pv) = trAl F L0 p0_0 p0_1 p0_2 p0_3 p1n p1c := by kernel_rfl
noncomputable abbrev FrAl (args : List PV) := Fn env 60 (RSh.one CK.list) args
theorem FrAl_of  (p0_0 : Int) (p0_1 : Int) (p0_2 : Int) (p0_3 : Int) (p1n : Nat) (p1c : List PV) {res : ((Nat) × (List PV))} (h : trAl (Fn env) LrAl_0 p0_0 p0_1 p0_2 p0_3 p1n p1c = some res) : FrAl [PV.agg [PV.int .i64 p0_0, PV.int .i64 p0_1, PV.int .i64 p0_2, PV.int .i64 p0_3], PV.list p1n p1c] = some res :=
  fn_of ErAl_ok rfl rfl (lo_cons (lpO_ok UrAl) lo_nil) ((trAl_eq _ _ _ _ _ _ _ _).trans h)
end Gv
