/- What the functions do, round by round: CE2. -/
import Derived.Test.YtkbahledgljaoaaCQ2
namespace Gv
open Go
set_option maxRecDepth 100000

/-! ### rT -/

def ErT : List Entry := [.inl 16 a16 s16]
theorem ErT_ok : ∀ e ∈ ErT, EntOK env e := (ent_inl rfl ent_nil)
def TrT_0a (n0 : Nat) (c1 : List PV) (i2 : Int) (i3 : Int) : Q := ⟨(tm 90 [(0, (AV.p (PV.list n0 c1))), (1, (AV.p (PV.int IntKind.i64 i2))), (5, (AV.lit 1 1 [(PV.int IntKind.i64 (-1 : Int))])), (6, (AV.p (PV.int IntKind.i64 i3)))]), (mm 90 [])⟩
def TrT_0b (n0 : Nat) (c1 : List PV) (i2 : Int) (n3 : Nat) (c4 : List PV) (i5 : Int) : Q := ⟨(tm 90 [(0, (AV.p (PV.list n0 c1))), (1, (AV.p (PV.int IntKind.i64 i2))), (5, (AV.p (PV.list n3 c4))), (6, (AV.p (PV.int IntKind.i64 i5)))]), (mm 90 [])⟩
def XrT_0a (_y : Unit) : Ext × Q := (Ext.normal, ⟨(tm 90 [(5, (AV.lit 1 1 [(PV.int IntKind.i64 (-1 : Int))]))]), (mm 90 [])⟩)
def IrT_0a (_q : Ext × S) : Unit := ()
def XrT_0b (y : Nat × List PV) : Ext × Q := (Ext.normal, ⟨(tm 90 [(5, (AV.p (PV.list y.1 y.2)))]), (mm 90 [])⟩)
def IrT_0b (q : Ext × S) : Nat × List PV := ((pP_list0 (pA_p (avT q.2 5))), (pP_list1 (pA_p (avT q.2 5))))
abbrev YrT_0 : Type := (Unit) ⊕ ((Nat × List PV))
def XLrT_0 : XL YrT_0 := .more XrT_0a (.one XrT_0b)
def IrT_0 (q : Ext × S) : YrT_0 := bif (cA (avT q.2 5) == 4) then (Sum.inl (IrT_0a q)) else (Sum.inr (IrT_0b q))
theorem XIrT_0a (y : Unit) : IrT_0 (xe (XrT_0a y)) = (Sum.inl y) := rfl
theorem XIrT_0b (y : Nat × List PV) : IrT_0 (xe (XrT_0b y)) = (Sum.inr y) := rfl
theorem XIrT_0 (y : YrT_0) : IrT_0 (xe (XLrT_0.fn y)) = y := (match y with | .inl y => XIrT_0a y | .inr y => XIrT_0b y)
noncomputable abbrev LrT_0 : Q → Option YrT_0 := lpO env a91.body 0 XLrT_0
noncomputable abbrev RrT_0 : Q → Option (Ext × S) := lpR env a91.body 0
theorem LrT_0a_of {s : Q} {y : Unit} (h : RrT_0 s = exO (XrT_0a y)) : LrT_0 s = some (Sum.inl y) := lpO_of IrT_0 XIrT_0 (y := (Sum.inl y)) h
theorem LrT_0b_of {s : Q} {y : Nat × List PV} (h : RrT_0 s = exO (XrT_0b y)) : LrT_0 s = some (Sum.inr y) := lpO_of IrT_0 XIrT_0 (y := (Sum.inr y)) h
def TrT_2a (n0 : Nat) (c1 : List PV) (i2 : Int) (i3 : Int) (i4 : Int) (i5 : Int) (i6 : Int) (i7 : Int) (i8 : Int) : Q := ⟨(tm 90 [(0, (AV.p (PV.list n0 c1))), (1, (AV.p (PV.int IntKind.i64 i2))), (5, (AV.lit 1 1 [(PV.int IntKind.i64 (-1 : Int))])), (6, (AV.p (PV.int IntKind.i64 i3))), (46, (AV.p (PV.agg [(PV.int IntKind.i64 i4), (PV.int IntKind.i64 i5), (PV.int IntKind.i64 i6), (PV.int IntKind.i64 i7)]))), (47, (AV.p (PV.int IntKind.i64 i8)))]), (mm 90 [])⟩
def TrT_2b (n0 : Nat) (c1 : List PV) (i2 : Int) (n3 : Nat) (c4 : List PV) (i5 : Int) (i6 : Int) (i7 : Int) (i8 : Int) (i9 : Int) (i10 : Int) : Q := ⟨(tm 90 [(0, (AV.p (PV.list n0 c1))), (1, (AV.p (PV.int IntKind.i64 i2))), (5, (AV.p (PV.list n3 c4))), (6, (AV.p (PV.int IntKind.i64 i5))), (46, (AV.p (PV.agg [(PV.int IntKind.i64 i6), (PV.int IntKind.i64 i7), (PV.int IntKind.i64 i8), (PV.int IntKind.i64 i9)]))), (47, (AV.p (PV.int IntKind.i64 i10)))]), (mm 90 [])⟩
def XrT_2a (y : Nat × List PV × Int × Int) : Ext × Q := (Ext.normal, ⟨(tm 90 [(0, (AV.p (PV.list y.1 y.2.1))), (1, (AV.p (PV.int IntKind.i64 y.2.2.1))), (5, (AV.lit 1 1 [(PV.int IntKind.i64 (-1 : Int))])), (6, (AV.p (PV.int IntKind.i64 y.2.2.2)))]), (mm 90 [])⟩)
def IrT_2a (q : Ext × S) : Nat × List PV × Int × Int := ((pP_list0 (pA_p (avT q.2 0))), (pP_list1 (pA_p (avT q.2 0))), (pP_int1 (pA_p (avT q.2 1))), (pP_int1 (pA_p (avT q.2 6))))
def XrT_2b (y : Nat × List PV × Int × Nat × List PV × Int) : Ext × Q := (Ext.normal, ⟨(tm 90 [(0, (AV.p (PV.list y.1 y.2.1))), (1, (AV.p (PV.int IntKind.i64 y.2.2.1))), (5, (AV.p (PV.list y.2.2.2.1 y.2.2.2.2.1))), (6, (AV.p (PV.int IntKind.i64 y.2.2.2.2.2)))]), (mm 90 [])⟩)
def IrT_2b (q : Ext × S) : Nat × List PV × Int × Nat × List PV × Int := ((pP_list0 (pA_p (avT q.2 0))), (pP_list1 (pA_p (avT q.2 0))), (pP_int1 (pA_p (avT q.2 1))), (pP_list0 (pA_p (avT q.2 5))), (pP_list1 (pA_p (avT q.2 5))), (pP_int1 (pA_p (avT q.2 6))))
abbrev YrT_2 : Type := (Nat × List PV × Int × Int) ⊕ ((Nat × List PV × Int × Nat × List PV × Int))
def XLrT_2 : XL YrT_2 := .more XrT_2a (.one XrT_2b)
def IrT_2 (q : Ext × S) : YrT_2 := bif (cA (avT q.2 5) == 4) then (Sum.inl (IrT_2a q)) else (Sum.inr (IrT_2b q))
theorem XIrT_2a (y : Nat × List PV × Int × Int) : IrT_2 (xe (XrT_2a y)) = (Sum.inl y) := rfl
theorem XIrT_2b (y : Nat × List PV × Int × Nat × List PV × Int) : IrT_2 (xe (XrT_2b y)) = (Sum.inr y) := rfl
theorem XIrT_2 (y : YrT_2) : IrT_2 (xe (XLrT_2.fn y)) = y := (match y with | .inl y => XIrT_2a y | .inr y => XIrT_2b y)
noncomputable abbrev LrT_2 : Q → Option YrT_2 := lpO env a91.body 2 XLrT_2
noncomputable abbrev RrT_2 : Q → Option (Ext × S) := lpR env a91.body 2
theorem LrT_2a_of {s : Q} {y : Nat × List PV × Int × Int} (h : RrT_2 s = exO (XrT_2a y)) : LrT_2 s = some (Sum.inl y) := lpO_of IrT_2 XIrT_2 (y := (Sum.inl y)) h
theorem LrT_2b_of {s : Q} {y : Nat × List PV × Int × Nat × List PV × Int} (h : RrT_2 s = exO (XrT_2b y)) : LrT_2 s = some (Sum.inr y) := lpO_of IrT_2 XIrT_2 (y := (Sum.inr y)) h
def TrT_4a (n0 : Nat) (c1 : List PV) (i2 : Int) (i3 : Int) (i4 : Int) (i5 : Int) (i6 : Int) (i7 : Int) (i8 : Int) (i9 : Int) (i10 : Int) : Q := ⟨(tm 90 [(0, (AV.p (PV.list n0 c1))), (1, (AV.p (PV.int IntKind.i64 i2))), (5, (AV.lit 1 1 [(PV.int IntKind.i64 (-1 : Int))])), (6, (AV.p (PV.int IntKind.i64 i3))), (8, (AV.p (PV.int IntKind.i64 i4))), (9, (AV.p (PV.int IntKind.i64 i5))), (46, (AV.p (PV.agg [(PV.int IntKind.i64 i6), (PV.int IntKind.i64 i7), (PV.int IntKind.i64 i8), (PV.int IntKind.i64 i9)]))), (47, (AV.p (PV.int IntKind.i64 i10)))]), (mm 90 [])⟩
def TrT_4b (n0 : Nat) (c1 : List PV) (i2 : Int) (n3 : Nat) (c4 : List PV) (i5 : Int) (i6 : Int) (i7 : Int) (i8 : Int) (i9 : Int) (i10 : Int) (i11 : Int) (i12 : Int) : Q := ⟨(tm 90 [(0, (AV.p (PV.list n0 c1))), (1, (AV.p (PV.int IntKind.i64 i2))), (5, (AV.p (PV.list n3 c4))), (6, (AV.p (PV.int IntKind.i64 i5))), (8, (AV.p (PV.int IntKind.i64 i6))), (9, (AV.p (PV.int IntKind.i64 i7))), (46, (AV.p (PV.agg [(PV.int IntKind.i64 i8), (PV.int IntKind.i64 i9), (PV.int IntKind.i64 i10), (PV.int IntKind.i64 i11)]))), (47, (AV.p (PV.int IntKind.i64 i12)))]), (mm 90 [])⟩
def XrT_4a (y : Nat × List PV × Int × Int × Int × Int × Int × Int × Int × Int × Int) : Ext × Q := (Ext.normal, ⟨(tm 90 [(0, (AV.p (PV.list y.1 y.2.1))), (1, (AV.p (PV.int IntKind.i64 y.2.2.1))), (5, (AV.lit 1 1 [(PV.int IntKind.i64 (-1 : Int))])), (6, (AV.p (PV.int IntKind.i64 y.2.2.2.1))), (8, (AV.p (PV.int IntKind.i64 y.2.2.2.2.1))), (9, (AV.p (PV.int IntKind.i64 y.2.2.2.2.2.1))), (46, (AV.p (PV.agg [(PV.int IntKind.i64 y.2.2.2.2.2.2.1), (PV.int IntKind.i64 y.2.2.2.2.2.2.2.1), (PV.int IntKind.i64 y.2.2.2.2.2.2.2.2.1), (PV.int IntKind.i64 y.2.2.2.2.2.2.2.2.2.1)]))), (47, (AV.p (PV.int IntKind.i64 y.2.2.2.2.2.2.2.2.2.2)))]), (mm 90 [])⟩)
def IrT_4a (q : Ext × S) : Nat × List PV × Int × Int × Int × Int × Int × Int × Int × Int × Int := ((pP_list0 (pA_p (avT q.2 0))), (pP_list1 (pA_p (avT q.2 0))), (pP_int1 (pA_p (avT q.2 1))), (pP_int1 (pA_p (avT q.2 6))), (pP_int1 (pA_p (avT q.2 8))), (pP_int1 (pA_p (avT q.2 9))), (pP_int1 (hdP (pP_agg0 (pA_p (avT q.2 46))))), (pP_int1 (hdP (List.tail (pP_agg0 (pA_p (avT q.2 46)))))), (pP_int1 (hdP (List.tail (List.tail (pP_agg0 (pA_p (avT q.2 46))))))), (pP_int1 (hdP (List.tail (List.tail (List.tail (pP_agg0 (pA_p (avT q.2 46)))))))), (pP_int1 (pA_p (avT q.2 47))))
def XrT_4b (y : Nat × List PV × Int × Nat × List PV × Int × Int × Int × Int × Int × Int × Int × Int) : Ext × Q := (Ext.normal, ⟨(tm 90 [(0, (AV.p (PV.list y.1 y.2.1))), (1, (AV.p (PV.int IntKind.i64 y.2.2.1))), (5, (AV.p (PV.list y.2.2.2.1 y.2.2.2.2.1))), (6, (AV.p (PV.int IntKind.i64 y.2.2.2.2.2.1))), (8, (AV.p (PV.int IntKind.i64 y.2.2.2.2.2.2.1))), (9, (AV.p (PV.int IntKind.i64 y.2.2.2.2.2.2.2.1))), (46, (AV.p (PV.agg [(PV.int IntKind.i64 y.2.2.2.2.2.2.2.2.1), (PV.int IntKind.i64 y.2.2.2.2.2.2.2.2.2.1), (PV.int IntKind.i64 y.2.2.2.2.2.2.2.2.2.2.1), (PV.int IntKind.i64 y.2.2.2.2.2.2.2.2.2.2.2.1)]))), (47, (AV.p (PV.int IntKind.i64 y.2.2.2.2.2.2.2.2.2.2.2.2)))]), (mm 90 [])⟩)
def IrT_4b (q : Ext × S) : Nat × List PV × Int × Nat × List PV × Int × Int × Int × Int × Int × Int × Int × Int := ((pP_list0 (pA_p (avT q.2 0))), (pP_list1 (pA_p (avT q.2 0))), (pP_int1 (pA_p (avT q.2 1))), (pP_list0 (pA_p (avT q.2 5))), (pP_list1 (pA_p (avT q.2 5))), (pP_int1 (pA_p (avT q.2 6))), (pP_int1 (pA_p (avT q.2 8))), (pP_int1 (pA_p (avT q.2 9))), (pP_int1 (hdP (pP_agg0 (pA_p (avT q.2 46))))), (pP_int1 (hdP (List.tail (pP_agg0 (pA_p (avT q.2 46)))))), (pP_int1 (hdP (List.tail (List.tail (pP_agg0 (pA_p (avT q.2 46))))))), (pP_int1 (hdP (List.tail (List.tail (List.tail (pP_agg0 (pA_p (avT q.2 46)))))))), (pP_int1 (pA_p (avT q.2 47))))
abbrev YrT_4 : Type := (Nat × List PV × Int × Int × Int × Int × Int × Int × Int × Int × Int) ⊕ ((Nat × List PV × Int × Nat × List PV × Int × Int × Int × Int × Int × Int × Int × Int))
def XLrT_4 : XL YrT_4 := .more XrT_4a (.one XrT_4b)
def IrT_4 (q : Ext × S) : YrT_4 := bif (cA (avT q.2 5) == 4) then (Sum.inl (IrT_4a q)) else (Sum.inr (IrT_4b q))
theorem XIrT_4a (y : Nat × List PV × Int × Int × Int × Int × Int × Int × Int × Int × Int) : IrT_4 (xe (XrT_4a y)) = (Sum.inl y) := rfl
theorem XIrT_4b (y : Nat × List PV × Int × Nat × List PV × Int × Int × Int × Int × Int × Int × Int × Int) : IrT_4 (xe (XrT_4b y)) = (Sum.inr y) := rfl
theorem XIrT_4 (y : YrT_4) : IrT_4 (xe (XLrT_4.fn y)) = y := (match y with | .inl y => XIrT_4a y | .inr y => XIrT_4b y)
noncomputable abbrev LrT_4 : Q → Option YrT_4 := lpO env a91.body 4 XLrT_4
noncomputable abbrev RrT_4 : Q → Option (Ext × S) := lpR env a91.body 4
theorem LrT_4a_of {s : Q} {y : Nat × List PV × Int × Int × Int × Int × Int × Int × Int × Int × Int} (h : RrT_4 s = exO (XrT_4a y)) : LrT_4 s = some (Sum.inl y) := lpO_of IrT_4 XIrT_4 (y := (Sum.inl y)) h
theorem LrT_4b_of {s : Q} {y : Nat × List PV × Int × Nat × List PV × Int × Int × Int × Int × Int × Int × Int × Int} (h : RrT_4 s = exO (XrT_4b y)) : LrT_4 s = some (Sum.inr y) := lpO_of IrT_4 XIrT_4 (y := (Sum.inr y)) h
theorem UrT : uniq ((blocksOf a91.body).map (·.1)) = true := by kernel_rfl
def BrT_0a (_F : FnT) (N : Q → Option (Ext × S)) (E : Ext × Q → Option (Ext × S)) (_L0 : Q → Option YrT_0) (L2 : Q → Option YrT_2) (_L4 : Q → Option YrT_4) (n0 : Nat) (c1 : List PV) (i2 : Int) (i3 : Int) : Option (Ext × S) :=
  bif (decide (i3 < (n0 : Int))) then
    bif (decide (((0 : Int) ≤ i3) ∧ (i3 < (n0 : Int)))) then
      bindO (intC IntKind.i64 (c1[(((Int.toNat i3) * 3) + 0)]?)) fun x0 =>
      bif (decide (((0 : Int) ≤ i3) ∧ (i3 < (n0 : Int)))) then
        bindO (intC IntKind.i64 (c1[(((Int.toNat i3) * 3) + 1)]?)) fun x1 =>
        bif (decide (((0 : Int) ≤ i3) ∧ (i3 < (n0 : Int)))) then
          bindO (intC IntKind.i64 (c1[(((Int.toNat i3) * 3) + 0)]?)) fun x2 =>
          bif (decide (((0 : Int) ≤ i3) ∧ (i3 < (n0 : Int)))) then
            bindO (intC IntKind.i64 (c1[(((Int.toNat i3) * 3) + 1)]?)) fun x3 =>
            bindO (L2 (TrT_2a n0 c1 i2 i3 (w64 (x0 - (1 : Int))) (w64 (x1 - (1 : Int))) (w64 ((w64 (x2 + i2)) - (1 : Int))) (w64 ((w64 (x3 + i2)) - (1 : Int))) (0 : Int))) fun z =>
            Sum.elim (fun y4 =>
              N (TrT_0a y4.1 y4.2.1 y4.2.2.1 (w64 (y4.2.2.2 + (1 : Int))))) (fun y5 =>
              N (TrT_0b y5.1 y5.2.1 y5.2.2.1 y5.2.2.2.1 y5.2.2.2.2.1 (w64 (y5.2.2.2.2.2 + (1 : Int))))) z
          else none
        else none
      else none
    else none
  else E (XrT_0a ())
theorem BrT_0a_eq (F : FnT) (N : Q → Option (Ext × S)) (E : Ext × Q → Option (Ext × S)) (L0 : Q → Option YrT_0) (L2 : Q → Option YrT_2) (L4 : Q → Option YrT_4) (n0 : Nat) (c1 : List PV) (i2 : Int) (i3 : Int) : semB (callP F ErT 20) s91 (loopT [⟨0, YrT_0, L0, XLrT_0⟩, ⟨2, YrT_2, L2, XLrT_2⟩, ⟨4, YrT_4, L4, XLrT_4⟩]) 400 (blkIn a91.body 0) N E (TrT_0a n0 c1 i2 i3) = BrT_0a F N E L0 L2 L4 n0 c1 i2 i3 := by kernel_rfl
theorem RrT_0a_of  (n0 : Nat) (c1 : List PV) (i2 : Int) (i3 : Int) {r : Ext × S} (h : BrT_0a (Fn env) RrT_0 exO LrT_0 LrT_2 LrT_4 n0 c1 i2 i3 = some r) : RrT_0 (TrT_0a n0 c1 i2 i3) = some r :=
  lp_of ErT_ok (by kernel_rfl) (lo_cons (lpO_ok UrT) (lo_cons (lpO_ok UrT) (lo_cons (lpO_ok UrT) lo_nil))) (by kernel_rfl) ((BrT_0a_eq _ _ _ _ _ _ _ _ _ _).trans h)
def BrT_0b (_F : FnT) (N : Q → Option (Ext × S)) (E : Ext × Q → Option (Ext × S)) (_L0 : Q → Option YrT_0) (L2 : Q → Option YrT_2) (_L4 : Q → Option YrT_4) (n0 : Nat) (c1 : List PV) (i2 : Int) (n3 : Nat) (c4 : List PV) (i5 : Int) : Option (Ext × S) :=
  bif (decide (i5 < (n0 : Int))) then
    bif (decide (((0 : Int) ≤ i5) ∧ (i5 < (n0 : Int)))) then
      bindO (intC IntKind.i64 (c1[(((Int.toNat i5) * 3) + 0)]?)) fun x0 =>
      bif (decide (((0 : Int) ≤ i5) ∧ (i5 < (n0 : Int)))) then
        bindO (intC IntKind.i64 (c1[(((Int.toNat i5) * 3) + 1)]?)) fun x1 =>
        bif (decide (((0 : Int) ≤ i5) ∧ (i5 < (n0 : Int)))) then
          bindO (intC IntKind.i64 (c1[(((Int.toNat i5) * 3) + 0)]?)) fun x2 =>
          bif (decide (((0 : Int) ≤ i5) ∧ (i5 < (n0 : Int)))) then
            bindO (intC IntKind.i64 (c1[(((Int.toNat i5) * 3) + 1)]?)) fun x3 =>
            bindO (L2 (TrT_2b n0 c1 i2 n3 c4 i5 (w64 (x0 - (1 : Int))) (w64 (x1 - (1 : Int))) (w64 ((w64 (x2 + i2)) - (1 : Int))) (w64 ((w64 (x3 + i2)) - (1 : Int))) (0 : Int))) fun z =>
            Sum.elim (fun y4 =>
              N (TrT_0a y4.1 y4.2.1 y4.2.2.1 (w64 (y4.2.2.2 + (1 : Int))))) (fun y5 =>
              N (TrT_0b y5.1 y5.2.1 y5.2.2.1 y5.2.2.2.1 y5.2.2.2.2.1 (w64 (y5.2.2.2.2.2 + (1 : Int))))) z
          else none
        else none
      else none
    else none
  else E (XrT_0b (n3, c4))
theorem BrT_0b_eq (F : FnT) (N : Q → Option (Ext × S)) (E : Ext × Q → Option (Ext × S)) (L0 : Q → Option YrT_0) (L2 : Q → Option YrT_2) (L4 : Q → Option YrT_4) (n0 : Nat) (c1 : List PV) (i2 : Int) (n3 : Nat) (c4 : List PV) (i5 : Int) : semB (callP F ErT 20) s91 (loopT [⟨0, YrT_0, L0, XLrT_0⟩, ⟨2, YrT_2, L2, XLrT_2⟩, ⟨4, YrT_4, L4, XLrT_4⟩]) 400 (blkIn a91.body 0) N E (TrT_0b n0 c1 i2 n3 c4 i5) = BrT_0b F N E L0 L2 L4 n0 c1 i2 n3 c4 i5 := by kernel_rfl
theorem RrT_0b_of  (n0 : Nat) (c1 : List PV) (i2 : Int) (n3 : Nat) (c4 : List PV) (i5 : Int) {r : Ext × S} (h : BrT_0b (Fn env) RrT_0 exO LrT_0 LrT_2 LrT_4 n0 c1 i2 n3 c4 i5 = some r) : RrT_0 (TrT_0b n0 c1 i2 n3 c4 i5) = some r :=
  lp_of ErT_ok (by kernel_rfl) (lo_cons (lpO_ok UrT) (lo_cons (lpO_ok UrT) (lo_cons (lpO_ok UrT) lo_nil))) (by kernel_rfl) ((BrT_0b_eq _ _ _ _ _ _ _ _ _ _ _ _).trans h)
def BrT_2a (_F : FnT) (N : Q → Option (Ext × S)) (E : Ext × Q → Option (Ext × S)) (_L0 : Q → Option YrT_0) (_L2 : Q → Option YrT_2) (L4 : Q → Option YrT_4) (n0 : Nat) (c1 : List PV) (i2 : Int) (i3 : Int) (i4 : Int) (i5 : Int) (i6 : Int) (i7 : Int) (i8 : Int) : Option (Ext × S) :=
  bif (decide (i8 < (4 : Int))) then
    bif (decide (((0 : Int) ≤ i8) ∧ (i8 < (4 : Int)))) then
      bindO (intC IntKind.i64 ([(PV.int IntKind.i64 i4), (PV.int IntKind.i64 i5), (PV.int IntKind.i64 i6), (PV.int IntKind.i64 i7)][((Int.toNat i8) * 1)]?)) fun x0 =>
      bindO (L4 (TrT_4a n0 c1 i2 i3 x0 (0 : Int) i4 i5 i6 i7 i8)) fun z =>
      Sum.elim (fun y1 =>
        bif (decide (y1.2.2.2.2.2.1 < (1 : Int))) then
          bif (decide (((0 : Int) ≤ y1.2.2.2.2.2.1) ∧ (y1.2.2.2.2.2.1 < (1 : Int)))) then
            bindO (intC IntKind.i64 ([(PV.int IntKind.i64 (-1 : Int))][((Int.toNat y1.2.2.2.2.2.1) * 1)]?)) fun x2 =>
            bif (x2 == y1.2.2.2.2.1) then
              N (TrT_2a y1.1 y1.2.1 y1.2.2.1 y1.2.2.2.1 y1.2.2.2.2.2.2.1 y1.2.2.2.2.2.2.2.1 y1.2.2.2.2.2.2.2.2.1 y1.2.2.2.2.2.2.2.2.2.1 (w64 (y1.2.2.2.2.2.2.2.2.2.2 + (1 : Int))))
            else bif (decide (((0 : Int) ≤ y1.2.2.2.2.2.1) ∧ (y1.2.2.2.2.2.1 ≤ ((Prod.mk 1 [(PV.int IntKind.i64 (-1 : Int))]).1 : Int)))) then
              bif (decide ((0 = (Int.toNat y1.2.2.2.2.2.1)) ∨ (((0 * 1) + (((Int.toNat y1.2.2.2.2.2.1) - 0) * 1)) ≤ (List.length [(PV.int IntKind.i64 (-1 : Int))])))) then
                bif (decide (((Int.toNat y1.2.2.2.2.2.1) - 0) = 0)) then
                  bif (decide (((0 : Int) ≤ y1.2.2.2.2.2.1) ∧ (y1.2.2.2.2.2.1 ≤ ((Prod.mk 1 [(PV.int IntKind.i64 (-1 : Int))]).1 : Int)))) then
                    bif (decide (((Int.toNat y1.2.2.2.2.2.1) = (Prod.mk 1 [(PV.int IntKind.i64 (-1 : Int))]).1) ∨ ((((Int.toNat y1.2.2.2.2.2.1) * 1) + (((Prod.mk 1 [(PV.int IntKind.i64 (-1 : Int))]).1 - (Int.toNat y1.2.2.2.2.2.1)) * 1)) ≤ (List.length [(PV.int IntKind.i64 (-1 : Int))])))) then
                      bif (decide (((Prod.mk 1 [(PV.int IntKind.i64 (-1 : Int))]).1 - (Int.toNat y1.2.2.2.2.2.1)) = 0)) then
                        N (TrT_2b y1.1 y1.2.1 y1.2.2.1 1 [(PV.int IntKind.i64 y1.2.2.2.2.1)] y1.2.2.2.1 y1.2.2.2.2.2.2.1 y1.2.2.2.2.2.2.2.1 y1.2.2.2.2.2.2.2.2.1 y1.2.2.2.2.2.2.2.2.2.1 (w64 (y1.2.2.2.2.2.2.2.2.2.2 + (1 : Int))))
                      else bif (decide ((List.length (List.take (((Prod.mk 1 [(PV.int IntKind.i64 (-1 : Int))]).1 - (Int.toNat y1.2.2.2.2.2.1)) * 1) (List.drop ((Int.toNat y1.2.2.2.2.2.1) * 1) [(PV.int IntKind.i64 (-1 : Int))]))) = (((Prod.mk 1 [(PV.int IntKind.i64 (-1 : Int))]).1 - (Int.toNat y1.2.2.2.2.2.1)) * 1))) then
                        bif (decide (((0 + 1) = (0 + 1)) ∧ (((0 + 1) + ((Prod.mk 1 [(PV.int IntKind.i64 (-1 : Int))]).1 - (Int.toNat y1.2.2.2.2.2.1))) ≤ big))) then
                          N (TrT_2b y1.1 y1.2.1 y1.2.2.1 (1 + (1 - (Int.toNat y1.2.2.2.2.2.1))) ([(PV.int IntKind.i64 y1.2.2.2.2.1)] ++ (List.take ((1 - (Int.toNat y1.2.2.2.2.2.1)) * 1) (List.drop ((Int.toNat y1.2.2.2.2.2.1) * 1) [(PV.int IntKind.i64 (-1 : Int))]))) y1.2.2.2.1 y1.2.2.2.2.2.2.1 y1.2.2.2.2.2.2.2.1 y1.2.2.2.2.2.2.2.2.1 y1.2.2.2.2.2.2.2.2.2.1 (w64 (y1.2.2.2.2.2.2.2.2.2.2 + (1 : Int))))
                        else none
                      else none
                    else none
                  else none
                else bif (decide ((List.length (List.take (((Int.toNat y1.2.2.2.2.2.1) - 0) * 1) [(PV.int IntKind.i64 (-1 : Int))])) = (((Int.toNat y1.2.2.2.2.2.1) - 0) * 1))) then
                  bif (decide ((0 = 0) ∧ ((0 + ((Int.toNat y1.2.2.2.2.2.1) - 0)) ≤ big))) then
                    bif (decide ((0 + ((Int.toNat y1.2.2.2.2.2.1) - 0)) = (0 + ((Int.toNat y1.2.2.2.2.2.1) - 0)))) then
                      bif (decide (((0 + ((Int.toNat y1.2.2.2.2.2.1) - 0)) = (0 + ((Int.toNat y1.2.2.2.2.2.1) - 0))) ∧ (((0 + ((Int.toNat y1.2.2.2.2.2.1) - 0)) + 1) ≤ big))) then
                        bif (decide (((0 : Int) ≤ y1.2.2.2.2.2.1) ∧ (y1.2.2.2.2.2.1 ≤ ((Prod.mk 1 [(PV.int IntKind.i64 (-1 : Int))]).1 : Int)))) then
                          bif (decide (((Int.toNat y1.2.2.2.2.2.1) = (Prod.mk 1 [(PV.int IntKind.i64 (-1 : Int))]).1) ∨ ((((Int.toNat y1.2.2.2.2.2.1) * 1) + (((Prod.mk 1 [(PV.int IntKind.i64 (-1 : Int))]).1 - (Int.toNat y1.2.2.2.2.2.1)) * 1)) ≤ (List.length [(PV.int IntKind.i64 (-1 : Int))])))) then
                            bif (decide (((Prod.mk 1 [(PV.int IntKind.i64 (-1 : Int))]).1 - (Int.toNat y1.2.2.2.2.2.1)) = 0)) then
                              N (TrT_2b y1.1 y1.2.1 y1.2.2.1 ((0 + ((Int.toNat y1.2.2.2.2.2.1) - 0)) + 1) (([] ++ (List.take (((Int.toNat y1.2.2.2.2.2.1) - 0) * 1) [(PV.int IntKind.i64 (-1 : Int))])) ++ [(PV.int IntKind.i64 y1.2.2.2.2.1)]) y1.2.2.2.1 y1.2.2.2.2.2.2.1 y1.2.2.2.2.2.2.2.1 y1.2.2.2.2.2.2.2.2.1 y1.2.2.2.2.2.2.2.2.2.1 (w64 (y1.2.2.2.2.2.2.2.2.2.2 + (1 : Int))))
                            else bif (decide ((List.length (List.take (((Prod.mk 1 [(PV.int IntKind.i64 (-1 : Int))]).1 - (Int.toNat y1.2.2.2.2.2.1)) * 1) (List.drop ((Int.toNat y1.2.2.2.2.2.1) * 1) [(PV.int IntKind.i64 (-1 : Int))]))) = (((Prod.mk 1 [(PV.int IntKind.i64 (-1 : Int))]).1 - (Int.toNat y1.2.2.2.2.2.1)) * 1))) then
                              bif (decide ((((0 + ((Int.toNat y1.2.2.2.2.2.1) - 0)) + 1) = ((0 + ((Int.toNat y1.2.2.2.2.2.1) - 0)) + 1)) ∧ ((((0 + ((Int.toNat y1.2.2.2.2.2.1) - 0)) + 1) + ((Prod.mk 1 [(PV.int IntKind.i64 (-1 : Int))]).1 - (Int.toNat y1.2.2.2.2.2.1))) ≤ big))) then
                                N (TrT_2b y1.1 y1.2.1 y1.2.2.1 (((0 + ((Int.toNat y1.2.2.2.2.2.1) - 0)) + 1) + (1 - (Int.toNat y1.2.2.2.2.2.1))) ((([] ++ (List.take (((Int.toNat y1.2.2.2.2.2.1) - 0) * 1) [(PV.int IntKind.i64 (-1 : Int))])) ++ [(PV.int IntKind.i64 y1.2.2.2.2.1)]) ++ (List.take ((1 - (Int.toNat y1.2.2.2.2.2.1)) * 1) (List.drop ((Int.toNat y1.2.2.2.2.2.1) * 1) [(PV.int IntKind.i64 (-1 : Int))]))) y1.2.2.2.1 y1.2.2.2.2.2.2.1 y1.2.2.2.2.2.2.2.1 y1.2.2.2.2.2.2.2.2.1 y1.2.2.2.2.2.2.2.2.2.1 (w64 (y1.2.2.2.2.2.2.2.2.2.2 + (1 : Int))))
                              else none
                            else none
                          else none
                        else none
                      else none
                    else none
                  else none
                else none
              else none
            else none
          else none
        else bif (decide (((0 : Int) ≤ y1.2.2.2.2.2.1) ∧ (y1.2.2.2.2.2.1 ≤ ((Prod.mk 1 [(PV.int IntKind.i64 (-1 : Int))]).1 : Int)))) then
          bif (decide ((0 = (Int.toNat y1.2.2.2.2.2.1)) ∨ (((0 * 1) + (((Int.toNat y1.2.2.2.2.2.1) - 0) * 1)) ≤ (List.length [(PV.int IntKind.i64 (-1 : Int))])))) then
            bif (decide (((Int.toNat y1.2.2.2.2.2.1) - 0) = 0)) then
              bif (decide (((0 : Int) ≤ y1.2.2.2.2.2.1) ∧ (y1.2.2.2.2.2.1 ≤ ((Prod.mk 1 [(PV.int IntKind.i64 (-1 : Int))]).1 : Int)))) then
                bif (decide (((Int.toNat y1.2.2.2.2.2.1) = (Prod.mk 1 [(PV.int IntKind.i64 (-1 : Int))]).1) ∨ ((((Int.toNat y1.2.2.2.2.2.1) * 1) + (((Prod.mk 1 [(PV.int IntKind.i64 (-1 : Int))]).1 - (Int.toNat y1.2.2.2.2.2.1)) * 1)) ≤ (List.length [(PV.int IntKind.i64 (-1 : Int))])))) then
                  bif (decide (((Prod.mk 1 [(PV.int IntKind.i64 (-1 : Int))]).1 - (Int.toNat y1.2.2.2.2.2.1)) = 0)) then
                    N (TrT_2b y1.1 y1.2.1 y1.2.2.1 1 [(PV.int IntKind.i64 y1.2.2.2.2.1)] y1.2.2.2.1 y1.2.2.2.2.2.2.1 y1.2.2.2.2.2.2.2.1 y1.2.2.2.2.2.2.2.2.1 y1.2.2.2.2.2.2.2.2.2.1 (w64 (y1.2.2.2.2.2.2.2.2.2.2 + (1 : Int))))
                  else bif (decide ((List.length (List.take (((Prod.mk 1 [(PV.int IntKind.i64 (-1 : Int))]).1 - (Int.toNat y1.2.2.2.2.2.1)) * 1) (List.drop ((Int.toNat y1.2.2.2.2.2.1) * 1) [(PV.int IntKind.i64 (-1 : Int))]))) = (((Prod.mk 1 [(PV.int IntKind.i64 (-1 : Int))]).1 - (Int.toNat y1.2.2.2.2.2.1)) * 1))) then
                    bif (decide (((0 + 1) = (0 + 1)) ∧ (((0 + 1) + ((Prod.mk 1 [(PV.int IntKind.i64 (-1 : Int))]).1 - (Int.toNat y1.2.2.2.2.2.1))) ≤ big))) then
                      N (TrT_2b y1.1 y1.2.1 y1.2.2.1 (1 + (1 - (Int.toNat y1.2.2.2.2.2.1))) ([(PV.int IntKind.i64 y1.2.2.2.2.1)] ++ (List.take ((1 - (Int.toNat y1.2.2.2.2.2.1)) * 1) (List.drop ((Int.toNat y1.2.2.2.2.2.1) * 1) [(PV.int IntKind.i64 (-1 : Int))]))) y1.2.2.2.1 y1.2.2.2.2.2.2.1 y1.2.2.2.2.2.2.2.1 y1.2.2.2.2.2.2.2.2.1 y1.2.2.2.2.2.2.2.2.2.1 (w64 (y1.2.2.2.2.2.2.2.2.2.2 + (1 : Int))))
                    else none
                  else none
                else none
              else none
            else bif (decide ((List.length (List.take (((Int.toNat y1.2.2.2.2.2.1) - 0) * 1) [(PV.int IntKind.i64 (-1 : Int))])) = (((Int.toNat y1.2.2.2.2.2.1) - 0) * 1))) then
              bif (decide ((0 = 0) ∧ ((0 + ((Int.toNat y1.2.2.2.2.2.1) - 0)) ≤ big))) then
                bif (decide ((0 + ((Int.toNat y1.2.2.2.2.2.1) - 0)) = (0 + ((Int.toNat y1.2.2.2.2.2.1) - 0)))) then
                  bif (decide (((0 + ((Int.toNat y1.2.2.2.2.2.1) - 0)) = (0 + ((Int.toNat y1.2.2.2.2.2.1) - 0))) ∧ (((0 + ((Int.toNat y1.2.2.2.2.2.1) - 0)) + 1) ≤ big))) then
                    bif (decide (((0 : Int) ≤ y1.2.2.2.2.2.1) ∧ (y1.2.2.2.2.2.1 ≤ ((Prod.mk 1 [(PV.int IntKind.i64 (-1 : Int))]).1 : Int)))) then
                      bif (decide (((Int.toNat y1.2.2.2.2.2.1) = (Prod.mk 1 [(PV.int IntKind.i64 (-1 : Int))]).1) ∨ ((((Int.toNat y1.2.2.2.2.2.1) * 1) + (((Prod.mk 1 [(PV.int IntKind.i64 (-1 : Int))]).1 - (Int.toNat y1.2.2.2.2.2.1)) * 1)) ≤ (List.length [(PV.int IntKind.i64 (-1 : Int))])))) then
                        bif (decide (((Prod.mk 1 [(PV.int IntKind.i64 (-1 : Int))]).1 - (Int.toNat y1.2.2.2.2.2.1)) = 0)) then
                          N (TrT_2b y1.1 y1.2.1 y1.2.2.1 ((0 + ((Int.toNat y1.2.2.2.2.2.1) - 0)) + 1) (([] ++ (List.take (((Int.toNat y1.2.2.2.2.2.1) - 0) * 1) [(PV.int IntKind.i64 (-1 : Int))])) ++ [(PV.int IntKind.i64 y1.2.2.2.2.1)]) y1.2.2.2.1 y1.2.2.2.2.2.2.1 y1.2.2.2.2.2.2.2.1 y1.2.2.2.2.2.2.2.2.1 y1.2.2.2.2.2.2.2.2.2.1 (w64 (y1.2.2.2.2.2.2.2.2.2.2 + (1 : Int))))
                        else bif (decide ((List.length (List.take (((Prod.mk 1 [(PV.int IntKind.i64 (-1 : Int))]).1 - (Int.toNat y1.2.2.2.2.2.1)) * 1) (List.drop ((Int.toNat y1.2.2.2.2.2.1) * 1) [(PV.int IntKind.i64 (-1 : Int))]))) = (((Prod.mk 1 [(PV.int IntKind.i64 (-1 : Int))]).1 - (Int.toNat y1.2.2.2.2.2.1)) * 1))) then
                          bif (decide ((((0 + ((Int.toNat y1.2.2.2.2.2.1) - 0)) + 1) = ((0 + ((Int.toNat y1.2.2.2.2.2.1) - 0)) + 1)) ∧ ((((0 + ((Int.toNat y1.2.2.2.2.2.1) - 0)) + 1) + ((Prod.mk 1 [(PV.int IntKind.i64 (-1 : Int))]).1 - (Int.toNat y1.2.2.2.2.2.1))) ≤ big))) then
                            N (TrT_2b y1.1 y1.2.1 y1.2.2.1 (((0 + ((Int.toNat y1.2.2.2.2.2.1) - 0)) + 1) + (1 - (Int.toNat y1.2.2.2.2.2.1))) ((([] ++ (List.take (((Int.toNat y1.2.2.2.2.2.1) - 0) * 1) [(PV.int IntKind.i64 (-1 : Int))])) ++ [(PV.int IntKind.i64 y1.2.2.2.2.1)]) ++ (List.take ((1 - (Int.toNat y1.2.2.2.2.2.1)) * 1) (List.drop ((Int.toNat y1.2.2.2.2.2.1) * 1) [(PV.int IntKind.i64 (-1 : Int))]))) y1.2.2.2.1 y1.2.2.2.2.2.2.1 y1.2.2.2.2.2.2.2.1 y1.2.2.2.2.2.2.2.2.1 y1.2.2.2.2.2.2.2.2.2.1 (w64 (y1.2.2.2.2.2.2.2.2.2.2 + (1 : Int))))
                          else none
                        else none
                      else none
                    else none
                  else none
                else none
              else none
            else none
          else none
        else none) (fun y3 =>
        bif (decide (y3.2.2.2.2.2.2.2.1 < (y3.2.2.2.1 : Int))) then
          bif (decide (((0 : Int) ≤ y3.2.2.2.2.2.2.2.1) ∧ (y3.2.2.2.2.2.2.2.1 < (y3.2.2.2.1 : Int)))) then
            bindO (intC IntKind.i64 (y3.2.2.2.2.1[((Int.toNat y3.2.2.2.2.2.2.2.1) * 1)]?)) fun x4 =>
            bif (x4 == y3.2.2.2.2.2.2.1) then
              N (TrT_2b y3.1 y3.2.1 y3.2.2.1 y3.2.2.2.1 y3.2.2.2.2.1 y3.2.2.2.2.2.1 y3.2.2.2.2.2.2.2.2.1 y3.2.2.2.2.2.2.2.2.2.1 y3.2.2.2.2.2.2.2.2.2.2.1 y3.2.2.2.2.2.2.2.2.2.2.2.1 (w64 (y3.2.2.2.2.2.2.2.2.2.2.2.2 + (1 : Int))))
            else bif (decide (((0 : Int) ≤ y3.2.2.2.2.2.2.2.1) ∧ (y3.2.2.2.2.2.2.2.1 ≤ ((Prod.mk y3.2.2.2.1 y3.2.2.2.2.1).1 : Int)))) then
              bif (decide ((0 = (Int.toNat y3.2.2.2.2.2.2.2.1)) ∨ (((0 * 1) + (((Int.toNat y3.2.2.2.2.2.2.2.1) - 0) * 1)) ≤ (List.length y3.2.2.2.2.1)))) then
                bif (decide (((Int.toNat y3.2.2.2.2.2.2.2.1) - 0) = 0)) then
                  bif (decide (((0 : Int) ≤ y3.2.2.2.2.2.2.2.1) ∧ (y3.2.2.2.2.2.2.2.1 ≤ ((Prod.mk y3.2.2.2.1 y3.2.2.2.2.1).1 : Int)))) then
                    bif (decide (((Int.toNat y3.2.2.2.2.2.2.2.1) = (Prod.mk y3.2.2.2.1 y3.2.2.2.2.1).1) ∨ ((((Int.toNat y3.2.2.2.2.2.2.2.1) * 1) + (((Prod.mk y3.2.2.2.1 y3.2.2.2.2.1).1 - (Int.toNat y3.2.2.2.2.2.2.2.1)) * 1)) ≤ (List.length y3.2.2.2.2.1)))) then
                      bif (decide (((Prod.mk y3.2.2.2.1 y3.2.2.2.2.1).1 - (Int.toNat y3.2.2.2.2.2.2.2.1)) = 0)) then
                        N (TrT_2b y3.1 y3.2.1 y3.2.2.1 1 [(PV.int IntKind.i64 y3.2.2.2.2.2.2.1)] y3.2.2.2.2.2.1 y3.2.2.2.2.2.2.2.2.1 y3.2.2.2.2.2.2.2.2.2.1 y3.2.2.2.2.2.2.2.2.2.2.1 y3.2.2.2.2.2.2.2.2.2.2.2.1 (w64 (y3.2.2.2.2.2.2.2.2.2.2.2.2 + (1 : Int))))
                      else bif (decide ((List.length (List.take (((Prod.mk y3.2.2.2.1 y3.2.2.2.2.1).1 - (Int.toNat y3.2.2.2.2.2.2.2.1)) * 1) (List.drop ((Int.toNat y3.2.2.2.2.2.2.2.1) * 1) y3.2.2.2.2.1))) = (((Prod.mk y3.2.2.2.1 y3.2.2.2.2.1).1 - (Int.toNat y3.2.2.2.2.2.2.2.1)) * 1))) then
                        bif (decide (((0 + 1) = (0 + 1)) ∧ (((0 + 1) + ((Prod.mk y3.2.2.2.1 y3.2.2.2.2.1).1 - (Int.toNat y3.2.2.2.2.2.2.2.1))) ≤ big))) then
                          N (TrT_2b y3.1 y3.2.1 y3.2.2.1 (1 + ((Prod.mk y3.2.2.2.1 y3.2.2.2.2.1).1 - (Int.toNat y3.2.2.2.2.2.2.2.1))) ([(PV.int IntKind.i64 y3.2.2.2.2.2.2.1)] ++ (List.take (((Prod.mk y3.2.2.2.1 y3.2.2.2.2.1).1 - (Int.toNat y3.2.2.2.2.2.2.2.1)) * 1) (List.drop ((Int.toNat y3.2.2.2.2.2.2.2.1) * 1) y3.2.2.2.2.1))) y3.2.2.2.2.2.1 y3.2.2.2.2.2.2.2.2.1 y3.2.2.2.2.2.2.2.2.2.1 y3.2.2.2.2.2.2.2.2.2.2.1 y3.2.2.2.2.2.2.2.2.2.2.2.1 (w64 (y3.2.2.2.2.2.2.2.2.2.2.2.2 + (1 : Int))))
                        else none
                      else none
                    else none
                  else none
                else bif (decide ((List.length (List.take (((Int.toNat y3.2.2.2.2.2.2.2.1) - 0) * 1) (List.drop 0 y3.2.2.2.2.1))) = (((Int.toNat y3.2.2.2.2.2.2.2.1) - 0) * 1))) then
                  bif (decide ((0 = 0) ∧ ((0 + ((Int.toNat y3.2.2.2.2.2.2.2.1) - 0)) ≤ big))) then
                    bif (decide ((0 + ((Int.toNat y3.2.2.2.2.2.2.2.1) - 0)) = (0 + ((Int.toNat y3.2.2.2.2.2.2.2.1) - 0)))) then
                      bif (decide (((0 + ((Int.toNat y3.2.2.2.2.2.2.2.1) - 0)) = (0 + ((Int.toNat y3.2.2.2.2.2.2.2.1) - 0))) ∧ (((0 + ((Int.toNat y3.2.2.2.2.2.2.2.1) - 0)) + 1) ≤ big))) then
                        bif (decide (((0 : Int) ≤ y3.2.2.2.2.2.2.2.1) ∧ (y3.2.2.2.2.2.2.2.1 ≤ ((Prod.mk y3.2.2.2.1 y3.2.2.2.2.1).1 : Int)))) then
                          bif (decide (((Int.toNat y3.2.2.2.2.2.2.2.1) = (Prod.mk y3.2.2.2.1 y3.2.2.2.2.1).1) ∨ ((((Int.toNat y3.2.2.2.2.2.2.2.1) * 1) + (((Prod.mk y3.2.2.2.1 y3.2.2.2.2.1).1 - (Int.toNat y3.2.2.2.2.2.2.2.1)) * 1)) ≤ (List.length y3.2.2.2.2.1)))) then
                            bif (decide (((Prod.mk y3.2.2.2.1 y3.2.2.2.2.1).1 - (Int.toNat y3.2.2.2.2.2.2.2.1)) = 0)) then
                              N (TrT_2b y3.1 y3.2.1 y3.2.2.1 ((0 + ((Int.toNat y3.2.2.2.2.2.2.2.1) - 0)) + 1) (([] ++ (List.take (((Int.toNat y3.2.2.2.2.2.2.2.1) - 0) * 1) (List.drop 0 y3.2.2.2.2.1))) ++ [(PV.int IntKind.i64 y3.2.2.2.2.2.2.1)]) y3.2.2.2.2.2.1 y3.2.2.2.2.2.2.2.2.1 y3.2.2.2.2.2.2.2.2.2.1 y3.2.2.2.2.2.2.2.2.2.2.1 y3.2.2.2.2.2.2.2.2.2.2.2.1 (w64 (y3.2.2.2.2.2.2.2.2.2.2.2.2 + (1 : Int))))
                            else bif (decide ((List.length (List.take (((Prod.mk y3.2.2.2.1 y3.2.2.2.2.1).1 - (Int.toNat y3.2.2.2.2.2.2.2.1)) * 1) (List.drop ((Int.toNat y3.2.2.2.2.2.2.2.1) * 1) y3.2.2.2.2.1))) = (((Prod.mk y3.2.2.2.1 y3.2.2.2.2.1).1 - (Int.toNat y3.2.2.2.2.2.2.2.1)) * 1))) then
                              bif (decide ((((0 + ((Int.toNat y3.2.2.2.2.2.2.2.1) - 0)) + 1) = ((0 + ((Int.toNat y3.2.2.2.2.2.2.2.1) - 0)) + 1)) ∧ ((((0 + ((Int.toNat y3.2.2.2.2.2.2.2.1) - 0)) + 1) + ((Prod.mk y3.2.2.2.1 y3.2.2.2.2.1).1 - (Int.toNat y3.2.2.2.2.2.2.2.1))) ≤ big))) then
                                N (TrT_2b y3.1 y3.2.1 y3.2.2.1 (((0 + ((Int.toNat y3.2.2.2.2.2.2.2.1) - 0)) + 1) + ((Prod.mk y3.2.2.2.1 y3.2.2.2.2.1).1 - (Int.toNat y3.2.2.2.2.2.2.2.1))) ((([] ++ (List.take (((Int.toNat y3.2.2.2.2.2.2.2.1) - 0) * 1) (List.drop 0 y3.2.2.2.2.1))) ++ [(PV.int IntKind.i64 y3.2.2.2.2.2.2.1)]) ++ (List.take (((Prod.mk y3.2.2.2.1 y3.2.2.2.2.1).1 - (Int.toNat y3.2.2.2.2.2.2.2.1)) * 1) (List.drop ((Int.toNat y3.2.2.2.2.2.2.2.1) * 1) y3.2.2.2.2.1))) y3.2.2.2.2.2.1 y3.2.2.2.2.2.2.2.2.1 y3.2.2.2.2.2.2.2.2.2.1 y3.2.2.2.2.2.2.2.2.2.2.1 y3.2.2.2.2.2.2.2.2.2.2.2.1 (w64 (y3.2.2.2.2.2.2.2.2.2.2.2.2 + (1 : Int))))
                              else none
                            else none
                          else none
                        else none
                      else none
                    else none
                  else none
                else none
              else none
            else none
          else none
        else bif (decide (((0 : Int) ≤ y3.2.2.2.2.2.2.2.1) ∧ (y3.2.2.2.2.2.2.2.1 ≤ ((Prod.mk y3.2.2.2.1 y3.2.2.2.2.1).1 : Int)))) then
          bif (decide ((0 = (Int.toNat y3.2.2.2.2.2.2.2.1)) ∨ (((0 * 1) + (((Int.toNat y3.2.2.2.2.2.2.2.1) - 0) * 1)) ≤ (List.length y3.2.2.2.2.1)))) then
            bif (decide (((Int.toNat y3.2.2.2.2.2.2.2.1) - 0) = 0)) then
              bif (decide (((0 : Int) ≤ y3.2.2.2.2.2.2.2.1) ∧ (y3.2.2.2.2.2.2.2.1 ≤ ((Prod.mk y3.2.2.2.1 y3.2.2.2.2.1).1 : Int)))) then
                bif (decide (((Int.toNat y3.2.2.2.2.2.2.2.1) = (Prod.mk y3.2.2.2.1 y3.2.2.2.2.1).1) ∨ ((((Int.toNat y3.2.2.2.2.2.2.2.1) * 1) + (((Prod.mk y3.2.2.2.1 y3.2.2.2.2.1).1 - (Int.toNat y3.2.2.2.2.2.2.2.1)) * 1)) ≤ (List.length y3.2.2.2.2.1)))) then
                  bif (decide (((Prod.mk y3.2.2.2.1 y3.2.2.2.2.1).1 - (Int.toNat y3.2.2.2.2.2.2.2.1)) = 0)) then
                    N (TrT_2b y3.1 y3.2.1 y3.2.2.1 1 [(PV.int IntKind.i64 y3.2.2.2.2.2.2.1)] y3.2.2.2.2.2.1 y3.2.2.2.2.2.2.2.2.1 y3.2.2.2.2.2.2.2.2.2.1 y3.2.2.2.2.2.2.2.2.2.2.1 y3.2.2.2.2.2.2.2.2.2.2.2.1 (w64 (y3.2.2.2.2.2.2.2.2.2.2.2.2 + (1 : Int))))
                  else bif (decide ((List.length (List.take (((Prod.mk y3.2.2.2.1 y3.2.2.2.2.1).1 - (Int.toNat y3.2.2.2.2.2.2.2.1)) * 1) (List.drop ((Int.toNat y3.2.2.2.2.2.2.2.1) * 1) y3.2.2.2.2.1))) = (((Prod.mk y3.2.2.2.1 y3.2.2.2.2.1).1 - (Int.toNat y3.2.2.2.2.2.2.2.1)) * 1))) then
                    bif (decide (((0 + 1) = (0 + 1)) ∧ (((0 + 1) + ((Prod.mk y3.2.2.2.1 y3.2.2.2.2.1).1 - (Int.toNat y3.2.2.2.2.2.2.2.1))) ≤ big))) then
                      N (TrT_2b y3.1 y3.2.1 y3.2.2.1 (1 + ((Prod.mk y3.2.2.2.1 y3.2.2.2.2.1).1 - (Int.toNat y3.2.2.2.2.2.2.2.1))) ([(PV.int IntKind.i64 y3.2.2.2.2.2.2.1)] ++ (List.take (((Prod.mk y3.2.2.2.1 y3.2.2.2.2.1).1 - (Int.toNat y3.2.2.2.2.2.2.2.1)) * 1) (List.drop ((Int.toNat y3.2.2.2.2.2.2.2.1) * 1) y3.2.2.2.2.1))) y3.2.2.2.2.2.1 y3.2.2.2.2.2.2.2.2.1 y3.2.2.2.2.2.2.2.2.2.1 y3.2.2.2.2.2.2.2.2.2.2.1 y3.2.2.2.2.2.2.2.2.2.2.2.1 (w64 (y3.2.2.2.2.2.2.2.2.2.2.2.2 + (1 : Int))))
                    else none
                  else none
                else none
              else none
            else bif (decide ((List.length (List.take (((Int.toNat y3.2.2.2.2.2.2.2.1) - 0) * 1) (List.drop 0 y3.2.2.2.2.1))) = (((Int.toNat y3.2.2.2.2.2.2.2.1) - 0) * 1))) then
              bif (decide ((0 = 0) ∧ ((0 + ((Int.toNat y3.2.2.2.2.2.2.2.1) - 0)) ≤ big))) then
                bif (decide ((0 + ((Int.toNat y3.2.2.2.2.2.2.2.1) - 0)) = (0 + ((Int.toNat y3.2.2.2.2.2.2.2.1) - 0)))) then
                  bif (decide (((0 + ((Int.toNat y3.2.2.2.2.2.2.2.1) - 0)) = (0 + ((Int.toNat y3.2.2.2.2.2.2.2.1) - 0))) ∧ (((0 + ((Int.toNat y3.2.2.2.2.2.2.2.1) - 0)) + 1) ≤ big))) then
                    bif (decide (((0 : Int) ≤ y3.2.2.2.2.2.2.2.1) ∧ (y3.2.2.2.2.2.2.2.1 ≤ ((Prod.mk y3.2.2.2.1 y3.2.2.2.2.1).1 : Int)))) then
                      bif (decide (((Int.toNat y3.2.2.2.2.2.2.2.1) = (Prod.mk y3.2.2.2.1 y3.2.2.2.2.1).1) ∨ ((((Int.toNat y3.2.2.2.2.2.2.2.1) * 1) + (((Prod.mk y3.2.2.2.1 y3.2.2.2.2.1).1 - (Int.toNat y3.2.2.2.2.2.2.2.1)) * 1)) ≤ (List.length y3.2.2.2.2.1)))) then
                        bif (decide (((Prod.mk y3.2.2.2.1 y3.2.2.2.2.1).1 - (Int.toNat y3.2.2.2.2.2.2.2.1)) = 0)) then
                          N (TrT_2b y3.1 y3.2.1 y3.2.2.1 ((0 + ((Int.toNat y3.2.2.2.2.2.2.2.1) - 0)) + 1) (([] ++ (List.take (((Int.toNat y3.2.2.2.2.2.2.2.1) - 0) * 1) (List.drop 0 y3.2.2.2.2.1))) ++ [(PV.int IntKind.i64 y3.2.2.2.2.2.2.1)]) y3.2.2.2.2.2.1 y3.2.2.2.2.2.2.2.2.1 y3.2.2.2.2.2.2.2.2.2.1 y3.2.2.2.2.2.2.2.2.2.2.1 y3.2.2.2.2.2.2.2.2.2.2.2.1 (w64 (y3.2.2.2.2.2.2.2.2.2.2.2.2 + (1 : Int))))
                        else bif (decide ((List.length (List.take (((Prod.mk y3.2.2.2.1 y3.2.2.2.2.1).1 - (Int.toNat y3.2.2.2.2.2.2.2.1)) * 1) (List.drop ((Int.toNat y3.2.2.2.2.2.2.2.1) * 1) y3.2.2.2.2.1))) = (((Prod.mk y3.2.2.2.1 y3.2.2.2.2.1).1 - (Int.toNat y3.2.2.2.2.2.2.2.1)) * 1))) then
                          bif (decide ((((0 + ((Int.toNat y3.2.2.2.2.2.2.2.1) - 0)) + 1) = ((0 + ((Int.toNat y3.2.2.2.2.2.2.2.1) - 0)) + 1)) ∧ ((((0 + ((Int.toNat y3.2.2.2.2.2.2.2.1) - 0)) + 1) + ((Prod.mk y3.2.2.2.1 y3.2.2.2.2.1).1 - (Int.toNat y3.2.2.2.2.2.2.2.1))) ≤ big))) then
                            N (TrT_2b y3.1 y3.2.1 y3.2.2.1 (((0 + ((Int.toNat y3.2.2.2.2.2.2.2.1) - 0)) + 1) + ((Prod.mk y3.2.2.2.1 y3.2.2.2.2.1).1 - (Int.toNat y3.2.2.2.2.2.2.2.1))) ((([] ++ (List.take (((Int.toNat y3.2.2.2.2.2.2.2.1) - 0) * 1) (List.drop 0 y3.2.2.2.2.1))) ++ [(PV.int IntKind.i64 y3.2.2.2.2.2.2.1)]) ++ (List.take (((Prod.mk y3.2.2.2.1 y3.2.2.2.2.1).1 - (Int.toNat y3.2.2.2.2.2.2.2.1)) * 1) (List.drop ((Int.toNat y3.2.2.2.2.2.2.2.1) * 1) y3.2.2.2.2.1))) y3.2.2.2.2.2.1 y3.2.2.2.2.2.2.2.2.1 y3.2.2.2.2.2.2.2.2.2.1 y3.2.2.2.2.2.2.2.2.2.2.1 y3.2.2.2.2.2.2.2.2.2.2.2.1 (w64 (y3.2.2.2.2.2.2.2.2.2.2.2.2 + (1 : Int))))
                          else none
                        else none
                      else none
                    else none
                  else none
                else none
              else none
            else none
          else none
        else none) z
    else none
  else E (XrT_2a (n0, c1, i2, i3))
theorem BrT_2a_eq (F : FnT) (N : Q → Option (Ext × S)) (E : Ext × Q → Option (Ext × S)) (L0 : Q → Option YrT_0) (L2 : Q → Option YrT_2) (L4 : Q → Option YrT_4) (n0 : Nat) (c1 : List PV) (i2 : Int) (i3 : Int) (i4 : Int) (i5 : Int) (i6 : Int) (i7 : Int) (i8 : Int) : semB (callP F ErT 20) s91 (loopT [⟨0, YrT_0, L0, XLrT_0⟩, ⟨2, YrT_2, L2, XLrT_2⟩, ⟨4, YrT_4, L4, XLrT_4⟩]) 400 (blkIn a91.body 2) N E (TrT_2a n0 c1 i2 i3 i4 i5 i6 i7 i8) = BrT_2a F N E L0 L2 L4 n0 c1 i2 i3 i4 i5 i6 i7 i8 := by kernel_rfl
theorem RrT_2a_of  (n0 : Nat) (c1 : List PV) (i2 : Int) (i3 : Int) (i4 : Int) (i5 : Int) (i6 : Int) (i7 : Int) (i8 : Int) {r : Ext × S} (h : BrT_2a (Fn env) RrT_2 exO LrT_0 LrT_2 LrT_4 n0 c1 i2 i3 i4 i5 i6 i7 i8 = some r) : RrT_2 (TrT_2a n0 c1 i2 i3 i4 i5 i6 i7 i8) = some r :=
  lp_of ErT_ok (by kernel_rfl) (lo_cons (lpO_ok UrT) (lo_cons (lpO_ok UrT) (lo_cons (lpO_ok UrT) lo_nil))) (by kernel_rfl) ((BrT_2a_eq _ _ _ _ _ _ _ _ _ _ _ _ _ _ _).trans h)
def BrT_2b (_F : FnT) (N : Q → Option (Ext × S)) (E : Ext × Q → Option (Ext × S)) (_L0 : Q → Option YrT_0) (_L2 : Q → Option YrT_2) (L4 : Q → Option YrT_4) (n0 : Nat) (c1 : List PV) (i2 : Int) (n3 : Nat) (c4 : List PV) (i5 : Int) (i6 : Int) (i7 : Int) (i8 : Int) (i9 : Int) (i10 : Int) : Option (Ext × S) :=
  bif (decide (i10 < (4 : Int))) then
    bif (decide (((0 : Int) ≤ i10) ∧ (i10 < (4 : Int)))) then
      bindO (intC IntKind.i64 ([(PV.int IntKind.i64 i6), (PV.int IntKind.i64 i7), (PV.int IntKind.i64 i8), (PV.int IntKind.i64 i9)][((Int.toNat i10) * 1)]?)) fun x0 =>
      bindO (L4 (TrT_4b n0 c1 i2 n3 c4 i5 x0 (0 : Int) i6 i7 i8 i9 i10)) fun z =>
      Sum.elim (fun y1 =>
        bif (decide (y1.2.2.2.2.2.1 < (1 : Int))) then
          bif (decide (((0 : Int) ≤ y1.2.2.2.2.2.1) ∧ (y1.2.2.2.2.2.1 < (1 : Int)))) then
            bindO (intC IntKind.i64 ([(PV.int IntKind.i64 (-1 : Int))][((Int.toNat y1.2.2.2.2.2.1) * 1)]?)) fun x2 =>
            bif (x2 == y1.2.2.2.2.1) then
              N (TrT_2a y1.1 y1.2.1 y1.2.2.1 y1.2.2.2.1 y1.2.2.2.2.2.2.1 y1.2.2.2.2.2.2.2.1 y1.2.2.2.2.2.2.2.2.1 y1.2.2.2.2.2.2.2.2.2.1 (w64 (y1.2.2.2.2.2.2.2.2.2.2 + (1 : Int))))
            else bif (decide (((0 : Int) ≤ y1.2.2.2.2.2.1) ∧ (y1.2.2.2.2.2.1 ≤ ((Prod.mk 1 [(PV.int IntKind.i64 (-1 : Int))]).1 : Int)))) then
              bif (decide ((0 = (Int.toNat y1.2.2.2.2.2.1)) ∨ (((0 * 1) + (((Int.toNat y1.2.2.2.2.2.1) - 0) * 1)) ≤ (List.length [(PV.int IntKind.i64 (-1 : Int))])))) then
                bif (decide (((Int.toNat y1.2.2.2.2.2.1) - 0) = 0)) then
                  bif (decide (((0 : Int) ≤ y1.2.2.2.2.2.1) ∧ (y1.2.2.2.2.2.1 ≤ ((Prod.mk 1 [(PV.int IntKind.i64 (-1 : Int))]).1 : Int)))) then
                    bif (decide (((Int.toNat y1.2.2.2.2.2.1) = (Prod.mk 1 [(PV.int IntKind.i64 (-1 : Int))]).1) ∨ ((((Int.toNat y1.2.2.2.2.2.1) * 1) + (((Prod.mk 1 [(PV.int IntKind.i64 (-1 : Int))]).1 - (Int.toNat y1.2.2.2.2.2.1)) * 1)) ≤ (List.length [(PV.int IntKind.i64 (-1 : Int))])))) then
                      bif (decide (((Prod.mk 1 [(PV.int IntKind.i64 (-1 : Int))]).1 - (Int.toNat y1.2.2.2.2.2.1)) = 0)) then
                        N (TrT_2b y1.1 y1.2.1 y1.2.2.1 1 [(PV.int IntKind.i64 y1.2.2.2.2.1)] y1.2.2.2.1 y1.2.2.2.2.2.2.1 y1.2.2.2.2.2.2.2.1 y1.2.2.2.2.2.2.2.2.1 y1.2.2.2.2.2.2.2.2.2.1 (w64 (y1.2.2.2.2.2.2.2.2.2.2 + (1 : Int))))
                      else bif (decide ((List.length (List.take (((Prod.mk 1 [(PV.int IntKind.i64 (-1 : Int))]).1 - (Int.toNat y1.2.2.2.2.2.1)) * 1) (List.drop ((Int.toNat y1.2.2.2.2.2.1) * 1) [(PV.int IntKind.i64 (-1 : Int))]))) = (((Prod.mk 1 [(PV.int IntKind.i64 (-1 : Int))]).1 - (Int.toNat y1.2.2.2.2.2.1)) * 1))) then
                        bif (decide (((0 + 1) = (0 + 1)) ∧ (((0 + 1) + ((Prod.mk 1 [(PV.int IntKind.i64 (-1 : Int))]).1 - (Int.toNat y1.2.2.2.2.2.1))) ≤ big))) then
                          N (TrT_2b y1.1 y1.2.1 y1.2.2.1 (1 + (1 - (Int.toNat y1.2.2.2.2.2.1))) ([(PV.int IntKind.i64 y1.2.2.2.2.1)] ++ (List.take ((1 - (Int.toNat y1.2.2.2.2.2.1)) * 1) (List.drop ((Int.toNat y1.2.2.2.2.2.1) * 1) [(PV.int IntKind.i64 (-1 : Int))]))) y1.2.2.2.1 y1.2.2.2.2.2.2.1 y1.2.2.2.2.2.2.2.1 y1.2.2.2.2.2.2.2.2.1 y1.2.2.2.2.2.2.2.2.2.1 (w64 (y1.2.2.2.2.2.2.2.2.2.2 + (1 : Int))))
                        else none
                      else none
                    else none
                  else none
                else bif (decide ((List.length (List.take (((Int.toNat y1.2.2.2.2.2.1) - 0) * 1) [(PV.int IntKind.i64 (-1 : Int))])) = (((Int.toNat y1.2.2.2.2.2.1) - 0) * 1))) then
                  bif (decide ((0 = 0) ∧ ((0 + ((Int.toNat y1.2.2.2.2.2.1) - 0)) ≤ big))) then
                    bif (decide ((0 + ((Int.toNat y1.2.2.2.2.2.1) - 0)) = (0 + ((Int.toNat y1.2.2.2.2.2.1) - 0)))) then
                      bif (decide (((0 + ((Int.toNat y1.2.2.2.2.2.1) - 0)) = (0 + ((Int.toNat y1.2.2.2.2.2.1) - 0))) ∧ (((0 + ((Int.toNat y1.2.2.2.2.2.1) - 0)) + 1) ≤ big))) then
                        bif (decide (((0 : Int) ≤ y1.2.2.2.2.2.1) ∧ (y1.2.2.2.2.2.1 ≤ ((Prod.mk 1 [(PV.int IntKind.i64 (-1 : Int))]).1 : Int)))) then
                          bif (decide (((Int.toNat y1.2.2.2.2.2.1) = (Prod.mk 1 [(PV.int IntKind.i64 (-1 : Int))]).1) ∨ ((((Int.toNat y1.2.2.2.2.2.1) * 1) + (((Prod.mk 1 [(PV.int IntKind.i64 (-1 : Int))]).1 - (Int.toNat y1.2.2.2.2.2.1)) * 1)) ≤ (List.length [(PV.int IntKind.i64 (-1 : Int))])))) then
                            bif (decide (((Prod.mk 1 [(PV.int IntKind.i64 (-1 : Int))]).1 - (Int.toNat y1.2.2.2.2.2.1)) = 0)) then
                              N (TrT_2b y1.1 y1.2.1 y1.2.2.1 ((0 + ((Int.toNat y1.2.2.2.2.2.1) - 0)) + 1) (([] ++ (List.take (((Int.toNat y1.2.2.2.2.2.1) - 0) * 1) [(PV.int IntKind.i64 (-1 : Int))])) ++ [(PV.int IntKind.i64 y1.2.2.2.2.1)]) y1.2.2.2.1 y1.2.2.2.2.2.2.1 y1.2.2.2.2.2.2.2.1 y1.2.2.2.2.2.2.2.2.1 y1.2.2.2.2.2.2.2.2.2.1 (w64 (y1.2.2.2.2.2.2.2.2.2.2 + (1 : Int))))
                            else bif (decide ((List.length (List.take (((Prod.mk 1 [(PV.int IntKind.i64 (-1 : Int))]).1 - (Int.toNat y1.2.2.2.2.2.1)) * 1) (List.drop ((Int.toNat y1.2.2.2.2.2.1) * 1) [(PV.int IntKind.i64 (-1 : Int))]))) = (((Prod.mk 1 [(PV.int IntKind.i64 (-1 : Int))]).1 - (Int.toNat y1.2.2.2.2.2.1)) * 1))) then
                              bif (decide ((((0 + ((Int.toNat y1.2.2.2.2.2.1) - 0)) + 1) = ((0 + ((Int.toNat y1.2.2.2.2.2.1) - 0)) + 1)) ∧ ((((0 + ((Int.toNat y1.2.2.2.2.2.1) - 0)) + 1) + ((Prod.mk 1 [(PV.int IntKind.i64 (-1 : Int))]).1 - (Int.toNat y1.2.2.2.2.2.1))) ≤ big))) then
                                N (TrT_2b y1.1 y1.2.1 y1.2.2.1 (((0 + ((Int.toNat y1.2.2.2.2.2.1) - 0)) + 1) + (1 - (Int.toNat y1.2.2.2.2.2.1))) ((([] ++ (List.take (((Int.toNat y1.2.2.2.2.2.1) - 0) * 1) [(PV.int IntKind.i64 (-1 : Int))])) ++ [(PV.int IntKind.i64 y1.2.2.2.2.1)]) ++ (List.take ((1 - (Int.toNat y1.2.2.2.2.2.1)) * 1) (List.drop ((Int.toNat y1.2.2.2.2.2.1) * 1) [(PV.int IntKind.i64 (-1 : Int))]))) y1.2.2.2.1 y1.2.2.2.2.2.2.1 y1.2.2.2.2.2.2.2.1 y1.2.2.2.2.2.2.2.2.1 y1.2.2.2.2.2.2.2.2.2.1 (w64 (y1.2.2.2.2.2.2.2.2.2.2 + (1 : Int))))
                              else none
                            else none
                          else none
                        else none
                      else none
                    else none
                  else none
                else none
              else none
            else none
          else none
        else bif (decide (((0 : Int) ≤ y1.2.2.2.2.2.1) ∧ (y1.2.2.2.2.2.1 ≤ ((Prod.mk 1 [(PV.int IntKind.i64 (-1 : Int))]).1 : Int)))) then
          bif (decide ((0 = (Int.toNat y1.2.2.2.2.2.1)) ∨ (((0 * 1) + (((Int.toNat y1.2.2.2.2.2.1) - 0) * 1)) ≤ (List.length [(PV.int IntKind.i64 (-1 : Int))])))) then
            bif (decide (((Int.toNat y1.2.2.2.2.2.1) - 0) = 0)) then
              bif (decide (((0 : Int) ≤ y1.2.2.2.2.2.1) ∧ (y1.2.2.2.2.2.1 ≤ ((Prod.mk 1 [(PV.int IntKind.i64 (-1 : Int))]).1 : Int)))) then
                bif (decide (((Int.toNat y1.2.2.2.2.2.1) = (Prod.mk 1 [(PV.int IntKind.i64 (-1 : Int))]).1) ∨ ((((Int.toNat y1.2.2.2.2.2.1) * 1) + (((Prod.mk 1 [(PV.int IntKind.i64 (-1 : Int))]).1 - (Int.toNat y1.2.2.2.2.2.1)) * 1)) ≤ (List.length [(PV.int IntKind.i64 (-1 : Int))])))) then
                  bif (decide (((Prod.mk 1 [(PV.int IntKind.i64 (-1 : Int))]).1 - (Int.toNat y1.2.2.2.2.2.1)) = 0)) then
                    N (TrT_2b y1.1 y1.2.1 y1.2.2.1 1 [(PV.int IntKind.i64 y1.2.2.2.2.1)] y1.2.2.2.1 y1.2.2.2.2.2.2.1 y1.2.2.2.2.2.2.2.1 y1.2.2.2.2.2.2.2.2.1 y1.2.2.2.2.2.2.2.2.2.1 (w64 (y1.2.2.2.2.2.2.2.2.2.2 + (1 : Int))))
                  else bif (decide ((List.length (List.take (((Prod.mk 1 [(PV.int IntKind.i64 (-1 : Int))]).1 - (Int.toNat y1.2.2.2.2.2.1)) * 1) (List.drop ((Int.toNat y1.2.2.2.2.2.1) * 1) [(PV.int IntKind.i64 (-1 : Int))]))) = (((Prod.mk 1 [(PV.int IntKind.i64 (-1 : Int))]).1 - (Int.toNat y1.2.2.2.2.2.1)) * 1))) then
                    bif (decide (((0 + 1) = (0 + 1)) ∧ (((0 + 1) + ((Prod.mk 1 [(PV.int IntKind.i64 (-1 : Int))]).1 - (Int.toNat y1.2.2.2.2.2.1))) ≤ big))) then
                      N (TrT_2b y1.1 y1.2.1 y1.2.2.1 (1 + (1 - (Int.toNat y1.2.2.2.2.2.1))) ([(PV.int IntKind.i64 y1.2.2.2.2.1)] ++ (List.take ((1 - (Int.toNat y1.2.2.2.2.2.1)) * 1) (List.drop ((Int.toNat y1.2.2.2.2.2.1) * 1) [(PV.int IntKind.i64 (-1 : Int))]))) y1.2.2.2.1 y1.2.2.2.2.2.2.1 y1.2.2.2.2.2.2.2.1 y1.2.2.2.2.2.2.2.2.1 y1.2.2.2.2.2.2.2.2.2.1 (w64 (y1.2.2.2.2.2.2.2.2.2.2 + (1 : Int))))
                    else none
                  else none
                else none
              else none
            else bif (decide ((List.length (List.take (((Int.toNat y1.2.2.2.2.2.1) - 0) * 1) [(PV.int IntKind.i64 (-1 : Int))])) = (((Int.toNat y1.2.2.2.2.2.1) - 0) * 1))) then
              bif (decide ((0 = 0) ∧ ((0 + ((Int.toNat y1.2.2.2.2.2.1) - 0)) ≤ big))) then
                bif (decide ((0 + ((Int.toNat y1.2.2.2.2.2.1) - 0)) = (0 + ((Int.toNat y1.2.2.2.2.2.1) - 0)))) then
                  bif (decide (((0 + ((Int.toNat y1.2.2.2.2.2.1) - 0)) = (0 + ((Int.toNat y1.2.2.2.2.2.1) - 0))) ∧ (((0 + ((Int.toNat y1.2.2.2.2.2.1) - 0)) + 1) ≤ big))) then
                    bif (decide (((0 : Int) ≤ y1.2.2.2.2.2.1) ∧ (y1.2.2.2.2.2.1 ≤ ((Prod.mk 1 [(PV.int IntKind.i64 (-1 : Int))]).1 : Int)))) then
                      bif (decide (((Int.toNat y1.2.2.2.2.2.1) = (Prod.mk 1 [(PV.int IntKind.i64 (-1 : Int))]).1) ∨ ((((Int.toNat y1.2.2.2.2.2.1) * 1) + (((Prod.mk 1 [(PV.int IntKind.i64 (-1 : Int))]).1 - (Int.toNat y1.2.2.2.2.2.1)) * 1)) ≤ (List.length [(PV.int IntKind.i64 (-1 : Int))])))) then
                        bif (decide (((Prod.mk 1 [(PV.int IntKind.i64 (-1 : Int))]).1 - (Int.toNat y1.2.2.2.2.2.1)) = 0)) then
                          N (TrT_2b y1.1 y1.2.1 y1.2.2.1 ((0 + ((Int.toNat y1.2.2.2.2.2.1) - 0)) + 1) (([] ++ (List.take (((Int.toNat y1.2.2.2.2.2.1) - 0) * 1) [(PV.int IntKind.i64 (-1 : Int))])) ++ [(PV.int IntKind.i64 y1.2.2.2.2.1)]) y1.2.2.2.1 y1.2.2.2.2.2.2.1 y1.2.2.2.2.2.2.2.1 y1.2.2.2.2.2.2.2.2.1 y1.2.2.2.2.2.2.2.2.2.1 (w64 (y1.2.2.2.2.2.2.2.2.2.2 + (1 : Int))))
                        else bif (decide ((List.length (List.take (((Prod.mk 1 [(PV.int IntKind.i64 (-1 : Int))]).1 - (Int.toNat y1.2.2.2.2.2.1)) * 1) (List.drop ((Int.toNat y1.2.2.2.2.2.1) * 1) [(PV.int IntKind.i64 (-1 : Int))]))) = (((Prod.mk 1 [(PV.int IntKind.i64 (-1 : Int))]).1 - (Int.toNat y1.2.2.2.2.2.1)) * 1))) then
                          bif (decide ((((0 + ((Int.toNat y1.2.2.2.2.2.1) - 0)) + 1) = ((0 + ((Int.toNat y1.2.2.2.2.2.1) - 0)) + 1)) ∧ ((((0 + ((Int.toNat y1.2.2.2.2.2.1) - 0)) + 1) + ((Prod.mk 1 [(PV.int IntKind.i64 (-1 : Int))]).1 - (Int.toNat y1.2.2.2.2.2.1))) ≤ big))) then
                            N (TrT_2b y1.1 y1.2.1 y1.2.2.1 (((0 + ((Int.toNat y1.2.2.2.2.2.1) - 0)) + 1) + (1 - (Int.toNat y1.2.2.2.2.2.1))) ((([] ++ (List.take (((Int.toNat y1.2.2.2.2.2.1) - 0) * 1) [(PV.int IntKind.i64 (-1 : Int))])) ++ [(PV.int IntKind.i64 y1.2.2.2.2.1)]) ++ (List.take ((1 - (Int.toNat y1.2.2.2.2.2.1)) * 1) (List.drop ((Int.toNat y1.2.2.2.2.2.1) * 1) [(PV.int IntKind.i64 (-1 : Int))]))) y1.2.2.2.1 y1.2.2.2.2.2.2.1 y1.2.2.2.2.2.2.2.1 y1.2.2.2.2.2.2.2.2.1 y1.2.2.2.2.2.2.2.2.2.1 (w64 (y1.2.2.2.2.2.2.2.2.2.2 + (1 : Int))))
                          else none
                        else none
                      else none
                    else none
                  else none
                else none
              else none
            else none
          else none
        else none) (fun y3 =>
        bif (decide (y3.2.2.2.2.2.2.2.1 < (y3.2.2.2.1 : Int))) then
          bif (decide (((0 : Int) ≤ y3.2.2.2.2.2.2.2.1) ∧ (y3.2.2.2.2.2.2.2.1 < (y3.2.2.2.1 : Int)))) then
            bindO (intC IntKind.i64 (y3.2.2.2.2.1[((Int.toNat y3.2.2.2.2.2.2.2.1) * 1)]?)) fun x4 =>
            bif (x4 == y3.2.2.2.2.2.2.1) then
              N (TrT_2b y3.1 y3.2.1 y3.2.2.1 y3.2.2.2.1 y3.2.2.2.2.1 y3.2.2.2.2.2.1 y3.2.2.2.2.2.2.2.2.1 y3.2.2.2.2.2.2.2.2.2.1 y3.2.2.2.2.2.2.2.2.2.2.1 y3.2.2.2.2.2.2.2.2.2.2.2.1 (w64 (y3.2.2.2.2.2.2.2.2.2.2.2.2 + (1 : Int))))
            else bif (decide (((0 : Int) ≤ y3.2.2.2.2.2.2.2.1) ∧ (y3.2.2.2.2.2.2.2.1 ≤ ((Prod.mk y3.2.2.2.1 y3.2.2.2.2.1).1 : Int)))) then
              bif (decide ((0 = (Int.toNat y3.2.2.2.2.2.2.2.1)) ∨ (((0 * 1) + (((Int.toNat y3.2.2.2.2.2.2.2.1) - 0) * 1)) ≤ (List.length y3.2.2.2.2.1)))) then
                bif (decide (((Int.toNat y3.2.2.2.2.2.2.2.1) - 0) = 0)) then
                  bif (decide (((0 : Int) ≤ y3.2.2.2.2.2.2.2.1) ∧ (y3.2.2.2.2.2.2.2.1 ≤ ((Prod.mk y3.2.2.2.1 y3.2.2.2.2.1).1 : Int)))) then
                    bif (decide (((Int.toNat y3.2.2.2.2.2.2.2.1) = (Prod.mk y3.2.2.2.1 y3.2.2.2.2.1).1) ∨ ((((Int.toNat y3.2.2.2.2.2.2.2.1) * 1) + (((Prod.mk y3.2.2.2.1 y3.2.2.2.2.1).1 - (Int.toNat y3.2.2.2.2.2.2.2.1)) * 1)) ≤ (List.length y3.2.2.2.2.1)))) then
                      bif (decide (((Prod.mk y3.2.2.2.1 y3.2.2.2.2.1).1 - (Int.toNat y3.2.2.2.2.2.2.2.1)) = 0)) then
                        N (TrT_2b y3.1 y3.2.1 y3.2.2.1 1 [(PV.int IntKind.i64 y3.2.2.2.2.2.2.1)] y3.2.2.2.2.2.1 y3.2.2.2.2.2.2.2.2.1 y3.2.2.2.2.2.2.2.2.2.1 y3.2.2.2.2.2.2.2.2.2.2.1 y3.2.2.2.2.2.2.2.2.2.2.2.1 (w64 (y3.2.2.2.2.2.2.2.2.2.2.2.2 + (1 : Int))))
                      else bif (decide ((List.length (List.take (((Prod.mk y3.2.2.2.1 y3.2.2.2.2.1).1 - (Int.toNat y3.2.2.2.2.2.2.2.1)) * 1) (List.drop ((Int.toNat y3.2.2.2.2.2.2.2.1) * 1) y3.2.2.2.2.1))) = (((Prod.mk y3.2.2.2.1 y3.2.2.2.2.1).1 - (Int.toNat y3.2.2.2.2.2.2.2.1)) * 1))) then
                        bif (decide (((0 + 1) = (0 + 1)) ∧ (((0 + 1) + ((Prod.mk y3.2.2.2.1 y3.2.2.2.2.1).1 - (Int.toNat y3.2.2.2.2.2.2.2.1))) ≤ big))) then
                          N (TrT_2b y3.1 y3.2.1 y3.2.2.1 (1 + ((Prod.mk y3.2.2.2.1 y3.2.2.2.2.1).1 - (Int.toNat y3.2.2.2.2.2.2.2.1))) ([(PV.int IntKind.i64 y3.2.2.2.2.2.2.1)] ++ (List.take (((Prod.mk y3.2.2.2.1 y3.2.2.2.2.1).1 - (Int.toNat y3.2.2.2.2.2.2.2.1)) * 1) (List.drop ((Int.toNat y3.2.2.2.2.2.2.2.1) * 1) y3.2.2.2.2.1))) y3.2.2.2.2.2.1 y3.2.2.2.2.2.2.2.2.1 y3.2.2.2.2.2.2.2.2.2.1 y3.2.2.2.2.2.2.2.2.2.2.1 y3.2.2.2.2.2.2.2.2.2.2.2.1 (w64 (y3.2.2.2.2.2.2.2.2.2.2.2.2 + (1 : Int))))
                        else none
                      else none
                    else none
                  else none
                else bif (decide ((List.length (List.take (((Int.toNat y3.2.2.2.2.2.2.2.1) - 0) * 1) (List.drop 0 y3.2.2.2.2.1))) = (((Int.toNat y3.2.2.2.2.2.2.2.1) - 0) * 1))) then
                  bif (decide ((0 = 0) ∧ ((0 + ((Int.toNat y3.2.2.2.2.2.2.2.1) - 0)) ≤ big))) then
                    bif (decide ((0 + ((Int.toNat y3.2.2.2.2.2.2.2.1) - 0)) = (0 + ((Int.toNat y3.2.2.2.2.2.2.2.1) - 0)))) then
                      bif (decide (((0 + ((Int.toNat y3.2.2.2.2.2.2.2.1) - 0)) = (0 + ((Int.toNat y3.2.2.2.2.2.2.2.1) - 0))) ∧ (((0 + ((Int.toNat y3.2.2.2.2.2.2.2.1) - 0)) + 1) ≤ big))) then
                        bif (decide (((0 : Int) ≤ y3.2.2.2.2.2.2.2.1) ∧ (y3.2.2.2.2.2.2.2.1 ≤ ((Prod.mk y3.2.2.2.1 y3.2.2.2.2.1).1 : Int)))) then
                          bif (decide (((Int.toNat y3.2.2.2.2.2.2.2.1) = (Prod.mk y3.2.2.2.1 y3.2.2.2.2.1).1) ∨ ((((Int.toNat y3.2.2.2.2.2.2.2.1) * 1) + (((Prod.mk y3.2.2.2.1 y3.2.2.2.2.1).1 - (Int.toNat y3.2.2.2.2.2.2.2.1)) * 1)) ≤ (List.length y3.2.2.2.2.1)))) then
                            bif (decide (((Prod.mk y3.2.2.2.1 y3.2.2.2.2.1).1 - (Int.toNat y3.2.2.2.2.2.2.2.1)) = 0)) then
                              N (TrT_2b y3.1 y3.2.1 y3.2.2.1 ((0 + ((Int.toNat y3.2.2.2.2.2.2.2.1) - 0)) + 1) (([] ++ (List.take (((Int.toNat y3.2.2.2.2.2.2.2.1) - 0) * 1) (List.drop 0 y3.2.2.2.2.1))) ++ [(PV.int IntKind.i64 y3.2.2.2.2.2.2.1)]) y3.2.2.2.2.2.1 y3.2.2.2.2.2.2.2.2.1 y3.2.2.2.2.2.2.2.2.2.1 y3.2.2.2.2.2.2.2.2.2.2.1 y3.2.2.2.2.2.2.2.2.2.2.2.1 (w64 (y3.2.2.2.2.2.2.2.2.2.2.2.2 + (1 : Int))))
                            else bif (decide ((List.length (List.take (((Prod.mk y3.2.2.2.1 y3.2.2.2.2.1).1 - (Int.toNat y3.2.2.2.2.2.2.2.1)) * 1) (List.drop ((Int.toNat y3.2.2.2.2.2.2.2.1) * 1) y3.2.2.2.2.1))) = (((Prod.mk y3.2.2.2.1 y3.2.2.2.2.1).1 - (Int.toNat y3.2.2.2.2.2.2.2.1)) * 1))) then
                              bif (decide ((((0 + ((Int.toNat y3.2.2.2.2.2.2.2.1) - 0)) + 1) = ((0 + ((Int.toNat y3.2.2.2.2.2.2.2.1) - 0)) + 1)) ∧ ((((0 + ((Int.toNat y3.2.2.2.2.2.2.2.1) - 0)) + 1) + ((Prod.mk y3.2.2.2.1 y3.2.2.2.2.1).1 - (Int.toNat y3.2.2.2.2.2.2.2.1))) ≤ big))) then
                                N (TrT_2b y3.1 y3.2.1 y3.2.2.1 (((0 + ((Int.toNat y3.2.2.2.2.2.2.2.1) - 0)) + 1) + ((Prod.mk y3.2.2.2.1 y3.2.2.2.2.1).1 - (Int.toNat y3.2.2.2.2.2.2.2.1))) ((([] ++ (List.take (((Int.toNat y3.2.2.2.2.2.2.2.1) - 0) * 1) (List.drop 0 y3.2.2.2.2.1))) ++ [(PV.int IntKind.i64 y3.2.2.2.2.2.2.1)]) ++ (List.take (((Prod.mk y3.2.2.2.1 y3.2.2.2.2.1).1 - (Int.toNat y3.2.2.2.2.2.2.2.1)) * 1) (List.drop ((Int.toNat y3.2.2.2.2.2.2.2.1) * 1) y3.2.2.2.2.1))) y3.2.2.2.2.2.1 y3.2.2.2.2.2.2.2.2.1 y3.2.2.2.2.2.2.2.2.2.1 y3.2.2.2.2.2.2.2.2.2.2.1 y3.2.2.2.2.2.2.2.2.2.2.2.1 (w64 (y3.2.2.2.2.2.2.2.2.2.2.2.2 + (1 : Int))))
                              else none
                            else none
                          else none
                        else none
                      else none
                    else none
                  else none
                else none
              else none
            else none
          else none
        else bif (decide (((0 : Int) ≤ y3.2.2.2.2.2.2.2.1) ∧ (y3.2.2.2.2.2.2.2.1 ≤ ((Prod.mk y3.2.2.2.1 y3.2.2.2.2.1).1 : Int)))) then
          bif (decide ((0 = (Int.toNat y3.2.2.2.2.2.2.2.1)) ∨ (((0 * 1) + (((Int.toNat y3.2.2.2.2.2.2.2.1) - 0) * 1)) ≤ (List.length y3.2.2.2.2.1)))) then
            bif (decide (((Int.toNat y3.2.2.2.2.2.2.2.1) - 0) = 0)) then
              bif (decide (((0 : Int) ≤ y3.2.2.2.2.2.2.2.1) ∧ (y3.2.2.2.2.2.2.2.1 ≤ ((Prod.mk y3.2.2.2.1 y3.2.2.2.2.1).1 : Int)))) then
                bif (decide (((Int.toNat y3.2.2.2.2.2.2.2.1) = (Prod.mk y3.2.2.2.1 y3.2.2.2.2.1).1) ∨ ((((Int.toNat y3.2.2.2.2.2.2.2.1) * 1) + (((Prod.mk y3.2.2.2.1 y3.2.2.2.2.1).1 - (Int.toNat y3.2.2.2.2.2.2.2.1)) * 1)) ≤ (List.length y3.2.2.2.2.1)))) then
                  bif (decide (((Prod.mk y3.2.2.2.1 y3.2.2.2.2.1).1 - (Int.toNat y3.2.2.2.2.2.2.2.1)) = 0)) then
                    N (TrT_2b y3.1 y3.2.1 y3.2.2.1 1 [(PV.int IntKind.i64 y3.2.2.2.2.2.2.1)] y3.2.2.2.2.2.1 y3.2.2.2.2.2.2.2.2.1 y3.2.2.2.2.2.2.2.2.2.1 y3.2.2.2.2.2.2.2.2.2.2.1 y3.2.2.2.2.2.2.2.2.2.2.2.1 (w64 (y3.2.2.2.2.2.2.2.2.2.2.2.2 + (1 : Int))))
                  else bif (decide ((List.length (List.take (((Prod.mk y3.2.2.2.1 y3.2.2.2.2.1).1 - (Int.toNat y3.2.2.2.2.2.2.2.1)) * 1) (List.drop ((Int.toNat y3.2.2.2.2.2.2.2.1) * 1) y3.2.2.2.2.1))) = (((Prod.mk y3.2.2.2.1 y3.2.2.2.2.1).1 - (Int.toNat y3.2.2.2.2.2.2.2.1)) * 1))) then
                    bif (decide (((0 + 1) = (0 + 1)) ∧ (((0 + 1) + ((Prod.mk y3.2.2.2.1 y3.2.2.2.2.1).1 - (Int.toNat y3.2.2.2.2.2.2.2.1))) ≤ big))) then
                      N (TrT_2b y3.1 y3.2.1 y3.2.2.1 (1 + ((Prod.mk y3.2.2.2.1 y3.2.2.2.2.1).1 - (Int.toNat y3.2.2.2.2.2.2.2.1))) ([(PV.int IntKind.i64 y3.2.2.2.2.2.2.1)] ++ (List.take (((Prod.mk y3.2.2.2.1 y3.2.2.2.2.1).1 - (Int.toNat y3.2.2.2.2.2.2.2.1)) * 1) (List.drop ((Int.toNat y3.2.2.2.2.2.2.2.1) * 1) y3.2.2.2.2.1))) y3.2.2.2.2.2.1 y3.2.2.2.2.2.2.2.2.1 y3.2.2.2.2.2.2.2.2.2.1 y3.2.2.2.2.2.2.2.2.2.2.1 y3.2.2.2.2.2.2.2.2.2.2.2.1 (w64 (y3.2.2.2.2.2.2.2.2.2.2.2.2 + (1 : Int))))
                    else none
                  else none
                else none
              else none
            else bif (decide ((List.length (List.take (((Int.toNat y3.2.2.2.2.2.2.2.1) - 0) * 1) (List.drop 0 y3.2.2.2.2.1))) = (((Int.toNat y3.2.2.2.2.2.2.2.1) - 0) * 1))) then
              bif (decide ((0 = 0) ∧ ((0 + ((Int.toNat y3.2.2.2.2.2.2.2.1) - 0)) ≤ big))) then
                bif (decide ((0 + ((Int.toNat y3.2.2.2.2.2.2.2.1) - 0)) = (0 + ((Int.toNat y3.2.2.2.2.2.2.2.1) - 0)))) then
                  bif (decide (((0 + ((Int.toNat y3.2.2.2.2.2.2.2.1) - 0)) = (0 + ((Int.toNat y3.2.2.2.2.2.2.2.1) - 0))) ∧ (((0 + ((Int.toNat y3.2.2.2.2.2.2.2.1) - 0)) + 1) ≤ big))) then
                    bif (decide (((0 : Int) ≤ y3.2.2.2.2.2.2.2.1) ∧ (y3.2.2.2.2.2.2.2.1 ≤ ((Prod.mk y3.2.2.2.1 y3.2.2.2.2.1).1 : Int)))) then
                      bif (decide (((Int.toNat y3.2.2.2.2.2.2.2.1) = (Prod.mk y3.2.2.2.1 y3.2.2.2.2.1).1) ∨ ((((Int.toNat y3.2.2.2.2.2.2.2.1) * 1) + (((Prod.mk y3.2.2.2.1 y3.2.2.2.2.1).1 - (Int.toNat y3.2.2.2.2.2.2.2.1)) * 1)) ≤ (List.length y3.2.2.2.2.1)))) then
                        bif (decide (((Prod.mk y3.2.2.2.1 y3.2.2.2.2.1).1 - (Int.toNat y3.2.2.2.2.2.2.2.1)) = 0)) then
                          N (TrT_2b y3.1 y3.2.1 y3.2.2.1 ((0 + ((Int.toNat y3.2.2.2.2.2.2.2.1) - 0)) + 1) (([] ++ (List.take (((Int.toNat y3.2.2.2.2.2.2.2.1) - 0) * 1) (List.drop 0 y3.2.2.2.2.1))) ++ [(PV.int IntKind.i64 y3.2.2.2.2.2.2.1)]) y3.2.2.2.2.2.1 y3.2.2.2.2.2.2.2.2.1 y3.2.2.2.2.2.2.2.2.2.1 y3.2.2.2.2.2.2.2.2.2.2.1 y3.2.2.2.2.2.2.2.2.2.2.2.1 (w64 (y3.2.2.2.2.2.2.2.2.2.2.2.2 + (1 : Int))))
                        else bif (decide ((List.length (List.take (((Prod.mk y3.2.2.2.1 y3.2.2.2.2.1).1 - (Int.toNat y3.2.2.2.2.2.2.2.1)) * 1) (List.drop ((Int.toNat y3.2.2.2.2.2.2.2.1) * 1) y3.2.2.2.2.1))) = (((Prod.mk y3.2.2.2.1 y3.2.2.2.2.1).1 - (Int.toNat y3.2.2.2.2.2.2.2.1)) * 1))) then
                          bif (decide ((((0 + ((Int.toNat y3.2.2.2.2.2.2.2.1) - 0)) + 1) = ((0 + ((Int.toNat y3.2.2.2.2.2.2.2.1) - 0)) + 1)) ∧ ((((0 + ((Int.toNat y3.2.2.2.2.2.2.2.1) - 0)) + 1) + ((Prod.mk y3.2.2.2.1 y3.2.2.2.2.1).1 - (Int.toNat y3.2.2.2.2.2.2.2.1))) ≤ big))) then
                            N (TrT_2b y3.1 y3.2.1 y3.2.2.1 (((0 + ((Int.toNat y3.2.2.2.2.2.2.2.1) - 0)) + 1) + ((Prod.mk y3.2.2.2.1 y3.2.2.2.2.1).1 - (Int.toNat y3.2.2.2.2.2.2.2.1))) ((([] ++ (List.take (((Int.toNat y3.2.2.2.2.2.2.2.1) - 0) * 1) (List.drop 0 y3.2.2.2.2.1))) ++ [(PV.int IntKind.i64 y3.2.2.2.2.2.2.1)]) ++ (List.take (((Prod.mk y3.2.2.2.1 y3.2.2.2.2.1).1 - (Int.toNat y3.2.2.2.2.2.2.2.1)) * 1) (List.drop ((Int.toNat y3.2.2.2.2.2.2.2.1) * 1) y3.2.2.2.2.1))) y3.2.2.2.2.2.1 y3.2.2.2.2.2.2.2.2.1 y3.2.2.2.2.2.2.2.2.2.1 y3.2.2.2.2.2.2.2.2.2.2.1 y3.2.2.2.2.2.2.2.2.2.2.2.1 (w64 (y3.2.2.2.2.2.2.2.2.2.2.2.2 + (1 : Int))))
                          else none
                        else none
                      else none
                    else none
                  else none
                else none
              else none
            else none
          else none
        else none) z
    else none
  else E (XrT_2b (n0, c1, i2, n3, c4, i5))
theorem BrT_2b_eq (F : FnT) (N : Q → Option (Ext × S)) (E : Ext × Q → Option (Ext × S)) (L0 : Q → Option YrT_0) (L2 : Q → Option YrT_2) (L4 : Q → Option YrT_4) (n0 : Nat) (c1 : List PV) (i2 : Int) (n3 : Nat) (c4 : List PV) (i5 : Int) (i6 : Int) (i7 : Int) (i8 : Int) (i9 : Int) (i10 : Int) : semB (callP F ErT 20) s91 (loopT [⟨0, YrT_0, L0, XLrT_0⟩, ⟨2, YrT_2, L2, XLrT_2⟩, ⟨4, YrT_4, L4, XLrT_4⟩]) 400 (blkIn a91.body 2) N E (TrT_2b n0 c1 i2 n3 c4 i5 i6 i7 i8 i9 i10) = BrT_2b F N E L0 L2 L4 n0 c1 i2 n3 c4 i5 i6 i7 i8 i9 i10 := by kernel_rfl
theorem RrT_2b_of  (n0 : Nat) (c1 : List PV) (i2 : Int) (n3 : Nat) (c4 : List PV) (i5 : Int) (i6 : Int) (i7 : Int) (i8 : Int) (i9 : Int) (i10 : Int) {r : Ext × S} (h : BrT_2b (Fn env) RrT_2 exO LrT_0 LrT_2 LrT_4 n0 c1 i2 n3 c4 i5 i6 i7 i8 i9 i10 = some r) : RrT_2 (TrT_2b n0 c1 i2 n3 c4 i5 i6 i7 i8 i9 i10) = some r :=
  lp_of ErT_ok (by kernel_rfl) (lo_cons (lpO_ok UrT) (lo_cons (lpO_ok UrT) (lo_cons (lpO_ok UrT) lo_nil))) (by kernel_rfl) ((BrT_2b_eq _ _ _ _ _ _ _ _ _ _ _ _ _ _ _ _ _).trans h)
def BrT_4a (_F : FnT) (N : Q → Option (Ext × S)) (E : Ext × Q → Option (Ext × S)) (_L0 : Q → Option YrT_0) (_L2 : Q → Option YrT_2) (_L4 : Q → Option YrT_4) (n0 : Nat) (c1 : List PV) (i2 : Int) (i3 : Int) (i4 : Int) (i5 : Int) (i6 : Int) (i7 : Int) (i8 : Int) (i9 : Int) (i10 : Int) : Option (Ext × S) :=
  bif (decide (i5 < (1 : Int))) then
    bif (decide (((0 : Int) ≤ i5) ∧ (i5 < (1 : Int)))) then
      bindO (intC IntKind.i64 ([(PV.int IntKind.i64 (-1 : Int))][((Int.toNat i5) * 1)]?)) fun x0 =>
      bif (decide (x0 < i4)) then
        N (TrT_4a n0 c1 i2 i3 i4 (w64 (i5 + (1 : Int))) i6 i7 i8 i9 i10)
      else E (XrT_4a (n0, c1, i2, i3, i4, i5, i6, i7, i8, i9, i10))
    else none
  else E (XrT_4a (n0, c1, i2, i3, i4, i5, i6, i7, i8, i9, i10))
theorem BrT_4a_eq (F : FnT) (N : Q → Option (Ext × S)) (E : Ext × Q → Option (Ext × S)) (L0 : Q → Option YrT_0) (L2 : Q → Option YrT_2) (L4 : Q → Option YrT_4) (n0 : Nat) (c1 : List PV) (i2 : Int) (i3 : Int) (i4 : Int) (i5 : Int) (i6 : Int) (i7 : Int) (i8 : Int) (i9 : Int) (i10 : Int) : semB (callP F ErT 20) s91 (loopT [⟨0, YrT_0, L0, XLrT_0⟩, ⟨2, YrT_2, L2, XLrT_2⟩, ⟨4, YrT_4, L4, XLrT_4⟩]) 400 (blkIn a91.body 4) N E (TrT_4a n0 c1 i2 i3 i4 i5 i6 i7 i8 i9 i10) = BrT_4a F N E L0 L2 L4 n0 c1 i2 i3 i4 i5 i6 i7 i8 i9 i10 := by kernel_rfl
theorem RrT_4a_of  (n0 : Nat) (c1 : List PV) (i2 : Int) (i3 : Int) (i4 : Int) (i5 : Int) (i6 : Int) (i7 : Int) (i8 : Int) (i9 : Int) (i10 : Int) {r : Ext × S} (h : BrT_4a (Fn env) RrT_4 exO LrT_0 LrT_2 LrT_4 n0 c1 i2 i3 i4 i5 i6 i7 i8 i9 i10 = some r) : RrT_4 (TrT_4a n0 c1 i2 i3 i4 i5 i6 i7 i8 i9 i10) = some r :=
  lp_of ErT_ok (by kernel_rfl) (lo_cons (lpO_ok UrT) (lo_cons (lpO_ok UrT) (lo_cons (lpO_ok UrT) lo_nil))) (by kernel_rfl) ((BrT_4a_eq _ _ _ _ _ _ _ _ _ _ _ _ _ _ _ _ _).trans h)
def BrT_4b (_F : FnT) (N : Q → Option (Ext × S)) (E : Ext × Q → Option (Ext × S)) (_L0 : Q → Option YrT_0) (_L2 : Q → Option YrT_2) (_L4 : Q → Option YrT_4) (n0 : Nat) (c1 : List PV) (i2 : Int) (n3 : Nat) (c4 : List PV) (i5 : Int) (i6 : Int) (i7 : Int) (i8 : Int) (i9 : Int) (i10 : Int) (i11 : Int) (i12 : Int) : Option (Ext × S) :=
  bif (decide (i7 < (n3 : Int))) then
    bif (decide (((0 : Int) ≤ i7) ∧ (i7 < (n3 : Int)))) then
      bindO (intC IntKind.i64 (c4[((Int.toNat i7) * 1)]?)) fun x0 =>
      bif (decide (x0 < i6)) then
        N (TrT_4b n0 c1 i2 n3 c4 i5 i6 (w64 (i7 + (1 : Int))) i8 i9 i10 i11 i12)
      else E (XrT_4b (n0, c1, i2, n3, c4, i5, i6, i7, i8, i9, i10, i11, i12))
    else none
  else E (XrT_4b (n0, c1, i2, n3, c4, i5, i6, i7, i8, i9, i10, i11, i12))
theorem BrT_4b_eq (F : FnT) (N : Q → Option (Ext × S)) (E : Ext × Q → Option (Ext × S)) (L0 : Q → Option YrT_0) (L2 : Q → Option YrT_2) (L4 : Q → Option YrT_4) (n0 : Nat) (c1 : List PV) (i2 : Int) (n3 : Nat) (c4 : List PV) (i5 : Int) (i6 : Int) (i7 : Int) (i8 : Int) (i9 : Int) (i10 : Int) (i11 : Int) (i12 : Int) : semB (callP F ErT 20) s91 (loopT [⟨0, YrT_0, L0, XLrT_0⟩, ⟨2, YrT_2, L2, XLrT_2⟩, ⟨4, YrT_4, L4, XLrT_4⟩]) 400 (blkIn a91.body 4) N E (TrT_4b n0 c1 i2 n3 c4 i5 i6 i7 i8 i9 i10 i11 i12) = BrT_4b F N E L0 L2 L4 n0 c1 i2 n3 c4 i5 i6 i7 i8 i9 i10 i11 i12 := by kernel_rfl
theorem RrT_4b_of  (n0 : Nat) (c1 : List PV) (i2 : Int) (n3 : Nat) (c4 : List PV) (i5 : Int) (i6 : Int) (i7 : Int) (i8 : Int) (i9 : Int) (i10 : Int) (i11 : Int) (i12 : Int) {r : Ext × S} (h : BrT_4b (Fn env) RrT_4 exO LrT_0 LrT_2 LrT_4 n0 c1 i2 n3 c4 i5 i6 i7 i8 i9 i10 i11 i12 = some r) : RrT_4 (TrT_4b n0 c1 i2 n3 c4 i5 i6 i7 i8 i9 i10 i11 i12) = some r :=
  lp_of ErT_ok (by kernel_rfl) (lo_cons (lpO_ok UrT) (lo_cons (lpO_ok UrT) (lo_cons (lpO_ok UrT) lo_nil))) (by kernel_rfl) ((BrT_4b_eq _ _ _ _ _ _ _ _ _ _ _ _ _ _ _ _ _ _ _).trans h)
def trT (_F : FnT) (L0 : Q → Option YrT_0) (_L2 : Q → Option YrT_2) (_L4 : Q → Option YrT_4) (p0n : Nat) (p0c : List PV) (p1 : Int) : Option ((Nat) × (List PV)) :=
  bindO (L0 (TrT_0a p0n p0c p1 (0 : Int))) fun z =>
  Sum.elim (fun _y0 =>
    some (1, [(PV.int IntKind.i64 (-1 : Int))])) (fun y1 =>
    some (y1.1, y1.2)) z
theorem trT_eq (F : FnT) (L0 : Q → Option YrT_0) (L2 : Q → Option YrT_2) (L4 : Q → Option YrT_4) (p0n : Nat) (p0c : List PV) (p1 : Int) : semF (callP F ErT 20) s91 (loopT [⟨0, YrT_0, L0, XLrT_0⟩, ⟨2, YrT_2, L2, XLrT_2⟩, ⟨4, YrT_4, L4, XLrT_4⟩]) 400 a91 [PV.list p0n p0c, PV.int IntKind.i64 p1] (fun rv => decR (RSh.one CK.list) rv.pv) = trT F L0 L2 L4 p0n p0c p1 := by kernel_rfl
noncomputable abbrev FrT (args : List PV) := Fn env 91 (RSh.one CK.list) args
theorem FrT_of  (p0n : Nat) (p0c : List PV) (p1 : Int) {res : ((Nat) × (List PV))} (h : trT (Fn env) LrT_0 LrT_2 LrT_4 p0n p0c p1 = some res) : FrT [PV.list p0n p0c, PV.int IntKind.i64 p1] = some res :=
  fn_of ErT_ok rfl rfl (lo_cons (lpO_ok UrT) (lo_cons (lpO_ok UrT) (lo_cons (lpO_ok UrT) lo_nil))) ((trT_eq _ _ _ _ _ _ _).trans h)

end Gv
