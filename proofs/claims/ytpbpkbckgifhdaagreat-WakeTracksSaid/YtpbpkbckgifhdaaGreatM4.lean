import Derived.Test.YtpbpkbckgifhdaaGreatGvEnv
import Derived.Test.YtpbpkbckgifhdaaGreatK34

/- What the functions do, round by round: Z1. -/
namespace Gv
open Go
set_option maxRecDepth 100000
def ErCts : List Entry := [.out 67 (RSh.one (CK.int .i64))]
theorem ErCts_ok : ∀ e ∈ ErCts, EntOK env e := (ent_out ent_nil)
def TrCts_0a (n0 : Nat) (c1 : List PV) (n2 : Nat) (c3 : List PV) (i4 : Int) : Q := ⟨(tm 69 [(0, (AV.p (PV.list n0 c1))), (1, (AV.p (PV.list n2 c3))), (2, (AV.p (PV.int .i64 i4))), (7, AV.nilS), (8, (AV.p (PV.int .i64 (0 : Int))))]), (mm 69 [])⟩
def TrCts_0b (n0 : Nat) (c1 : List PV) (n2 : Nat) (c3 : List PV) (i4 : Int) (n5 : Nat) (c6 : List PV) (i7 : Int) (n8 : Nat) : Q := ⟨(tm 69 [(0, (AV.p (PV.list n0 c1))), (1, (AV.p (PV.list n2 c3))), (2, (AV.p (PV.int .i64 i4))), (7, (AV.app 67 n5 1 c6)), (8, (AV.p (PV.int .i64 i7)))]), (mm 69 [(67, (Bk.buf n8))])⟩
def XrCts_0a (_y : Unit) : Ext × Q := (Ext.normal, ⟨(tm 69 [(7, AV.nilS)]), (mm 69 [])⟩)
def IrCts_0a (_q : Ext × S) : Unit := ()
def XrCts_0b (y : Nat × List PV × Nat) : Ext × Q := (Ext.normal, ⟨(tm 69 [(7, (AV.app 67 y.1 1 y.2.1))]), (mm 69 [(67, (Bk.buf y.2.2))])⟩)
def IrCts_0b (q : Ext × S) : Nat × List PV × Nat := ((pA_app1 (avT q.2 7)), (pA_app3 (avT q.2 7)), (pB_buf0 (avM q.2 67)))
abbrev YrCts_0 : Type := (Unit) ⊕ ((Nat × List PV × Nat))
def XLrCts_0 : XL YrCts_0 := .more XrCts_0a (.one XrCts_0b)
def IrCts_0 (q : Ext × S) : YrCts_0 := bif (cA (avT q.2 7) == 1) then (Sum.inl (IrCts_0a q)) else (Sum.inr (IrCts_0b q))
theorem XIrCts_0a (y) : IrCts_0 (xe (XrCts_0a y)) = (Sum.inl y) := by kernel_rfl
theorem XIrCts_0b (y) : IrCts_0 (xe (XrCts_0b y)) = (Sum.inr y) := by kernel_rfl
theorem XIrCts_0 (y) : IrCts_0 (xe (XLrCts_0.fn y)) = y := (match y with | .inl y => XIrCts_0a y | .inr y => XIrCts_0b y)
noncomputable abbrev LrCts_0 : Q → Option YrCts_0 := lpO env a25.body 0 XLrCts_0
noncomputable abbrev RrCts_0 : Q → Option (Ext × S) := lpR env a25.body 0
theorem LrCts_0a_of {s y} (h : RrCts_0 s = exO (XrCts_0a y)) : LrCts_0 s = some (Sum.inl y) := lpO_of IrCts_0 XIrCts_0 (y := (Sum.inl y)) h
theorem LrCts_0b_of {s y} (h : RrCts_0 s = exO (XrCts_0b y)) : LrCts_0 s = some (Sum.inr y) := lpO_of IrCts_0 XIrCts_0 (y := (Sum.inr y)) h
def TrCts_2a (n0 : Nat) (c1 : List PV) (n2 : Nat) (c3 : List PV) (i4 : Int) : Q := ⟨(tm 69 [(0, (AV.p (PV.list n0 c1))), (1, (AV.p (PV.list n2 c3))), (2, (AV.p (PV.int .i64 i4))), (7, AV.nilS), (8, (AV.p (PV.int .i64 (0 : Int)))), (9, AV.nilS), (10, (AV.p (PV.int .i64 (0 : Int))))]), (mm 69 [])⟩
def TrCts_2b (n0 : Nat) (c1 : List PV) (n2 : Nat) (c3 : List PV) (i4 : Int) (n5 : Nat) (c6 : List PV) (i7 : Int) (n8 : Nat) : Q := ⟨(tm 69 [(0, (AV.p (PV.list n0 c1))), (1, (AV.p (PV.list n2 c3))), (2, (AV.p (PV.int .i64 i4))), (7, AV.nilS), (8, (AV.p (PV.int .i64 (0 : Int)))), (9, (AV.app 63 n5 1 c6)), (10, (AV.p (PV.int .i64 i7)))]), (mm 69 [(63, (Bk.buf n8))])⟩
def TrCts_2c (n0 : Nat) (c1 : List PV) (n2 : Nat) (c3 : List PV) (i4 : Int) (n5 : Nat) (c6 : List PV) (i7 : Int) (n8 : Nat) : Q := ⟨(tm 69 [(0, (AV.p (PV.list n0 c1))), (1, (AV.p (PV.list n2 c3))), (2, (AV.p (PV.int .i64 i4))), (7, (AV.app 67 n5 1 c6)), (8, (AV.p (PV.int .i64 i7))), (9, AV.nilS), (10, (AV.p (PV.int .i64 (0 : Int))))]), (mm 69 [(67, (Bk.buf n8))])⟩
def TrCts_2d (n0 : Nat) (c1 : List PV) (n2 : Nat) (c3 : List PV) (i4 : Int) (n5 : Nat) (c6 : List PV) (i7 : Int) (n8 : Nat) (c9 : List PV) (i10 : Int) (n11 n12 : Nat) : Q := ⟨(tm 69 [(0, (AV.p (PV.list n0 c1))), (1, (AV.p (PV.list n2 c3))), (2, (AV.p (PV.int .i64 i4))), (7, (AV.app 67 n5 1 c6)), (8, (AV.p (PV.int .i64 i7))), (9, (AV.app 63 n8 1 c9)), (10, (AV.p (PV.int .i64 i10)))]), (mm 69 [(63, (Bk.buf n11)), (67, (Bk.buf n12))])⟩
def XrCts_2a (y : Nat × List PV × Nat × List PV × Int) : Ext × Q := (Ext.normal, ⟨(tm 69 [(0, (AV.p (PV.list y.1 y.2.1))), (1, (AV.p (PV.list y.2.2.1 y.2.2.2.1))), (2, (AV.p (PV.int .i64 y.2.2.2.2))), (7, AV.nilS), (8, (AV.p (PV.int .i64 (0 : Int)))), (9, AV.nilS)]), (mm 69 [])⟩)
def IrCts_2a (q : Ext × S) : Nat × List PV × Nat × List PV × Int := ((pP_list0 (pA_p (avT q.2 0))), (pP_list1 (pA_p (avT q.2 0))), (pP_list0 (pA_p (avT q.2 1))), (pP_list1 (pA_p (avT q.2 1))), (pP_int1 (pA_p (avT q.2 2))))
def XrCts_2b (y : Nat × List PV × Nat × List PV × Int × Nat × List PV × Nat) : Ext × Q := (Ext.normal, ⟨(tm 69 [(0, (AV.p (PV.list y.1 y.2.1))), (1, (AV.p (PV.list y.2.2.1 y.2.2.2.1))), (2, (AV.p (PV.int .i64 y.2.2.2.2.1))), (7, AV.nilS), (8, (AV.p (PV.int .i64 (0 : Int)))), (9, (AV.app 63 y.2.2.2.2.2.1 1 y.2.2.2.2.2.2.1))]), (mm 69 [(63, (Bk.buf y.2.2.2.2.2.2.2))])⟩)
def IrCts_2b (q : Ext × S) : Nat × List PV × Nat × List PV × Int × Nat × List PV × Nat := ((pP_list0 (pA_p (avT q.2 0))), (pP_list1 (pA_p (avT q.2 0))), (pP_list0 (pA_p (avT q.2 1))), (pP_list1 (pA_p (avT q.2 1))), (pP_int1 (pA_p (avT q.2 2))), (pA_app1 (avT q.2 9)), (pA_app3 (avT q.2 9)), (pB_buf0 (avM q.2 63)))
def XrCts_2c (y : Nat × List PV × Nat × List PV × Int × Nat × List PV × Int × Nat) : Ext × Q := (Ext.normal, ⟨(tm 69 [(0, (AV.p (PV.list y.1 y.2.1))), (1, (AV.p (PV.list y.2.2.1 y.2.2.2.1))), (2, (AV.p (PV.int .i64 y.2.2.2.2.1))), (7, (AV.app 67 y.2.2.2.2.2.1 1 y.2.2.2.2.2.2.1)), (8, (AV.p (PV.int .i64 y.2.2.2.2.2.2.2.1))), (9, AV.nilS)]), (mm 69 [(67, (Bk.buf y.2.2.2.2.2.2.2.2))])⟩)
def IrCts_2c (q : Ext × S) : Nat × List PV × Nat × List PV × Int × Nat × List PV × Int × Nat := ((pP_list0 (pA_p (avT q.2 0))), (pP_list1 (pA_p (avT q.2 0))), (pP_list0 (pA_p (avT q.2 1))), (pP_list1 (pA_p (avT q.2 1))), (pP_int1 (pA_p (avT q.2 2))), (pA_app1 (avT q.2 7)), (pA_app3 (avT q.2 7)), (pP_int1 (pA_p (avT q.2 8))), (pB_buf0 (avM q.2 67)))
def XrCts_2d (y : Nat × List PV × Nat × List PV × Int × Nat × List PV × Int × Nat × List PV × Nat × Nat) : Ext × Q := (Ext.normal, ⟨(tm 69 [(0, (AV.p (PV.list y.1 y.2.1))), (1, (AV.p (PV.list y.2.2.1 y.2.2.2.1))), (2, (AV.p (PV.int .i64 y.2.2.2.2.1))), (7, (AV.app 67 y.2.2.2.2.2.1 1 y.2.2.2.2.2.2.1)), (8, (AV.p (PV.int .i64 y.2.2.2.2.2.2.2.1))), (9, (AV.app 63 y.2.2.2.2.2.2.2.2.1 1 y.2.2.2.2.2.2.2.2.2.1))]), (mm 69 [(63, (Bk.buf y.2.2.2.2.2.2.2.2.2.2.1)), (67, (Bk.buf y.2.2.2.2.2.2.2.2.2.2.2))])⟩)
def IrCts_2d (q : Ext × S) : Nat × List PV × Nat × List PV × Int × Nat × List PV × Int × Nat × List PV × Nat × Nat := ((pP_list0 (pA_p (avT q.2 0))), (pP_list1 (pA_p (avT q.2 0))), (pP_list0 (pA_p (avT q.2 1))), (pP_list1 (pA_p (avT q.2 1))), (pP_int1 (pA_p (avT q.2 2))), (pA_app1 (avT q.2 7)), (pA_app3 (avT q.2 7)), (pP_int1 (pA_p (avT q.2 8))), (pA_app1 (avT q.2 9)), (pA_app3 (avT q.2 9)), (pB_buf0 (avM q.2 63)), (pB_buf0 (avM q.2 67)))
abbrev YrCts_2 : Type := (Nat × List PV × Nat × List PV × Int) ⊕ ((Nat × List PV × Nat × List PV × Int × Nat × List PV × Nat) ⊕ ((Nat × List PV × Nat × List PV × Int × Nat × List PV × Int × Nat) ⊕ ((Nat × List PV × Nat × List PV × Int × Nat × List PV × Int × Nat × List PV × Nat × Nat))))
def XLrCts_2 : XL YrCts_2 := .more XrCts_2a (.more XrCts_2b (.more XrCts_2c (.one XrCts_2d)))
def IrCts_2 (q : Ext × S) : YrCts_2 := bif (cA (avT q.2 9) == 1) && (cA (avT q.2 7) == 1) then (Sum.inl (IrCts_2a q)) else bif (cA (avT q.2 7) == 1) then (Sum.inr (Sum.inl (IrCts_2b q))) else bif (cA (avT q.2 9) == 1) then (Sum.inr (Sum.inr (Sum.inl (IrCts_2c q)))) else (Sum.inr (Sum.inr (Sum.inr (IrCts_2d q))))
theorem XIrCts_2a (y) : IrCts_2 (xe (XrCts_2a y)) = (Sum.inl y) := by kernel_rfl
theorem XIrCts_2b (y) : IrCts_2 (xe (XrCts_2b y)) = (Sum.inr (Sum.inl y)) := by kernel_rfl
theorem XIrCts_2c (y) : IrCts_2 (xe (XrCts_2c y)) = (Sum.inr (Sum.inr (Sum.inl y))) := by kernel_rfl
theorem XIrCts_2d (y) : IrCts_2 (xe (XrCts_2d y)) = (Sum.inr (Sum.inr (Sum.inr y))) := by kernel_rfl
theorem XIrCts_2 (y) : IrCts_2 (xe (XLrCts_2.fn y)) = y := (match y with | .inl y => XIrCts_2a y | .inr y => (match y with | .inl y => XIrCts_2b y | .inr y => (match y with | .inl y => XIrCts_2c y | .inr y => XIrCts_2d y)))
noncomputable abbrev LrCts_2 : Q → Option YrCts_2 := lpO env a25.body 2 XLrCts_2
noncomputable abbrev RrCts_2 : Q → Option (Ext × S) := lpR env a25.body 2
theorem LrCts_2b_of {s y} (h : RrCts_2 s = exO (XrCts_2b y)) : LrCts_2 s = some (Sum.inr (Sum.inl y)) := lpO_of IrCts_2 XIrCts_2 (y := (Sum.inr (Sum.inl y))) h
theorem LrCts_2d_of {s y} (h : RrCts_2 s = exO (XrCts_2d y)) : LrCts_2 s = some (Sum.inr (Sum.inr (Sum.inr y))) := lpO_of IrCts_2 XIrCts_2 (y := (Sum.inr (Sum.inr (Sum.inr y)))) h
theorem UrCts : uniq ((blocksOf a25.body).map (·.1)) = true := by kernel_rfl
def BrCts_0a (_F : FnT) (N : QO) (E : EO) (_L0 : QQ YrCts_0) (L2 : QQ YrCts_2) (n0 : Nat) (c1 : List PV) (n2 : Nat) (c3 : List PV) (i4 : Int) : OX :=
 bif (decide ((0 : Int) < (w64 ((n0 : Int) + (n2 : Int))))) then
  bindO (L2 (TrCts_2a n0 c1 n2 c3 i4)) fun z =>
  Sum.elim (fun y0 =>
   N (TrCts_0b y0.1 y0.2.1 y0.2.2.1 y0.2.2.2.1 y0.2.2.2.2 1 [(PV.list 0 [])] (1 : Int) 1)) (fun z0 => Sum.elim (fun y1 =>
   N (TrCts_0b y1.1 y1.2.1 y1.2.2.1 y1.2.2.2.1 y1.2.2.2.2.1 1 [(PV.list y1.2.2.2.2.2.1 y1.2.2.2.2.2.2.1)] (1 : Int) 1)) (fun z1 => Sum.elim (fun y2 =>
   bif (decide ((y2.2.2.2.2.2.2.2.2 = y2.2.2.2.2.2.1) ∧ ((y2.2.2.2.2.2.1 + 1) ≤ big))) then
    N (TrCts_0b y2.1 y2.2.1 y2.2.2.1 y2.2.2.2.1 y2.2.2.2.2.1 (y2.2.2.2.2.2.1 + 1) (y2.2.2.2.2.2.2.1 ++ [(PV.list 0 [])]) (w64 (y2.2.2.2.2.2.2.2.1 + (1 : Int))) (y2.2.2.2.2.2.1 + 1))
   else none) (fun y3 =>
   bif (decide ((y3.2.2.2.2.2.2.2.2.2.2.2 = y3.2.2.2.2.2.1) ∧ ((y3.2.2.2.2.2.1 + 1) ≤ big))) then
    N (TrCts_0b y3.1 y3.2.1 y3.2.2.1 y3.2.2.2.1 y3.2.2.2.2.1 (y3.2.2.2.2.2.1 + 1) (y3.2.2.2.2.2.2.1 ++ [(PV.list y3.2.2.2.2.2.2.2.2.1 y3.2.2.2.2.2.2.2.2.2.1)]) (w64 (y3.2.2.2.2.2.2.2.1 + (1 : Int))) (y3.2.2.2.2.2.1 + 1))
   else none) z1) z0) z
 else E (XrCts_0a ())
abbrev qM4_1 (L0 : QQ YrCts_0) (L2 : QQ YrCts_2) : List LoopO := [⟨0, YrCts_0, L0, XLrCts_0⟩, ⟨2, YrCts_2, L2, XLrCts_2⟩]
theorem BrCts_0a_eq (F N E L0 L2 n0 c1 n2 c3 i4) : semB (callP F ErCts 20) s25 (loopT (qM4_1 L0 L2)) 400 (blkIn a25.body 0) N E (TrCts_0a n0 c1 n2 c3 i4) = BrCts_0a F N E L0 L2 n0 c1 n2 c3 i4 := by kernel_rfl
theorem oqM4_1 : ∀ o ∈ qM4_1 LrCts_0 LrCts_2, LoopOOK env a25.body o := lo_cons (lpO_ok UrCts) (lo_cons (lpO_ok UrCts) lo_nil)
theorem RrCts_0a_of (n0 c1 n2 c3 i4) {r} (h : BrCts_0a (Fn env) RrCts_0 exO LrCts_0 LrCts_2 n0 c1 n2 c3 i4 = some r) : RrCts_0 (TrCts_0a n0 c1 n2 c3 i4) = some r :=
 lp_of ErCts_ok (by kernel_rfl) oqM4_1 (by kernel_rfl) ((BrCts_0a_eq _ _ _ _ _ _ _ _ _ _).trans h)
def BrCts_0b (_F : FnT) (N : QO) (E : EO) (_L0 : QQ YrCts_0) (L2 : QQ YrCts_2) (n0 : Nat) (c1 : List PV) (n2 : Nat) (c3 : List PV) (i4 : Int) (n5 : Nat) (c6 : List PV) (i7 : Int) (n8 : Nat) : OX :=
 bif (decide (i7 < (w64 ((n0 : Int) + (n2 : Int))))) then
  bindO (L2 (TrCts_2c n0 c1 n2 c3 i4 n5 c6 i7 n8)) fun z =>
  Sum.elim (fun y0 =>
   N (TrCts_0b y0.1 y0.2.1 y0.2.2.1 y0.2.2.2.1 y0.2.2.2.2 1 [(PV.list 0 [])] (1 : Int) 1)) (fun z0 => Sum.elim (fun y1 =>
   N (TrCts_0b y1.1 y1.2.1 y1.2.2.1 y1.2.2.2.1 y1.2.2.2.2.1 1 [(PV.list y1.2.2.2.2.2.1 y1.2.2.2.2.2.2.1)] (1 : Int) 1)) (fun z1 => Sum.elim (fun y2 =>
   bif (decide ((y2.2.2.2.2.2.2.2.2 = y2.2.2.2.2.2.1) ∧ ((y2.2.2.2.2.2.1 + 1) ≤ big))) then
    N (TrCts_0b y2.1 y2.2.1 y2.2.2.1 y2.2.2.2.1 y2.2.2.2.2.1 (y2.2.2.2.2.2.1 + 1) (y2.2.2.2.2.2.2.1 ++ [(PV.list 0 [])]) (w64 (y2.2.2.2.2.2.2.2.1 + (1 : Int))) (y2.2.2.2.2.2.1 + 1))
   else none) (fun y3 =>
   bif (decide ((y3.2.2.2.2.2.2.2.2.2.2.2 = y3.2.2.2.2.2.1) ∧ ((y3.2.2.2.2.2.1 + 1) ≤ big))) then
    N (TrCts_0b y3.1 y3.2.1 y3.2.2.1 y3.2.2.2.1 y3.2.2.2.2.1 (y3.2.2.2.2.2.1 + 1) (y3.2.2.2.2.2.2.1 ++ [(PV.list y3.2.2.2.2.2.2.2.2.1 y3.2.2.2.2.2.2.2.2.2.1)]) (w64 (y3.2.2.2.2.2.2.2.1 + (1 : Int))) (y3.2.2.2.2.2.1 + 1))
   else none) z1) z0) z
 else E (XrCts_0b (n5, c6, n8))
theorem BrCts_0b_eq (F N E L0 L2 n0 c1 n2 c3 i4 n5 c6 i7 n8) : semB (callP F ErCts 20) s25 (loopT (qM4_1 L0 L2)) 400 (blkIn a25.body 0) N E (TrCts_0b n0 c1 n2 c3 i4 n5 c6 i7 n8) = BrCts_0b F N E L0 L2 n0 c1 n2 c3 i4 n5 c6 i7 n8 := by kernel_rfl
theorem RrCts_0b_of (n0 c1 n2 c3 i4 n5 c6 i7 n8) {r} (h : BrCts_0b (Fn env) RrCts_0 exO LrCts_0 LrCts_2 n0 c1 n2 c3 i4 n5 c6 i7 n8 = some r) : RrCts_0 (TrCts_0b n0 c1 n2 c3 i4 n5 c6 i7 n8) = some r :=
 lp_of ErCts_ok (by kernel_rfl) oqM4_1 (by kernel_rfl) ((BrCts_0b_eq _ _ _ _ _ _ _ _ _ _ _ _ _ _).trans h)
def BrCts_2a (F : FnT) (N : QO) (E : EO) (_L0 : QQ YrCts_0) (_L2 : QQ YrCts_2) (n0 : Nat) (c1 : List PV) (n2 : Nat) (c3 : List PV) (i4 : Int) : OX :=
 bif (decide ((0 : Int) < (w64 ((n0 : Int) + (n2 : Int))))) then
  bif (decide ((0 : Int) < (n0 : Int))) then
   bif (decide ((0 : Int) < (n2 : Int))) then
    bif (decide (((0 : Int) ≤ (0 : Int)) ∧ ((0 : Int) < (n0 : Int)))) then
     bindO (intC .i64 (c1[0]?)) fun x0 =>
     bindO (intC .i64 (c1[1]?)) fun x1 =>
     bindO (intC .i64 (c1[2]?)) fun x2 =>
     bif (decide (((0 : Int) ≤ (0 : Int)) ∧ ((0 : Int) < (n2 : Int)))) then
      bindO (intC .i64 (c3[0]?)) fun x3 =>
      bindO (intC .i64 (c3[1]?)) fun x4 =>
      bindO (intC .i64 (c3[2]?)) fun x5 =>
      bindO (F 67 (RSh.one (CK.int .i64)) [(PV.agg [(PV.int .i64 x0), (PV.int .i64 x1), (PV.int .i64 x2)]), (PV.agg [(PV.int .i64 x3), (PV.int .i64 x4), (PV.int .i64 x5)])]) fun (y6 : (Int)) =>
      N (TrCts_2b n0 c1 n2 c3 i4 1 [(PV.int .i64 y6)] (1 : Int) 1)
     else none
    else none
   else bif (decide ((0 : Int) < (n0 : Int))) then
    N (TrCts_2b n0 c1 n2 c3 i4 1 [(PV.int .i64 i4)] (1 : Int) 1)
   else bif (decide ((0 : Int) < (n2 : Int))) then
    N (TrCts_2b n0 c1 n2 c3 i4 1 [(PV.int .i64 i4)] (1 : Int) 1)
   else N (TrCts_2b n0 c1 n2 c3 i4 1 [(PV.int .i64 (0 : Int))] (1 : Int) 1)
  else bif (decide ((0 : Int) < (n0 : Int))) then
   N (TrCts_2b n0 c1 n2 c3 i4 1 [(PV.int .i64 i4)] (1 : Int) 1)
  else bif (decide ((0 : Int) < (n2 : Int))) then
   N (TrCts_2b n0 c1 n2 c3 i4 1 [(PV.int .i64 i4)] (1 : Int) 1)
  else N (TrCts_2b n0 c1 n2 c3 i4 1 [(PV.int .i64 (0 : Int))] (1 : Int) 1)
 else E (XrCts_2a (n0, c1, n2, c3, i4))
theorem BrCts_2a_eq (F N E L0 L2 n0 c1 n2 c3 i4) : semB (callP F ErCts 20) s25 (loopT (qM4_1 L0 L2)) 400 (blkIn a25.body 2) N E (TrCts_2a n0 c1 n2 c3 i4) = BrCts_2a F N E L0 L2 n0 c1 n2 c3 i4 := by kernel_rfl
theorem RrCts_2a_of (n0 c1 n2 c3 i4) {r} (h : BrCts_2a (Fn env) RrCts_2 exO LrCts_0 LrCts_2 n0 c1 n2 c3 i4 = some r) : RrCts_2 (TrCts_2a n0 c1 n2 c3 i4) = some r :=
 lp_of ErCts_ok (by kernel_rfl) oqM4_1 (by kernel_rfl) ((BrCts_2a_eq _ _ _ _ _ _ _ _ _ _).trans h)
def BrCts_2b (F : FnT) (N : QO) (E : EO) (_L0 : QQ YrCts_0) (_L2 : QQ YrCts_2) (n0 : Nat) (c1 : List PV) (n2 : Nat) (c3 : List PV) (i4 : Int) (n5 : Nat) (c6 : List PV) (i7 : Int) (n8 : Nat) : OX :=
 bif (decide (i7 < (w64 ((n0 : Int) + (n2 : Int))))) then
  bif (decide ((0 : Int) < (n0 : Int))) then
   bif (decide (i7 < (n2 : Int))) then
    bif (decide (((0 : Int) ≤ (0 : Int)) ∧ ((0 : Int) < (n0 : Int)))) then
     bindO (intC .i64 (c1[0]?)) fun x0 =>
     bindO (intC .i64 (c1[1]?)) fun x1 =>
     bindO (intC .i64 (c1[2]?)) fun x2 =>
     bif (decide (((0 : Int) ≤ i7) ∧ (i7 < (n2 : Int)))) then
      bindO (intC .i64 (c3[((Int.toNat i7) * 3)]?)) fun x3 =>
      bindO (intC .i64 (c3[(((Int.toNat i7) * 3) + 1)]?)) fun x4 =>
      bindO (intC .i64 (c3[((((Int.toNat i7) * 3) + 1) + 1)]?)) fun x5 =>
      bindO (F 67 (RSh.one (CK.int .i64)) [(PV.agg [(PV.int .i64 x0), (PV.int .i64 x1), (PV.int .i64 x2)]), (PV.agg [(PV.int .i64 x3), (PV.int .i64 x4), (PV.int .i64 x5)])]) fun (y6 : (Int)) =>
      bif (decide ((n8 = n5) ∧ ((n5 + 1) ≤ big))) then
       N (TrCts_2b n0 c1 n2 c3 i4 (n5 + 1) (c6 ++ [(PV.int .i64 y6)]) (w64 (i7 + (1 : Int))) (n5 + 1))
      else none
     else none
    else none
   else bif (decide ((0 : Int) < (n0 : Int))) then
    bif (decide ((n8 = n5) ∧ ((n5 + 1) ≤ big))) then
     N (TrCts_2b n0 c1 n2 c3 i4 (n5 + 1) (c6 ++ [(PV.int .i64 i4)]) (w64 (i7 + (1 : Int))) (n5 + 1))
    else none
   else bif (decide (i7 < (n2 : Int))) then
    bif (decide ((n8 = n5) ∧ ((n5 + 1) ≤ big))) then
     N (TrCts_2b n0 c1 n2 c3 i4 (n5 + 1) (c6 ++ [(PV.int .i64 i4)]) (w64 (i7 + (1 : Int))) (n5 + 1))
    else none
   else bif (decide ((n8 = n5) ∧ ((n5 + 1) ≤ big))) then
    N (TrCts_2b n0 c1 n2 c3 i4 (n5 + 1) (c6 ++ [(PV.int .i64 (0 : Int))]) (w64 (i7 + (1 : Int))) (n5 + 1))
   else none
  else bif (decide ((0 : Int) < (n0 : Int))) then
   bif (decide ((n8 = n5) ∧ ((n5 + 1) ≤ big))) then
    N (TrCts_2b n0 c1 n2 c3 i4 (n5 + 1) (c6 ++ [(PV.int .i64 i4)]) (w64 (i7 + (1 : Int))) (n5 + 1))
   else none
  else bif (decide (i7 < (n2 : Int))) then
   bif (decide ((n8 = n5) ∧ ((n5 + 1) ≤ big))) then
    N (TrCts_2b n0 c1 n2 c3 i4 (n5 + 1) (c6 ++ [(PV.int .i64 i4)]) (w64 (i7 + (1 : Int))) (n5 + 1))
   else none
  else bif (decide ((n8 = n5) ∧ ((n5 + 1) ≤ big))) then
   N (TrCts_2b n0 c1 n2 c3 i4 (n5 + 1) (c6 ++ [(PV.int .i64 (0 : Int))]) (w64 (i7 + (1 : Int))) (n5 + 1))
  else none
 else E (XrCts_2b (n0, c1, n2, c3, i4, n5, c6, n8))
theorem BrCts_2b_eq (F N E L0 L2 n0 c1 n2 c3 i4 n5 c6 i7 n8) : semB (callP F ErCts 20) s25 (loopT (qM4_1 L0 L2)) 400 (blkIn a25.body 2) N E (TrCts_2b n0 c1 n2 c3 i4 n5 c6 i7 n8) = BrCts_2b F N E L0 L2 n0 c1 n2 c3 i4 n5 c6 i7 n8 := by kernel_rfl
theorem RrCts_2b_of (n0 c1 n2 c3 i4 n5 c6 i7 n8) {r} (h : BrCts_2b (Fn env) RrCts_2 exO LrCts_0 LrCts_2 n0 c1 n2 c3 i4 n5 c6 i7 n8 = some r) : RrCts_2 (TrCts_2b n0 c1 n2 c3 i4 n5 c6 i7 n8) = some r :=
 lp_of ErCts_ok (by kernel_rfl) oqM4_1 (by kernel_rfl) ((BrCts_2b_eq _ _ _ _ _ _ _ _ _ _ _ _ _ _).trans h)
def BrCts_2c (F : FnT) (N : QO) (E : EO) (_L0 : QQ YrCts_0) (_L2 : QQ YrCts_2) (n0 : Nat) (c1 : List PV) (n2 : Nat) (c3 : List PV) (i4 : Int) (n5 : Nat) (c6 : List PV) (i7 : Int) (n8 : Nat) : OX :=
 bif (decide ((0 : Int) < (w64 ((n0 : Int) + (n2 : Int))))) then
  bif (decide (i7 < (n0 : Int))) then
   bif (decide ((0 : Int) < (n2 : Int))) then
    bif (decide (((0 : Int) ≤ i7) ∧ (i7 < (n0 : Int)))) then
     bindO (intC .i64 (c1[((Int.toNat i7) * 3)]?)) fun x0 =>
     bindO (intC .i64 (c1[(((Int.toNat i7) * 3) + 1)]?)) fun x1 =>
     bindO (intC .i64 (c1[((((Int.toNat i7) * 3) + 1) + 1)]?)) fun x2 =>
     bif (decide (((0 : Int) ≤ (0 : Int)) ∧ ((0 : Int) < (n2 : Int)))) then
      bindO (intC .i64 (c3[0]?)) fun x3 =>
      bindO (intC .i64 (c3[1]?)) fun x4 =>
      bindO (intC .i64 (c3[2]?)) fun x5 =>
      bindO (F 67 (RSh.one (CK.int .i64)) [(PV.agg [(PV.int .i64 x0), (PV.int .i64 x1), (PV.int .i64 x2)]), (PV.agg [(PV.int .i64 x3), (PV.int .i64 x4), (PV.int .i64 x5)])]) fun (y6 : (Int)) =>
      N (TrCts_2d n0 c1 n2 c3 i4 n5 c6 i7 1 [(PV.int .i64 y6)] (1 : Int) 1 n8)
     else none
    else none
   else bif (decide (i7 < (n0 : Int))) then
    N (TrCts_2d n0 c1 n2 c3 i4 n5 c6 i7 1 [(PV.int .i64 i4)] (1 : Int) 1 n8)
   else bif (decide ((0 : Int) < (n2 : Int))) then
    N (TrCts_2d n0 c1 n2 c3 i4 n5 c6 i7 1 [(PV.int .i64 i4)] (1 : Int) 1 n8)
   else N (TrCts_2d n0 c1 n2 c3 i4 n5 c6 i7 1 [(PV.int .i64 (0 : Int))] (1 : Int) 1 n8)
  else bif (decide (i7 < (n0 : Int))) then
   N (TrCts_2d n0 c1 n2 c3 i4 n5 c6 i7 1 [(PV.int .i64 i4)] (1 : Int) 1 n8)
  else bif (decide ((0 : Int) < (n2 : Int))) then
   N (TrCts_2d n0 c1 n2 c3 i4 n5 c6 i7 1 [(PV.int .i64 i4)] (1 : Int) 1 n8)
  else N (TrCts_2d n0 c1 n2 c3 i4 n5 c6 i7 1 [(PV.int .i64 (0 : Int))] (1 : Int) 1 n8)
 else E (XrCts_2c (n0, c1, n2, c3, i4, n5, c6, i7, n8))
theorem BrCts_2c_eq (F N E L0 L2 n0 c1 n2 c3 i4 n5 c6 i7 n8) : semB (callP F ErCts 20) s25 (loopT (qM4_1 L0 L2)) 400 (blkIn a25.body 2) N E (TrCts_2c n0 c1 n2 c3 i4 n5 c6 i7 n8) = BrCts_2c F N E L0 L2 n0 c1 n2 c3 i4 n5 c6 i7 n8 := by kernel_rfl
theorem RrCts_2c_of (n0 c1 n2 c3 i4 n5 c6 i7 n8) {r} (h : BrCts_2c (Fn env) RrCts_2 exO LrCts_0 LrCts_2 n0 c1 n2 c3 i4 n5 c6 i7 n8 = some r) : RrCts_2 (TrCts_2c n0 c1 n2 c3 i4 n5 c6 i7 n8) = some r :=
 lp_of ErCts_ok (by kernel_rfl) oqM4_1 (by kernel_rfl) ((BrCts_2c_eq _ _ _ _ _ _ _ _ _ _ _ _ _ _).trans h)
def BrCts_2d (F : FnT) (N : QO) (E : EO) (_L0 : QQ YrCts_0) (_L2 : QQ YrCts_2) (n0 : Nat) (c1 : List PV) (n2 : Nat) (c3 : List PV) (i4 : Int) (n5 : Nat) (c6 : List PV) (i7 : Int) (n8 : Nat) (c9 : List PV) (i10 : Int) (n11 n12 : Nat) : OX :=
 bif (decide (i10 < (w64 ((n0 : Int) + (n2 : Int))))) then
  bif (decide (i7 < (n0 : Int))) then
   bif (decide (i10 < (n2 : Int))) then
    bif (decide (((0 : Int) ≤ i7) ∧ (i7 < (n0 : Int)))) then
     bindO (intC .i64 (c1[((Int.toNat i7) * 3)]?)) fun x0 =>
     bindO (intC .i64 (c1[(((Int.toNat i7) * 3) + 1)]?)) fun x1 =>
     bindO (intC .i64 (c1[((((Int.toNat i7) * 3) + 1) + 1)]?)) fun x2 =>
     bif (decide (((0 : Int) ≤ i10) ∧ (i10 < (n2 : Int)))) then
      bindO (intC .i64 (c3[((Int.toNat i10) * 3)]?)) fun x3 =>
      bindO (intC .i64 (c3[(((Int.toNat i10) * 3) + 1)]?)) fun x4 =>
      bindO (intC .i64 (c3[((((Int.toNat i10) * 3) + 1) + 1)]?)) fun x5 =>
      bindO (F 67 (RSh.one (CK.int .i64)) [(PV.agg [(PV.int .i64 x0), (PV.int .i64 x1), (PV.int .i64 x2)]), (PV.agg [(PV.int .i64 x3), (PV.int .i64 x4), (PV.int .i64 x5)])]) fun (y6 : (Int)) =>
      bif (decide ((n11 = n8) ∧ ((n8 + 1) ≤ big))) then
       N (TrCts_2d n0 c1 n2 c3 i4 n5 c6 i7 (n8 + 1) (c9 ++ [(PV.int .i64 y6)]) (w64 (i10 + (1 : Int))) (n8 + 1) n12)
      else none
     else none
    else none
   else bif (decide (i7 < (n0 : Int))) then
    bif (decide ((n11 = n8) ∧ ((n8 + 1) ≤ big))) then
     N (TrCts_2d n0 c1 n2 c3 i4 n5 c6 i7 (n8 + 1) (c9 ++ [(PV.int .i64 i4)]) (w64 (i10 + (1 : Int))) (n8 + 1) n12)
    else none
   else bif (decide (i10 < (n2 : Int))) then
    bif (decide ((n11 = n8) ∧ ((n8 + 1) ≤ big))) then
     N (TrCts_2d n0 c1 n2 c3 i4 n5 c6 i7 (n8 + 1) (c9 ++ [(PV.int .i64 i4)]) (w64 (i10 + (1 : Int))) (n8 + 1) n12)
    else none
   else bif (decide ((n11 = n8) ∧ ((n8 + 1) ≤ big))) then
    N (TrCts_2d n0 c1 n2 c3 i4 n5 c6 i7 (n8 + 1) (c9 ++ [(PV.int .i64 (0 : Int))]) (w64 (i10 + (1 : Int))) (n8 + 1) n12)
   else none
  else bif (decide (i7 < (n0 : Int))) then
   bif (decide ((n11 = n8) ∧ ((n8 + 1) ≤ big))) then
    N (TrCts_2d n0 c1 n2 c3 i4 n5 c6 i7 (n8 + 1) (c9 ++ [(PV.int .i64 i4)]) (w64 (i10 + (1 : Int))) (n8 + 1) n12)
   else none
  else bif (decide (i10 < (n2 : Int))) then
   bif (decide ((n11 = n8) ∧ ((n8 + 1) ≤ big))) then
    N (TrCts_2d n0 c1 n2 c3 i4 n5 c6 i7 (n8 + 1) (c9 ++ [(PV.int .i64 i4)]) (w64 (i10 + (1 : Int))) (n8 + 1) n12)
   else none
  else bif (decide ((n11 = n8) ∧ ((n8 + 1) ≤ big))) then
   N (TrCts_2d n0 c1 n2 c3 i4 n5 c6 i7 (n8 + 1) (c9 ++ [(PV.int .i64 (0 : Int))]) (w64 (i10 + (1 : Int))) (n8 + 1) n12)
  else none
 else E (XrCts_2d (n0, c1, n2, c3, i4, n5, c6, i7, n8, c9, n11, n12))
theorem BrCts_2d_eq (F N E L0 L2 n0 c1 n2 c3 i4 n5 c6 i7 n8 c9 i10 n11 n12) : semB (callP F ErCts 20) s25 (loopT (qM4_1 L0 L2)) 400 (blkIn a25.body 2) N E (TrCts_2d n0 c1 n2 c3 i4 n5 c6 i7 n8 c9 i10 n11 n12) = BrCts_2d F N E L0 L2 n0 c1 n2 c3 i4 n5 c6 i7 n8 c9 i10 n11 n12 := by kernel_rfl
theorem RrCts_2d_of (n0 c1 n2 c3 i4 n5 c6 i7 n8 c9 i10 n11 n12) {r} (h : BrCts_2d (Fn env) RrCts_2 exO LrCts_0 LrCts_2 n0 c1 n2 c3 i4 n5 c6 i7 n8 c9 i10 n11 n12 = some r) : RrCts_2 (TrCts_2d n0 c1 n2 c3 i4 n5 c6 i7 n8 c9 i10 n11 n12) = some r :=
 lp_of ErCts_ok (by kernel_rfl) oqM4_1 (by kernel_rfl) ((BrCts_2d_eq _ _ _ _ _ _ _ _ _ _ _ _ _ _ _ _ _ _).trans h)
def trCts (_F : FnT) (L0 : QQ YrCts_0) (_L2 : QQ YrCts_2) (p0n : Nat) (p0c : List PV) (p1n : Nat) (p1c : List PV) (p2 : Int) : Option ((Nat) × (List PV)) :=
 bindO (L0 (TrCts_0a p0n p0c p1n p1c p2)) fun z =>
 Sum.elim (fun _y0 =>
  some (0, [])) (fun y1 =>
  bif (decide (y1.2.2 = y1.1)) then
   some (y1.1, y1.2.1)
  else none) z
theorem trCts_eq (F L0 L2 p0n p0c p1n p1c p2) : semF (callP F ErCts 20) s25 (loopT (qM4_1 L0 L2)) 400 a25 [PV.list p0n p0c, PV.list p1n p1c, PV.int .i64 p2] (fun rv => decR (RSh.one CK.list) rv.pv) = trCts F L0 L2 p0n p0c p1n p1c p2 := by kernel_rfl
noncomputable abbrev FrCts (args : List PV) := Fn env 25 (RSh.one CK.list) args
theorem FrCts_of  (p0n : Nat) (p0c : List PV) (p1n : Nat) (p1c : List PV) (p2 : Int) {res : ((Nat) × (List PV))} (h : trCts (Fn env) LrCts_0 LrCts_2 p0n p0c p1n p1c p2 = some res) : FrCts [PV.list p0n p0c, PV.list p1n p1c, PV.int .i64 p2] = some res :=
 fn_of ErCts_ok rfl rfl oqM4_1 ((trCts_eq _ _ _ _ _ _ _ _).trans h)
def ErLks : List Entry := [.out 25 (RSh.one CK.list), .out 68 (RSh.tup [(Prod.mk false [CK.list]), (Prod.mk false [(CK.int .i64)])])]
theorem ErLks_ok : ∀ e ∈ ErLks, EntOK env e := (ent_out (ent_out ent_nil))
def TrLks_0a (n0 : Nat) (c1 : List PV) (n2 : Nat) (c3 : List PV) (n4 : Nat) (c5 : List PV) : Q := ⟨(tm 51 [(0, (AV.p (PV.list n0 c1))), (1, (AV.p (PV.list n2 c3))), (7, AV.nilS), (8, (AV.p (PV.list n4 c5))), (10, (AV.p (PV.int .i64 (0 : Int))))]), (mm 51 [])⟩
def TrLks_0b (n0 : Nat) (c1 : List PV) (n2 : Nat) (c3 : List PV) (n4 : Nat) (c5 : List PV) (n6 : Nat) (c7 : List PV) (i8 : Int) (n9 : Nat) : Q := ⟨(tm 51 [(0, (AV.p (PV.list n0 c1))), (1, (AV.p (PV.list n2 c3))), (7, (AV.app 46 n4 1 c5)), (8, (AV.p (PV.list n6 c7))), (10, (AV.p (PV.int .i64 i8)))]), (mm 51 [(46, (Bk.buf n9))])⟩
def TrLks_0c (n0 : Nat) (c1 : List PV) (n2 : Nat) (c3 : List PV) (n4 : Nat) (c5 : List PV) (n6 : Nat) (c7 : List PV) (i8 : Int) (n9 : Nat) : Q := ⟨(tm 51 [(0, (AV.p (PV.list n0 c1))), (1, (AV.p (PV.list n2 c3))), (7, (AV.app 49 n4 1 c5)), (8, (AV.p (PV.list n6 c7))), (10, (AV.p (PV.int .i64 i8)))]), (mm 51 [(49, (Bk.buf n9))])⟩
def XrLks_0a (_y : Unit) : Ext × Q := (Ext.normal, ⟨(tm 51 [(7, AV.nilS)]), (mm 51 [])⟩)
def IrLks_0a (_q : Ext × S) : Unit := ()
def XrLks_0b (y : Nat × List PV × Nat) : Ext × Q := (Ext.normal, ⟨(tm 51 [(7, (AV.app 46 y.1 1 y.2.1))]), (mm 51 [(46, (Bk.buf y.2.2))])⟩)
def IrLks_0b (q : Ext × S) : Nat × List PV × Nat := ((pA_app1 (avT q.2 7)), (pA_app3 (avT q.2 7)), (pB_buf0 (avM q.2 46)))
def XrLks_0c (y : Nat × List PV × Nat) : Ext × Q := (Ext.normal, ⟨(tm 51 [(7, (AV.app 49 y.1 1 y.2.1))]), (mm 51 [(49, (Bk.buf y.2.2))])⟩)
def IrLks_0c (q : Ext × S) : Nat × List PV × Nat := ((pA_app1 (avT q.2 7)), (pA_app3 (avT q.2 7)), (pB_buf0 (avM q.2 49)))
abbrev YrLks_0 : Type := (Unit) ⊕ ((Nat × List PV × Nat) ⊕ ((Nat × List PV × Nat)))
def XLrLks_0 : XL YrLks_0 := .more XrLks_0a (.more XrLks_0b (.one XrLks_0c))
def IrLks_0 (q : Ext × S) : YrLks_0 := bif (cA (avT q.2 7) == 1) then (Sum.inl (IrLks_0a q)) else bif (cB (avM q.2 46) == 2) then (Sum.inr (Sum.inl (IrLks_0b q))) else (Sum.inr (Sum.inr (IrLks_0c q)))
theorem XIrLks_0a (y) : IrLks_0 (xe (XrLks_0a y)) = (Sum.inl y) := by kernel_rfl
theorem XIrLks_0b (y) : IrLks_0 (xe (XrLks_0b y)) = (Sum.inr (Sum.inl y)) := by kernel_rfl
theorem XIrLks_0c (y) : IrLks_0 (xe (XrLks_0c y)) = (Sum.inr (Sum.inr y)) := by kernel_rfl
theorem XIrLks_0 (y) : IrLks_0 (xe (XLrLks_0.fn y)) = y := (match y with | .inl y => XIrLks_0a y | .inr y => (match y with | .inl y => XIrLks_0b y | .inr y => XIrLks_0c y))
noncomputable abbrev LrLks_0 : Q → Option YrLks_0 := lpO env a26.body 0 XLrLks_0
noncomputable abbrev RrLks_0 : Q → Option (Ext × S) := lpR env a26.body 0
theorem LrLks_0b_of {s y} (h : RrLks_0 s = exO (XrLks_0b y)) : LrLks_0 s = some (Sum.inr (Sum.inl y)) := lpO_of IrLks_0 XIrLks_0 (y := (Sum.inr (Sum.inl y))) h
theorem LrLks_0c_of {s y} (h : RrLks_0 s = exO (XrLks_0c y)) : LrLks_0 s = some (Sum.inr (Sum.inr y)) := lpO_of IrLks_0 XIrLks_0 (y := (Sum.inr (Sum.inr y))) h
theorem UrLks : uniq ((blocksOf a26.body).map (·.1)) = true := by kernel_rfl
def BrLks_0a (_F : FnT) (N : QO) (E : EO) (_L0 : QQ YrLks_0) (n0 : Nat) (c1 : List PV) (n2 : Nat) (c3 : List PV) (n4 : Nat) (c5 : List PV) : OX :=
 bif (decide ((0 : Int) < (n0 : Int))) then
  bif (decide (((0 : Int) ≤ (0 : Int)) ∧ ((0 : Int) < (n4 : Int)))) then
   bindO (listC (c5[0]?)) fun x0 =>
   bif (decide (((0 : Int) ≤ (0 : Int)) ∧ ((0 : Int) < (x0.1 : Int)))) then
    bindO (intC .i64 (x0.2[0]?)) fun x1 =>
    bif (decide (x1 < (n2 : Int))) then
     bif (decide (((0 : Int) ≤ (0 : Int)) ∧ ((0 : Int) < (n4 : Int)))) then
      bindO (listC (c5[0]?)) fun x2 =>
      bif (decide (((0 : Int) ≤ (0 : Int)) ∧ ((0 : Int) < (x2.1 : Int)))) then
       bindO (intC .i64 (x2.2[0]?)) fun x3 =>
       N (TrLks_0b n0 c1 n2 c3 1 [(PV.int .i64 x3)] n4 c5 (1 : Int) 1)
      else none
     else none
    else N (TrLks_0c n0 c1 n2 c3 1 [(PV.int .i64 (-1 : Int))] n4 c5 (1 : Int) 1)
   else none
  else none
 else E (XrLks_0a ())
theorem BrLks_0a_eq (F N E L0 n0 c1 n2 c3 n4 c5) : semB (callP F ErLks 20) s26 (loopT [⟨0, YrLks_0, L0, XLrLks_0⟩]) 400 (blkIn a26.body 0) N E (TrLks_0a n0 c1 n2 c3 n4 c5) = BrLks_0a F N E L0 n0 c1 n2 c3 n4 c5 := by kernel_rfl
theorem RrLks_0a_of (n0 c1 n2 c3 n4 c5) {r} (h : BrLks_0a (Fn env) RrLks_0 exO LrLks_0 n0 c1 n2 c3 n4 c5 = some r) : RrLks_0 (TrLks_0a n0 c1 n2 c3 n4 c5) = some r :=
 lp_of ErLks_ok (by kernel_rfl) (lo_cons (lpO_ok UrLks) lo_nil) (by kernel_rfl) ((BrLks_0a_eq _ _ _ _ _ _ _ _ _ _).trans h)
def BrLks_0b (_F : FnT) (N : QO) (E : EO) (_L0 : QQ YrLks_0) (n0 : Nat) (c1 : List PV) (n2 : Nat) (c3 : List PV) (n4 : Nat) (c5 : List PV) (n6 : Nat) (c7 : List PV) (i8 : Int) (n9 : Nat) : OX :=
 bif (decide (i8 < (n0 : Int))) then
  bif (decide (((0 : Int) ≤ (0 : Int)) ∧ ((0 : Int) < (n6 : Int)))) then
   bindO (listC (c7[0]?)) fun x0 =>
   bif (decide (((0 : Int) ≤ i8) ∧ (i8 < (x0.1 : Int)))) then
    bindO (intC .i64 (x0.2[((Int.toNat i8) * 1)]?)) fun x1 =>
    bif (decide (x1 < (n2 : Int))) then
     bif (decide (((0 : Int) ≤ (0 : Int)) ∧ ((0 : Int) < (n6 : Int)))) then
      bindO (listC (c7[0]?)) fun x2 =>
      bif (decide (((0 : Int) ≤ i8) ∧ (i8 < (x2.1 : Int)))) then
       bindO (intC .i64 (x2.2[((Int.toNat i8) * 1)]?)) fun x3 =>
       bif (decide ((n9 = n4) ∧ ((n4 + 1) ≤ big))) then
        N (TrLks_0b n0 c1 n2 c3 (n4 + 1) (c5 ++ [(PV.int .i64 x3)]) n6 c7 (w64 (i8 + (1 : Int))) (n4 + 1))
       else none
      else none
     else none
    else bif (decide ((n9 = n4) ∧ ((n4 + 1) ≤ big))) then
     N (TrLks_0b n0 c1 n2 c3 (n4 + 1) (c5 ++ [(PV.int .i64 (-1 : Int))]) n6 c7 (w64 (i8 + (1 : Int))) (n4 + 1))
    else none
   else none
  else none
 else E (XrLks_0b (n4, c5, n9))
theorem BrLks_0b_eq (F N E L0 n0 c1 n2 c3 n4 c5 n6 c7 i8 n9) : semB (callP F ErLks 20) s26 (loopT [⟨0, YrLks_0, L0, XLrLks_0⟩]) 400 (blkIn a26.body 0) N E (TrLks_0b n0 c1 n2 c3 n4 c5 n6 c7 i8 n9) = BrLks_0b F N E L0 n0 c1 n2 c3 n4 c5 n6 c7 i8 n9 := by kernel_rfl
theorem RrLks_0b_of (n0 c1 n2 c3 n4 c5 n6 c7 i8 n9) {r} (h : BrLks_0b (Fn env) RrLks_0 exO LrLks_0 n0 c1 n2 c3 n4 c5 n6 c7 i8 n9 = some r) : RrLks_0 (TrLks_0b n0 c1 n2 c3 n4 c5 n6 c7 i8 n9) = some r :=
 lp_of ErLks_ok (by kernel_rfl) (lo_cons (lpO_ok UrLks) lo_nil) (by kernel_rfl) ((BrLks_0b_eq _ _ _ _ _ _ _ _ _ _ _ _ _ _).trans h)
def BrLks_0c (_F : FnT) (N : QO) (E : EO) (_L0 : QQ YrLks_0) (n0 : Nat) (c1 : List PV) (n2 : Nat) (c3 : List PV) (n4 : Nat) (c5 : List PV) (n6 : Nat) (c7 : List PV) (i8 : Int) (n9 : Nat) : OX :=
 bif (decide (i8 < (n0 : Int))) then
  bif (decide (((0 : Int) ≤ (0 : Int)) ∧ ((0 : Int) < (n6 : Int)))) then
   bindO (listC (c7[0]?)) fun x0 =>
   bif (decide (((0 : Int) ≤ i8) ∧ (i8 < (x0.1 : Int)))) then
    bindO (intC .i64 (x0.2[((Int.toNat i8) * 1)]?)) fun x1 =>
    bif (decide (x1 < (n2 : Int))) then
     bif (decide (((0 : Int) ≤ (0 : Int)) ∧ ((0 : Int) < (n6 : Int)))) then
      bindO (listC (c7[0]?)) fun x2 =>
      bif (decide (((0 : Int) ≤ i8) ∧ (i8 < (x2.1 : Int)))) then
       bindO (intC .i64 (x2.2[((Int.toNat i8) * 1)]?)) fun x3 =>
       bif (decide ((n9 = n4) ∧ ((n4 + 1) ≤ big))) then
        N (TrLks_0c n0 c1 n2 c3 (n4 + 1) (c5 ++ [(PV.int .i64 x3)]) n6 c7 (w64 (i8 + (1 : Int))) (n4 + 1))
       else none
      else none
     else none
    else bif (decide ((n9 = n4) ∧ ((n4 + 1) ≤ big))) then
     N (TrLks_0c n0 c1 n2 c3 (n4 + 1) (c5 ++ [(PV.int .i64 (-1 : Int))]) n6 c7 (w64 (i8 + (1 : Int))) (n4 + 1))
    else none
   else none
  else none
 else E (XrLks_0c (n4, c5, n9))
theorem BrLks_0c_eq (F N E L0 n0 c1 n2 c3 n4 c5 n6 c7 i8 n9) : semB (callP F ErLks 20) s26 (loopT [⟨0, YrLks_0, L0, XLrLks_0⟩]) 400 (blkIn a26.body 0) N E (TrLks_0c n0 c1 n2 c3 n4 c5 n6 c7 i8 n9) = BrLks_0c F N E L0 n0 c1 n2 c3 n4 c5 n6 c7 i8 n9 := by kernel_rfl
theorem RrLks_0c_of (n0 c1 n2 c3 n4 c5 n6 c7 i8 n9) {r} (h : BrLks_0c (Fn env) RrLks_0 exO LrLks_0 n0 c1 n2 c3 n4 c5 n6 c7 i8 n9 = some r) : RrLks_0 (TrLks_0c n0 c1 n2 c3 n4 c5 n6 c7 i8 n9) = some r :=
 lp_of ErLks_ok (by kernel_rfl) (lo_cons (lpO_ok UrLks) lo_nil) (by kernel_rfl) ((BrLks_0c_eq _ _ _ _ _ _ _ _ _ _ _ _ _ _).trans h)
def trLks (F : FnT) (L0 : QQ YrLks_0) (p0n : Nat) (p0c : List PV) (p1n : Nat) (p1c : List PV) (p2 : Int) : Option ((Nat) × (List PV)) :=
 bif ((p0n : Int) == (0 : Int)) then
  some (0, [])
 else bindO (F 25 (RSh.one CK.list) [(PV.list p0n p0c), (PV.list p1n p1c), (PV.int .i64 p2)]) fun (y0 : ((Nat) × (List PV))) =>
 bindO (F 68 (RSh.tup [(Prod.mk false [CK.list]), (Prod.mk false [(CK.int .i64)])]) [(PV.list y0.1 y0.2)]) fun (y1 : (((Nat) × (List PV)) × (Int))) =>
 bindO (L0 (TrLks_0a p0n p0c p1n p1c y1.1.1 y1.1.2)) fun z =>
 Sum.elim (fun _y2 =>
  some (0, [])) (fun z0 => Sum.elim (fun y3 =>
  bif (decide (y3.2.2 = y3.1)) then
   some (y3.1, y3.2.1)
  else none) (fun y4 =>
  bif (decide (y4.2.2 = y4.1)) then
   some (y4.1, y4.2.1)
  else none) z0) z
theorem trLks_eq (F L0 p0n p0c p1n p1c p2) : semF (callP F ErLks 20) s26 (loopT [⟨0, YrLks_0, L0, XLrLks_0⟩]) 400 a26 [PV.list p0n p0c, PV.list p1n p1c, PV.int .i64 p2] (fun rv => decR (RSh.one CK.list) rv.pv) = trLks F L0 p0n p0c p1n p1c p2 := by kernel_rfl
noncomputable abbrev FrLks (args : List PV) := Fn env 26 (RSh.one CK.list) args
theorem FrLks_of  (p0n : Nat) (p0c : List PV) (p1n : Nat) (p1c : List PV) (p2 : Int) {res : ((Nat) × (List PV))} (h : trLks (Fn env) LrLks_0 p0n p0c p1n p1c p2 = some res) : FrLks [PV.list p0n p0c, PV.list p1n p1c, PV.int .i64 p2] = some res :=
 fn_of ErLks_ok rfl rfl (lo_cons (lpO_ok UrLks) lo_nil) ((trLks_eq _ _ _ _ _ _ _).trans h)
end Gv

/- What the functions do, round by round: Z2. -/
namespace Gv
open Go
set_option maxRecDepth 100000
def ErSTr : List Entry := []
theorem ErSTr_ok : ∀ e ∈ ErSTr, EntOK env e := ent_nil
def TrSTr_0a (n0 : Nat) (c1 : List PV) (n2 : Nat) (c3 : List PV) (i4 : Int) : Q := ⟨(tm 53 [(0, (AV.p (PV.list n0 c1))), (1, (AV.p (PV.list n2 c3))), (5, (AV.p (PV.int .i64 i4)))]), (mm 53 [])⟩
def XrSTr_0a (_y : Unit) : Ext × Q := (Ext.ret, ⟨(tm 53 [(4, (AV.p (PV.bool false)))]), (mm 53 [])⟩)
def IrSTr_0a (_q : Ext × S) : Unit := ()
def XrSTr_0b (_y : Unit) : Ext × Q := (Ext.normal, ⟨(tm 53 []), (mm 53 [])⟩)
def IrSTr_0b (_q : Ext × S) : Unit := ()
abbrev YrSTr_0 : Type := (Unit) ⊕ ((Unit))
def XLrSTr_0 : XL YrSTr_0 := .more XrSTr_0a (.one XrSTr_0b)
def IrSTr_0 (q : Ext × S) : YrSTr_0 := bif (cE q.1 == 2) then (Sum.inl (IrSTr_0a q)) else (Sum.inr (IrSTr_0b q))
theorem XIrSTr_0a (y) : IrSTr_0 (xe (XrSTr_0a y)) = (Sum.inl y) := by kernel_rfl
theorem XIrSTr_0b (y) : IrSTr_0 (xe (XrSTr_0b y)) = (Sum.inr y) := by kernel_rfl
theorem XIrSTr_0 (y) : IrSTr_0 (xe (XLrSTr_0.fn y)) = y := (match y with | .inl y => XIrSTr_0a y | .inr y => XIrSTr_0b y)
noncomputable abbrev LrSTr_0 : Q → Option YrSTr_0 := lpO env a31.body 0 XLrSTr_0
noncomputable abbrev RrSTr_0 : Q → Option (Ext × S) := lpR env a31.body 0
theorem LrSTr_0b_of {s y} (h : RrSTr_0 s = exO (XrSTr_0b y)) : LrSTr_0 s = some (Sum.inr y) := lpO_of IrSTr_0 XIrSTr_0 (y := (Sum.inr y)) h
def TrSTr_2a (n0 : Nat) (c1 : List PV) (n2 : Nat) (c3 : List PV) (i4 i5 : Int) : Q := ⟨(tm 53 [(0, (AV.p (PV.list n0 c1))), (1, (AV.p (PV.list n2 c3))), (5, (AV.p (PV.int .i64 i4))), (6, (AV.p (PV.int .i64 i5)))]), (mm 53 [])⟩
def XrSTr_2a (_y : Unit) : Ext × Q := (Ext.ret, ⟨(tm 53 [(4, (AV.p (PV.bool false)))]), (mm 53 [])⟩)
def IrSTr_2a (_q : Ext × S) : Unit := ()
def XrSTr_2b (y : Nat × List PV × Nat × List PV × Int) : Ext × Q := (Ext.normal, ⟨(tm 53 [(0, (AV.p (PV.list y.1 y.2.1))), (1, (AV.p (PV.list y.2.2.1 y.2.2.2.1))), (5, (AV.p (PV.int .i64 y.2.2.2.2)))]), (mm 53 [])⟩)
def IrSTr_2b (q : Ext × S) : Nat × List PV × Nat × List PV × Int := ((pP_list0 (pA_p (avT q.2 0))), (pP_list1 (pA_p (avT q.2 0))), (pP_list0 (pA_p (avT q.2 1))), (pP_list1 (pA_p (avT q.2 1))), (pP_int1 (pA_p (avT q.2 5))))
abbrev YrSTr_2 : Type := (Unit) ⊕ ((Nat × List PV × Nat × List PV × Int))
def XLrSTr_2 : XL YrSTr_2 := .more XrSTr_2a (.one XrSTr_2b)
def IrSTr_2 (q : Ext × S) : YrSTr_2 := bif (cE q.1 == 2) then (Sum.inl (IrSTr_2a q)) else (Sum.inr (IrSTr_2b q))
theorem XIrSTr_2a (y) : IrSTr_2 (xe (XrSTr_2a y)) = (Sum.inl y) := by kernel_rfl
theorem XIrSTr_2b (y) : IrSTr_2 (xe (XrSTr_2b y)) = (Sum.inr y) := by kernel_rfl
theorem XIrSTr_2 (y) : IrSTr_2 (xe (XLrSTr_2.fn y)) = y := (match y with | .inl y => XIrSTr_2a y | .inr y => XIrSTr_2b y)
noncomputable abbrev LrSTr_2 : Q → Option YrSTr_2 := lpO env a31.body 2 XLrSTr_2
noncomputable abbrev RrSTr_2 : Q → Option (Ext × S) := lpR env a31.body 2
theorem LrSTr_2b_of {s y} (h : RrSTr_2 s = exO (XrSTr_2b y)) : LrSTr_2 s = some (Sum.inr y) := lpO_of IrSTr_2 XIrSTr_2 (y := (Sum.inr y)) h
theorem UrSTr : uniq ((blocksOf a31.body).map (·.1)) = true := by kernel_rfl
def BrSTr_0a (_F : FnT) (N : QO) (E : EO) (_L0 : QQ YrSTr_0) (L2 : QQ YrSTr_2) (n0 : Nat) (c1 : List PV) (n2 : Nat) (c3 : List PV) (i4 : Int) : OX :=
 bif (decide (i4 < (n0 : Int))) then
  bif (decide (((0 : Int) ≤ i4) ∧ (i4 < (n0 : Int)))) then
   bindO (listC (c1[((Int.toNat i4) * 1)]?)) fun x0 =>
   bif (decide (((0 : Int) ≤ i4) ∧ (i4 < (n2 : Int)))) then
    bindO (listC (c3[((Int.toNat i4) * 1)]?)) fun x1 =>
    bif ((x0.1 : Int) != (x1.1 : Int)) then
     E (XrSTr_0a ())
    else bindO (L2 (TrSTr_2a n0 c1 n2 c3 i4 (0 : Int))) fun z =>
    Sum.elim (fun _y2 =>
     E (XrSTr_0a ())) (fun y3 =>
     N (TrSTr_0a y3.1 y3.2.1 y3.2.2.1 y3.2.2.2.1 (w64 (y3.2.2.2.2 + (1 : Int))))) z
   else none
  else none
 else E (XrSTr_0b ())
abbrev qM4_2 (L0 : QQ YrSTr_0) (L2 : QQ YrSTr_2) : List LoopO := [⟨0, YrSTr_0, L0, XLrSTr_0⟩, ⟨2, YrSTr_2, L2, XLrSTr_2⟩]
theorem BrSTr_0a_eq (F N E L0 L2 n0 c1 n2 c3 i4) : semB (callP F ErSTr 20) s31 (loopT (qM4_2 L0 L2)) 400 (blkIn a31.body 0) N E (TrSTr_0a n0 c1 n2 c3 i4) = BrSTr_0a F N E L0 L2 n0 c1 n2 c3 i4 := by kernel_rfl
theorem oqM4_2 : ∀ o ∈ qM4_2 LrSTr_0 LrSTr_2, LoopOOK env a31.body o := lo_cons (lpO_ok UrSTr) (lo_cons (lpO_ok UrSTr) lo_nil)
theorem RrSTr_0a_of (n0 c1 n2 c3 i4) {r} (h : BrSTr_0a (Fn env) RrSTr_0 exO LrSTr_0 LrSTr_2 n0 c1 n2 c3 i4 = some r) : RrSTr_0 (TrSTr_0a n0 c1 n2 c3 i4) = some r :=
 lp_of ErSTr_ok (by kernel_rfl) oqM4_2 (by kernel_rfl) ((BrSTr_0a_eq _ _ _ _ _ _ _ _ _ _).trans h)
def BrSTr_2a (_F : FnT) (N : QO) (E : EO) (_L0 : QQ YrSTr_0) (_L2 : QQ YrSTr_2) (n0 : Nat) (c1 : List PV) (n2 : Nat) (c3 : List PV) (i4 i5 : Int) : OX :=
 bif (decide (((0 : Int) ≤ i4) ∧ (i4 < (n0 : Int)))) then
  bindO (listC (c1[((Int.toNat i4) * 1)]?)) fun x0 =>
  bif (decide (i5 < (x0.1 : Int))) then
   bif (decide (((0 : Int) ≤ i4) ∧ (i4 < (n0 : Int)))) then
    bindO (listC (c1[((Int.toNat i4) * 1)]?)) fun x1 =>
    bif (decide (((0 : Int) ≤ i5) ∧ (i5 < (x1.1 : Int)))) then
     bindO (intC .i64 (x1.2[((Int.toNat i5) * 2)]?)) fun x2 =>
     bindO (intC .i64 (x1.2[(((Int.toNat i5) * 2) + 1)]?)) fun x3 =>
     bif (decide (((0 : Int) ≤ i4) ∧ (i4 < (n2 : Int)))) then
      bindO (listC (c3[((Int.toNat i4) * 1)]?)) fun x4 =>
      bif (decide (((0 : Int) ≤ i5) ∧ (i5 < (x4.1 : Int)))) then
       bindO (intC .i64 (x4.2[((Int.toNat i5) * 2)]?)) fun x5 =>
       bindO (intC .i64 (x4.2[(((Int.toNat i5) * 2) + 1)]?)) fun x6 =>
       bif (!((x2 == x5) && ((x3 == x6) && true))) then
        E (XrSTr_2a ())
       else N (TrSTr_2a n0 c1 n2 c3 i4 (w64 (i5 + (1 : Int))))
      else none
     else none
    else none
   else none
  else E (XrSTr_2b (n0, c1, n2, c3, i4))
 else none
theorem BrSTr_2a_eq (F N E L0 L2 n0 c1 n2 c3 i4 i5) : semB (callP F ErSTr 20) s31 (loopT (qM4_2 L0 L2)) 400 (blkIn a31.body 2) N E (TrSTr_2a n0 c1 n2 c3 i4 i5) = BrSTr_2a F N E L0 L2 n0 c1 n2 c3 i4 i5 := by kernel_rfl
theorem RrSTr_2a_of (n0 c1 n2 c3 i4 i5) {r} (h : BrSTr_2a (Fn env) RrSTr_2 exO LrSTr_0 LrSTr_2 n0 c1 n2 c3 i4 i5 = some r) : RrSTr_2 (TrSTr_2a n0 c1 n2 c3 i4 i5) = some r :=
 lp_of ErSTr_ok (by kernel_rfl) oqM4_2 (by kernel_rfl) ((BrSTr_2a_eq _ _ _ _ _ _ _ _ _ _ _).trans h)
def trSTr (_F : FnT) (L0 : QQ YrSTr_0) (_L2 : QQ YrSTr_2) (p0n : Nat) (p0c : List PV) (p1n : Nat) (p1c : List PV) : Option (Bool) :=
 bif ((p0n : Int) != (p1n : Int)) then
  some false
 else bindO (L0 (TrSTr_0a p0n p0c p1n p1c (0 : Int))) fun z =>
 Sum.elim (fun _y0 =>
  some false) (fun _y1 =>
  some true) z
theorem trSTr_eq (F L0 L2 p0n p0c p1n p1c) : semF (callP F ErSTr 20) s31 (loopT (qM4_2 L0 L2)) 400 a31 [PV.list p0n p0c, PV.list p1n p1c] (fun rv => decR (RSh.one CK.bool) rv.pv) = trSTr F L0 L2 p0n p0c p1n p1c := by kernel_rfl
noncomputable abbrev FrSTr (args : List PV) := Fn env 31 (RSh.one CK.bool) args
theorem FrSTr_of  (p0n : Nat) (p0c : List PV) (p1n : Nat) (p1c : List PV) {res : (Bool)} (h : trSTr (Fn env) LrSTr_0 LrSTr_2 p0n p0c p1n p1c = some res) : FrSTr [PV.list p0n p0c, PV.list p1n p1c] = some res :=
 fn_of ErSTr_ok rfl rfl oqM4_2 ((trSTr_eq _ _ _ _ _ _ _).trans h)
def ErTrk : List Entry := [.out 26 (RSh.one CK.list), .out 19 (RSh.one CK.bool)]
theorem ErTrk_ok : ∀ e ∈ ErTrk, EntOK env e := (ent_out (ent_out ent_nil))
def TrTrk_0a (n0 : Nat) (c1 : List PV) (i2 : Int) : Q := ⟨(tm 101 [(0, (AV.p (PV.list n0 c1))), (1, (AV.p (PV.int .i64 i2))), (5, AV.nilS), (6, (AV.p (PV.int .i64 (0 : Int))))]), (mm 101 [])⟩
def TrTrk_0b (n0 : Nat) (c1 : List PV) (i2 : Int) (n3 : Nat) (c4 : List PV) (i5 : Int) (n6 : Nat) : Q := ⟨(tm 101 [(0, (AV.p (PV.list n0 c1))), (1, (AV.p (PV.int .i64 i2))), (5, (AV.app 33 n3 1 c4)), (6, (AV.p (PV.int .i64 i5)))]), (mm 101 [(33, (Bk.buf n6))])⟩
def XrTrk_0a (y : Nat × List PV) : Ext × Q := (Ext.normal, ⟨(tm 101 [(0, (AV.p (PV.list y.1 y.2))), (5, AV.nilS)]), (mm 101 [])⟩)
def IrTrk_0a (q : Ext × S) : Nat × List PV := ((pP_list0 (pA_p (avT q.2 0))), (pP_list1 (pA_p (avT q.2 0))))
def XrTrk_0b (y : Nat × List PV × Nat × List PV × Nat) : Ext × Q := (Ext.normal, ⟨(tm 101 [(0, (AV.p (PV.list y.1 y.2.1))), (5, (AV.app 33 y.2.2.1 1 y.2.2.2.1))]), (mm 101 [(33, (Bk.buf y.2.2.2.2))])⟩)
def IrTrk_0b (q : Ext × S) : Nat × List PV × Nat × List PV × Nat := ((pP_list0 (pA_p (avT q.2 0))), (pP_list1 (pA_p (avT q.2 0))), (pA_app1 (avT q.2 5)), (pA_app3 (avT q.2 5)), (pB_buf0 (avM q.2 33)))
abbrev YrTrk_0 : Type := (Nat × List PV) ⊕ ((Nat × List PV × Nat × List PV × Nat))
def XLrTrk_0 : XL YrTrk_0 := .more XrTrk_0a (.one XrTrk_0b)
def IrTrk_0 (q : Ext × S) : YrTrk_0 := bif (cA (avT q.2 5) == 1) then (Sum.inl (IrTrk_0a q)) else (Sum.inr (IrTrk_0b q))
theorem XIrTrk_0a (y) : IrTrk_0 (xe (XrTrk_0a y)) = (Sum.inl y) := by kernel_rfl
theorem XIrTrk_0b (y) : IrTrk_0 (xe (XrTrk_0b y)) = (Sum.inr y) := by kernel_rfl
theorem XIrTrk_0 (y) : IrTrk_0 (xe (XLrTrk_0.fn y)) = y := (match y with | .inl y => XIrTrk_0a y | .inr y => XIrTrk_0b y)
noncomputable abbrev LrTrk_0 : Q → Option YrTrk_0 := lpO env a32.body 0 XLrTrk_0
noncomputable abbrev RrTrk_0 : Q → Option (Ext × S) := lpR env a32.body 0
theorem LrTrk_0a_of {s y} (h : RrTrk_0 s = exO (XrTrk_0a y)) : LrTrk_0 s = some (Sum.inl y) := lpO_of IrTrk_0 XIrTrk_0 (y := (Sum.inl y)) h
theorem LrTrk_0b_of {s y} (h : RrTrk_0 s = exO (XrTrk_0b y)) : LrTrk_0 s = some (Sum.inr y) := lpO_of IrTrk_0 XIrTrk_0 (y := (Sum.inr y)) h
def TrTrk_2a (n0 : Nat) (c1 : List PV) (i2 : Int) : Q := ⟨(tm 101 [(0, (AV.p (PV.list n0 c1))), (5, AV.nilS), (7, AV.nilS), (8, (AV.p (PV.int .i64 i2)))]), (mm 101 [])⟩
def TrTrk_2b (n0 : Nat) (c1 : List PV) (n2 : Nat) (c3 : List PV) (i4 : Int) (n5 : Nat) : Q := ⟨(tm 101 [(0, (AV.p (PV.list n0 c1))), (5, (AV.app 33 n2 1 c3)), (7, AV.nilS), (8, (AV.p (PV.int .i64 i4)))]), (mm 101 [(33, (Bk.buf n5))])⟩
def TrTrk_2c (n0 : Nat) (c1 : List PV) (n2 : Nat) (c3 : List PV) (i4 : Int) (n5 : Nat) : Q := ⟨(tm 101 [(0, (AV.p (PV.list n0 c1))), (5, AV.nilS), (7, (AV.app 99 n2 1 c3)), (8, (AV.p (PV.int .i64 i4)))]), (mm 101 [(99, (Bk.buf n5))])⟩
def TrTrk_2d (n0 : Nat) (c1 : List PV) (n2 : Nat) (c3 : List PV) (n4 : Nat) (c5 : List PV) (i6 : Int) (n7 n8 : Nat) : Q := ⟨(tm 101 [(0, (AV.p (PV.list n0 c1))), (5, (AV.app 33 n2 1 c3)), (7, (AV.app 99 n4 1 c5)), (8, (AV.p (PV.int .i64 i6)))]), (mm 101 [(33, (Bk.buf n7)), (99, (Bk.buf n8))])⟩
def XrTrk_2a (_y : Unit) : Ext × Q := (Ext.normal, ⟨(tm 101 [(7, AV.nilS)]), (mm 101 [])⟩)
def IrTrk_2a (_q : Ext × S) : Unit := ()
def XrTrk_2b (y : Nat) : Ext × Q := (Ext.normal, ⟨(tm 101 [(7, AV.nilS)]), (mm 101 [(33, (Bk.buf y))])⟩)
def IrTrk_2b (q : Ext × S) : Nat := (pB_buf0 (avM q.2 33))
def XrTrk_2c (y : Nat × List PV × Nat) : Ext × Q := (Ext.normal, ⟨(tm 101 [(7, (AV.app 99 y.1 1 y.2.1))]), (mm 101 [(99, (Bk.buf y.2.2))])⟩)
def IrTrk_2c (q : Ext × S) : Nat × List PV × Nat := ((pA_app1 (avT q.2 7)), (pA_app3 (avT q.2 7)), (pB_buf0 (avM q.2 99)))
def XrTrk_2d (y : Nat × List PV × Nat × Nat) : Ext × Q := (Ext.normal, ⟨(tm 101 [(7, (AV.app 99 y.1 1 y.2.1))]), (mm 101 [(33, (Bk.buf y.2.2.1)), (99, (Bk.buf y.2.2.2))])⟩)
def IrTrk_2d (q : Ext × S) : Nat × List PV × Nat × Nat := ((pA_app1 (avT q.2 7)), (pA_app3 (avT q.2 7)), (pB_buf0 (avM q.2 33)), (pB_buf0 (avM q.2 99)))
abbrev YrTrk_2 : Type := (Unit) ⊕ ((Nat) ⊕ ((Nat × List PV × Nat) ⊕ ((Nat × List PV × Nat × Nat))))
def XLrTrk_2 : XL YrTrk_2 := .more XrTrk_2a (.more XrTrk_2b (.more XrTrk_2c (.one XrTrk_2d)))
def IrTrk_2 (q : Ext × S) : YrTrk_2 := bif (cB (avM q.2 33) == 0) && (cA (avT q.2 7) == 1) then (Sum.inl (IrTrk_2a q)) else bif (cA (avT q.2 7) == 1) then (Sum.inr (Sum.inl (IrTrk_2b q))) else bif (cB (avM q.2 33) == 0) then (Sum.inr (Sum.inr (Sum.inl (IrTrk_2c q)))) else (Sum.inr (Sum.inr (Sum.inr (IrTrk_2d q))))
theorem XIrTrk_2a (y) : IrTrk_2 (xe (XrTrk_2a y)) = (Sum.inl y) := by kernel_rfl
theorem XIrTrk_2b (y) : IrTrk_2 (xe (XrTrk_2b y)) = (Sum.inr (Sum.inl y)) := by kernel_rfl
theorem XIrTrk_2c (y) : IrTrk_2 (xe (XrTrk_2c y)) = (Sum.inr (Sum.inr (Sum.inl y))) := by kernel_rfl
theorem XIrTrk_2d (y) : IrTrk_2 (xe (XrTrk_2d y)) = (Sum.inr (Sum.inr (Sum.inr y))) := by kernel_rfl
theorem XIrTrk_2 (y) : IrTrk_2 (xe (XLrTrk_2.fn y)) = y := (match y with | .inl y => XIrTrk_2a y | .inr y => (match y with | .inl y => XIrTrk_2b y | .inr y => (match y with | .inl y => XIrTrk_2c y | .inr y => XIrTrk_2d y)))
noncomputable abbrev LrTrk_2 : Q → Option YrTrk_2 := lpO env a32.body 2 XLrTrk_2
noncomputable abbrev RrTrk_2 : Q → Option (Ext × S) := lpR env a32.body 2
theorem LrTrk_2a_of {s y} (h : RrTrk_2 s = exO (XrTrk_2a y)) : LrTrk_2 s = some (Sum.inl y) := lpO_of IrTrk_2 XIrTrk_2 (y := (Sum.inl y)) h
theorem LrTrk_2b_of {s y} (h : RrTrk_2 s = exO (XrTrk_2b y)) : LrTrk_2 s = some (Sum.inr (Sum.inl y)) := lpO_of IrTrk_2 XIrTrk_2 (y := (Sum.inr (Sum.inl y))) h
theorem LrTrk_2c_of {s y} (h : RrTrk_2 s = exO (XrTrk_2c y)) : LrTrk_2 s = some (Sum.inr (Sum.inr (Sum.inl y))) := lpO_of IrTrk_2 XIrTrk_2 (y := (Sum.inr (Sum.inr (Sum.inl y)))) h
theorem LrTrk_2d_of {s y} (h : RrTrk_2 s = exO (XrTrk_2d y)) : LrTrk_2 s = some (Sum.inr (Sum.inr (Sum.inr y))) := lpO_of IrTrk_2 XIrTrk_2 (y := (Sum.inr (Sum.inr (Sum.inr y)))) h
def TrTrk_4a (n0 : Nat) (c1 : List PV) (i2 : Int) : Q := ⟨(tm 101 [(0, (AV.p (PV.list n0 c1))), (5, AV.nilS), (7, AV.nilS), (8, (AV.p (PV.int .i64 i2))), (9, (AV.p (PV.int .i64 (0 : Int))))]), (mm 101 [])⟩
def TrTrk_4b (n0 : Nat) (c1 : List PV) (n2 : Nat) (c3 : List PV) (i4 i5 : Int) (n6 : Nat) : Q := ⟨(tm 101 [(0, (AV.p (PV.list n0 c1))), (5, (AV.app 33 n2 1 c3)), (7, AV.nilS), (8, (AV.p (PV.int .i64 i4))), (9, (AV.p (PV.int .i64 i5)))]), (mm 101 [(33, (Bk.buf n6))])⟩
def TrTrk_4c (n0 : Nat) (c1 : List PV) (n2 : Nat) (c3 : List PV) (i4 i5 : Int) (n6 : Nat) : Q := ⟨(tm 101 [(0, (AV.p (PV.list n0 c1))), (5, AV.nilS), (7, (AV.app 99 n2 1 c3)), (8, (AV.p (PV.int .i64 i4))), (9, (AV.p (PV.int .i64 i5)))]), (mm 101 [(99, (Bk.buf n6))])⟩
def TrTrk_4d (n0 : Nat) (c1 : List PV) (n2 : Nat) (c3 : List PV) (n4 : Nat) (c5 : List PV) (i6 i7 : Int) (n8 n9 : Nat) : Q := ⟨(tm 101 [(0, (AV.p (PV.list n0 c1))), (5, (AV.app 33 n2 1 c3)), (7, (AV.app 99 n4 1 c5)), (8, (AV.p (PV.int .i64 i6))), (9, (AV.p (PV.int .i64 i7)))]), (mm 101 [(33, (Bk.buf n8)), (99, (Bk.buf n9))])⟩
def XrTrk_4a (y : Nat × List PV × Int) : Ext × Q := (Ext.normal, ⟨(tm 101 [(0, (AV.p (PV.list y.1 y.2.1))), (5, AV.nilS), (7, AV.nilS), (8, (AV.p (PV.int .i64 y.2.2)))]), (mm 101 [])⟩)
def IrTrk_4a (q : Ext × S) : Nat × List PV × Int := ((pP_list0 (pA_p (avT q.2 0))), (pP_list1 (pA_p (avT q.2 0))), (pP_int1 (pA_p (avT q.2 8))))
def XrTrk_4b (y : Nat × List PV × Nat × List PV × Int × Nat) : Ext × Q := (Ext.normal, ⟨(tm 101 [(0, (AV.p (PV.list y.1 y.2.1))), (5, (AV.app 33 y.2.2.1 1 y.2.2.2.1)), (7, AV.nilS), (8, (AV.p (PV.int .i64 y.2.2.2.2.1)))]), (mm 101 [(33, (Bk.buf y.2.2.2.2.2))])⟩)
def IrTrk_4b (q : Ext × S) : Nat × List PV × Nat × List PV × Int × Nat := ((pP_list0 (pA_p (avT q.2 0))), (pP_list1 (pA_p (avT q.2 0))), (pA_app1 (avT q.2 5)), (pA_app3 (avT q.2 5)), (pP_int1 (pA_p (avT q.2 8))), (pB_buf0 (avM q.2 33)))
def XrTrk_4c (y : Nat × List PV × Nat × List PV × Int × Nat) : Ext × Q := (Ext.normal, ⟨(tm 101 [(0, (AV.p (PV.list y.1 y.2.1))), (5, AV.nilS), (7, (AV.app 99 y.2.2.1 1 y.2.2.2.1)), (8, (AV.p (PV.int .i64 y.2.2.2.2.1)))]), (mm 101 [(99, (Bk.buf y.2.2.2.2.2))])⟩)
def IrTrk_4c (q : Ext × S) : Nat × List PV × Nat × List PV × Int × Nat := ((pP_list0 (pA_p (avT q.2 0))), (pP_list1 (pA_p (avT q.2 0))), (pA_app1 (avT q.2 7)), (pA_app3 (avT q.2 7)), (pP_int1 (pA_p (avT q.2 8))), (pB_buf0 (avM q.2 99)))
def XrTrk_4d (y : Nat × List PV × Nat × List PV × Nat × List PV × Int × Nat × Nat) : Ext × Q := (Ext.normal, ⟨(tm 101 [(0, (AV.p (PV.list y.1 y.2.1))), (5, (AV.app 33 y.2.2.1 1 y.2.2.2.1)), (7, (AV.app 99 y.2.2.2.2.1 1 y.2.2.2.2.2.1)), (8, (AV.p (PV.int .i64 y.2.2.2.2.2.2.1)))]), (mm 101 [(33, (Bk.buf y.2.2.2.2.2.2.2.1)), (99, (Bk.buf y.2.2.2.2.2.2.2.2))])⟩)
def IrTrk_4d (q : Ext × S) : Nat × List PV × Nat × List PV × Nat × List PV × Int × Nat × Nat := ((pP_list0 (pA_p (avT q.2 0))), (pP_list1 (pA_p (avT q.2 0))), (pA_app1 (avT q.2 5)), (pA_app3 (avT q.2 5)), (pA_app1 (avT q.2 7)), (pA_app3 (avT q.2 7)), (pP_int1 (pA_p (avT q.2 8))), (pB_buf0 (avM q.2 33)), (pB_buf0 (avM q.2 99)))
abbrev YrTrk_4 : Type := (Nat × List PV × Int) ⊕ ((Nat × List PV × Nat × List PV × Int × Nat) ⊕ ((Nat × List PV × Nat × List PV × Int × Nat) ⊕ ((Nat × List PV × Nat × List PV × Nat × List PV × Int × Nat × Nat))))
def XLrTrk_4 : XL YrTrk_4 := .more XrTrk_4a (.more XrTrk_4b (.more XrTrk_4c (.one XrTrk_4d)))
def IrTrk_4 (q : Ext × S) : YrTrk_4 := bif (cA (avT q.2 5) == 1) && (cA (avT q.2 7) == 1) then (Sum.inl (IrTrk_4a q)) else bif (cA (avT q.2 5) == 5) && (cA (avT q.2 7) == 1) then (Sum.inr (Sum.inl (IrTrk_4b q))) else bif (cA (avT q.2 5) == 1) then (Sum.inr (Sum.inr (Sum.inl (IrTrk_4c q)))) else (Sum.inr (Sum.inr (Sum.inr (IrTrk_4d q))))
theorem XIrTrk_4a (y) : IrTrk_4 (xe (XrTrk_4a y)) = (Sum.inl y) := by kernel_rfl
theorem XIrTrk_4b (y) : IrTrk_4 (xe (XrTrk_4b y)) = (Sum.inr (Sum.inl y)) := by kernel_rfl
theorem XIrTrk_4c (y) : IrTrk_4 (xe (XrTrk_4c y)) = (Sum.inr (Sum.inr (Sum.inl y))) := by kernel_rfl
theorem XIrTrk_4d (y) : IrTrk_4 (xe (XrTrk_4d y)) = (Sum.inr (Sum.inr (Sum.inr y))) := by kernel_rfl
theorem XIrTrk_4 (y) : IrTrk_4 (xe (XLrTrk_4.fn y)) = y := (match y with | .inl y => XIrTrk_4a y | .inr y => (match y with | .inl y => XIrTrk_4b y | .inr y => (match y with | .inl y => XIrTrk_4c y | .inr y => XIrTrk_4d y)))
noncomputable abbrev LrTrk_4 : Q → Option YrTrk_4 := lpO env a32.body 4 XLrTrk_4
noncomputable abbrev RrTrk_4 : Q → Option (Ext × S) := lpR env a32.body 4
theorem LrTrk_4a_of {s y} (h : RrTrk_4 s = exO (XrTrk_4a y)) : LrTrk_4 s = some (Sum.inl y) := lpO_of IrTrk_4 XIrTrk_4 (y := (Sum.inl y)) h
theorem LrTrk_4b_of {s y} (h : RrTrk_4 s = exO (XrTrk_4b y)) : LrTrk_4 s = some (Sum.inr (Sum.inl y)) := lpO_of IrTrk_4 XIrTrk_4 (y := (Sum.inr (Sum.inl y))) h
theorem LrTrk_4c_of {s y} (h : RrTrk_4 s = exO (XrTrk_4c y)) : LrTrk_4 s = some (Sum.inr (Sum.inr (Sum.inl y))) := lpO_of IrTrk_4 XIrTrk_4 (y := (Sum.inr (Sum.inr (Sum.inl y)))) h
theorem LrTrk_4d_of {s y} (h : RrTrk_4 s = exO (XrTrk_4d y)) : LrTrk_4 s = some (Sum.inr (Sum.inr (Sum.inr y))) := lpO_of IrTrk_4 XIrTrk_4 (y := (Sum.inr (Sum.inr (Sum.inr y)))) h
def TrTrk_6a (n0 : Nat) (c1 : List PV) (i2 i3 i4 : Int) : Q := ⟨(tm 101 [(0, (AV.p (PV.list n0 c1))), (5, AV.nilS), (7, AV.nilS), (8, (AV.p (PV.int .i64 i2))), (9, (AV.p (PV.int .i64 (0 : Int)))), (10, (AV.lit 1 2 [(PV.int .i64 i3), (PV.int .i64 (0 : Int))])), (11, (AV.p (PV.int .i64 (0 : Int)))), (12, (AV.p (PV.int .i64 i4)))]), (mm 101 [])⟩
def TrTrk_6b (n0 : Nat) (c1 : List PV) (n2 : Nat) (c3 : List PV) (i4 i5 i6 i7 i8 i9 : Int) (n10 : Nat) : Q := ⟨(tm 101 [(0, (AV.p (PV.list n0 c1))), (5, (AV.app 33 n2 1 c3)), (7, AV.nilS), (8, (AV.p (PV.int .i64 i4))), (9, (AV.p (PV.int .i64 i5))), (10, (AV.lit 1 2 [(PV.int .i64 i6), (PV.int .i64 i7)])), (11, (AV.p (PV.int .i64 i8))), (12, (AV.p (PV.int .i64 i9)))]), (mm 101 [(33, (Bk.buf n10))])⟩
def TrTrk_6c (n0 : Nat) (c1 : List PV) (n2 : Nat) (c3 : List PV) (i4 i5 : Int) (n6 : Nat) (c7 : List PV) (i8 i9 : Int) (n10 n11 : Nat) : Q := ⟨(tm 101 [(0, (AV.p (PV.list n0 c1))), (5, (AV.app 33 n2 1 c3)), (7, AV.nilS), (8, (AV.p (PV.int .i64 i4))), (9, (AV.p (PV.int .i64 i5))), (10, (AV.app 95 n6 2 c7)), (11, (AV.p (PV.int .i64 i8))), (12, (AV.p (PV.int .i64 i9)))]), (mm 101 [(33, (Bk.buf n10)), (95, (Bk.buf n11))])⟩
def TrTrk_6d (n0 : Nat) (c1 : List PV) (n2 : Nat) (c3 : List PV) (i4 i5 i6 i7 i8 i9 : Int) (n10 : Nat) : Q := ⟨(tm 101 [(0, (AV.p (PV.list n0 c1))), (5, AV.nilS), (7, (AV.app 99 n2 1 c3)), (8, (AV.p (PV.int .i64 i4))), (9, (AV.p (PV.int .i64 i5))), (10, (AV.lit 1 2 [(PV.int .i64 i6), (PV.int .i64 i7)])), (11, (AV.p (PV.int .i64 i8))), (12, (AV.p (PV.int .i64 i9)))]), (mm 101 [(99, (Bk.buf n10))])⟩
def TrTrk_6e (n0 : Nat) (c1 : List PV) (n2 : Nat) (c3 : List PV) (n4 : Nat) (c5 : List PV) (i6 i7 i8 i9 i10 i11 : Int) (n12 n13 : Nat) : Q := ⟨(tm 101 [(0, (AV.p (PV.list n0 c1))), (5, (AV.app 33 n2 1 c3)), (7, (AV.app 99 n4 1 c5)), (8, (AV.p (PV.int .i64 i6))), (9, (AV.p (PV.int .i64 i7))), (10, (AV.lit 1 2 [(PV.int .i64 i8), (PV.int .i64 i9)])), (11, (AV.p (PV.int .i64 i10))), (12, (AV.p (PV.int .i64 i11)))]), (mm 101 [(33, (Bk.buf n12)), (99, (Bk.buf n13))])⟩
def TrTrk_6f (n0 : Nat) (c1 : List PV) (n2 : Nat) (c3 : List PV) (n4 : Nat) (c5 : List PV) (i6 i7 : Int) (n8 : Nat) (c9 : List PV) (i10 i11 : Int) (n12 n13 n14 : Nat) : Q := ⟨(tm 101 [(0, (AV.p (PV.list n0 c1))), (5, (AV.app 33 n2 1 c3)), (7, (AV.app 99 n4 1 c5)), (8, (AV.p (PV.int .i64 i6))), (9, (AV.p (PV.int .i64 i7))), (10, (AV.app 95 n8 2 c9)), (11, (AV.p (PV.int .i64 i10))), (12, (AV.p (PV.int .i64 i11)))]), (mm 101 [(33, (Bk.buf n12)), (95, (Bk.buf n13)), (99, (Bk.buf n14))])⟩
def XrTrk_6a (y : Nat × List PV × Int × Int) : Ext × Q := (Ext.normal, ⟨(tm 101 [(0, (AV.p (PV.list y.1 y.2.1))), (5, AV.nilS), (7, AV.nilS), (8, (AV.p (PV.int .i64 y.2.2.1))), (9, (AV.p (PV.int .i64 (0 : Int)))), (10, (AV.lit 1 2 [(PV.int .i64 y.2.2.2), (PV.int .i64 (0 : Int))]))]), (mm 101 [])⟩)
def IrTrk_6a (q : Ext × S) : Nat × List PV × Int × Int := ((pP_list0 (pA_p (avT q.2 0))), (pP_list1 (pA_p (avT q.2 0))), (pP_int1 (pA_p (avT q.2 8))), (pP_int1 (hdP (pA_lit2 (avT q.2 10)))))
def XrTrk_6b (y : Nat × List PV × Nat × List PV × Int × Int × Int × Int × Nat) : Ext × Q := (Ext.normal, ⟨(tm 101 [(0, (AV.p (PV.list y.1 y.2.1))), (5, (AV.app 33 y.2.2.1 1 y.2.2.2.1)), (7, AV.nilS), (8, (AV.p (PV.int .i64 y.2.2.2.2.1))), (9, (AV.p (PV.int .i64 y.2.2.2.2.2.1))), (10, (AV.lit 1 2 [(PV.int .i64 y.2.2.2.2.2.2.1), (PV.int .i64 y.2.2.2.2.2.2.2.1)]))]), (mm 101 [(33, (Bk.buf y.2.2.2.2.2.2.2.2))])⟩)
def IrTrk_6b (q : Ext × S) : Nat × List PV × Nat × List PV × Int × Int × Int × Int × Nat := ((pP_list0 (pA_p (avT q.2 0))), (pP_list1 (pA_p (avT q.2 0))), (pA_app1 (avT q.2 5)), (pA_app3 (avT q.2 5)), (pP_int1 (pA_p (avT q.2 8))), (pP_int1 (pA_p (avT q.2 9))), (pP_int1 (hdP (pA_lit2 (avT q.2 10)))), (pP_int1 (hdP (List.tail (pA_lit2 (avT q.2 10))))), (pB_buf0 (avM q.2 33)))
def XrTrk_6c (y : Nat × List PV × Nat × List PV × Int × Int × Nat × List PV × Nat × Nat) : Ext × Q := (Ext.normal, ⟨(tm 101 [(0, (AV.p (PV.list y.1 y.2.1))), (5, (AV.app 33 y.2.2.1 1 y.2.2.2.1)), (7, AV.nilS), (8, (AV.p (PV.int .i64 y.2.2.2.2.1))), (9, (AV.p (PV.int .i64 y.2.2.2.2.2.1))), (10, (AV.app 95 y.2.2.2.2.2.2.1 2 y.2.2.2.2.2.2.2.1))]), (mm 101 [(33, (Bk.buf y.2.2.2.2.2.2.2.2.1)), (95, (Bk.buf y.2.2.2.2.2.2.2.2.2))])⟩)
def IrTrk_6c (q : Ext × S) : Nat × List PV × Nat × List PV × Int × Int × Nat × List PV × Nat × Nat := ((pP_list0 (pA_p (avT q.2 0))), (pP_list1 (pA_p (avT q.2 0))), (pA_app1 (avT q.2 5)), (pA_app3 (avT q.2 5)), (pP_int1 (pA_p (avT q.2 8))), (pP_int1 (pA_p (avT q.2 9))), (pA_app1 (avT q.2 10)), (pA_app3 (avT q.2 10)), (pB_buf0 (avM q.2 33)), (pB_buf0 (avM q.2 95)))
def XrTrk_6d (y : Nat × List PV × Nat × List PV × Int × Int × Int × Int × Nat) : Ext × Q := (Ext.normal, ⟨(tm 101 [(0, (AV.p (PV.list y.1 y.2.1))), (5, AV.nilS), (7, (AV.app 99 y.2.2.1 1 y.2.2.2.1)), (8, (AV.p (PV.int .i64 y.2.2.2.2.1))), (9, (AV.p (PV.int .i64 y.2.2.2.2.2.1))), (10, (AV.lit 1 2 [(PV.int .i64 y.2.2.2.2.2.2.1), (PV.int .i64 y.2.2.2.2.2.2.2.1)]))]), (mm 101 [(99, (Bk.buf y.2.2.2.2.2.2.2.2))])⟩)
def IrTrk_6d (q : Ext × S) : Nat × List PV × Nat × List PV × Int × Int × Int × Int × Nat := ((pP_list0 (pA_p (avT q.2 0))), (pP_list1 (pA_p (avT q.2 0))), (pA_app1 (avT q.2 7)), (pA_app3 (avT q.2 7)), (pP_int1 (pA_p (avT q.2 8))), (pP_int1 (pA_p (avT q.2 9))), (pP_int1 (hdP (pA_lit2 (avT q.2 10)))), (pP_int1 (hdP (List.tail (pA_lit2 (avT q.2 10))))), (pB_buf0 (avM q.2 99)))
def XrTrk_6e (y : Nat × List PV × Nat × List PV × Nat × List PV × Int × Int × Int × Int × Nat × Nat) : Ext × Q := (Ext.normal, ⟨(tm 101 [(0, (AV.p (PV.list y.1 y.2.1))), (5, (AV.app 33 y.2.2.1 1 y.2.2.2.1)), (7, (AV.app 99 y.2.2.2.2.1 1 y.2.2.2.2.2.1)), (8, (AV.p (PV.int .i64 y.2.2.2.2.2.2.1))), (9, (AV.p (PV.int .i64 y.2.2.2.2.2.2.2.1))), (10, (AV.lit 1 2 [(PV.int .i64 y.2.2.2.2.2.2.2.2.1), (PV.int .i64 y.2.2.2.2.2.2.2.2.2.1)]))]), (mm 101 [(33, (Bk.buf y.2.2.2.2.2.2.2.2.2.2.1)), (99, (Bk.buf y.2.2.2.2.2.2.2.2.2.2.2))])⟩)
def IrTrk_6e (q : Ext × S) : Nat × List PV × Nat × List PV × Nat × List PV × Int × Int × Int × Int × Nat × Nat := ((pP_list0 (pA_p (avT q.2 0))), (pP_list1 (pA_p (avT q.2 0))), (pA_app1 (avT q.2 5)), (pA_app3 (avT q.2 5)), (pA_app1 (avT q.2 7)), (pA_app3 (avT q.2 7)), (pP_int1 (pA_p (avT q.2 8))), (pP_int1 (pA_p (avT q.2 9))), (pP_int1 (hdP (pA_lit2 (avT q.2 10)))), (pP_int1 (hdP (List.tail (pA_lit2 (avT q.2 10))))), (pB_buf0 (avM q.2 33)), (pB_buf0 (avM q.2 99)))
def XrTrk_6f (y : Nat × List PV × Nat × List PV × Nat × List PV × Int × Int × Nat × List PV × Nat × Nat × Nat) : Ext × Q := (Ext.normal, ⟨(tm 101 [(0, (AV.p (PV.list y.1 y.2.1))), (5, (AV.app 33 y.2.2.1 1 y.2.2.2.1)), (7, (AV.app 99 y.2.2.2.2.1 1 y.2.2.2.2.2.1)), (8, (AV.p (PV.int .i64 y.2.2.2.2.2.2.1))), (9, (AV.p (PV.int .i64 y.2.2.2.2.2.2.2.1))), (10, (AV.app 95 y.2.2.2.2.2.2.2.2.1 2 y.2.2.2.2.2.2.2.2.2.1))]), (mm 101 [(33, (Bk.buf y.2.2.2.2.2.2.2.2.2.2.1)), (95, (Bk.buf y.2.2.2.2.2.2.2.2.2.2.2.1)), (99, (Bk.buf y.2.2.2.2.2.2.2.2.2.2.2.2))])⟩)
def IrTrk_6f (q : Ext × S) : Nat × List PV × Nat × List PV × Nat × List PV × Int × Int × Nat × List PV × Nat × Nat × Nat := ((pP_list0 (pA_p (avT q.2 0))), (pP_list1 (pA_p (avT q.2 0))), (pA_app1 (avT q.2 5)), (pA_app3 (avT q.2 5)), (pA_app1 (avT q.2 7)), (pA_app3 (avT q.2 7)), (pP_int1 (pA_p (avT q.2 8))), (pP_int1 (pA_p (avT q.2 9))), (pA_app1 (avT q.2 10)), (pA_app3 (avT q.2 10)), (pB_buf0 (avM q.2 33)), (pB_buf0 (avM q.2 95)), (pB_buf0 (avM q.2 99)))
abbrev YrTrk_6 : Type := (Nat × List PV × Int × Int) ⊕ ((Nat × List PV × Nat × List PV × Int × Int × Int × Int × Nat) ⊕ ((Nat × List PV × Nat × List PV × Int × Int × Nat × List PV × Nat × Nat) ⊕ ((Nat × List PV × Nat × List PV × Int × Int × Int × Int × Nat) ⊕ ((Nat × List PV × Nat × List PV × Nat × List PV × Int × Int × Int × Int × Nat × Nat) ⊕ ((Nat × List PV × Nat × List PV × Nat × List PV × Int × Int × Nat × List PV × Nat × Nat × Nat))))))
def XLrTrk_6 : XL YrTrk_6 := .more XrTrk_6a (.more XrTrk_6b (.more XrTrk_6c (.more XrTrk_6d (.more XrTrk_6e (.one XrTrk_6f)))))
def IrTrk_6 (q : Ext × S) : YrTrk_6 := bif (cA (avT q.2 5) == 1) && (cA (avT q.2 7) == 1) then (Sum.inl (IrTrk_6a q)) else bif (cA (avT q.2 10) == 4) && (cA (avT q.2 5) == 5) && (cA (avT q.2 7) == 1) then (Sum.inr (Sum.inl (IrTrk_6b q))) else bif (cA (avT q.2 5) == 5) && (cA (avT q.2 7) == 1) then (Sum.inr (Sum.inr (Sum.inl (IrTrk_6c q)))) else bif (cA (avT q.2 5) == 1) then (Sum.inr (Sum.inr (Sum.inr (Sum.inl (IrTrk_6d q))))) else bif (cA (avT q.2 10) == 4) then (Sum.inr (Sum.inr (Sum.inr (Sum.inr (Sum.inl (IrTrk_6e q)))))) else (Sum.inr (Sum.inr (Sum.inr (Sum.inr (Sum.inr (IrTrk_6f q))))))
theorem XIrTrk_6a (y) : IrTrk_6 (xe (XrTrk_6a y)) = (Sum.inl y) := by kernel_rfl
theorem XIrTrk_6b (y) : IrTrk_6 (xe (XrTrk_6b y)) = (Sum.inr (Sum.inl y)) := by kernel_rfl
theorem XIrTrk_6c (y) : IrTrk_6 (xe (XrTrk_6c y)) = (Sum.inr (Sum.inr (Sum.inl y))) := by kernel_rfl
theorem XIrTrk_6d (y) : IrTrk_6 (xe (XrTrk_6d y)) = (Sum.inr (Sum.inr (Sum.inr (Sum.inl y)))) := by kernel_rfl
theorem XIrTrk_6e (y) : IrTrk_6 (xe (XrTrk_6e y)) = (Sum.inr (Sum.inr (Sum.inr (Sum.inr (Sum.inl y))))) := by kernel_rfl
theorem XIrTrk_6f (y) : IrTrk_6 (xe (XrTrk_6f y)) = (Sum.inr (Sum.inr (Sum.inr (Sum.inr (Sum.inr y))))) := by kernel_rfl
theorem XIrTrk_6 (y) : IrTrk_6 (xe (XLrTrk_6.fn y)) = y := (match y with | .inl y => XIrTrk_6a y | .inr y => (match y with | .inl y => XIrTrk_6b y | .inr y => (match y with | .inl y => XIrTrk_6c y | .inr y => (match y with | .inl y => XIrTrk_6d y | .inr y => (match y with | .inl y => XIrTrk_6e y | .inr y => XIrTrk_6f y)))))
noncomputable abbrev LrTrk_6 : Q → Option YrTrk_6 := lpO env a32.body 6 XLrTrk_6
noncomputable abbrev RrTrk_6 : Q → Option (Ext × S) := lpR env a32.body 6
theorem LrTrk_6a_of {s y} (h : RrTrk_6 s = exO (XrTrk_6a y)) : LrTrk_6 s = some (Sum.inl y) := lpO_of IrTrk_6 XIrTrk_6 (y := (Sum.inl y)) h
theorem LrTrk_6b_of {s y} (h : RrTrk_6 s = exO (XrTrk_6b y)) : LrTrk_6 s = some (Sum.inr (Sum.inl y)) := lpO_of IrTrk_6 XIrTrk_6 (y := (Sum.inr (Sum.inl y))) h
theorem LrTrk_6c_of {s y} (h : RrTrk_6 s = exO (XrTrk_6c y)) : LrTrk_6 s = some (Sum.inr (Sum.inr (Sum.inl y))) := lpO_of IrTrk_6 XIrTrk_6 (y := (Sum.inr (Sum.inr (Sum.inl y)))) h
theorem LrTrk_6d_of {s y} (h : RrTrk_6 s = exO (XrTrk_6d y)) : LrTrk_6 s = some (Sum.inr (Sum.inr (Sum.inr (Sum.inl y)))) := lpO_of IrTrk_6 XIrTrk_6 (y := (Sum.inr (Sum.inr (Sum.inr (Sum.inl y))))) h
theorem LrTrk_6e_of {s y} (h : RrTrk_6 s = exO (XrTrk_6e y)) : LrTrk_6 s = some (Sum.inr (Sum.inr (Sum.inr (Sum.inr (Sum.inl y))))) := lpO_of IrTrk_6 XIrTrk_6 (y := (Sum.inr (Sum.inr (Sum.inr (Sum.inr (Sum.inl y)))))) h
theorem LrTrk_6f_of {s y} (h : RrTrk_6 s = exO (XrTrk_6f y)) : LrTrk_6 s = some (Sum.inr (Sum.inr (Sum.inr (Sum.inr (Sum.inr y))))) := lpO_of IrTrk_6 XIrTrk_6 (y := (Sum.inr (Sum.inr (Sum.inr (Sum.inr (Sum.inr y)))))) h
theorem UrTrk : uniq ((blocksOf a32.body).map (·.1)) = true := by kernel_rfl
def BrTrk_0a (F : FnT) (N : QO) (E : EO) (_L0 : QQ YrTrk_0) (_L2 : QQ YrTrk_2) (_L4 : QQ YrTrk_4) (_L6 : QQ YrTrk_6) (n0 : Nat) (c1 : List PV) (i2 : Int) : OX :=
 bif (decide ((w64 ((0 : Int) + (1 : Int))) < (n0 : Int))) then
  bif (decide (((0 : Int) ≤ (0 : Int)) ∧ ((0 : Int) < (n0 : Int)))) then
   bindO (listC (c1[0]?)) fun x0 =>
   bif (decide (((0 : Int) ≤ (w64 ((0 : Int) + (1 : Int)))) ∧ ((w64 ((0 : Int) + (1 : Int))) < (n0 : Int)))) then
    bindO (listC (c1[1]?)) fun x1 =>
    bindO (F 26 (RSh.one CK.list) [(PV.list x0.1 x0.2), (PV.list x1.1 x1.2), (PV.int .i64 i2)]) fun (y2 : ((Nat) × (List PV))) =>
    N (TrTrk_0b n0 c1 i2 1 [(PV.list y2.1 y2.2)] (1 : Int) 1)
   else none
  else none
 else E (XrTrk_0a (n0, c1))
abbrev qM4_3 (L0 : QQ YrTrk_0) (L2 : QQ YrTrk_2) (L4 : QQ YrTrk_4) (L6 : QQ YrTrk_6) : List LoopO := [⟨0, YrTrk_0, L0, XLrTrk_0⟩, ⟨2, YrTrk_2, L2, XLrTrk_2⟩, ⟨4, YrTrk_4, L4, XLrTrk_4⟩, ⟨6, YrTrk_6, L6, XLrTrk_6⟩]
theorem BrTrk_0a_eq (F N E L0 L2 L4 L6 n0 c1 i2) : semB (callP F ErTrk 20) s32 (loopT (qM4_3 L0 L2 L4 L6)) 400 (blkIn a32.body 0) N E (TrTrk_0a n0 c1 i2) = BrTrk_0a F N E L0 L2 L4 L6 n0 c1 i2 := by kernel_rfl
theorem oqM4_3 : ∀ o ∈ qM4_3 LrTrk_0 LrTrk_2 LrTrk_4 LrTrk_6, LoopOOK env a32.body o := lo_cons (lpO_ok UrTrk) (lo_cons (lpO_ok UrTrk) (lo_cons (lpO_ok UrTrk) (lo_cons (lpO_ok UrTrk) lo_nil)))
theorem RrTrk_0a_of (n0 c1 i2) {r} (h : BrTrk_0a (Fn env) RrTrk_0 exO LrTrk_0 LrTrk_2 LrTrk_4 LrTrk_6 n0 c1 i2 = some r) : RrTrk_0 (TrTrk_0a n0 c1 i2) = some r :=
 lp_of ErTrk_ok (by kernel_rfl) oqM4_3 (by kernel_rfl) ((BrTrk_0a_eq _ _ _ _ _ _ _ _ _ _).trans h)
def BrTrk_0b (F : FnT) (N : QO) (E : EO) (_L0 : QQ YrTrk_0) (_L2 : QQ YrTrk_2) (_L4 : QQ YrTrk_4) (_L6 : QQ YrTrk_6) (n0 : Nat) (c1 : List PV) (i2 : Int) (n3 : Nat) (c4 : List PV) (i5 : Int) (n6 : Nat) : OX :=
 bif (decide ((w64 (i5 + (1 : Int))) < (n0 : Int))) then
  bif (decide (((0 : Int) ≤ i5) ∧ (i5 < (n0 : Int)))) then
   bindO (listC (c1[((Int.toNat i5) * 1)]?)) fun x0 =>
   bif (decide (((0 : Int) ≤ (w64 (i5 + (1 : Int)))) ∧ ((w64 (i5 + (1 : Int))) < (n0 : Int)))) then
    bindO (listC (c1[((Int.toNat (w64 (i5 + (1 : Int)))) * 1)]?)) fun x1 =>
    bindO (F 26 (RSh.one CK.list) [(PV.list x0.1 x0.2), (PV.list x1.1 x1.2), (PV.int .i64 i2)]) fun (y2 : ((Nat) × (List PV))) =>
    bif (decide ((n6 = n3) ∧ ((n3 + 1) ≤ big))) then
     N (TrTrk_0b n0 c1 i2 (n3 + 1) (c4 ++ [(PV.list y2.1 y2.2)]) (w64 (i5 + (1 : Int))) (n3 + 1))
    else none
   else none
  else none
 else E (XrTrk_0b (n0, c1, n3, c4, n6))
theorem BrTrk_0b_eq (F N E L0 L2 L4 L6 n0 c1 i2 n3 c4 i5 n6) : semB (callP F ErTrk 20) s32 (loopT (qM4_3 L0 L2 L4 L6)) 400 (blkIn a32.body 0) N E (TrTrk_0b n0 c1 i2 n3 c4 i5 n6) = BrTrk_0b F N E L0 L2 L4 L6 n0 c1 i2 n3 c4 i5 n6 := by kernel_rfl
theorem RrTrk_0b_of (n0 c1 i2 n3 c4 i5 n6) {r} (h : BrTrk_0b (Fn env) RrTrk_0 exO LrTrk_0 LrTrk_2 LrTrk_4 LrTrk_6 n0 c1 i2 n3 c4 i5 n6 = some r) : RrTrk_0 (TrTrk_0b n0 c1 i2 n3 c4 i5 n6) = some r :=
 lp_of ErTrk_ok (by kernel_rfl) oqM4_3 (by kernel_rfl) ((BrTrk_0b_eq _ _ _ _ _ _ _ _ _ _ _ _ _ _).trans h)
def BrTrk_2a (_F : FnT) (N : QO) (E : EO) (_L0 : QQ YrTrk_0) (_L2 : QQ YrTrk_2) (L4 : QQ YrTrk_4) (_L6 : QQ YrTrk_6) (n0 : Nat) (c1 : List PV) (i2 : Int) : OX :=
 bif (decide (i2 < (n0 : Int))) then
  bindO (L4 (TrTrk_4a n0 c1 i2)) fun z =>
  Sum.elim (fun y0 =>
   N (TrTrk_2a y0.1 y0.2.1 (w64 (y0.2.2 + (1 : Int))))) (fun z0 => Sum.elim (fun y1 =>
   N (TrTrk_2b y1.1 y1.2.1 y1.2.2.1 y1.2.2.2.1 (w64 (y1.2.2.2.2.1 + (1 : Int))) y1.2.2.2.2.2)) (fun z1 => Sum.elim (fun y2 =>
   N (TrTrk_2c y2.1 y2.2.1 y2.2.2.1 y2.2.2.2.1 (w64 (y2.2.2.2.2.1 + (1 : Int))) y2.2.2.2.2.2)) (fun y3 =>
   N (TrTrk_2d y3.1 y3.2.1 y3.2.2.1 y3.2.2.2.1 y3.2.2.2.2.1 y3.2.2.2.2.2.1 (w64 (y3.2.2.2.2.2.2.1 + (1 : Int))) y3.2.2.2.2.2.2.2.1 y3.2.2.2.2.2.2.2.2)) z1) z0) z
 else E (XrTrk_2a ())
theorem BrTrk_2a_eq (F N E L0 L2 L4 L6 n0 c1 i2) : semB (callP F ErTrk 20) s32 (loopT (qM4_3 L0 L2 L4 L6)) 400 (blkIn a32.body 2) N E (TrTrk_2a n0 c1 i2) = BrTrk_2a F N E L0 L2 L4 L6 n0 c1 i2 := by kernel_rfl
theorem RrTrk_2a_of (n0 c1 i2) {r} (h : BrTrk_2a (Fn env) RrTrk_2 exO LrTrk_0 LrTrk_2 LrTrk_4 LrTrk_6 n0 c1 i2 = some r) : RrTrk_2 (TrTrk_2a n0 c1 i2) = some r :=
 lp_of ErTrk_ok (by kernel_rfl) oqM4_3 (by kernel_rfl) ((BrTrk_2a_eq _ _ _ _ _ _ _ _ _ _).trans h)
def BrTrk_2b (_F : FnT) (N : QO) (E : EO) (_L0 : QQ YrTrk_0) (_L2 : QQ YrTrk_2) (L4 : QQ YrTrk_4) (_L6 : QQ YrTrk_6) (n0 : Nat) (c1 : List PV) (n2 : Nat) (c3 : List PV) (i4 : Int) (n5 : Nat) : OX :=
 bif (decide (i4 < (n0 : Int))) then
  bindO (L4 (TrTrk_4b n0 c1 n2 c3 i4 (0 : Int) n5)) fun z =>
  Sum.elim (fun y0 =>
   N (TrTrk_2a y0.1 y0.2.1 (w64 (y0.2.2 + (1 : Int))))) (fun z0 => Sum.elim (fun y1 =>
   N (TrTrk_2b y1.1 y1.2.1 y1.2.2.1 y1.2.2.2.1 (w64 (y1.2.2.2.2.1 + (1 : Int))) y1.2.2.2.2.2)) (fun z1 => Sum.elim (fun y2 =>
   N (TrTrk_2c y2.1 y2.2.1 y2.2.2.1 y2.2.2.2.1 (w64 (y2.2.2.2.2.1 + (1 : Int))) y2.2.2.2.2.2)) (fun y3 =>
   N (TrTrk_2d y3.1 y3.2.1 y3.2.2.1 y3.2.2.2.1 y3.2.2.2.2.1 y3.2.2.2.2.2.1 (w64 (y3.2.2.2.2.2.2.1 + (1 : Int))) y3.2.2.2.2.2.2.2.1 y3.2.2.2.2.2.2.2.2)) z1) z0) z
 else E (XrTrk_2b n5)
theorem BrTrk_2b_eq (F N E L0 L2 L4 L6 n0 c1 n2 c3 i4 n5) : semB (callP F ErTrk 20) s32 (loopT (qM4_3 L0 L2 L4 L6)) 400 (blkIn a32.body 2) N E (TrTrk_2b n0 c1 n2 c3 i4 n5) = BrTrk_2b F N E L0 L2 L4 L6 n0 c1 n2 c3 i4 n5 := by kernel_rfl
theorem RrTrk_2b_of (n0 c1 n2 c3 i4 n5) {r} (h : BrTrk_2b (Fn env) RrTrk_2 exO LrTrk_0 LrTrk_2 LrTrk_4 LrTrk_6 n0 c1 n2 c3 i4 n5 = some r) : RrTrk_2 (TrTrk_2b n0 c1 n2 c3 i4 n5) = some r :=
 lp_of ErTrk_ok (by kernel_rfl) oqM4_3 (by kernel_rfl) ((BrTrk_2b_eq _ _ _ _ _ _ _ _ _ _ _ _ _).trans h)
def BrTrk_2c (_F : FnT) (N : QO) (E : EO) (_L0 : QQ YrTrk_0) (_L2 : QQ YrTrk_2) (L4 : QQ YrTrk_4) (_L6 : QQ YrTrk_6) (n0 : Nat) (c1 : List PV) (n2 : Nat) (c3 : List PV) (i4 : Int) (n5 : Nat) : OX :=
 bif (decide (i4 < (n0 : Int))) then
  bindO (L4 (TrTrk_4c n0 c1 n2 c3 i4 (0 : Int) n5)) fun z =>
  Sum.elim (fun y0 =>
   N (TrTrk_2a y0.1 y0.2.1 (w64 (y0.2.2 + (1 : Int))))) (fun z0 => Sum.elim (fun y1 =>
   N (TrTrk_2b y1.1 y1.2.1 y1.2.2.1 y1.2.2.2.1 (w64 (y1.2.2.2.2.1 + (1 : Int))) y1.2.2.2.2.2)) (fun z1 => Sum.elim (fun y2 =>
   N (TrTrk_2c y2.1 y2.2.1 y2.2.2.1 y2.2.2.2.1 (w64 (y2.2.2.2.2.1 + (1 : Int))) y2.2.2.2.2.2)) (fun y3 =>
   N (TrTrk_2d y3.1 y3.2.1 y3.2.2.1 y3.2.2.2.1 y3.2.2.2.2.1 y3.2.2.2.2.2.1 (w64 (y3.2.2.2.2.2.2.1 + (1 : Int))) y3.2.2.2.2.2.2.2.1 y3.2.2.2.2.2.2.2.2)) z1) z0) z
 else E (XrTrk_2c (n2, c3, n5))
theorem BrTrk_2c_eq (F N E L0 L2 L4 L6 n0 c1 n2 c3 i4 n5) : semB (callP F ErTrk 20) s32 (loopT (qM4_3 L0 L2 L4 L6)) 400 (blkIn a32.body 2) N E (TrTrk_2c n0 c1 n2 c3 i4 n5) = BrTrk_2c F N E L0 L2 L4 L6 n0 c1 n2 c3 i4 n5 := by kernel_rfl
theorem RrTrk_2c_of (n0 c1 n2 c3 i4 n5) {r} (h : BrTrk_2c (Fn env) RrTrk_2 exO LrTrk_0 LrTrk_2 LrTrk_4 LrTrk_6 n0 c1 n2 c3 i4 n5 = some r) : RrTrk_2 (TrTrk_2c n0 c1 n2 c3 i4 n5) = some r :=
 lp_of ErTrk_ok (by kernel_rfl) oqM4_3 (by kernel_rfl) ((BrTrk_2c_eq _ _ _ _ _ _ _ _ _ _ _ _ _).trans h)
def BrTrk_2d (_F : FnT) (N : QO) (E : EO) (_L0 : QQ YrTrk_0) (_L2 : QQ YrTrk_2) (L4 : QQ YrTrk_4) (_L6 : QQ YrTrk_6) (n0 : Nat) (c1 : List PV) (n2 : Nat) (c3 : List PV) (n4 : Nat) (c5 : List PV) (i6 : Int) (n7 n8 : Nat) : OX :=
 bif (decide (i6 < (n0 : Int))) then
  bindO (L4 (TrTrk_4d n0 c1 n2 c3 n4 c5 i6 (0 : Int) n7 n8)) fun z =>
  Sum.elim (fun y0 =>
   N (TrTrk_2a y0.1 y0.2.1 (w64 (y0.2.2 + (1 : Int))))) (fun z0 => Sum.elim (fun y1 =>
   N (TrTrk_2b y1.1 y1.2.1 y1.2.2.1 y1.2.2.2.1 (w64 (y1.2.2.2.2.1 + (1 : Int))) y1.2.2.2.2.2)) (fun z1 => Sum.elim (fun y2 =>
   N (TrTrk_2c y2.1 y2.2.1 y2.2.2.1 y2.2.2.2.1 (w64 (y2.2.2.2.2.1 + (1 : Int))) y2.2.2.2.2.2)) (fun y3 =>
   N (TrTrk_2d y3.1 y3.2.1 y3.2.2.1 y3.2.2.2.1 y3.2.2.2.2.1 y3.2.2.2.2.2.1 (w64 (y3.2.2.2.2.2.2.1 + (1 : Int))) y3.2.2.2.2.2.2.2.1 y3.2.2.2.2.2.2.2.2)) z1) z0) z
 else E (XrTrk_2d (n4, c5, n7, n8))
theorem BrTrk_2d_eq (F N E L0 L2 L4 L6 n0 c1 n2 c3 n4 c5 i6 n7 n8) : semB (callP F ErTrk 20) s32 (loopT (qM4_3 L0 L2 L4 L6)) 400 (blkIn a32.body 2) N E (TrTrk_2d n0 c1 n2 c3 n4 c5 i6 n7 n8) = BrTrk_2d F N E L0 L2 L4 L6 n0 c1 n2 c3 n4 c5 i6 n7 n8 := by kernel_rfl
theorem RrTrk_2d_of (n0 c1 n2 c3 n4 c5 i6 n7 n8) {r} (h : BrTrk_2d (Fn env) RrTrk_2 exO LrTrk_0 LrTrk_2 LrTrk_4 LrTrk_6 n0 c1 n2 c3 n4 c5 i6 n7 n8 = some r) : RrTrk_2 (TrTrk_2d n0 c1 n2 c3 n4 c5 i6 n7 n8) = some r :=
 lp_of ErTrk_ok (by kernel_rfl) oqM4_3 (by kernel_rfl) ((BrTrk_2d_eq _ _ _ _ _ _ _ _ _ _ _ _ _ _ _ _).trans h)
def BrTrk_4a (_F : FnT) (N : QO) (E : EO) (_L0 : QQ YrTrk_0) (_L2 : QQ YrTrk_2) (_L4 : QQ YrTrk_4) (L6 : QQ YrTrk_6) (n0 : Nat) (c1 : List PV) (i2 : Int) : OX :=
 bif (decide (((0 : Int) ≤ i2) ∧ (i2 < (n0 : Int)))) then
  bindO (listC (c1[((Int.toNat i2) * 1)]?)) fun x0 =>
  bif (decide ((0 : Int) < (x0.1 : Int))) then
   bif (decide (i2 > (0 : Int))) then
    bif (decide (((0 : Int) ≤ (w64 (i2 - (1 : Int)))) ∧ ((w64 (i2 - (1 : Int))) < (0 : Int)))) then
     none
    else none
   else bindO (L6 (TrTrk_6a n0 c1 i2 i2 i2)) fun z =>
   Sum.elim (fun y1 =>
    N (TrTrk_4c y1.1 y1.2.1 1 [(PV.list 1 [(PV.int .i64 y1.2.2.2), (PV.int .i64 (0 : Int))])] y1.2.2.1 (1 : Int) 1)) (fun z0 => Sum.elim (fun y2 =>
    N (TrTrk_4d y2.1 y2.2.1 y2.2.2.1 y2.2.2.2.1 1 [(PV.list 1 [(PV.int .i64 y2.2.2.2.2.2.2.1), (PV.int .i64 y2.2.2.2.2.2.2.2.1)])] y2.2.2.2.2.1 (w64 (y2.2.2.2.2.2.1 + (1 : Int))) y2.2.2.2.2.2.2.2.2 1)) (fun z1 => Sum.elim (fun y3 =>
    N (TrTrk_4d y3.1 y3.2.1 y3.2.2.1 y3.2.2.2.1 1 [(PV.list y3.2.2.2.2.2.2.1 y3.2.2.2.2.2.2.2.1)] y3.2.2.2.2.1 (w64 (y3.2.2.2.2.2.1 + (1 : Int))) y3.2.2.2.2.2.2.2.2.1 1)) (fun z2 => Sum.elim (fun y4 =>
    bif (decide ((y4.2.2.2.2.2.2.2.2 = y4.2.2.1) ∧ ((y4.2.2.1 + 1) ≤ big))) then
     N (TrTrk_4c y4.1 y4.2.1 (y4.2.2.1 + 1) (y4.2.2.2.1 ++ [(PV.list 1 [(PV.int .i64 y4.2.2.2.2.2.2.1), (PV.int .i64 y4.2.2.2.2.2.2.2.1)])]) y4.2.2.2.2.1 (w64 (y4.2.2.2.2.2.1 + (1 : Int))) (y4.2.2.1 + 1))
    else none) (fun z3 => Sum.elim (fun y5 =>
    bif (decide ((y5.2.2.2.2.2.2.2.2.2.2.2 = y5.2.2.2.2.1) ∧ ((y5.2.2.2.2.1 + 1) ≤ big))) then
     N (TrTrk_4d y5.1 y5.2.1 y5.2.2.1 y5.2.2.2.1 (y5.2.2.2.2.1 + 1) (y5.2.2.2.2.2.1 ++ [(PV.list 1 [(PV.int .i64 y5.2.2.2.2.2.2.2.2.1), (PV.int .i64 y5.2.2.2.2.2.2.2.2.2.1)])]) y5.2.2.2.2.2.2.1 (w64 (y5.2.2.2.2.2.2.2.1 + (1 : Int))) y5.2.2.2.2.2.2.2.2.2.2.1 (y5.2.2.2.2.1 + 1))
    else none) (fun y6 =>
    bif (decide ((y6.2.2.2.2.2.2.2.2.2.2.2.2 = y6.2.2.2.2.1) ∧ ((y6.2.2.2.2.1 + 1) ≤ big))) then
     N (TrTrk_4d y6.1 y6.2.1 y6.2.2.1 y6.2.2.2.1 (y6.2.2.2.2.1 + 1) (y6.2.2.2.2.2.1 ++ [(PV.list y6.2.2.2.2.2.2.2.2.1 y6.2.2.2.2.2.2.2.2.2.1)]) y6.2.2.2.2.2.2.1 (w64 (y6.2.2.2.2.2.2.2.1 + (1 : Int))) y6.2.2.2.2.2.2.2.2.2.2.1 (y6.2.2.2.2.1 + 1))
    else none) z3) z2) z1) z0) z
  else E (XrTrk_4a (n0, c1, i2))
 else none
theorem BrTrk_4a_eq (F N E L0 L2 L4 L6 n0 c1 i2) : semB (callP F ErTrk 20) s32 (loopT (qM4_3 L0 L2 L4 L6)) 400 (blkIn a32.body 4) N E (TrTrk_4a n0 c1 i2) = BrTrk_4a F N E L0 L2 L4 L6 n0 c1 i2 := by kernel_rfl
theorem RrTrk_4a_of (n0 c1 i2) {r} (h : BrTrk_4a (Fn env) RrTrk_4 exO LrTrk_0 LrTrk_2 LrTrk_4 LrTrk_6 n0 c1 i2 = some r) : RrTrk_4 (TrTrk_4a n0 c1 i2) = some r :=
 lp_of ErTrk_ok (by kernel_rfl) oqM4_3 (by kernel_rfl) ((BrTrk_4a_eq _ _ _ _ _ _ _ _ _ _).trans h)
def BrTrk_4b (F : FnT) (N : QO) (E : EO) (_L0 : QQ YrTrk_0) (_L2 : QQ YrTrk_2) (_L4 : QQ YrTrk_4) (L6 : QQ YrTrk_6) (n0 : Nat) (c1 : List PV) (n2 : Nat) (c3 : List PV) (i4 i5 : Int) (n6 : Nat) : OX :=
 bif (decide (((0 : Int) ≤ i4) ∧ (i4 < (n0 : Int)))) then
  bindO (listC (c1[((Int.toNat i4) * 1)]?)) fun x0 =>
  bif (decide (i5 < (x0.1 : Int))) then
   bif (decide (i4 > (0 : Int))) then
    bif (decide (((0 : Int) ≤ (w64 (i4 - (1 : Int)))) ∧ ((w64 (i4 - (1 : Int))) < (n2 : Int)))) then
     bindO (listC (c3[((Int.toNat (w64 (i4 - (1 : Int)))) * 1)]?)) fun x1 =>
     bindO (F 19 (RSh.one CK.bool) [(PV.list x1.1 x1.2), (PV.int .i64 i5)]) fun (y2 : (Bool)) =>
     bif y2 then
      N (TrTrk_4b n0 c1 n2 c3 i4 (w64 (i5 + (1 : Int))) n6)
     else bindO (L6 (TrTrk_6b n0 c1 n2 c3 i4 i5 i4 i5 i5 i4 n6)) fun z =>
     Sum.elim (fun y3 =>
      N (TrTrk_4c y3.1 y3.2.1 1 [(PV.list 1 [(PV.int .i64 y3.2.2.2), (PV.int .i64 (0 : Int))])] y3.2.2.1 (1 : Int) 1)) (fun z0 => Sum.elim (fun y4 =>
      N (TrTrk_4d y4.1 y4.2.1 y4.2.2.1 y4.2.2.2.1 1 [(PV.list 1 [(PV.int .i64 y4.2.2.2.2.2.2.1), (PV.int .i64 y4.2.2.2.2.2.2.2.1)])] y4.2.2.2.2.1 (w64 (y4.2.2.2.2.2.1 + (1 : Int))) y4.2.2.2.2.2.2.2.2 1)) (fun z1 => Sum.elim (fun y5 =>
      N (TrTrk_4d y5.1 y5.2.1 y5.2.2.1 y5.2.2.2.1 1 [(PV.list y5.2.2.2.2.2.2.1 y5.2.2.2.2.2.2.2.1)] y5.2.2.2.2.1 (w64 (y5.2.2.2.2.2.1 + (1 : Int))) y5.2.2.2.2.2.2.2.2.1 1)) (fun z2 => Sum.elim (fun y6 =>
      bif (decide ((y6.2.2.2.2.2.2.2.2 = y6.2.2.1) ∧ ((y6.2.2.1 + 1) ≤ big))) then
       N (TrTrk_4c y6.1 y6.2.1 (y6.2.2.1 + 1) (y6.2.2.2.1 ++ [(PV.list 1 [(PV.int .i64 y6.2.2.2.2.2.2.1), (PV.int .i64 y6.2.2.2.2.2.2.2.1)])]) y6.2.2.2.2.1 (w64 (y6.2.2.2.2.2.1 + (1 : Int))) (y6.2.2.1 + 1))
      else none) (fun z3 => Sum.elim (fun y7 =>
      bif (decide ((y7.2.2.2.2.2.2.2.2.2.2.2 = y7.2.2.2.2.1) ∧ ((y7.2.2.2.2.1 + 1) ≤ big))) then
       N (TrTrk_4d y7.1 y7.2.1 y7.2.2.1 y7.2.2.2.1 (y7.2.2.2.2.1 + 1) (y7.2.2.2.2.2.1 ++ [(PV.list 1 [(PV.int .i64 y7.2.2.2.2.2.2.2.2.1), (PV.int .i64 y7.2.2.2.2.2.2.2.2.2.1)])]) y7.2.2.2.2.2.2.1 (w64 (y7.2.2.2.2.2.2.2.1 + (1 : Int))) y7.2.2.2.2.2.2.2.2.2.2.1 (y7.2.2.2.2.1 + 1))
      else none) (fun y8 =>
      bif (decide ((y8.2.2.2.2.2.2.2.2.2.2.2.2 = y8.2.2.2.2.1) ∧ ((y8.2.2.2.2.1 + 1) ≤ big))) then
       N (TrTrk_4d y8.1 y8.2.1 y8.2.2.1 y8.2.2.2.1 (y8.2.2.2.2.1 + 1) (y8.2.2.2.2.2.1 ++ [(PV.list y8.2.2.2.2.2.2.2.2.1 y8.2.2.2.2.2.2.2.2.2.1)]) y8.2.2.2.2.2.2.1 (w64 (y8.2.2.2.2.2.2.2.1 + (1 : Int))) y8.2.2.2.2.2.2.2.2.2.2.1 (y8.2.2.2.2.1 + 1))
      else none) z3) z2) z1) z0) z
    else none
   else bindO (L6 (TrTrk_6b n0 c1 n2 c3 i4 i5 i4 i5 i5 i4 n6)) fun z =>
   Sum.elim (fun y9 =>
    N (TrTrk_4c y9.1 y9.2.1 1 [(PV.list 1 [(PV.int .i64 y9.2.2.2), (PV.int .i64 (0 : Int))])] y9.2.2.1 (1 : Int) 1)) (fun z0 => Sum.elim (fun y10 =>
    N (TrTrk_4d y10.1 y10.2.1 y10.2.2.1 y10.2.2.2.1 1 [(PV.list 1 [(PV.int .i64 y10.2.2.2.2.2.2.1), (PV.int .i64 y10.2.2.2.2.2.2.2.1)])] y10.2.2.2.2.1 (w64 (y10.2.2.2.2.2.1 + (1 : Int))) y10.2.2.2.2.2.2.2.2 1)) (fun z1 => Sum.elim (fun y11 =>
    N (TrTrk_4d y11.1 y11.2.1 y11.2.2.1 y11.2.2.2.1 1 [(PV.list y11.2.2.2.2.2.2.1 y11.2.2.2.2.2.2.2.1)] y11.2.2.2.2.1 (w64 (y11.2.2.2.2.2.1 + (1 : Int))) y11.2.2.2.2.2.2.2.2.1 1)) (fun z2 => Sum.elim (fun y12 =>
    bif (decide ((y12.2.2.2.2.2.2.2.2 = y12.2.2.1) ∧ ((y12.2.2.1 + 1) ≤ big))) then
     N (TrTrk_4c y12.1 y12.2.1 (y12.2.2.1 + 1) (y12.2.2.2.1 ++ [(PV.list 1 [(PV.int .i64 y12.2.2.2.2.2.2.1), (PV.int .i64 y12.2.2.2.2.2.2.2.1)])]) y12.2.2.2.2.1 (w64 (y12.2.2.2.2.2.1 + (1 : Int))) (y12.2.2.1 + 1))
    else none) (fun z3 => Sum.elim (fun y13 =>
    bif (decide ((y13.2.2.2.2.2.2.2.2.2.2.2 = y13.2.2.2.2.1) ∧ ((y13.2.2.2.2.1 + 1) ≤ big))) then
     N (TrTrk_4d y13.1 y13.2.1 y13.2.2.1 y13.2.2.2.1 (y13.2.2.2.2.1 + 1) (y13.2.2.2.2.2.1 ++ [(PV.list 1 [(PV.int .i64 y13.2.2.2.2.2.2.2.2.1), (PV.int .i64 y13.2.2.2.2.2.2.2.2.2.1)])]) y13.2.2.2.2.2.2.1 (w64 (y13.2.2.2.2.2.2.2.1 + (1 : Int))) y13.2.2.2.2.2.2.2.2.2.2.1 (y13.2.2.2.2.1 + 1))
    else none) (fun y14 =>
    bif (decide ((y14.2.2.2.2.2.2.2.2.2.2.2.2 = y14.2.2.2.2.1) ∧ ((y14.2.2.2.2.1 + 1) ≤ big))) then
     N (TrTrk_4d y14.1 y14.2.1 y14.2.2.1 y14.2.2.2.1 (y14.2.2.2.2.1 + 1) (y14.2.2.2.2.2.1 ++ [(PV.list y14.2.2.2.2.2.2.2.2.1 y14.2.2.2.2.2.2.2.2.2.1)]) y14.2.2.2.2.2.2.1 (w64 (y14.2.2.2.2.2.2.2.1 + (1 : Int))) y14.2.2.2.2.2.2.2.2.2.2.1 (y14.2.2.2.2.1 + 1))
    else none) z3) z2) z1) z0) z
  else E (XrTrk_4b (n0, c1, n2, c3, i4, n6))
 else none
theorem BrTrk_4b_eq (F N E L0 L2 L4 L6 n0 c1 n2 c3 i4 i5 n6) : semB (callP F ErTrk 20) s32 (loopT (qM4_3 L0 L2 L4 L6)) 400 (blkIn a32.body 4) N E (TrTrk_4b n0 c1 n2 c3 i4 i5 n6) = BrTrk_4b F N E L0 L2 L4 L6 n0 c1 n2 c3 i4 i5 n6 := by kernel_rfl
theorem RrTrk_4b_of (n0 c1 n2 c3 i4 i5 n6) {r} (h : BrTrk_4b (Fn env) RrTrk_4 exO LrTrk_0 LrTrk_2 LrTrk_4 LrTrk_6 n0 c1 n2 c3 i4 i5 n6 = some r) : RrTrk_4 (TrTrk_4b n0 c1 n2 c3 i4 i5 n6) = some r :=
 lp_of ErTrk_ok (by kernel_rfl) oqM4_3 (by kernel_rfl) ((BrTrk_4b_eq _ _ _ _ _ _ _ _ _ _ _ _ _ _).trans h)
def BrTrk_4c (_F : FnT) (N : QO) (E : EO) (_L0 : QQ YrTrk_0) (_L2 : QQ YrTrk_2) (_L4 : QQ YrTrk_4) (L6 : QQ YrTrk_6) (n0 : Nat) (c1 : List PV) (n2 : Nat) (c3 : List PV) (i4 i5 : Int) (n6 : Nat) : OX :=
 bif (decide (((0 : Int) ≤ i4) ∧ (i4 < (n0 : Int)))) then
  bindO (listC (c1[((Int.toNat i4) * 1)]?)) fun x0 =>
  bif (decide (i5 < (x0.1 : Int))) then
   bif (decide (i4 > (0 : Int))) then
    bif (decide (((0 : Int) ≤ (w64 (i4 - (1 : Int)))) ∧ ((w64 (i4 - (1 : Int))) < (0 : Int)))) then
     none
    else none
   else bindO (L6 (TrTrk_6d n0 c1 n2 c3 i4 i5 i4 i5 i5 i4 n6)) fun z =>
   Sum.elim (fun y1 =>
    N (TrTrk_4c y1.1 y1.2.1 1 [(PV.list 1 [(PV.int .i64 y1.2.2.2), (PV.int .i64 (0 : Int))])] y1.2.2.1 (1 : Int) 1)) (fun z0 => Sum.elim (fun y2 =>
    N (TrTrk_4d y2.1 y2.2.1 y2.2.2.1 y2.2.2.2.1 1 [(PV.list 1 [(PV.int .i64 y2.2.2.2.2.2.2.1), (PV.int .i64 y2.2.2.2.2.2.2.2.1)])] y2.2.2.2.2.1 (w64 (y2.2.2.2.2.2.1 + (1 : Int))) y2.2.2.2.2.2.2.2.2 1)) (fun z1 => Sum.elim (fun y3 =>
    N (TrTrk_4d y3.1 y3.2.1 y3.2.2.1 y3.2.2.2.1 1 [(PV.list y3.2.2.2.2.2.2.1 y3.2.2.2.2.2.2.2.1)] y3.2.2.2.2.1 (w64 (y3.2.2.2.2.2.1 + (1 : Int))) y3.2.2.2.2.2.2.2.2.1 1)) (fun z2 => Sum.elim (fun y4 =>
    bif (decide ((y4.2.2.2.2.2.2.2.2 = y4.2.2.1) ∧ ((y4.2.2.1 + 1) ≤ big))) then
     N (TrTrk_4c y4.1 y4.2.1 (y4.2.2.1 + 1) (y4.2.2.2.1 ++ [(PV.list 1 [(PV.int .i64 y4.2.2.2.2.2.2.1), (PV.int .i64 y4.2.2.2.2.2.2.2.1)])]) y4.2.2.2.2.1 (w64 (y4.2.2.2.2.2.1 + (1 : Int))) (y4.2.2.1 + 1))
    else none) (fun z3 => Sum.elim (fun y5 =>
    bif (decide ((y5.2.2.2.2.2.2.2.2.2.2.2 = y5.2.2.2.2.1) ∧ ((y5.2.2.2.2.1 + 1) ≤ big))) then
     N (TrTrk_4d y5.1 y5.2.1 y5.2.2.1 y5.2.2.2.1 (y5.2.2.2.2.1 + 1) (y5.2.2.2.2.2.1 ++ [(PV.list 1 [(PV.int .i64 y5.2.2.2.2.2.2.2.2.1), (PV.int .i64 y5.2.2.2.2.2.2.2.2.2.1)])]) y5.2.2.2.2.2.2.1 (w64 (y5.2.2.2.2.2.2.2.1 + (1 : Int))) y5.2.2.2.2.2.2.2.2.2.2.1 (y5.2.2.2.2.1 + 1))
    else none) (fun y6 =>
    bif (decide ((y6.2.2.2.2.2.2.2.2.2.2.2.2 = y6.2.2.2.2.1) ∧ ((y6.2.2.2.2.1 + 1) ≤ big))) then
     N (TrTrk_4d y6.1 y6.2.1 y6.2.2.1 y6.2.2.2.1 (y6.2.2.2.2.1 + 1) (y6.2.2.2.2.2.1 ++ [(PV.list y6.2.2.2.2.2.2.2.2.1 y6.2.2.2.2.2.2.2.2.2.1)]) y6.2.2.2.2.2.2.1 (w64 (y6.2.2.2.2.2.2.2.1 + (1 : Int))) y6.2.2.2.2.2.2.2.2.2.2.1 (y6.2.2.2.2.1 + 1))
    else none) z3) z2) z1) z0) z
  else E (XrTrk_4c (n0, c1, n2, c3, i4, n6))
 else none
theorem BrTrk_4c_eq (F N E L0 L2 L4 L6 n0 c1 n2 c3 i4 i5 n6) : semB (callP F ErTrk 20) s32 (loopT (qM4_3 L0 L2 L4 L6)) 400 (blkIn a32.body 4) N E (TrTrk_4c n0 c1 n2 c3 i4 i5 n6) = BrTrk_4c F N E L0 L2 L4 L6 n0 c1 n2 c3 i4 i5 n6 := by kernel_rfl
theorem RrTrk_4c_of (n0 c1 n2 c3 i4 i5 n6) {r} (h : BrTrk_4c (Fn env) RrTrk_4 exO LrTrk_0 LrTrk_2 LrTrk_4 LrTrk_6 n0 c1 n2 c3 i4 i5 n6 = some r) : RrTrk_4 (TrTrk_4c n0 c1 n2 c3 i4 i5 n6) = some r :=
 lp_of ErTrk_ok (by kernel_rfl) oqM4_3 (by kernel_rfl) ((BrTrk_4c_eq _ _ _ _ _ _ _ _ _ _ _ _ _ _).trans h)
def BrTrk_4d (F : FnT) (N : QO) (E : EO) (_L0 : QQ YrTrk_0) (_L2 : QQ YrTrk_2) (_L4 : QQ YrTrk_4) (L6 : QQ YrTrk_6) (n0 : Nat) (c1 : List PV) (n2 : Nat) (c3 : List PV) (n4 : Nat) (c5 : List PV) (i6 i7 : Int) (n8 n9 : Nat) : OX :=
 bif (decide (((0 : Int) ≤ i6) ∧ (i6 < (n0 : Int)))) then
  bindO (listC (c1[((Int.toNat i6) * 1)]?)) fun x0 =>
  bif (decide (i7 < (x0.1 : Int))) then
   bif (decide (i6 > (0 : Int))) then
    bif (decide (((0 : Int) ≤ (w64 (i6 - (1 : Int)))) ∧ ((w64 (i6 - (1 : Int))) < (n2 : Int)))) then
     bindO (listC (c3[((Int.toNat (w64 (i6 - (1 : Int)))) * 1)]?)) fun x1 =>
     bindO (F 19 (RSh.one CK.bool) [(PV.list x1.1 x1.2), (PV.int .i64 i7)]) fun (y2 : (Bool)) =>
     bif y2 then
      N (TrTrk_4d n0 c1 n2 c3 n4 c5 i6 (w64 (i7 + (1 : Int))) n8 n9)
     else bindO (L6 (TrTrk_6e n0 c1 n2 c3 n4 c5 i6 i7 i6 i7 i7 i6 n8 n9)) fun z =>
     Sum.elim (fun y3 =>
      N (TrTrk_4c y3.1 y3.2.1 1 [(PV.list 1 [(PV.int .i64 y3.2.2.2), (PV.int .i64 (0 : Int))])] y3.2.2.1 (1 : Int) 1)) (fun z0 => Sum.elim (fun y4 =>
      N (TrTrk_4d y4.1 y4.2.1 y4.2.2.1 y4.2.2.2.1 1 [(PV.list 1 [(PV.int .i64 y4.2.2.2.2.2.2.1), (PV.int .i64 y4.2.2.2.2.2.2.2.1)])] y4.2.2.2.2.1 (w64 (y4.2.2.2.2.2.1 + (1 : Int))) y4.2.2.2.2.2.2.2.2 1)) (fun z1 => Sum.elim (fun y5 =>
      N (TrTrk_4d y5.1 y5.2.1 y5.2.2.1 y5.2.2.2.1 1 [(PV.list y5.2.2.2.2.2.2.1 y5.2.2.2.2.2.2.2.1)] y5.2.2.2.2.1 (w64 (y5.2.2.2.2.2.1 + (1 : Int))) y5.2.2.2.2.2.2.2.2.1 1)) (fun z2 => Sum.elim (fun y6 =>
      bif (decide ((y6.2.2.2.2.2.2.2.2 = y6.2.2.1) ∧ ((y6.2.2.1 + 1) ≤ big))) then
       N (TrTrk_4c y6.1 y6.2.1 (y6.2.2.1 + 1) (y6.2.2.2.1 ++ [(PV.list 1 [(PV.int .i64 y6.2.2.2.2.2.2.1), (PV.int .i64 y6.2.2.2.2.2.2.2.1)])]) y6.2.2.2.2.1 (w64 (y6.2.2.2.2.2.1 + (1 : Int))) (y6.2.2.1 + 1))
      else none) (fun z3 => Sum.elim (fun y7 =>
      bif (decide ((y7.2.2.2.2.2.2.2.2.2.2.2 = y7.2.2.2.2.1) ∧ ((y7.2.2.2.2.1 + 1) ≤ big))) then
       N (TrTrk_4d y7.1 y7.2.1 y7.2.2.1 y7.2.2.2.1 (y7.2.2.2.2.1 + 1) (y7.2.2.2.2.2.1 ++ [(PV.list 1 [(PV.int .i64 y7.2.2.2.2.2.2.2.2.1), (PV.int .i64 y7.2.2.2.2.2.2.2.2.2.1)])]) y7.2.2.2.2.2.2.1 (w64 (y7.2.2.2.2.2.2.2.1 + (1 : Int))) y7.2.2.2.2.2.2.2.2.2.2.1 (y7.2.2.2.2.1 + 1))
      else none) (fun y8 =>
      bif (decide ((y8.2.2.2.2.2.2.2.2.2.2.2.2 = y8.2.2.2.2.1) ∧ ((y8.2.2.2.2.1 + 1) ≤ big))) then
       N (TrTrk_4d y8.1 y8.2.1 y8.2.2.1 y8.2.2.2.1 (y8.2.2.2.2.1 + 1) (y8.2.2.2.2.2.1 ++ [(PV.list y8.2.2.2.2.2.2.2.2.1 y8.2.2.2.2.2.2.2.2.2.1)]) y8.2.2.2.2.2.2.1 (w64 (y8.2.2.2.2.2.2.2.1 + (1 : Int))) y8.2.2.2.2.2.2.2.2.2.2.1 (y8.2.2.2.2.1 + 1))
      else none) z3) z2) z1) z0) z
    else none
   else bindO (L6 (TrTrk_6e n0 c1 n2 c3 n4 c5 i6 i7 i6 i7 i7 i6 n8 n9)) fun z =>
   Sum.elim (fun y9 =>
    N (TrTrk_4c y9.1 y9.2.1 1 [(PV.list 1 [(PV.int .i64 y9.2.2.2), (PV.int .i64 (0 : Int))])] y9.2.2.1 (1 : Int) 1)) (fun z0 => Sum.elim (fun y10 =>
    N (TrTrk_4d y10.1 y10.2.1 y10.2.2.1 y10.2.2.2.1 1 [(PV.list 1 [(PV.int .i64 y10.2.2.2.2.2.2.1), (PV.int .i64 y10.2.2.2.2.2.2.2.1)])] y10.2.2.2.2.1 (w64 (y10.2.2.2.2.2.1 + (1 : Int))) y10.2.2.2.2.2.2.2.2 1)) (fun z1 => Sum.elim (fun y11 =>
    N (TrTrk_4d y11.1 y11.2.1 y11.2.2.1 y11.2.2.2.1 1 [(PV.list y11.2.2.2.2.2.2.1 y11.2.2.2.2.2.2.2.1)] y11.2.2.2.2.1 (w64 (y11.2.2.2.2.2.1 + (1 : Int))) y11.2.2.2.2.2.2.2.2.1 1)) (fun z2 => Sum.elim (fun y12 =>
    bif (decide ((y12.2.2.2.2.2.2.2.2 = y12.2.2.1) ∧ ((y12.2.2.1 + 1) ≤ big))) then
     N (TrTrk_4c y12.1 y12.2.1 (y12.2.2.1 + 1) (y12.2.2.2.1 ++ [(PV.list 1 [(PV.int .i64 y12.2.2.2.2.2.2.1), (PV.int .i64 y12.2.2.2.2.2.2.2.1)])]) y12.2.2.2.2.1 (w64 (y12.2.2.2.2.2.1 + (1 : Int))) (y12.2.2.1 + 1))
    else none) (fun z3 => Sum.elim (fun y13 =>
    bif (decide ((y13.2.2.2.2.2.2.2.2.2.2.2 = y13.2.2.2.2.1) ∧ ((y13.2.2.2.2.1 + 1) ≤ big))) then
     N (TrTrk_4d y13.1 y13.2.1 y13.2.2.1 y13.2.2.2.1 (y13.2.2.2.2.1 + 1) (y13.2.2.2.2.2.1 ++ [(PV.list 1 [(PV.int .i64 y13.2.2.2.2.2.2.2.2.1), (PV.int .i64 y13.2.2.2.2.2.2.2.2.2.1)])]) y13.2.2.2.2.2.2.1 (w64 (y13.2.2.2.2.2.2.2.1 + (1 : Int))) y13.2.2.2.2.2.2.2.2.2.2.1 (y13.2.2.2.2.1 + 1))
    else none) (fun y14 =>
    bif (decide ((y14.2.2.2.2.2.2.2.2.2.2.2.2 = y14.2.2.2.2.1) ∧ ((y14.2.2.2.2.1 + 1) ≤ big))) then
     N (TrTrk_4d y14.1 y14.2.1 y14.2.2.1 y14.2.2.2.1 (y14.2.2.2.2.1 + 1) (y14.2.2.2.2.2.1 ++ [(PV.list y14.2.2.2.2.2.2.2.2.1 y14.2.2.2.2.2.2.2.2.2.1)]) y14.2.2.2.2.2.2.1 (w64 (y14.2.2.2.2.2.2.2.1 + (1 : Int))) y14.2.2.2.2.2.2.2.2.2.2.1 (y14.2.2.2.2.1 + 1))
    else none) z3) z2) z1) z0) z
  else E (XrTrk_4d (n0, c1, n2, c3, n4, c5, i6, n8, n9))
 else none
theorem BrTrk_4d_eq (F N E L0 L2 L4 L6 n0 c1 n2 c3 n4 c5 i6 i7 n8 n9) : semB (callP F ErTrk 20) s32 (loopT (qM4_3 L0 L2 L4 L6)) 400 (blkIn a32.body 4) N E (TrTrk_4d n0 c1 n2 c3 n4 c5 i6 i7 n8 n9) = BrTrk_4d F N E L0 L2 L4 L6 n0 c1 n2 c3 n4 c5 i6 i7 n8 n9 := by kernel_rfl
theorem RrTrk_4d_of (n0 c1 n2 c3 n4 c5 i6 i7 n8 n9) {r} (h : BrTrk_4d (Fn env) RrTrk_4 exO LrTrk_0 LrTrk_2 LrTrk_4 LrTrk_6 n0 c1 n2 c3 n4 c5 i6 i7 n8 n9 = some r) : RrTrk_4 (TrTrk_4d n0 c1 n2 c3 n4 c5 i6 i7 n8 n9) = some r :=
 lp_of ErTrk_ok (by kernel_rfl) oqM4_3 (by kernel_rfl) ((BrTrk_4d_eq _ _ _ _ _ _ _ _ _ _ _ _ _ _ _ _ _).trans h)
def BrTrk_6a (_F : FnT) (_N : QO) (E : EO) (_L0 : QQ YrTrk_0) (_L2 : QQ YrTrk_2) (_L4 : QQ YrTrk_4) (_L6 : QQ YrTrk_6) (n0 : Nat) (c1 : List PV) (i2 i3 i4 : Int) : OX :=
 bif (decide (i4 < (0 : Int))) then
  bif (decide (((0 : Int) ≤ i4) ∧ (i4 < (0 : Int)))) then
   none
  else none
 else E (XrTrk_6a (n0, c1, i2, i3))
theorem BrTrk_6a_eq (F N E L0 L2 L4 L6 n0 c1 i2 i3 i4) : semB (callP F ErTrk 20) s32 (loopT (qM4_3 L0 L2 L4 L6)) 400 (blkIn a32.body 6) N E (TrTrk_6a n0 c1 i2 i3 i4) = BrTrk_6a F N E L0 L2 L4 L6 n0 c1 i2 i3 i4 := by kernel_rfl
theorem RrTrk_6a_of (n0 c1 i2 i3 i4) {r} (h : BrTrk_6a (Fn env) RrTrk_6 exO LrTrk_0 LrTrk_2 LrTrk_4 LrTrk_6 n0 c1 i2 i3 i4 = some r) : RrTrk_6 (TrTrk_6a n0 c1 i2 i3 i4) = some r :=
 lp_of ErTrk_ok (by kernel_rfl) oqM4_3 (by kernel_rfl) ((BrTrk_6a_eq _ _ _ _ _ _ _ _ _ _ _ _).trans h)
def BrTrk_6b (_F : FnT) (N : QO) (E : EO) (_L0 : QQ YrTrk_0) (_L2 : QQ YrTrk_2) (_L4 : QQ YrTrk_4) (_L6 : QQ YrTrk_6) (n0 : Nat) (c1 : List PV) (n2 : Nat) (c3 : List PV) (i4 i5 i6 i7 i8 i9 : Int) (n10 : Nat) : OX :=
 bif (decide (i9 < (n2 : Int))) then
  bif (decide (((0 : Int) ≤ i9) ∧ (i9 < (n2 : Int)))) then
   bindO (listC (c3[((Int.toNat i9) * 1)]?)) fun x0 =>
   bif (decide (((0 : Int) ≤ i8) ∧ (i8 < (x0.1 : Int)))) then
    bindO (intC .i64 (x0.2[((Int.toNat i8) * 1)]?)) fun x1 =>
    bif (decide (x1 ≥ (0 : Int))) then
     bif (decide (((0 : Int) ≤ i9) ∧ (i9 < (n2 : Int)))) then
      bindO (listC (c3[((Int.toNat i9) * 1)]?)) fun x2 =>
      bif (decide (((0 : Int) ≤ i8) ∧ (i8 < (x2.1 : Int)))) then
       bindO (intC .i64 (x2.2[((Int.toNat i8) * 1)]?)) fun x3 =>
       N (TrTrk_6c n0 c1 n2 c3 i4 i5 2 [(PV.int .i64 i6), (PV.int .i64 i7), (PV.int .i64 (w64 (i9 + (1 : Int)))), (PV.int .i64 x3)] x3 (w64 (i9 + (1 : Int))) n10 2)
      else none
     else none
    else E (XrTrk_6b (n0, c1, n2, c3, i4, i5, i6, i7, n10))
   else none
  else none
 else E (XrTrk_6b (n0, c1, n2, c3, i4, i5, i6, i7, n10))
theorem BrTrk_6b_eq (F N E L0 L2 L4 L6 n0 c1 n2 c3 i4 i5 i6 i7 i8 i9 n10) : semB (callP F ErTrk 20) s32 (loopT (qM4_3 L0 L2 L4 L6)) 400 (blkIn a32.body 6) N E (TrTrk_6b n0 c1 n2 c3 i4 i5 i6 i7 i8 i9 n10) = BrTrk_6b F N E L0 L2 L4 L6 n0 c1 n2 c3 i4 i5 i6 i7 i8 i9 n10 := by kernel_rfl
theorem RrTrk_6b_of (n0 c1 n2 c3 i4 i5 i6 i7 i8 i9 n10) {r} (h : BrTrk_6b (Fn env) RrTrk_6 exO LrTrk_0 LrTrk_2 LrTrk_4 LrTrk_6 n0 c1 n2 c3 i4 i5 i6 i7 i8 i9 n10 = some r) : RrTrk_6 (TrTrk_6b n0 c1 n2 c3 i4 i5 i6 i7 i8 i9 n10) = some r :=
 lp_of ErTrk_ok (by kernel_rfl) oqM4_3 (by kernel_rfl) ((BrTrk_6b_eq _ _ _ _ _ _ _ _ _ _ _ _ _ _ _ _ _ _).trans h)
def BrTrk_6c (_F : FnT) (N : QO) (E : EO) (_L0 : QQ YrTrk_0) (_L2 : QQ YrTrk_2) (_L4 : QQ YrTrk_4) (_L6 : QQ YrTrk_6) (n0 : Nat) (c1 : List PV) (n2 : Nat) (c3 : List PV) (i4 i5 : Int) (n6 : Nat) (c7 : List PV) (i8 i9 : Int) (n10 n11 : Nat) : OX :=
 bif (decide (i9 < (n2 : Int))) then
  bif (decide (((0 : Int) ≤ i9) ∧ (i9 < (n2 : Int)))) then
   bindO (listC (c3[((Int.toNat i9) * 1)]?)) fun x0 =>
   bif (decide (((0 : Int) ≤ i8) ∧ (i8 < (x0.1 : Int)))) then
    bindO (intC .i64 (x0.2[((Int.toNat i8) * 1)]?)) fun x1 =>
    bif (decide (x1 ≥ (0 : Int))) then
     bif (decide (((0 : Int) ≤ i9) ∧ (i9 < (n2 : Int)))) then
      bindO (listC (c3[((Int.toNat i9) * 1)]?)) fun x2 =>
      bif (decide (((0 : Int) ≤ i8) ∧ (i8 < (x2.1 : Int)))) then
       bindO (intC .i64 (x2.2[((Int.toNat i8) * 1)]?)) fun x3 =>
       bif (decide ((n11 = n6) ∧ ((n6 + 1) ≤ big))) then
        N (TrTrk_6c n0 c1 n2 c3 i4 i5 (n6 + 1) (c7 ++ [(PV.int .i64 (w64 (i9 + (1 : Int)))), (PV.int .i64 x3)]) x3 (w64 (i9 + (1 : Int))) n10 (n6 + 1))
       else none
      else none
     else none
    else E (XrTrk_6c (n0, c1, n2, c3, i4, i5, n6, c7, n10, n11))
   else none
  else none
 else E (XrTrk_6c (n0, c1, n2, c3, i4, i5, n6, c7, n10, n11))
theorem BrTrk_6c_eq (F N E L0 L2 L4 L6 n0 c1 n2 c3 i4 i5 n6 c7 i8 i9 n10 n11) : semB (callP F ErTrk 20) s32 (loopT (qM4_3 L0 L2 L4 L6)) 400 (blkIn a32.body 6) N E (TrTrk_6c n0 c1 n2 c3 i4 i5 n6 c7 i8 i9 n10 n11) = BrTrk_6c F N E L0 L2 L4 L6 n0 c1 n2 c3 i4 i5 n6 c7 i8 i9 n10 n11 := by kernel_rfl
theorem RrTrk_6c_of (n0 c1 n2 c3 i4 i5 n6 c7 i8 i9 n10 n11) {r} (h : BrTrk_6c (Fn env) RrTrk_6 exO LrTrk_0 LrTrk_2 LrTrk_4 LrTrk_6 n0 c1 n2 c3 i4 i5 n6 c7 i8 i9 n10 n11 = some r) : RrTrk_6 (TrTrk_6c n0 c1 n2 c3 i4 i5 n6 c7 i8 i9 n10 n11) = some r :=
 lp_of ErTrk_ok (by kernel_rfl) oqM4_3 (by kernel_rfl) ((BrTrk_6c_eq _ _ _ _ _ _ _ _ _ _ _ _ _ _ _ _ _ _ _).trans h)
def BrTrk_6d (_F : FnT) (_N : QO) (E : EO) (_L0 : QQ YrTrk_0) (_L2 : QQ YrTrk_2) (_L4 : QQ YrTrk_4) (_L6 : QQ YrTrk_6) (n0 : Nat) (c1 : List PV) (n2 : Nat) (c3 : List PV) (i4 i5 i6 i7 _i8 i9 : Int) (n10 : Nat) : OX :=
 bif (decide (i9 < (0 : Int))) then
  bif (decide (((0 : Int) ≤ i9) ∧ (i9 < (0 : Int)))) then
   none
  else none
 else E (XrTrk_6d (n0, c1, n2, c3, i4, i5, i6, i7, n10))
theorem BrTrk_6d_eq (F N E L0 L2 L4 L6 n0 c1 n2 c3 i4 i5 i6 i7 i8 i9 n10) : semB (callP F ErTrk 20) s32 (loopT (qM4_3 L0 L2 L4 L6)) 400 (blkIn a32.body 6) N E (TrTrk_6d n0 c1 n2 c3 i4 i5 i6 i7 i8 i9 n10) = BrTrk_6d F N E L0 L2 L4 L6 n0 c1 n2 c3 i4 i5 i6 i7 i8 i9 n10 := by kernel_rfl
theorem RrTrk_6d_of (n0 c1 n2 c3 i4 i5 i6 i7 i8 i9 n10) {r} (h : BrTrk_6d (Fn env) RrTrk_6 exO LrTrk_0 LrTrk_2 LrTrk_4 LrTrk_6 n0 c1 n2 c3 i4 i5 i6 i7 i8 i9 n10 = some r) : RrTrk_6 (TrTrk_6d n0 c1 n2 c3 i4 i5 i6 i7 i8 i9 n10) = some r :=
 lp_of ErTrk_ok (by kernel_rfl) oqM4_3 (by kernel_rfl) ((BrTrk_6d_eq _ _ _ _ _ _ _ _ _ _ _ _ _ _ _ _ _ _).trans h)
def BrTrk_6e (_F : FnT) (N : QO) (E : EO) (_L0 : QQ YrTrk_0) (_L2 : QQ YrTrk_2) (_L4 : QQ YrTrk_4) (_L6 : QQ YrTrk_6) (n0 : Nat) (c1 : List PV) (n2 : Nat) (c3 : List PV) (n4 : Nat) (c5 : List PV) (i6 i7 i8 i9 i10 i11 : Int) (n12 n13 : Nat) : OX :=
 bif (decide (i11 < (n2 : Int))) then
  bif (decide (((0 : Int) ≤ i11) ∧ (i11 < (n2 : Int)))) then
   bindO (listC (c3[((Int.toNat i11) * 1)]?)) fun x0 =>
   bif (decide (((0 : Int) ≤ i10) ∧ (i10 < (x0.1 : Int)))) then
    bindO (intC .i64 (x0.2[((Int.toNat i10) * 1)]?)) fun x1 =>
    bif (decide (x1 ≥ (0 : Int))) then
     bif (decide (((0 : Int) ≤ i11) ∧ (i11 < (n2 : Int)))) then
      bindO (listC (c3[((Int.toNat i11) * 1)]?)) fun x2 =>
      bif (decide (((0 : Int) ≤ i10) ∧ (i10 < (x2.1 : Int)))) then
       bindO (intC .i64 (x2.2[((Int.toNat i10) * 1)]?)) fun x3 =>
       N (TrTrk_6f n0 c1 n2 c3 n4 c5 i6 i7 2 [(PV.int .i64 i8), (PV.int .i64 i9), (PV.int .i64 (w64 (i11 + (1 : Int)))), (PV.int .i64 x3)] x3 (w64 (i11 + (1 : Int))) n12 2 n13)
      else none
     else none
    else E (XrTrk_6e (n0, c1, n2, c3, n4, c5, i6, i7, i8, i9, n12, n13))
   else none
  else none
 else E (XrTrk_6e (n0, c1, n2, c3, n4, c5, i6, i7, i8, i9, n12, n13))
theorem BrTrk_6e_eq (F N E L0 L2 L4 L6 n0 c1 n2 c3 n4 c5 i6 i7 i8 i9 i10 i11 n12 n13) : semB (callP F ErTrk 20) s32 (loopT (qM4_3 L0 L2 L4 L6)) 400 (blkIn a32.body 6) N E (TrTrk_6e n0 c1 n2 c3 n4 c5 i6 i7 i8 i9 i10 i11 n12 n13) = BrTrk_6e F N E L0 L2 L4 L6 n0 c1 n2 c3 n4 c5 i6 i7 i8 i9 i10 i11 n12 n13 := by kernel_rfl
theorem RrTrk_6e_of (n0 c1 n2 c3 n4 c5 i6 i7 i8 i9 i10 i11 n12 n13) {r} (h : BrTrk_6e (Fn env) RrTrk_6 exO LrTrk_0 LrTrk_2 LrTrk_4 LrTrk_6 n0 c1 n2 c3 n4 c5 i6 i7 i8 i9 i10 i11 n12 n13 = some r) : RrTrk_6 (TrTrk_6e n0 c1 n2 c3 n4 c5 i6 i7 i8 i9 i10 i11 n12 n13) = some r :=
 lp_of ErTrk_ok (by kernel_rfl) oqM4_3 (by kernel_rfl) ((BrTrk_6e_eq _ _ _ _ _ _ _ _ _ _ _ _ _ _ _ _ _ _ _ _ _).trans h)
def BrTrk_6f (_F : FnT) (N : QO) (E : EO) (_L0 : QQ YrTrk_0) (_L2 : QQ YrTrk_2) (_L4 : QQ YrTrk_4) (_L6 : QQ YrTrk_6) (n0 : Nat) (c1 : List PV) (n2 : Nat) (c3 : List PV) (n4 : Nat) (c5 : List PV) (i6 i7 : Int) (n8 : Nat) (c9 : List PV) (i10 i11 : Int) (n12 n13 n14 : Nat) : OX :=
 bif (decide (i11 < (n2 : Int))) then
  bif (decide (((0 : Int) ≤ i11) ∧ (i11 < (n2 : Int)))) then
   bindO (listC (c3[((Int.toNat i11) * 1)]?)) fun x0 =>
   bif (decide (((0 : Int) ≤ i10) ∧ (i10 < (x0.1 : Int)))) then
    bindO (intC .i64 (x0.2[((Int.toNat i10) * 1)]?)) fun x1 =>
    bif (decide (x1 ≥ (0 : Int))) then
     bif (decide (((0 : Int) ≤ i11) ∧ (i11 < (n2 : Int)))) then
      bindO (listC (c3[((Int.toNat i11) * 1)]?)) fun x2 =>
      bif (decide (((0 : Int) ≤ i10) ∧ (i10 < (x2.1 : Int)))) then
       bindO (intC .i64 (x2.2[((Int.toNat i10) * 1)]?)) fun x3 =>
       bif (decide ((n13 = n8) ∧ ((n8 + 1) ≤ big))) then
        N (TrTrk_6f n0 c1 n2 c3 n4 c5 i6 i7 (n8 + 1) (c9 ++ [(PV.int .i64 (w64 (i11 + (1 : Int)))), (PV.int .i64 x3)]) x3 (w64 (i11 + (1 : Int))) n12 (n8 + 1) n14)
       else none
      else none
     else none
    else E (XrTrk_6f (n0, c1, n2, c3, n4, c5, i6, i7, n8, c9, n12, n13, n14))
   else none
  else none
 else E (XrTrk_6f (n0, c1, n2, c3, n4, c5, i6, i7, n8, c9, n12, n13, n14))
theorem BrTrk_6f_eq (F N E L0 L2 L4 L6 n0 c1 n2 c3 n4 c5 i6 i7 n8 c9 i10 i11 n12 n13 n14) : semB (callP F ErTrk 20) s32 (loopT (qM4_3 L0 L2 L4 L6)) 400 (blkIn a32.body 6) N E (TrTrk_6f n0 c1 n2 c3 n4 c5 i6 i7 n8 c9 i10 i11 n12 n13 n14) = BrTrk_6f F N E L0 L2 L4 L6 n0 c1 n2 c3 n4 c5 i6 i7 n8 c9 i10 i11 n12 n13 n14 := by kernel_rfl
theorem RrTrk_6f_of (n0 c1 n2 c3 n4 c5 i6 i7 n8 c9 i10 i11 n12 n13 n14) {r} (h : BrTrk_6f (Fn env) RrTrk_6 exO LrTrk_0 LrTrk_2 LrTrk_4 LrTrk_6 n0 c1 n2 c3 n4 c5 i6 i7 n8 c9 i10 i11 n12 n13 n14 = some r) : RrTrk_6 (TrTrk_6f n0 c1 n2 c3 n4 c5 i6 i7 n8 c9 i10 i11 n12 n13 n14) = some r :=
 lp_of ErTrk_ok (by kernel_rfl) oqM4_3 (by kernel_rfl) ((BrTrk_6f_eq _ _ _ _ _ _ _ _ _ _ _ _ _ _ _ _ _ _ _ _ _ _).trans h)
def trTrk (_F : FnT) (L0 : QQ YrTrk_0) (L2 : QQ YrTrk_2) (_L4 : QQ YrTrk_4) (_L6 : QQ YrTrk_6) (p0n : Nat) (p0c : List PV) (p1 : Int) : Option ((Nat) × (List PV)) :=
 bindO (L0 (TrTrk_0a p0n p0c p1)) fun z =>
 Sum.elim (fun y0 =>
  bindO (L2 (TrTrk_2a y0.1 y0.2 (0 : Int))) fun z =>
  Sum.elim (fun _y1 =>
   some (0, [])) (fun z0 => Sum.elim (fun _y2 =>
   some (0, [])) (fun z1 => Sum.elim (fun y3 =>
   bif (decide (y3.2.2 = y3.1)) then
    some (y3.1, y3.2.1)
   else none) (fun y4 =>
   bif (decide (y4.2.2.2 = y4.1)) then
    some (y4.1, y4.2.1)
   else none) z1) z0) z) (fun y5 =>
  bindO (L2 (TrTrk_2b y5.1 y5.2.1 y5.2.2.1 y5.2.2.2.1 (0 : Int) y5.2.2.2.2)) fun z =>
  Sum.elim (fun _y6 =>
   some (0, [])) (fun z0 => Sum.elim (fun _y7 =>
   some (0, [])) (fun z1 => Sum.elim (fun y8 =>
   bif (decide (y8.2.2 = y8.1)) then
    some (y8.1, y8.2.1)
   else none) (fun y9 =>
   bif (decide (y9.2.2.2 = y9.1)) then
    some (y9.1, y9.2.1)
   else none) z1) z0) z) z
theorem trTrk_eq (F L0 L2 L4 L6 p0n p0c p1) : semF (callP F ErTrk 20) s32 (loopT (qM4_3 L0 L2 L4 L6)) 400 a32 [PV.list p0n p0c, PV.int .i64 p1] (fun rv => decR (RSh.one CK.list) rv.pv) = trTrk F L0 L2 L4 L6 p0n p0c p1 := by kernel_rfl
noncomputable abbrev FrTrk (args : List PV) := Fn env 32 (RSh.one CK.list) args
theorem FrTrk_of  (p0n : Nat) (p0c : List PV) (p1 : Int) {res : ((Nat) × (List PV))} (h : trTrk (Fn env) LrTrk_0 LrTrk_2 LrTrk_4 LrTrk_6 p0n p0c p1 = some res) : FrTrk [PV.list p0n p0c, PV.int .i64 p1] = some res :=
 fn_of ErTrk_ok rfl rfl oqM4_3 ((trTrk_eq _ _ _ _ _ _ _ _).trans h)
end Gv

/- Costs of links, in the program and in the reference. -/
namespace Gv
open Go
set_option maxRecDepth 100000
def pre (k : Nat) (z : Nat → Int) : List Int := (List.range k).map z
def matL (N : Nat) (Z : Nat → Nat → Int) : List (List Int) := (List.range N).map fun i => pre N (Z i)
theorem pre_len (k : Nat) (z : Nat → Int) : (pre k z).length = k := by simp [pre]
theorem pre_enc (k : Nat) (z : Nat → Int) : encI (pre (k + 1) z) = encI (pre k z) ++ [.int .i64 (z k)] := by simp [pre, encI, List.range_succ]
theorem matP_is (N : Nat) (Z : Nat → Nat → Int) : matP N Z = encM (matL N Z) := by
 unfold matP encM matL rowI rowZ
 rw [List.map_map]
 refine List.map_congr_left fun i _ => ?_
 simp only [Function.comp, pre_len]
 simp [encI, pre]
def lz (a b : List Z3) (miss : Int) : Nat → Nat → Int := linkZ a.length b.length miss (vAt a) (vAt b)
theorem lz_in {a b : List Z3} {miss : Int} {i j : Nat} (hi : i < a.length) (hj : j < b.length) : lz a b miss i j = apZ (vAt a i) (vAt b j) := if_pos ⟨hi, hj⟩
theorem lz_miss {a b : List Z3} {miss : Int} {i j : Nat} (h1 : ¬ (i < a.length ∧ j < b.length)) (h2 : i < a.length ∨ j < b.length) : lz a b miss i j = miss := (if_neg h1).trans (if_pos h2)
theorem lz_none {a b : List Z3} {miss : Int} {i j : Nat} (h1 : ¬ i < a.length) (h2 : ¬ j < b.length) : lz a b miss i j = 0 := (if_neg (fun h => h1 h.1)).trans (if_neg (fun h => h.elim h1 h2))
theorem f65 (a b : List Z3) (miss : Int) (h8 : a.length + b.length ≤ 8) : Fn env 65 (RSh.one CK.list) [.list a.length (encT a), .list b.length (encT b), .int .i64 miss] = some (a.length + b.length, encM (matL (a.length + b.length) (lz a b miss))) := by
 have hg : linkcG [.list a.length (encT a), .list b.length (encT b), .int .i64 miss] = some (.list (a.length + b.length) (encM (matL (a.length + b.length) (lz a b miss)))) := by
  unfold linkcG
  simp only
  rw [if_pos ⟨trivial, h8, encT_len a, encT_len b, encT_i64 a, encT_i64 b⟩, vOf_enc, vOf_enc, matP_is]
  rfl
 unfold Fn
 rw [prim3_fn (env := env) (f := 65) rfl hg]
 rfl
section
variable (a b : List Z3) (miss : Int) (hN : a.length + b.length ≤ 1000)
include hN
theorem cts_2b : ∀ (r k : Nat), k + r = a.length + b.length → 0 < k →
  RrCts_2 (TrCts_2b a.length (encT a) b.length (encT b) miss k (encI (pre k (lz a b miss 0))) (k : Int) k) = exO (XrCts_2b (a.length, encT a, b.length, encT b, miss, a.length + b.length, encI (pre (a.length + b.length) (lz a b miss 0)), a.length + b.length))
 | 0, k, h, _ => by
  have eN : w64 ((a.length : Int) + (b.length : Int)) = ((a.length + b.length : Nat) : Int) := by rw [w64_in (by omega)]; omega
  refine RrCts_2b_of _ _ _ _ _ _ _ _ _ ?_
  unfold BrCts_2b
  rw [eN, bif_neg (by omega), show k = a.length + b.length by omega]
  rfl
 | r + 1, k, h, hk => by
  have ih := cts_2b r (k + 1) (by omega) (by omega)
  have eN : w64 ((a.length : Int) + (b.length : Int)) = ((a.length + b.length : Nat) : Int) := by rw [w64_in (by omega)]; omega
  have ek : w64 ((k : Int) + 1) = ((k + 1 : Nat) : Int) := by rw [w64_in (by omega)]; omega
  have hbig : k + 1 ≤ big := by unfold big; omega
  rw [pre_enc] at ih
  refine RrCts_2b_of _ _ _ _ _ _ _ _ _ ?_
  unfold BrCts_2b
  rw [eN, bif_pos (by omega)]
  by_cases h0 : 0 < a.length
  ·rw [bif_pos (by omega)]
   by_cases hj : k < b.length
   ·have r1 := encT_at h0
    have r2 := encT_at hj
    have f : Fn env 67 (RSh.one (CK.int .i64)) [.agg [.int .i64 (vAt a 0).1, .int .i64 (vAt a 0).2.1, .int .i64 (vAt a 0).2.2], .agg [.int .i64 (vAt b k).1, .int .i64 (vAt b k).2.1, .int .i64 (vAt b k).2.2]] = _ := off_is (vAt a 0) (vAt b k)
    rw [bif_pos (by omega), bif_pos (by omega), show intC .i64 (encT a)[0]? = _ from r1.1, bindO_val, show intC .i64 (encT a)[1]? = _ from r1.2.1, bindO_val, show intC .i64 (encT a)[2]? = _ from r1.2.2, bindO_val, bif_pos (by omega), Int.toNat_natCast, r2.1, bindO_val, r2.2.1, bindO_val, r2.2.2, bindO_val, f, bindO_val, bif_pos ⟨rfl, hbig⟩, ek, ← lz_in h0 hj]
    exact ih
   ·rw [lz_miss (by omega) (by omega)] at ih
    rw [bif_neg (by omega), bif_pos (by omega), bif_pos ⟨rfl, hbig⟩, ek]
    exact ih
  ·rw [bif_neg (by omega), bif_neg (by omega)]
   by_cases hj : k < b.length
   ·rw [lz_miss (by omega) (by omega)] at ih
    rw [bif_pos (by omega), bif_pos ⟨rfl, hbig⟩, ek]
    exact ih
   ·rw [lz_none (by omega) (by omega)] at ih
    rw [bif_neg (by omega), bif_pos ⟨rfl, hbig⟩, ek]
    exact ih
theorem cts_2a (h1 : 0 < a.length + b.length) :
  LrCts_2 (TrCts_2a a.length (encT a) b.length (encT b) miss) = some (Sum.inr (Sum.inl (a.length, encT a, b.length, encT b, miss, a.length + b.length, encI (pre (a.length + b.length) (lz a b miss 0)), a.length + b.length))) := by
 have ih := cts_2b a b miss hN (a.length + b.length - 1) 1 (by omega) (by omega)
 have e1 : encI (pre 1 (lz a b miss 0)) = [.int .i64 (lz a b miss 0 0)] := rfl
 rw [e1] at ih
 have eN : w64 ((a.length : Int) + (b.length : Int)) = ((a.length + b.length : Nat) : Int) := by rw [w64_in (by omega)]; omega
 refine LrCts_2b_of (RrCts_2a_of _ _ _ _ _ ?_)
 unfold BrCts_2a
 rw [eN, bif_pos (by omega)]
 by_cases h0 : 0 < a.length
 ·rw [bif_pos (by omega)]
  by_cases hj : 0 < b.length
  ·have r1 := encT_at h0
   have r2 := encT_at hj
   have f : Fn env 67 (RSh.one (CK.int .i64)) [.agg [.int .i64 (vAt a 0).1, .int .i64 (vAt a 0).2.1, .int .i64 (vAt a 0).2.2], .agg [.int .i64 (vAt b 0).1, .int .i64 (vAt b 0).2.1, .int .i64 (vAt b 0).2.2]] = _ := off_is (vAt a 0) (vAt b 0)
   rw [bif_pos (by omega), bif_pos (by omega), show intC .i64 (encT a)[0]? = _ from r1.1, bindO_val, show intC .i64 (encT a)[1]? = _ from r1.2.1, bindO_val, show intC .i64 (encT a)[2]? = _ from r1.2.2, bindO_val, bif_pos (by omega), show intC .i64 (encT b)[0]? = _ from r2.1, bindO_val, show intC .i64 (encT b)[1]? = _ from r2.2.1, bindO_val, show intC .i64 (encT b)[2]? = _ from r2.2.2, bindO_val, f, bindO_val, ← lz_in h0 hj]
   exact ih
  ·rw [lz_miss (by omega) (by omega)] at ih
   rw [bif_neg (by omega), bif_pos (by omega)]
   exact ih
 ·rw [bif_neg (by omega), bif_neg (by omega)]
  by_cases hj : 0 < b.length
  ·rw [lz_miss (by omega) (by omega)] at ih
   rw [bif_pos (by omega)]
   exact ih
  ·omega
theorem cts_2d (i : Nat) (hi : i < a.length + b.length) (n5 : Nat) (c6 : List PV) (n12 : Nat) : ∀ (r k : Nat), k + r = a.length + b.length → 0 < k →
  RrCts_2 (TrCts_2d a.length (encT a) b.length (encT b) miss n5 c6 (i : Int) k (encI (pre k (lz a b miss i))) (k : Int) k n12) = exO (XrCts_2d (a.length, encT a, b.length, encT b, miss, n5, c6, (i : Int), a.length + b.length, encI (pre (a.length + b.length) (lz a b miss i)), a.length + b.length, n12))
 | 0, k, h, _ => by
  have eN : w64 ((a.length : Int) + (b.length : Int)) = ((a.length + b.length : Nat) : Int) := by rw [w64_in (by omega)]; omega
  refine RrCts_2d_of _ _ _ _ _ _ _ _ _ _ _ _ _ ?_
  unfold BrCts_2d
  rw [eN, bif_neg (by omega), show k = a.length + b.length by omega]
  rfl
 | r + 1, k, h, hk => by
  have ih := cts_2d i hi n5 c6 n12 r (k + 1) (by omega) (by omega)
  have eN : w64 ((a.length : Int) + (b.length : Int)) = ((a.length + b.length : Nat) : Int) := by rw [w64_in (by omega)]; omega
  have ek : w64 ((k : Int) + 1) = ((k + 1 : Nat) : Int) := by rw [w64_in (by omega)]; omega
  have hbig : k + 1 ≤ big := by unfold big; omega
  rw [pre_enc] at ih
  refine RrCts_2d_of _ _ _ _ _ _ _ _ _ _ _ _ _ ?_
  unfold BrCts_2d
  rw [eN, bif_pos (by omega)]
  by_cases h0 : i < a.length
  ·rw [bif_pos (by omega)]
   by_cases hj : k < b.length
   ·have r1 := encT_at h0
    have r2 := encT_at hj
    have f : Fn env 67 (RSh.one (CK.int .i64)) [.agg [.int .i64 (vAt a i).1, .int .i64 (vAt a i).2.1, .int .i64 (vAt a i).2.2], .agg [.int .i64 (vAt b k).1, .int .i64 (vAt b k).2.1, .int .i64 (vAt b k).2.2]] = _ := off_is (vAt a i) (vAt b k)
    rw [bif_pos (by omega), bif_pos (by omega), Int.toNat_natCast, r1.1, bindO_val, r1.2.1, bindO_val, r1.2.2, bindO_val, bif_pos (by omega), Int.toNat_natCast, r2.1, bindO_val, r2.2.1, bindO_val, r2.2.2, bindO_val, f, bindO_val, bif_pos ⟨rfl, hbig⟩, ek, ← lz_in h0 hj]
    exact ih
   ·rw [lz_miss (by omega) (by omega)] at ih
    rw [bif_neg (by omega), bif_pos (by omega), bif_pos ⟨rfl, hbig⟩, ek]
    exact ih
  ·rw [bif_neg (by omega), bif_neg (by omega)]
   by_cases hj : k < b.length
   ·rw [lz_miss (by omega) (by omega)] at ih
    rw [bif_pos (by omega), bif_pos ⟨rfl, hbig⟩, ek]
    exact ih
   ·rw [lz_none (by omega) (by omega)] at ih
    rw [bif_neg (by omega), bif_pos ⟨rfl, hbig⟩, ek]
    exact ih
theorem cts_2c (i : Nat) (hi : i < a.length + b.length) (n5 : Nat) (c6 : List PV) (n12 : Nat) :
  LrCts_2 (TrCts_2c a.length (encT a) b.length (encT b) miss n5 c6 (i : Int) n12) = some (Sum.inr (Sum.inr (Sum.inr (a.length, encT a, b.length, encT b, miss, n5, c6, (i : Int), a.length + b.length, encI (pre (a.length + b.length) (lz a b miss i)), a.length + b.length, n12)))) := by
 have ih := cts_2d a b miss hN i hi n5 c6 n12 (a.length + b.length - 1) 1 (by omega) (by omega)
 have e1 : encI (pre 1 (lz a b miss i)) = [.int .i64 (lz a b miss i 0)] := rfl
 rw [e1] at ih
 have eN : w64 ((a.length : Int) + (b.length : Int)) = ((a.length + b.length : Nat) : Int) := by rw [w64_in (by omega)]; omega
 refine LrCts_2d_of (RrCts_2c_of _ _ _ _ _ _ _ _ _ ?_)
 unfold BrCts_2c
 rw [eN, bif_pos (by omega)]
 by_cases h0 : i < a.length
 ·rw [bif_pos (by omega)]
  by_cases hj : 0 < b.length
  ·have r1 := encT_at h0
   have r2 := encT_at hj
   have f : Fn env 67 (RSh.one (CK.int .i64)) [.agg [.int .i64 (vAt a i).1, .int .i64 (vAt a i).2.1, .int .i64 (vAt a i).2.2], .agg [.int .i64 (vAt b 0).1, .int .i64 (vAt b 0).2.1, .int .i64 (vAt b 0).2.2]] = _ := off_is (vAt a i) (vAt b 0)
   rw [bif_pos (by omega), bif_pos (by omega), Int.toNat_natCast, r1.1, bindO_val, r1.2.1, bindO_val, r1.2.2, bindO_val, bif_pos (by omega), show intC .i64 (encT b)[0]? = _ from r2.1, bindO_val, show intC .i64 (encT b)[1]? = _ from r2.2.1, bindO_val, show intC .i64 (encT b)[2]? = _ from r2.2.2, bindO_val, f, bindO_val, ← lz_in h0 hj]
   exact ih
  ·rw [lz_miss (by omega) (by omega)] at ih
   rw [bif_neg (by omega), bif_pos (by omega)]
   exact ih
 ·rw [bif_neg (by omega), bif_neg (by omega)]
  by_cases hj : 0 < b.length
  ·rw [lz_miss (by omega) (by omega)] at ih
   rw [bif_pos (by omega)]
   exact ih
  ·omega
theorem cts_0b : ∀ (r i : Nat), i + r = a.length + b.length →
  RrCts_0 (TrCts_0b a.length (encT a) b.length (encT b) miss i (encM ((List.range i).map fun i => pre (a.length + b.length) (lz a b miss i))) (i : Int) i) = exO (XrCts_0b (a.length + b.length, encM (matL (a.length + b.length) (lz a b miss)), a.length + b.length))
 | 0, i, h => by
  have eN : w64 ((a.length : Int) + (b.length : Int)) = ((a.length + b.length : Nat) : Int) := by rw [w64_in (by omega)]; omega
  refine RrCts_0b_of _ _ _ _ _ _ _ _ _ ?_
  unfold BrCts_0b
  rw [eN, bif_neg (by omega), show i = a.length + b.length by omega]
  rfl
 | r + 1, i, h => by
  have ih := cts_0b r (i + 1) (by omega)
  have eN : w64 ((a.length : Int) + (b.length : Int)) = ((a.length + b.length : Nat) : Int) := by rw [w64_in (by omega)]; omega
  have ek : w64 ((i : Int) + 1) = ((i + 1 : Nat) : Int) := by rw [w64_in (by omega)]; omega
  have hbig : i + 1 ≤ big := by unfold big; omega
  rw [List.range_succ, List.map_append, List.map_singleton, encM_snoc, pre_len] at ih
  refine RrCts_0b_of _ _ _ _ _ _ _ _ _ ?_
  unfold BrCts_0b
  rw [eN, bif_pos (by omega), cts_2c a b miss hN i (by omega), bindO_val, Sum.elim_inr, Sum.elim_inr, Sum.elim_inr]
  dsimp only
  rw [bif_pos ⟨rfl, hbig⟩, ek]
  exact ih
theorem rCts_is : FrCts [.list a.length (encT a), .list b.length (encT b), .int .i64 miss] = some (a.length + b.length, encM (matL (a.length + b.length) (lz a b miss))) := by
 have eN : w64 ((a.length : Int) + (b.length : Int)) = ((a.length + b.length : Nat) : Int) := by rw [w64_in (by omega)]; omega
 refine FrCts_of _ _ _ _ _ ?_
 unfold trCts
 by_cases h1 : 0 < a.length + b.length
 ·have h0 := cts_0b a b miss hN (a.length + b.length - 1) 1 (by omega)
  have e1 : encM ((List.range 1).map fun i => pre (a.length + b.length) (lz a b miss i)) = [.list (a.length + b.length) (encI (pre (a.length + b.length) (lz a b miss 0)))] := by
   show [rowI (pre (a.length + b.length) (lz a b miss 0))] = _
   unfold rowI
   rw [pre_len]
  rw [e1] at h0
  have h2 : LrCts_0 (TrCts_0a a.length (encT a) b.length (encT b) miss) = _ := LrCts_0b_of (RrCts_0a_of _ _ _ _ _ (by
   unfold BrCts_0a
   rw [eN, bif_pos (by omega), cts_2a a b miss hN h1, bindO_val, Sum.elim_inr, Sum.elim_inl]
   exact h0))
  rw [h2, bindO_val, Sum.elim_inr]
  dsimp only
  rw [bif_pos rfl]
 ·have h2 : LrCts_0 (TrCts_0a a.length (encT a) b.length (encT b) miss) = some (Sum.inl ()) := LrCts_0a_of (RrCts_0a_of _ _ _ _ _ (by
   unfold BrCts_0a
   rw [eN, bif_neg (by omega)]
   rfl))
  rw [h2, bindO_val, Sum.elim_inl, show a.length + b.length = 0 by omega]
  rfl
end
end Gv

/- The links of the reference are the links of the program. -/
namespace Gv
open Go
set_option maxRecDepth 100000
theorem matL_at {N : Nat} {Z : Nat → Nat → Int} {i j : Nat} (hi : i < N) (hj : j < N) : Zm (matL N Z) i j = Z i j := by
 unfold Zm matL pre
 simp [List.getD, hi, hj]
theorem matL_len (N : Nat) (Z : Nat → Nat → Int) : (matL N Z).length = N := by simp [matL]
theorem matL_row {N : Nat} {Z : Nat → Nat → Int} : ∀ r ∈ matL N Z, r.length = (matL N Z).length := by
 intro r hr
 unfold matL at hr
 obtain ⟨i, _, rfl⟩ := List.mem_map.1 hr
 rw [pre_len, matL_len]
theorem fold_congr {β : Type} {f g : Int → β → Int} : ∀ (l : List β) (a : Int), (∀ a, ∀ x ∈ l, f a x = g a x) → l.foldl f a = l.foldl g a
 | [], _, _ => rfl
 | x :: l, a, h => by
  rw [List.foldl_cons, List.foldl_cons, h a x List.mem_cons_self]
  exact fold_congr l _ fun a y hy => h a y (List.mem_cons_of_mem _ hy)
theorem costW_congr {Z Y : Nat → Nat → Int} {N : Nat} (h : ∀ i j, i < N → j < N → Z i j = Y i j) {b : List Nat} (hl : b.length = N) (hb : ∀ x ∈ b, x < N) : costW Z b = costW Y b := by
 unfold costW
 refine fold_congr _ _ fun a i hi => ?_
 rw [List.mem_range] at hi
 rw [h i _ (by omega) (hb _ (getD_memA hi))]
theorem best_congr {c d : List Nat → Int} : ∀ (l : List (List Nat)) (s : Option (List Nat × Int)), (∀ b ∈ l, c b = d b) → l.foldl (bestStep c) s = l.foldl (bestStep d) s
 | [], _, _ => rfl
 | x :: l, s, h => by
  rw [List.foldl_cons, List.foldl_cons]
  have e : bestStep c s x = bestStep d s x := by
   unfold bestStep
   rw [h x List.mem_cons_self]
  rw [e]
  exact best_congr l _ fun b hb => h b (List.mem_cons_of_mem _ hb)
theorem lks_val (m x : Nat) : lkV m x = if x < m then (x : Int) else -1 := by
 unfold lkV
 by_cases h : x < m
 ·rw [if_neg (by omega), if_pos h]
 ·rw [if_pos (by omega), if_neg h]
section
variable (a b : List Z3) (G : List (List Nat)) (d : List Nat) (hG : 0 < G.length) (hd : G.getD 0 [] = d) (hn : a.length ≤ d.length) (hl : a.length ≤ 1000)
include hG hd hn hl
theorem lks_0b : ∀ (r k : Nat), k + r = a.length →
  RrLks_0 (TrLks_0b a.length (encT a) b.length (encT b) k (encI (pre k fun j => lkV b.length (d.getD j 0))) G.length (G.map rowP) (k : Int) k) = exO (XrLks_0b (a.length, encI (pre a.length fun j => lkV b.length (d.getD j 0)), a.length))
 | 0, k, h => by
  refine RrLks_0b_of _ _ _ _ _ _ _ _ _ _ ?_
  unfold BrLks_0b
  rw [bif_neg (by omega), show k = a.length by omega]
  rfl
 | r + 1, k, h => by
  have ih := lks_0b r (k + 1) (by omega)
  have ek : w64 ((k : Int) + 1) = ((k + 1 : Nat) : Int) := by rw [w64_in (by omega)]; omega
  have hbig : k + 1 ≤ big := by unfold big; omega
  have g : listC ((G.map rowP)[0]?) = some (d.length, encN d) := by rw [listP_get hG, hd]
  have g2 := intN_get (b := d) (i := k) (by omega)
  rw [pre_enc, lks_val] at ih
  refine RrLks_0b_of _ _ _ _ _ _ _ _ _ _ ?_
  unfold BrLks_0b
  rw [bif_pos (by omega), bif_pos (by omega), g, bindO_val]
  dsimp only
  rw [bif_pos (by omega), Int.toNat_natCast, Nat.mul_one, g2, bindO_val]
  by_cases hx : d.getD k 0 < b.length
  ·rw [if_pos hx] at ih
   rw [bif_pos (by omega), bif_pos (by omega), bindO_val]
   dsimp only
   rw [bif_pos (by omega), g2, bindO_val, bif_pos ⟨rfl, hbig⟩, ek]
   exact ih
  ·rw [if_neg hx] at ih
   rw [bif_neg (by omega), bif_pos ⟨rfl, hbig⟩, ek]
   exact ih
theorem lks_0c : ∀ (r k : Nat), k + r = a.length →
  RrLks_0 (TrLks_0c a.length (encT a) b.length (encT b) k (encI (pre k fun j => lkV b.length (d.getD j 0))) G.length (G.map rowP) (k : Int) k) = exO (XrLks_0c (a.length, encI (pre a.length fun j => lkV b.length (d.getD j 0)), a.length))
 | 0, k, h => by
  refine RrLks_0c_of _ _ _ _ _ _ _ _ _ _ ?_
  unfold BrLks_0c
  rw [bif_neg (by omega), show k = a.length by omega]
  rfl
 | r + 1, k, h => by
  have ih := lks_0c r (k + 1) (by omega)
  have ek : w64 ((k : Int) + 1) = ((k + 1 : Nat) : Int) := by rw [w64_in (by omega)]; omega
  have hbig : k + 1 ≤ big := by unfold big; omega
  have g : listC ((G.map rowP)[0]?) = some (d.length, encN d) := by rw [listP_get hG, hd]
  have g2 := intN_get (b := d) (i := k) (by omega)
  rw [pre_enc, lks_val] at ih
  refine RrLks_0c_of _ _ _ _ _ _ _ _ _ _ ?_
  unfold BrLks_0c
  rw [bif_pos (by omega), bif_pos (by omega), g, bindO_val]
  dsimp only
  rw [bif_pos (by omega), Int.toNat_natCast, Nat.mul_one, g2, bindO_val]
  by_cases hx : d.getD k 0 < b.length
  ·rw [if_pos hx] at ih
   rw [bif_pos (by omega), bif_pos (by omega), bindO_val]
   dsimp only
   rw [bif_pos (by omega), g2, bindO_val, bif_pos ⟨rfl, hbig⟩, ek]
   exact ih
  ·rw [if_neg hx] at ih
   rw [bif_neg (by omega), bif_pos ⟨rfl, hbig⟩, ek]
   exact ih
theorem lks_0a (h0 : 0 < a.length) (K : Nat × List PV → Option (Nat × List PV)) : (bindO (LrLks_0 (TrLks_0a a.length (encT a) b.length (encT b) G.length (G.map rowP))) fun z => Sum.elim (fun _ => K (0, [])) (fun z0 => Sum.elim (fun (y3 : Nat × List PV × Nat) => bif (decide (y3.2.2 = y3.1)) then K (y3.1, y3.2.1) else none) (fun (y4 : Nat × List PV × Nat) => bif (decide (y4.2.2 = y4.1)) then K (y4.1, y4.2.1) else none) z0) z) = K (a.length, encI (pre a.length fun j => lkV b.length (d.getD j 0))) := by
 have g : listC ((G.map rowP)[0]?) = some (d.length, encN d) := by rw [listP_get hG, hd]
 have g2 : intC .i64 ((encN d)[0]?) = some ((d.getD 0 0 : Nat) : Int) := intN_get (b := d) (i := 0) (by omega)
 have e1 : encI (pre 1 fun j => lkV b.length (d.getD j 0)) = [.int .i64 (lkV b.length (d.getD 0 0))] := rfl
 by_cases hx : d.getD 0 0 < b.length
 ·have h1 := lks_0b a b G d hG hd hn hl (a.length - 1) 1 (by omega)
  rw [e1, lks_val, if_pos hx] at h1
  have h2 : LrLks_0 (TrLks_0a a.length (encT a) b.length (encT b) G.length (G.map rowP)) = _ := LrLks_0b_of (RrLks_0a_of _ _ _ _ _ _ (by
   unfold BrLks_0a
   rw [bif_pos (by omega), bif_pos (by omega), g, bindO_val]
   dsimp only
   rw [bif_pos (by omega), g2, bindO_val, bif_pos (by omega), bif_pos (by omega), bindO_val]
   dsimp only
   rw [bif_pos (by omega), g2, bindO_val]
   exact h1))
  rw [h2, bindO_val, Sum.elim_inr, Sum.elim_inl]
  dsimp only
  rw [bif_pos rfl]
 ·have h1 := lks_0c a b G d hG hd hn hl (a.length - 1) 1 (by omega)
  rw [e1, lks_val, if_neg hx] at h1
  have h2 : LrLks_0 (TrLks_0a a.length (encT a) b.length (encT b) G.length (G.map rowP)) = _ := LrLks_0c_of (RrLks_0a_of _ _ _ _ _ _ (by
   unfold BrLks_0a
   rw [bif_pos (by omega), bif_pos (by omega), g, bindO_val]
   dsimp only
   rw [bif_pos (by omega), g2, bindO_val, bif_neg (by omega)]
   exact h1))
  rw [h2, bindO_val, Sum.elim_inr, Sum.elim_inr]
  dsimp only
  rw [bif_pos rfl]
end
theorem rLks_is (a b : List Z3) (miss : Int) (h5 : a.length + b.length ≤ 5) : FrLks [.list a.length (encT a), .list b.length (encT b), .int .i64 miss] = some (a.length, encI (lnk a b miss)) := by
 obtain ⟨d, k, hb, hlk⟩ := lnk_is a b miss h5
 refine FrLks_of _ _ _ _ _ ?_
 unfold trLks
 by_cases h0 : a.length = 0
 ·rw [bif_eq, if_pos (by omega)]
  have e : lnk a b miss = [] := by rw [hlk, h0]; rfl
  rw [e, h0]
  rfl
 ·have hN := matL_len (a.length + b.length) (lz a b miss)
  have c1 : Fn env 25 (RSh.one CK.list) [.list a.length (encT a), .list b.length (encT b), .int .i64 miss] = _ := rCts_is a b miss (by omega)
  have c2 : Fn env 68 (RSh.tup [(Prod.mk false [CK.list]), (Prod.mk false [(CK.int .i64)])]) [.list (matL (a.length + b.length) (lz a b miss)).length (encM (matL (a.length + b.length) (lz a b miss)))] = _ := rChe_is (matL (a.length + b.length) (lz a b miss)) (by omega) matL_row (f99 _ (by omega))
  rw [hN] at c2
  have hne : asgs (a.length + b.length) ≠ [] := ext_ne h5
  obtain ⟨x, xs, hx, hbx⟩ := cheap_ne (costW (Zm (matL (a.length + b.length) (lz a b miss)))) hne
  have hc : bestIn (costW (Zm (matL (a.length + b.length) (lz a b miss)))) (asgs (a.length + b.length)) = bestIn (costW (lz a b miss)) (asgs (a.length + b.length)) := best_congr _ _ fun c hcm => by
   obtain ⟨r1, r2⟩ := asgs_row h5 hcm
   exact costW_congr (fun i j hi hj => matL_at hi hj) r1 r2
  have hb : bestIn (costW (lz a b miss)) (asgs (a.length + b.length)) = some (d, k) := hb
  rw [hbx, hb] at hc
  have hxd : x = d := congrArg Prod.fst (Option.some.inj hc)
  have hxm : x ∈ asgs (a.length + b.length) := by
   have hm : x ∈ cheapL (costW (Zm (matL (a.length + b.length) (lz a b miss)))) (asgs (a.length + b.length)) := by
    rw [hx]
    exact List.mem_cons_self
   unfold cheapL at hm
   exact (List.mem_filter.1 hm).1
  have hxl := (asgs_row h5 hxm).1
  rw [bif_eq, if_neg (by omega), c1, bindO_val]
  dsimp only
  rw [c2, bindO_val, hx]
  dsimp only
  have := lks_0a a b (x :: xs) d (by simp) (by rw [← hxd]; rfl) (by rw [← hxd]; omega) (by omega) (by omega) some
  have e : pre a.length (fun j => lkV b.length (d.getD j 0)) = lnk a b miss := hlk.symm
  rw [e] at this
  exact this
end Gv

/- The tracks of the reference are the tracks of the program. -/
namespace Gv
open Go
set_option maxRecDepth 100000
theorem traO_bad (S : List (List Z3)) (miss : Int) (hS : S.length ≤ 1000) (hz : both (scsV S) (rangeE miss 0 10000000) ≠ 0) : FtraO [.list S.length (encS S), .int .i64 miss] = some ((0, []), both (scsV S) (rangeE miss 0 10000000)) := by
 refine FtraO_of _ _ _ ?_
 unfold ttraO
 have hc : Fn env 71 (RSh.one (CK.int .i64)) [.int .i64 miss] = _ := cosE_is miss
 by_cases h6 : 6 < S.length
 ·have e : scsV S = 8 := if_pos h6
  rw [e] at hz
  have hf : Fn env 53 (RSh.one (CK.int .i64)) [.list 2 [.int .i64 8, .int .i64 (rangeE miss 0 10000000)]] = _ := fE2_is 8 (rangeE miss 0 10000000)
  rw [bif_pos (by omega), hc, bindO_val, hf, bindO_val, bif_ne, if_neg hz, e]
 ·have e : scsV S = scsF S := if_neg h6
  rw [e] at hz
  obtain ⟨j, h0⟩ := traO_scs S hS S.length 0 (by omega)
  have h0 : RtraO_1490000000 (TtraO_1490000000a S.length (encS S) S.length 0) = _ := h0
  have hf : Fn env 53 (RSh.one (CK.int .i64)) [.list 2 [.int .i64 (scsF S), .int .i64 (rangeE miss 0 10000000)]] = _ := fE2_is (scsF S) (rangeE miss 0 10000000)
  rw [List.drop_zero] at h0
  rw [bif_neg (by omega), e]
  by_cases hs : scsF S = 0
  ·rw [if_pos hs] at h0
   rw [hs] at hf hz
   rw [LtraO_1490000000b_of h0, bindO_val, Sum.elim_inr, hc, bindO_val, hf, bindO_val, bif_ne, if_neg hz, hs]
  ·rw [if_neg hs] at h0
   rw [LtraO_1490000000a_of h0, bindO_val, Sum.elim_inl, hc, bindO_val]
   dsimp only
   rw [hf, bindO_val, bif_ne, if_neg hz]
section
variable (Ls : List (List Int)) (hL : Ls.length ≤ 1000) (ok : LinksOK Ls)
include hL ok
theorem trk_6c (n0 : Nat) (c1 : List PV) (i4 i5 : Int) (n10 : Nat) : ∀ (m s : Nat) (i : Int) (acc : List ZZ), s + m = Ls.length → (0 < m → 0 ≤ i ∧ i < ((Ls.getD s []).length : Int)) → acc.length ≤ s + 1 →
  RrTrk_6 (TrTrk_6c n0 c1 Ls.length (encM Ls) i4 i5 acc.length (encG acc) i (s : Int) n10 acc.length) = exO (XrTrk_6c (n0, c1, Ls.length, encM Ls, i4, i5, (acc ++ trackR Ls m s i).length, encG (acc ++ trackR Ls m s i), n10, (acc ++ trackR Ls m s i).length))
 | 0, s, i, acc, h, _, _ => by
  refine RrTrk_6c_of _ _ _ _ _ _ _ _ _ _ _ _ ?_
  unfold BrTrk_6c trackR
  rw [bif_neg (by omega), List.append_nil]
  rfl
 | m + 1, s, i, acc, h, hi, ha => by
  obtain ⟨i0, i1⟩ := hi (by omega)
  have hs : s < Ls.length := by omega
  have hin : i.toNat < (Ls.getD s []).length := by omega
  refine RrTrk_6c_of _ _ _ _ _ _ _ _ _ _ _ _ ?_
  unfold BrTrk_6c
  rw [bif_pos (by omega), bif_pos (by omega), Int.toNat_natCast, Nat.mul_one, listM_get hs, bindO_val]
  dsimp only
  rw [bif_pos (by omega), Nat.mul_one, intI_get hin, bindO_val]
  unfold trackR
  by_cases hx : 0 ≤ (Ls.getD s []).getD i.toNat 0
  ·have ih := trk_6c n0 c1 i4 i5 n10 m (s + 1) ((Ls.getD s []).getD i.toNat 0) (acc ++ [((s : Int) + 1, (Ls.getD s []).getD i.toNat 0)]) (by omega) (fun hm => ⟨hx, ok s (by omega) _ (links_mem ⟨i0, i1⟩)⟩) (by simp; omega)
   rw [bif_pos hx, bif_pos (by omega), bindO_val]
   dsimp only
   rw [bif_pos (by omega), intI_get hin, bindO_val, bif_pos ⟨rfl, by unfold big; omega⟩, if_pos hx, w64_in (by omega)]
   rw [List.append_assoc, List.singleton_append, encG_app, List.length_append, List.length_singleton] at ih
   exact_mod_cast ih
  ·rw [bif_neg hx, if_neg hx, List.append_nil]
   rfl
theorem trk_6b (n0 : Nat) (c1 : List PV) (n10 : Nat) (t k : Nat) (ht : t ≤ Ls.length) (hk : t < Ls.length → k < (Ls.getD t []).length) :
  LrTrk_6 (TrTrk_6b n0 c1 Ls.length (encM Ls) (t : Int) (k : Int) (t : Int) (k : Int) (k : Int) (t : Int) n10) = some (if trackR Ls (Ls.length - t) t (k : Int) = [] then Sum.inr (Sum.inl (n0, c1, Ls.length, encM Ls, (t : Int), (k : Int), (t : Int), (k : Int), n10)) else Sum.inr (Sum.inr (Sum.inl (n0, c1, Ls.length, encM Ls, (t : Int), (k : Int), (trackV Ls t (k : Int)).length, encG (trackV Ls t (k : Int)), n10, (trackV Ls t (k : Int)).length)))) := by
 by_cases h0 : t < Ls.length
 ·have hk := hk h0
  obtain ⟨m, hm⟩ : ∃ m, Ls.length - t = m + 1 := ⟨Ls.length - t - 1, by omega⟩
  have hin : (k : Int).toNat < (Ls.getD t []).length := by omega
  by_cases hx : 0 ≤ (Ls.getD t []).getD (k : Int).toNat 0
  ·have ih := trk_6c Ls hL ok n0 c1 (t : Int) (k : Int) n10 m (t + 1) ((Ls.getD t []).getD (k : Int).toNat 0) [((t : Int), (k : Int)), ((t : Int) + 1, (Ls.getD t []).getD (k : Int).toNat 0)] (by omega) (fun _ => ⟨hx, ok t (by omega) _ (links_mem ⟨by omega, by omega⟩)⟩) (by simp)
   have tt : trackR Ls (m + 1) t (k : Int) = ((t : Int) + 1, (Ls.getD t []).getD (k : Int).toNat 0) :: trackR Ls m (t + 1) ((Ls.getD t []).getD (k : Int).toNat 0) := if_pos hx
   have e : trackV Ls t (k : Int) = [((t : Int), (k : Int)), ((t : Int) + 1, (Ls.getD t []).getD (k : Int).toNat 0)] ++ trackR Ls m (t + 1) ((Ls.getD t []).getD (k : Int).toNat 0) := by
    unfold trackV
    rw [hm, tt]
    rfl
   rw [if_neg (by rw [hm, tt]; simp), e]
   refine LrTrk_6c_of (RrTrk_6b_of _ _ _ _ _ _ _ _ _ _ _ ?_)
   unfold BrTrk_6b
   rw [bif_pos (by omega), bif_pos (by omega), Int.toNat_natCast, Nat.mul_one, listM_get h0, bindO_val]
   dsimp only
   rw [bif_pos (by omega), Nat.mul_one, intI_get hin, bindO_val, bif_pos hx, bif_pos (by omega), bindO_val]
   dsimp only
   rw [bif_pos (by omega), intI_get hin, bindO_val, w64_in (by omega)]
   exact_mod_cast ih
  ·rw [if_pos (by rw [hm]; exact if_neg hx)]
   refine LrTrk_6b_of (RrTrk_6b_of _ _ _ _ _ _ _ _ _ _ _ ?_)
   unfold BrTrk_6b
   rw [bif_pos (by omega), bif_pos (by omega), Int.toNat_natCast, Nat.mul_one, listM_get h0, bindO_val]
   dsimp only
   rw [bif_pos (by omega), Nat.mul_one, intI_get hin, bindO_val, bif_neg hx]
   rfl
 ·rw [if_pos (by rw [show Ls.length - t = 0 by omega]; rfl)]
  refine LrTrk_6b_of (RrTrk_6b_of _ _ _ _ _ _ _ _ _ _ _ ?_)
  unfold BrTrk_6b
  rw [bif_neg (by omega)]
  rfl
theorem trk_6f (n0 : Nat) (c1 : List PV) (n4 : Nat) (c5 : List PV) (i6 i7 : Int) (n12 n14 : Nat) : ∀ (m s : Nat) (i : Int) (acc : List ZZ), s + m = Ls.length → (0 < m → 0 ≤ i ∧ i < ((Ls.getD s []).length : Int)) → acc.length ≤ s + 1 →
  RrTrk_6 (TrTrk_6f n0 c1 Ls.length (encM Ls) n4 c5 i6 i7 acc.length (encG acc) i (s : Int) n12 acc.length n14) = exO (XrTrk_6f (n0, c1, Ls.length, encM Ls, n4, c5, i6, i7, (acc ++ trackR Ls m s i).length, encG (acc ++ trackR Ls m s i), n12, (acc ++ trackR Ls m s i).length, n14))
 | 0, s, i, acc, h, _, _ => by
  refine RrTrk_6f_of _ _ _ _ _ _ _ _ _ _ _ _ _ _ _ ?_
  unfold BrTrk_6f trackR
  rw [bif_neg (by omega), List.append_nil]
  rfl
 | m + 1, s, i, acc, h, hi, ha => by
  obtain ⟨i0, i1⟩ := hi (by omega)
  have hs : s < Ls.length := by omega
  have hin : i.toNat < (Ls.getD s []).length := by omega
  refine RrTrk_6f_of _ _ _ _ _ _ _ _ _ _ _ _ _ _ _ ?_
  unfold BrTrk_6f
  rw [bif_pos (by omega), bif_pos (by omega), Int.toNat_natCast, Nat.mul_one, listM_get hs, bindO_val]
  dsimp only
  rw [bif_pos (by omega), Nat.mul_one, intI_get hin, bindO_val]
  unfold trackR
  by_cases hx : 0 ≤ (Ls.getD s []).getD i.toNat 0
  ·have ih := trk_6f n0 c1 n4 c5 i6 i7 n12 n14 m (s + 1) ((Ls.getD s []).getD i.toNat 0) (acc ++ [((s : Int) + 1, (Ls.getD s []).getD i.toNat 0)]) (by omega) (fun hm => ⟨hx, ok s (by omega) _ (links_mem ⟨i0, i1⟩)⟩) (by simp; omega)
   rw [bif_pos hx, bif_pos (by omega), bindO_val]
   dsimp only
   rw [bif_pos (by omega), intI_get hin, bindO_val, bif_pos ⟨rfl, by unfold big; omega⟩, if_pos hx, w64_in (by omega)]
   rw [List.append_assoc, List.singleton_append, encG_app, List.length_append, List.length_singleton] at ih
   exact_mod_cast ih
  ·rw [bif_neg hx, if_neg hx, List.append_nil]
   rfl
theorem trk_6e (n0 : Nat) (c1 : List PV) (n4 : Nat) (c5 : List PV) (n12 n13 : Nat) (t k : Nat) (ht : t ≤ Ls.length) (hk : t < Ls.length → k < (Ls.getD t []).length) :
  LrTrk_6 (TrTrk_6e n0 c1 Ls.length (encM Ls) n4 c5 (t : Int) (k : Int) (t : Int) (k : Int) (k : Int) (t : Int) n12 n13) = some (if trackR Ls (Ls.length - t) t (k : Int) = [] then Sum.inr (Sum.inr (Sum.inr (Sum.inr (Sum.inl (n0, c1, Ls.length, encM Ls, n4, c5, (t : Int), (k : Int), (t : Int), (k : Int), n12, n13))))) else Sum.inr (Sum.inr (Sum.inr (Sum.inr (Sum.inr (n0, c1, Ls.length, encM Ls, n4, c5, (t : Int), (k : Int), (trackV Ls t (k : Int)).length, encG (trackV Ls t (k : Int)), n12, (trackV Ls t (k : Int)).length, n13)))))) := by
 by_cases h0 : t < Ls.length
 ·have hk := hk h0
  obtain ⟨m, hm⟩ : ∃ m, Ls.length - t = m + 1 := ⟨Ls.length - t - 1, by omega⟩
  have hin : (k : Int).toNat < (Ls.getD t []).length := by omega
  by_cases hx : 0 ≤ (Ls.getD t []).getD (k : Int).toNat 0
  ·have ih := trk_6f Ls hL ok n0 c1 n4 c5 (t : Int) (k : Int) n12 n13 m (t + 1) ((Ls.getD t []).getD (k : Int).toNat 0) [((t : Int), (k : Int)), ((t : Int) + 1, (Ls.getD t []).getD (k : Int).toNat 0)] (by omega) (fun _ => ⟨hx, ok t (by omega) _ (links_mem ⟨by omega, by omega⟩)⟩) (by simp)
   have tt : trackR Ls (m + 1) t (k : Int) = ((t : Int) + 1, (Ls.getD t []).getD (k : Int).toNat 0) :: trackR Ls m (t + 1) ((Ls.getD t []).getD (k : Int).toNat 0) := if_pos hx
   have e : trackV Ls t (k : Int) = [((t : Int), (k : Int)), ((t : Int) + 1, (Ls.getD t []).getD (k : Int).toNat 0)] ++ trackR Ls m (t + 1) ((Ls.getD t []).getD (k : Int).toNat 0) := by
    unfold trackV
    rw [hm, tt]
    rfl
   rw [if_neg (by rw [hm, tt]; simp), e]
   refine LrTrk_6f_of (RrTrk_6e_of _ _ _ _ _ _ _ _ _ _ _ _ _ _ ?_)
   unfold BrTrk_6e
   rw [bif_pos (by omega), bif_pos (by omega), Int.toNat_natCast, Nat.mul_one, listM_get h0, bindO_val]
   dsimp only
   rw [bif_pos (by omega), Nat.mul_one, intI_get hin, bindO_val, bif_pos hx, bif_pos (by omega), bindO_val]
   dsimp only
   rw [bif_pos (by omega), intI_get hin, bindO_val, w64_in (by omega)]
   exact_mod_cast ih
  ·rw [if_pos (by rw [hm]; exact if_neg hx)]
   refine LrTrk_6e_of (RrTrk_6e_of _ _ _ _ _ _ _ _ _ _ _ _ _ _ ?_)
   unfold BrTrk_6e
   rw [bif_pos (by omega), bif_pos (by omega), Int.toNat_natCast, Nat.mul_one, listM_get h0, bindO_val]
   dsimp only
   rw [bif_pos (by omega), Nat.mul_one, intI_get hin, bindO_val, bif_neg hx]
   rfl
 ·rw [if_pos (by rw [show Ls.length - t = 0 by omega]; rfl)]
  refine LrTrk_6e_of (RrTrk_6e_of _ _ _ _ _ _ _ _ _ _ _ _ _ _ ?_)
  unfold BrTrk_6e
  rw [bif_neg (by omega)]
  rfl
end
theorem trackV_one1 {Ls : List (List Int)} {t : Nat} {k : Int} (h : trackR Ls (Ls.length - t) t k = []) : trackV Ls t k = [((t : Int), k)] := by
 unfold trackV
 rw [h]
end Gv

/- The tracks of the reference: all scans. -/
namespace Gv
open Go
set_option maxRecDepth 100000
section
variable (Ls : List (List Int)) (hL : Ls.length ≤ 1000) (ok : LinksOK Ls) (hr : ∀ r ∈ Ls, r.length ≤ 1000) (S : List (List Z3)) (hS : S.length = Ls.length + 1) (hk : ∀ t, t < Ls.length → (S.getD t []).length = (Ls.getD t []).length) (hl : ∀ t, (S.getD t []).length ≤ 5)
include hL ok hr hS hk hl
theorem trk_4d (t : Nat) (ht : t < S.length) : ∀ (m k : Nat) (T : List (List ZZ)), k + m = (S.getD t []).length → T.length + m ≤ 100000 →
  RrTrk_4 (TrTrk_4d S.length (encS S) Ls.length (encM Ls) T.length (encTT T) (t : Int) (k : Int) Ls.length T.length) = exO (XrTrk_4d (S.length, encS S, Ls.length, encM Ls, (T ++ rowT Ls t m k).length, encTT (T ++ rowT Ls t m k), (t : Int), Ls.length, (T ++ rowT Ls t m k).length))
 | 0, k, T, h, hT => by
  refine RrTrk_4d_of _ _ _ _ _ _ _ _ _ _ ?_
  unfold BrTrk_4d rowT
  rw [bif_pos (by omega), Int.toNat_natCast, Nat.mul_one, listS_get ht, bindO_val]
  dsimp only
  rw [bif_neg (by omega), List.append_nil]
  rfl
 | m + 1, k, T, h, hT => by
  have hkt := hk t
  have hlt := hl t
  have h6 := trk_6e Ls hL ok S.length (encS S) T.length (encTT T) Ls.length T.length t k (by omega) (fun h => by have := hkt h; omega)
  have ek : w64 ((k : Int) + 1) = ((k + 1 : Nat) : Int) := by rw [w64_in (by omega)]; omega
  have hbig : T.length + 1 ≤ big := by unfold big; omega
  have ihA := trk_4d t ht m (k + 1) (T ++ [trackV Ls t k]) (by omega) (by simp; omega)
  rw [encTT_snoc, List.append_assoc, List.singleton_append, List.length_append, List.length_singleton] at ihA
  have ihB := trk_4d t ht m (k + 1) T (by omega) (by omega)
  refine RrTrk_4d_of _ _ _ _ _ _ _ _ _ _ ?_
  unfold BrTrk_4d rowT
  rw [bif_pos (by omega), Int.toNat_natCast, Nat.mul_one, listS_get ht, bindO_val]
  dsimp only
  rw [bif_pos (by omega)]
  by_cases h0 : t = 0
  ·have hs : startC Ls t k = true := by simp [startC, h0]
   rw [bif_neg (by omega), if_pos hs]
   by_cases he : trackR Ls (Ls.length - t) t (k : Int) = []
   ·rw [if_pos he] at h6
    rw [trackV_one1 he] at ihA ⊢
    rw [h6, bindO_val, Sum.elim_inr, Sum.elim_inr, Sum.elim_inr, Sum.elim_inr, Sum.elim_inl]
    dsimp only
    rw [bif_pos ⟨rfl, hbig⟩, ek]
    exact ihA
   ·rw [if_neg he] at h6
    rw [h6, bindO_val, Sum.elim_inr, Sum.elim_inr, Sum.elim_inr, Sum.elim_inr, Sum.elim_inr]
    dsimp only
    rw [bif_pos ⟨rfl, hbig⟩, ek]
    exact ihA
  ·have et : w64 ((t : Int) - 1) = ((t - 1 : Nat) : Int) := by rw [w64_in (by omega)]; omega
   have hlt : t - 1 < Ls.length := by omega
   have hc : Fn env 19 (RSh.one CK.bool) [.list (Ls.getD (t - 1) []).length (encI (Ls.getD (t - 1) [])), .int .i64 (k : Int)] = _ := bHas_is (Ls.getD (t - 1) []) (hr _ (getD_memM hlt)) (k : Int)
   rw [bif_pos (by omega), et, bif_pos (by omega), Int.toNat_natCast, Nat.mul_one, listM_get hlt, bindO_val]
   dsimp only
   rw [hc, bindO_val]
   cases hcc : (Ls.getD (t - 1) []).contains (k : Int) with
   | true =>
    have hs : ¬ startC Ls t k = true := by unfold startC; rw [hcc]; simp [h0]
    rw [cond_true, if_neg hs, ek]
    exact ihB
   | false =>
    have hs : startC Ls t k = true := by unfold startC; rw [hcc]; simp
    rw [cond_false, if_pos hs]
    by_cases he : trackR Ls (Ls.length - t) t (k : Int) = []
    ·rw [if_pos he] at h6
     rw [trackV_one1 he] at ihA ⊢
     rw [h6, bindO_val, Sum.elim_inr, Sum.elim_inr, Sum.elim_inr, Sum.elim_inr, Sum.elim_inl]
     dsimp only
     rw [bif_pos ⟨rfl, hbig⟩, ek]
     exact ihA
    ·rw [if_neg he] at h6
     rw [h6, bindO_val, Sum.elim_inr, Sum.elim_inr, Sum.elim_inr, Sum.elim_inr, Sum.elim_inr]
     dsimp only
     rw [bif_pos ⟨rfl, hbig⟩, ek]
     exact ihA
theorem trk_4b (t : Nat) (ht : t < S.length) : ∀ (m k : Nat), k + m = (S.getD t []).length →
  RrTrk_4 (TrTrk_4b S.length (encS S) Ls.length (encM Ls) (t : Int) (k : Int) Ls.length) = if rowT Ls t m k = [] then exO (XrTrk_4b (S.length, encS S, Ls.length, encM Ls, (t : Int), Ls.length)) else exO (XrTrk_4d (S.length, encS S, Ls.length, encM Ls, (rowT Ls t m k).length, encTT (rowT Ls t m k), (t : Int), Ls.length, (rowT Ls t m k).length))
 | 0, k, h => by
  refine RrTrk_4b_of _ _ _ _ _ _ _ ?_
  unfold BrTrk_4b
  rw [bif_pos (by omega), Int.toNat_natCast, Nat.mul_one, listS_get ht, bindO_val]
  dsimp only
  rw [bif_neg (by omega)]
  rfl
 | m + 1, k, h => by
  have hkt := hk t
  have hlt := hl t
  have h6 := trk_6b Ls hL ok S.length (encS S) Ls.length t k (by omega) (fun h => by have := hkt h; omega)
  have ek : w64 ((k : Int) + 1) = ((k + 1 : Nat) : Int) := by rw [w64_in (by omega)]; omega
  have ihA := trk_4d Ls hL ok hr S hS hk hl t ht m (k + 1) [trackV Ls t k] (by omega) (by simp; omega)
  have ihB := trk_4b t ht m (k + 1) (by omega)
  rw [List.singleton_append] at ihA
  have hs : BrTrk_4b (Fn env) RrTrk_4 exO LrTrk_0 LrTrk_2 LrTrk_4 LrTrk_6 S.length (encS S) Ls.length (encM Ls) (t : Int) (k : Int) Ls.length = if startC Ls t k = true then RrTrk_4 (TrTrk_4d S.length (encS S) Ls.length (encM Ls) [trackV Ls t k].length (encTT [trackV Ls t k]) (t : Int) ((k + 1 : Nat) : Int) Ls.length [trackV Ls t k].length) else RrTrk_4 (TrTrk_4b S.length (encS S) Ls.length (encM Ls) (t : Int) ((k + 1 : Nat) : Int) Ls.length) := by
   unfold BrTrk_4b
   rw [bif_pos (by omega), Int.toNat_natCast, Nat.mul_one, listS_get ht, bindO_val]
   dsimp only
   rw [bif_pos (by omega)]
   by_cases h0 : t = 0
   ·have hs : startC Ls t k = true := by simp [startC, h0]
    rw [bif_neg (by omega), if_pos hs]
    by_cases he : trackR Ls (Ls.length - t) t (k : Int) = []
    ·rw [if_pos he] at h6
     rw [trackV_one1 he, h6, bindO_val, Sum.elim_inr, Sum.elim_inl]
     dsimp only
     rw [ek]
     rfl
    ·rw [if_neg he] at h6
     rw [h6, bindO_val, Sum.elim_inr, Sum.elim_inr, Sum.elim_inl]
     dsimp only
     rw [ek]
     rfl
   ·have et : w64 ((t : Int) - 1) = ((t - 1 : Nat) : Int) := by rw [w64_in (by omega)]; omega
    have hlt : t - 1 < Ls.length := by omega
    have hc : Fn env 19 (RSh.one CK.bool) [.list (Ls.getD (t - 1) []).length (encI (Ls.getD (t - 1) [])), .int .i64 (k : Int)] = _ := bHas_is (Ls.getD (t - 1) []) (hr _ (getD_memM hlt)) (k : Int)
    rw [bif_pos (by omega), et, bif_pos (by omega), Int.toNat_natCast, Nat.mul_one, listM_get hlt, bindO_val]
    dsimp only
    rw [hc, bindO_val]
    cases hcc : (Ls.getD (t - 1) []).contains (k : Int) with
    | true =>
     have hs : ¬ startC Ls t k = true := by unfold startC; rw [hcc]; simp [h0]
     rw [cond_true, if_neg hs, ek]
    | false =>
     have hs : startC Ls t k = true := by unfold startC; rw [hcc]; simp
     rw [cond_false, if_pos hs]
     by_cases he : trackR Ls (Ls.length - t) t (k : Int) = []
     ·rw [if_pos he] at h6
      rw [trackV_one1 he, h6, bindO_val, Sum.elim_inr, Sum.elim_inl]
      dsimp only
      rw [ek]
      rfl
     ·rw [if_neg he] at h6
      rw [h6, bindO_val, Sum.elim_inr, Sum.elim_inr, Sum.elim_inl]
      dsimp only
      rw [ek]
      rfl
  by_cases hst : startC Ls t k = true
  ·have e : rowT Ls t (m + 1) k = trackV Ls t k :: rowT Ls t m (k + 1) := if_pos hst
   rw [if_pos hst, ihA] at hs
   rw [e, if_neg (by simp)]
   exact RrTrk_4b_of _ _ _ _ _ _ _ hs
  ·have e : rowT Ls t (m + 1) k = rowT Ls t m (k + 1) := if_neg hst
   rw [if_neg hst, ihB] at hs
   rw [e]
   split at hs
   ·rename_i hn
    rw [if_pos hn]
    exact RrTrk_4b_of _ _ _ _ _ _ _ hs
   ·rename_i hn
    rw [if_neg hn]
    exact RrTrk_4b_of _ _ _ _ _ _ _ hs
theorem trk_2d : ∀ (m t : Nat) (T : List (List ZZ)), t + m = S.length → T.length ≤ 5 * t →
  RrTrk_2 (TrTrk_2d S.length (encS S) Ls.length (encM Ls) T.length (encTT T) (t : Int) Ls.length T.length) = exO (XrTrk_2d ((T ++ allT Ls S m t).length, encTT (T ++ allT Ls S m t), Ls.length, (T ++ allT Ls S m t).length))
 | 0, t, T, h, _ => by
  refine RrTrk_2d_of _ _ _ _ _ _ _ _ _ ?_
  unfold BrTrk_2d allT
  rw [bif_neg (by omega), List.append_nil]
  rfl
 | m + 1, t, T, h, hT => by
  have ht : t < S.length := by omega
  have hlt := hl t
  have hrl := rowT_len Ls t (S.getD t []).length 0
  have h4 : LrTrk_4 (TrTrk_4d S.length (encS S) Ls.length (encM Ls) T.length (encTT T) (t : Int) 0 Ls.length T.length) = _ := LrTrk_4d_of (trk_4d Ls hL ok hr S hS hk hl t ht (S.getD t []).length 0 T (by omega) (by omega))
  have ih := trk_2d m (t + 1) (T ++ rowT Ls t (S.getD t []).length 0) (by omega) (by rw [List.length_append]; omega)
  have ew : w64 ((t : Int) + 1) = ((t + 1 : Nat) : Int) := by rw [w64_in (by omega)]; omega
  refine RrTrk_2d_of _ _ _ _ _ _ _ _ _ ?_
  unfold BrTrk_2d
  rw [bif_pos (by omega), h4, bindO_val, Sum.elim_inr, Sum.elim_inr, Sum.elim_inr]
  dsimp only
  rw [ew]
  unfold allT
  rw [← List.append_assoc]
  exact ih
theorem trk_2b : ∀ (m t : Nat), t + m = S.length →
  RrTrk_2 (TrTrk_2b S.length (encS S) Ls.length (encM Ls) (t : Int) Ls.length) = if allT Ls S m t = [] then exO (XrTrk_2b Ls.length) else exO (XrTrk_2d ((allT Ls S m t).length, encTT (allT Ls S m t), Ls.length, (allT Ls S m t).length))
 | 0, t, h => by
  refine RrTrk_2b_of _ _ _ _ _ _ ?_
  unfold BrTrk_2b
  rw [bif_neg (by omega)]
  rfl
 | m + 1, t, h => by
  have ht : t < S.length := by omega
  have hlt := hl t
  have hrl := rowT_len Ls t (S.getD t []).length 0
  have h4 := trk_4b Ls hL ok hr S hS hk hl t ht (S.getD t []).length 0 (by omega)
  have ihA := trk_2d Ls hL ok hr S hS hk hl m (t + 1) (rowT Ls t (S.getD t []).length 0) (by omega) (by omega)
  have ihB := trk_2b m (t + 1) (by omega)
  have ew : w64 ((t : Int) + 1) = ((t + 1 : Nat) : Int) := by rw [w64_in (by omega)]; omega
  by_cases hn : rowT Ls t (S.getD t []).length 0 = []
  ·have e : allT Ls S (m + 1) t = allT Ls S m (t + 1) := by
    show rowT Ls t _ 0 ++ allT Ls S m (t + 1) = _
    rw [hn, List.nil_append]
   rw [if_pos hn] at h4
   have h4 : LrTrk_4 (TrTrk_4b S.length (encS S) Ls.length (encM Ls) (t : Int) 0 Ls.length) = _ := LrTrk_4b_of h4
   have hs : BrTrk_2b (Fn env) RrTrk_2 exO LrTrk_0 LrTrk_2 LrTrk_4 LrTrk_6 S.length (encS S) Ls.length (encM Ls) (t : Int) Ls.length = RrTrk_2 (TrTrk_2b S.length (encS S) Ls.length (encM Ls) ((t + 1 : Nat) : Int) Ls.length) := by
    unfold BrTrk_2b
    rw [bif_pos (by omega), h4, bindO_val, Sum.elim_inr, Sum.elim_inl]
    dsimp only
    rw [ew]
   rw [ihB] at hs
   rw [e]
   split at hs
   ·rename_i h0
    rw [if_pos h0]
    exact RrTrk_2b_of _ _ _ _ _ _ hs
   ·rename_i h0
    rw [if_neg h0]
    exact RrTrk_2b_of _ _ _ _ _ _ hs
  ·have e : allT Ls S (m + 1) t = rowT Ls t (S.getD t []).length 0 ++ allT Ls S m (t + 1) := rfl
   rw [if_neg hn] at h4
   have h4 : LrTrk_4 (TrTrk_4b S.length (encS S) Ls.length (encM Ls) (t : Int) 0 Ls.length) = _ := LrTrk_4d_of h4
   rw [e, if_neg (by
    intro h
    exact hn (List.append_eq_nil_iff.1 h).1)]
   refine RrTrk_2b_of _ _ _ _ _ _ ?_
   unfold BrTrk_2b
   rw [bif_pos (by omega), h4, bindO_val, Sum.elim_inr, Sum.elim_inr, Sum.elim_inr]
   dsimp only
   rw [ew]
   exact ihA
end
theorem trk_0b (S : List (List Z3)) (miss : Int) (hS : S.length ≤ 1000) (hp : PairOK S) : ∀ (m i : Nat), i + 1 + m = S.length →
  RrTrk_0 (TrTrk_0b S.length (encS S) miss i (encM (linkN S miss i 0)) (i : Int) i) = exO (XrTrk_0b (S.length, encS S, S.length - 1, encM (linksL S miss), S.length - 1))
 | 0, i, h => by
  have e : i = S.length - 1 := by omega
  have ew : w64 ((i : Int) + 1) = ((i + 1 : Nat) : Int) := by rw [w64_in (by omega)]; omega
  refine RrTrk_0b_of _ _ _ _ _ _ _ ?_
  unfold BrTrk_0b linksL
  rw [ew, bif_neg (by omega), ← e]
  rfl
 | m + 1, i, h => by
  have ih := trk_0b S miss hS hp m (i + 1) (by omega)
  have h1 : i < S.length := by omega
  have h2 : i + 1 < S.length := by omega
  have hl : Fn env 26 (RSh.one CK.list) [.list (S.getD i []).length (encT (S.getD i [])), .list (S.getD (i + 1) []).length (encT (S.getD (i + 1) [])), .int .i64 miss] = _ := rLks_is _ _ miss (hp i h2)
  have hll := lnk_len (S.getD i []) (S.getD (i + 1) []) miss (hp i h2)
  have ew : w64 ((i : Int) + 1) = ((i + 1 : Nat) : Int) := by rw [w64_in (by omega)]; omega
  rw [linkN_app S miss i 0, encM_snoc, Nat.zero_add, hll] at ih
  refine RrTrk_0b_of _ _ _ _ _ _ _ ?_
  unfold BrTrk_0b
  rw [ew, bif_pos (by omega), bif_pos (by omega), Int.toNat_natCast, Nat.mul_one, listS_get h1, bindO_val, bif_pos (by omega), Int.toNat_natCast, Nat.mul_one, listS_get h2, bindO_val]
  dsimp only
  rw [hl, bindO_val]
  dsimp only
  rw [bif_pos ⟨rfl, by unfold big; omega⟩]
  exact ih
theorem trk_0 (S : List (List Z3)) (miss : Int) (hS : S.length ≤ 1000) (hp : PairOK S) : LrTrk_0 (TrTrk_0a S.length (encS S) miss) = some (if S.length ≤ 1 then Sum.inl (S.length, encS S) else Sum.inr (S.length, encS S, S.length - 1, encM (linksL S miss), S.length - 1)) := by
 have ew : w64 ((0 : Int) + 1) = 1 := w64_in (by omega)
 by_cases h1 : S.length ≤ 1
 ·rw [if_pos h1]
  refine LrTrk_0a_of (RrTrk_0a_of _ _ _ ?_)
  unfold BrTrk_0a
  rw [ew, bif_neg (by omega)]
  rfl
 ·rw [if_neg h1]
  refine LrTrk_0b_of (RrTrk_0a_of _ _ _ ?_)
  have g0 : 0 < S.length := by omega
  have g1 : 0 + 1 < S.length := by omega
  have hl : Fn env 26 (RSh.one CK.list) [.list (S.getD 0 []).length (encT (S.getD 0 [])), .list (S.getD (0 + 1) []).length (encT (S.getD (0 + 1) [])), .int .i64 miss] = _ := rLks_is _ _ miss (hp 0 g1)
  have hll := lnk_len (S.getD 0 []) (S.getD (0 + 1) []) miss (hp 0 g1)
  have ih := trk_0b S miss hS hp (S.length - 2) 1 (by omega)
  have e1 : encM (linkN S miss 1 0) = [PV.list (S.getD 0 []).length (encI (lnk (S.getD 0 []) (S.getD (0 + 1) []) miss))] := by
   show [PV.list _ _] = _
   rw [hll]
  rw [e1] at ih
  have x0 : listC (encS S)[0]? = _ := listS_get g0
  have x1 : listC (encS S)[1]? = _ := listS_get g1
  unfold BrTrk_0a
  rw [ew, bif_pos (by omega), bif_pos (by omega), x0, bindO_val, bif_pos (by omega), x1, bindO_val]
  dsimp only
  rw [hl, bindO_val]
  exact ih
theorem trk_4c (l : List Z3) (hl : l.length ≤ 5) : ∀ (m k : Nat) (T : List (List ZZ)), k + m = l.length → T.length + m ≤ 100000 →
  RrTrk_4 (TrTrk_4c 1 (encS [l]) T.length (encTT T) 0 (k : Int) T.length) = exO (XrTrk_4c (1, encS [l], (T ++ rowT [] 0 m k).length, encTT (T ++ rowT [] 0 m k), 0, (T ++ rowT [] 0 m k).length))
 | 0, k, T, h, hT => by
  have hg : listC ((encS [l])[Int.toNat (0 : Int) * 1]?) = some (l.length, encT l) := rfl
  refine RrTrk_4c_of _ _ _ _ _ _ _ ?_
  unfold BrTrk_4c rowT
  rw [bif_pos (by omega), hg, bindO_val]
  dsimp only
  rw [bif_neg (by omega), List.append_nil]
  rfl
 | m + 1, k, T, h, hT => by
  have hg : listC ((encS [l])[Int.toNat (0 : Int) * 1]?) = some (l.length, encT l) := rfl
  have ek : w64 ((k : Int) + 1) = ((k + 1 : Nat) : Int) := by rw [w64_in (by omega)]; omega
  have hbig : T.length + 1 ≤ big := by unfold big; omega
  have h6 : LrTrk_6 (TrTrk_6d 1 (encS [l]) T.length (encTT T) 0 (k : Int) 0 (k : Int) (k : Int) 0 T.length) = some (Sum.inr (Sum.inr (Sum.inr (Sum.inl (1, encS [l], T.length, encTT T, 0, (k : Int), 0, (k : Int), T.length))))) := LrTrk_6d_of (RrTrk_6d_of _ _ _ _ _ _ _ _ _ _ _ (by
   unfold BrTrk_6d
   rw [bif_neg (by omega)]
   rfl))
  have ih := trk_4c l hl m (k + 1) (T ++ [trackV [] 0 k]) (by omega) (by simp; omega)
  rw [encTT_snoc, List.append_assoc, List.singleton_append, List.length_append, List.length_singleton] at ih
  have e : rowT [] 0 (m + 1) k = trackV [] 0 (k : Int) :: rowT [] 0 m (k + 1) := if_pos (by simp [startC])
  refine RrTrk_4c_of _ _ _ _ _ _ _ ?_
  unfold BrTrk_4c
  rw [bif_pos (by omega), hg, bindO_val]
  dsimp only
  rw [bif_pos (by omega), bif_neg (by omega), h6, bindO_val, Sum.elim_inr, Sum.elim_inr, Sum.elim_inr, Sum.elim_inl]
  dsimp only
  rw [bif_pos ⟨rfl, hbig⟩, ek, e]
  exact ih
theorem trk_one (l : List Z3) (hl : l.length ≤ 5) : LrTrk_2 (TrTrk_2a 1 (encS [l]) 0) = some (if allT [] [l] 1 0 = [] then Sum.inl () else Sum.inr (Sum.inr (Sum.inl ((allT [] [l] 1 0).length, encTT (allT [] [l] 1 0), (allT [] [l] 1 0).length)))) := by
 have ea : allT [] [l] 1 0 = rowT [] 0 l.length 0 := by
  show rowT [] 0 l.length 0 ++ [] = _
  rw [List.append_nil]
 have hg : listC ((encS [l])[Int.toNat (0 : Int) * 1]?) = some (l.length, encT l) := rfl
 have ew : w64 ((0 : Int) + 1) = 1 := w64_in (by omega)
 rw [ea]
 by_cases h0 : l.length = 0
 ·have e : rowT [] 0 l.length 0 = [] := by rw [h0]; rfl
  rw [if_pos e]
  have h4 : LrTrk_4 (TrTrk_4a 1 (encS [l]) 0) = some (Sum.inl (1, encS [l], 0)) := LrTrk_4a_of (RrTrk_4a_of _ _ _ (by
   unfold BrTrk_4a
   rw [bif_pos (by omega), hg, bindO_val]
   dsimp only
   rw [bif_neg (by omega)]
   rfl))
  have h5 : RrTrk_2 (TrTrk_2a 1 (encS [l]) 1) = exO (XrTrk_2a ()) := RrTrk_2a_of _ _ _ (by unfold BrTrk_2a; rw [bif_neg (by omega)]; rfl)
  refine LrTrk_2a_of (RrTrk_2a_of _ _ _ ?_)
  unfold BrTrk_2a
  rw [bif_pos (by omega), h4, bindO_val, Sum.elim_inl]
  dsimp only
  rw [ew]
  exact h5
 ·obtain ⟨m, hm⟩ : ∃ m, l.length = m + 1 := ⟨l.length - 1, by omega⟩
  have e : rowT [] 0 l.length 0 = trackV [] 0 (0 : Int) :: rowT [] 0 m 1 := by rw [hm]; exact if_pos (by simp [startC])
  have hne : ¬ rowT [] 0 l.length 0 = [] := by rw [e]; simp
  rw [if_neg hne]
  have h4c := trk_4c l hl m 1 [trackV [] 0 0] (by omega) (by simp; omega)
  rw [List.singleton_append, ← e] at h4c
  have h6 : LrTrk_6 (TrTrk_6a 1 (encS [l]) 0 0 0) = some (Sum.inl (1, encS [l], 0, 0)) := LrTrk_6a_of (RrTrk_6a_of _ _ _ _ _ (by
   unfold BrTrk_6a
   rw [bif_neg (by omega)]
   rfl))
  have h4 : LrTrk_4 (TrTrk_4a 1 (encS [l]) 0) = _ := LrTrk_4c_of (RrTrk_4a_of _ _ _ (by
   unfold BrTrk_4a
   rw [bif_pos (by omega), hg, bindO_val]
   dsimp only
   rw [bif_pos (by omega), bif_neg (by omega), h6, bindO_val, Sum.elim_inl]
   exact h4c))
  have h5 : RrTrk_2 (TrTrk_2c 1 (encS [l]) (rowT [] 0 l.length 0).length (encTT (rowT [] 0 l.length 0)) 1 (rowT [] 0 l.length 0).length) = exO (XrTrk_2c ((rowT [] 0 l.length 0).length, encTT (rowT [] 0 l.length 0), (rowT [] 0 l.length 0).length)) := RrTrk_2c_of _ _ _ _ _ _ (by unfold BrTrk_2c; rw [bif_neg (by omega)]; rfl)
  refine LrTrk_2c_of (RrTrk_2a_of _ _ _ ?_)
  unfold BrTrk_2a
  rw [bif_pos (by omega), h4, bindO_val, Sum.elim_inr, Sum.elim_inr, Sum.elim_inl]
  dsimp only
  rw [ew]
  exact h5
theorem rTrk_is (S : List (List Z3)) (miss : Int) (hS : S.length ≤ 1000) (hp : PairOK S) (hl : ∀ t, (S.getD t []).length ≤ 5) : FrTrk [.list S.length (encS S), .int .i64 miss] = some ((tracksV S miss).length, encTT (tracksV S miss)) := by
 refine FrTrk_of _ _ _ ?_
 unfold trTrk
 rw [trk_0 S miss hS hp, bindO_val]
 by_cases h1 : S.length ≤ 1
 ·rw [if_pos h1, Sum.elim_inl]
  dsimp only
  match S, h1, hl with
  | [], _, _ =>
   have h5 : LrTrk_2 (TrTrk_2a 0 (encS []) 0) = some (Sum.inl ()) := LrTrk_2a_of (RrTrk_2a_of _ _ _ (by unfold BrTrk_2a; rw [bif_neg (by omega)]; rfl))
   have h5 : LrTrk_2 (TrTrk_2a ([] : List (List Z3)).length (encS []) 0) = some (Sum.inl ()) := h5
   rw [h5, bindO_val, Sum.elim_inl]
   rfl
  | [l], _, hl =>
   have hll : l.length ≤ 5 := hl 0
   have h5 : LrTrk_2 (TrTrk_2a [l].length (encS [l]) 0) = _ := trk_one l hll
   have e : tracksV [l] miss = allT [] [l] 1 0 := rfl
   rw [h5, bindO_val, e]
   by_cases hn : allT [] [l] 1 0 = []
   ·rw [if_pos hn, Sum.elim_inl, hn]
    rfl
   ·rw [if_neg hn, Sum.elim_inr, Sum.elim_inr, Sum.elim_inl]
    dsimp only
    rw [bif_pos rfl]
  | _ :: _ :: _, h1, _ =>
   simp at h1
 ·rw [if_neg h1, Sum.elim_inr]
  dsimp only
  have hlen := linksL_len S miss
  have h2 := trk_2b (linksL S miss) (by omega) (links_ok S miss hp) (fun r hr => by
   obtain ⟨i, hi, rfl⟩ := List.getElem_of_mem hr
   have := linksL_row (miss := miss) hp hi
   have h5 := hl i
   rw [getD_at hi] at this
   omega) S (by omega) (fun t ht => (linksL_row hp ht).symm) hl S.length 0 (by omega)
  have h2 : RrTrk_2 (TrTrk_2b S.length (encS S) (linksL S miss).length (encM (linksL S miss)) 0 (linksL S miss).length) = _ := h2
  rw [hlen] at h2
  by_cases hn : allT (linksL S miss) S S.length 0 = []
  ·rw [if_pos hn] at h2
   rw [LrTrk_2b_of h2, bindO_val, Sum.elim_inr, Sum.elim_inl]
   unfold tracksV
   rw [hn]
   rfl
  ·rw [if_neg hn] at h2
   rw [LrTrk_2d_of h2, bindO_val, Sum.elim_inr, Sum.elim_inr, Sum.elim_inr]
   dsimp only
   rw [bif_pos rfl]
   rfl
theorem str_2 (T : List (List ZZ)) (p : Nat) (hp : p < T.length) (hl : (T.getD p []).length ≤ 1000) : ∀ (m k : Nat), k + m = (T.getD p []).length →
  RrSTr_2 (TrSTr_2a T.length (encTT T) T.length (encTT T) (p : Int) (k : Int)) = exO (XrSTr_2b (T.length, encTT T, T.length, encTT T, (p : Int)))
 | 0, k, h => by
  refine RrSTr_2a_of _ _ _ _ _ _ ?_
  unfold BrSTr_2a
  rw [bif_pos (by omega), Int.toNat_natCast, Nat.mul_one, listTT_get hp, bindO_val]
  dsimp only
  rw [bif_neg (by omega)]
  rfl
 | m + 1, k, h => by
  have ih := str_2 T p hp hl m (k + 1) (by omega)
  have g := encG_at (l := T.getD p []) (q := k) (z := _) (by omega) rfl
  refine RrSTr_2a_of _ _ _ _ _ _ ?_
  unfold BrSTr_2a
  rw [bif_pos (by omega), Int.toNat_natCast, Nat.mul_one, listTT_get hp, bindO_val]
  dsimp only
  rw [bif_pos (by omega), bif_pos (by omega), bindO_val]
  dsimp only
  rw [bif_pos (by omega), Int.toNat_natCast, g.1, bindO_val, g.2, bindO_val, bif_pos (by omega), bindO_val]
  dsimp only
  rw [bif_pos (by omega), g.1, bindO_val, g.2, bindO_val, beq_self_eq_true, beq_self_eq_true, Bool.and_self, Bool.and_self, Bool.not_true, cond_false, w64_in (by omega)]
  exact ih
theorem str_0 (T : List (List ZZ)) (hT : T.length ≤ 1000) (hl : ∀ p, (T.getD p []).length ≤ 1000) : ∀ (m p : Nat), p + m = T.length →
  RrSTr_0 (TrSTr_0a T.length (encTT T) T.length (encTT T) (p : Int)) = exO (XrSTr_0b ())
 | 0, p, h => by
  refine RrSTr_0a_of _ _ _ _ _ ?_
  unfold BrSTr_0a
  rw [bif_neg (by omega)]
  rfl
 | m + 1, p, h => by
  have ih := str_0 T hT hl m (p + 1) (by omega)
  have hp : p < T.length := by omega
  have h2 : LrSTr_2 (TrSTr_2a T.length (encTT T) T.length (encTT T) (p : Int) 0) = _ := LrSTr_2b_of (str_2 T p hp (hl p) (T.getD p []).length 0 (by omega))
  refine RrSTr_0a_of _ _ _ _ _ ?_
  unfold BrSTr_0a
  rw [bif_pos (by omega), bif_pos (by omega), Int.toNat_natCast, Nat.mul_one, listTT_get hp, bindO_val, bif_pos (by omega), bindO_val, bif_ne, if_pos rfl, h2, bindO_val, Sum.elim_inr]
  dsimp only
  rw [w64_in (by omega)]
  exact ih
theorem rSTr_same (T : List (List ZZ)) (hT : T.length ≤ 1000) (hl : ∀ p, (T.getD p []).length ≤ 1000) : FrSTr [.list T.length (encTT T), .list T.length (encTT T)] = some true := by
 refine FrSTr_of _ _ _ _ ?_
 unfold trSTr
 have h : LrSTr_0 (TrSTr_0a T.length (encTT T) T.length (encTT T) 0) = _ := LrSTr_0b_of (str_0 T hT hl T.length 0 (by omega))
 rw [bif_ne, if_pos rfl, h, bindO_val, Sum.elim_inr]
end Gv
