import Derived.Test.YtpbpkbckgifhdaaGreatGvEnv
import Derived.Test.YtpbpkbckgifhdaaGreatK34

/- What the functions do, round by round: Z1. -/
namespace Gv
open Go
set_option maxRecDepth 100000
def ErLkE : List Entry := [.out 62 (RSh.one (CK.int .i64)), .out 63 (RSh.one (CK.int .i64))]
theorem ErLkE_ok : ∀ e ∈ ErLkE, EntOK env e := (ent_out (ent_out ent_nil))
def trLkE (F : FnT) (p0n : Nat) (p0c : List PV) (p1n : Nat) (p1c : List PV) (p2 : Int) : Option (Int) :=
 bindO (F 62 (RSh.one (CK.int .i64)) [(PV.list p0n p0c)]) fun (y0 : (Int)) =>
 bif (y0 != (0 : Int)) then
  some y0
 else bindO (F 62 (RSh.one (CK.int .i64)) [(PV.list p1n p1c)]) fun (y1 : (Int)) =>
 bif (y1 != (0 : Int)) then
  some y1
 else bindO (F 63 (RSh.one (CK.int .i64)) [(PV.int .i64 p2)]) fun (y2 : (Int)) =>
 some y2
theorem trLkE_eq (F p0n p0c p1n p1c p2) : semF (callP F ErLkE 20) s21 (loopT []) 400 a21 [PV.list p0n p0c, PV.list p1n p1c, PV.int .i64 p2] (fun rv => decR (RSh.one (CK.int .i64)) rv.pv) = trLkE F p0n p0c p1n p1c p2 := by kernel_rfl
noncomputable abbrev FrLkE (args : List PV) := Fn env 21 (RSh.one (CK.int .i64)) args
theorem FrLkE_of  (p0n : Nat) (p0c : List PV) (p1n : Nat) (p1c : List PV) (p2 : Int) {res : (Int)} (h : trLkE (Fn env) p0n p0c p1n p1c p2 = some res) : FrLkE [PV.list p0n p0c, PV.list p1n p1c, PV.int .i64 p2] = some res :=
 fn_of ErLkE_ok rfl rfl lo_nil ((trLkE_eq _ _ _ _ _ _).trans h)
def ElinC : List Entry := [.out 64 (RSh.one (CK.int .i64)), .out 65 (RSh.one CK.list)]
theorem ElinC_ok : ∀ e ∈ ElinC, EntOK env e := (ent_out (ent_out ent_nil))
def tlinC (F : FnT) (p0n : Nat) (p0c : List PV) (p1n : Nat) (p1c : List PV) (p2 : Int) : Option (((Nat) × (List PV)) × (Int)) :=
 bindO (F 64 (RSh.one (CK.int .i64)) [(PV.list p0n p0c), (PV.list p1n p1c), (PV.int .i64 p2)]) fun (y0 : (Int)) =>
 bif (y0 != (0 : Int)) then
  some ((0, []), y0)
 else bindO (F 65 (RSh.one CK.list) [(PV.list p0n p0c), (PV.list p1n p1c), (PV.int .i64 p2)]) fun (y1 : ((Nat) × (List PV))) =>
 some ((y1.1, y1.2), (0 : Int))
theorem tlinC_eq (F p0n p0c p1n p1c p2) : semF (callP F ElinC 20) s22 (loopT []) 400 a22 [PV.list p0n p0c, PV.list p1n p1c, PV.int .i64 p2] (fun rv => decR (RSh.tup [(Prod.mk false [CK.list]), (Prod.mk false [(CK.int .i64)])]) rv.pv) = tlinC F p0n p0c p1n p1c p2 := by kernel_rfl
noncomputable abbrev FlinC (args : List PV) := Fn env 22 (RSh.tup [(Prod.mk false [CK.list]), (Prod.mk false [(CK.int .i64)])]) args
theorem FlinC_of  (p0n : Nat) (p0c : List PV) (p1n : Nat) (p1c : List PV) (p2 : Int) {res : (((Nat) × (List PV)) × (Int))} (h : tlinC (Fn env) p0n p0c p1n p1c p2 = some res) : FlinC [PV.list p0n p0c, PV.list p1n p1c, PV.int .i64 p2] = some res :=
 fn_of ElinC_ok rfl rfl lo_nil ((tlinC_eq _ _ _ _ _ _).trans h)
def ErCts : List Entry := [.out 67 (RSh.one (CK.int .i64))]
theorem ErCts_ok : ∀ e ∈ ErCts, EntOK env e := (ent_out ent_nil)
def TrCts_0a (n0 : Nat) (c1 : List PV) (n2 : Nat) (c3 : List PV) (i4 : Int) : Q := ⟨(tm 69 [(0, (AV.p (PV.list n0 c1))), (1, (AV.p (PV.list n2 c3))), (2, (AV.p (PV.int .i64 i4))), (7, AV.nilS), (8, (AV.p (PV.int .i64 (0 : Int))))]), (mm 69 [])⟩
def TrCts_0b (n0 : Nat) (c1 : List PV) (n2 : Nat) (c3 : List PV) (i4 : Int) (n5 : Nat) (c6 : List PV) (i7 : Int) (n8 : Nat) : Q := ⟨(tm 69 [(0, (AV.p (PV.list n0 c1))), (1, (AV.p (PV.list n2 c3))), (2, (AV.p (PV.int .i64 i4))), (7, (AV.app 67 n5 1 c6)), (8, (AV.p (PV.int .i64 i7)))]), (mm 69 [(67, (Bk.buf n8))])⟩
def XrCts_0a (_y : Unit) : Ext × Q := (Ext.normal, ⟨(tm 69 [(7, AV.nilS)]), (mm 69 [])⟩)
def IrCts_0a (_q : Ext × S) : Unit := ()
def XrCts_0b (y : Nat × List PV × Nat) : Ext × Q := (Ext.normal, ⟨(tm 69 [(7, (AV.app 67 y.1 1 y.2.1))]), (mm 69 [(67, (Bk.buf y.2.2))])⟩)
def IrCts_0b (q : Ext × S) : Nat × List PV × Nat := ((pA_app1 (avT q.2 7)), (pA_app3 (avT q.2 7)), (pB_buf0 (avM q.2 67)))
abbrev YrCts_0 : Type := (Unit) ⊕ ((Nat × List PV × Nat))
def XLrCts_0 : XL YrCts_0 := .more XrCts_0a (.one XrCts_0b)
def IrCts_0 (q : Ext × S) : YrCts_0 := bif (cA (avT q.2 7) == 1) then (Sum.inl (IrCts_0a q)) else (Sum.inr (IrCts_0b q))
theorem XIrCts_0a (y) : IrCts_0 (xe (XrCts_0a y)) = (Sum.inl y) := by kernel_rfl
theorem XIrCts_0b (y) : IrCts_0 (xe (XrCts_0b y)) = (Sum.inr y) := by kernel_rfl
theorem XIrCts_0 (y) : IrCts_0 (xe (XLrCts_0.fn y)) = y := (match y with | .inl y => XIrCts_0a y | .inr y => XIrCts_0b y)
noncomputable abbrev LrCts_0 : Q → Option YrCts_0 := lpO env a25.body 0 XLrCts_0
noncomputable abbrev RrCts_0 : Q → Option (Ext × S) := lpR env a25.body 0
theorem LrCts_0a_of {s y} (h : RrCts_0 s = exO (XrCts_0a y)) : LrCts_0 s = some (Sum.inl y) := lpO_of IrCts_0 XIrCts_0 (y := (Sum.inl y)) h
theorem LrCts_0b_of {s y} (h : RrCts_0 s = exO (XrCts_0b y)) : LrCts_0 s = some (Sum.inr y) := lpO_of IrCts_0 XIrCts_0 (y := (Sum.inr y)) h
def TrCts_2a (n0 : Nat) (c1 : List PV) (n2 : Nat) (c3 : List PV) (i4 : Int) : Q := ⟨(tm 69 [(0, (AV.p (PV.list n0 c1))), (1, (AV.p (PV.list n2 c3))), (2, (AV.p (PV.int .i64 i4))), (7, AV.nilS), (8, (AV.p (PV.int .i64 (0 : Int)))), (9, AV.nilS), (10, (AV.p (PV.int .i64 (0 : Int))))]), (mm 69 [])⟩
def TrCts_2b (n0 : Nat) (c1 : List PV) (n2 : Nat) (c3 : List PV) (i4 : Int) (n5 : Nat) (c6 : List PV) (i7 : Int) (n8 : Nat) : Q := ⟨(tm 69 [(0, (AV.p (PV.list n0 c1))), (1, (AV.p (PV.list n2 c3))), (2, (AV.p (PV.int .i64 i4))), (7, AV.nilS), (8, (AV.p (PV.int .i64 (0 : Int)))), (9, (AV.app 63 n5 1 c6)), (10, (AV.p (PV.int .i64 i7)))]), (mm 69 [(63, (Bk.buf n8))])⟩
def TrCts_2c (n0 : Nat) (c1 : List PV) (n2 : Nat) (c3 : List PV) (i4 : Int) (n5 : Nat) (c6 : List PV) (i7 : Int) (n8 : Nat) : Q := ⟨(tm 69 [(0, (AV.p (PV.list n0 c1))), (1, (AV.p (PV.list n2 c3))), (2, (AV.p (PV.int .i64 i4))), (7, (AV.app 67 n5 1 c6)), (8, (AV.p (PV.int .i64 i7))), (9, AV.nilS), (10, (AV.p (PV.int .i64 (0 : Int))))]), (mm 69 [(67, (Bk.buf n8))])⟩
def TrCts_2d (n0 : Nat) (c1 : List PV) (n2 : Nat) (c3 : List PV) (i4 : Int) (n5 : Nat) (c6 : List PV) (i7 : Int) (n8 : Nat) (c9 : List PV) (i10 : Int) (n11 n12 : Nat) : Q := ⟨(tm 69 [(0, (AV.p (PV.list n0 c1))), (1, (AV.p (PV.list n2 c3))), (2, (AV.p (PV.int .i64 i4))), (7, (AV.app 67 n5 1 c6)), (8, (AV.p (PV.int .i64 i7))), (9, (AV.app 63 n8 1 c9)), (10, (AV.p (PV.int .i64 i10)))]), (mm 69 [(63, (Bk.buf n11)), (67, (Bk.buf n12))])⟩
def XrCts_2a (y : Nat × List PV × Nat × List PV × Int) : Ext × Q := (Ext.normal, ⟨(tm 69 [(0, (AV.p (PV.list y.1 y.2.1))), (1, (AV.p (PV.list y.2.2.1 y.2.2.2.1))), (2, (AV.p (PV.int .i64 y.2.2.2.2))), (7, AV.nilS), (8, (AV.p (PV.int .i64 (0 : Int)))), (9, AV.nilS)]), (mm 69 [])⟩)
def IrCts_2a (q : Ext × S) : Nat × List PV × Nat × List PV × Int := ((pP_list0 (pA_p (avT q.2 0))), (pP_list1 (pA_p (avT q.2 0))), (pP_list0 (pA_p (avT q.2 1))), (pP_list1 (pA_p (avT q.2 1))), (pP_int1 (pA_p (avT q.2 2))))
def XrCts_2b (y : Nat × List PV × Nat × List PV × Int × Nat × List PV × Nat) : Ext × Q := (Ext.normal, ⟨(tm 69 [(0, (AV.p (PV.list y.1 y.2.1))), (1, (AV.p (PV.list y.2.2.1 y.2.2.2.1))), (2, (AV.p (PV.int .i64 y.2.2.2.2.1))), (7, AV.nilS), (8, (AV.p (PV.int .i64 (0 : Int)))), (9, (AV.app 63 y.2.2.2.2.2.1 1 y.2.2.2.2.2.2.1))]), (mm 69 [(63, (Bk.buf y.2.2.2.2.2.2.2))])⟩)
def IrCts_2b (q : Ext × S) : Nat × List PV × Nat × List PV × Int × Nat × List PV × Nat := ((pP_list0 (pA_p (avT q.2 0))), (pP_list1 (pA_p (avT q.2 0))), (pP_list0 (pA_p (avT q.2 1))), (pP_list1 (pA_p (avT q.2 1))), (pP_int1 (pA_p (avT q.2 2))), (pA_app1 (avT q.2 9)), (pA_app3 (avT q.2 9)), (pB_buf0 (avM q.2 63)))
def XrCts_2c (y : Nat × List PV × Nat × List PV × Int × Nat × List PV × Int × Nat) : Ext × Q := (Ext.normal, ⟨(tm 69 [(0, (AV.p (PV.list y.1 y.2.1))), (1, (AV.p (PV.list y.2.2.1 y.2.2.2.1))), (2, (AV.p (PV.int .i64 y.2.2.2.2.1))), (7, (AV.app 67 y.2.2.2.2.2.1 1 y.2.2.2.2.2.2.1)), (8, (AV.p (PV.int .i64 y.2.2.2.2.2.2.2.1))), (9, AV.nilS)]), (mm 69 [(67, (Bk.buf y.2.2.2.2.2.2.2.2))])⟩)
def IrCts_2c (q : Ext × S) : Nat × List PV × Nat × List PV × Int × Nat × List PV × Int × Nat := ((pP_list0 (pA_p (avT q.2 0))), (pP_list1 (pA_p (avT q.2 0))), (pP_list0 (pA_p (avT q.2 1))), (pP_list1 (pA_p (avT q.2 1))), (pP_int1 (pA_p (avT q.2 2))), (pA_app1 (avT q.2 7)), (pA_app3 (avT q.2 7)), (pP_int1 (pA_p (avT q.2 8))), (pB_buf0 (avM q.2 67)))
def XrCts_2d (y : Nat × List PV × Nat × List PV × Int × Nat × List PV × Int × Nat × List PV × Nat × Nat) : Ext × Q := (Ext.normal, ⟨(tm 69 [(0, (AV.p (PV.list y.1 y.2.1))), (1, (AV.p (PV.list y.2.2.1 y.2.2.2.1))), (2, (AV.p (PV.int .i64 y.2.2.2.2.1))), (7, (AV.app 67 y.2.2.2.2.2.1 1 y.2.2.2.2.2.2.1)), (8, (AV.p (PV.int .i64 y.2.2.2.2.2.2.2.1))), (9, (AV.app 63 y.2.2.2.2.2.2.2.2.1 1 y.2.2.2.2.2.2.2.2.2.1))]), (mm 69 [(63, (Bk.buf y.2.2.2.2.2.2.2.2.2.2.1)), (67, (Bk.buf y.2.2.2.2.2.2.2.2.2.2.2))])⟩)
def IrCts_2d (q : Ext × S) : Nat × List PV × Nat × List PV × Int × Nat × List PV × Int × Nat × List PV × Nat × Nat := ((pP_list0 (pA_p (avT q.2 0))), (pP_list1 (pA_p (avT q.2 0))), (pP_list0 (pA_p (avT q.2 1))), (pP_list1 (pA_p (avT q.2 1))), (pP_int1 (pA_p (avT q.2 2))), (pA_app1 (avT q.2 7)), (pA_app3 (avT q.2 7)), (pP_int1 (pA_p (avT q.2 8))), (pA_app1 (avT q.2 9)), (pA_app3 (avT q.2 9)), (pB_buf0 (avM q.2 63)), (pB_buf0 (avM q.2 67)))
abbrev YrCts_2 : Type := (Nat × List PV × Nat × List PV × Int) ⊕ ((Nat × List PV × Nat × List PV × Int × Nat × List PV × Nat) ⊕ ((Nat × List PV × Nat × List PV × Int × Nat × List PV × Int × Nat) ⊕ ((Nat × List PV × Nat × List PV × Int × Nat × List PV × Int × Nat × List PV × Nat × Nat))))
def XLrCts_2 : XL YrCts_2 := .more XrCts_2a (.more XrCts_2b (.more XrCts_2c (.one XrCts_2d)))
def IrCts_2 (q : Ext × S) : YrCts_2 := bif (cA (avT q.2 9) == 1) && (cA (avT q.2 7) == 1) then (Sum.inl (IrCts_2a q)) else bif (cA (avT q.2 7) == 1) then (Sum.inr (Sum.inl (IrCts_2b q))) else bif (cA (avT q.2 9) == 1) then (Sum.inr (Sum.inr (Sum.inl (IrCts_2c q)))) else (Sum.inr (Sum.inr (Sum.inr (IrCts_2d q))))
theorem XIrCts_2a (y) : IrCts_2 (xe (XrCts_2a y)) = (Sum.inl y) := by kernel_rfl
theorem XIrCts_2b (y) : IrCts_2 (xe (XrCts_2b y)) = (Sum.inr (Sum.inl y)) := by kernel_rfl
theorem XIrCts_2c (y) : IrCts_2 (xe (XrCts_2c y)) = (Sum.inr (Sum.inr (Sum.inl y))) := by kernel_rfl
theorem XIrCts_2d (y) : IrCts_2 (xe (XrCts_2d y)) = (Sum.inr (Sum.inr (Sum.inr y))) := by kernel_rfl
theorem XIrCts_2 (y) : IrCts_2 (xe (XLrCts_2.fn y)) = y := (match y with | .inl y => XIrCts_2a y | .inr y => (match y with | .inl y => XIrCts_2b y | .inr y => (match y with | .inl y => XIrCts_2c y | .inr y => XIrCts_2d y)))
noncomputable abbrev LrCts_2 : Q → Option YrCts_2 := lpO env a25.body 2 XLrCts_2
noncomputable abbrev RrCts_2 : Q → Option (Ext × S) := lpR env a25.body 2
theorem LrCts_2b_of {s y} (h : RrCts_2 s = exO (XrCts_2b y)) : LrCts_2 s = some (Sum.inr (Sum.inl y)) := lpO_of IrCts_2 XIrCts_2 (y := (Sum.inr (Sum.inl y))) h
theorem LrCts_2d_of {s y} (h : RrCts_2 s = exO (XrCts_2d y)) : LrCts_2 s = some (Sum.inr (Sum.inr (Sum.inr y))) := lpO_of IrCts_2 XIrCts_2 (y := (Sum.inr (Sum.inr (Sum.inr y)))) h
theorem UrCts : uniq ((blocksOf a25.body).map (·.1)) = true := by kernel_rfl
def BrCts_0a (_F : FnT) (N : QO) (E : EO) (_L0 : QQ YrCts_0) (L2 : QQ YrCts_2) (n0 : Nat) (c1 : List PV) (n2 : Nat) (c3 : List PV) (i4 : Int) : OX :=
 bif (decide ((0 : Int) < (w64 ((n0 : Int) + (n2 : Int))))) then
  bindO (L2 (TrCts_2a n0 c1 n2 c3 i4)) fun z =>
  Sum.elim (fun y0 =>
   N (TrCts_0b y0.1 y0.2.1 y0.2.2.1 y0.2.2.2.1 y0.2.2.2.2 1 [(PV.list 0 [])] (1 : Int) 1)) (fun z0 => Sum.elim (fun y1 =>
   N (TrCts_0b y1.1 y1.2.1 y1.2.2.1 y1.2.2.2.1 y1.2.2.2.2.1 1 [(PV.list y1.2.2.2.2.2.1 y1.2.2.2.2.2.2.1)] (1 : Int) 1)) (fun z1 => Sum.elim (fun y2 =>
   bif (decide ((y2.2.2.2.2.2.2.2.2 = y2.2.2.2.2.2.1) ∧ ((y2.2.2.2.2.2.1 + 1) ≤ big))) then
    N (TrCts_0b y2.1 y2.2.1 y2.2.2.1 y2.2.2.2.1 y2.2.2.2.2.1 (y2.2.2.2.2.2.1 + 1) (y2.2.2.2.2.2.2.1 ++ [(PV.list 0 [])]) (w64 (y2.2.2.2.2.2.2.2.1 + (1 : Int))) (y2.2.2.2.2.2.1 + 1))
   else none) (fun y3 =>
   bif (decide ((y3.2.2.2.2.2.2.2.2.2.2.2 = y3.2.2.2.2.2.1) ∧ ((y3.2.2.2.2.2.1 + 1) ≤ big))) then
    N (TrCts_0b y3.1 y3.2.1 y3.2.2.1 y3.2.2.2.1 y3.2.2.2.2.1 (y3.2.2.2.2.2.1 + 1) (y3.2.2.2.2.2.2.1 ++ [(PV.list y3.2.2.2.2.2.2.2.2.1 y3.2.2.2.2.2.2.2.2.2.1)]) (w64 (y3.2.2.2.2.2.2.2.1 + (1 : Int))) (y3.2.2.2.2.2.1 + 1))
   else none) z1) z0) z
 else E (XrCts_0a ())
abbrev qM2_1 (L0 : QQ YrCts_0) (L2 : QQ YrCts_2) : List LoopO := [⟨0, YrCts_0, L0, XLrCts_0⟩, ⟨2, YrCts_2, L2, XLrCts_2⟩]
theorem BrCts_0a_eq (F N E L0 L2 n0 c1 n2 c3 i4) : semB (callP F ErCts 20) s25 (loopT (qM2_1 L0 L2)) 400 (blkIn a25.body 0) N E (TrCts_0a n0 c1 n2 c3 i4) = BrCts_0a F N E L0 L2 n0 c1 n2 c3 i4 := by kernel_rfl
theorem oqM2_1 : ∀ o ∈ qM2_1 LrCts_0 LrCts_2, LoopOOK env a25.body o := lo_cons (lpO_ok UrCts) (lo_cons (lpO_ok UrCts) lo_nil)
theorem RrCts_0a_of (n0 c1 n2 c3 i4) {r} (h : BrCts_0a (Fn env) RrCts_0 exO LrCts_0 LrCts_2 n0 c1 n2 c3 i4 = some r) : RrCts_0 (TrCts_0a n0 c1 n2 c3 i4) = some r :=
 lp_of ErCts_ok (by kernel_rfl) oqM2_1 (by kernel_rfl) ((BrCts_0a_eq _ _ _ _ _ _ _ _ _ _).trans h)
def BrCts_0b (_F : FnT) (N : QO) (E : EO) (_L0 : QQ YrCts_0) (L2 : QQ YrCts_2) (n0 : Nat) (c1 : List PV) (n2 : Nat) (c3 : List PV) (i4 : Int) (n5 : Nat) (c6 : List PV) (i7 : Int) (n8 : Nat) : OX :=
 bif (decide (i7 < (w64 ((n0 : Int) + (n2 : Int))))) then
  bindO (L2 (TrCts_2c n0 c1 n2 c3 i4 n5 c6 i7 n8)) fun z =>
  Sum.elim (fun y0 =>
   N (TrCts_0b y0.1 y0.2.1 y0.2.2.1 y0.2.2.2.1 y0.2.2.2.2 1 [(PV.list 0 [])] (1 : Int) 1)) (fun z0 => Sum.elim (fun y1 =>
   N (TrCts_0b y1.1 y1.2.1 y1.2.2.1 y1.2.2.2.1 y1.2.2.2.2.1 1 [(PV.list y1.2.2.2.2.2.1 y1.2.2.2.2.2.2.1)] (1 : Int) 1)) (fun z1 => Sum.elim (fun y2 =>
   bif (decide ((y2.2.2.2.2.2.2.2.2 = y2.2.2.2.2.2.1) ∧ ((y2.2.2.2.2.2.1 + 1) ≤ big))) then
    N (TrCts_0b y2.1 y2.2.1 y2.2.2.1 y2.2.2.2.1 y2.2.2.2.2.1 (y2.2.2.2.2.2.1 + 1) (y2.2.2.2.2.2.2.1 ++ [(PV.list 0 [])]) (w64 (y2.2.2.2.2.2.2.2.1 + (1 : Int))) (y2.2.2.2.2.2.1 + 1))
   else none) (fun y3 =>
   bif (decide ((y3.2.2.2.2.2.2.2.2.2.2.2 = y3.2.2.2.2.2.1) ∧ ((y3.2.2.2.2.2.1 + 1) ≤ big))) then
    N (TrCts_0b y3.1 y3.2.1 y3.2.2.1 y3.2.2.2.1 y3.2.2.2.2.1 (y3.2.2.2.2.2.1 + 1) (y3.2.2.2.2.2.2.1 ++ [(PV.list y3.2.2.2.2.2.2.2.2.1 y3.2.2.2.2.2.2.2.2.2.1)]) (w64 (y3.2.2.2.2.2.2.2.1 + (1 : Int))) (y3.2.2.2.2.2.1 + 1))
   else none) z1) z0) z
 else E (XrCts_0b (n5, c6, n8))
theorem BrCts_0b_eq (F N E L0 L2 n0 c1 n2 c3 i4 n5 c6 i7 n8) : semB (callP F ErCts 20) s25 (loopT (qM2_1 L0 L2)) 400 (blkIn a25.body 0) N E (TrCts_0b n0 c1 n2 c3 i4 n5 c6 i7 n8) = BrCts_0b F N E L0 L2 n0 c1 n2 c3 i4 n5 c6 i7 n8 := by kernel_rfl
theorem RrCts_0b_of (n0 c1 n2 c3 i4 n5 c6 i7 n8) {r} (h : BrCts_0b (Fn env) RrCts_0 exO LrCts_0 LrCts_2 n0 c1 n2 c3 i4 n5 c6 i7 n8 = some r) : RrCts_0 (TrCts_0b n0 c1 n2 c3 i4 n5 c6 i7 n8) = some r :=
 lp_of ErCts_ok (by kernel_rfl) oqM2_1 (by kernel_rfl) ((BrCts_0b_eq _ _ _ _ _ _ _ _ _ _ _ _ _ _).trans h)
def BrCts_2a (F : FnT) (N : QO) (E : EO) (_L0 : QQ YrCts_0) (_L2 : QQ YrCts_2) (n0 : Nat) (c1 : List PV) (n2 : Nat) (c3 : List PV) (i4 : Int) : OX :=
 bif (decide ((0 : Int) < (w64 ((n0 : Int) + (n2 : Int))))) then
  bif (decide ((0 : Int) < (n0 : Int))) then
   bif (decide ((0 : Int) < (n2 : Int))) then
    bif (decide (((0 : Int) ≤ (0 : Int)) ∧ ((0 : Int) < (n0 : Int)))) then
     bindO (intC .i64 (c1[0]?)) fun x0 =>
     bindO (intC .i64 (c1[1]?)) fun x1 =>
     bindO (intC .i64 (c1[2]?)) fun x2 =>
     bif (decide (((0 : Int) ≤ (0 : Int)) ∧ ((0 : Int) < (n2 : Int)))) then
      bindO (intC .i64 (c3[0]?)) fun x3 =>
      bindO (intC .i64 (c3[1]?)) fun x4 =>
      bindO (intC .i64 (c3[2]?)) fun x5 =>
      bindO (F 67 (RSh.one (CK.int .i64)) [(PV.agg [(PV.int .i64 x0), (PV.int .i64 x1), (PV.int .i64 x2)]), (PV.agg [(PV.int .i64 x3), (PV.int .i64 x4), (PV.int .i64 x5)])]) fun (y6 : (Int)) =>
      N (TrCts_2b n0 c1 n2 c3 i4 1 [(PV.int .i64 y6)] (1 : Int) 1)
     else none
    else none
   else bif (decide ((0 : Int) < (n0 : Int))) then
    N (TrCts_2b n0 c1 n2 c3 i4 1 [(PV.int .i64 i4)] (1 : Int) 1)
   else bif (decide ((0 : Int) < (n2 : Int))) then
    N (TrCts_2b n0 c1 n2 c3 i4 1 [(PV.int .i64 i4)] (1 : Int) 1)
   else N (TrCts_2b n0 c1 n2 c3 i4 1 [(PV.int .i64 (0 : Int))] (1 : Int) 1)
  else bif (decide ((0 : Int) < (n0 : Int))) then
   N (TrCts_2b n0 c1 n2 c3 i4 1 [(PV.int .i64 i4)] (1 : Int) 1)
  else bif (decide ((0 : Int) < (n2 : Int))) then
   N (TrCts_2b n0 c1 n2 c3 i4 1 [(PV.int .i64 i4)] (1 : Int) 1)
  else N (TrCts_2b n0 c1 n2 c3 i4 1 [(PV.int .i64 (0 : Int))] (1 : Int) 1)
 else E (XrCts_2a (n0, c1, n2, c3, i4))
theorem BrCts_2a_eq (F N E L0 L2 n0 c1 n2 c3 i4) : semB (callP F ErCts 20) s25 (loopT (qM2_1 L0 L2)) 400 (blkIn a25.body 2) N E (TrCts_2a n0 c1 n2 c3 i4) = BrCts_2a F N E L0 L2 n0 c1 n2 c3 i4 := by kernel_rfl
theorem RrCts_2a_of (n0 c1 n2 c3 i4) {r} (h : BrCts_2a (Fn env) RrCts_2 exO LrCts_0 LrCts_2 n0 c1 n2 c3 i4 = some r) : RrCts_2 (TrCts_2a n0 c1 n2 c3 i4) = some r :=
 lp_of ErCts_ok (by kernel_rfl) oqM2_1 (by kernel_rfl) ((BrCts_2a_eq _ _ _ _ _ _ _ _ _ _).trans h)
def BrCts_2b (F : FnT) (N : QO) (E : EO) (_L0 : QQ YrCts_0) (_L2 : QQ YrCts_2) (n0 : Nat) (c1 : List PV) (n2 : Nat) (c3 : List PV) (i4 : Int) (n5 : Nat) (c6 : List PV) (i7 : Int) (n8 : Nat) : OX :=
 bif (decide (i7 < (w64 ((n0 : Int) + (n2 : Int))))) then
  bif (decide ((0 : Int) < (n0 : Int))) then
   bif (decide (i7 < (n2 : Int))) then
    bif (decide (((0 : Int) ≤ (0 : Int)) ∧ ((0 : Int) < (n0 : Int)))) then
     bindO (intC .i64 (c1[0]?)) fun x0 =>
     bindO (intC .i64 (c1[1]?)) fun x1 =>
     bindO (intC .i64 (c1[2]?)) fun x2 =>
     bif (decide (((0 : Int) ≤ i7) ∧ (i7 < (n2 : Int)))) then
      bindO (intC .i64 (c3[((Int.toNat i7) * 3)]?)) fun x3 =>
      bindO (intC .i64 (c3[(((Int.toNat i7) * 3) + 1)]?)) fun x4 =>
      bindO (intC .i64 (c3[((((Int.toNat i7) * 3) + 1) + 1)]?)) fun x5 =>
      bindO (F 67 (RSh.one (CK.int .i64)) [(PV.agg [(PV.int .i64 x0), (PV.int .i64 x1), (PV.int .i64 x2)]), (PV.agg [(PV.int .i64 x3), (PV.int .i64 x4), (PV.int .i64 x5)])]) fun (y6 : (Int)) =>
      bif (decide ((n8 = n5) ∧ ((n5 + 1) ≤ big))) then
       N (TrCts_2b n0 c1 n2 c3 i4 (n5 + 1) (c6 ++ [(PV.int .i64 y6)]) (w64 (i7 + (1 : Int))) (n5 + 1))
      else none
     else none
    else none
   else bif (decide ((0 : Int) < (n0 : Int))) then
    bif (decide ((n8 = n5) ∧ ((n5 + 1) ≤ big))) then
     N (TrCts_2b n0 c1 n2 c3 i4 (n5 + 1) (c6 ++ [(PV.int .i64 i4)]) (w64 (i7 + (1 : Int))) (n5 + 1))
    else none
   else bif (decide (i7 < (n2 : Int))) then
    bif (decide ((n8 = n5) ∧ ((n5 + 1) ≤ big))) then
     N (TrCts_2b n0 c1 n2 c3 i4 (n5 + 1) (c6 ++ [(PV.int .i64 i4)]) (w64 (i7 + (1 : Int))) (n5 + 1))
    else none
   else bif (decide ((n8 = n5) ∧ ((n5 + 1) ≤ big))) then
    N (TrCts_2b n0 c1 n2 c3 i4 (n5 + 1) (c6 ++ [(PV.int .i64 (0 : Int))]) (w64 (i7 + (1 : Int))) (n5 + 1))
   else none
  else bif (decide ((0 : Int) < (n0 : Int))) then
   bif (decide ((n8 = n5) ∧ ((n5 + 1) ≤ big))) then
    N (TrCts_2b n0 c1 n2 c3 i4 (n5 + 1) (c6 ++ [(PV.int .i64 i4)]) (w64 (i7 + (1 : Int))) (n5 + 1))
   else none
  else bif (decide (i7 < (n2 : Int))) then
   bif (decide ((n8 = n5) ∧ ((n5 + 1) ≤ big))) then
    N (TrCts_2b n0 c1 n2 c3 i4 (n5 + 1) (c6 ++ [(PV.int .i64 i4)]) (w64 (i7 + (1 : Int))) (n5 + 1))
   else none
  else bif (decide ((n8 = n5) ∧ ((n5 + 1) ≤ big))) then
   N (TrCts_2b n0 c1 n2 c3 i4 (n5 + 1) (c6 ++ [(PV.int .i64 (0 : Int))]) (w64 (i7 + (1 : Int))) (n5 + 1))
  else none
 else E (XrCts_2b (n0, c1, n2, c3, i4, n5, c6, n8))
theorem BrCts_2b_eq (F N E L0 L2 n0 c1 n2 c3 i4 n5 c6 i7 n8) : semB (callP F ErCts 20) s25 (loopT (qM2_1 L0 L2)) 400 (blkIn a25.body 2) N E (TrCts_2b n0 c1 n2 c3 i4 n5 c6 i7 n8) = BrCts_2b F N E L0 L2 n0 c1 n2 c3 i4 n5 c6 i7 n8 := by kernel_rfl
theorem RrCts_2b_of (n0 c1 n2 c3 i4 n5 c6 i7 n8) {r} (h : BrCts_2b (Fn env) RrCts_2 exO LrCts_0 LrCts_2 n0 c1 n2 c3 i4 n5 c6 i7 n8 = some r) : RrCts_2 (TrCts_2b n0 c1 n2 c3 i4 n5 c6 i7 n8) = some r :=
 lp_of ErCts_ok (by kernel_rfl) oqM2_1 (by kernel_rfl) ((BrCts_2b_eq _ _ _ _ _ _ _ _ _ _ _ _ _ _).trans h)
def BrCts_2c (F : FnT) (N : QO) (E : EO) (_L0 : QQ YrCts_0) (_L2 : QQ YrCts_2) (n0 : Nat) (c1 : List PV) (n2 : Nat) (c3 : List PV) (i4 : Int) (n5 : Nat) (c6 : List PV) (i7 : Int) (n8 : Nat) : OX :=
 bif (decide ((0 : Int) < (w64 ((n0 : Int) + (n2 : Int))))) then
  bif (decide (i7 < (n0 : Int))) then
   bif (decide ((0 : Int) < (n2 : Int))) then
    bif (decide (((0 : Int) ≤ i7) ∧ (i7 < (n0 : Int)))) then
     bindO (intC .i64 (c1[((Int.toNat i7) * 3)]?)) fun x0 =>
     bindO (intC .i64 (c1[(((Int.toNat i7) * 3) + 1)]?)) fun x1 =>
     bindO (intC .i64 (c1[((((Int.toNat i7) * 3) + 1) + 1)]?)) fun x2 =>
     bif (decide (((0 : Int) ≤ (0 : Int)) ∧ ((0 : Int) < (n2 : Int)))) then
      bindO (intC .i64 (c3[0]?)) fun x3 =>
      bindO (intC .i64 (c3[1]?)) fun x4 =>
      bindO (intC .i64 (c3[2]?)) fun x5 =>
      bindO (F 67 (RSh.one (CK.int .i64)) [(PV.agg [(PV.int .i64 x0), (PV.int .i64 x1), (PV.int .i64 x2)]), (PV.agg [(PV.int .i64 x3), (PV.int .i64 x4), (PV.int .i64 x5)])]) fun (y6 : (Int)) =>
      N (TrCts_2d n0 c1 n2 c3 i4 n5 c6 i7 1 [(PV.int .i64 y6)] (1 : Int) 1 n8)
     else none
    else none
   else bif (decide (i7 < (n0 : Int))) then
    N (TrCts_2d n0 c1 n2 c3 i4 n5 c6 i7 1 [(PV.int .i64 i4)] (1 : Int) 1 n8)
   else bif (decide ((0 : Int) < (n2 : Int))) then
    N (TrCts_2d n0 c1 n2 c3 i4 n5 c6 i7 1 [(PV.int .i64 i4)] (1 : Int) 1 n8)
   else N (TrCts_2d n0 c1 n2 c3 i4 n5 c6 i7 1 [(PV.int .i64 (0 : Int))] (1 : Int) 1 n8)
  else bif (decide (i7 < (n0 : Int))) then
   N (TrCts_2d n0 c1 n2 c3 i4 n5 c6 i7 1 [(PV.int .i64 i4)] (1 : Int) 1 n8)
  else bif (decide ((0 : Int) < (n2 : Int))) then
   N (TrCts_2d n0 c1 n2 c3 i4 n5 c6 i7 1 [(PV.int .i64 i4)] (1 : Int) 1 n8)
  else N (TrCts_2d n0 c1 n2 c3 i4 n5 c6 i7 1 [(PV.int .i64 (0 : Int))] (1 : Int) 1 n8)
 else E (XrCts_2c (n0, c1, n2, c3, i4, n5, c6, i7, n8))
theorem BrCts_2c_eq (F N E L0 L2 n0 c1 n2 c3 i4 n5 c6 i7 n8) : semB (callP F ErCts 20) s25 (loopT (qM2_1 L0 L2)) 400 (blkIn a25.body 2) N E (TrCts_2c n0 c1 n2 c3 i4 n5 c6 i7 n8) = BrCts_2c F N E L0 L2 n0 c1 n2 c3 i4 n5 c6 i7 n8 := by kernel_rfl
theorem RrCts_2c_of (n0 c1 n2 c3 i4 n5 c6 i7 n8) {r} (h : BrCts_2c (Fn env) RrCts_2 exO LrCts_0 LrCts_2 n0 c1 n2 c3 i4 n5 c6 i7 n8 = some r) : RrCts_2 (TrCts_2c n0 c1 n2 c3 i4 n5 c6 i7 n8) = some r :=
 lp_of ErCts_ok (by kernel_rfl) oqM2_1 (by kernel_rfl) ((BrCts_2c_eq _ _ _ _ _ _ _ _ _ _ _ _ _ _).trans h)
def BrCts_2d (F : FnT) (N : QO) (E : EO) (_L0 : QQ YrCts_0) (_L2 : QQ YrCts_2) (n0 : Nat) (c1 : List PV) (n2 : Nat) (c3 : List PV) (i4 : Int) (n5 : Nat) (c6 : List PV) (i7 : Int) (n8 : Nat) (c9 : List PV) (i10 : Int) (n11 n12 : Nat) : OX :=
 bif (decide (i10 < (w64 ((n0 : Int) + (n2 : Int))))) then
  bif (decide (i7 < (n0 : Int))) then
   bif (decide (i10 < (n2 : Int))) then
    bif (decide (((0 : Int) ≤ i7) ∧ (i7 < (n0 : Int)))) then
     bindO (intC .i64 (c1[((Int.toNat i7) * 3)]?)) fun x0 =>
     bindO (intC .i64 (c1[(((Int.toNat i7) * 3) + 1)]?)) fun x1 =>
     bindO (intC .i64 (c1[((((Int.toNat i7) * 3) + 1) + 1)]?)) fun x2 =>
     bif (decide (((0 : Int) ≤ i10) ∧ (i10 < (n2 : Int)))) then
      bindO (intC .i64 (c3[((Int.toNat i10) * 3)]?)) fun x3 =>
      bindO (intC .i64 (c3[(((Int.toNat i10) * 3) + 1)]?)) fun x4 =>
      bindO (intC .i64 (c3[((((Int.toNat i10) * 3) + 1) + 1)]?)) fun x5 =>
      bindO (F 67 (RSh.one (CK.int .i64)) [(PV.agg [(PV.int .i64 x0), (PV.int .i64 x1), (PV.int .i64 x2)]), (PV.agg [(PV.int .i64 x3), (PV.int .i64 x4), (PV.int .i64 x5)])]) fun (y6 : (Int)) =>
      bif (decide ((n11 = n8) ∧ ((n8 + 1) ≤ big))) then
       N (TrCts_2d n0 c1 n2 c3 i4 n5 c6 i7 (n8 + 1) (c9 ++ [(PV.int .i64 y6)]) (w64 (i10 + (1 : Int))) (n8 + 1) n12)
      else none
     else none
    else none
   else bif (decide (i7 < (n0 : Int))) then
    bif (decide ((n11 = n8) ∧ ((n8 + 1) ≤ big))) then
     N (TrCts_2d n0 c1 n2 c3 i4 n5 c6 i7 (n8 + 1) (c9 ++ [(PV.int .i64 i4)]) (w64 (i10 + (1 : Int))) (n8 + 1) n12)
    else none
   else bif (decide (i10 < (n2 : Int))) then
    bif (decide ((n11 = n8) ∧ ((n8 + 1) ≤ big))) then
     N (TrCts_2d n0 c1 n2 c3 i4 n5 c6 i7 (n8 + 1) (c9 ++ [(PV.int .i64 i4)]) (w64 (i10 + (1 : Int))) (n8 + 1) n12)
    else none
   else bif (decide ((n11 = n8) ∧ ((n8 + 1) ≤ big))) then
    N (TrCts_2d n0 c1 n2 c3 i4 n5 c6 i7 (n8 + 1) (c9 ++ [(PV.int .i64 (0 : Int))]) (w64 (i10 + (1 : Int))) (n8 + 1) n12)
   else none
  else bif (decide (i7 < (n0 : Int))) then
   bif (decide ((n11 = n8) ∧ ((n8 + 1) ≤ big))) then
    N (TrCts_2d n0 c1 n2 c3 i4 n5 c6 i7 (n8 + 1) (c9 ++ [(PV.int .i64 i4)]) (w64 (i10 + (1 : Int))) (n8 + 1) n12)
   else none
  else bif (decide (i10 < (n2 : Int))) then
   bif (decide ((n11 = n8) ∧ ((n8 + 1) ≤ big))) then
    N (TrCts_2d n0 c1 n2 c3 i4 n5 c6 i7 (n8 + 1) (c9 ++ [(PV.int .i64 i4)]) (w64 (i10 + (1 : Int))) (n8 + 1) n12)
   else none
  else bif (decide ((n11 = n8) ∧ ((n8 + 1) ≤ big))) then
   N (TrCts_2d n0 c1 n2 c3 i4 n5 c6 i7 (n8 + 1) (c9 ++ [(PV.int .i64 (0 : Int))]) (w64 (i10 + (1 : Int))) (n8 + 1) n12)
  else none
 else E (XrCts_2d (n0, c1, n2, c3, i4, n5, c6, i7, n8, c9, n11, n12))
theorem BrCts_2d_eq (F N E L0 L2 n0 c1 n2 c3 i4 n5 c6 i7 n8 c9 i10 n11 n12) : semB (callP F ErCts 20) s25 (loopT (qM2_1 L0 L2)) 400 (blkIn a25.body 2) N E (TrCts_2d n0 c1 n2 c3 i4 n5 c6 i7 n8 c9 i10 n11 n12) = BrCts_2d F N E L0 L2 n0 c1 n2 c3 i4 n5 c6 i7 n8 c9 i10 n11 n12 := by kernel_rfl
theorem RrCts_2d_of (n0 c1 n2 c3 i4 n5 c6 i7 n8 c9 i10 n11 n12) {r} (h : BrCts_2d (Fn env) RrCts_2 exO LrCts_0 LrCts_2 n0 c1 n2 c3 i4 n5 c6 i7 n8 c9 i10 n11 n12 = some r) : RrCts_2 (TrCts_2d n0 c1 n2 c3 i4 n5 c6 i7 n8 c9 i10 n11 n12) = some r :=
 lp_of ErCts_ok (by kernel_rfl) oqM2_1 (by kernel_rfl) ((BrCts_2d_eq _ _ _ _ _ _ _ _ _ _ _ _ _ _ _ _ _ _).trans h)
def trCts (_F : FnT) (L0 : QQ YrCts_0) (_L2 : QQ YrCts_2) (p0n : Nat) (p0c : List PV) (p1n : Nat) (p1c : List PV) (p2 : Int) : Option ((Nat) × (List PV)) :=
 bindO (L0 (TrCts_0a p0n p0c p1n p1c p2)) fun z =>
 Sum.elim (fun _y0 =>
  some (0, [])) (fun y1 =>
  bif (decide (y1.2.2 = y1.1)) then
   some (y1.1, y1.2.1)
  else none) z
theorem trCts_eq (F L0 L2 p0n p0c p1n p1c p2) : semF (callP F ErCts 20) s25 (loopT (qM2_1 L0 L2)) 400 a25 [PV.list p0n p0c, PV.list p1n p1c, PV.int .i64 p2] (fun rv => decR (RSh.one CK.list) rv.pv) = trCts F L0 L2 p0n p0c p1n p1c p2 := by kernel_rfl
noncomputable abbrev FrCts (args : List PV) := Fn env 25 (RSh.one CK.list) args
theorem FrCts_of  (p0n : Nat) (p0c : List PV) (p1n : Nat) (p1c : List PV) (p2 : Int) {res : ((Nat) × (List PV))} (h : trCts (Fn env) LrCts_0 LrCts_2 p0n p0c p1n p1c p2 = some res) : FrCts [PV.list p0n p0c, PV.list p1n p1c, PV.int .i64 p2] = some res :=
 fn_of ErCts_ok rfl rfl oqM2_1 ((trCts_eq _ _ _ _ _ _ _ _).trans h)
def ErLks : List Entry := [.out 25 (RSh.one CK.list), .out 68 (RSh.tup [(Prod.mk false [CK.list]), (Prod.mk false [(CK.int .i64)])])]
theorem ErLks_ok : ∀ e ∈ ErLks, EntOK env e := (ent_out (ent_out ent_nil))
def TrLks_0a (n0 : Nat) (c1 : List PV) (n2 : Nat) (c3 : List PV) (n4 : Nat) (c5 : List PV) : Q := ⟨(tm 51 [(0, (AV.p (PV.list n0 c1))), (1, (AV.p (PV.list n2 c3))), (7, AV.nilS), (8, (AV.p (PV.list n4 c5))), (10, (AV.p (PV.int .i64 (0 : Int))))]), (mm 51 [])⟩
def TrLks_0b (n0 : Nat) (c1 : List PV) (n2 : Nat) (c3 : List PV) (n4 : Nat) (c5 : List PV) (n6 : Nat) (c7 : List PV) (i8 : Int) (n9 : Nat) : Q := ⟨(tm 51 [(0, (AV.p (PV.list n0 c1))), (1, (AV.p (PV.list n2 c3))), (7, (AV.app 46 n4 1 c5)), (8, (AV.p (PV.list n6 c7))), (10, (AV.p (PV.int .i64 i8)))]), (mm 51 [(46, (Bk.buf n9))])⟩
def TrLks_0c (n0 : Nat) (c1 : List PV) (n2 : Nat) (c3 : List PV) (n4 : Nat) (c5 : List PV) (n6 : Nat) (c7 : List PV) (i8 : Int) (n9 : Nat) : Q := ⟨(tm 51 [(0, (AV.p (PV.list n0 c1))), (1, (AV.p (PV.list n2 c3))), (7, (AV.app 49 n4 1 c5)), (8, (AV.p (PV.list n6 c7))), (10, (AV.p (PV.int .i64 i8)))]), (mm 51 [(49, (Bk.buf n9))])⟩
def XrLks_0a (_y : Unit) : Ext × Q := (Ext.normal, ⟨(tm 51 [(7, AV.nilS)]), (mm 51 [])⟩)
def IrLks_0a (_q : Ext × S) : Unit := ()
def XrLks_0b (y : Nat × List PV × Nat) : Ext × Q := (Ext.normal, ⟨(tm 51 [(7, (AV.app 46 y.1 1 y.2.1))]), (mm 51 [(46, (Bk.buf y.2.2))])⟩)
def IrLks_0b (q : Ext × S) : Nat × List PV × Nat := ((pA_app1 (avT q.2 7)), (pA_app3 (avT q.2 7)), (pB_buf0 (avM q.2 46)))
def XrLks_0c (y : Nat × List PV × Nat) : Ext × Q := (Ext.normal, ⟨(tm 51 [(7, (AV.app 49 y.1 1 y.2.1))]), (mm 51 [(49, (Bk.buf y.2.2))])⟩)
def IrLks_0c (q : Ext × S) : Nat × List PV × Nat := ((pA_app1 (avT q.2 7)), (pA_app3 (avT q.2 7)), (pB_buf0 (avM q.2 49)))
abbrev YrLks_0 : Type := (Unit) ⊕ ((Nat × List PV × Nat) ⊕ ((Nat × List PV × Nat)))
def XLrLks_0 : XL YrLks_0 := .more XrLks_0a (.more XrLks_0b (.one XrLks_0c))
def IrLks_0 (q : Ext × S) : YrLks_0 := bif (cA (avT q.2 7) == 1) then (Sum.inl (IrLks_0a q)) else bif (cB (avM q.2 46) == 2) then (Sum.inr (Sum.inl (IrLks_0b q))) else (Sum.inr (Sum.inr (IrLks_0c q)))
theorem XIrLks_0a (y) : IrLks_0 (xe (XrLks_0a y)) = (Sum.inl y) := by kernel_rfl
theorem XIrLks_0b (y) : IrLks_0 (xe (XrLks_0b y)) = (Sum.inr (Sum.inl y)) := by kernel_rfl
theorem XIrLks_0c (y) : IrLks_0 (xe (XrLks_0c y)) = (Sum.inr (Sum.inr y)) := by kernel_rfl
theorem XIrLks_0 (y) : IrLks_0 (xe (XLrLks_0.fn y)) = y := (match y with | .inl y => XIrLks_0a y | .inr y => (match y with | .inl y => XIrLks_0b y | .inr y => XIrLks_0c y))
noncomputable abbrev LrLks_0 : Q → Option YrLks_0 := lpO env a26.body 0 XLrLks_0
noncomputable abbrev RrLks_0 : Q → Option (Ext × S) := lpR env a26.body 0
theorem LrLks_0b_of {s y} (h : RrLks_0 s = exO (XrLks_0b y)) : LrLks_0 s = some (Sum.inr (Sum.inl y)) := lpO_of IrLks_0 XIrLks_0 (y := (Sum.inr (Sum.inl y))) h
theorem LrLks_0c_of {s y} (h : RrLks_0 s = exO (XrLks_0c y)) : LrLks_0 s = some (Sum.inr (Sum.inr y)) := lpO_of IrLks_0 XIrLks_0 (y := (Sum.inr (Sum.inr y))) h
theorem UrLks : uniq ((blocksOf a26.body).map (·.1)) = true := by kernel_rfl
def BrLks_0a (_F : FnT) (N : QO) (E : EO) (_L0 : QQ YrLks_0) (n0 : Nat) (c1 : List PV) (n2 : Nat) (c3 : List PV) (n4 : Nat) (c5 : List PV) : OX :=
 bif (decide ((0 : Int) < (n0 : Int))) then
  bif (decide (((0 : Int) ≤ (0 : Int)) ∧ ((0 : Int) < (n4 : Int)))) then
   bindO (listC (c5[0]?)) fun x0 =>
   bif (decide (((0 : Int) ≤ (0 : Int)) ∧ ((0 : Int) < (x0.1 : Int)))) then
    bindO (intC .i64 (x0.2[0]?)) fun x1 =>
    bif (decide (x1 < (n2 : Int))) then
     bif (decide (((0 : Int) ≤ (0 : Int)) ∧ ((0 : Int) < (n4 : Int)))) then
      bindO (listC (c5[0]?)) fun x2 =>
      bif (decide (((0 : Int) ≤ (0 : Int)) ∧ ((0 : Int) < (x2.1 : Int)))) then
       bindO (intC .i64 (x2.2[0]?)) fun x3 =>
       N (TrLks_0b n0 c1 n2 c3 1 [(PV.int .i64 x3)] n4 c5 (1 : Int) 1)
      else none
     else none
    else N (TrLks_0c n0 c1 n2 c3 1 [(PV.int .i64 (-1 : Int))] n4 c5 (1 : Int) 1)
   else none
  else none
 else E (XrLks_0a ())
theorem BrLks_0a_eq (F N E L0 n0 c1 n2 c3 n4 c5) : semB (callP F ErLks 20) s26 (loopT [⟨0, YrLks_0, L0, XLrLks_0⟩]) 400 (blkIn a26.body 0) N E (TrLks_0a n0 c1 n2 c3 n4 c5) = BrLks_0a F N E L0 n0 c1 n2 c3 n4 c5 := by kernel_rfl
theorem RrLks_0a_of (n0 c1 n2 c3 n4 c5) {r} (h : BrLks_0a (Fn env) RrLks_0 exO LrLks_0 n0 c1 n2 c3 n4 c5 = some r) : RrLks_0 (TrLks_0a n0 c1 n2 c3 n4 c5) = some r :=
 lp_of ErLks_ok (by kernel_rfl) (lo_cons (lpO_ok UrLks) lo_nil) (by kernel_rfl) ((BrLks_0a_eq _ _ _ _ _ _ _ _ _ _).trans h)
def BrLks_0b (_F : FnT) (N : QO) (E : EO) (_L0 : QQ YrLks_0) (n0 : Nat) (c1 : List PV) (n2 : Nat) (c3 : List PV) (n4 : Nat) (c5 : List PV) (n6 : Nat) (c7 : List PV) (i8 : Int) (n9 : Nat) : OX :=
 bif (decide (i8 < (n0 : Int))) then
  bif (decide (((0 : Int) ≤ (0 : Int)) ∧ ((0 : Int) < (n6 : Int)))) then
   bindO (listC (c7[0]?)) fun x0 =>
   bif (decide (((0 : Int) ≤ i8) ∧ (i8 < (x0.1 : Int)))) then
    bindO (intC .i64 (x0.2[((Int.toNat i8) * 1)]?)) fun x1 =>
    bif (decide (x1 < (n2 : Int))) then
     bif (decide (((0 : Int) ≤ (0 : Int)) ∧ ((0 : Int) < (n6 : Int)))) then
      bindO (listC (c7[0]?)) fun x2 =>
      bif (decide (((0 : Int) ≤ i8) ∧ (i8 < (x2.1 : Int)))) then
       bindO (intC .i64 (x2.2[((Int.toNat i8) * 1)]?)) fun x3 =>
       bif (decide ((n9 = n4) ∧ ((n4 + 1) ≤ big))) then
        N (TrLks_0b n0 c1 n2 c3 (n4 + 1) (c5 ++ [(PV.int .i64 x3)]) n6 c7 (w64 (i8 + (1 : Int))) (n4 + 1))
       else none
      else none
     else none
    else bif (decide ((n9 = n4) ∧ ((n4 + 1) ≤ big))) then
     N (TrLks_0b n0 c1 n2 c3 (n4 + 1) (c5 ++ [(PV.int .i64 (-1 : Int))]) n6 c7 (w64 (i8 + (1 : Int))) (n4 + 1))
    else none
   else none
  else none
 else E (XrLks_0b (n4, c5, n9))
theorem BrLks_0b_eq (F N E L0 n0 c1 n2 c3 n4 c5 n6 c7 i8 n9) : semB (callP F ErLks 20) s26 (loopT [⟨0, YrLks_0, L0, XLrLks_0⟩]) 400 (blkIn a26.body 0) N E (TrLks_0b n0 c1 n2 c3 n4 c5 n6 c7 i8 n9) = BrLks_0b F N E L0 n0 c1 n2 c3 n4 c5 n6 c7 i8 n9 := by kernel_rfl
theorem RrLks_0b_of (n0 c1 n2 c3 n4 c5 n6 c7 i8 n9) {r} (h : BrLks_0b (Fn env) RrLks_0 exO LrLks_0 n0 c1 n2 c3 n4 c5 n6 c7 i8 n9 = some r) : RrLks_0 (TrLks_0b n0 c1 n2 c3 n4 c5 n6 c7 i8 n9) = some r :=
 lp_of ErLks_ok (by kernel_rfl) (lo_cons (lpO_ok UrLks) lo_nil) (by kernel_rfl) ((BrLks_0b_eq _ _ _ _ _ _ _ _ _ _ _ _ _ _).trans h)
def BrLks_0c (_F : FnT) (N : QO) (E : EO) (_L0 : QQ YrLks_0) (n0 : Nat) (c1 : List PV) (n2 : Nat) (c3 : List PV) (n4 : Nat) (c5 : List PV) (n6 : Nat) (c7 : List PV) (i8 : Int) (n9 : Nat) : OX :=
 bif (decide (i8 < (n0 : Int))) then
  bif (decide (((0 : Int) ≤ (0 : Int)) ∧ ((0 : Int) < (n6 : Int)))) then
   bindO (listC (c7[0]?)) fun x0 =>
   bif (decide (((0 : Int) ≤ i8) ∧ (i8 < (x0.1 : Int)))) then
    bindO (intC .i64 (x0.2[((Int.toNat i8) * 1)]?)) fun x1 =>
    bif (decide (x1 < (n2 : Int))) then
     bif (decide (((0 : Int) ≤ (0 : Int)) ∧ ((0 : Int) < (n6 : Int)))) then
      bindO (listC (c7[0]?)) fun x2 =>
      bif (decide (((0 : Int) ≤ i8) ∧ (i8 < (x2.1 : Int)))) then
       bindO (intC .i64 (x2.2[((Int.toNat i8) * 1)]?)) fun x3 =>
       bif (decide ((n9 = n4) ∧ ((n4 + 1) ≤ big))) then
        N (TrLks_0c n0 c1 n2 c3 (n4 + 1) (c5 ++ [(PV.int .i64 x3)]) n6 c7 (w64 (i8 + (1 : Int))) (n4 + 1))
       else none
      else none
     else none
    else bif (decide ((n9 = n4) ∧ ((n4 + 1) ≤ big))) then
     N (TrLks_0c n0 c1 n2 c3 (n4 + 1) (c5 ++ [(PV.int .i64 (-1 : Int))]) n6 c7 (w64 (i8 + (1 : Int))) (n4 + 1))
    else none
   else none
  else none
 else E (XrLks_0c (n4, c5, n9))
theorem BrLks_0c_eq (F N E L0 n0 c1 n2 c3 n4 c5 n6 c7 i8 n9) : semB (callP F ErLks 20) s26 (loopT [⟨0, YrLks_0, L0, XLrLks_0⟩]) 400 (blkIn a26.body 0) N E (TrLks_0c n0 c1 n2 c3 n4 c5 n6 c7 i8 n9) = BrLks_0c F N E L0 n0 c1 n2 c3 n4 c5 n6 c7 i8 n9 := by kernel_rfl
theorem RrLks_0c_of (n0 c1 n2 c3 n4 c5 n6 c7 i8 n9) {r} (h : BrLks_0c (Fn env) RrLks_0 exO LrLks_0 n0 c1 n2 c3 n4 c5 n6 c7 i8 n9 = some r) : RrLks_0 (TrLks_0c n0 c1 n2 c3 n4 c5 n6 c7 i8 n9) = some r :=
 lp_of ErLks_ok (by kernel_rfl) (lo_cons (lpO_ok UrLks) lo_nil) (by kernel_rfl) ((BrLks_0c_eq _ _ _ _ _ _ _ _ _ _ _ _ _ _).trans h)
def trLks (F : FnT) (L0 : QQ YrLks_0) (p0n : Nat) (p0c : List PV) (p1n : Nat) (p1c : List PV) (p2 : Int) : Option ((Nat) × (List PV)) :=
 bif ((p0n : Int) == (0 : Int)) then
  some (0, [])
 else bindO (F 25 (RSh.one CK.list) [(PV.list p0n p0c), (PV.list p1n p1c), (PV.int .i64 p2)]) fun (y0 : ((Nat) × (List PV))) =>
 bindO (F 68 (RSh.tup [(Prod.mk false [CK.list]), (Prod.mk false [(CK.int .i64)])]) [(PV.list y0.1 y0.2)]) fun (y1 : (((Nat) × (List PV)) × (Int))) =>
 bindO (L0 (TrLks_0a p0n p0c p1n p1c y1.1.1 y1.1.2)) fun z =>
 Sum.elim (fun _y2 =>
  some (0, [])) (fun z0 => Sum.elim (fun y3 =>
  bif (decide (y3.2.2 = y3.1)) then
   some (y3.1, y3.2.1)
  else none) (fun y4 =>
  bif (decide (y4.2.2 = y4.1)) then
   some (y4.1, y4.2.1)
  else none) z0) z
theorem trLks_eq (F L0 p0n p0c p1n p1c p2) : semF (callP F ErLks 20) s26 (loopT [⟨0, YrLks_0, L0, XLrLks_0⟩]) 400 a26 [PV.list p0n p0c, PV.list p1n p1c, PV.int .i64 p2] (fun rv => decR (RSh.one CK.list) rv.pv) = trLks F L0 p0n p0c p1n p1c p2 := by kernel_rfl
noncomputable abbrev FrLks (args : List PV) := Fn env 26 (RSh.one CK.list) args
theorem FrLks_of  (p0n : Nat) (p0c : List PV) (p1n : Nat) (p1c : List PV) (p2 : Int) {res : ((Nat) × (List PV))} (h : trLks (Fn env) LrLks_0 p0n p0c p1n p1c p2 = some res) : FrLks [PV.list p0n p0c, PV.list p1n p1c, PV.int .i64 p2] = some res :=
 fn_of ErLks_ok rfl rfl (lo_cons (lpO_ok UrLks) lo_nil) ((trLks_eq _ _ _ _ _ _ _).trans h)
end Gv

/- Costs of links, in the program and in the reference. -/
namespace Gv
open Go
set_option maxRecDepth 100000
theorem rLkE_is (a b : List Z3) (miss : Int) : FrLkE [.list a.length (encT a), .list b.length (encT b), .int .i64 miss] = some (first3 (scaV a) (scaV b) (rangeE miss 0 10000000)) := by
 refine FrLkE_of _ _ _ _ _ ?_
 unfold trLkE first3
 have h1 : Fn env 62 (RSh.one (CK.int .i64)) [.list a.length (encT a)] = _ := rScaE_is a
 have h2 : Fn env 62 (RSh.one (CK.int .i64)) [.list b.length (encT b)] = _ := rScaE_is b
 have h3 : Fn env 63 (RSh.one (CK.int .i64)) [.int .i64 miss] = _ := rMisE_is miss
 rw [h1, h2, h3]
 simp only [bindO_val, bif_ne]
 by_cases ha : scaV a = 0 <;> by_cases hb : scaV b = 0 <;> simp [ha, hb]
def pre (k : Nat) (z : Nat → Int) : List Int := (List.range k).map z
def matL (N : Nat) (Z : Nat → Nat → Int) : List (List Int) := (List.range N).map fun i => pre N (Z i)
theorem pre_len (k : Nat) (z : Nat → Int) : (pre k z).length = k := by simp [pre]
theorem pre_enc (k : Nat) (z : Nat → Int) : encI (pre (k + 1) z) = encI (pre k z) ++ [.int .i64 (z k)] := by simp [pre, encI, List.range_succ]
theorem matP_is (N : Nat) (Z : Nat → Nat → Int) : matP N Z = encM (matL N Z) := by
 unfold matP encM matL rowI rowZ
 rw [List.map_map]
 refine List.map_congr_left fun i _ => ?_
 simp only [Function.comp, pre_len]
 simp [encI, pre]
def lz (a b : List Z3) (miss : Int) : Nat → Nat → Int := linkZ a.length b.length miss (vAt a) (vAt b)
theorem lz_in {a b : List Z3} {miss : Int} {i j : Nat} (hi : i < a.length) (hj : j < b.length) : lz a b miss i j = apZ (vAt a i) (vAt b j) := if_pos ⟨hi, hj⟩
theorem lz_miss {a b : List Z3} {miss : Int} {i j : Nat} (h1 : ¬ (i < a.length ∧ j < b.length)) (h2 : i < a.length ∨ j < b.length) : lz a b miss i j = miss := (if_neg h1).trans (if_pos h2)
theorem lz_none {a b : List Z3} {miss : Int} {i j : Nat} (h1 : ¬ i < a.length) (h2 : ¬ j < b.length) : lz a b miss i j = 0 := (if_neg (fun h => h1 h.1)).trans (if_neg (fun h => h.elim h1 h2))
theorem f65 (a b : List Z3) (miss : Int) (h8 : a.length + b.length ≤ 8) : Fn env 65 (RSh.one CK.list) [.list a.length (encT a), .list b.length (encT b), .int .i64 miss] = some (a.length + b.length, encM (matL (a.length + b.length) (lz a b miss))) := by
 have hg : linkcG [.list a.length (encT a), .list b.length (encT b), .int .i64 miss] = some (.list (a.length + b.length) (encM (matL (a.length + b.length) (lz a b miss)))) := by
  unfold linkcG
  simp only
  rw [if_pos ⟨trivial, h8, encT_len a, encT_len b, encT_i64 a, encT_i64 b⟩, vOf_enc, vOf_enc, matP_is]
  rfl
 unfold Fn
 rw [prim3_fn (env := env) (f := 65) rfl hg]
 rfl
theorem linC_ok {a b : List Z3} {miss : Int} (ha : scaV a = 0) (hb : scaV b = 0) (hm : 0 ≤ miss ∧ miss ≤ 10000000) (h8 : a.length + b.length ≤ 8) : FlinC [.list a.length (encT a), .list b.length (encT b), .int .i64 miss] = some ((a.length + b.length, encM (matL (a.length + b.length) (lz a b miss))), 0) := by
 refine FlinC_of _ _ _ _ _ ?_
 unfold tlinC
 have h1 : Fn env 64 _ [.list a.length (encT a), .list b.length (encT b), .int .i64 miss] = _ := linE_is a b miss
 rw [h1, f65 a b miss h8, ha, hb, rangeE_in hm]
 rfl
theorem linC_bad {a b : List Z3} {miss : Int} (h : first3 (scaV a) (scaV b) (rangeE miss 0 10000000) ≠ 0) : FlinC [.list a.length (encT a), .list b.length (encT b), .int .i64 miss] = some ((0, []), first3 (scaV a) (scaV b) (rangeE miss 0 10000000)) := by
 refine FlinC_of _ _ _ _ _ ?_
 unfold tlinC
 have h1 : Fn env 64 _ [.list a.length (encT a), .list b.length (encT b), .int .i64 miss] = _ := linE_is a b miss
 rw [h1, bindO_val, bif_ne, if_neg h]
theorem linO_bad {a b : List Z3} {miss : Int} (h : first3 (scaV a) (scaV b) (rangeE miss 0 10000000) ≠ 0) : FlinO [.list a.length (encT a), .list b.length (encT b), .int .i64 miss] = some ((0, []), first3 (scaV a) (scaV b) (rangeE miss 0 10000000)) := by
 refine FlinO_of _ _ _ _ _ ?_
 unfold tlinO
 have h1 : Fn env 64 _ [.list a.length (encT a), .list b.length (encT b), .int .i64 miss] = _ := linE_is a b miss
 rw [h1, bindO_val, bif_ne, if_neg h]
section
variable (a b : List Z3) (miss : Int) (hN : a.length + b.length ≤ 1000)
include hN
theorem cts_2b : ∀ (r k : Nat), k + r = a.length + b.length → 0 < k →
  RrCts_2 (TrCts_2b a.length (encT a) b.length (encT b) miss k (encI (pre k (lz a b miss 0))) (k : Int) k) = exO (XrCts_2b (a.length, encT a, b.length, encT b, miss, a.length + b.length, encI (pre (a.length + b.length) (lz a b miss 0)), a.length + b.length))
 | 0, k, h, _ => by
  have eN : w64 ((a.length : Int) + (b.length : Int)) = ((a.length + b.length : Nat) : Int) := by rw [w64_in (by omega)]; omega
  refine RrCts_2b_of _ _ _ _ _ _ _ _ _ ?_
  unfold BrCts_2b
  rw [eN, bif_neg (by omega), show k = a.length + b.length by omega]
  rfl
 | r + 1, k, h, hk => by
  have ih := cts_2b r (k + 1) (by omega) (by omega)
  have eN : w64 ((a.length : Int) + (b.length : Int)) = ((a.length + b.length : Nat) : Int) := by rw [w64_in (by omega)]; omega
  have ek : w64 ((k : Int) + 1) = ((k + 1 : Nat) : Int) := by rw [w64_in (by omega)]; omega
  have hbig : k + 1 ≤ big := by unfold big; omega
  rw [pre_enc] at ih
  refine RrCts_2b_of _ _ _ _ _ _ _ _ _ ?_
  unfold BrCts_2b
  rw [eN, bif_pos (by omega)]
  by_cases h0 : 0 < a.length
  ·rw [bif_pos (by omega)]
   by_cases hj : k < b.length
   ·have r1 := encT_at h0
    have r2 := encT_at hj
    have f : Fn env 67 (RSh.one (CK.int .i64)) [.agg [.int .i64 (vAt a 0).1, .int .i64 (vAt a 0).2.1, .int .i64 (vAt a 0).2.2], .agg [.int .i64 (vAt b k).1, .int .i64 (vAt b k).2.1, .int .i64 (vAt b k).2.2]] = _ := off_is (vAt a 0) (vAt b k)
    rw [bif_pos (by omega), bif_pos (by omega), show intC .i64 (encT a)[0]? = _ from r1.1, bindO_val, show intC .i64 (encT a)[1]? = _ from r1.2.1, bindO_val, show intC .i64 (encT a)[2]? = _ from r1.2.2, bindO_val, bif_pos (by omega), Int.toNat_natCast, r2.1, bindO_val, r2.2.1, bindO_val, r2.2.2, bindO_val, f, bindO_val, bif_pos ⟨rfl, hbig⟩, ek, ← lz_in h0 hj]
    exact ih
   ·rw [lz_miss (by omega) (by omega)] at ih
    rw [bif_neg (by omega), bif_pos (by omega), bif_pos ⟨rfl, hbig⟩, ek]
    exact ih
  ·rw [bif_neg (by omega), bif_neg (by omega)]
   by_cases hj : k < b.length
   ·rw [lz_miss (by omega) (by omega)] at ih
    rw [bif_pos (by omega), bif_pos ⟨rfl, hbig⟩, ek]
    exact ih
   ·rw [lz_none (by omega) (by omega)] at ih
    rw [bif_neg (by omega), bif_pos ⟨rfl, hbig⟩, ek]
    exact ih
theorem cts_2a (h1 : 0 < a.length + b.length) :
  LrCts_2 (TrCts_2a a.length (encT a) b.length (encT b) miss) = some (Sum.inr (Sum.inl (a.length, encT a, b.length, encT b, miss, a.length + b.length, encI (pre (a.length + b.length) (lz a b miss 0)), a.length + b.length))) := by
 have ih := cts_2b a b miss hN (a.length + b.length - 1) 1 (by omega) (by omega)
 have e1 : encI (pre 1 (lz a b miss 0)) = [.int .i64 (lz a b miss 0 0)] := rfl
 rw [e1] at ih
 have eN : w64 ((a.length : Int) + (b.length : Int)) = ((a.length + b.length : Nat) : Int) := by rw [w64_in (by omega)]; omega
 refine LrCts_2b_of (RrCts_2a_of _ _ _ _ _ ?_)
 unfold BrCts_2a
 rw [eN, bif_pos (by omega)]
 by_cases h0 : 0 < a.length
 ·rw [bif_pos (by omega)]
  by_cases hj : 0 < b.length
  ·have r1 := encT_at h0
   have r2 := encT_at hj
   have f : Fn env 67 (RSh.one (CK.int .i64)) [.agg [.int .i64 (vAt a 0).1, .int .i64 (vAt a 0).2.1, .int .i64 (vAt a 0).2.2], .agg [.int .i64 (vAt b 0).1, .int .i64 (vAt b 0).2.1, .int .i64 (vAt b 0).2.2]] = _ := off_is (vAt a 0) (vAt b 0)
   rw [bif_pos (by omega), bif_pos (by omega), show intC .i64 (encT a)[0]? = _ from r1.1, bindO_val, show intC .i64 (encT a)[1]? = _ from r1.2.1, bindO_val, show intC .i64 (encT a)[2]? = _ from r1.2.2, bindO_val, bif_pos (by omega), show intC .i64 (encT b)[0]? = _ from r2.1, bindO_val, show intC .i64 (encT b)[1]? = _ from r2.2.1, bindO_val, show intC .i64 (encT b)[2]? = _ from r2.2.2, bindO_val, f, bindO_val, ← lz_in h0 hj]
   exact ih
  ·rw [lz_miss (by omega) (by omega)] at ih
   rw [bif_neg (by omega), bif_pos (by omega)]
   exact ih
 ·rw [bif_neg (by omega), bif_neg (by omega)]
  by_cases hj : 0 < b.length
  ·rw [lz_miss (by omega) (by omega)] at ih
   rw [bif_pos (by omega)]
   exact ih
  ·omega
theorem cts_2d (i : Nat) (hi : i < a.length + b.length) (n5 : Nat) (c6 : List PV) (n12 : Nat) : ∀ (r k : Nat), k + r = a.length + b.length → 0 < k →
  RrCts_2 (TrCts_2d a.length (encT a) b.length (encT b) miss n5 c6 (i : Int) k (encI (pre k (lz a b miss i))) (k : Int) k n12) = exO (XrCts_2d (a.length, encT a, b.length, encT b, miss, n5, c6, (i : Int), a.length + b.length, encI (pre (a.length + b.length) (lz a b miss i)), a.length + b.length, n12))
 | 0, k, h, _ => by
  have eN : w64 ((a.length : Int) + (b.length : Int)) = ((a.length + b.length : Nat) : Int) := by rw [w64_in (by omega)]; omega
  refine RrCts_2d_of _ _ _ _ _ _ _ _ _ _ _ _ _ ?_
  unfold BrCts_2d
  rw [eN, bif_neg (by omega), show k = a.length + b.length by omega]
  rfl
 | r + 1, k, h, hk => by
  have ih := cts_2d i hi n5 c6 n12 r (k + 1) (by omega) (by omega)
  have eN : w64 ((a.length : Int) + (b.length : Int)) = ((a.length + b.length : Nat) : Int) := by rw [w64_in (by omega)]; omega
  have ek : w64 ((k : Int) + 1) = ((k + 1 : Nat) : Int) := by rw [w64_in (by omega)]; omega
  have hbig : k + 1 ≤ big := by unfold big; omega
  rw [pre_enc] at ih
  refine RrCts_2d_of _ _ _ _ _ _ _ _ _ _ _ _ _ ?_
  unfold BrCts_2d
  rw [eN, bif_pos (by omega)]
  by_cases h0 : i < a.length
  ·rw [bif_pos (by omega)]
   by_cases hj : k < b.length
   ·have r1 := encT_at h0
    have r2 := encT_at hj
    have f : Fn env 67 (RSh.one (CK.int .i64)) [.agg [.int .i64 (vAt a i).1, .int .i64 (vAt a i).2.1, .int .i64 (vAt a i).2.2], .agg [.int .i64 (vAt b k).1, .int .i64 (vAt b k).2.1, .int .i64 (vAt b k).2.2]] = _ := off_is (vAt a i) (vAt b k)
    rw [bif_pos (by omega), bif_pos (by omega), Int.toNat_natCast, r1.1, bindO_val, r1.2.1, bindO_val, r1.2.2, bindO_val, bif_pos (by omega), Int.toNat_natCast, r2.1, bindO_val, r2.2.1, bindO_val, r2.2.2, bindO_val, f, bindO_val, bif_pos ⟨rfl, hbig⟩, ek, ← lz_in h0 hj]
    exact ih
   ·rw [lz_miss (by omega) (by omega)] at ih
    rw [bif_neg (by omega), bif_pos (by omega), bif_pos ⟨rfl, hbig⟩, ek]
    exact ih
  ·rw [bif_neg (by omega), bif_neg (by omega)]
   by_cases hj : k < b.length
   ·rw [lz_miss (by omega) (by omega)] at ih
    rw [bif_pos (by omega), bif_pos ⟨rfl, hbig⟩, ek]
    exact ih
   ·rw [lz_none (by omega) (by omega)] at ih
    rw [bif_neg (by omega), bif_pos ⟨rfl, hbig⟩, ek]
    exact ih
theorem cts_2c (i : Nat) (hi : i < a.length + b.length) (n5 : Nat) (c6 : List PV) (n12 : Nat) :
  LrCts_2 (TrCts_2c a.length (encT a) b.length (encT b) miss n5 c6 (i : Int) n12) = some (Sum.inr (Sum.inr (Sum.inr (a.length, encT a, b.length, encT b, miss, n5, c6, (i : Int), a.length + b.length, encI (pre (a.length + b.length) (lz a b miss i)), a.length + b.length, n12)))) := by
 have ih := cts_2d a b miss hN i hi n5 c6 n12 (a.length + b.length - 1) 1 (by omega) (by omega)
 have e1 : encI (pre 1 (lz a b miss i)) = [.int .i64 (lz a b miss i 0)] := rfl
 rw [e1] at ih
 have eN : w64 ((a.length : Int) + (b.length : Int)) = ((a.length + b.length : Nat) : Int) := by rw [w64_in (by omega)]; omega
 refine LrCts_2d_of (RrCts_2c_of _ _ _ _ _ _ _ _ _ ?_)
 unfold BrCts_2c
 rw [eN, bif_pos (by omega)]
 by_cases h0 : i < a.length
 ·rw [bif_pos (by omega)]
  by_cases hj : 0 < b.length
  ·have r1 := encT_at h0
   have r2 := encT_at hj
   have f : Fn env 67 (RSh.one (CK.int .i64)) [.agg [.int .i64 (vAt a i).1, .int .i64 (vAt a i).2.1, .int .i64 (vAt a i).2.2], .agg [.int .i64 (vAt b 0).1, .int .i64 (vAt b 0).2.1, .int .i64 (vAt b 0).2.2]] = _ := off_is (vAt a i) (vAt b 0)
   rw [bif_pos (by omega), bif_pos (by omega), Int.toNat_natCast, r1.1, bindO_val, r1.2.1, bindO_val, r1.2.2, bindO_val, bif_pos (by omega), show intC .i64 (encT b)[0]? = _ from r2.1, bindO_val, show intC .i64 (encT b)[1]? = _ from r2.2.1, bindO_val, show intC .i64 (encT b)[2]? = _ from r2.2.2, bindO_val, f, bindO_val, ← lz_in h0 hj]
   exact ih
  ·rw [lz_miss (by omega) (by omega)] at ih
   rw [bif_neg (by omega), bif_pos (by omega)]
   exact ih
 ·rw [bif_neg (by omega), bif_neg (by omega)]
  by_cases hj : 0 < b.length
  ·rw [lz_miss (by omega) (by omega)] at ih
   rw [bif_pos (by omega)]
   exact ih
  ·omega
theorem cts_0b : ∀ (r i : Nat), i + r = a.length + b.length →
  RrCts_0 (TrCts_0b a.length (encT a) b.length (encT b) miss i (encM ((List.range i).map fun i => pre (a.length + b.length) (lz a b miss i))) (i : Int) i) = exO (XrCts_0b (a.length + b.length, encM (matL (a.length + b.length) (lz a b miss)), a.length + b.length))
 | 0, i, h => by
  have eN : w64 ((a.length : Int) + (b.length : Int)) = ((a.length + b.length : Nat) : Int) := by rw [w64_in (by omega)]; omega
  refine RrCts_0b_of _ _ _ _ _ _ _ _ _ ?_
  unfold BrCts_0b
  rw [eN, bif_neg (by omega), show i = a.length + b.length by omega]
  rfl
 | r + 1, i, h => by
  have ih := cts_0b r (i + 1) (by omega)
  have eN : w64 ((a.length : Int) + (b.length : Int)) = ((a.length + b.length : Nat) : Int) := by rw [w64_in (by omega)]; omega
  have ek : w64 ((i : Int) + 1) = ((i + 1 : Nat) : Int) := by rw [w64_in (by omega)]; omega
  have hbig : i + 1 ≤ big := by unfold big; omega
  rw [List.range_succ, List.map_append, List.map_singleton, encM_snoc, pre_len] at ih
  refine RrCts_0b_of _ _ _ _ _ _ _ _ _ ?_
  unfold BrCts_0b
  rw [eN, bif_pos (by omega), cts_2c a b miss hN i (by omega), bindO_val, Sum.elim_inr, Sum.elim_inr, Sum.elim_inr]
  dsimp only
  rw [bif_pos ⟨rfl, hbig⟩, ek]
  exact ih
theorem rCts_is : FrCts [.list a.length (encT a), .list b.length (encT b), .int .i64 miss] = some (a.length + b.length, encM (matL (a.length + b.length) (lz a b miss))) := by
 have eN : w64 ((a.length : Int) + (b.length : Int)) = ((a.length + b.length : Nat) : Int) := by rw [w64_in (by omega)]; omega
 refine FrCts_of _ _ _ _ _ ?_
 unfold trCts
 by_cases h1 : 0 < a.length + b.length
 ·have h0 := cts_0b a b miss hN (a.length + b.length - 1) 1 (by omega)
  have e1 : encM ((List.range 1).map fun i => pre (a.length + b.length) (lz a b miss i)) = [.list (a.length + b.length) (encI (pre (a.length + b.length) (lz a b miss 0)))] := by
   show [rowI (pre (a.length + b.length) (lz a b miss 0))] = _
   unfold rowI
   rw [pre_len]
  rw [e1] at h0
  have h2 : LrCts_0 (TrCts_0a a.length (encT a) b.length (encT b) miss) = _ := LrCts_0b_of (RrCts_0a_of _ _ _ _ _ (by
   unfold BrCts_0a
   rw [eN, bif_pos (by omega), cts_2a a b miss hN h1, bindO_val, Sum.elim_inr, Sum.elim_inl]
   exact h0))
  rw [h2, bindO_val, Sum.elim_inr]
  dsimp only
  rw [bif_pos rfl]
 ·have h2 : LrCts_0 (TrCts_0a a.length (encT a) b.length (encT b) miss) = some (Sum.inl ()) := LrCts_0a_of (RrCts_0a_of _ _ _ _ _ (by
   unfold BrCts_0a
   rw [eN, bif_neg (by omega)]
   rfl))
  rw [h2, bindO_val, Sum.elim_inl, show a.length + b.length = 0 by omega]
  rfl
end
end Gv

/- The links of the reference are the links of the program. -/
namespace Gv
open Go
set_option maxRecDepth 100000
theorem matL_at {N : Nat} {Z : Nat → Nat → Int} {i j : Nat} (hi : i < N) (hj : j < N) : Zm (matL N Z) i j = Z i j := by
 unfold Zm matL pre
 simp [List.getD, hi, hj]
theorem matL_len (N : Nat) (Z : Nat → Nat → Int) : (matL N Z).length = N := by simp [matL]
theorem matL_row {N : Nat} {Z : Nat → Nat → Int} : ∀ r ∈ matL N Z, r.length = (matL N Z).length := by
 intro r hr
 unfold matL at hr
 obtain ⟨i, _, rfl⟩ := List.mem_map.1 hr
 rw [pre_len, matL_len]
theorem fold_congr {β : Type} {f g : Int → β → Int} : ∀ (l : List β) (a : Int), (∀ a, ∀ x ∈ l, f a x = g a x) → l.foldl f a = l.foldl g a
 | [], _, _ => rfl
 | x :: l, a, h => by
  rw [List.foldl_cons, List.foldl_cons, h a x List.mem_cons_self]
  exact fold_congr l _ fun a y hy => h a y (List.mem_cons_of_mem _ hy)
theorem costW_congr {Z Y : Nat → Nat → Int} {N : Nat} (h : ∀ i j, i < N → j < N → Z i j = Y i j) {b : List Nat} (hl : b.length = N) (hb : ∀ x ∈ b, x < N) : costW Z b = costW Y b := by
 unfold costW
 refine fold_congr _ _ fun a i hi => ?_
 rw [List.mem_range] at hi
 rw [h i _ (by omega) (hb _ (getD_memA hi))]
theorem best_congr {c d : List Nat → Int} : ∀ (l : List (List Nat)) (s : Option (List Nat × Int)), (∀ b ∈ l, c b = d b) → l.foldl (bestStep c) s = l.foldl (bestStep d) s
 | [], _, _ => rfl
 | x :: l, s, h => by
  rw [List.foldl_cons, List.foldl_cons]
  have e : bestStep c s x = bestStep d s x := by
   unfold bestStep
   rw [h x List.mem_cons_self]
  rw [e]
  exact best_congr l _ fun b hb => h b (List.mem_cons_of_mem _ hb)
theorem lks_val (m x : Nat) : lkV m x = if x < m then (x : Int) else -1 := by
 unfold lkV
 by_cases h : x < m
 ·rw [if_neg (by omega), if_pos h]
 ·rw [if_pos (by omega), if_neg h]
section
variable (a b : List Z3) (G : List (List Nat)) (d : List Nat) (hG : 0 < G.length) (hd : G.getD 0 [] = d) (hn : a.length ≤ d.length) (hl : a.length ≤ 1000)
include hG hd hn hl
theorem lks_0b : ∀ (r k : Nat), k + r = a.length →
  RrLks_0 (TrLks_0b a.length (encT a) b.length (encT b) k (encI (pre k fun j => lkV b.length (d.getD j 0))) G.length (G.map rowP) (k : Int) k) = exO (XrLks_0b (a.length, encI (pre a.length fun j => lkV b.length (d.getD j 0)), a.length))
 | 0, k, h => by
  refine RrLks_0b_of _ _ _ _ _ _ _ _ _ _ ?_
  unfold BrLks_0b
  rw [bif_neg (by omega), show k = a.length by omega]
  rfl
 | r + 1, k, h => by
  have ih := lks_0b r (k + 1) (by omega)
  have ek : w64 ((k : Int) + 1) = ((k + 1 : Nat) : Int) := by rw [w64_in (by omega)]; omega
  have hbig : k + 1 ≤ big := by unfold big; omega
  have g : listC ((G.map rowP)[0]?) = some (d.length, encN d) := by rw [listP_get hG, hd]
  have g2 := intN_get (b := d) (i := k) (by omega)
  rw [pre_enc, lks_val] at ih
  refine RrLks_0b_of _ _ _ _ _ _ _ _ _ _ ?_
  unfold BrLks_0b
  rw [bif_pos (by omega), bif_pos (by omega), g, bindO_val]
  dsimp only
  rw [bif_pos (by omega), Int.toNat_natCast, Nat.mul_one, g2, bindO_val]
  by_cases hx : d.getD k 0 < b.length
  ·rw [if_pos hx] at ih
   rw [bif_pos (by omega), bif_pos (by omega), bindO_val]
   dsimp only
   rw [bif_pos (by omega), g2, bindO_val, bif_pos ⟨rfl, hbig⟩, ek]
   exact ih
  ·rw [if_neg hx] at ih
   rw [bif_neg (by omega), bif_pos ⟨rfl, hbig⟩, ek]
   exact ih
theorem lks_0c : ∀ (r k : Nat), k + r = a.length →
  RrLks_0 (TrLks_0c a.length (encT a) b.length (encT b) k (encI (pre k fun j => lkV b.length (d.getD j 0))) G.length (G.map rowP) (k : Int) k) = exO (XrLks_0c (a.length, encI (pre a.length fun j => lkV b.length (d.getD j 0)), a.length))
 | 0, k, h => by
  refine RrLks_0c_of _ _ _ _ _ _ _ _ _ _ ?_
  unfold BrLks_0c
  rw [bif_neg (by omega), show k = a.length by omega]
  rfl
 | r + 1, k, h => by
  have ih := lks_0c r (k + 1) (by omega)
  have ek : w64 ((k : Int) + 1) = ((k + 1 : Nat) : Int) := by rw [w64_in (by omega)]; omega
  have hbig : k + 1 ≤ big := by unfold big; omega
  have g : listC ((G.map rowP)[0]?) = some (d.length, encN d) := by rw [listP_get hG, hd]
  have g2 := intN_get (b := d) (i := k) (by omega)
  rw [pre_enc, lks_val] at ih
  refine RrLks_0c_of _ _ _ _ _ _ _ _ _ _ ?_
  unfold BrLks_0c
  rw [bif_pos (by omega), bif_pos (by omega), g, bindO_val]
  dsimp only
  rw [bif_pos (by omega), Int.toNat_natCast, Nat.mul_one, g2, bindO_val]
  by_cases hx : d.getD k 0 < b.length
  ·rw [if_pos hx] at ih
   rw [bif_pos (by omega), bif_pos (by omega), bindO_val]
   dsimp only
   rw [bif_pos (by omega), g2, bindO_val, bif_pos ⟨rfl, hbig⟩, ek]
   exact ih
  ·rw [if_neg hx] at ih
   rw [bif_neg (by omega), bif_pos ⟨rfl, hbig⟩, ek]
   exact ih
theorem lks_0a (h0 : 0 < a.length) (K : Nat × List PV → Option (Nat × List PV)) : (bindO (LrLks_0 (TrLks_0a a.length (encT a) b.length (encT b) G.length (G.map rowP))) fun z => Sum.elim (fun _ => K (0, [])) (fun z0 => Sum.elim (fun (y3 : Nat × List PV × Nat) => bif (decide (y3.2.2 = y3.1)) then K (y3.1, y3.2.1) else none) (fun (y4 : Nat × List PV × Nat) => bif (decide (y4.2.2 = y4.1)) then K (y4.1, y4.2.1) else none) z0) z) = K (a.length, encI (pre a.length fun j => lkV b.length (d.getD j 0))) := by
 have g : listC ((G.map rowP)[0]?) = some (d.length, encN d) := by rw [listP_get hG, hd]
 have g2 : intC .i64 ((encN d)[0]?) = some ((d.getD 0 0 : Nat) : Int) := intN_get (b := d) (i := 0) (by omega)
 have e1 : encI (pre 1 fun j => lkV b.length (d.getD j 0)) = [.int .i64 (lkV b.length (d.getD 0 0))] := rfl
 by_cases hx : d.getD 0 0 < b.length
 ·have h1 := lks_0b a b G d hG hd hn hl (a.length - 1) 1 (by omega)
  rw [e1, lks_val, if_pos hx] at h1
  have h2 : LrLks_0 (TrLks_0a a.length (encT a) b.length (encT b) G.length (G.map rowP)) = _ := LrLks_0b_of (RrLks_0a_of _ _ _ _ _ _ (by
   unfold BrLks_0a
   rw [bif_pos (by omega), bif_pos (by omega), g, bindO_val]
   dsimp only
   rw [bif_pos (by omega), g2, bindO_val, bif_pos (by omega), bif_pos (by omega), bindO_val]
   dsimp only
   rw [bif_pos (by omega), g2, bindO_val]
   exact h1))
  rw [h2, bindO_val, Sum.elim_inr, Sum.elim_inl]
  dsimp only
  rw [bif_pos rfl]
 ·have h1 := lks_0c a b G d hG hd hn hl (a.length - 1) 1 (by omega)
  rw [e1, lks_val, if_neg hx] at h1
  have h2 : LrLks_0 (TrLks_0a a.length (encT a) b.length (encT b) G.length (G.map rowP)) = _ := LrLks_0c_of (RrLks_0a_of _ _ _ _ _ _ (by
   unfold BrLks_0a
   rw [bif_pos (by omega), bif_pos (by omega), g, bindO_val]
   dsimp only
   rw [bif_pos (by omega), g2, bindO_val, bif_neg (by omega)]
   exact h1))
  rw [h2, bindO_val, Sum.elim_inr, Sum.elim_inr]
  dsimp only
  rw [bif_pos rfl]
end
theorem rLks_is (a b : List Z3) (miss : Int) (h5 : a.length + b.length ≤ 5) : FrLks [.list a.length (encT a), .list b.length (encT b), .int .i64 miss] = some (a.length, encI (lnk a b miss)) := by
 obtain ⟨d, k, hb, hlk⟩ := lnk_is a b miss h5
 refine FrLks_of _ _ _ _ _ ?_
 unfold trLks
 by_cases h0 : a.length = 0
 ·rw [bif_eq, if_pos (by omega)]
  have e : lnk a b miss = [] := by rw [hlk, h0]; rfl
  rw [e, h0]
  rfl
 ·have hN := matL_len (a.length + b.length) (lz a b miss)
  have c1 : Fn env 25 (RSh.one CK.list) [.list a.length (encT a), .list b.length (encT b), .int .i64 miss] = _ := rCts_is a b miss (by omega)
  have c2 : Fn env 68 (RSh.tup [(Prod.mk false [CK.list]), (Prod.mk false [(CK.int .i64)])]) [.list (matL (a.length + b.length) (lz a b miss)).length (encM (matL (a.length + b.length) (lz a b miss)))] = _ := rChe_is (matL (a.length + b.length) (lz a b miss)) (by omega) matL_row (f99 _ (by omega))
  rw [hN] at c2
  have hne : asgs (a.length + b.length) ≠ [] := ext_ne h5
  obtain ⟨x, xs, hx, hbx⟩ := cheap_ne (costW (Zm (matL (a.length + b.length) (lz a b miss)))) hne
  have hc : bestIn (costW (Zm (matL (a.length + b.length) (lz a b miss)))) (asgs (a.length + b.length)) = bestIn (costW (lz a b miss)) (asgs (a.length + b.length)) := best_congr _ _ fun c hcm => by
   obtain ⟨r1, r2⟩ := asgs_row h5 hcm
   exact costW_congr (fun i j hi hj => matL_at hi hj) r1 r2
  have hb : bestIn (costW (lz a b miss)) (asgs (a.length + b.length)) = some (d, k) := hb
  rw [hbx, hb] at hc
  have hxd : x = d := congrArg Prod.fst (Option.some.inj hc)
  have hxm : x ∈ asgs (a.length + b.length) := by
   have hm : x ∈ cheapL (costW (Zm (matL (a.length + b.length) (lz a b miss)))) (asgs (a.length + b.length)) := by
    rw [hx]
    exact List.mem_cons_self
   unfold cheapL at hm
   exact (List.mem_filter.1 hm).1
  have hxl := (asgs_row h5 hxm).1
  rw [bif_eq, if_neg (by omega), c1, bindO_val]
  dsimp only
  rw [c2, bindO_val, hx]
  dsimp only
  have := lks_0a a b (x :: xs) d (by simp) (by rw [← hxd]; rfl) (by rw [← hxd]; omega) (by omega) (by omega) some
  have e : pre a.length (fun j => lkV b.length (d.getD j 0)) = lnk a b miss := hlk.symm
  rw [e] at this
  exact this
end Gv
