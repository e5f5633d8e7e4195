import Derived.Test.YtpbpkbckgifhdaaGreatGvEnv
import Derived.Test.YtpbpkbckgifhdaaGreatGvYm
import Derived.Test.YtpbpkbckgifhdaaGreatK2
import Derived.Test.YtpbpkbckgifhdaaGreatX20

/- What the functions do, round by round: B4. -/
namespace Gv
open Go
set_option maxRecDepth 100000
def EcosE : List Entry := [.out 84 (RSh.one (CK.int .i64))]
theorem EcosE_ok : ∀ e ∈ EcosE, EntOK env e := (ent_out ent_nil)
def tcosE (F : FnT) (p0 : Int) : Option (Int) :=
 bindO (F 84 (RSh.one (CK.int .i64)) [(PV.int .i64 p0), (PV.int .i64 (0 : Int)), (PV.int .i64 (10000000 : Int))]) fun (y0 : (Int)) =>
 some y0
theorem tcosE_eq (F p0) : semF (callP F EcosE 20) s71 (loopT []) 400 a71 [PV.int .i64 p0] (fun rv => decR (RSh.one (CK.int .i64)) rv.pv) = tcosE F p0 := by kernel_rfl
noncomputable abbrev FcosE (args : List PV) := Fn env 71 (RSh.one (CK.int .i64)) args
theorem FcosE_of  (p0 : Int) {res : (Int)} (h : tcosE (Fn env) p0 = some res) : FcosE [PV.int .i64 p0] = some res :=
 fn_of EcosE_ok rfl rfl lo_nil ((tcosE_eq _ _).trans h)
end Gv

/- What the functions do, round by round: B5. -/
namespace Gv
open Go
set_option maxRecDepth 100000
def EbInts : List Entry := []
theorem EbInts_ok : ∀ e ∈ EbInts, EntOK env e := ent_nil
def TbInts_0a (n0 : Nat) (c1 : List PV) (n2 : Nat) (c3 : List PV) (i4 : Int) : Q := ⟨(tm 26 [(0, (AV.p (PV.list n0 c1))), (1, (AV.p (PV.list n2 c3))), (5, (AV.p (PV.int .i64 i4)))]), (mm 26 [])⟩
def XbInts_0a (_y : Unit) : Ext × Q := (Ext.ret, ⟨(tm 26 [(4, (AV.p (PV.bool false)))]), (mm 26 [])⟩)
def IbInts_0a (_q : Ext × S) : Unit := ()
def XbInts_0b (_y : Unit) : Ext × Q := (Ext.normal, ⟨(tm 26 []), (mm 26 [])⟩)
def IbInts_0b (_q : Ext × S) : Unit := ()
abbrev YbInts_0 : Type := (Unit) ⊕ ((Unit))
def XLbInts_0 : XL YbInts_0 := .more XbInts_0a (.one XbInts_0b)
def IbInts_0 (q : Ext × S) : YbInts_0 := bif (cE q.1 == 2) then (Sum.inl (IbInts_0a q)) else (Sum.inr (IbInts_0b q))
theorem XIbInts_0a (y) : IbInts_0 (xe (XbInts_0a y)) = (Sum.inl y) := by kernel_rfl
theorem XIbInts_0b (y) : IbInts_0 (xe (XbInts_0b y)) = (Sum.inr y) := by kernel_rfl
theorem XIbInts_0 (y) : IbInts_0 (xe (XLbInts_0.fn y)) = y := (match y with | .inl y => XIbInts_0a y | .inr y => XIbInts_0b y)
noncomputable abbrev LbInts_0 : Q → Option YbInts_0 := lpO env a15.body 0 XLbInts_0
noncomputable abbrev RbInts_0 : Q → Option (Ext × S) := lpR env a15.body 0
theorem LbInts_0b_of {s y} (h : RbInts_0 s = exO (XbInts_0b y)) : LbInts_0 s = some (Sum.inr y) := lpO_of IbInts_0 XIbInts_0 (y := (Sum.inr y)) h
theorem UbInts : uniq ((blocksOf a15.body).map (·.1)) = true := by kernel_rfl
def BbInts_0a (_F : FnT) (N : QO) (E : EO) (_L0 : QQ YbInts_0) (n0 : Nat) (c1 : List PV) (n2 : Nat) (c3 : List PV) (i4 : Int) : OX :=
 bif (decide (i4 < (n0 : Int))) then
  bif (decide (((0 : Int) ≤ i4) ∧ (i4 < (n0 : Int)))) then
   bindO (intC .i64 (c1[((Int.toNat i4) * 1)]?)) fun x0 =>
   bif (decide (((0 : Int) ≤ i4) ∧ (i4 < (n2 : Int)))) then
    bindO (intC .i64 (c3[((Int.toNat i4) * 1)]?)) fun x1 =>
    bif (x0 != x1) then
     E (XbInts_0a ())
    else N (TbInts_0a n0 c1 n2 c3 (w64 (i4 + (1 : Int))))
   else none
  else none
 else E (XbInts_0b ())
theorem BbInts_0a_eq (F N E L0 n0 c1 n2 c3 i4) : semB (callP F EbInts 20) s15 (loopT [⟨0, YbInts_0, L0, XLbInts_0⟩]) 400 (blkIn a15.body 0) N E (TbInts_0a n0 c1 n2 c3 i4) = BbInts_0a F N E L0 n0 c1 n2 c3 i4 := by kernel_rfl
theorem RbInts_0a_of (n0 c1 n2 c3 i4) {r} (h : BbInts_0a (Fn env) RbInts_0 exO LbInts_0 n0 c1 n2 c3 i4 = some r) : RbInts_0 (TbInts_0a n0 c1 n2 c3 i4) = some r :=
 lp_of EbInts_ok (by kernel_rfl) (lo_cons (lpO_ok UbInts) lo_nil) (by kernel_rfl) ((BbInts_0a_eq _ _ _ _ _ _ _ _ _).trans h)
def tbInts (_F : FnT) (L0 : QQ YbInts_0) (p0n : Nat) (p0c : List PV) (p1n : Nat) (p1c : List PV) : Option (Bool) :=
 bif ((p0n : Int) != (p1n : Int)) then
  some false
 else bindO (L0 (TbInts_0a p0n p0c p1n p1c (0 : Int))) fun z =>
 Sum.elim (fun _y0 =>
  some false) (fun _y1 =>
  some true) z
theorem tbInts_eq (F L0 p0n p0c p1n p1c) : semF (callP F EbInts 20) s15 (loopT [⟨0, YbInts_0, L0, XLbInts_0⟩]) 400 a15 [PV.list p0n p0c, PV.list p1n p1c] (fun rv => decR (RSh.one CK.bool) rv.pv) = tbInts F L0 p0n p0c p1n p1c := by kernel_rfl
noncomputable abbrev FbInts (args : List PV) := Fn env 15 (RSh.one CK.bool) args
theorem FbInts_of  (p0n : Nat) (p0c : List PV) (p1n : Nat) (p1c : List PV) {res : (Bool)} (h : tbInts (Fn env) LbInts_0 p0n p0c p1n p1c = some res) : FbInts [PV.list p0n p0c, PV.list p1n p1c] = some res :=
 fn_of EbInts_ok rfl rfl (lo_cons (lpO_ok UbInts) lo_nil) ((tbInts_eq _ _ _ _ _ _).trans h)
def ErCost : List Entry := []
theorem ErCost_ok : ∀ e ∈ ErCost, EntOK env e := ent_nil
def TrCost_0a (n0 : Nat) (c1 : List PV) (n2 : Nat) (c3 : List PV) (i4 i5 : Int) : Q := ⟨(tm 26 [(0, (AV.p (PV.list n0 c1))), (1, (AV.p (PV.list n2 c3))), (5, (AV.p (PV.int .i64 i4))), (6, (AV.p (PV.int .i64 i5)))]), (mm 26 [])⟩
def XrCost_0a (y : Int) : Ext × Q := (Ext.normal, ⟨(tm 26 [(5, (AV.p (PV.int .i64 y)))]), (mm 26 [])⟩)
def IrCost_0a (q : Ext × S) : Int := (pP_int1 (pA_p (avT q.2 5)))
abbrev YrCost_0 : Type := Int
def XLrCost_0 : XL YrCost_0 := .one XrCost_0a
def IrCost_0 (q : Ext × S) : YrCost_0 := (IrCost_0a q)
theorem XIrCost_0a (y) : IrCost_0 (xe (XrCost_0a y)) = y := by kernel_rfl
theorem XIrCost_0 (y) : IrCost_0 (xe (XLrCost_0.fn y)) = y := XIrCost_0a y
noncomputable abbrev LrCost_0 : Q → Option YrCost_0 := lpO env a18.body 0 XLrCost_0
noncomputable abbrev RrCost_0 : Q → Option (Ext × S) := lpR env a18.body 0
theorem LrCost_0a_of {s y} (h : RrCost_0 s = exO (XrCost_0a y)) : LrCost_0 s = some y := lpO_of IrCost_0 XIrCost_0 (y := y) h
theorem UrCost : uniq ((blocksOf a18.body).map (·.1)) = true := by kernel_rfl
def BrCost_0a (_F : FnT) (N : QO) (E : EO) (_L0 : QQ YrCost_0) (n0 : Nat) (c1 : List PV) (n2 : Nat) (c3 : List PV) (i4 i5 : Int) : OX :=
 bif (decide (i5 < (n2 : Int))) then
  bif (decide (((0 : Int) ≤ i5) ∧ (i5 < (n0 : Int)))) then
   bindO (listC (c1[((Int.toNat i5) * 1)]?)) fun x0 =>
   bif (decide (((0 : Int) ≤ i5) ∧ (i5 < (n2 : Int)))) then
    bindO (intC .i64 (c3[((Int.toNat i5) * 1)]?)) fun x1 =>
    bif (decide (((0 : Int) ≤ x1) ∧ (x1 < (x0.1 : Int)))) then
     bindO (intC .i64 (x0.2[((Int.toNat x1) * 1)]?)) fun x2 =>
     N (TrCost_0a n0 c1 n2 c3 (w64 (i4 + x2)) (w64 (i5 + (1 : Int))))
    else none
   else none
  else none
 else E (XrCost_0a i4)
theorem BrCost_0a_eq (F N E L0 n0 c1 n2 c3 i4 i5) : semB (callP F ErCost 20) s18 (loopT [⟨0, YrCost_0, L0, XLrCost_0⟩]) 400 (blkIn a18.body 0) N E (TrCost_0a n0 c1 n2 c3 i4 i5) = BrCost_0a F N E L0 n0 c1 n2 c3 i4 i5 := by kernel_rfl
theorem RrCost_0a_of (n0 c1 n2 c3 i4 i5) {r} (h : BrCost_0a (Fn env) RrCost_0 exO LrCost_0 n0 c1 n2 c3 i4 i5 = some r) : RrCost_0 (TrCost_0a n0 c1 n2 c3 i4 i5) = some r :=
 lp_of ErCost_ok (by kernel_rfl) (lo_cons (lpO_ok UrCost) lo_nil) (by kernel_rfl) ((BrCost_0a_eq _ _ _ _ _ _ _ _ _ _).trans h)
def trCost (_F : FnT) (L0 : QQ YrCost_0) (p0n : Nat) (p0c : List PV) (p1n : Nat) (p1c : List PV) : Option (Int) :=
 bindO (L0 (TrCost_0a p0n p0c p1n p1c (0 : Int) (0 : Int))) fun y0 =>
 some y0
theorem trCost_eq (F L0 p0n p0c p1n p1c) : semF (callP F ErCost 20) s18 (loopT [⟨0, YrCost_0, L0, XLrCost_0⟩]) 400 a18 [PV.list p0n p0c, PV.list p1n p1c] (fun rv => decR (RSh.one (CK.int .i64)) rv.pv) = trCost F L0 p0n p0c p1n p1c := by kernel_rfl
noncomputable abbrev FrCost (args : List PV) := Fn env 18 (RSh.one (CK.int .i64)) args
theorem FrCost_of  (p0n : Nat) (p0c : List PV) (p1n : Nat) (p1c : List PV) {res : (Int)} (h : trCost (Fn env) LrCost_0 p0n p0c p1n p1c = some res) : FrCost [PV.list p0n p0c, PV.list p1n p1c] = some res :=
 fn_of ErCost_ok rfl rfl (lo_cons (lpO_ok UrCost) lo_nil) ((trCost_eq _ _ _ _ _ _).trans h)
def EwCost : List Entry := []
theorem EwCost_ok : ∀ e ∈ EwCost, EntOK env e := ent_nil
def TwCost_0a (n0 : Nat) (c1 : List PV) (i2 : Int) (n3 : Nat) (c4 : List PV) (i5 i6 : Int) : Q := ⟨(tm 26 [(0, (AV.p (PV.list n0 c1))), (5, (AV.p (PV.int .i64 i2))), (8, (AV.p (PV.list n3 c4))), (9, (AV.p (PV.int .i64 i5))), (10, (AV.p (PV.int .i64 i6)))]), (mm 26 [])⟩
def XwCost_0a (y : Int) : Ext × Q := (Ext.normal, ⟨(tm 26 [(5, (AV.p (PV.int .i64 y)))]), (mm 26 [])⟩)
def IwCost_0a (q : Ext × S) : Int := (pP_int1 (pA_p (avT q.2 5)))
abbrev YwCost_0 : Type := Int
def XLwCost_0 : XL YwCost_0 := .one XwCost_0a
def IwCost_0 (q : Ext × S) : YwCost_0 := (IwCost_0a q)
theorem XIwCost_0a (y) : IwCost_0 (xe (XwCost_0a y)) = y := by kernel_rfl
theorem XIwCost_0 (y) : IwCost_0 (xe (XLwCost_0.fn y)) = y := XIwCost_0a y
noncomputable abbrev LwCost_0 : Q → Option YwCost_0 := lpO env a49.body 0 XLwCost_0
noncomputable abbrev RwCost_0 : Q → Option (Ext × S) := lpR env a49.body 0
theorem LwCost_0a_of {s y} (h : RwCost_0 s = exO (XwCost_0a y)) : LwCost_0 s = some y := lpO_of IwCost_0 XIwCost_0 (y := y) h
theorem UwCost : uniq ((blocksOf a49.body).map (·.1)) = true := by kernel_rfl
def BwCost_0a (_F : FnT) (N : QO) (E : EO) (_L0 : QQ YwCost_0) (n0 : Nat) (c1 : List PV) (i2 : Int) (n3 : Nat) (c4 : List PV) (i5 i6 : Int) : OX :=
 bif (decide (i6 < i5)) then
  bif (decide (((0 : Int) ≤ i6) ∧ (i6 < (n3 : Int)))) then
   bindO (intC .i64 (c4[((Int.toNat i6) * 1)]?)) fun x0 =>
   bif (decide (((0 : Int) ≤ i6) ∧ (i6 < (n0 : Int)))) then
    bindO (listC (c1[((Int.toNat i6) * 1)]?)) fun x1 =>
    bif (decide (((0 : Int) ≤ x0) ∧ (x0 < (x1.1 : Int)))) then
     bindO (intC .i64 (x1.2[((Int.toNat x0) * 1)]?)) fun x2 =>
     N (TwCost_0a n0 c1 (w64 (i2 + x2)) n3 c4 i5 (w64 (i6 + (1 : Int))))
    else none
   else none
  else none
 else E (XwCost_0a i2)
theorem BwCost_0a_eq (F N E L0 n0 c1 i2 n3 c4 i5 i6) : semB (callP F EwCost 20) s49 (loopT [⟨0, YwCost_0, L0, XLwCost_0⟩]) 400 (blkIn a49.body 0) N E (TwCost_0a n0 c1 i2 n3 c4 i5 i6) = BwCost_0a F N E L0 n0 c1 i2 n3 c4 i5 i6 := by kernel_rfl
theorem RwCost_0a_of (n0 c1 i2 n3 c4 i5 i6) {r} (h : BwCost_0a (Fn env) RwCost_0 exO LwCost_0 n0 c1 i2 n3 c4 i5 i6 = some r) : RwCost_0 (TwCost_0a n0 c1 i2 n3 c4 i5 i6) = some r :=
 lp_of EwCost_ok (by kernel_rfl) (lo_cons (lpO_ok UwCost) lo_nil) (by kernel_rfl) ((BwCost_0a_eq _ _ _ _ _ _ _ _ _ _ _).trans h)
def twCost (_F : FnT) (L0 : QQ YwCost_0) (p0n : Nat) (p0c : List PV) (p1n : Nat) (p1c : List PV) : Option (Int) :=
 bindO (L0 (TwCost_0a p0n p0c (0 : Int) p1n p1c (p1n : Int) (0 : Int))) fun y0 =>
 some y0
theorem twCost_eq (F L0 p0n p0c p1n p1c) : semF (callP F EwCost 20) s49 (loopT [⟨0, YwCost_0, L0, XLwCost_0⟩]) 400 a49 [PV.list p0n p0c, PV.list p1n p1c] (fun rv => decR (RSh.one (CK.int .i64)) rv.pv) = twCost F L0 p0n p0c p1n p1c := by kernel_rfl
noncomputable abbrev FwCost (args : List PV) := Fn env 49 (RSh.one (CK.int .i64)) args
theorem FwCost_of  (p0n : Nat) (p0c : List PV) (p1n : Nat) (p1c : List PV) {res : (Int)} (h : twCost (Fn env) LwCost_0 p0n p0c p1n p1c = some res) : FwCost [PV.list p0n p0c, PV.list p1n p1c] = some res :=
 fn_of EwCost_ok rfl rfl (lo_cons (lpO_ok UwCost) lo_nil) ((twCost_eq _ _ _ _ _ _).trans h)
end Gv

/- What the functions do, round by round: B6. -/
namespace Gv
open Go
set_option maxRecDepth 100000
end Gv

/- What the functions do, round by round: B7. -/
namespace Gv
open Go
set_option maxRecDepth 100000
def ErChe : List Entry := [.out 16 (RSh.one CK.list), .out 18 (RSh.one (CK.int .i64))]
theorem ErChe_ok : ∀ e ∈ ErChe, EntOK env e := (ent_out (ent_out ent_nil))
def TrChe_0a (n0 : Nat) (c1 : List PV) (n2 : Nat) (c3 : List PV) (i4 i5 : Int) : Q := ⟨(tm 54 [(0, (AV.p (PV.list n0 c1))), (4, (AV.p (PV.list n2 c3))), (5, (AV.p (PV.int .i64 i4))), (6, (AV.p (PV.int .i64 i5)))]), (mm 54 [])⟩
def XrChe_0a (y : Nat × List PV × Nat × List PV × Int) : Ext × Q := (Ext.normal, ⟨(tm 54 [(0, (AV.p (PV.list y.1 y.2.1))), (4, (AV.p (PV.list y.2.2.1 y.2.2.2.1))), (5, (AV.p (PV.int .i64 y.2.2.2.2)))]), (mm 54 [])⟩)
def IrChe_0a (q : Ext × S) : Nat × List PV × Nat × List PV × Int := ((pP_list0 (pA_p (avT q.2 0))), (pP_list1 (pA_p (avT q.2 0))), (pP_list0 (pA_p (avT q.2 4))), (pP_list1 (pA_p (avT q.2 4))), (pP_int1 (pA_p (avT q.2 5))))
abbrev YrChe_0 : Type := Nat × List PV × Nat × List PV × Int
def XLrChe_0 : XL YrChe_0 := .one XrChe_0a
def IrChe_0 (q : Ext × S) : YrChe_0 := (IrChe_0a q)
theorem XIrChe_0a (y) : IrChe_0 (xe (XrChe_0a y)) = y := by kernel_rfl
theorem XIrChe_0 (y) : IrChe_0 (xe (XLrChe_0.fn y)) = y := XIrChe_0a y
noncomputable abbrev LrChe_0 : Q → Option YrChe_0 := lpO env a68.body 0 XLrChe_0
noncomputable abbrev RrChe_0 : Q → Option (Ext × S) := lpR env a68.body 0
theorem LrChe_0a_of {s y} (h : RrChe_0 s = exO (XrChe_0a y)) : LrChe_0 s = some y := lpO_of IrChe_0 XIrChe_0 (y := y) h
def TrChe_2a (n0 : Nat) (c1 : List PV) (n2 : Nat) (c3 : List PV) (i4 i5 : Int) : Q := ⟨(tm 54 [(0, (AV.p (PV.list n0 c1))), (4, (AV.p (PV.list n2 c3))), (5, (AV.p (PV.int .i64 i4))), (7, AV.nilS), (8, (AV.p (PV.int .i64 i5)))]), (mm 54 [])⟩
def TrChe_2b (n0 : Nat) (c1 : List PV) (n2 : Nat) (c3 : List PV) (i4 : Int) (n5 : Nat) (c6 : List PV) (i7 : Int) (n8 : Nat) : Q := ⟨(tm 54 [(0, (AV.p (PV.list n0 c1))), (4, (AV.p (PV.list n2 c3))), (5, (AV.p (PV.int .i64 i4))), (7, (AV.app 51 n5 1 c6)), (8, (AV.p (PV.int .i64 i7)))]), (mm 54 [(51, (Bk.buf n8))])⟩
def XrChe_2a (y : Int) : Ext × Q := (Ext.normal, ⟨(tm 54 [(5, (AV.p (PV.int .i64 y))), (7, AV.nilS)]), (mm 54 [])⟩)
def IrChe_2a (q : Ext × S) : Int := (pP_int1 (pA_p (avT q.2 5)))
def XrChe_2b (y : Int × Nat × List PV × Nat) : Ext × Q := (Ext.normal, ⟨(tm 54 [(5, (AV.p (PV.int .i64 y.1))), (7, (AV.app 51 y.2.1 1 y.2.2.1))]), (mm 54 [(51, (Bk.buf y.2.2.2))])⟩)
def IrChe_2b (q : Ext × S) : Int × Nat × List PV × Nat := ((pP_int1 (pA_p (avT q.2 5))), (pA_app1 (avT q.2 7)), (pA_app3 (avT q.2 7)), (pB_buf0 (avM q.2 51)))
abbrev YrChe_2 : Type := (Int) ⊕ ((Int × Nat × List PV × Nat))
def XLrChe_2 : XL YrChe_2 := .more XrChe_2a (.one XrChe_2b)
def IrChe_2 (q : Ext × S) : YrChe_2 := bif (cA (avT q.2 7) == 1) then (Sum.inl (IrChe_2a q)) else (Sum.inr (IrChe_2b q))
theorem XIrChe_2a (y) : IrChe_2 (xe (XrChe_2a y)) = (Sum.inl y) := by kernel_rfl
theorem XIrChe_2b (y) : IrChe_2 (xe (XrChe_2b y)) = (Sum.inr y) := by kernel_rfl
theorem XIrChe_2 (y) : IrChe_2 (xe (XLrChe_2.fn y)) = y := (match y with | .inl y => XIrChe_2a y | .inr y => XIrChe_2b y)
noncomputable abbrev LrChe_2 : Q → Option YrChe_2 := lpO env a68.body 2 XLrChe_2
noncomputable abbrev RrChe_2 : Q → Option (Ext × S) := lpR env a68.body 2
theorem LrChe_2b_of {s y} (h : RrChe_2 s = exO (XrChe_2b y)) : LrChe_2 s = some (Sum.inr y) := lpO_of IrChe_2 XIrChe_2 (y := (Sum.inr y)) h
theorem UrChe : uniq ((blocksOf a68.body).map (·.1)) = true := by kernel_rfl
def BrChe_0a (F : FnT) (N : QO) (E : EO) (_L0 : QQ YrChe_0) (_L2 : QQ YrChe_2) (n0 : Nat) (c1 : List PV) (n2 : Nat) (c3 : List PV) (i4 i5 : Int) : OX :=
 bif (decide (i5 < (n2 : Int))) then
  bif (decide (((0 : Int) ≤ i5) ∧ (i5 < (n2 : Int)))) then
   bindO (listC (c3[((Int.toNat i5) * 1)]?)) fun x0 =>
   bindO (F 18 (RSh.one (CK.int .i64)) [(PV.list n0 c1), (PV.list x0.1 x0.2)]) fun (y1 : (Int)) =>
   N (TrChe_0a n0 c1 n2 c3 (if (y1 < i4) then y1 else i4) (w64 (i5 + (1 : Int))))
  else none
 else E (XrChe_0a (n0, c1, n2, c3, i4))
abbrev qK14_1 (L0 : QQ YrChe_0) (L2 : QQ YrChe_2) : List LoopO := [⟨0, YrChe_0, L0, XLrChe_0⟩, ⟨2, YrChe_2, L2, XLrChe_2⟩]
theorem BrChe_0a_eq (F N E L0 L2 n0 c1 n2 c3 i4 i5) : semB (callP F ErChe 20) s68 (loopT (qK14_1 L0 L2)) 400 (blkIn a68.body 0) N E (TrChe_0a n0 c1 n2 c3 i4 i5) = BrChe_0a F N E L0 L2 n0 c1 n2 c3 i4 i5 := by kernel_rfl
theorem oqK14_1 : ∀ o ∈ qK14_1 LrChe_0 LrChe_2, LoopOOK env a68.body o := lo_cons (lpO_ok UrChe) (lo_cons (lpO_ok UrChe) lo_nil)
theorem RrChe_0a_of (n0 c1 n2 c3 i4 i5) {r} (h : BrChe_0a (Fn env) RrChe_0 exO LrChe_0 LrChe_2 n0 c1 n2 c3 i4 i5 = some r) : RrChe_0 (TrChe_0a n0 c1 n2 c3 i4 i5) = some r :=
 lp_of ErChe_ok (by kernel_rfl) oqK14_1 (by kernel_rfl) ((BrChe_0a_eq _ _ _ _ _ _ _ _ _ _ _).trans h)
def BrChe_2a (F : FnT) (N : QO) (E : EO) (_L0 : QQ YrChe_0) (_L2 : QQ YrChe_2) (n0 : Nat) (c1 : List PV) (n2 : Nat) (c3 : List PV) (i4 i5 : Int) : OX :=
 bif (decide (i5 < (n2 : Int))) then
  bif (decide (((0 : Int) ≤ i5) ∧ (i5 < (n2 : Int)))) then
   bindO (listC (c3[((Int.toNat i5) * 1)]?)) fun x0 =>
   bindO (F 18 (RSh.one (CK.int .i64)) [(PV.list n0 c1), (PV.list x0.1 x0.2)]) fun (y1 : (Int)) =>
   bif (y1 == i4) then
    bif (decide (((0 : Int) ≤ i5) ∧ (i5 < (n2 : Int)))) then
     bindO (listC (c3[((Int.toNat i5) * 1)]?)) fun x2 =>
     N (TrChe_2b n0 c1 n2 c3 i4 1 [(PV.list x2.1 x2.2)] (w64 (i5 + (1 : Int))) 1)
    else none
   else N (TrChe_2a n0 c1 n2 c3 i4 (w64 (i5 + (1 : Int))))
  else none
 else E (XrChe_2a i4)
theorem BrChe_2a_eq (F N E L0 L2 n0 c1 n2 c3 i4 i5) : semB (callP F ErChe 20) s68 (loopT (qK14_1 L0 L2)) 400 (blkIn a68.body 2) N E (TrChe_2a n0 c1 n2 c3 i4 i5) = BrChe_2a F N E L0 L2 n0 c1 n2 c3 i4 i5 := by kernel_rfl
theorem RrChe_2a_of (n0 c1 n2 c3 i4 i5) {r} (h : BrChe_2a (Fn env) RrChe_2 exO LrChe_0 LrChe_2 n0 c1 n2 c3 i4 i5 = some r) : RrChe_2 (TrChe_2a n0 c1 n2 c3 i4 i5) = some r :=
 lp_of ErChe_ok (by kernel_rfl) oqK14_1 (by kernel_rfl) ((BrChe_2a_eq _ _ _ _ _ _ _ _ _ _ _).trans h)
def BrChe_2b (F : FnT) (N : QO) (E : EO) (_L0 : QQ YrChe_0) (_L2 : QQ YrChe_2) (n0 : Nat) (c1 : List PV) (n2 : Nat) (c3 : List PV) (i4 : Int) (n5 : Nat) (c6 : List PV) (i7 : Int) (n8 : Nat) : OX :=
 bif (decide (i7 < (n2 : Int))) then
  bif (decide (((0 : Int) ≤ i7) ∧ (i7 < (n2 : Int)))) then
   bindO (listC (c3[((Int.toNat i7) * 1)]?)) fun x0 =>
   bindO (F 18 (RSh.one (CK.int .i64)) [(PV.list n0 c1), (PV.list x0.1 x0.2)]) fun (y1 : (Int)) =>
   bif (y1 == i4) then
    bif (decide (((0 : Int) ≤ i7) ∧ (i7 < (n2 : Int)))) then
     bindO (listC (c3[((Int.toNat i7) * 1)]?)) fun x2 =>
     bif (decide ((n8 = n5) ∧ ((n5 + 1) ≤ big))) then
      N (TrChe_2b n0 c1 n2 c3 i4 (n5 + 1) (c6 ++ [(PV.list x2.1 x2.2)]) (w64 (i7 + (1 : Int))) (n5 + 1))
     else none
    else none
   else N (TrChe_2b n0 c1 n2 c3 i4 n5 c6 (w64 (i7 + (1 : Int))) n8)
  else none
 else E (XrChe_2b (i4, n5, c6, n8))
theorem BrChe_2b_eq (F N E L0 L2 n0 c1 n2 c3 i4 n5 c6 i7 n8) : semB (callP F ErChe 20) s68 (loopT (qK14_1 L0 L2)) 400 (blkIn a68.body 2) N E (TrChe_2b n0 c1 n2 c3 i4 n5 c6 i7 n8) = BrChe_2b F N E L0 L2 n0 c1 n2 c3 i4 n5 c6 i7 n8 := by kernel_rfl
theorem RrChe_2b_of (n0 c1 n2 c3 i4 n5 c6 i7 n8) {r} (h : BrChe_2b (Fn env) RrChe_2 exO LrChe_0 LrChe_2 n0 c1 n2 c3 i4 n5 c6 i7 n8 = some r) : RrChe_2 (TrChe_2b n0 c1 n2 c3 i4 n5 c6 i7 n8) = some r :=
 lp_of ErChe_ok (by kernel_rfl) oqK14_1 (by kernel_rfl) ((BrChe_2b_eq _ _ _ _ _ _ _ _ _ _ _ _ _ _).trans h)
def trChe (F : FnT) (L0 : QQ YrChe_0) (L2 : QQ YrChe_2) (p0n : Nat) (p0c : List PV) : Option (((Nat) × (List PV)) × (Int)) :=
 bindO (F 16 (RSh.one CK.list) [(PV.int .i64 (p0n : Int))]) fun (y0 : ((Nat) × (List PV))) =>
 bif (decide (((0 : Int) ≤ (0 : Int)) ∧ ((0 : Int) < (y0.1 : Int)))) then
  bindO (listC (y0.2[0]?)) fun x1 =>
  bindO (F 18 (RSh.one (CK.int .i64)) [(PV.list p0n p0c), (PV.list x1.1 x1.2)]) fun (y2 : (Int)) =>
  bindO (L0 (TrChe_0a p0n p0c y0.1 y0.2 y2 (1 : Int))) fun y3 =>
  bindO (L2 (TrChe_2a y3.1 y3.2.1 y3.2.2.1 y3.2.2.2.1 y3.2.2.2.2 (0 : Int))) fun z =>
  Sum.elim (fun y4 =>
   some ((0, []), y4)) (fun y5 =>
   some ((y5.2.1, y5.2.2.1), y5.1)) z
 else none
theorem trChe_eq (F L0 L2 p0n p0c) : semF (callP F ErChe 20) s68 (loopT (qK14_1 L0 L2)) 400 a68 [PV.list p0n p0c] (fun rv => decR (RSh.tup [(Prod.mk false [CK.list]), (Prod.mk false [(CK.int .i64)])]) rv.pv) = trChe F L0 L2 p0n p0c := by kernel_rfl
noncomputable abbrev FrChe (args : List PV) := Fn env 68 (RSh.tup [(Prod.mk false [CK.list]), (Prod.mk false [(CK.int .i64)])]) args
theorem FrChe_of  (p0n : Nat) (p0c : List PV) {res : (((Nat) × (List PV)) × (Int))} (h : trChe (Fn env) LrChe_0 LrChe_2 p0n p0c = some res) : FrChe [PV.list p0n p0c] = some res :=
 fn_of ErChe_ok rfl rfl oqK14_1 ((trChe_eq _ _ _ _ _).trans h)
end Gv

/- What the functions do, round by round: B9. -/
namespace Gv
open Go
set_option maxRecDepth 100000
end Gv

/- Matrices of costs: encodings, copies, errors, costs. -/
namespace Gv
open Go
set_option maxRecDepth 100000
def rowI (r : List Int) : PV := .list r.length (encI r)
def encM (L : List (List Int)) : List PV := L.map rowI
theorem encM_get (L : List (List Int)) (i : Nat) : (encM L)[i]? = L[i]?.map rowI := by simp [encM]
theorem intI_get {r : List Int} {i : Nat} (h : i < r.length) : intC .i64 (encI r)[i]? = some (r.getD i 0) := by
 rw [encI_get, List.getElem?_eq_getElem h]
 simp [List.getD, List.getElem?_eq_getElem h]
theorem listM_get {L : List (List Int)} {i : Nat} (h : i < L.length) : listC (encM L)[i]? = some ((L.getD i []).length, encI (L.getD i [])) := by
 rw [encM_get, List.getElem?_eq_getElem h]
 simp [List.getD, List.getElem?_eq_getElem h, rowI, listC]
theorem drop_getD {r : List Int} {i : Nat} (h : i < r.length) : r.drop i = r.getD i 0 :: r.drop (i + 1) := by
 rw [List.drop_eq_getElem_cons h]
 simp [List.getD, List.getElem?_eq_getElem h]
theorem getD_memM {L : List (List Int)} {i : Nat} (h : i < L.length) : L.getD i [] ∈ L := by
 simp [List.getD, List.getElem?_eq_getElem h]
def okC (x : Int) : Bool := decide (0 ≤ x ∧ x ≤ 10000000)
def rowE (k : Nat) (r : List Int) : Int := if r.length = k then (if r.all okC = true then 0 else 2) else 10
def matF (k : Nat) : List (List Int) → Nat → Option (Int × Int)
 | [], _ => none
 | r :: L, i => if rowE k r = 0 then matF k L (i + 1) else some ((i : Int), rowE k r)
def matV (L : List (List Int)) : Int × Int := if L.length = 0 then (0, 10) else if 6 < L.length then (0, 8) else (matF L.length L 0).getD (0, 0)
def SmallP (L : List (List Int)) : Prop := L.length ≤ 8 ∧ (∀ r ∈ L, r.length ≤ 8) ∧ ((matV L).2 ≠ 0 ∨ L.length ≤ 5)
instance (L : List (List Int)) : Decidable (SmallP L) := by unfold SmallP; infer_instance
def Zm (L : List (List Int)) (i j : Nat) : Int := (L.getD i []).getD j 0
def sumW (Z : Nat → Nat → Int) (b : List Nat) (i : Nat) (a : Int) : Int := ((List.range b.length).drop i).foldl (fun a i => w64 (a + Z i (b.getD i 0))) a
theorem sumW_step (Z : Nat → Nat → Int) {b : List Nat} {i : Nat} (h : i < b.length) (a : Int) : sumW Z b i a = sumW Z b (i + 1) (w64 (a + Z i (b.getD i 0))) := by
 unfold sumW
 rw [List.drop_eq_getElem_cons (by simpa using h), List.foldl_cons]
 simp
theorem sumW_end (Z : Nat → Nat → Int) (b : List Nat) (a : Int) : sumW Z b b.length a = a := by
 unfold sumW
 rw [List.drop_of_length_le (by simp)]
 rfl
theorem getD_nat {a : List Int} {i : Nat} (h : i < a.length) : (a.map Int.toNat).getD i 0 = (a.getD i 0).toNat := by
 simp [List.getD, List.getElem?_eq_getElem h]
theorem rCost_loop (L : List (List Int)) (hL : L.length ≤ 1000) (hr : ∀ r ∈ L, r.length = L.length) (a : List Int) (ha : a.length ≤ L.length) (hc : ∀ x ∈ a, 0 ≤ x ∧ x < L.length) : ∀ (m i : Nat) (s : Int), i + m = a.length →
  RrCost_0 (TrCost_0a L.length (encM L) a.length (encI a) s i) = exO (XrCost_0a (sumW (Zm L) (a.map Int.toNat) i s))
 | 0, i, s, h => by
  have : i = (a.map Int.toNat).length := by simp; omega
  subst this
  rw [sumW_end]
  refine RrCost_0a_of _ _ _ _ _ _ ?_
  unfold BrCost_0a
  rw [bif_neg (by simp)]
  rfl
 | m + 1, i, s, h => by
  have hi : i < a.length := by omega
  have hL' : i < L.length := by omega
  have hx := hc (a.getD i 0) (by simp [List.getD, List.getElem?_eq_getElem hi])
  have hrl := hr _ (getD_memM hL')
  refine RrCost_0a_of _ _ _ _ _ _ ?_
  unfold BrCost_0a
  rw [bif_pos (by omega), bif_pos (by omega)]
  simp only [Int.toNat_natCast, Nat.mul_one, listM_get hL', bindO_val]
  rw [bif_pos (by omega)]
  simp only [intI_get hi, bindO_val]
  rw [bif_pos (by omega)]
  have hj : (a.getD i 0).toNat < (L.getD i []).length := by omega
  simp only [intI_get hj, bindO_val]
  rw [w64_in (n := (i : Int) + 1) (by omega)]
  have ih := rCost_loop L hL hr a ha hc m (i + 1) (w64 (s + (L.getD i []).getD (a.getD i 0).toNat 0)) (by omega)
  rw [sumW_step _ (by simpa using hi), getD_nat hi]
  exact_mod_cast ih
theorem sumW_zero (Z : Nat → Nat → Int) (b : List Nat) : sumW Z b 0 0 = (List.range b.length).foldl (fun a i => w64 (a + Z i (b.getD i 0))) 0 := by unfold sumW; rw [List.drop_zero]
theorem rCost_is (L : List (List Int)) (hL : L.length ≤ 1000) (hr : ∀ r ∈ L, r.length = L.length) (a : List Int) (ha : a.length ≤ L.length) (hc : ∀ x ∈ a, 0 ≤ x ∧ x < L.length) :
  FrCost [.list L.length (encM L), .list a.length (encI a)] = some (sumW (Zm L) (a.map Int.toNat) 0 0) := by
 refine FrCost_of _ _ _ _ ?_
 unfold trCost
 have h := LrCost_0a_of (rCost_loop L hL hr a ha hc a.length 0 0 (by omega))
 have h : LrCost_0 (TrCost_0a L.length (encM L) a.length (encI a) 0 0) = _ := h
 rw [h]
 rfl
theorem wCost_loop (L : List (List Int)) (hL : L.length ≤ 1000) (hr : ∀ r ∈ L, r.length = L.length) (a : List Int) (ha : a.length ≤ L.length) (hc : ∀ x ∈ a, 0 ≤ x ∧ x < L.length) : ∀ (m i : Nat) (s : Int), i + m = a.length →
  RwCost_0 (TwCost_0a L.length (encM L) s a.length (encI a) a.length i) = exO (XwCost_0a (sumW (Zm L) (a.map Int.toNat) i s))
 | 0, i, s, h => by
  have : i = (a.map Int.toNat).length := by simp; omega
  subst this
  rw [sumW_end]
  refine RwCost_0a_of _ _ _ _ _ _ _ ?_
  unfold BwCost_0a
  rw [bif_neg (by simp)]
  rfl
 | m + 1, i, s, h => by
  have hi : i < a.length := by omega
  have hL' : i < L.length := by omega
  have hx := hc (a.getD i 0) (by simp [List.getD, List.getElem?_eq_getElem hi])
  have hrl := hr _ (getD_memM hL')
  refine RwCost_0a_of _ _ _ _ _ _ _ ?_
  unfold BwCost_0a
  rw [bif_pos (by omega), bif_pos (by omega)]
  simp only [Int.toNat_natCast, Nat.mul_one, intI_get hi, bindO_val]
  rw [bif_pos (by omega)]
  simp only [listM_get hL', bindO_val]
  rw [bif_pos (by omega)]
  have hj : (a.getD i 0).toNat < (L.getD i []).length := by omega
  simp only [intI_get hj, bindO_val]
  rw [w64_in (n := (i : Int) + 1) (by omega)]
  have ih := wCost_loop L hL hr a ha hc m (i + 1) (w64 (s + (L.getD i []).getD (a.getD i 0).toNat 0)) (by omega)
  rw [sumW_step _ (by simpa using hi), getD_nat hi]
  exact_mod_cast ih
theorem wCost_is (L : List (List Int)) (hL : L.length ≤ 1000) (hr : ∀ r ∈ L, r.length = L.length) (a : List Int) (ha : a.length ≤ L.length) (hc : ∀ x ∈ a, 0 ≤ x ∧ x < L.length) :
  FwCost [.list L.length (encM L), .list a.length (encI a)] = some (sumW (Zm L) (a.map Int.toNat) 0 0) := by
 refine FwCost_of _ _ _ _ ?_
 unfold twCost
 have h := LwCost_0a_of (wCost_loop L hL hr a ha hc a.length 0 0 (by omega))
 have h : LwCost_0 (TwCost_0a L.length (encM L) 0 a.length (encI a) a.length 0) = _ := h
 rw [h]
 rfl
end Gv

/- Errors of matrices and of assignments. -/
namespace Gv
open Go
set_option maxRecDepth 100000
end Gv

/- An assignment with potentials, as the reference checks it. -/
namespace Gv
open Go
set_option maxRecDepth 100000
section
variable (L : List (List Int)) (hL : L.length ≤ 1000) (a R C : List Int) (ha : a.length = L.length) (hR : R.length = L.length) (hC : C.length = L.length)
include hL ha hR hC
end
end Gv

/- The parts of the program's check of an assignment. -/
namespace Gv
open Go
set_option maxRecDepth 100000
end Gv

/- The cheapest assignments, as the reference and the program find them. -/
namespace Gv
open Go
set_option maxRecDepth 100000
def minF (c : List Nat → Int) (l : List (List Nat)) (s : Int) : Int := l.foldl (fun s b => if c b < s then c b else s) s
def minL (c : List Nat → Int) (l : List (List Nat)) : Int := minF c (l.drop 1) (c (l.getD 0 []))
def cheapL (c : List Nat → Int) (l : List (List Nat)) : List (List Nat) := l.filter fun b => decide (c b = minL c l)
theorem all_fold (c : List Nat → Int) : ∀ (l p : List (List Nat)) (k : Int), (∀ b ∈ p, k ≤ c b) → l.foldl (allStep c) (some (p.filter (fun b => decide (c b = k)), k)) = some ((p ++ l).filter (fun b => decide (c b = minF c l k)), minF c l k)
 | [], p, k, _ => by rw [List.append_nil]; rfl
 | x :: l, p, k, h => by
  have e : minF c (x :: l) k = minF c l (if c x < k then c x else k) := rfl
  rw [List.foldl_cons, e]
  have hp : p ++ x :: l = (p ++ [x]) ++ l := by simp
  rw [hp]
  by_cases h1 : c x < k
  ·have hs : allStep c (some (p.filter (fun b => decide (c b = k)), k)) x = some ((p ++ [x]).filter (fun b => decide (c b = c x)), c x) := by
    unfold allStep
    simp only [h1, if_true]
    have : p.filter (fun b => decide (c b = c x)) = [] := List.filter_eq_nil_iff.2 fun b hb => by
     have := h b hb
     simp only [decide_eq_true_eq]
     omega
    rw [List.filter_append, this]
    simp
   rw [hs, if_pos h1]
   refine all_fold c l (p ++ [x]) (c x) fun b hb => ?_
   rcases List.mem_append.1 hb with hb | hb
   ·have := h b hb; omega
   ·simp at hb; subst hb; omega
  ·rw [if_neg h1]
   have hge : ∀ b ∈ p ++ [x], k ≤ c b := fun b hb => by
    rcases List.mem_append.1 hb with hb | hb
    ·exact h b hb
    ·simp at hb; subst hb; omega
   by_cases h2 : c x = k
   ·have hs : allStep c (some (p.filter (fun b => decide (c b = k)), k)) x = some ((p ++ [x]).filter (fun b => decide (c b = k)), k) := by
     unfold allStep
     simp only [h1, if_false]
     rw [if_pos h2, List.filter_append]
     simp [h2]
    rw [hs]
    exact all_fold c l (p ++ [x]) k hge
   ·have hs : allStep c (some (p.filter (fun b => decide (c b = k)), k)) x = some ((p ++ [x]).filter (fun b => decide (c b = k)), k) := by
     unfold allStep
     simp only [h1, if_false]
     rw [if_neg h2, List.filter_append]
     simp [h2]
    rw [hs]
    exact all_fold c l (p ++ [x]) k hge
theorem allIn_is (c : List Nat → Int) {l : List (List Nat)} (h : l ≠ []) : allIn c l = some (cheapL c l, minL c l) := by
 obtain ⟨x, r, rfl⟩ := List.exists_cons_of_ne_nil h
 have := all_fold c r [x] (c x) fun b hb => by simp at hb; subst hb; omega
 have e : allIn c (x :: r) = r.foldl (allStep c) (some ([x].filter (fun b => decide (c b = c x)), c x)) := by
  unfold allIn
  rw [List.foldl_cons]
  simp [allStep]
 rw [e, this]
 rfl
theorem cheap_ne (c : List Nat → Int) {l : List (List Nat)} (h : l ≠ []) : ∃ b bs, cheapL c l = b :: bs ∧ bestIn c l = some (b, minL c l) := by
 have ha := allIn_is c h
 rcases all_best c l none none (.inl ⟨rfl, rfl⟩) with ⟨h1, _⟩ | ⟨b, bs, k, h1, h2⟩
 ·have h1 : allIn c l = none := h1
  rw [ha] at h1
  cases h1
 ·have h1 : allIn c l = _ := h1
  have h2 : bestIn c l = _ := h2
  rw [ha] at h1
  simp only [Option.some.injEq, Prod.mk.injEq] at h1
  exact ⟨b, bs, h1.1, h1.2 ▸ h2⟩
def asI (b : List Nat) : List Int := b.map fun (x : Nat) => (x : Int)
theorem encN_is (b : List Nat) : encN b = encI (asI b) := by simp [encN, encI, asI]
theorem asI_len (b : List Nat) : (asI b).length = b.length := by simp [asI]
theorem asI_nat (b : List Nat) : (asI b).map Int.toNat = b := by
 unfold asI
 rw [List.map_map]
 have e : (Int.toNat ∘ fun (x : Nat) => (x : Int)) = id := by funext x; simp
 rw [e, List.map_id]
theorem listP_get {A : List (List Nat)} {i : Nat} (h : i < A.length) : listC (A.map rowP)[i]? = some ((A.getD i []).length, encN (A.getD i [])) := by
 rw [List.getElem?_map, List.getElem?_eq_getElem h]
 simp [List.getD, List.getElem?_eq_getElem h, rowP, listC]
theorem intN_get {b : List Nat} {i : Nat} (h : i < b.length) : intC .i64 (encN b)[i]? = some ((b.getD i 0 : Nat) : Int) := by
 have : (encN b)[i]? = some (PV.int .i64 ((b.getD i 0 : Nat) : Int)) := by simp [encN, List.getD, List.getElem?_eq_getElem h]
 rw [this]
 rfl
theorem drop_getN {r : List (List Nat)} {i : Nat} (h : i < r.length) : r.drop i = r.getD i [] :: r.drop (i + 1) := by
 rw [List.drop_eq_getElem_cons h]
 simp [List.getD, List.getElem?_eq_getElem h]
theorem getD_memN {L : List (List Nat)} {i : Nat} (h : i < L.length) : L.getD i [] ∈ L := by simp [List.getD, List.getElem?_eq_getElem h]
def asgs (N : Nat) : List (List Nat) := ext N N []
theorem asgs_row {N : Nat} (h : N ≤ 5) {b : List Nat} (hb : b ∈ asgs N) : b.length = N ∧ ∀ x ∈ b, x < N := ⟨ext_row h b hb, fun x hx => by simpa using List.all_eq_true.1 (ext_all_lt h b hb) x hx⟩
theorem cost_both {L : List (List Int)} (h5 : L.length ≤ 5) (hr : ∀ r ∈ L, r.length = L.length) {b : List Nat} (hb : b ∈ asgs L.length) :
  FrCost [.list L.length (encM L), .list b.length (encN b)] = some (costW (Zm L) b) ∧ FwCost [.list L.length (encM L), .list b.length (encN b)] = some (costW (Zm L) b) := by
 obtain ⟨h1, h2⟩ := asgs_row h5 hb
 have hl : ∀ x ∈ asI b, 0 ≤ x ∧ x < (L.length : Int) := fun x hx => by
  unfold asI at hx
  obtain ⟨y, hy, rfl⟩ := List.mem_map.1 hx
  have := h2 y hy
  omega
 have e : sumW (Zm L) ((asI b).map Int.toNat) 0 0 = costW (Zm L) b := by rw [asI_nat, sumW_zero]; rfl
 have a1 := rCost_is L (by omega) hr (asI b) (by rw [asI_len]; omega) hl
 have a2 := wCost_is L (by omega) hr (asI b) (by rw [asI_len]; omega) hl
 rw [e, asI_len, ← encN_is] at a1 a2
 exact ⟨a1, a2⟩
section
variable (L : List (List Int)) (h5 : L.length ≤ 5) (hr : ∀ r ∈ L, r.length = L.length)
include h5 hr
theorem rChe_0 (A : List (List Nat)) (hA : ∀ b ∈ A, b ∈ asgs L.length) (hAl : A.length ≤ 1000) : ∀ (m i : Nat) (s : Int), i + m = A.length →
  RrChe_0 (TrChe_0a L.length (encM L) A.length (A.map rowP) s i) = exO (XrChe_0a (L.length, encM L, A.length, A.map rowP, minF (costW (Zm L)) (A.drop i) s))
 | 0, i, s, h => by
  refine RrChe_0a_of _ _ _ _ _ _ ?_
  unfold BrChe_0a minF
  rw [bif_neg (by omega), List.drop_of_length_le (by omega)]
  rfl
 | m + 1, i, s, h => by
  have hi : i < A.length := by omega
  have hc : Fn env 18 _ [.list L.length (encM L), .list (A.getD i []).length (encN (A.getD i []))] = _ := (cost_both h5 hr (hA _ (getD_memN hi))).1
  have ih := rChe_0 A hA hAl m (i + 1) (if costW (Zm L) (A.getD i []) < s then costW (Zm L) (A.getD i []) else s) (by omega)
  refine RrChe_0a_of _ _ _ _ _ _ ?_
  unfold BrChe_0a
  rw [bif_pos (by omega), bif_pos (by omega)]
  simp only [Int.toNat_natCast, Nat.mul_one, listP_get hi, bindO_val]
  rw [hc]
  simp only [bindO_val]
  rw [w64_in (n := (i : Int) + 1) (by omega), drop_getN hi]
  exact_mod_cast ih
theorem rChe_2b (A : List (List Nat)) (hA : ∀ b ∈ A, b ∈ asgs L.length) (hAl : A.length ≤ 1000) (s : Int) : ∀ (m i : Nat) (F : List (List Nat)), i + m = A.length → F.length ≤ i →
  RrChe_2 (TrChe_2b L.length (encM L) A.length (A.map rowP) s F.length (F.map rowP) i F.length) = exO (XrChe_2b (s, (F ++ (A.drop i).filter (fun b => decide (costW (Zm L) b = s))).length, (F ++ (A.drop i).filter (fun b => decide (costW (Zm L) b = s))).map rowP, (F ++ (A.drop i).filter (fun b => decide (costW (Zm L) b = s))).length))
 | 0, i, F, h, _ => by
  refine RrChe_2b_of _ _ _ _ _ _ _ _ _ ?_
  unfold BrChe_2b
  rw [bif_neg (by omega), List.drop_of_length_le (by omega), List.filter_nil, List.append_nil]
  rfl
 | m + 1, i, F, h, hF => by
  have hi : i < A.length := by omega
  have hc : Fn env 18 _ [.list L.length (encM L), .list (A.getD i []).length (encN (A.getD i []))] = _ := (cost_both h5 hr (hA _ (getD_memN hi))).1
  refine RrChe_2b_of _ _ _ _ _ _ _ _ _ ?_
  unfold BrChe_2b
  rw [bif_pos (by omega), bif_pos (by omega)]
  simp only [Int.toNat_natCast, Nat.mul_one, listP_get hi, bindO_val]
  rw [hc]
  simp only [bindO_val]
  rw [drop_getN hi, List.filter_cons]
  by_cases he : costW (Zm L) (A.getD i []) = s
  ·have ih := rChe_2b A hA hAl s m (i + 1) (F ++ [A.getD i []]) (by omega) (by simp; omega)
   have e : (costW (Zm L) (A.getD i []) == s) = true := by simpa using he
   rw [e, cond_true, bif_pos (by omega), if_pos (by simpa using he), bif_pos ⟨trivial, by unfold big; omega⟩]
   rw [List.append_assoc, List.singleton_append, List.length_append, List.map_append] at ih
   rw [w64_in (n := (i : Int) + 1) (by omega)]
   exact_mod_cast ih
  ·have ih := rChe_2b A hA hAl s m (i + 1) F (by omega) (by omega)
   have e : (costW (Zm L) (A.getD i []) == s) = false := by rw [beq_eq_false_iff_ne]; exact he
   rw [e, cond_false, if_neg (by simpa using he), w64_in (n := (i : Int) + 1) (by omega)]
   exact_mod_cast ih
theorem rChe_2a (A : List (List Nat)) (hA : ∀ b ∈ A, b ∈ asgs L.length) (hAl : A.length ≤ 1000) (s : Int) : ∀ (m i : Nat), i + m = A.length →
  RrChe_2 (TrChe_2a L.length (encM L) A.length (A.map rowP) s i) = if (A.drop i).filter (fun b => decide (costW (Zm L) b = s)) = [] then exO (XrChe_2a s) else exO (XrChe_2b (s, ((A.drop i).filter (fun b => decide (costW (Zm L) b = s))).length, ((A.drop i).filter (fun b => decide (costW (Zm L) b = s))).map rowP, ((A.drop i).filter (fun b => decide (costW (Zm L) b = s))).length))
 | 0, i, h => by
  rw [List.drop_of_length_le (by omega), List.filter_nil, if_pos rfl]
  refine RrChe_2a_of _ _ _ _ _ _ ?_
  unfold BrChe_2a
  rw [bif_neg (by omega)]
  rfl
 | m + 1, i, h => by
  have hi : i < A.length := by omega
  have hc : Fn env 18 _ [.list L.length (encM L), .list (A.getD i []).length (encN (A.getD i []))] = _ := (cost_both h5 hr (hA _ (getD_memN hi))).1
  rw [drop_getN hi]
  by_cases he : costW (Zm L) (A.getD i []) = s
  ·have ih := rChe_2b L h5 hr A hA hAl s m (i + 1) [A.getD i []] (by omega) (by simp)
   have e : (costW (Zm L) (A.getD i []) == s) = true := by simpa using he
   have ef : (A.getD i [] :: A.drop (i + 1)).filter (fun b => decide (costW (Zm L) b = s)) = A.getD i [] :: (A.drop (i + 1)).filter (fun b => decide (costW (Zm L) b = s)) := by rw [List.filter_cons, if_pos (by simpa using he)]
   rw [ef, if_neg (by simp)]
   refine RrChe_2a_of _ _ _ _ _ _ ?_
   unfold BrChe_2a
   rw [bif_pos (by omega), bif_pos (by omega)]
   simp only [Int.toNat_natCast, Nat.mul_one, listP_get hi, bindO_val]
   rw [hc]
   simp only [bindO_val]
   rw [e, cond_true, bif_pos (by omega), w64_in (n := (i : Int) + 1) (by omega)]
   rw [List.singleton_append] at ih
   exact_mod_cast ih
  ·have ih := rChe_2a A hA hAl s m (i + 1) (by omega)
   have e : (costW (Zm L) (A.getD i []) == s) = false := by rw [beq_eq_false_iff_ne]; exact he
   have ef : (A.getD i [] :: A.drop (i + 1)).filter (fun b => decide (costW (Zm L) b = s)) = (A.drop (i + 1)).filter (fun b => decide (costW (Zm L) b = s)) := by rw [List.filter_cons, if_neg (by simpa using he)]
   rw [ef]
   have hs : BrChe_2a (Fn env) RrChe_2 exO LrChe_0 LrChe_2 L.length (encM L) A.length (A.map rowP) s i = RrChe_2 (TrChe_2a L.length (encM L) A.length (A.map rowP) s ((i + 1 : Nat) : Int)) := by
    unfold BrChe_2a
    rw [bif_pos (by omega), bif_pos (by omega)]
    simp only [Int.toNat_natCast, Nat.mul_one, listP_get hi, bindO_val]
    rw [hc]
    simp only [bindO_val]
    rw [e, cond_false, w64_in (n := (i : Int) + 1) (by omega)]
    rfl
   rw [ih] at hs
   split at hs
   ·rename_i hn
    rw [if_pos hn]
    exact RrChe_2a_of _ _ _ _ _ _ hs
   ·rename_i hn
    rw [if_neg hn]
    exact RrChe_2a_of _ _ _ _ _ _ hs
theorem rChe_is (h99 : Fn env 16 (RSh.one CK.list) [.int .i64 L.length] = some ((asgs L.length).length, (asgs L.length).map rowP)) :
  FrChe [.list L.length (encM L)] = some (((cheapL (costW (Zm L)) (asgs L.length)).length, (cheapL (costW (Zm L)) (asgs L.length)).map rowP), minL (costW (Zm L)) (asgs L.length)) := by
 refine FrChe_of _ _ ?_
 unfold trChe
 have hne : asgs L.length ≠ [] := ext_ne h5
 have hlen : (asgs L.length).length ≤ 120 := ext_len h5
 have hpos : 0 < (asgs L.length).length := Nat.pos_of_ne_zero fun h => hne (List.length_eq_zero_iff.1 h)
 have hc : Fn env 18 _ [.list L.length (encM L), .list ((asgs L.length).getD 0 []).length (encN ((asgs L.length).getD 0 []))] = _ := (cost_both h5 hr (getD_memN hpos)).1
 rw [h99]
 simp only [bindO_val]
 rw [bif_pos (by omega), listP_get hpos]
 simp only [bindO_val]
 rw [hc]
 simp only [bindO_val]
 have h0 := LrChe_0a_of (rChe_0 L h5 hr (asgs L.length) (fun b h => h) (by omega) ((asgs L.length).length - 1) 1 (costW (Zm L) ((asgs L.length).getD 0 [])) (by omega))
 have h0 : LrChe_0 (TrChe_0a L.length (encM L) (asgs L.length).length ((asgs L.length).map rowP) (costW (Zm L) ((asgs L.length).getD 0 [])) 1) = _ := h0
 rw [h0]
 simp only [bindO_val]
 have h2 := rChe_2a L h5 hr (asgs L.length) (fun b h => h) (by omega) (minL (costW (Zm L)) (asgs L.length)) (asgs L.length).length 0 (by omega)
 rw [List.drop_zero] at h2
 have hcl : (asgs L.length).filter (fun b => decide (costW (Zm L) b = minL (costW (Zm L)) (asgs L.length))) = cheapL (costW (Zm L)) (asgs L.length) := rfl
 rw [hcl] at h2
 obtain ⟨b, bs, hb, _⟩ := cheap_ne (costW (Zm L)) hne
 rw [if_neg (by rw [hb]; simp)] at h2
 have h2 := LrChe_2b_of h2
 have h2 : LrChe_2 (TrChe_2a L.length (encM L) (asgs L.length).length ((asgs L.length).map rowP) (minF (costW (Zm L)) ((asgs L.length).drop 1) (costW (Zm L) ((asgs L.length).getD 0 []))) 0) = _ := h2
 rw [h2]
 rfl
end
end Gv

/- The cheapest assignment and certain rows. -/
namespace Gv
open Go
set_option maxRecDepth 100000
theorem prim1_fn {env : Nat → Option AFn} {f n : Nat} {cs : List PV} {g : List PV → Option PV} {v : PV} (hf : env f = some (primA 1 g)) (hg : g [.list n cs] = some v) : run env f [.list n cs] = some (.val v) := by
 refine (run_iff env).2 ⟨2, ?_⟩
 have e : exN (callN env 1) 1 (primA 1 g).body (start (primA 1 g) [.list n cs]) = some (.normal, ⟨[.p (.list n cs), .p v], [Blk.none, Blk.none]⟩) := by
  show exN (callN env 1) 1 (.ops [{ dst := some 1, grd := none, args := [.tmp 0], k := .l (.prim g) }]) ⟨[.p (.list n cs), .undef], [Blk.none, Blk.none]⟩ = _
  simp only [exN, exOps, exOp, grd]
  have hk : runK (callN env 1) (.l (.prim g)) [.p (.list n cs)] [Blk.none, Blk.none] = some (.p v, [Blk.none, Blk.none]) := by
   simp only [runK, runL, pureAs, pureA, hg, Option.map_some]
  have ha : ([Arg.tmp 0].map (Arg.get [AV.p (.list n cs), .undef])) = [.p (.list n cs)] := rfl
  simp only [ha, hk]
  rfl
 rw [callN_fn env 1 f _ (fun sh caps e => by cases e)]
 simp only [hf]
 rw [if_pos ⟨rfl, rfl⟩, e]
 rfl
theorem zOf_enc (L : List (List Int)) : zOf (encM L) = Zm L := by
 funext i j
 unfold zOf Zm
 rw [encM_get]
 by_cases hi : i < L.length
 ·rw [List.getElem?_eq_getElem hi]
  simp only [Option.map_some, rowI, List.getD, List.getElem?_eq_getElem hi, Option.getD_some]
  unfold intAt
  rw [encI_get]
  by_cases hj : j < L[i].length
  ·rw [List.getElem?_eq_getElem hj]
   rfl
  ·rw [List.getElem?_eq_none (by omega)]
   rfl
 ·rw [List.getElem?_eq_none (by omega)]
  simp [List.getD, List.getElem?_eq_none (show L.length ≤ i by omega)]
theorem rowN_enc {L : List (List Int)} (hr : ∀ r ∈ L, r.length = L.length) : (encM L).length = L.length ∧ (encM L).all (isRowN L.length) = true := by
 refine ⟨by simp [encM], List.all_eq_true.2 fun x hx => ?_⟩
 unfold encM at hx
 obtain ⟨r, h, rfl⟩ := List.mem_map.1 hx
 have := hr r h
 unfold isRowN rowI
 simp only [this, encI_len, decide_true, Bool.true_and]
 exact List.all_eq_true.2 fun y hy => by
  unfold encI at hy
  obtain ⟨z, _, rfl⟩ := List.mem_map.1 hy
  rfl
theorem f94 {L : List (List Int)} (h5 : L.length ≤ 5) (hr : ∀ r ∈ L, r.length = L.length) {b : List Nat} {k : Int} (hb : bestIn (costW (Zm L)) (asgs L.length) = some (b, k)) : Fn env 47 (RSh.one CK.list) [.list L.length (encM L)] = some (b.length, encN b) := by
 have hg : cheapG [.list L.length (encM L)] = some (rowP b) := by
  unfold cheapG
  simp only
  rw [if_pos ⟨h5, rowN_enc hr⟩, zOf_enc]
  unfold asgs at hb
  rw [hb]
 unfold Fn
 rw [prim1_fn (env := env) (f := 47) rfl hg]
 rfl
theorem f96 {L : List (List Int)} (h5 : L.length ≤ 5) (hr : ∀ r ∈ L, r.length = L.length) : Fn env 50 (RSh.one CK.list) [.list L.length (encM L)] = some ((cheapL (costW (Zm L)) (asgs L.length)).length, (cheapL (costW (Zm L)) (asgs L.length)).map rowP) := by
 have hg : allG [.list L.length (encM L)] = some (.list (cheapL (costW (Zm L)) (asgs L.length)).length ((cheapL (costW (Zm L)) (asgs L.length)).map rowP)) := by
  unfold allG
  simp only
  rw [if_pos ⟨h5, rowN_enc hr⟩, zOf_enc]
  have := allIn_is (costW (Zm L)) (l := asgs L.length) (ext_ne h5)
  unfold asgs at this ⊢
  rw [this]
 unfold Fn
 rw [prim1_fn (env := env) (f := 50) rfl hg]
 rfl
section
variable (N : Nat) (M : List PV) (G : List (List Nat)) (hG : 0 < G.length) (hGl : G.length ≤ 1000) (hN : N ≤ 1000) (hrow : ∀ b ∈ G, b.length = N)
include hG hGl hN hrow
omit hN in
omit hN in
omit hN in
end
section
variable {L : List (List Int)} (hz : (matV L).2 = 0) (h5 : L.length ≤ 5)
include hz h5
omit hz in
end
theorem bInts_loop (r t : List Int) (hl : r.length = t.length) (hr : r.length ≤ 1000) : ∀ (m k : Nat), k + m = r.length →
  RbInts_0 (TbInts_0a r.length (encI r) t.length (encI t) k) = if r.drop k = t.drop k then exO (XbInts_0b ()) else exO (XbInts_0a ())
 | 0, k, h => by
  rw [List.drop_of_length_le (by omega), List.drop_of_length_le (by omega), if_pos rfl]
  refine RbInts_0a_of _ _ _ _ _ ?_
  unfold BbInts_0a
  rw [bif_neg (by omega)]
  rfl
 | m + 1, k, h => by
  have ih := bInts_loop r t hl hr m (k + 1) (by omega)
  have hk : k < r.length := by omega
  have hk2 : k < t.length := by omega
  have hs : BbInts_0a (Fn env) RbInts_0 exO LbInts_0 r.length (encI r) t.length (encI t) k = if r.getD k 0 = t.getD k 0 then RbInts_0 (TbInts_0a r.length (encI r) t.length (encI t) ((k + 1 : Nat) : Int)) else exO (XbInts_0a ()) := by
   unfold BbInts_0a
   rw [bif_pos (by omega), bif_pos (by omega)]
   simp only [Int.toNat_natCast, Nat.mul_one, intI_get hk, bindO_val]
   rw [bif_pos (by omega)]
   simp only [intI_get hk2, bindO_val, bif_ne]
   rw [w64_in (n := (k : Int) + 1) (by omega)]
   rfl
  rw [drop_getD hk, drop_getD hk2]
  by_cases he : r.getD k 0 = t.getD k 0
  ·rw [if_pos he, ih] at hs
   rw [he]
   by_cases ht : r.drop (k + 1) = t.drop (k + 1)
   ·rw [if_pos ht] at hs
    rw [ht, if_pos rfl]
    exact RbInts_0a_of _ _ _ _ _ hs
   ·rw [if_neg ht] at hs
    rw [if_neg (fun h => ht (List.cons.inj h).2)]
    exact RbInts_0a_of _ _ _ _ _ hs
  ·rw [if_neg he] at hs
   rw [if_neg (fun h => he (List.cons.inj h).1)]
   exact RbInts_0a_of _ _ _ _ _ hs
theorem bInts_same (r : List Int) (hr : r.length ≤ 1000) : FbInts [.list r.length (encI r), .list r.length (encI r)] = some true := by
 refine FbInts_of _ _ _ _ ?_
 unfold tbInts
 have h := bInts_loop r r rfl hr r.length 0 (by omega)
 rw [if_pos rfl] at h
 have h : RbInts_0 (TbInts_0a r.length (encI r) r.length (encI r) 0) = _ := h
 rw [bne_self_eq_false, cond_false, LbInts_0b_of h]
 rfl
end Gv

/- What the reference's list of all assignments is. -/
namespace Gv
open Go
set_option maxRecDepth 100000
theorem prim1_int {env : Nat → Option AFn} {f : Nat} {k : IntKind} {n : Int} {g : List PV → Option PV} {v : PV} (hf : env f = some (primA 1 g)) (hg : g [.int k n] = some v) : run env f [.int k n] = some (.val v) := by
 refine (run_iff env).2 ⟨2, ?_⟩
 have e : exN (callN env 1) 1 (primA 1 g).body (start (primA 1 g) [.int k n]) = some (.normal, ⟨[.p (.int k n), .p v], [Blk.none, Blk.none]⟩) := by
  show exN (callN env 1) 1 (.ops [{ dst := some 1, grd := none, args := [.tmp 0], k := .l (.prim g) }]) ⟨[.p (.int k n), .undef], [Blk.none, Blk.none]⟩ = _
  simp only [exN, exOps, exOp, grd]
  have hk : runK (callN env 1) (.l (.prim g)) [.p (.int k n)] [Blk.none, Blk.none] = some (.p v, [Blk.none, Blk.none]) := by
   simp only [runK, runL, pureAs, pureA, hg, Option.map_some]
  have ha : ([Arg.tmp 0].map (Arg.get [AV.p (.int k n), .undef])) = [.p (.int k n)] := rfl
  simp only [ha, hk]
  rfl
 rw [callN_fn env 1 f _ (fun sh caps e => by cases e)]
 simp only [hf]
 rw [if_pos ⟨rfl, rfl⟩, e]
 rfl
theorem f99 (N : Nat) (h5 : N ≤ 5) : Fn env 16 (RSh.one CK.list) [.int .i64 N] = some ((asgs N).length, (asgs N).map rowP) := by
 have hg : assignG [.int .i64 (N : Int)] = some (.list (asgs N).length ((asgs N).map rowP)) := by
  unfold assignG asgs
  simp only
  rw [if_pos ⟨trivial, by omega, by omega⟩, Int.toNat_natCast]
 unfold Fn
 rw [prim1_int (env := env) (f := 16) rfl hg]
 rfl
end Gv
