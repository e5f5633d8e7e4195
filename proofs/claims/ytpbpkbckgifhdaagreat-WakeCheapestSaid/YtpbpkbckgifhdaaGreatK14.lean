import Derived.Test.YtpbpkbckgifhdaaGreatGvEnv
import Derived.Test.YtpbpkbckgifhdaaGreatGvYm
import Derived.Test.YtpbpkbckgifhdaaGreatK2
import Derived.Test.YtpbpkbckgifhdaaGreatX20

/- What the functions do, round by round: B4. -/
namespace Gv
open Go
set_option maxRecDepth 100000
def TcMat_1450000000a (n0 : Nat) (c1 : List PV) (n2 : Nat) (c3 : List PV) (i4 i5 : Int) : Q := ⟨(tm 24 [(1, (AV.p (PV.fn 115 [(PV.imm [(PV.list n0 c1)] 0)]))), (9, (AV.p (PV.list n2 c3))), (10, (AV.p (PV.int .i64 i4))), (11, (AV.p (PV.int .i64 i5)))]), (mm 24 [])⟩
def XcMat_1450000000a (_y : Unit) : Ext × Q := (Ext.normal, ⟨(tm 24 []), (mm 24 [])⟩)
def IcMat_1450000000a (_q : Ext × S) : Unit := ()
def XcMat_1450000000b (y : Int × Int) : Ext × Q := (Ext.ret, ⟨(tm 24 [(4, (AV.p (PV.int .i64 y.1))), (5, (AV.p (PV.int .i64 y.2)))]), (mm 24 [])⟩)
def IcMat_1450000000b (q : Ext × S) : Int × Int := ((pP_int1 (pA_p (avT q.2 4))), (pP_int1 (pA_p (avT q.2 5))))
abbrev YcMat_1450000000 : Type := (Unit) ⊕ ((Int × Int))
def XLcMat_1450000000 : XL YcMat_1450000000 := .more XcMat_1450000000a (.one XcMat_1450000000b)
def IcMat_1450000000 (q : Ext × S) : YcMat_1450000000 := bif (cE q.1 == 0) then (Sum.inl (IcMat_1450000000a q)) else (Sum.inr (IcMat_1450000000b q))
theorem XIcMat_1450000000a (y) : IcMat_1450000000 (xe (XcMat_1450000000a y)) = (Sum.inl y) := by kernel_rfl
theorem XIcMat_1450000000b (y) : IcMat_1450000000 (xe (XcMat_1450000000b y)) = (Sum.inr y) := by kernel_rfl
theorem XIcMat_1450000000 (y) : IcMat_1450000000 (xe (XLcMat_1450000000.fn y)) = y := (match y with | .inl y => XIcMat_1450000000a y | .inr y => XIcMat_1450000000b y)
noncomputable abbrev LcMat_1450000000 : Q → Option YcMat_1450000000 := lpO env a129.body 0 XLcMat_1450000000
noncomputable abbrev RcMat_1450000000 : Q → Option (Ext × S) := lpR env a129.body 0
theorem LcMat_1450000000a_of {s y} (h : RcMat_1450000000 s = exO (XcMat_1450000000a y)) : LcMat_1450000000 s = some (Sum.inl y) := lpO_of IcMat_1450000000 XIcMat_1450000000 (y := (Sum.inl y)) h
theorem LcMat_1450000000b_of {s y} (h : RcMat_1450000000 s = exO (XcMat_1450000000b y)) : LcMat_1450000000 s = some (Sum.inr y) := lpO_of IcMat_1450000000 XIcMat_1450000000 (y := (Sum.inr y)) h
def TcMat_900000000a (n0 : Nat) (c1 : List PV) (i2 i3 : Int) : Q := ⟨(tm 24 [(1, (AV.p (PV.fn 71 []))), (9, (AV.p (PV.list n0 c1))), (10, (AV.p (PV.int .i64 i2))), (11, (AV.p (PV.int .i64 i3)))]), (mm 24 [])⟩
def XcMat_900000000a (y : Int × Int) : Ext × Q := (Ext.ret, ⟨(tm 24 [(4, (AV.p (PV.int .i64 y.1))), (5, (AV.p (PV.int .i64 y.2)))]), (mm 24 [])⟩)
def IcMat_900000000a (q : Ext × S) : Int × Int := ((pP_int1 (pA_p (avT q.2 4))), (pP_int1 (pA_p (avT q.2 5))))
def XcMat_900000000b (_y : Unit) : Ext × Q := (Ext.normal, ⟨(tm 24 []), (mm 24 [])⟩)
def IcMat_900000000b (_q : Ext × S) : Unit := ()
abbrev YcMat_900000000 : Type := (Int × Int) ⊕ ((Unit))
def XLcMat_900000000 : XL YcMat_900000000 := .more XcMat_900000000a (.one XcMat_900000000b)
def IcMat_900000000 (q : Ext × S) : YcMat_900000000 := bif (cE q.1 == 2) then (Sum.inl (IcMat_900000000a q)) else (Sum.inr (IcMat_900000000b q))
theorem XIcMat_900000000a (y) : IcMat_900000000 (xe (XcMat_900000000a y)) = (Sum.inl y) := by kernel_rfl
theorem XIcMat_900000000b (y) : IcMat_900000000 (xe (XcMat_900000000b y)) = (Sum.inr y) := by kernel_rfl
theorem XIcMat_900000000 (y) : IcMat_900000000 (xe (XLcMat_900000000.fn y)) = y := (match y with | .inl y => XIcMat_900000000a y | .inr y => XIcMat_900000000b y)
noncomputable abbrev LcMat_900000000 : Q → Option YcMat_900000000 := lpO env a116.body 0 XLcMat_900000000
noncomputable abbrev RcMat_900000000 : Q → Option (Ext × S) := lpR env a116.body 0
theorem LcMat_900000000a_of {s y} (h : RcMat_900000000 s = exO (XcMat_900000000a y)) : LcMat_900000000 s = some (Sum.inl y) := lpO_of IcMat_900000000 XIcMat_900000000 (y := (Sum.inl y)) h
theorem LcMat_900000000b_of {s y} (h : RcMat_900000000 s = exO (XcMat_900000000b y)) : LcMat_900000000 s = some (Sum.inr y) := lpO_of IcMat_900000000 XIcMat_900000000 (y := (Sum.inr y)) h
theorem UcMatg145 : uniq ((blocksOf a129.body).map (·.1)) = true := by kernel_rfl
theorem UcMatg90 : uniq ((blocksOf a116.body).map (·.1)) = true := by kernel_rfl
def EcMat (L1450000000 : QQ YcMat_1450000000) (L900000000 : QQ YcMat_900000000) : List Entry := [.inp 129 a129 s129 [⟨0, YcMat_1450000000, L1450000000, XLcMat_1450000000⟩], .inp 116 a116 s116 [⟨0, YcMat_900000000, L900000000, XLcMat_900000000⟩], .inl 114 a114 s114, .inl 115 a115 s115, .inl 71 a71 s71, .out 84 (RSh.one (CK.int .i64)), .out 54 (RSh.one (CK.int .i64)), .out 53 (RSh.one (CK.int .i64))]
theorem EcMat_ok : ∀ e ∈ EcMat LcMat_1450000000 LcMat_900000000, EntOK env e := (ent_inp rfl (lo_cons (lpO_ok UcMatg145) lo_nil) (ent_inp rfl (lo_cons (lpO_ok UcMatg90) lo_nil) (ent_inl rfl (ent_inl rfl (ent_inl rfl (ent_out (ent_out (ent_out ent_nil))))))))
def BcMat_1450000000a (F : FnT) (N : QO) (E : EO) (_L1450000000 : QQ YcMat_1450000000) (L900000000 : QQ YcMat_900000000) (n0 : Nat) (c1 : List PV) (n2 : Nat) (c3 : List PV) (i4 i5 : Int) : OX :=
 bif (decide (i5 < i4)) then
  bif (decide (((0 : Int) ≤ i5) ∧ (i5 < (n2 : Int)))) then
   bindO (listC (c3[((Int.toNat i5) * 1)]?)) fun x0 =>
   bindO (L900000000 (TcMat_900000000a x0.1 x0.2 (x0.1 : Int) (0 : Int))) fun z =>
   Sum.elim (fun y1 =>
    bif ((x0.1 : Int) != ((Prod.mk n0 c1).1 : Int)) then
     bindO (F 54 (RSh.one (CK.int .i64)) [(PV.bool true), (PV.int .i64 (10 : Int))]) fun (y2 : (Int)) =>
     bindO (F 53 (RSh.one (CK.int .i64)) [(PV.list 2 [(PV.int .i64 y2), (PV.int .i64 y1.2)])]) fun (y3 : (Int)) =>
     bif (y3 != (0 : Int)) then
      E (XcMat_1450000000b (i5, y3))
     else N (TcMat_1450000000a n0 c1 n2 c3 i4 (w64 (i5 + (1 : Int))))
    else bindO (F 54 (RSh.one (CK.int .i64)) [(PV.bool false), (PV.int .i64 (10 : Int))]) fun (y4 : (Int)) =>
    bindO (F 53 (RSh.one (CK.int .i64)) [(PV.list 2 [(PV.int .i64 y4), (PV.int .i64 y1.2)])]) fun (y5 : (Int)) =>
    bif (y5 != (0 : Int)) then
     E (XcMat_1450000000b (i5, y5))
    else N (TcMat_1450000000a n0 c1 n2 c3 i4 (w64 (i5 + (1 : Int))))) (fun _y6 =>
    bif ((x0.1 : Int) != ((Prod.mk n0 c1).1 : Int)) then
     bindO (F 54 (RSh.one (CK.int .i64)) [(PV.bool true), (PV.int .i64 (10 : Int))]) fun (y7 : (Int)) =>
     bindO (F 53 (RSh.one (CK.int .i64)) [(PV.list 2 [(PV.int .i64 y7), (PV.int .i64 (0 : Int))])]) fun (y8 : (Int)) =>
     bif (y8 != (0 : Int)) then
      E (XcMat_1450000000b (i5, y8))
     else N (TcMat_1450000000a n0 c1 n2 c3 i4 (w64 (i5 + (1 : Int))))
    else bindO (F 54 (RSh.one (CK.int .i64)) [(PV.bool false), (PV.int .i64 (10 : Int))]) fun (y9 : (Int)) =>
    bindO (F 53 (RSh.one (CK.int .i64)) [(PV.list 2 [(PV.int .i64 y9), (PV.int .i64 (0 : Int))])]) fun (y10 : (Int)) =>
    bif (y10 != (0 : Int)) then
     E (XcMat_1450000000b (i5, y10))
    else N (TcMat_1450000000a n0 c1 n2 c3 i4 (w64 (i5 + (1 : Int))))) z
  else none
 else E (XcMat_1450000000a ())
theorem BcMat_1450000000a_eq (F N E L1450000000 L900000000 n0 c1 n2 c3 i4 i5) : semB (callP F (EcMat L1450000000 L900000000) 20) s129 (loopT [⟨0, YcMat_1450000000, L1450000000, XLcMat_1450000000⟩]) 400 (blkIn a129.body 0) N E (TcMat_1450000000a n0 c1 n2 c3 i4 i5) = BcMat_1450000000a F N E L1450000000 L900000000 n0 c1 n2 c3 i4 i5 := by kernel_rfl
theorem RcMat_1450000000a_of (n0 c1 n2 c3 i4 i5) {r} (h : BcMat_1450000000a (Fn env) RcMat_1450000000 exO LcMat_1450000000 LcMat_900000000 n0 c1 n2 c3 i4 i5 = some r) : RcMat_1450000000 (TcMat_1450000000a n0 c1 n2 c3 i4 i5) = some r :=
 lp_of EcMat_ok (by kernel_rfl) (lo_cons (lpO_ok UcMatg145) lo_nil) (by kernel_rfl) ((BcMat_1450000000a_eq _ _ _ _ _ _ _ _ _ _ _).trans h)
def BcMat_900000000a (F : FnT) (N : QO) (E : EO) (_L1450000000 : QQ YcMat_1450000000) (_L900000000 : QQ YcMat_900000000) (n0 : Nat) (c1 : List PV) (i2 i3 : Int) : OX :=
 bif (decide (i3 < i2)) then
  bif (decide (((0 : Int) ≤ i3) ∧ (i3 < (n0 : Int)))) then
   bindO (intC .i64 (c1[((Int.toNat i3) * 1)]?)) fun x0 =>
   bindO (F 84 (RSh.one (CK.int .i64)) [(PV.int .i64 x0), (PV.int .i64 (0 : Int)), (PV.int .i64 (10000000 : Int))]) fun (y1 : (Int)) =>
   bif (y1 != (0 : Int)) then
    E (XcMat_900000000a (i3, y1))
   else N (TcMat_900000000a n0 c1 i2 (w64 (i3 + (1 : Int))))
  else none
 else E (XcMat_900000000b ())
theorem BcMat_900000000a_eq (F N E L1450000000 L900000000 n0 c1 i2 i3) : semB (callP F (EcMat L1450000000 L900000000) 20) s116 (loopT [⟨0, YcMat_900000000, L900000000, XLcMat_900000000⟩]) 400 (blkIn a116.body 0) N E (TcMat_900000000a n0 c1 i2 i3) = BcMat_900000000a F N E L1450000000 L900000000 n0 c1 i2 i3 := by kernel_rfl
theorem RcMat_900000000a_of (n0 c1 i2 i3) {r} (h : BcMat_900000000a (Fn env) RcMat_900000000 exO LcMat_1450000000 LcMat_900000000 n0 c1 i2 i3 = some r) : RcMat_900000000 (TcMat_900000000a n0 c1 i2 i3) = some r :=
 lp_of EcMat_ok (by kernel_rfl) (lo_cons (lpO_ok UcMatg90) lo_nil) (by kernel_rfl) ((BcMat_900000000a_eq _ _ _ _ _ _ _ _ _).trans h)
def tcMat (_F : FnT) (L1450000000 : QQ YcMat_1450000000) (_L900000000 : QQ YcMat_900000000) (p0n : Nat) (p0c : List PV) : Option ((Int) × (Int)) :=
 bif ((p0n : Int) == (0 : Int)) then
  some ((0 : Int), (10 : Int))
 else bif (decide ((p0n : Int) > (6 : Int))) then
  some ((0 : Int), (8 : Int))
 else bindO (L1450000000 (TcMat_1450000000a p0n p0c p0n p0c (p0n : Int) (0 : Int))) fun z =>
 Sum.elim (fun _y0 =>
  some ((0 : Int), (0 : Int))) (fun y1 =>
  some (y1.1, y1.2)) z
theorem tcMat_eq (F L1450000000 L900000000 p0n p0c) : semF (callP F (EcMat L1450000000 L900000000) 20) s91 (loopT []) 400 a91 [PV.list p0n p0c] (fun rv => decR (RSh.tup [(Prod.mk false [(CK.int .i64)]), (Prod.mk false [(CK.int .i64)])]) rv.pv) = tcMat F L1450000000 L900000000 p0n p0c := by kernel_rfl
noncomputable abbrev FcMat (args : List PV) := Fn env 91 (RSh.tup [(Prod.mk false [(CK.int .i64)]), (Prod.mk false [(CK.int .i64)])]) args
theorem FcMat_of  (p0n : Nat) (p0c : List PV) {res : ((Int) × (Int))} (h : tcMat (Fn env) LcMat_1450000000 LcMat_900000000 p0n p0c = some res) : FcMat [PV.list p0n p0c] = some res :=
 fn_of EcMat_ok rfl rfl lo_nil ((tcMat_eq _ _ _ _ _).trans h)
def EmatE : List Entry := [.out 91 (RSh.tup [(Prod.mk false [(CK.int .i64)]), (Prod.mk false [(CK.int .i64)])])]
theorem EmatE_ok : ∀ e ∈ EmatE, EntOK env e := (ent_out ent_nil)
def tmatE (F : FnT) (p0n : Nat) (p0c : List PV) : Option (Int) :=
 bindO (F 91 (RSh.tup [(Prod.mk false [(CK.int .i64)]), (Prod.mk false [(CK.int .i64)])]) [(PV.list p0n p0c)]) fun (y0 : ((Int) × (Int))) =>
 some y0.2
theorem tmatE_eq (F p0n p0c) : semF (callP F EmatE 20) s45 (loopT []) 400 a45 [PV.list p0n p0c] (fun rv => decR (RSh.one (CK.int .i64)) rv.pv) = tmatE F p0n p0c := by kernel_rfl
noncomputable abbrev FmatE (args : List PV) := Fn env 45 (RSh.one (CK.int .i64)) args
theorem FmatE_of  (p0n : Nat) (p0c : List PV) {res : (Int)} (h : tmatE (Fn env) p0n p0c = some res) : FmatE [PV.list p0n p0c] = some res :=
 fn_of EmatE_ok rfl rfl lo_nil ((tmatE_eq _ _ _).trans h)
end Gv

/- What the functions do, round by round: B5. -/
namespace Gv
open Go
set_option maxRecDepth 100000
def Esmall : List Entry := [.out 8 (RSh.one (CK.int .i64))]
theorem Esmall_ok : ∀ e ∈ Esmall, EntOK env e := (ent_out ent_nil)
def Tsmall_0a (n0 : Nat) (c1 : List PV) (i2 : Int) : Q := ⟨(tm 27 [(0, (AV.p (PV.list n0 c1))), (3, (AV.p (PV.int .i64 i2)))]), (mm 27 [])⟩
def Xsmall_0a (_y : Unit) : Ext × Q := (Ext.ret, ⟨(tm 27 [(2, (AV.p (PV.bool false)))]), (mm 27 [])⟩)
def Ismall_0a (_q : Ext × S) : Unit := ()
def Xsmall_0b (y : Nat × List PV) : Ext × Q := (Ext.normal, ⟨(tm 27 [(0, (AV.p (PV.list y.1 y.2)))]), (mm 27 [])⟩)
def Ismall_0b (q : Ext × S) : Nat × List PV := ((pP_list0 (pA_p (avT q.2 0))), (pP_list1 (pA_p (avT q.2 0))))
abbrev Ysmall_0 : Type := (Unit) ⊕ ((Nat × List PV))
def XLsmall_0 : XL Ysmall_0 := .more Xsmall_0a (.one Xsmall_0b)
def Ismall_0 (q : Ext × S) : Ysmall_0 := bif (cE q.1 == 2) then (Sum.inl (Ismall_0a q)) else (Sum.inr (Ismall_0b q))
theorem XIsmall_0a (y) : Ismall_0 (xe (Xsmall_0a y)) = (Sum.inl y) := by kernel_rfl
theorem XIsmall_0b (y) : Ismall_0 (xe (Xsmall_0b y)) = (Sum.inr y) := by kernel_rfl
theorem XIsmall_0 (y) : Ismall_0 (xe (XLsmall_0.fn y)) = y := (match y with | .inl y => XIsmall_0a y | .inr y => XIsmall_0b y)
noncomputable abbrev Lsmall_0 : Q → Option Ysmall_0 := lpO env a7.body 0 XLsmall_0
noncomputable abbrev Rsmall_0 : Q → Option (Ext × S) := lpR env a7.body 0
theorem Lsmall_0a_of {s y} (h : Rsmall_0 s = exO (Xsmall_0a y)) : Lsmall_0 s = some (Sum.inl y) := lpO_of Ismall_0 XIsmall_0 (y := (Sum.inl y)) h
theorem Lsmall_0b_of {s y} (h : Rsmall_0 s = exO (Xsmall_0b y)) : Lsmall_0 s = some (Sum.inr y) := lpO_of Ismall_0 XIsmall_0 (y := (Sum.inr y)) h
theorem Usmall : uniq ((blocksOf a7.body).map (·.1)) = true := by kernel_rfl
def Bsmall_0a (_F : FnT) (N : QO) (E : EO) (_L0 : QQ Ysmall_0) (n0 : Nat) (c1 : List PV) (i2 : Int) : OX :=
 bif (decide (i2 < (n0 : Int))) then
  bif (decide (((0 : Int) ≤ i2) ∧ (i2 < (n0 : Int)))) then
   bindO (listC (c1[((Int.toNat i2) * 1)]?)) fun x0 =>
   bif (decide ((x0.1 : Int) > (8 : Int))) then
    E (Xsmall_0a ())
   else N (Tsmall_0a n0 c1 (w64 (i2 + (1 : Int))))
  else none
 else E (Xsmall_0b (n0, c1))
theorem Bsmall_0a_eq (F N E L0 n0 c1 i2) : semB (callP F Esmall 20) s7 (loopT [⟨0, Ysmall_0, L0, XLsmall_0⟩]) 400 (blkIn a7.body 0) N E (Tsmall_0a n0 c1 i2) = Bsmall_0a F N E L0 n0 c1 i2 := by kernel_rfl
theorem Rsmall_0a_of (n0 c1 i2) {r} (h : Bsmall_0a (Fn env) Rsmall_0 exO Lsmall_0 n0 c1 i2 = some r) : Rsmall_0 (Tsmall_0a n0 c1 i2) = some r :=
 lp_of Esmall_ok (by kernel_rfl) (lo_cons (lpO_ok Usmall) lo_nil) (by kernel_rfl) ((Bsmall_0a_eq _ _ _ _ _ _ _).trans h)
def tsmall (F : FnT) (L0 : QQ Ysmall_0) (p0n : Nat) (p0c : List PV) : Option (Bool) :=
 bif (decide ((p0n : Int) > (8 : Int))) then
  some false
 else bindO (L0 (Tsmall_0a p0n p0c (0 : Int))) fun z =>
 Sum.elim (fun _y0 =>
  some false) (fun y1 =>
  bindO (F 8 (RSh.one (CK.int .i64)) [(PV.list y1.1 y1.2)]) fun (y2 : (Int)) =>
  bif (y2 != (0 : Int)) then
   some true
  else bif (decide ((y1.1 : Int) ≤ (5 : Int))) then
   some true
  else some false) z
theorem tsmall_eq (F L0 p0n p0c) : semF (callP F Esmall 20) s7 (loopT [⟨0, Ysmall_0, L0, XLsmall_0⟩]) 400 a7 [PV.list p0n p0c] (fun rv => decR (RSh.one CK.bool) rv.pv) = tsmall F L0 p0n p0c := by kernel_rfl
noncomputable abbrev Fsmall (args : List PV) := Fn env 7 (RSh.one CK.bool) args
theorem Fsmall_of  (p0n : Nat) (p0c : List PV) {res : (Bool)} (h : tsmall (Fn env) Lsmall_0 p0n p0c = some res) : Fsmall [PV.list p0n p0c] = some res :=
 fn_of Esmall_ok rfl rfl (lo_cons (lpO_ok Usmall) lo_nil) ((tsmall_eq _ _ _ _).trans h)
def ErMatE : List Entry := [.out 44 (RSh.tup [(Prod.mk false [(CK.int .i64)]), (Prod.mk false [(CK.int .i64)])])]
theorem ErMatE_ok : ∀ e ∈ ErMatE, EntOK env e := (ent_out ent_nil)
def trMatE (F : FnT) (p0n : Nat) (p0c : List PV) : Option (Int) :=
 bindO (F 44 (RSh.tup [(Prod.mk false [(CK.int .i64)]), (Prod.mk false [(CK.int .i64)])]) [(PV.list p0n p0c)]) fun (y0 : ((Int) × (Int))) =>
 some y0.2
theorem trMatE_eq (F p0n p0c) : semF (callP F ErMatE 20) s8 (loopT []) 400 a8 [PV.list p0n p0c] (fun rv => decR (RSh.one (CK.int .i64)) rv.pv) = trMatE F p0n p0c := by kernel_rfl
noncomputable abbrev FrMatE (args : List PV) := Fn env 8 (RSh.one (CK.int .i64)) args
theorem FrMatE_of  (p0n : Nat) (p0c : List PV) {res : (Int)} (h : trMatE (Fn env) p0n p0c = some res) : FrMatE [PV.list p0n p0c] = some res :=
 fn_of ErMatE_ok rfl rfl lo_nil ((trMatE_eq _ _ _).trans h)
def ErCMat : List Entry := [.out 90 (RSh.one CK.bool)]
theorem ErCMat_ok : ∀ e ∈ ErCMat, EntOK env e := (ent_out ent_nil)
def TrCMat_0a (n0 : Nat) (c1 : List PV) (i2 : Int) : Q := ⟨(tm 43 [(0, (AV.p (PV.list n0 c1))), (4, (AV.p (PV.int .i64 i2)))]), (mm 43 [])⟩
def XrCMat_0a (y : Int × Int) : Ext × Q := (Ext.ret, ⟨(tm 43 [(2, (AV.p (PV.int .i64 y.1))), (3, (AV.p (PV.int .i64 y.2)))]), (mm 43 [])⟩)
def IrCMat_0a (q : Ext × S) : Int × Int := ((pP_int1 (pA_p (avT q.2 2))), (pP_int1 (pA_p (avT q.2 3))))
def XrCMat_0b (_y : Unit) : Ext × Q := (Ext.normal, ⟨(tm 43 []), (mm 43 [])⟩)
def IrCMat_0b (_q : Ext × S) : Unit := ()
abbrev YrCMat_0 : Type := (Int × Int) ⊕ ((Unit))
def XLrCMat_0 : XL YrCMat_0 := .more XrCMat_0a (.one XrCMat_0b)
def IrCMat_0 (q : Ext × S) : YrCMat_0 := bif (cE q.1 == 2) then (Sum.inl (IrCMat_0a q)) else (Sum.inr (IrCMat_0b q))
theorem XIrCMat_0a (y) : IrCMat_0 (xe (XrCMat_0a y)) = (Sum.inl y) := by kernel_rfl
theorem XIrCMat_0b (y) : IrCMat_0 (xe (XrCMat_0b y)) = (Sum.inr y) := by kernel_rfl
theorem XIrCMat_0 (y) : IrCMat_0 (xe (XLrCMat_0.fn y)) = y := (match y with | .inl y => XIrCMat_0a y | .inr y => XIrCMat_0b y)
noncomputable abbrev LrCMat_0 : Q → Option YrCMat_0 := lpO env a44.body 0 XLrCMat_0
noncomputable abbrev RrCMat_0 : Q → Option (Ext × S) := lpR env a44.body 0
theorem LrCMat_0a_of {s y} (h : RrCMat_0 s = exO (XrCMat_0a y)) : LrCMat_0 s = some (Sum.inl y) := lpO_of IrCMat_0 XIrCMat_0 (y := (Sum.inl y)) h
theorem LrCMat_0b_of {s y} (h : RrCMat_0 s = exO (XrCMat_0b y)) : LrCMat_0 s = some (Sum.inr y) := lpO_of IrCMat_0 XIrCMat_0 (y := (Sum.inr y)) h
def TrCMat_2a (n0 : Nat) (c1 : List PV) (i2 i3 : Int) : Q := ⟨(tm 43 [(0, (AV.p (PV.list n0 c1))), (4, (AV.p (PV.int .i64 i2))), (5, (AV.p (PV.int .i64 i3)))]), (mm 43 [])⟩
def XrCMat_2a (y : Int) : Ext × Q := (Ext.ret, ⟨(tm 43 [(2, (AV.p (PV.int .i64 y))), (3, (AV.p (PV.int .i64 (2 : Int))))]), (mm 43 [])⟩)
def IrCMat_2a (q : Ext × S) : Int := (pP_int1 (pA_p (avT q.2 2)))
def XrCMat_2b (y : Nat × List PV × Int) : Ext × Q := (Ext.normal, ⟨(tm 43 [(0, (AV.p (PV.list y.1 y.2.1))), (4, (AV.p (PV.int .i64 y.2.2)))]), (mm 43 [])⟩)
def IrCMat_2b (q : Ext × S) : Nat × List PV × Int := ((pP_list0 (pA_p (avT q.2 0))), (pP_list1 (pA_p (avT q.2 0))), (pP_int1 (pA_p (avT q.2 4))))
abbrev YrCMat_2 : Type := (Int) ⊕ ((Nat × List PV × Int))
def XLrCMat_2 : XL YrCMat_2 := .more XrCMat_2a (.one XrCMat_2b)
def IrCMat_2 (q : Ext × S) : YrCMat_2 := bif (cE q.1 == 2) then (Sum.inl (IrCMat_2a q)) else (Sum.inr (IrCMat_2b q))
theorem XIrCMat_2a (y) : IrCMat_2 (xe (XrCMat_2a y)) = (Sum.inl y) := by kernel_rfl
theorem XIrCMat_2b (y) : IrCMat_2 (xe (XrCMat_2b y)) = (Sum.inr y) := by kernel_rfl
theorem XIrCMat_2 (y) : IrCMat_2 (xe (XLrCMat_2.fn y)) = y := (match y with | .inl y => XIrCMat_2a y | .inr y => XIrCMat_2b y)
noncomputable abbrev LrCMat_2 : Q → Option YrCMat_2 := lpO env a44.body 2 XLrCMat_2
noncomputable abbrev RrCMat_2 : Q → Option (Ext × S) := lpR env a44.body 2
theorem LrCMat_2a_of {s y} (h : RrCMat_2 s = exO (XrCMat_2a y)) : LrCMat_2 s = some (Sum.inl y) := lpO_of IrCMat_2 XIrCMat_2 (y := (Sum.inl y)) h
theorem LrCMat_2b_of {s y} (h : RrCMat_2 s = exO (XrCMat_2b y)) : LrCMat_2 s = some (Sum.inr y) := lpO_of IrCMat_2 XIrCMat_2 (y := (Sum.inr y)) h
theorem UrCMat : uniq ((blocksOf a44.body).map (·.1)) = true := by kernel_rfl
def BrCMat_0a (_F : FnT) (N : QO) (E : EO) (_L0 : QQ YrCMat_0) (L2 : QQ YrCMat_2) (n0 : Nat) (c1 : List PV) (i2 : Int) : OX :=
 bif (decide (i2 < (n0 : Int))) then
  bif (decide (((0 : Int) ≤ i2) ∧ (i2 < (n0 : Int)))) then
   bindO (listC (c1[((Int.toNat i2) * 1)]?)) fun x0 =>
   bif ((x0.1 : Int) != (n0 : Int)) then
    E (XrCMat_0a (i2, (10 : Int)))
   else bindO (L2 (TrCMat_2a n0 c1 i2 (0 : Int))) fun z =>
   Sum.elim (fun y1 =>
    E (XrCMat_0a (y1, (2 : Int)))) (fun y2 =>
    N (TrCMat_0a y2.1 y2.2.1 (w64 (y2.2.2 + (1 : Int))))) z
  else none
 else E (XrCMat_0b ())
abbrev qK14_1 (L0 : QQ YrCMat_0) (L2 : QQ YrCMat_2) : List LoopO := [⟨0, YrCMat_0, L0, XLrCMat_0⟩, ⟨2, YrCMat_2, L2, XLrCMat_2⟩]
theorem BrCMat_0a_eq (F N E L0 L2 n0 c1 i2) : semB (callP F ErCMat 20) s44 (loopT (qK14_1 L0 L2)) 400 (blkIn a44.body 0) N E (TrCMat_0a n0 c1 i2) = BrCMat_0a F N E L0 L2 n0 c1 i2 := by kernel_rfl
theorem oqK14_1 : ∀ o ∈ qK14_1 LrCMat_0 LrCMat_2, LoopOOK env a44.body o := lo_cons (lpO_ok UrCMat) (lo_cons (lpO_ok UrCMat) lo_nil)
theorem RrCMat_0a_of (n0 c1 i2) {r} (h : BrCMat_0a (Fn env) RrCMat_0 exO LrCMat_0 LrCMat_2 n0 c1 i2 = some r) : RrCMat_0 (TrCMat_0a n0 c1 i2) = some r :=
 lp_of ErCMat_ok (by kernel_rfl) oqK14_1 (by kernel_rfl) ((BrCMat_0a_eq _ _ _ _ _ _ _ _).trans h)
def BrCMat_2a (F : FnT) (N : QO) (E : EO) (_L0 : QQ YrCMat_0) (_L2 : QQ YrCMat_2) (n0 : Nat) (c1 : List PV) (i2 i3 : Int) : OX :=
 bif (decide (i3 < (n0 : Int))) then
  bif (decide (((0 : Int) ≤ i2) ∧ (i2 < (n0 : Int)))) then
   bindO (listC (c1[((Int.toNat i2) * 1)]?)) fun x0 =>
   bif (decide (((0 : Int) ≤ i3) ∧ (i3 < (x0.1 : Int)))) then
    bindO (intC .i64 (x0.2[((Int.toNat i3) * 1)]?)) fun x1 =>
    bindO (F 90 (RSh.one CK.bool) [(PV.int .i64 x1), (PV.int .i64 (0 : Int)), (PV.int .i64 (10000000 : Int))]) fun (y2 : (Bool)) =>
    bif y2 then
     N (TrCMat_2a n0 c1 i2 (w64 (i3 + (1 : Int))))
    else E (XrCMat_2a i2)
   else none
  else none
 else E (XrCMat_2b (n0, c1, i2))
theorem BrCMat_2a_eq (F N E L0 L2 n0 c1 i2 i3) : semB (callP F ErCMat 20) s44 (loopT (qK14_1 L0 L2)) 400 (blkIn a44.body 2) N E (TrCMat_2a n0 c1 i2 i3) = BrCMat_2a F N E L0 L2 n0 c1 i2 i3 := by kernel_rfl
theorem RrCMat_2a_of (n0 c1 i2 i3) {r} (h : BrCMat_2a (Fn env) RrCMat_2 exO LrCMat_0 LrCMat_2 n0 c1 i2 i3 = some r) : RrCMat_2 (TrCMat_2a n0 c1 i2 i3) = some r :=
 lp_of ErCMat_ok (by kernel_rfl) oqK14_1 (by kernel_rfl) ((BrCMat_2a_eq _ _ _ _ _ _ _ _ _).trans h)
def trCMat (_F : FnT) (L0 : QQ YrCMat_0) (_L2 : QQ YrCMat_2) (p0n : Nat) (p0c : List PV) : Option ((Int) × (Int)) :=
 bif ((p0n : Int) == (0 : Int)) then
  some ((0 : Int), (10 : Int))
 else bif (decide ((p0n : Int) > (6 : Int))) then
  some ((0 : Int), (8 : Int))
 else bindO (L0 (TrCMat_0a p0n p0c (0 : Int))) fun z =>
 Sum.elim (fun y0 =>
  some (y0.1, y0.2)) (fun _y1 =>
  some ((0 : Int), (0 : Int))) z
theorem trCMat_eq (F L0 L2 p0n p0c) : semF (callP F ErCMat 20) s44 (loopT (qK14_1 L0 L2)) 400 a44 [PV.list p0n p0c] (fun rv => decR (RSh.tup [(Prod.mk false [(CK.int .i64)]), (Prod.mk false [(CK.int .i64)])]) rv.pv) = trCMat F L0 L2 p0n p0c := by kernel_rfl
noncomputable abbrev FrCMat (args : List PV) := Fn env 44 (RSh.tup [(Prod.mk false [(CK.int .i64)]), (Prod.mk false [(CK.int .i64)])]) args
theorem FrCMat_of  (p0n : Nat) (p0c : List PV) {res : ((Int) × (Int))} (h : trCMat (Fn env) LrCMat_0 LrCMat_2 p0n p0c = some res) : FrCMat [PV.list p0n p0c] = some res :=
 fn_of ErCMat_ok rfl rfl oqK14_1 ((trCMat_eq _ _ _ _ _).trans h)
def ErCopM : List Entry := [.out 48 (RSh.one CK.list)]
theorem ErCopM_ok : ∀ e ∈ ErCopM, EntOK env e := (ent_out ent_nil)
def TrCopM_0a (n0 : Nat) (c1 : List PV) : Q := ⟨(tm 20 [(0, (AV.p (PV.list n0 c1))), (3, AV.nilS), (4, (AV.p (PV.int .i64 (0 : Int))))]), (mm 20 [])⟩
def TrCopM_0b (n0 : Nat) (c1 : List PV) (n2 : Nat) (c3 : List PV) (i4 : Int) (n5 : Nat) : Q := ⟨(tm 20 [(0, (AV.p (PV.list n0 c1))), (3, (AV.app 18 n2 1 c3)), (4, (AV.p (PV.int .i64 i4)))]), (mm 20 [(18, (Bk.buf n5))])⟩
def XrCopM_0a (_y : Unit) : Ext × Q := (Ext.normal, ⟨(tm 20 [(3, AV.nilS)]), (mm 20 [])⟩)
def IrCopM_0a (_q : Ext × S) : Unit := ()
def XrCopM_0b (y : Nat × List PV × Nat) : Ext × Q := (Ext.normal, ⟨(tm 20 [(3, (AV.app 18 y.1 1 y.2.1))]), (mm 20 [(18, (Bk.buf y.2.2))])⟩)
def IrCopM_0b (q : Ext × S) : Nat × List PV × Nat := ((pA_app1 (avT q.2 3)), (pA_app3 (avT q.2 3)), (pB_buf0 (avM q.2 18)))
abbrev YrCopM_0 : Type := (Unit) ⊕ ((Nat × List PV × Nat))
def XLrCopM_0 : XL YrCopM_0 := .more XrCopM_0a (.one XrCopM_0b)
def IrCopM_0 (q : Ext × S) : YrCopM_0 := bif (cA (avT q.2 3) == 1) then (Sum.inl (IrCopM_0a q)) else (Sum.inr (IrCopM_0b q))
theorem XIrCopM_0a (y) : IrCopM_0 (xe (XrCopM_0a y)) = (Sum.inl y) := by kernel_rfl
theorem XIrCopM_0b (y) : IrCopM_0 (xe (XrCopM_0b y)) = (Sum.inr y) := by kernel_rfl
theorem XIrCopM_0 (y) : IrCopM_0 (xe (XLrCopM_0.fn y)) = y := (match y with | .inl y => XIrCopM_0a y | .inr y => XIrCopM_0b y)
noncomputable abbrev LrCopM_0 : Q → Option YrCopM_0 := lpO env a10.body 0 XLrCopM_0
noncomputable abbrev RrCopM_0 : Q → Option (Ext × S) := lpR env a10.body 0
theorem LrCopM_0a_of {s y} (h : RrCopM_0 s = exO (XrCopM_0a y)) : LrCopM_0 s = some (Sum.inl y) := lpO_of IrCopM_0 XIrCopM_0 (y := (Sum.inl y)) h
theorem LrCopM_0b_of {s y} (h : RrCopM_0 s = exO (XrCopM_0b y)) : LrCopM_0 s = some (Sum.inr y) := lpO_of IrCopM_0 XIrCopM_0 (y := (Sum.inr y)) h
theorem UrCopM : uniq ((blocksOf a10.body).map (·.1)) = true := by kernel_rfl
def BrCopM_0a (F : FnT) (N : QO) (E : EO) (_L0 : QQ YrCopM_0) (n0 : Nat) (c1 : List PV) : OX :=
 bif (decide ((0 : Int) < (n0 : Int))) then
  bif (decide (((0 : Int) ≤ (0 : Int)) ∧ ((0 : Int) < (n0 : Int)))) then
   bindO (listC (c1[0]?)) fun x0 =>
   bindO (F 48 (RSh.one CK.list) [(PV.list x0.1 x0.2)]) fun (y1 : ((Nat) × (List PV))) =>
   N (TrCopM_0b n0 c1 1 [(PV.list y1.1 y1.2)] (1 : Int) 1)
  else none
 else E (XrCopM_0a ())
theorem BrCopM_0a_eq (F N E L0 n0 c1) : semB (callP F ErCopM 20) s10 (loopT [⟨0, YrCopM_0, L0, XLrCopM_0⟩]) 400 (blkIn a10.body 0) N E (TrCopM_0a n0 c1) = BrCopM_0a F N E L0 n0 c1 := by kernel_rfl
theorem RrCopM_0a_of (n0 c1) {r} (h : BrCopM_0a (Fn env) RrCopM_0 exO LrCopM_0 n0 c1 = some r) : RrCopM_0 (TrCopM_0a n0 c1) = some r :=
 lp_of ErCopM_ok (by kernel_rfl) (lo_cons (lpO_ok UrCopM) lo_nil) (by kernel_rfl) ((BrCopM_0a_eq _ _ _ _ _ _).trans h)
def BrCopM_0b (F : FnT) (N : QO) (E : EO) (_L0 : QQ YrCopM_0) (n0 : Nat) (c1 : List PV) (n2 : Nat) (c3 : List PV) (i4 : Int) (n5 : Nat) : OX :=
 bif (decide (i4 < (n0 : Int))) then
  bif (decide (((0 : Int) ≤ i4) ∧ (i4 < (n0 : Int)))) then
   bindO (listC (c1[((Int.toNat i4) * 1)]?)) fun x0 =>
   bindO (F 48 (RSh.one CK.list) [(PV.list x0.1 x0.2)]) fun (y1 : ((Nat) × (List PV))) =>
   bif (decide ((n5 = n2) ∧ ((n2 + 1) ≤ big))) then
    N (TrCopM_0b n0 c1 (n2 + 1) (c3 ++ [(PV.list y1.1 y1.2)]) (w64 (i4 + (1 : Int))) (n2 + 1))
   else none
  else none
 else E (XrCopM_0b (n2, c3, n5))
theorem BrCopM_0b_eq (F N E L0 n0 c1 n2 c3 i4 n5) : semB (callP F ErCopM 20) s10 (loopT [⟨0, YrCopM_0, L0, XLrCopM_0⟩]) 400 (blkIn a10.body 0) N E (TrCopM_0b n0 c1 n2 c3 i4 n5) = BrCopM_0b F N E L0 n0 c1 n2 c3 i4 n5 := by kernel_rfl
theorem RrCopM_0b_of (n0 c1 n2 c3 i4 n5) {r} (h : BrCopM_0b (Fn env) RrCopM_0 exO LrCopM_0 n0 c1 n2 c3 i4 n5 = some r) : RrCopM_0 (TrCopM_0b n0 c1 n2 c3 i4 n5) = some r :=
 lp_of ErCopM_ok (by kernel_rfl) (lo_cons (lpO_ok UrCopM) lo_nil) (by kernel_rfl) ((BrCopM_0b_eq _ _ _ _ _ _ _ _ _ _).trans h)
def trCopM (_F : FnT) (L0 : QQ YrCopM_0) (p0n : Nat) (p0c : List PV) : Option ((Nat) × (List PV)) :=
 bindO (L0 (TrCopM_0a p0n p0c)) fun z =>
 Sum.elim (fun _y0 =>
  some (0, [])) (fun y1 =>
  bif (decide (y1.2.2 = y1.1)) then
   some (y1.1, y1.2.1)
  else none) z
theorem trCopM_eq (F L0 p0n p0c) : semF (callP F ErCopM 20) s10 (loopT [⟨0, YrCopM_0, L0, XLrCopM_0⟩]) 400 a10 [PV.list p0n p0c] (fun rv => decR (RSh.one CK.list) rv.pv) = trCopM F L0 p0n p0c := by kernel_rfl
noncomputable abbrev FrCopM (args : List PV) := Fn env 10 (RSh.one CK.list) args
theorem FrCopM_of  (p0n : Nat) (p0c : List PV) {res : ((Nat) × (List PV))} (h : trCopM (Fn env) LrCopM_0 p0n p0c = some res) : FrCopM [PV.list p0n p0c] = some res :=
 fn_of ErCopM_ok rfl rfl (lo_cons (lpO_ok UrCopM) lo_nil) ((trCopM_eq _ _ _ _).trans h)
def EbCopI : List Entry := []
theorem EbCopI_ok : ∀ e ∈ EbCopI, EntOK env e := ent_nil
def tbCopI (_F : FnT) (p0n : Nat) (p0c : List PV) : Option ((Nat) × (List PV)) :=
 bif (decide (p0n = 0)) then
  some (0, [])
 else bif (decide ((List.length p0c) = (p0n * 1))) then
  bif (decide ((0 = 0) ∧ ((0 + p0n) ≤ big))) then
   bif (decide ((0 + p0n) = (0 + p0n))) then
    some ((0 + p0n), ([] ++ p0c))
   else none
  else none
 else none
theorem tbCopI_eq (F p0n p0c) : semF (callP F EbCopI 20) s48 (loopT []) 400 a48 [PV.list p0n p0c] (fun rv => decR (RSh.one CK.list) rv.pv) = tbCopI F p0n p0c := by kernel_rfl
noncomputable abbrev FbCopI (args : List PV) := Fn env 48 (RSh.one CK.list) args
theorem FbCopI_of  (p0n : Nat) (p0c : List PV) {res : ((Nat) × (List PV))} (h : tbCopI (Fn env) p0n p0c = some res) : FbCopI [PV.list p0n p0c] = some res :=
 fn_of EbCopI_ok rfl rfl lo_nil ((tbCopI_eq _ _ _).trans h)
def EbInts : List Entry := []
theorem EbInts_ok : ∀ e ∈ EbInts, EntOK env e := ent_nil
def TbInts_0a (n0 : Nat) (c1 : List PV) (n2 : Nat) (c3 : List PV) (i4 : Int) : Q := ⟨(tm 26 [(0, (AV.p (PV.list n0 c1))), (1, (AV.p (PV.list n2 c3))), (5, (AV.p (PV.int .i64 i4)))]), (mm 26 [])⟩
def XbInts_0a (_y : Unit) : Ext × Q := (Ext.ret, ⟨(tm 26 [(4, (AV.p (PV.bool false)))]), (mm 26 [])⟩)
def IbInts_0a (_q : Ext × S) : Unit := ()
def XbInts_0b (_y : Unit) : Ext × Q := (Ext.normal, ⟨(tm 26 []), (mm 26 [])⟩)
def IbInts_0b (_q : Ext × S) : Unit := ()
abbrev YbInts_0 : Type := (Unit) ⊕ ((Unit))
def XLbInts_0 : XL YbInts_0 := .more XbInts_0a (.one XbInts_0b)
def IbInts_0 (q : Ext × S) : YbInts_0 := bif (cE q.1 == 2) then (Sum.inl (IbInts_0a q)) else (Sum.inr (IbInts_0b q))
theorem XIbInts_0a (y) : IbInts_0 (xe (XbInts_0a y)) = (Sum.inl y) := by kernel_rfl
theorem XIbInts_0b (y) : IbInts_0 (xe (XbInts_0b y)) = (Sum.inr y) := by kernel_rfl
theorem XIbInts_0 (y) : IbInts_0 (xe (XLbInts_0.fn y)) = y := (match y with | .inl y => XIbInts_0a y | .inr y => XIbInts_0b y)
noncomputable abbrev LbInts_0 : Q → Option YbInts_0 := lpO env a15.body 0 XLbInts_0
noncomputable abbrev RbInts_0 : Q → Option (Ext × S) := lpR env a15.body 0
theorem LbInts_0b_of {s y} (h : RbInts_0 s = exO (XbInts_0b y)) : LbInts_0 s = some (Sum.inr y) := lpO_of IbInts_0 XIbInts_0 (y := (Sum.inr y)) h
theorem UbInts : uniq ((blocksOf a15.body).map (·.1)) = true := by kernel_rfl
def BbInts_0a (_F : FnT) (N : QO) (E : EO) (_L0 : QQ YbInts_0) (n0 : Nat) (c1 : List PV) (n2 : Nat) (c3 : List PV) (i4 : Int) : OX :=
 bif (decide (i4 < (n0 : Int))) then
  bif (decide (((0 : Int) ≤ i4) ∧ (i4 < (n0 : Int)))) then
   bindO (intC .i64 (c1[((Int.toNat i4) * 1)]?)) fun x0 =>
   bif (decide (((0 : Int) ≤ i4) ∧ (i4 < (n2 : Int)))) then
    bindO (intC .i64 (c3[((Int.toNat i4) * 1)]?)) fun x1 =>
    bif (x0 != x1) then
     E (XbInts_0a ())
    else N (TbInts_0a n0 c1 n2 c3 (w64 (i4 + (1 : Int))))
   else none
  else none
 else E (XbInts_0b ())
theorem BbInts_0a_eq (F N E L0 n0 c1 n2 c3 i4) : semB (callP F EbInts 20) s15 (loopT [⟨0, YbInts_0, L0, XLbInts_0⟩]) 400 (blkIn a15.body 0) N E (TbInts_0a n0 c1 n2 c3 i4) = BbInts_0a F N E L0 n0 c1 n2 c3 i4 := by kernel_rfl
theorem RbInts_0a_of (n0 c1 n2 c3 i4) {r} (h : BbInts_0a (Fn env) RbInts_0 exO LbInts_0 n0 c1 n2 c3 i4 = some r) : RbInts_0 (TbInts_0a n0 c1 n2 c3 i4) = some r :=
 lp_of EbInts_ok (by kernel_rfl) (lo_cons (lpO_ok UbInts) lo_nil) (by kernel_rfl) ((BbInts_0a_eq _ _ _ _ _ _ _ _ _).trans h)
def tbInts (_F : FnT) (L0 : QQ YbInts_0) (p0n : Nat) (p0c : List PV) (p1n : Nat) (p1c : List PV) : Option (Bool) :=
 bif ((p0n : Int) != (p1n : Int)) then
  some false
 else bindO (L0 (TbInts_0a p0n p0c p1n p1c (0 : Int))) fun z =>
 Sum.elim (fun _y0 =>
  some false) (fun _y1 =>
  some true) z
theorem tbInts_eq (F L0 p0n p0c p1n p1c) : semF (callP F EbInts 20) s15 (loopT [⟨0, YbInts_0, L0, XLbInts_0⟩]) 400 a15 [PV.list p0n p0c, PV.list p1n p1c] (fun rv => decR (RSh.one CK.bool) rv.pv) = tbInts F L0 p0n p0c p1n p1c := by kernel_rfl
noncomputable abbrev FbInts (args : List PV) := Fn env 15 (RSh.one CK.bool) args
theorem FbInts_of  (p0n : Nat) (p0c : List PV) (p1n : Nat) (p1c : List PV) {res : (Bool)} (h : tbInts (Fn env) LbInts_0 p0n p0c p1n p1c = some res) : FbInts [PV.list p0n p0c, PV.list p1n p1c] = some res :=
 fn_of EbInts_ok rfl rfl (lo_cons (lpO_ok UbInts) lo_nil) ((tbInts_eq _ _ _ _ _ _).trans h)
def EbHas : List Entry := []
theorem EbHas_ok : ∀ e ∈ EbHas, EntOK env e := ent_nil
def TbHas_0a (n0 : Nat) (c1 : List PV) (i2 i3 : Int) : Q := ⟨(tm 18 [(0, (AV.p (PV.list n0 c1))), (1, (AV.p (PV.int .i64 i2))), (5, (AV.p (PV.int .i64 i3)))]), (mm 18 [])⟩
def XbHas_0a (_y : Unit) : Ext × Q := (Ext.ret, ⟨(tm 18 [(4, (AV.p (PV.bool true)))]), (mm 18 [])⟩)
def IbHas_0a (_q : Ext × S) : Unit := ()
def XbHas_0b (_y : Unit) : Ext × Q := (Ext.normal, ⟨(tm 18 []), (mm 18 [])⟩)
def IbHas_0b (_q : Ext × S) : Unit := ()
abbrev YbHas_0 : Type := (Unit) ⊕ ((Unit))
def XLbHas_0 : XL YbHas_0 := .more XbHas_0a (.one XbHas_0b)
def IbHas_0 (q : Ext × S) : YbHas_0 := bif (cE q.1 == 2) then (Sum.inl (IbHas_0a q)) else (Sum.inr (IbHas_0b q))
theorem XIbHas_0a (y) : IbHas_0 (xe (XbHas_0a y)) = (Sum.inl y) := by kernel_rfl
theorem XIbHas_0b (y) : IbHas_0 (xe (XbHas_0b y)) = (Sum.inr y) := by kernel_rfl
theorem XIbHas_0 (y) : IbHas_0 (xe (XLbHas_0.fn y)) = y := (match y with | .inl y => XIbHas_0a y | .inr y => XIbHas_0b y)
noncomputable abbrev LbHas_0 : Q → Option YbHas_0 := lpO env a19.body 0 XLbHas_0
noncomputable abbrev RbHas_0 : Q → Option (Ext × S) := lpR env a19.body 0
theorem LbHas_0a_of {s y} (h : RbHas_0 s = exO (XbHas_0a y)) : LbHas_0 s = some (Sum.inl y) := lpO_of IbHas_0 XIbHas_0 (y := (Sum.inl y)) h
theorem LbHas_0b_of {s y} (h : RbHas_0 s = exO (XbHas_0b y)) : LbHas_0 s = some (Sum.inr y) := lpO_of IbHas_0 XIbHas_0 (y := (Sum.inr y)) h
theorem UbHas : uniq ((blocksOf a19.body).map (·.1)) = true := by kernel_rfl
def BbHas_0a (_F : FnT) (N : QO) (E : EO) (_L0 : QQ YbHas_0) (n0 : Nat) (c1 : List PV) (i2 i3 : Int) : OX :=
 bif (decide (i3 < (n0 : Int))) then
  bif (decide (((0 : Int) ≤ i3) ∧ (i3 < (n0 : Int)))) then
   bindO (intC .i64 (c1[((Int.toNat i3) * 1)]?)) fun x0 =>
   bif (x0 == i2) then
    E (XbHas_0a ())
   else N (TbHas_0a n0 c1 i2 (w64 (i3 + (1 : Int))))
  else none
 else E (XbHas_0b ())
theorem BbHas_0a_eq (F N E L0 n0 c1 i2 i3) : semB (callP F EbHas 20) s19 (loopT [⟨0, YbHas_0, L0, XLbHas_0⟩]) 400 (blkIn a19.body 0) N E (TbHas_0a n0 c1 i2 i3) = BbHas_0a F N E L0 n0 c1 i2 i3 := by kernel_rfl
theorem RbHas_0a_of (n0 c1 i2 i3) {r} (h : BbHas_0a (Fn env) RbHas_0 exO LbHas_0 n0 c1 i2 i3 = some r) : RbHas_0 (TbHas_0a n0 c1 i2 i3) = some r :=
 lp_of EbHas_ok (by kernel_rfl) (lo_cons (lpO_ok UbHas) lo_nil) (by kernel_rfl) ((BbHas_0a_eq _ _ _ _ _ _ _ _).trans h)
def tbHas (_F : FnT) (L0 : QQ YbHas_0) (p0n : Nat) (p0c : List PV) (p1 : Int) : Option (Bool) :=
 bindO (L0 (TbHas_0a p0n p0c p1 (0 : Int))) fun z =>
 Sum.elim (fun _y0 =>
  some true) (fun _y1 =>
  some false) z
theorem tbHas_eq (F L0 p0n p0c p1) : semF (callP F EbHas 20) s19 (loopT [⟨0, YbHas_0, L0, XLbHas_0⟩]) 400 a19 [PV.list p0n p0c, PV.int .i64 p1] (fun rv => decR (RSh.one CK.bool) rv.pv) = tbHas F L0 p0n p0c p1 := by kernel_rfl
noncomputable abbrev FbHas (args : List PV) := Fn env 19 (RSh.one CK.bool) args
theorem FbHas_of  (p0n : Nat) (p0c : List PV) (p1 : Int) {res : (Bool)} (h : tbHas (Fn env) LbHas_0 p0n p0c p1 = some res) : FbHas [PV.list p0n p0c, PV.int .i64 p1] = some res :=
 fn_of EbHas_ok rfl rfl (lo_cons (lpO_ok UbHas) lo_nil) ((tbHas_eq _ _ _ _ _).trans h)
def ErCost : List Entry := []
theorem ErCost_ok : ∀ e ∈ ErCost, EntOK env e := ent_nil
def TrCost_0a (n0 : Nat) (c1 : List PV) (n2 : Nat) (c3 : List PV) (i4 i5 : Int) : Q := ⟨(tm 26 [(0, (AV.p (PV.list n0 c1))), (1, (AV.p (PV.list n2 c3))), (5, (AV.p (PV.int .i64 i4))), (6, (AV.p (PV.int .i64 i5)))]), (mm 26 [])⟩
def XrCost_0a (y : Int) : Ext × Q := (Ext.normal, ⟨(tm 26 [(5, (AV.p (PV.int .i64 y)))]), (mm 26 [])⟩)
def IrCost_0a (q : Ext × S) : Int := (pP_int1 (pA_p (avT q.2 5)))
abbrev YrCost_0 : Type := Int
def XLrCost_0 : XL YrCost_0 := .one XrCost_0a
def IrCost_0 (q : Ext × S) : YrCost_0 := (IrCost_0a q)
theorem XIrCost_0a (y) : IrCost_0 (xe (XrCost_0a y)) = y := by kernel_rfl
theorem XIrCost_0 (y) : IrCost_0 (xe (XLrCost_0.fn y)) = y := XIrCost_0a y
noncomputable abbrev LrCost_0 : Q → Option YrCost_0 := lpO env a18.body 0 XLrCost_0
noncomputable abbrev RrCost_0 : Q → Option (Ext × S) := lpR env a18.body 0
theorem LrCost_0a_of {s y} (h : RrCost_0 s = exO (XrCost_0a y)) : LrCost_0 s = some y := lpO_of IrCost_0 XIrCost_0 (y := y) h
theorem UrCost : uniq ((blocksOf a18.body).map (·.1)) = true := by kernel_rfl
def BrCost_0a (_F : FnT) (N : QO) (E : EO) (_L0 : QQ YrCost_0) (n0 : Nat) (c1 : List PV) (n2 : Nat) (c3 : List PV) (i4 i5 : Int) : OX :=
 bif (decide (i5 < (n2 : Int))) then
  bif (decide (((0 : Int) ≤ i5) ∧ (i5 < (n0 : Int)))) then
   bindO (listC (c1[((Int.toNat i5) * 1)]?)) fun x0 =>
   bif (decide (((0 : Int) ≤ i5) ∧ (i5 < (n2 : Int)))) then
    bindO (intC .i64 (c3[((Int.toNat i5) * 1)]?)) fun x1 =>
    bif (decide (((0 : Int) ≤ x1) ∧ (x1 < (x0.1 : Int)))) then
     bindO (intC .i64 (x0.2[((Int.toNat x1) * 1)]?)) fun x2 =>
     N (TrCost_0a n0 c1 n2 c3 (w64 (i4 + x2)) (w64 (i5 + (1 : Int))))
    else none
   else none
  else none
 else E (XrCost_0a i4)
theorem BrCost_0a_eq (F N E L0 n0 c1 n2 c3 i4 i5) : semB (callP F ErCost 20) s18 (loopT [⟨0, YrCost_0, L0, XLrCost_0⟩]) 400 (blkIn a18.body 0) N E (TrCost_0a n0 c1 n2 c3 i4 i5) = BrCost_0a F N E L0 n0 c1 n2 c3 i4 i5 := by kernel_rfl
theorem RrCost_0a_of (n0 c1 n2 c3 i4 i5) {r} (h : BrCost_0a (Fn env) RrCost_0 exO LrCost_0 n0 c1 n2 c3 i4 i5 = some r) : RrCost_0 (TrCost_0a n0 c1 n2 c3 i4 i5) = some r :=
 lp_of ErCost_ok (by kernel_rfl) (lo_cons (lpO_ok UrCost) lo_nil) (by kernel_rfl) ((BrCost_0a_eq _ _ _ _ _ _ _ _ _ _).trans h)
def trCost (_F : FnT) (L0 : QQ YrCost_0) (p0n : Nat) (p0c : List PV) (p1n : Nat) (p1c : List PV) : Option (Int) :=
 bindO (L0 (TrCost_0a p0n p0c p1n p1c (0 : Int) (0 : Int))) fun y0 =>
 some y0
theorem trCost_eq (F L0 p0n p0c p1n p1c) : semF (callP F ErCost 20) s18 (loopT [⟨0, YrCost_0, L0, XLrCost_0⟩]) 400 a18 [PV.list p0n p0c, PV.list p1n p1c] (fun rv => decR (RSh.one (CK.int .i64)) rv.pv) = trCost F L0 p0n p0c p1n p1c := by kernel_rfl
noncomputable abbrev FrCost (args : List PV) := Fn env 18 (RSh.one (CK.int .i64)) args
theorem FrCost_of  (p0n : Nat) (p0c : List PV) (p1n : Nat) (p1c : List PV) {res : (Int)} (h : trCost (Fn env) LrCost_0 p0n p0c p1n p1c = some res) : FrCost [PV.list p0n p0c, PV.list p1n p1c] = some res :=
 fn_of ErCost_ok rfl rfl (lo_cons (lpO_ok UrCost) lo_nil) ((trCost_eq _ _ _ _ _ _).trans h)
def EwCost : List Entry := []
theorem EwCost_ok : ∀ e ∈ EwCost, EntOK env e := ent_nil
def TwCost_0a (n0 : Nat) (c1 : List PV) (i2 : Int) (n3 : Nat) (c4 : List PV) (i5 i6 : Int) : Q := ⟨(tm 26 [(0, (AV.p (PV.list n0 c1))), (5, (AV.p (PV.int .i64 i2))), (8, (AV.p (PV.list n3 c4))), (9, (AV.p (PV.int .i64 i5))), (10, (AV.p (PV.int .i64 i6)))]), (mm 26 [])⟩
def XwCost_0a (y : Int) : Ext × Q := (Ext.normal, ⟨(tm 26 [(5, (AV.p (PV.int .i64 y)))]), (mm 26 [])⟩)
def IwCost_0a (q : Ext × S) : Int := (pP_int1 (pA_p (avT q.2 5)))
abbrev YwCost_0 : Type := Int
def XLwCost_0 : XL YwCost_0 := .one XwCost_0a
def IwCost_0 (q : Ext × S) : YwCost_0 := (IwCost_0a q)
theorem XIwCost_0a (y) : IwCost_0 (xe (XwCost_0a y)) = y := by kernel_rfl
theorem XIwCost_0 (y) : IwCost_0 (xe (XLwCost_0.fn y)) = y := XIwCost_0a y
noncomputable abbrev LwCost_0 : Q → Option YwCost_0 := lpO env a49.body 0 XLwCost_0
noncomputable abbrev RwCost_0 : Q → Option (Ext × S) := lpR env a49.body 0
theorem LwCost_0a_of {s y} (h : RwCost_0 s = exO (XwCost_0a y)) : LwCost_0 s = some y := lpO_of IwCost_0 XIwCost_0 (y := y) h
theorem UwCost : uniq ((blocksOf a49.body).map (·.1)) = true := by kernel_rfl
def BwCost_0a (_F : FnT) (N : QO) (E : EO) (_L0 : QQ YwCost_0) (n0 : Nat) (c1 : List PV) (i2 : Int) (n3 : Nat) (c4 : List PV) (i5 i6 : Int) : OX :=
 bif (decide (i6 < i5)) then
  bif (decide (((0 : Int) ≤ i6) ∧ (i6 < (n3 : Int)))) then
   bindO (intC .i64 (c4[((Int.toNat i6) * 1)]?)) fun x0 =>
   bif (decide (((0 : Int) ≤ i6) ∧ (i6 < (n0 : Int)))) then
    bindO (listC (c1[((Int.toNat i6) * 1)]?)) fun x1 =>
    bif (decide (((0 : Int) ≤ x0) ∧ (x0 < (x1.1 : Int)))) then
     bindO (intC .i64 (x1.2[((Int.toNat x0) * 1)]?)) fun x2 =>
     N (TwCost_0a n0 c1 (w64 (i2 + x2)) n3 c4 i5 (w64 (i6 + (1 : Int))))
    else none
   else none
  else none
 else E (XwCost_0a i2)
theorem BwCost_0a_eq (F N E L0 n0 c1 i2 n3 c4 i5 i6) : semB (callP F EwCost 20) s49 (loopT [⟨0, YwCost_0, L0, XLwCost_0⟩]) 400 (blkIn a49.body 0) N E (TwCost_0a n0 c1 i2 n3 c4 i5 i6) = BwCost_0a F N E L0 n0 c1 i2 n3 c4 i5 i6 := by kernel_rfl
theorem RwCost_0a_of (n0 c1 i2 n3 c4 i5 i6) {r} (h : BwCost_0a (Fn env) RwCost_0 exO LwCost_0 n0 c1 i2 n3 c4 i5 i6 = some r) : RwCost_0 (TwCost_0a n0 c1 i2 n3 c4 i5 i6) = some r :=
 lp_of EwCost_ok (by kernel_rfl) (lo_cons (lpO_ok UwCost) lo_nil) (by kernel_rfl) ((BwCost_0a_eq _ _ _ _ _ _ _ _ _ _ _).trans h)
def twCost (_F : FnT) (L0 : QQ YwCost_0) (p0n : Nat) (p0c : List PV) (p1n : Nat) (p1c : List PV) : Option (Int) :=
 bindO (L0 (TwCost_0a p0n p0c (0 : Int) p1n p1c (p1n : Int) (0 : Int))) fun y0 =>
 some y0
theorem twCost_eq (F L0 p0n p0c p1n p1c) : semF (callP F EwCost 20) s49 (loopT [⟨0, YwCost_0, L0, XLwCost_0⟩]) 400 a49 [PV.list p0n p0c, PV.list p1n p1c] (fun rv => decR (RSh.one (CK.int .i64)) rv.pv) = twCost F L0 p0n p0c p1n p1c := by kernel_rfl
noncomputable abbrev FwCost (args : List PV) := Fn env 49 (RSh.one (CK.int .i64)) args
theorem FwCost_of  (p0n : Nat) (p0c : List PV) (p1n : Nat) (p1c : List PV) {res : (Int)} (h : twCost (Fn env) LwCost_0 p0n p0c p1n p1c = some res) : FwCost [PV.list p0n p0c, PV.list p1n p1c] = some res :=
 fn_of EwCost_ok rfl rfl (lo_cons (lpO_ok UwCost) lo_nil) ((twCost_eq _ _ _ _ _ _).trans h)
def ErCopP : List Entry := [.out 48 (RSh.one CK.list)]
theorem ErCopP_ok : ∀ e ∈ ErCopP, EntOK env e := (ent_out ent_nil)
def trCopP (F : FnT) (p0_0n : Nat) (p0_0c : List PV) (p0_1n : Nat) (p0_1c : List PV) (p0_2n : Nat) (p0_2c : List PV) : Option (((Nat) × (List PV)) × (((Nat) × (List PV)) × ((Nat) × (List PV)))) :=
 bindO (F 48 (RSh.one CK.list) [(PV.list p0_0n p0_0c)]) fun (y0 : ((Nat) × (List PV))) =>
 bindO (F 48 (RSh.one CK.list) [(PV.list p0_1n p0_1c)]) fun (y1 : ((Nat) × (List PV))) =>
 bindO (F 48 (RSh.one CK.list) [(PV.list p0_2n p0_2c)]) fun (y2 : ((Nat) × (List PV))) =>
 some ((y0.1, y0.2), ((y1.1, y1.2), (y2.1, y2.2)))
theorem trCopP_eq (F p0_0n p0_0c p0_1n p0_1c p0_2n p0_2c) : semF (callP F ErCopP 20) s14 (loopT []) 400 a14 [PV.agg [PV.list p0_0n p0_0c, PV.list p0_1n p0_1c, PV.list p0_2n p0_2c]] (fun rv => decR (RSh.agg [CK.list, CK.list, CK.list]) rv.pv) = trCopP F p0_0n p0_0c p0_1n p0_1c p0_2n p0_2c := by kernel_rfl
noncomputable abbrev FrCopP (args : List PV) := Fn env 14 (RSh.agg [CK.list, CK.list, CK.list]) args
theorem FrCopP_of  (p0_0n : Nat) (p0_0c : List PV) (p0_1n : Nat) (p0_1c : List PV) (p0_2n : Nat) (p0_2c : List PV) {res : (((Nat) × (List PV)) × (((Nat) × (List PV)) × ((Nat) × (List PV))))} (h : trCopP (Fn env) p0_0n p0_0c p0_1n p0_1c p0_2n p0_2c = some res) : FrCopP [PV.agg [PV.list p0_0n p0_0c, PV.list p0_1n p0_1c, PV.list p0_2n p0_2c]] = some res :=
 fn_of ErCopP_ok rfl rfl lo_nil ((trCopP_eq _ _ _ _ _ _ _).trans h)
end Gv

/- What the functions do, round by round: B6. -/
namespace Gv
open Go
set_option maxRecDepth 100000
def EsumO : List Entry := []
theorem EsumO_ok : ∀ e ∈ EsumO, EntOK env e := ent_nil
def TsumO_0a (i0 : Int) (n1 : Nat) (c2 : List PV) (i3 i4 : Int) : Q := ⟨(tm 17 [(3, (AV.p (PV.int .i64 i0))), (6, (AV.p (PV.list n1 c2))), (7, (AV.p (PV.int .i64 i3))), (8, (AV.p (PV.int .i64 i4)))]), (mm 17 [])⟩
def XsumO_0a (y : Int) : Ext × Q := (Ext.normal, ⟨(tm 17 [(3, (AV.p (PV.int .i64 y)))]), (mm 17 [])⟩)
def IsumO_0a (q : Ext × S) : Int := (pP_int1 (pA_p (avT q.2 3)))
abbrev YsumO_0 : Type := Int
def XLsumO_0 : XL YsumO_0 := .one XsumO_0a
def IsumO_0 (q : Ext × S) : YsumO_0 := (IsumO_0a q)
theorem XIsumO_0a (y) : IsumO_0 (xe (XsumO_0a y)) = y := by kernel_rfl
theorem XIsumO_0 (y) : IsumO_0 (xe (XLsumO_0.fn y)) = y := XIsumO_0a y
noncomputable abbrev LsumO_0 : Q → Option YsumO_0 := lpO env a61.body 0 XLsumO_0
noncomputable abbrev RsumO_0 : Q → Option (Ext × S) := lpR env a61.body 0
theorem LsumO_0a_of {s y} (h : RsumO_0 s = exO (XsumO_0a y)) : LsumO_0 s = some y := lpO_of IsumO_0 XIsumO_0 (y := y) h
theorem UsumO : uniq ((blocksOf a61.body).map (·.1)) = true := by kernel_rfl
def BsumO_0a (_F : FnT) (N : QO) (E : EO) (_L0 : QQ YsumO_0) (i0 : Int) (n1 : Nat) (c2 : List PV) (i3 i4 : Int) : OX :=
 bif (decide (i4 < i3)) then
  bif (decide (((0 : Int) ≤ i4) ∧ (i4 < (n1 : Int)))) then
   bindO (intC .i64 (c2[((Int.toNat i4) * 1)]?)) fun x0 =>
   N (TsumO_0a (w64 (i0 + x0)) n1 c2 i3 (w64 (i4 + (1 : Int))))
  else none
 else E (XsumO_0a i0)
theorem BsumO_0a_eq (F N E L0 i0 n1 c2 i3 i4) : semB (callP F EsumO 20) s61 (loopT [⟨0, YsumO_0, L0, XLsumO_0⟩]) 400 (blkIn a61.body 0) N E (TsumO_0a i0 n1 c2 i3 i4) = BsumO_0a F N E L0 i0 n1 c2 i3 i4 := by kernel_rfl
theorem RsumO_0a_of (i0 n1 c2 i3 i4) {r} (h : BsumO_0a (Fn env) RsumO_0 exO LsumO_0 i0 n1 c2 i3 i4 = some r) : RsumO_0 (TsumO_0a i0 n1 c2 i3 i4) = some r :=
 lp_of EsumO_ok (by kernel_rfl) (lo_cons (lpO_ok UsumO) lo_nil) (by kernel_rfl) ((BsumO_0a_eq _ _ _ _ _ _ _ _ _).trans h)
def tsumO (_F : FnT) (L0 : QQ YsumO_0) (p0n : Nat) (p0c : List PV) : Option (Int) :=
 bindO (L0 (TsumO_0a (0 : Int) p0n p0c (p0n : Int) (0 : Int))) fun y0 =>
 some y0
theorem tsumO_eq (F L0 p0n p0c) : semF (callP F EsumO 20) s61 (loopT [⟨0, YsumO_0, L0, XLsumO_0⟩]) 400 a61 [PV.list p0n p0c] (fun rv => decR (RSh.one (CK.int .i64)) rv.pv) = tsumO F L0 p0n p0c := by kernel_rfl
noncomputable abbrev FsumO (args : List PV) := Fn env 61 (RSh.one (CK.int .i64)) args
theorem FsumO_of  (p0n : Nat) (p0c : List PV) {res : (Int)} (h : tsumO (Fn env) LsumO_0 p0n p0c = some res) : FsumO [PV.list p0n p0c] = some res :=
 fn_of EsumO_ok rfl rfl (lo_cons (lpO_ok UsumO) lo_nil) ((tsumO_eq _ _ _ _).trans h)
def EisEx : List Entry := []
theorem EisEx_ok : ∀ e ∈ EisEx, EntOK env e := ent_nil
def TisEx_0a (i0 : Int) (n1 : Nat) (c2 : List PV) (i3 i4 : Int) (n5 : Nat) (c6 : List PV) (n7 : Nat) (c8 : List PV) (n9 : Nat) (c10 : List PV) : Q := ⟨(tm 30 [(2, (AV.p (PV.int .i64 i0))), (4, (AV.loc 4 0)), (9, (AV.p (PV.list n1 c2))), (10, (AV.p (PV.int .i64 i3))), (11, (AV.p (PV.int .i64 i4)))]), (mm 30 [(4, (Bk.cells true [(AV.p (PV.list n5 c6)), (AV.p (PV.list n7 c8)), (AV.p (PV.list n9 c10))]))])⟩
def XisEx_0a (_y : Unit) : Ext × Q := (Ext.ret, ⟨(tm 30 [(6, (AV.p (PV.bool true)))]), (mm 30 [])⟩)
def IisEx_0a (_q : Ext × S) : Unit := ()
def XisEx_0b (y : Nat × List PV × Nat × List PV × Nat × List PV) : Ext × Q := (Ext.normal, ⟨(tm 30 []), (mm 30 [(4, (Bk.cells true [(AV.p (PV.list y.1 y.2.1)), (AV.p (PV.list y.2.2.1 y.2.2.2.1)), (AV.p (PV.list y.2.2.2.2.1 y.2.2.2.2.2))]))])⟩)
def IisEx_0b (q : Ext × S) : Nat × List PV × Nat × List PV × Nat × List PV := ((pP_list0 (pA_p (hdA (pB_cells1 (avM q.2 4))))), (pP_list1 (pA_p (hdA (pB_cells1 (avM q.2 4))))), (pP_list0 (pA_p (hdA (List.tail (pB_cells1 (avM q.2 4)))))), (pP_list1 (pA_p (hdA (List.tail (pB_cells1 (avM q.2 4)))))), (pP_list0 (pA_p (hdA (List.tail (List.tail (pB_cells1 (avM q.2 4))))))), (pP_list1 (pA_p (hdA (List.tail (List.tail (pB_cells1 (avM q.2 4))))))))
abbrev YisEx_0 : Type := (Unit) ⊕ ((Nat × List PV × Nat × List PV × Nat × List PV))
def XLisEx_0 : XL YisEx_0 := .more XisEx_0a (.one XisEx_0b)
def IisEx_0 (q : Ext × S) : YisEx_0 := bif (cE q.1 == 2) then (Sum.inl (IisEx_0a q)) else (Sum.inr (IisEx_0b q))
theorem XIisEx_0a (y) : IisEx_0 (xe (XisEx_0a y)) = (Sum.inl y) := by kernel_rfl
theorem XIisEx_0b (y) : IisEx_0 (xe (XisEx_0b y)) = (Sum.inr y) := by kernel_rfl
theorem XIisEx_0 (y) : IisEx_0 (xe (XLisEx_0.fn y)) = y := (match y with | .inl y => XIisEx_0a y | .inr y => XIisEx_0b y)
noncomputable abbrev LisEx_0 : Q → Option YisEx_0 := lpO env a60.body 0 XLisEx_0
noncomputable abbrev RisEx_0 : Q → Option (Ext × S) := lpR env a60.body 0
theorem LisEx_0a_of {s y} (h : RisEx_0 s = exO (XisEx_0a y)) : LisEx_0 s = some (Sum.inl y) := lpO_of IisEx_0 XIisEx_0 (y := (Sum.inl y)) h
theorem LisEx_0b_of {s y} (h : RisEx_0 s = exO (XisEx_0b y)) : LisEx_0 s = some (Sum.inr y) := lpO_of IisEx_0 XIisEx_0 (y := (Sum.inr y)) h
theorem UisEx : uniq ((blocksOf a60.body).map (·.1)) = true := by kernel_rfl
def BisEx_0a (_F : FnT) (N : QO) (E : EO) (_L0 : QQ YisEx_0) (i0 : Int) (n1 : Nat) (c2 : List PV) (i3 i4 : Int) (n5 : Nat) (c6 : List PV) (n7 : Nat) (c8 : List PV) (n9 : Nat) (c10 : List PV) : OX :=
 bif (decide (i4 < i3)) then
  bif (decide (((0 : Int) ≤ i4) ∧ (i4 < (n1 : Int)))) then
   bindO (intC .i64 (c2[((Int.toNat i4) * 1)]?)) fun x0 =>
   bif (decide (((0 : Int) ≤ i0) ∧ (i0 < (n7 : Int)))) then
    bindO (intC .i64 (c8[((Int.toNat i0) * 1)]?)) fun x1 =>
    bif (decide (((0 : Int) ≤ i4) ∧ (i4 < (n9 : Int)))) then
     bindO (intC .i64 (c10[((Int.toNat i4) * 1)]?)) fun x2 =>
     bif (decide (x0 < (w64 (x1 + x2)))) then
      E (XisEx_0a ())
     else N (TisEx_0a i0 n1 c2 i3 (w64 (i4 + (1 : Int))) n5 c6 n7 c8 n9 c10)
    else none
   else none
  else none
 else E (XisEx_0b (n5, c6, n7, c8, n9, c10))
theorem BisEx_0a_eq (F N E L0 i0 n1 c2 i3 i4 n5 c6 n7 c8 n9 c10) : semB (callP F EisEx 20) s60 (loopT [⟨0, YisEx_0, L0, XLisEx_0⟩]) 400 (blkIn a60.body 0) N E (TisEx_0a i0 n1 c2 i3 i4 n5 c6 n7 c8 n9 c10) = BisEx_0a F N E L0 i0 n1 c2 i3 i4 n5 c6 n7 c8 n9 c10 := by kernel_rfl
theorem RisEx_0a_of (i0 n1 c2 i3 i4 n5 c6 n7 c8 n9 c10) {r} (h : BisEx_0a (Fn env) RisEx_0 exO LisEx_0 i0 n1 c2 i3 i4 n5 c6 n7 c8 n9 c10 = some r) : RisEx_0 (TisEx_0a i0 n1 c2 i3 i4 n5 c6 n7 c8 n9 c10) = some r :=
 lp_of EisEx_ok (by kernel_rfl) (lo_cons (lpO_ok UisEx) lo_nil) (by kernel_rfl) ((BisEx_0a_eq _ _ _ _ _ _ _ _ _ _ _ _ _ _ _).trans h)
def tisEx (_F : FnT) (L0 : QQ YisEx_0) (p0n : Nat) (p0c : List PV) (p1_0n : Nat) (p1_0c : List PV) (p1_1n : Nat) (p1_1c : List PV) (p1_2n : Nat) (p1_2c : List PV) (p2 : Int) : Option (Bool) :=
 bindO (L0 (TisEx_0a p2 p0n p0c (p0n : Int) (0 : Int) p1_0n p1_0c p1_1n p1_1c p1_2n p1_2c)) fun z =>
 Sum.elim (fun _y0 =>
  some true) (fun _y1 =>
  some false) z
theorem tisEx_eq (F L0 p0n p0c p1_0n p1_0c p1_1n p1_1c p1_2n p1_2c p2) : semF (callP F EisEx 20) s60 (loopT [⟨0, YisEx_0, L0, XLisEx_0⟩]) 400 a60 [PV.list p0n p0c, PV.agg [PV.list p1_0n p1_0c, PV.list p1_1n p1_1c, PV.list p1_2n p1_2c], PV.int .i64 p2] (fun rv => decR (RSh.one CK.bool) rv.pv) = tisEx F L0 p0n p0c p1_0n p1_0c p1_1n p1_1c p1_2n p1_2c p2 := by kernel_rfl
noncomputable abbrev FisEx (args : List PV) := Fn env 60 (RSh.one CK.bool) args
theorem FisEx_of  (p0n : Nat) (p0c : List PV) (p1_0n : Nat) (p1_0c : List PV) (p1_1n : Nat) (p1_1c : List PV) (p1_2n : Nat) (p1_2c : List PV) (p2 : Int) {res : (Bool)} (h : tisEx (Fn env) LisEx_0 p0n p0c p1_0n p1_0c p1_1n p1_1c p1_2n p1_2c p2 = some res) : FisEx [PV.list p0n p0c, PV.agg [PV.list p1_0n p1_0c, PV.list p1_1n p1_1c, PV.list p1_2n p1_2c], PV.int .i64 p2] = some res :=
 fn_of EisEx_ok rfl rfl (lo_cons (lpO_ok UisEx) lo_nil) ((tisEx_eq _ _ _ _ _ _ _ _ _ _ _).trans h)
def EpotE : List Entry := [.out 84 (RSh.one (CK.int .i64)), .out 53 (RSh.one (CK.int .i64))]
theorem EpotE_ok : ∀ e ∈ EpotE, EntOK env e := (ent_out (ent_out ent_nil))
def tpotE (F : FnT) (_p0_0n : Nat) (_p0_0c : List PV) (p0_1n : Nat) (p0_1c : List PV) (p0_2n : Nat) (p0_2c : List PV) (p1 : Int) : Option (Int) :=
 bif (decide (((0 : Int) ≤ p1) ∧ (p1 < (p0_1n : Int)))) then
  bindO (intC .i64 (p0_1c[((Int.toNat p1) * 1)]?)) fun x0 =>
  bindO (F 84 (RSh.one (CK.int .i64)) [(PV.int .i64 x0), (PV.int .i64 (-60000000 : Int)), (PV.int .i64 (60000000 : Int))]) fun (y1 : (Int)) =>
  bif (decide (((0 : Int) ≤ p1) ∧ (p1 < (p0_2n : Int)))) then
   bindO (intC .i64 (p0_2c[((Int.toNat p1) * 1)]?)) fun x2 =>
   bindO (F 84 (RSh.one (CK.int .i64)) [(PV.int .i64 x2), (PV.int .i64 (-60000000 : Int)), (PV.int .i64 (60000000 : Int))]) fun (y3 : (Int)) =>
   bindO (F 53 (RSh.one (CK.int .i64)) [(PV.list 2 [(PV.int .i64 y1), (PV.int .i64 y3)])]) fun (y4 : (Int)) =>
   some y4
  else none
 else none
theorem tpotE_eq (F p0_0n p0_0c p0_1n p0_1c p0_2n p0_2c p1) : semF (callP F EpotE 20) s58 (loopT []) 400 a58 [PV.agg [PV.list p0_0n p0_0c, PV.list p0_1n p0_1c, PV.list p0_2n p0_2c], PV.int .i64 p1] (fun rv => decR (RSh.one (CK.int .i64)) rv.pv) = tpotE F p0_0n p0_0c p0_1n p0_1c p0_2n p0_2c p1 := by kernel_rfl
noncomputable abbrev FpotE (args : List PV) := Fn env 58 (RSh.one (CK.int .i64)) args
theorem FpotE_of  (p0_0n : Nat) (p0_0c : List PV) (p0_1n : Nat) (p0_1c : List PV) (p0_2n : Nat) (p0_2c : List PV) (p1 : Int) {res : (Int)} (h : tpotE (Fn env) p0_0n p0_0c p0_1n p0_1c p0_2n p0_2c p1 = some res) : FpotE [PV.agg [PV.list p0_0n p0_0c, PV.list p0_1n p0_1c, PV.list p0_2n p0_2c], PV.int .i64 p1] = some res :=
 fn_of EpotE_ok rfl rfl lo_nil ((tpotE_eq _ _ _ _ _ _ _ _).trans h)
def TsCon_1520000000a (n0 : Nat) (c1 : List PV) (i2 i3 i4 : Int) : Q := ⟨(tm 19 [(0, (AV.p (PV.list n0 c1))), (1, (AV.p (PV.int .i64 i2))), (7, (AV.p (PV.int .i64 i3))), (8, (AV.p (PV.int .i64 i4)))]), (mm 19 [])⟩
def XsCon_1520000000a (y : Int) : Ext × Q := (Ext.ret, ⟨(tm 19 [(4, (AV.p (PV.int .i64 y)))]), (mm 19 [])⟩)
def IsCon_1520000000a (q : Ext × S) : Int := (pP_int1 (pA_p (avT q.2 4)))
def XsCon_1520000000b (_y : Unit) : Ext × Q := (Ext.normal, ⟨(tm 19 []), (mm 19 [])⟩)
def IsCon_1520000000b (_q : Ext × S) : Unit := ()
abbrev YsCon_1520000000 : Type := (Int) ⊕ ((Unit))
def XLsCon_1520000000 : XL YsCon_1520000000 := .more XsCon_1520000000a (.one XsCon_1520000000b)
def IsCon_1520000000 (q : Ext × S) : YsCon_1520000000 := bif (cE q.1 == 2) then (Sum.inl (IsCon_1520000000a q)) else (Sum.inr (IsCon_1520000000b q))
theorem XIsCon_1520000000a (y) : IsCon_1520000000 (xe (XsCon_1520000000a y)) = (Sum.inl y) := by kernel_rfl
theorem XIsCon_1520000000b (y) : IsCon_1520000000 (xe (XsCon_1520000000b y)) = (Sum.inr y) := by kernel_rfl
theorem XIsCon_1520000000 (y) : IsCon_1520000000 (xe (XLsCon_1520000000.fn y)) = y := (match y with | .inl y => XIsCon_1520000000a y | .inr y => XIsCon_1520000000b y)
noncomputable abbrev LsCon_1520000000 : Q → Option YsCon_1520000000 := lpO env a100.body 0 XLsCon_1520000000
noncomputable abbrev RsCon_1520000000 : Q → Option (Ext × S) := lpR env a100.body 0
theorem LsCon_1520000000a_of {s y} (h : RsCon_1520000000 s = exO (XsCon_1520000000a y)) : LsCon_1520000000 s = some (Sum.inl y) := lpO_of IsCon_1520000000 XIsCon_1520000000 (y := (Sum.inl y)) h
theorem LsCon_1520000000b_of {s y} (h : RsCon_1520000000 s = exO (XsCon_1520000000b y)) : LsCon_1520000000 s = some (Sum.inr y) := lpO_of IsCon_1520000000 XIsCon_1520000000 (y := (Sum.inr y)) h
theorem UsCong152 : uniq ((blocksOf a100.body).map (·.1)) = true := by kernel_rfl
def EsCon (L1520000000 : QQ YsCon_1520000000) : List Entry := [.inp 100 a100 s100 [⟨0, YsCon_1520000000, L1520000000, XLsCon_1520000000⟩]]
theorem EsCon_ok : ∀ e ∈ EsCon LsCon_1520000000, EntOK env e := (ent_inp rfl (lo_cons (lpO_ok UsCong152) lo_nil) ent_nil)
def BsCon_1520000000a (_F : FnT) (N : QO) (E : EO) (_L1520000000 : QQ YsCon_1520000000) (n0 : Nat) (c1 : List PV) (i2 i3 i4 : Int) : OX :=
 bif (decide (i4 < i3)) then
  bif (decide (((0 : Int) ≤ i4) ∧ (i4 < (n0 : Int)))) then
   bindO (intC .i64 (c1[((Int.toNat i4) * 1)]?)) fun x0 =>
   bif (i2 == x0) then
    E (XsCon_1520000000a i4)
   else N (TsCon_1520000000a n0 c1 i2 i3 (w64 (i4 + (1 : Int))))
  else none
 else E (XsCon_1520000000b ())
theorem BsCon_1520000000a_eq (F N E L1520000000 n0 c1 i2 i3 i4) : semB (callP F (EsCon L1520000000) 20) s100 (loopT [⟨0, YsCon_1520000000, L1520000000, XLsCon_1520000000⟩]) 400 (blkIn a100.body 0) N E (TsCon_1520000000a n0 c1 i2 i3 i4) = BsCon_1520000000a F N E L1520000000 n0 c1 i2 i3 i4 := by kernel_rfl
theorem RsCon_1520000000a_of (n0 c1 i2 i3 i4) {r} (h : BsCon_1520000000a (Fn env) RsCon_1520000000 exO LsCon_1520000000 n0 c1 i2 i3 i4 = some r) : RsCon_1520000000 (TsCon_1520000000a n0 c1 i2 i3 i4) = some r :=
 lp_of EsCon_ok (by kernel_rfl) (lo_cons (lpO_ok UsCong152) lo_nil) (by kernel_rfl) ((BsCon_1520000000a_eq _ _ _ _ _ _ _ _ _).trans h)
def tsCon (_F : FnT) (L1520000000 : QQ YsCon_1520000000) (p0n : Nat) (p0c : List PV) (p1 : Int) : Option (Bool) :=
 bindO (L1520000000 (TsCon_1520000000a p0n p0c p1 (p0n : Int) (0 : Int))) fun z =>
 Sum.elim (fun y0 =>
  bif (decide (y0 ≥ (0 : Int))) then
   some true
  else some false) (fun _y1 =>
  some false) z
theorem tsCon_eq (F L1520000000 p0n p0c p1) : semF (callP F (EsCon L1520000000) 20) s72 (loopT []) 400 a72 [PV.list p0n p0c, PV.int .i64 p1] (fun rv => decR (RSh.one CK.bool) rv.pv) = tsCon F L1520000000 p0n p0c p1 := by kernel_rfl
noncomputable abbrev FsCon (args : List PV) := Fn env 72 (RSh.one CK.bool) args
theorem FsCon_of  (p0n : Nat) (p0c : List PV) (p1 : Int) {res : (Bool)} (h : tsCon (Fn env) LsCon_1520000000 p0n p0c p1 = some res) : FsCon [PV.list p0n p0c, PV.int .i64 p1] = some res :=
 fn_of EsCon_ok rfl rfl lo_nil ((tsCon_eq _ _ _ _ _).trans h)
def EcolE : List Entry := [.out 54 (RSh.one (CK.int .i64)), .out 72 (RSh.one CK.bool), .out 53 (RSh.one (CK.int .i64))]
theorem EcolE_ok : ∀ e ∈ EcolE, EntOK env e := (ent_out (ent_out (ent_out ent_nil)))
def tcolE (F : FnT) (p0n : Nat) (p0c : List PV) (p1 : Int) : Option (Int) :=
 bif (decide (((0 : Int) ≤ p1) ∧ (p1 < (p0n : Int)))) then
  bindO (intC .i64 (p0c[((Int.toNat p1) * 1)]?)) fun x0 =>
  bif (decide (x0 < (0 : Int))) then
   bindO (F 54 (RSh.one (CK.int .i64)) [(PV.bool true), (PV.int .i64 (6 : Int))]) fun (y1 : (Int)) =>
   bif (decide (((0 : Int) ≤ p1) ∧ (p1 ≤ ((Prod.mk p0n p0c).1 : Int)))) then
    bif (decide ((0 = (Int.toNat p1)) ∨ (((0 * 1) + (((Int.toNat p1) - 0) * 1)) ≤ (List.length p0c)))) then
     bindO (F 72 (RSh.one CK.bool) [(PV.list ((Int.toNat p1) - 0) (List.take (((Int.toNat p1) - 0) * 1) (List.drop 0 p0c))), (PV.int .i64 x0)]) fun (y2 : (Bool)) =>
     bif y2 then
      bindO (F 54 (RSh.one (CK.int .i64)) [(PV.bool true), (PV.int .i64 (21 : Int))]) fun (y3 : (Int)) =>
      bindO (F 53 (RSh.one (CK.int .i64)) [(PV.list 2 [(PV.int .i64 y1), (PV.int .i64 y3)])]) fun (y4 : (Int)) =>
      some y4
     else bindO (F 54 (RSh.one (CK.int .i64)) [(PV.bool false), (PV.int .i64 (21 : Int))]) fun (y5 : (Int)) =>
     bindO (F 53 (RSh.one (CK.int .i64)) [(PV.list 2 [(PV.int .i64 y1), (PV.int .i64 y5)])]) fun (y6 : (Int)) =>
     some y6
    else none
   else none
  else bif (decide (x0 ≥ (p0n : Int))) then
   bindO (F 54 (RSh.one (CK.int .i64)) [(PV.bool true), (PV.int .i64 (6 : Int))]) fun (y7 : (Int)) =>
   bif (decide (((0 : Int) ≤ p1) ∧ (p1 ≤ ((Prod.mk p0n p0c).1 : Int)))) then
    bif (decide ((0 = (Int.toNat p1)) ∨ (((0 * 1) + (((Int.toNat p1) - 0) * 1)) ≤ (List.length p0c)))) then
     bindO (F 72 (RSh.one CK.bool) [(PV.list ((Int.toNat p1) - 0) (List.take (((Int.toNat p1) - 0) * 1) (List.drop 0 p0c))), (PV.int .i64 x0)]) fun (y8 : (Bool)) =>
     bif y8 then
      bindO (F 54 (RSh.one (CK.int .i64)) [(PV.bool true), (PV.int .i64 (21 : Int))]) fun (y9 : (Int)) =>
      bindO (F 53 (RSh.one (CK.int .i64)) [(PV.list 2 [(PV.int .i64 y7), (PV.int .i64 y9)])]) fun (y10 : (Int)) =>
      some y10
     else bindO (F 54 (RSh.one (CK.int .i64)) [(PV.bool false), (PV.int .i64 (21 : Int))]) fun (y11 : (Int)) =>
     bindO (F 53 (RSh.one (CK.int .i64)) [(PV.list 2 [(PV.int .i64 y7), (PV.int .i64 y11)])]) fun (y12 : (Int)) =>
     some y12
    else none
   else none
  else bindO (F 54 (RSh.one (CK.int .i64)) [(PV.bool false), (PV.int .i64 (6 : Int))]) fun (y13 : (Int)) =>
  bif (decide (((0 : Int) ≤ p1) ∧ (p1 ≤ ((Prod.mk p0n p0c).1 : Int)))) then
   bif (decide ((0 = (Int.toNat p1)) ∨ (((0 * 1) + (((Int.toNat p1) - 0) * 1)) ≤ (List.length p0c)))) then
    bindO (F 72 (RSh.one CK.bool) [(PV.list ((Int.toNat p1) - 0) (List.take (((Int.toNat p1) - 0) * 1) (List.drop 0 p0c))), (PV.int .i64 x0)]) fun (y14 : (Bool)) =>
    bif y14 then
     bindO (F 54 (RSh.one (CK.int .i64)) [(PV.bool true), (PV.int .i64 (21 : Int))]) fun (y15 : (Int)) =>
     bindO (F 53 (RSh.one (CK.int .i64)) [(PV.list 2 [(PV.int .i64 y13), (PV.int .i64 y15)])]) fun (y16 : (Int)) =>
     some y16
    else bindO (F 54 (RSh.one (CK.int .i64)) [(PV.bool false), (PV.int .i64 (21 : Int))]) fun (y17 : (Int)) =>
    bindO (F 53 (RSh.one (CK.int .i64)) [(PV.list 2 [(PV.int .i64 y13), (PV.int .i64 y17)])]) fun (y18 : (Int)) =>
    some y18
   else none
  else none
 else none
theorem tcolE_eq (F p0n p0c p1) : semF (callP F EcolE 20) s56 (loopT []) 400 a56 [PV.list p0n p0c, PV.int .i64 p1] (fun rv => decR (RSh.one (CK.int .i64)) rv.pv) = tcolE F p0n p0c p1 := by kernel_rfl
noncomputable abbrev FcolE (args : List PV) := Fn env 56 (RSh.one (CK.int .i64)) args
theorem FcolE_of  (p0n : Nat) (p0c : List PV) (p1 : Int) {res : (Int)} (h : tcolE (Fn env) p0n p0c p1 = some res) : FcolE [PV.list p0n p0c, PV.int .i64 p1] = some res :=
 fn_of EcolE_ok rfl rfl lo_nil ((tcolE_eq _ _ _ _).trans h)
end Gv

/- What the functions do, round by round: B7. -/
namespace Gv
open Go
set_option maxRecDepth 100000
def EcheO : List Entry := [.out 45 (RSh.one (CK.int .i64)), .out 47 (RSh.one CK.list), .out 49 (RSh.one (CK.int .i64))]
theorem EcheO_ok : ∀ e ∈ EcheO, EntOK env e := (ent_out (ent_out (ent_out ent_nil)))
def tcheO (F : FnT) (p0n : Nat) (p0c : List PV) : Option (((Nat) × (List PV)) × ((Int) × (Int))) :=
 bindO (F 45 (RSh.one (CK.int .i64)) [(PV.list p0n p0c)]) fun (y0 : (Int)) =>
 bif (y0 != (0 : Int)) then
  some ((0, []), ((0 : Int), y0))
 else bindO (F 47 (RSh.one CK.list) [(PV.list p0n p0c)]) fun (y1 : ((Nat) × (List PV))) =>
 bindO (F 49 (RSh.one (CK.int .i64)) [(PV.list p0n p0c), (PV.list y1.1 y1.2)]) fun (y2 : (Int)) =>
 some ((y1.1, y1.2), (y2, (0 : Int)))
theorem tcheO_eq (F p0n p0c) : semF (callP F EcheO 20) s11 (loopT []) 400 a11 [PV.list p0n p0c] (fun rv => decR (RSh.tup [(Prod.mk false [CK.list]), (Prod.mk false [(CK.int .i64)]), (Prod.mk false [(CK.int .i64)])]) rv.pv) = tcheO F p0n p0c := by kernel_rfl
noncomputable abbrev FcheO (args : List PV) := Fn env 11 (RSh.tup [(Prod.mk false [CK.list]), (Prod.mk false [(CK.int .i64)]), (Prod.mk false [(CK.int .i64)])]) args
theorem FcheO_of  (p0n : Nat) (p0c : List PV) {res : (((Nat) × (List PV)) × ((Int) × (Int)))} (h : tcheO (Fn env) p0n p0c = some res) : FcheO [PV.list p0n p0c] = some res :=
 fn_of EcheO_ok rfl rfl lo_nil ((tcheO_eq _ _ _).trans h)
end Gv

/- What the functions do, round by round: B9. -/
namespace Gv
open Go
set_option maxRecDepth 100000
def TcerI_0a (i0 i1 : Int) (b2 : Bool) (n3 : Nat) (c4 : List PV) : Q := ⟨(tm 32 [(5, (AV.loc 5 0)), (6, AV.nilS), (17, (AV.p (PV.int .i64 i0))), (18, (AV.p (PV.int .i64 i1)))]), (mm 32 [(5, (Bk.cells b2 [(AV.p (PV.list n3 c4))]))])⟩
def TcerI_0b (n0 : Nat) (c1 : List PV) (i2 i3 : Int) (n4 : Nat) (c5 : List PV) (n6 : Nat) : Q := ⟨(tm 32 [(5, (AV.loc 5 0)), (6, (AV.app 29 n0 1 c1)), (17, (AV.p (PV.int .i64 i2))), (18, (AV.p (PV.int .i64 i3)))]), (mm 32 [(5, (Bk.cells false [(AV.p (PV.list n4 c5))])), (29, (Bk.buf n6))])⟩
def XcerI_0a (y : Bool × Nat × List PV) : Ext × Q := (Ext.normal, ⟨(tm 32 [(6, AV.nilS)]), (mm 32 [(5, (Bk.cells y.1 [(AV.p (PV.list y.2.1 y.2.2))]))])⟩)
def IcerI_0a (q : Ext × S) : Bool × Nat × List PV := (((fun b : Blk => match b with | .cells w _ => w | _ => false) (avM q.2 5)), (pP_list0 (pA_p (hdA (pB_cells1 (avM q.2 5))))), (pP_list1 (pA_p (hdA (pB_cells1 (avM q.2 5))))))
def XcerI_0b (y : Nat × List PV × Nat × List PV × Nat) : Ext × Q := (Ext.normal, ⟨(tm 32 [(6, (AV.app 29 y.1 1 y.2.1))]), (mm 32 [(5, (Bk.cells false [(AV.p (PV.list y.2.2.1 y.2.2.2.1))])), (29, (Bk.buf y.2.2.2.2))])⟩)
def IcerI_0b (q : Ext × S) : Nat × List PV × Nat × List PV × Nat := ((pA_app1 (avT q.2 6)), (pA_app3 (avT q.2 6)), (pP_list0 (pA_p (hdA (pB_cells1 (avM q.2 5))))), (pP_list1 (pA_p (hdA (pB_cells1 (avM q.2 5))))), (pB_buf0 (avM q.2 29)))
abbrev YcerI_0 : Type := (Bool × Nat × List PV) ⊕ ((Nat × List PV × Nat × List PV × Nat))
def XLcerI_0 : XL YcerI_0 := .more XcerI_0a (.one XcerI_0b)
def IcerI_0 (q : Ext × S) : YcerI_0 := bif (cA (avT q.2 6) == 1) then (Sum.inl (IcerI_0a q)) else (Sum.inr (IcerI_0b q))
theorem XIcerI_0a (y) : IcerI_0 (xe (XcerI_0a y)) = (Sum.inl y) := by kernel_rfl
theorem XIcerI_0b (y) : IcerI_0 (xe (XcerI_0b y)) = (Sum.inr y) := by kernel_rfl
theorem XIcerI_0 (y) : IcerI_0 (xe (XLcerI_0.fn y)) = y := (match y with | .inl y => XIcerI_0a y | .inr y => XIcerI_0b y)
noncomputable abbrev LcerI_0 : Q → Option YcerI_0 := lpO env a12.body 0 XLcerI_0
noncomputable abbrev RcerI_0 : Q → Option (Ext × S) := lpR env a12.body 0
theorem LcerI_0a_of {s y} (h : RcerI_0 s = exO (XcerI_0a y)) : LcerI_0 s = some (Sum.inl y) := lpO_of IcerI_0 XIcerI_0 (y := (Sum.inl y)) h
theorem LcerI_0b_of {s y} (h : RcerI_0 s = exO (XcerI_0b y)) : LcerI_0 s = some (Sum.inr y) := lpO_of IcerI_0 XIcerI_0 (y := (Sum.inr y)) h
def TcerI_1470000000a (n0 : Nat) (c1 : List PV) (i2 : Int) (n3 : Nat) (c4 : List PV) (i5 i6 : Int) : Q := ⟨(tm 19 [(0, (AV.p (PV.list n0 c1))), (1, (AV.p (PV.fn 51 [(PV.imm [(PV.int .i64 i2)] 0), (PV.imm [(PV.list n3 c4)] 0)]))), (7, (AV.p (PV.int .i64 i5))), (8, (AV.p (PV.int .i64 i6)))]), (mm 19 [])⟩
def XcerI_1470000000a (y : Int) : Ext × Q := (Ext.ret, ⟨(tm 19 [(4, (AV.p (PV.int .i64 y)))]), (mm 19 [])⟩)
def IcerI_1470000000a (q : Ext × S) : Int := (pP_int1 (pA_p (avT q.2 4)))
def XcerI_1470000000b (_y : Unit) : Ext × Q := (Ext.normal, ⟨(tm 19 []), (mm 19 [])⟩)
def IcerI_1470000000b (_q : Ext × S) : Unit := ()
abbrev YcerI_1470000000 : Type := (Int) ⊕ ((Unit))
def XLcerI_1470000000 : XL YcerI_1470000000 := .more XcerI_1470000000a (.one XcerI_1470000000b)
def IcerI_1470000000 (q : Ext × S) : YcerI_1470000000 := bif (cE q.1 == 2) then (Sum.inl (IcerI_1470000000a q)) else (Sum.inr (IcerI_1470000000b q))
theorem XIcerI_1470000000a (y) : IcerI_1470000000 (xe (XcerI_1470000000a y)) = (Sum.inl y) := by kernel_rfl
theorem XIcerI_1470000000b (y) : IcerI_1470000000 (xe (XcerI_1470000000b y)) = (Sum.inr y) := by kernel_rfl
theorem XIcerI_1470000000 (y) : IcerI_1470000000 (xe (XLcerI_1470000000.fn y)) = y := (match y with | .inl y => XIcerI_1470000000a y | .inr y => XIcerI_1470000000b y)
noncomputable abbrev LcerI_1470000000 : Q → Option YcerI_1470000000 := lpO env a93.body 0 XLcerI_1470000000
noncomputable abbrev RcerI_1470000000 : Q → Option (Ext × S) := lpR env a93.body 0
theorem LcerI_1470000000a_of {s y} (h : RcerI_1470000000 s = exO (XcerI_1470000000a y)) : LcerI_1470000000 s = some (Sum.inl y) := lpO_of IcerI_1470000000 XIcerI_1470000000 (y := (Sum.inl y)) h
theorem LcerI_1470000000b_of {s y} (h : RcerI_1470000000 s = exO (XcerI_1470000000b y)) : LcerI_1470000000 s = some (Sum.inr y) := lpO_of IcerI_1470000000 XIcerI_1470000000 (y := (Sum.inr y)) h
theorem UcerIg147 : uniq ((blocksOf a93.body).map (·.1)) = true := by kernel_rfl
def EcerI (L1470000000 : QQ YcerI_1470000000) : List Entry := [.inp 93 a93 s93 [⟨0, YcerI_1470000000, L1470000000, XLcerI_1470000000⟩], .inl 51 a51 s51, .inl 52 a52 s52, .out 45 (RSh.one (CK.int .i64)), .out 50 (RSh.one CK.list)]
theorem EcerI_ok : ∀ e ∈ EcerI LcerI_1470000000, EntOK env e := (ent_inp rfl (lo_cons (lpO_ok UcerIg147) lo_nil) (ent_inl rfl (ent_inl rfl (ent_out (ent_out ent_nil)))))
theorem UcerI : uniq ((blocksOf a12.body).map (·.1)) = true := by kernel_rfl
def BcerI_0a (_F : FnT) (N : QO) (E : EO) (_L0 : QQ YcerI_0) (L1470000000 : QQ YcerI_1470000000) (i0 i1 : Int) (b2 : Bool) (n3 : Nat) (c4 : List PV) : OX :=
 bif (decide (i1 < i0)) then
  bindO (L1470000000 (TcerI_1470000000a n3 c4 i1 n3 c4 (n3 : Int) (0 : Int))) fun z =>
  Sum.elim (fun y0 =>
   bif (decide (y0 ≥ (0 : Int))) then
    N (TcerI_0a i0 (w64 (i1 + (1 : Int))) false n3 c4)
   else N (TcerI_0b 1 [(PV.int .i64 i1)] i0 (w64 (i1 + (1 : Int))) n3 c4 1)) (fun _y1 =>
   N (TcerI_0b 1 [(PV.int .i64 i1)] i0 (w64 (i1 + (1 : Int))) n3 c4 1)) z
 else E (XcerI_0a (b2, n3, c4))
theorem BcerI_0a_eq (F N E L0 L1470000000 i0 i1 b2 n3 c4) : semB (callP F (EcerI L1470000000) 20) s12 (loopT [⟨0, YcerI_0, L0, XLcerI_0⟩]) 400 (blkIn a12.body 0) N E (TcerI_0a i0 i1 b2 n3 c4) = BcerI_0a F N E L0 L1470000000 i0 i1 b2 n3 c4 := by kernel_rfl
theorem RcerI_0a_of (i0 i1 b2 n3 c4) {r} (h : BcerI_0a (Fn env) RcerI_0 exO LcerI_0 LcerI_1470000000 i0 i1 b2 n3 c4 = some r) : RcerI_0 (TcerI_0a i0 i1 b2 n3 c4) = some r :=
 lp_of EcerI_ok (by kernel_rfl) (lo_cons (lpO_ok UcerI) lo_nil) (by kernel_rfl) ((BcerI_0a_eq _ _ _ _ _ _ _ _ _ _).trans h)
def BcerI_0b (_F : FnT) (N : QO) (E : EO) (_L0 : QQ YcerI_0) (L1470000000 : QQ YcerI_1470000000) (n0 : Nat) (c1 : List PV) (i2 i3 : Int) (n4 : Nat) (c5 : List PV) (n6 : Nat) : OX :=
 bif (decide (i3 < i2)) then
  bindO (L1470000000 (TcerI_1470000000a n4 c5 i3 n4 c5 (n4 : Int) (0 : Int))) fun z =>
  Sum.elim (fun y0 =>
   bif (decide (y0 ≥ (0 : Int))) then
    N (TcerI_0b n0 c1 i2 (w64 (i3 + (1 : Int))) n4 c5 n6)
   else bif (decide ((n6 = n0) ∧ ((n0 + 1) ≤ big))) then
    N (TcerI_0b (n0 + 1) (c1 ++ [(PV.int .i64 i3)]) i2 (w64 (i3 + (1 : Int))) n4 c5 (n0 + 1))
   else none) (fun _y1 =>
   bif (decide ((n6 = n0) ∧ ((n0 + 1) ≤ big))) then
    N (TcerI_0b (n0 + 1) (c1 ++ [(PV.int .i64 i3)]) i2 (w64 (i3 + (1 : Int))) n4 c5 (n0 + 1))
   else none) z
 else E (XcerI_0b (n0, c1, n4, c5, n6))
theorem BcerI_0b_eq (F N E L0 L1470000000 n0 c1 i2 i3 n4 c5 n6) : semB (callP F (EcerI L1470000000) 20) s12 (loopT [⟨0, YcerI_0, L0, XLcerI_0⟩]) 400 (blkIn a12.body 0) N E (TcerI_0b n0 c1 i2 i3 n4 c5 n6) = BcerI_0b F N E L0 L1470000000 n0 c1 i2 i3 n4 c5 n6 := by kernel_rfl
theorem RcerI_0b_of (n0 c1 i2 i3 n4 c5 n6) {r} (h : BcerI_0b (Fn env) RcerI_0 exO LcerI_0 LcerI_1470000000 n0 c1 i2 i3 n4 c5 n6 = some r) : RcerI_0 (TcerI_0b n0 c1 i2 i3 n4 c5 n6) = some r :=
 lp_of EcerI_ok (by kernel_rfl) (lo_cons (lpO_ok UcerI) lo_nil) (by kernel_rfl) ((BcerI_0b_eq _ _ _ _ _ _ _ _ _ _ _ _).trans h)
def BcerI_1470000000a (_F : FnT) (N : QO) (E : EO) (_L0 : QQ YcerI_0) (_L1470000000 : QQ YcerI_1470000000) (n0 : Nat) (c1 : List PV) (i2 : Int) (n3 : Nat) (c4 : List PV) (i5 i6 : Int) : OX :=
 bif (decide (i6 < i5)) then
  bif (decide (((0 : Int) ≤ i6) ∧ (i6 < (n0 : Int)))) then
   bindO (listC (c1[((Int.toNat i6) * 1)]?)) fun x0 =>
   bif (decide (((0 : Int) ≤ i2) ∧ (i2 < (x0.1 : Int)))) then
    bindO (intC .i64 (x0.2[((Int.toNat i2) * 1)]?)) fun x1 =>
    bif (decide (((0 : Int) ≤ (0 : Int)) ∧ ((0 : Int) < ((Prod.mk n3 c4).1 : Int)))) then
     bindO (listC ((Prod.mk n3 c4).2[0]?)) fun x2 =>
     bif (decide (((0 : Int) ≤ i2) ∧ (i2 < (x2.1 : Int)))) then
      bindO (intC .i64 (x2.2[((Int.toNat i2) * 1)]?)) fun x3 =>
      bif (x1 != x3) then
       E (XcerI_1470000000a i6)
      else N (TcerI_1470000000a n0 c1 i2 n3 c4 i5 (w64 (i6 + (1 : Int))))
     else none
    else none
   else none
  else none
 else E (XcerI_1470000000b ())
theorem BcerI_1470000000a_eq (F N E L0 L1470000000 n0 c1 i2 n3 c4 i5 i6) : semB (callP F (EcerI L1470000000) 20) s93 (loopT [⟨0, YcerI_1470000000, L1470000000, XLcerI_1470000000⟩]) 400 (blkIn a93.body 0) N E (TcerI_1470000000a n0 c1 i2 n3 c4 i5 i6) = BcerI_1470000000a F N E L0 L1470000000 n0 c1 i2 n3 c4 i5 i6 := by kernel_rfl
theorem RcerI_1470000000a_of (n0 c1 i2 n3 c4 i5 i6) {r} (h : BcerI_1470000000a (Fn env) RcerI_1470000000 exO LcerI_0 LcerI_1470000000 n0 c1 i2 n3 c4 i5 i6 = some r) : RcerI_1470000000 (TcerI_1470000000a n0 c1 i2 n3 c4 i5 i6) = some r :=
 lp_of EcerI_ok (by kernel_rfl) (lo_cons (lpO_ok UcerIg147) lo_nil) (by kernel_rfl) ((BcerI_1470000000a_eq _ _ _ _ _ _ _ _ _ _ _ _).trans h)
def tcerI (F : FnT) (L0 : QQ YcerI_0) (_L1470000000 : QQ YcerI_1470000000) (p0n : Nat) (p0c : List PV) : Option (((Nat) × (List PV)) × (Int)) :=
 bindO (F 45 (RSh.one (CK.int .i64)) [(PV.list p0n p0c)]) fun (y0 : (Int)) =>
 bif (y0 != (0 : Int)) then
  some ((0, []), y0)
 else bindO (F 50 (RSh.one CK.list) [(PV.list p0n p0c)]) fun (y1 : ((Nat) × (List PV))) =>
 bindO (L0 (TcerI_0a (p0n : Int) (0 : Int) true y1.1 y1.2)) fun z =>
 Sum.elim (fun _y2 =>
  some ((0, []), (0 : Int))) (fun y3 =>
  some ((y3.1, y3.2.1), (0 : Int))) z
theorem tcerI_eq (F L0 L1470000000 p0n p0c) : semF (callP F (EcerI L1470000000) 20) s12 (loopT [⟨0, YcerI_0, L0, XLcerI_0⟩]) 400 a12 [PV.list p0n p0c] (fun rv => decR (RSh.tup [(Prod.mk false [CK.list]), (Prod.mk false [(CK.int .i64)])]) rv.pv) = tcerI F L0 L1470000000 p0n p0c := by kernel_rfl
noncomputable abbrev FcerI (args : List PV) := Fn env 12 (RSh.tup [(Prod.mk false [CK.list]), (Prod.mk false [(CK.int .i64)])]) args
theorem FcerI_of  (p0n : Nat) (p0c : List PV) {res : (((Nat) × (List PV)) × (Int))} (h : tcerI (Fn env) LcerI_0 LcerI_1470000000 p0n p0c = some res) : FcerI [PV.list p0n p0c] = some res :=
 fn_of EcerI_ok rfl rfl (lo_cons (lpO_ok UcerI) lo_nil) ((tcerI_eq _ _ _ _ _).trans h)
end Gv

/- Matrices of costs: encodings, copies, errors, costs. -/
namespace Gv
open Go
set_option maxRecDepth 100000
def rowI (r : List Int) : PV := .list r.length (encI r)
def encM (L : List (List Int)) : List PV := L.map rowI
theorem encM_get (L : List (List Int)) (i : Nat) : (encM L)[i]? = L[i]?.map rowI := by simp [encM]
theorem intI_get {r : List Int} {i : Nat} (h : i < r.length) : intC .i64 (encI r)[i]? = some (r.getD i 0) := by
 rw [encI_get, List.getElem?_eq_getElem h]
 simp [List.getD, List.getElem?_eq_getElem h]
theorem listM_get {L : List (List Int)} {i : Nat} (h : i < L.length) : listC (encM L)[i]? = some ((L.getD i []).length, encI (L.getD i [])) := by
 rw [encM_get, List.getElem?_eq_getElem h]
 simp [List.getD, List.getElem?_eq_getElem h, rowI, listC]
theorem drop_getD {r : List Int} {i : Nat} (h : i < r.length) : r.drop i = r.getD i 0 :: r.drop (i + 1) := by
 rw [List.drop_eq_getElem_cons h]
 simp [List.getD, List.getElem?_eq_getElem h]
theorem drop_getM {r : List (List Int)} {i : Nat} (h : i < r.length) : r.drop i = r.getD i [] :: r.drop (i + 1) := by
 rw [List.drop_eq_getElem_cons h]
 simp [List.getD, List.getElem?_eq_getElem h]
theorem getD_memM {L : List (List Int)} {i : Nat} (h : i < L.length) : L.getD i [] ∈ L := by
 simp [List.getD, List.getElem?_eq_getElem h]
theorem copI_is (r : List Int) (hr : r.length ≤ 1000) : FbCopI [.list r.length (encI r)] = some (r.length, encI r) := by
 refine FbCopI_of _ _ ?_
 unfold tbCopI
 by_cases h0 : r.length = 0
 ·rw [bif_pos h0]
  have : r = [] := List.length_eq_zero_iff.1 h0
  subst this
  rfl
 ·rw [bif_neg h0, bif_pos (by rw [encI_len]; omega), bif_pos ⟨rfl, by unfold big; omega⟩, bif_pos rfl]
  simp
theorem copM_loop (L : List (List Int)) (hL : L.length ≤ 1000) (hr : ∀ r ∈ L, r.length ≤ 1000) : ∀ (m k : Nat), k + m = L.length →
  RrCopM_0 (TrCopM_0b L.length (encM L) k (encM (L.take k)) k k) = exO (XrCopM_0b (L.length, encM L, L.length))
 | 0, k, h => by
  have hk : k = L.length := by omega
  subst hk
  refine RrCopM_0b_of _ _ _ _ _ _ ?_
  unfold BrCopM_0b
  rw [bif_neg (by omega), List.take_of_length_le (Nat.le_refl _)]
  rfl
 | m + 1, k, h => by
  have hk : k < L.length := by omega
  have ih := copM_loop L hL hr m (k + 1) (by omega)
  refine RrCopM_0b_of _ _ _ _ _ _ ?_
  unfold BrCopM_0b
  have hc := copI_is (L.getD k []) (hr _ (getD_memM hk))
  have e : encM (L.take (k + 1)) = encM (L.take k) ++ [PV.list (L.getD k []).length (encI (L.getD k []))] := by
   unfold encM
   rw [List.take_succ_eq_append_getElem hk, List.map_append]
   congr 1
   simp [rowI, List.getD, List.getElem?_eq_getElem hk]
  rw [bif_pos (by omega), bif_pos (by omega)]
  simp only [Int.toNat_natCast, Nat.mul_one, listM_get hk, bindO_val, hc]
  rw [bif_pos ⟨trivial, by unfold big; omega⟩, w64_in (by omega), ← e]
  exact_mod_cast ih
theorem copM_is (L : List (List Int)) (hL : L.length ≤ 1000) (hr : ∀ r ∈ L, r.length ≤ 1000) : FrCopM [.list L.length (encM L)] = some (L.length, encM L) := by
 refine FrCopM_of _ _ ?_
 unfold trCopM
 by_cases h0 : L.length = 0
 ·have hL0 : L = [] := List.length_eq_zero_iff.1 h0
  subst hL0
  have h : RrCopM_0 (TrCopM_0a 0 []) = exO (XrCopM_0a ()) := by
   refine RrCopM_0a_of _ _ ?_
   unfold BrCopM_0a
   rfl
  have h := LrCopM_0a_of h
  simp only [List.length_nil, encM, List.map_nil]
  rw [h]
  rfl
 ·have hk : 0 < L.length := by omega
  have hc := copI_is (L.getD 0 []) (hr _ (getD_memM hk))
  have ih := copM_loop L hL hr (L.length - 1) 1 (by omega)
  have e : encM (L.take 1) = [PV.list (L.getD 0 []).length (encI (L.getD 0 []))] := by
   unfold encM
   rw [List.take_add_one, List.getElem?_eq_getElem hk]
   simp [rowI, List.getD, List.getElem?_eq_getElem hk]
  rw [e] at ih
  have h : RrCopM_0 (TrCopM_0a L.length (encM L)) = exO (XrCopM_0b (L.length, encM L, L.length)) := by
   refine RrCopM_0a_of _ _ ?_
   unfold BrCopM_0a
   rw [bif_pos (by omega), bif_pos (by omega)]
   simp only [listM_get hk, bindO_val, hc]
   exact ih
  have h := LrCopM_0b_of h
  rw [h]
  simp
def okC (x : Int) : Bool := decide (0 ≤ x ∧ x ≤ 10000000)
def rowE (k : Nat) (r : List Int) : Int := if r.length = k then (if r.all okC = true then 0 else 2) else 10
def matF (k : Nat) : List (List Int) → Nat → Option (Int × Int)
 | [], _ => none
 | r :: L, i => if rowE k r = 0 then matF k L (i + 1) else some ((i : Int), rowE k r)
def matV (L : List (List Int)) : Int × Int := if L.length = 0 then (0, 10) else if 6 < L.length then (0, 8) else (matF L.length L 0).getD (0, 0)
theorem rCMat_in (L : List (List Int)) (hL : L.length ≤ 1000) (i : Nat) (hi : i < L.length) (hlen : (L.getD i []).length = L.length) : ∀ (m k : Nat), k + m = L.length →
  RrCMat_2 (TrCMat_2a L.length (encM L) i k) = if ((L.getD i []).drop k).all okC = true then exO (XrCMat_2b (L.length, encM L, i)) else exO (XrCMat_2a i)
 | 0, k, h => by
  rw [List.drop_of_length_le (by omega), List.all_nil, if_pos rfl]
  refine RrCMat_2a_of _ _ _ _ ?_
  unfold BrCMat_2a
  rw [bif_neg (by omega)]
  rfl
 | m + 1, k, h => by
  have ih := rCMat_in L hL i hi hlen m (k + 1) (by omega)
  have hk : k < (L.getD i []).length := by omega
  rw [drop_getD hk, List.all_cons]
  have hs : BrCMat_2a (Fn env) RrCMat_2 exO LrCMat_0 LrCMat_2 L.length (encM L) i k = if okC ((L.getD i []).getD k 0) = true then RrCMat_2 (TrCMat_2a L.length (encM L) i ((k + 1 : Nat) : Int)) else exO (XrCMat_2a i) := by
   unfold BrCMat_2a
   rw [bif_pos (by omega), bif_pos (by omega)]
   simp only [Int.toNat_natCast, Nat.mul_one, listM_get hi, bindO_val]
   rw [bif_pos (by omega)]
   simp only [intI_get hk, bindO_val, bWi_is]
   rw [w64_in (by omega)]
   unfold okC
   by_cases ho : 0 ≤ (L.getD i []).getD k 0 ∧ (L.getD i []).getD k 0 ≤ 10000000
   ·rw [bif_pos ho, if_pos (by simpa using ho)]
    rfl
   ·rw [bif_neg ho, if_neg (by simpa using ho)]
  by_cases ho : okC ((L.getD i []).getD k 0) = true
  ·rw [if_pos ho, ih] at hs
   simp only [ho, Bool.true_and]
   by_cases ha : ((L.getD i []).drop (k + 1)).all okC = true
   ·rw [if_pos ha] at hs ⊢
    exact RrCMat_2a_of _ _ _ _ hs
   ·rw [if_neg ha] at hs ⊢
    exact RrCMat_2a_of _ _ _ _ hs
  ·rw [if_neg ho] at hs
   rw [(Bool.not_eq_true _).mp ho, Bool.false_and, if_neg (by decide)]
   exact RrCMat_2a_of _ _ _ _ hs
theorem rCMat_loop (L : List (List Int)) (hL : L.length ≤ 1000) : ∀ (m i : Nat), i + m = L.length →
  RrCMat_0 (TrCMat_0a L.length (encM L) i) = match matF L.length (L.drop i) i with
   | some y => exO (XrCMat_0a y)
   | none => exO (XrCMat_0b ())
 | 0, i, h => by
  rw [List.drop_of_length_le (by omega)]
  refine RrCMat_0a_of _ _ _ ?_
  unfold BrCMat_0a
  rw [bif_neg (by omega)]
  rfl
 | m + 1, i, h => by
  have ih := rCMat_loop L hL m (i + 1) (by omega)
  have hi : i < L.length := by omega
  rw [drop_getM hi]
  unfold matF
  have hs : BrCMat_0a (Fn env) RrCMat_0 exO LrCMat_0 LrCMat_2 L.length (encM L) i = if rowE L.length (L.getD i []) = 0 then RrCMat_0 (TrCMat_0a L.length (encM L) ((i + 1 : Nat) : Int)) else exO (XrCMat_0a ((i : Int), rowE L.length (L.getD i []))) := by
   unfold BrCMat_0a rowE
   rw [bif_pos (by omega), bif_pos (by omega)]
   simp only [Int.toNat_natCast, Nat.mul_one, listM_get hi, bindO_val]
   by_cases hl : (L.getD i []).length = L.length
   ·have hin := rCMat_in L hL i hi hl L.length 0 (by omega)
    rw [List.drop_zero] at hin
    have e : (((L.getD i []).length : Int) != (L.length : Int)) = false := by rw [hl]; simp
    rw [e, if_pos hl, cond_false]
    by_cases ha : (L.getD i []).all okC = true
    ·rw [if_pos ha] at hin ⊢
     have hin := LrCMat_2b_of hin
     have hin : LrCMat_2 (TrCMat_2a L.length (encM L) i 0) = _ := hin
     rw [hin]
     simp only [bindO_val, Sum.elim_inr]
     rw [w64_in (by omega)]
     rfl
    ·rw [if_neg ha] at hin ⊢
     have hin := LrCMat_2a_of hin
     have hin : LrCMat_2 (TrCMat_2a L.length (encM L) i 0) = _ := hin
     rw [hin]
     rfl
   ·have e : (((L.getD i []).length : Int) != (L.length : Int)) = true := by rw [bne_iff_ne]; omega
    rw [e, if_neg hl]
    rfl
  by_cases hz : rowE L.length (L.getD i []) = 0
  ·rw [if_pos hz] at hs ⊢
   rw [ih] at hs
   generalize matF L.length (L.drop (i + 1)) (i + 1) = x at hs ⊢
   cases x <;> exact RrCMat_0a_of _ _ _ hs
  ·rw [if_neg hz] at hs ⊢
   exact RrCMat_0a_of _ _ _ hs
theorem rCMat_is (L : List (List Int)) : FrCMat [.list L.length (encM L)] = some (matV L) := by
 refine FrCMat_of _ _ ?_
 unfold trCMat matV
 by_cases h0 : L.length = 0
 ·have : ((L.length : Int) == 0) = true := by simp [h0]
  rw [this, if_pos h0]
  rfl
 ·have : ((L.length : Int) == 0) = false := by rw [beq_eq_false_iff_ne]; omega
  rw [this, if_neg h0, cond_false]
  by_cases h6 : 6 < L.length
  ·rw [bif_pos (by omega), if_pos h6]
  ·rw [bif_neg (by omega), if_neg h6]
   have h := rCMat_loop L (by omega) L.length 0 (by omega)
   rw [List.drop_zero] at h
   have h : RrCMat_0 (TrCMat_0a L.length (encM L) 0) = _ := h
   generalize matF L.length L 0 = x at h ⊢
   cases x with
   | none =>
    rw [LrCMat_0b_of h]
    rfl
   | some y =>
    rw [LrCMat_0a_of h]
    rfl
theorem rMatE_is (L : List (List Int)) : FrMatE [.list L.length (encM L)] = some (matV L).2 := by
 refine FrMatE_of _ _ ?_
 unfold trMatE
 have h : Fn env 44 _ [.list L.length (encM L)] = _ := rCMat_is L
 rw [h]
 rfl
def SmallP (L : List (List Int)) : Prop := L.length ≤ 8 ∧ (∀ r ∈ L, r.length ≤ 8) ∧ ((matV L).2 ≠ 0 ∨ L.length ≤ 5)
theorem small_loop (L : List (List Int)) (hL : L.length ≤ 8) : ∀ (m i : Nat), i + m = L.length →
  Rsmall_0 (Tsmall_0a L.length (encM L) i) = if (L.drop i).all (fun r => decide (r.length ≤ 8)) = true then exO (Xsmall_0b (L.length, encM L)) else exO (Xsmall_0a ())
 | 0, i, h => by
  rw [List.drop_of_length_le (by omega), List.all_nil, if_pos rfl]
  refine Rsmall_0a_of _ _ _ ?_
  unfold Bsmall_0a
  rw [bif_neg (by omega)]
  rfl
 | m + 1, i, h => by
  have ih := small_loop L hL m (i + 1) (by omega)
  have hi : i < L.length := by omega
  rw [drop_getM hi, List.all_cons]
  have hs : Bsmall_0a (Fn env) Rsmall_0 exO Lsmall_0 L.length (encM L) i = if (L.getD i []).length ≤ 8 then Rsmall_0 (Tsmall_0a L.length (encM L) ((i + 1 : Nat) : Int)) else exO (Xsmall_0a ()) := by
   unfold Bsmall_0a
   rw [bif_pos (by omega), bif_pos (by omega)]
   simp only [Int.toNat_natCast, Nat.mul_one, listM_get hi, bindO_val]
   rw [w64_in (by omega)]
   by_cases ho : (L.getD i []).length ≤ 8
   ·rw [bif_neg (by omega), if_pos ho]
    rfl
   ·rw [bif_pos (by omega), if_neg ho]
  by_cases ho : (L.getD i []).length ≤ 8
  ·rw [if_pos ho, ih] at hs
   simp only [ho, decide_true, Bool.true_and]
   split at hs
   ·rename_i ha
    rw [if_pos ha]
    exact Rsmall_0a_of _ _ _ hs
   ·rename_i ha
    rw [if_neg ha]
    exact Rsmall_0a_of _ _ _ hs
  ·rw [if_neg ho] at hs
   rw [if_neg (by simp only [ho, decide_false, Bool.false_and]; simp)]
   exact Rsmall_0a_of _ _ _ hs
instance (L : List (List Int)) : Decidable (SmallP L) := by unfold SmallP; infer_instance
theorem small_is (L : List (List Int)) : Fsmall [.list L.length (encM L)] = some (decide (SmallP L)) := by
 refine Fsmall_of _ _ ?_
 unfold tsmall
 by_cases h8 : L.length ≤ 8
 ·rw [bif_neg (by omega)]
  have h := small_loop L h8 L.length 0 (by omega)
  rw [List.drop_zero] at h
  have h : Rsmall_0 (Tsmall_0a L.length (encM L) 0) = _ := h
  by_cases ha : L.all (fun r => decide (r.length ≤ 8)) = true
  ·rw [if_pos ha] at h
   rw [Lsmall_0b_of h]
   have hm : Fn env 8 _ [.list L.length (encM L)] = _ := rMatE_is L
   simp only [bindO_val, Sum.elim_inr, hm, bif_ne]
   have hr : ∀ r ∈ L, r.length ≤ 8 := by simpa using ha
   by_cases hz : (matV L).2 = 0
   ·rw [if_pos hz]
    by_cases h5 : L.length ≤ 5
    ·rw [bif_pos (by omega)]
     exact congrArg some (decide_eq_true ⟨h8, hr, .inr h5⟩).symm
    ·rw [bif_neg (by omega)]
     exact congrArg some (decide_eq_false fun h => h.2.2.elim (fun k => k hz) h5).symm
   ·rw [if_neg hz]
    exact congrArg some (decide_eq_true ⟨h8, hr, .inl hz⟩).symm
  ·rw [if_neg ha] at h
   rw [Lsmall_0a_of h]
   simp only [bindO_val, Sum.elim_inl]
   exact congrArg some (decide_eq_false fun h => ha (by simpa using h.2.1)).symm
 ·rw [bif_pos (by omega)]
  exact congrArg some (decide_eq_false fun h => h8 h.1).symm
theorem matF_none {k : Nat} : ∀ {L : List (List Int)} {i : Nat}, matF k L i = none → ∀ r ∈ L, rowE k r = 0
 | [], _, _ => fun r h => by cases h
 | x :: L, i, h => by
  unfold matF at h
  split at h
  ·rename_i hz
   intro r hr
   rcases List.mem_cons.1 hr with rfl | hr
   ·exact hz
   ·exact matF_none h r hr
  ·cases h
theorem matF_err {k : Nat} : ∀ {L : List (List Int)} {i : Nat} {y : Int × Int}, matF k L i = some y → y.2 ≠ 0
 | [], _, _, h => by cases h
 | x :: L, i, y, h => by
  unfold matF at h
  split at h
  ·exact matF_err h
  ·rename_i hz
   simp only [Option.some.injEq] at h
   subst h
   exact hz
theorem matV_ok {L : List (List Int)} (h : (matV L).2 = 0) : matV L = (0, 0) ∧ 0 < L.length ∧ L.length ≤ 6 ∧ ∀ r ∈ L, r.length = L.length ∧ ∀ x ∈ r, 0 ≤ x ∧ x ≤ 10000000 := by
 unfold matV at h ⊢
 split at h
 ·cases h
 ·rename_i h0
  rw [if_neg h0]
  split at h
  ·cases h
  ·rename_i h6
   rw [if_neg h6]
   cases hm : matF L.length L 0 with
   | some y =>
    rw [hm] at h
    exact absurd h (matF_err hm)
   | none =>
    refine ⟨rfl, by omega, by omega, fun r hr => ?_⟩
    have := matF_none hm r hr
    unfold rowE at this
    split at this
    ·rename_i hl
     split at this
     ·rename_i ha
      refine ⟨hl, fun x hx => ?_⟩
      have := List.all_eq_true.1 ha x hx
      simpa [okC] using this
     ·cases this
    ·cases this
def Zm (L : List (List Int)) (i j : Nat) : Int := (L.getD i []).getD j 0
def sumW (Z : Nat → Nat → Int) (b : List Nat) (i : Nat) (a : Int) : Int := ((List.range b.length).drop i).foldl (fun a i => w64 (a + Z i (b.getD i 0))) a
theorem sumW_step (Z : Nat → Nat → Int) {b : List Nat} {i : Nat} (h : i < b.length) (a : Int) : sumW Z b i a = sumW Z b (i + 1) (w64 (a + Z i (b.getD i 0))) := by
 unfold sumW
 rw [List.drop_eq_getElem_cons (by simpa using h), List.foldl_cons]
 simp
theorem sumW_end (Z : Nat → Nat → Int) (b : List Nat) (a : Int) : sumW Z b b.length a = a := by
 unfold sumW
 rw [List.drop_of_length_le (by simp)]
 rfl
theorem getD_nat {a : List Int} {i : Nat} (h : i < a.length) : (a.map Int.toNat).getD i 0 = (a.getD i 0).toNat := by
 simp [List.getD, List.getElem?_eq_getElem h]
theorem rCost_loop (L : List (List Int)) (hL : L.length ≤ 1000) (hr : ∀ r ∈ L, r.length = L.length) (a : List Int) (ha : a.length ≤ L.length) (hc : ∀ x ∈ a, 0 ≤ x ∧ x < L.length) : ∀ (m i : Nat) (s : Int), i + m = a.length →
  RrCost_0 (TrCost_0a L.length (encM L) a.length (encI a) s i) = exO (XrCost_0a (sumW (Zm L) (a.map Int.toNat) i s))
 | 0, i, s, h => by
  have : i = (a.map Int.toNat).length := by simp; omega
  subst this
  rw [sumW_end]
  refine RrCost_0a_of _ _ _ _ _ _ ?_
  unfold BrCost_0a
  rw [bif_neg (by simp)]
  rfl
 | m + 1, i, s, h => by
  have hi : i < a.length := by omega
  have hL' : i < L.length := by omega
  have hx := hc (a.getD i 0) (by simp [List.getD, List.getElem?_eq_getElem hi])
  have hrl := hr _ (getD_memM hL')
  refine RrCost_0a_of _ _ _ _ _ _ ?_
  unfold BrCost_0a
  rw [bif_pos (by omega), bif_pos (by omega)]
  simp only [Int.toNat_natCast, Nat.mul_one, listM_get hL', bindO_val]
  rw [bif_pos (by omega)]
  simp only [intI_get hi, bindO_val]
  rw [bif_pos (by omega)]
  have hj : (a.getD i 0).toNat < (L.getD i []).length := by omega
  simp only [intI_get hj, bindO_val]
  rw [w64_in (n := (i : Int) + 1) (by omega)]
  have ih := rCost_loop L hL hr a ha hc m (i + 1) (w64 (s + (L.getD i []).getD (a.getD i 0).toNat 0)) (by omega)
  rw [sumW_step _ (by simpa using hi), getD_nat hi]
  exact_mod_cast ih
theorem sumW_zero (Z : Nat → Nat → Int) (b : List Nat) : sumW Z b 0 0 = (List.range b.length).foldl (fun a i => w64 (a + Z i (b.getD i 0))) 0 := by unfold sumW; rw [List.drop_zero]
theorem rCost_is (L : List (List Int)) (hL : L.length ≤ 1000) (hr : ∀ r ∈ L, r.length = L.length) (a : List Int) (ha : a.length ≤ L.length) (hc : ∀ x ∈ a, 0 ≤ x ∧ x < L.length) :
  FrCost [.list L.length (encM L), .list a.length (encI a)] = some (sumW (Zm L) (a.map Int.toNat) 0 0) := by
 refine FrCost_of _ _ _ _ ?_
 unfold trCost
 have h := LrCost_0a_of (rCost_loop L hL hr a ha hc a.length 0 0 (by omega))
 have h : LrCost_0 (TrCost_0a L.length (encM L) a.length (encI a) 0 0) = _ := h
 rw [h]
 rfl
theorem wCost_loop (L : List (List Int)) (hL : L.length ≤ 1000) (hr : ∀ r ∈ L, r.length = L.length) (a : List Int) (ha : a.length ≤ L.length) (hc : ∀ x ∈ a, 0 ≤ x ∧ x < L.length) : ∀ (m i : Nat) (s : Int), i + m = a.length →
  RwCost_0 (TwCost_0a L.length (encM L) s a.length (encI a) a.length i) = exO (XwCost_0a (sumW (Zm L) (a.map Int.toNat) i s))
 | 0, i, s, h => by
  have : i = (a.map Int.toNat).length := by simp; omega
  subst this
  rw [sumW_end]
  refine RwCost_0a_of _ _ _ _ _ _ _ ?_
  unfold BwCost_0a
  rw [bif_neg (by simp)]
  rfl
 | m + 1, i, s, h => by
  have hi : i < a.length := by omega
  have hL' : i < L.length := by omega
  have hx := hc (a.getD i 0) (by simp [List.getD, List.getElem?_eq_getElem hi])
  have hrl := hr _ (getD_memM hL')
  refine RwCost_0a_of _ _ _ _ _ _ _ ?_
  unfold BwCost_0a
  rw [bif_pos (by omega), bif_pos (by omega)]
  simp only [Int.toNat_natCast, Nat.mul_one, intI_get hi, bindO_val]
  rw [bif_pos (by omega)]
  simp only [listM_get hL', bindO_val]
  rw [bif_pos (by omega)]
  have hj : (a.getD i 0).toNat < (L.getD i []).length := by omega
  simp only [intI_get hj, bindO_val]
  rw [w64_in (n := (i : Int) + 1) (by omega)]
  have ih := wCost_loop L hL hr a ha hc m (i + 1) (w64 (s + (L.getD i []).getD (a.getD i 0).toNat 0)) (by omega)
  rw [sumW_step _ (by simpa using hi), getD_nat hi]
  exact_mod_cast ih
theorem wCost_is (L : List (List Int)) (hL : L.length ≤ 1000) (hr : ∀ r ∈ L, r.length = L.length) (a : List Int) (ha : a.length ≤ L.length) (hc : ∀ x ∈ a, 0 ≤ x ∧ x < L.length) :
  FwCost [.list L.length (encM L), .list a.length (encI a)] = some (sumW (Zm L) (a.map Int.toNat) 0 0) := by
 refine FwCost_of _ _ _ _ ?_
 unfold twCost
 have h := LwCost_0a_of (wCost_loop L hL hr a ha hc a.length 0 0 (by omega))
 have h : LwCost_0 (TwCost_0a L.length (encM L) 0 a.length (encI a) a.length 0) = _ := h
 rw [h]
 rfl
end Gv

/- Errors of matrices and of assignments. -/
namespace Gv
open Go
set_option maxRecDepth 100000
theorem cMat_in (r : List Int) (hr : r.length ≤ 1000) : ∀ (m k : Nat), k + m = r.length →
  ∃ j e : Int, RcMat_900000000 (TcMat_900000000a r.length (encI r) r.length k) = (if (r.drop k).all okC = true then exO (XcMat_900000000b ()) else exO (XcMat_900000000a (j, 2))) ∧ e = 0
 | 0, k, h => by
  refine ⟨0, 0, ?_, rfl⟩
  rw [List.drop_of_length_le (by omega), List.all_nil, if_pos rfl]
  refine RcMat_900000000a_of _ _ _ _ ?_
  unfold BcMat_900000000a
  rw [bif_neg (by omega)]
  rfl
 | m + 1, k, h => by
  obtain ⟨j, _, ih, _⟩ := cMat_in r hr m (k + 1) (by omega)
  have hk : k < r.length := by omega
  have hs : BcMat_900000000a (Fn env) RcMat_900000000 exO LcMat_1450000000 LcMat_900000000 r.length (encI r) r.length k = if okC (r.getD k 0) = true then RcMat_900000000 (TcMat_900000000a r.length (encI r) r.length ((k + 1 : Nat) : Int)) else exO (XcMat_900000000a ((k : Int), 2)) := by
   unfold BcMat_900000000a
   have hE := rE_is (r.getD k 0) 0 10000000
   rw [bif_pos (by omega), bif_pos (by omega)]
   simp only [Int.toNat_natCast, Nat.mul_one, intI_get hk, bindO_val, hE, bif_ne]
   rw [w64_in (by omega), rangeE_if]
   unfold okC
   by_cases ho : 0 ≤ r.getD k 0 ∧ r.getD k 0 ≤ 10000000
   ·rw [if_pos ho, if_pos rfl, if_pos (by simpa using ho)]
    rfl
   ·rw [if_neg ho, if_neg (by decide), if_neg (by simpa using ho)]
  rw [drop_getD hk, List.all_cons]
  by_cases ho : okC (r.getD k 0) = true
  ·rw [if_pos ho, ih] at hs
   refine ⟨j, 0, ?_, rfl⟩
   simp only [ho, Bool.true_and]
   by_cases ha : (r.drop (k + 1)).all okC = true
   ·rw [if_pos ha] at hs ⊢
    exact RcMat_900000000a_of _ _ _ _ hs
   ·rw [if_neg ha] at hs ⊢
    exact RcMat_900000000a_of _ _ _ _ hs
  ·rw [if_neg ho] at hs
   refine ⟨k, 0, ?_, rfl⟩
   rw [(Bool.not_eq_true _).mp ho, Bool.false_and, if_neg (by decide)]
   exact RcMat_900000000a_of _ _ _ _ hs
theorem cMat_loop (L : List (List Int)) (hL : L.length ≤ 1000) (hr : ∀ r ∈ L, r.length ≤ 1000) : ∀ (m i : Nat), i + m = L.length →
  RcMat_1450000000 (TcMat_1450000000a L.length (encM L) L.length (encM L) L.length i) = match matF L.length (L.drop i) i with
   | some y => exO (XcMat_1450000000b y)
   | none => exO (XcMat_1450000000a ())
 | 0, i, h => by
  rw [List.drop_of_length_le (by omega)]
  refine RcMat_1450000000a_of _ _ _ _ _ _ ?_
  unfold BcMat_1450000000a
  rw [bif_neg (by omega)]
  rfl
 | m + 1, i, h => by
  have ih := cMat_loop L hL hr m (i + 1) (by omega)
  have hi : i < L.length := by omega
  rw [drop_getM hi]
  unfold matF
  have hs : BcMat_1450000000a (Fn env) RcMat_1450000000 exO LcMat_1450000000 LcMat_900000000 L.length (encM L) L.length (encM L) L.length i = if rowE L.length (L.getD i []) = 0 then RcMat_1450000000 (TcMat_1450000000a L.length (encM L) L.length (encM L) L.length ((i + 1 : Nat) : Int)) else exO (XcMat_1450000000b ((i : Int), rowE L.length (L.getD i []))) := by
   obtain ⟨j, _, hin, _⟩ := cMat_in (L.getD i []) (hr _ (getD_memM hi)) _ 0 (Nat.zero_add _)
   rw [List.drop_zero] at hin
   unfold BcMat_1450000000a rowE
   rw [bif_pos (by omega), bif_pos (by omega)]
   simp only [Int.toNat_natCast, Nat.mul_one, listM_get hi, bindO_val, eIf_is, fE2_is, bif_ne]
   rw [w64_in (by omega)]
   by_cases ha : (L.getD i []).all okC = true
   ·rw [if_pos ha] at hin ⊢
    have hin := LcMat_900000000b_of hin
    have hin : LcMat_900000000 (TcMat_900000000a (L.getD i []).length (encI (L.getD i [])) (L.getD i []).length 0) = _ := hin
    rw [hin]
    simp only [bindO_val, Sum.elim_inr]
    by_cases hl : (L.getD i []).length = L.length
    ·rw [if_pos (by omega), if_pos hl]
     simp only [both]
     rfl
    ·rw [if_neg (by omega), if_neg hl]
     simp only [both]
     rfl
   ·rw [if_neg ha] at hin ⊢
    have hin := LcMat_900000000a_of hin
    have hin : LcMat_900000000 (TcMat_900000000a (L.getD i []).length (encI (L.getD i [])) (L.getD i []).length 0) = _ := hin
    rw [hin]
    simp only [bindO_val, Sum.elim_inl]
    by_cases hl : (L.getD i []).length = L.length
    ·rw [if_pos (by omega), if_pos hl]
     simp only [both]
     rfl
    ·rw [if_neg (by omega), if_neg hl]
     simp only [both]
     rfl
  by_cases hz : rowE L.length (L.getD i []) = 0
  ·rw [if_pos hz] at hs ⊢
   rw [ih] at hs
   generalize matF L.length (L.drop (i + 1)) (i + 1) = x at hs ⊢
   cases x <;> exact RcMat_1450000000a_of _ _ _ _ _ _ hs
  ·rw [if_neg hz] at hs ⊢
   exact RcMat_1450000000a_of _ _ _ _ _ _ hs
theorem cMat_is (L : List (List Int)) (hr : ∀ r ∈ L, r.length ≤ 1000) : FcMat [.list L.length (encM L)] = some (matV L) := by
 refine FcMat_of _ _ ?_
 unfold tcMat matV
 by_cases h0 : L.length = 0
 ·have : ((L.length : Int) == 0) = true := by simp [h0]
  rw [this, if_pos h0]
  rfl
 ·have : ((L.length : Int) == 0) = false := by rw [beq_eq_false_iff_ne]; omega
  rw [this, if_neg h0, cond_false]
  by_cases h6 : 6 < L.length
  ·rw [bif_pos (by omega), if_pos h6]
  ·rw [bif_neg (by omega), if_neg h6]
   have h := cMat_loop L (by omega) hr L.length 0 (by omega)
   rw [List.drop_zero] at h
   have h : RcMat_1450000000 (TcMat_1450000000a L.length (encM L) L.length (encM L) L.length 0) = _ := h
   generalize matF L.length L 0 = x at h ⊢
   cases x with
   | none =>
    rw [LcMat_1450000000a_of h]
    rfl
   | some y =>
    rw [LcMat_1450000000b_of h]
    rfl
theorem matE_is (L : List (List Int)) (hr : ∀ r ∈ L, r.length ≤ 1000) : FmatE [.list L.length (encM L)] = some (matV L).2 := by
 refine FmatE_of _ _ ?_
 unfold tmatE
 have h : Fn env 91 _ [.list L.length (encM L)] = _ := cMat_is L hr
 rw [h]
 rfl
theorem bHas_loop (r : List Int) (hr : r.length ≤ 1000) (x : Int) : ∀ (m k : Nat), k + m = r.length →
  RbHas_0 (TbHas_0a r.length (encI r) x k) = if (r.drop k).contains x = true then exO (XbHas_0a ()) else exO (XbHas_0b ())
 | 0, k, h => by
  rw [List.drop_of_length_le (by omega), if_neg (by simp)]
  refine RbHas_0a_of _ _ _ _ ?_
  unfold BbHas_0a
  rw [bif_neg (by omega)]
  rfl
 | m + 1, k, h => by
  have ih := bHas_loop r hr x m (k + 1) (by omega)
  have hk : k < r.length := by omega
  have hs : BbHas_0a (Fn env) RbHas_0 exO LbHas_0 r.length (encI r) x k = if x = r.getD k 0 then exO (XbHas_0a ()) else RbHas_0 (TbHas_0a r.length (encI r) x ((k + 1 : Nat) : Int)) := by
   unfold BbHas_0a
   rw [bif_pos (by omega), bif_pos (by omega)]
   simp only [Int.toNat_natCast, Nat.mul_one, intI_get hk, bindO_val]
   rw [w64_in (by omega)]
   by_cases he : x = r.getD k 0
   ·rw [if_pos he, ← he]
    simp
   ·have e : (r.getD k 0 == x) = false := by rw [beq_eq_false_iff_ne]; exact fun h => he h.symm
    rw [if_neg he, e]
    rfl
  rw [drop_getD hk, List.contains_cons]
  by_cases he : x = r.getD k 0
  ·rw [if_pos he] at hs
   rw [if_pos (by rw [Bool.or_eq_true]; exact .inl (by rw [beq_iff_eq]; exact he))]
   exact RbHas_0a_of _ _ _ _ hs
  ·rw [if_neg he, ih] at hs
   have e : (x == r.getD k 0) = false := by rw [beq_eq_false_iff_ne]; exact he
   rw [e, Bool.false_or]
   split at hs
   ·rename_i ha
    rw [if_pos ha]
    exact RbHas_0a_of _ _ _ _ hs
   ·rename_i ha
    rw [if_neg ha]
    exact RbHas_0a_of _ _ _ _ hs
theorem bHas_is (r : List Int) (hr : r.length ≤ 1000) (x : Int) : FbHas [.list r.length (encI r), .int .i64 x] = some (r.contains x) := by
 refine FbHas_of _ _ _ ?_
 unfold tbHas
 have h := bHas_loop r hr x r.length 0 (by omega)
 rw [List.drop_zero] at h
 have h : RbHas_0 (TbHas_0a r.length (encI r) x 0) = _ := h
 split at h
 ·rename_i ha
  rw [LbHas_0a_of h, ha]
  rfl
 ·rename_i ha
  rw [LbHas_0b_of h, (Bool.not_eq_true _).mp ha]
  rfl
theorem sCon_loop (r : List Int) (hr : r.length ≤ 1000) (x : Int) : ∀ (m k : Nat), k + m = r.length →
  ∃ j : Nat, RsCon_1520000000 (TsCon_1520000000a r.length (encI r) x r.length k) = if (r.drop k).contains x = true then exO (XsCon_1520000000a (j : Int)) else exO (XsCon_1520000000b ())
 | 0, k, h => by
  refine ⟨0, ?_⟩
  rw [List.drop_of_length_le (by omega), if_neg (by simp)]
  refine RsCon_1520000000a_of _ _ _ _ _ ?_
  unfold BsCon_1520000000a
  rw [bif_neg (by omega)]
  rfl
 | m + 1, k, h => by
  obtain ⟨j, ih⟩ := sCon_loop r hr x m (k + 1) (by omega)
  have hk : k < r.length := by omega
  have hs : BsCon_1520000000a (Fn env) RsCon_1520000000 exO LsCon_1520000000 r.length (encI r) x r.length k = if x = r.getD k 0 then exO (XsCon_1520000000a (k : Int)) else RsCon_1520000000 (TsCon_1520000000a r.length (encI r) x r.length ((k + 1 : Nat) : Int)) := by
   unfold BsCon_1520000000a
   rw [bif_pos (by omega), bif_pos (by omega)]
   simp only [Int.toNat_natCast, Nat.mul_one, intI_get hk, bindO_val]
   rw [w64_in (by omega)]
   by_cases he : x = r.getD k 0
   ·rw [if_pos he, ← he]
    simp
   ·have e : (x == r.getD k 0) = false := by rw [beq_eq_false_iff_ne]; exact he
    rw [if_neg he, e]
    rfl
  rw [drop_getD hk, List.contains_cons]
  by_cases he : x = r.getD k 0
  ·rw [if_pos he] at hs
   refine ⟨k, ?_⟩
   rw [if_pos (by rw [Bool.or_eq_true]; exact .inl (by rw [beq_iff_eq]; exact he))]
   exact RsCon_1520000000a_of _ _ _ _ _ hs
  ·rw [if_neg he, ih] at hs
   refine ⟨j, ?_⟩
   have e : (x == r.getD k 0) = false := by rw [beq_eq_false_iff_ne]; exact he
   rw [e, Bool.false_or]
   split at hs
   ·rename_i ha
    rw [if_pos ha]
    exact RsCon_1520000000a_of _ _ _ _ _ hs
   ·rename_i ha
    rw [if_neg ha]
    exact RsCon_1520000000a_of _ _ _ _ _ hs
theorem sCon_is (r : List Int) (hr : r.length ≤ 1000) (x : Int) : FsCon [.list r.length (encI r), .int .i64 x] = some (r.contains x) := by
 refine FsCon_of _ _ _ ?_
 unfold tsCon
 obtain ⟨j, h⟩ := sCon_loop r hr x r.length 0 (by omega)
 rw [List.drop_zero] at h
 have h : RsCon_1520000000 (TsCon_1520000000a r.length (encI r) x r.length 0) = _ := h
 split at h
 ·rename_i ha
  rw [LsCon_1520000000a_of h, ha]
  simp only [bindO_val, Sum.elim_inl]
  rw [bif_pos (by omega)]
 ·rename_i ha
  rw [LsCon_1520000000b_of h, (Bool.not_eq_true _).mp ha]
  rfl
def sumI (r : List Int) (i : Nat) (a : Int) : Int := (r.drop i).foldl (fun a x => w64 (a + x)) a
theorem sumO_loop (r : List Int) (hr : r.length ≤ 1000) : ∀ (m i : Nat) (s : Int), i + m = r.length →
  RsumO_0 (TsumO_0a s r.length (encI r) r.length i) = exO (XsumO_0a (sumI r i s))
 | 0, i, s, h => by
  refine RsumO_0a_of _ _ _ _ _ ?_
  unfold BsumO_0a sumI
  rw [bif_neg (by omega), List.drop_of_length_le (by omega)]
  rfl
 | m + 1, i, s, h => by
  have hi : i < r.length := by omega
  have ih := sumO_loop r hr m (i + 1) (w64 (s + r.getD i 0)) (by omega)
  refine RsumO_0a_of _ _ _ _ _ ?_
  unfold BsumO_0a
  rw [bif_pos (by omega), bif_pos (by omega)]
  simp only [Int.toNat_natCast, Nat.mul_one, intI_get hi, bindO_val]
  rw [w64_in (n := (i : Int) + 1) (by omega)]
  have e : sumI r i s = sumI r (i + 1) (w64 (s + r.getD i 0)) := by unfold sumI; rw [drop_getD hi, List.foldl_cons]
  rw [e]
  exact_mod_cast ih
theorem sumO_is (r : List Int) (hr : r.length ≤ 1000) : FsumO [.list r.length (encI r)] = some (sumI r 0 0) := by
 refine FsumO_of _ _ ?_
 unfold tsumO
 have h := LsumO_0a_of (sumO_loop r hr r.length 0 0 (by omega))
 have h : LsumO_0 (TsumO_0a 0 r.length (encI r) r.length 0) = _ := h
 rw [h]
 rfl
end Gv

/- An assignment with potentials, as the reference checks it. -/
namespace Gv
open Go
set_option maxRecDepth 100000
def errF (f : Nat → Int) : Nat → Nat → Option (Int × Int)
 | 0, _ => none
 | m + 1, i => if f i = 0 then errF f m (i + 1) else some ((i : Int), f i)
theorem errF_none {f : Nat → Int} : ∀ {m i : Nat}, errF f m i = none → ∀ j, i ≤ j → j < i + m → f j = 0
 | 0, _, _ => fun j h1 h2 => by omega
 | m + 1, i, h => by
  unfold errF at h
  split at h
  ·rename_i hz
   intro j h1 h2
   by_cases e : j = i
   ·subst e; exact hz
   ·exact errF_none h j (by omega) (by omega)
  ·cases h
def colV (n : Nat) (a : List Int) (i : Nat) : Int := if 0 ≤ a.getD i 0 ∧ a.getD i 0 ≤ (n : Int) - 1 then (if (a.take i).contains (a.getD i 0) = true then 21 else 0) else 6
def potV (R C : List Int) (i : Nat) : Int := both (rangeE (R.getD i 0) (-60000000) 60000000) (rangeE (C.getD i 0) (-60000000) 60000000)
def excF (L : List (List Int)) (R C : List Int) (i : Nat) : Nat → Nat → Bool
 | 0, _ => false
 | m + 1, k => decide (Zm L i k < w64 (R.getD i 0 + C.getD k 0)) || excF L R C i m (k + 1)
def excV (L : List (List Int)) (R C : List Int) (i : Nat) : Int := if excF L R C i L.length 0 = true then 17 else 0
def sumRC : List Int → List Int → Int → Int
 | x :: R, y :: C, s => sumRC R C (w64 (w64 (s + x) + y))
 | _, _, s => s
def casV (L : List (List Int)) (a R C : List Int) : Int × Int :=
 if a.length = L.length ∧ R.length = L.length ∧ C.length = L.length then
  match errF (colV L.length a) L.length 0 with
  | some y => y
  | none => match errF (potV R C) L.length 0 with
   | some y => y
   | none => match errF (excV L R C) L.length 0 with
    | some y => y
    | none => if sumRC R C 0 = sumW (Zm L) (a.map Int.toNat) 0 0 then (0, 0) else (0, 13)
 else (0, 10)
section
variable (L : List (List Int)) (hL : L.length ≤ 1000) (a R C : List Int) (ha : a.length = L.length) (hR : R.length = L.length) (hC : C.length = L.length)
include hL ha hR hC
end
theorem colV_zero {n : Nat} {a : List Int} {i : Nat} (h : colV n a i = 0) : 0 ≤ a.getD i 0 ∧ a.getD i 0 < n := by
 unfold colV at h
 split at h
 ·omega
 ·cases h
theorem cols_ok {n : Nat} {a : List Int} (ha : a.length = n) (h : errF (colV n a) n 0 = none) : ∀ x ∈ a, 0 ≤ x ∧ x < n := by
 intro x hx
 obtain ⟨i, hi, rfl⟩ := List.getElem_of_mem hx
 have := colV_zero (errF_none h i (by omega) (by omega))
 simpa [List.getD, List.getElem?_eq_getElem hi] using this
end Gv

/- The parts of the program's check of an assignment. -/
namespace Gv
open Go
set_option maxRecDepth 100000
theorem colE_is (a : List Int) (ha : a.length ≤ 1000) (i : Nat) (hi : i < a.length) : FcolE [.list a.length (encI a), .int .i64 (i : Int)] = some (colV a.length a i) := by
 refine FcolE_of _ _ _ ?_
 unfold tcolE
 have hH := sCon_is (a.take i) (by rw [List.length_take]; omega) (a.getD i 0)
 have et : (encI a).take i = encI (a.take i) := by unfold encI; rw [List.map_take]
 have el : (a.take i).length = i := by rw [List.length_take]; omega
 rw [el] at hH
 rw [bif_pos (by omega)]
 simp only [Int.toNat_natCast, Nat.mul_one, intI_get hi, bindO_val, eIf_is]
 by_cases h1 : a.getD i 0 < 0
 ·have hv : colV a.length a i = 6 := by unfold colV; rw [if_neg (by omega)]
  rw [hv, bif_pos h1, bif_pos (by omega), bif_pos (by rw [encI_len]; omega)]
  simp only [Nat.sub_zero, List.drop_zero, et, hH, bindO_val, fE2_is, both]
  cases (a.take i).contains (a.getD i 0) <;> rfl
 ·rw [bif_neg h1]
  by_cases h2 : a.getD i 0 ≥ (a.length : Int)
  ·have hv : colV a.length a i = 6 := by unfold colV; rw [if_neg (by omega)]
   rw [hv, bif_pos h2, bif_pos (by omega), bif_pos (by rw [encI_len]; omega)]
   simp only [Nat.sub_zero, List.drop_zero, et, hH, bindO_val, fE2_is, both]
   cases (a.take i).contains (a.getD i 0) <;> rfl
  ·have hv : colV a.length a i = if (a.take i).contains (a.getD i 0) = true then 21 else 0 := by unfold colV; rw [if_pos (by omega)]
   rw [hv, bif_neg h2, bif_pos (by omega), bif_pos (by rw [encI_len]; omega)]
   simp only [Nat.sub_zero, List.drop_zero, et, hH, bindO_val, fE2_is, both]
   cases (a.take i).contains (a.getD i 0) <;> rfl
def encP (a R C : List Int) : PV := .agg [.list a.length (encI a), .list R.length (encI R), .list C.length (encI C)]
theorem potE_is (a R C : List Int) (i : Nat) (h1 : i < R.length) (h2 : i < C.length) : FpotE [encP a R C, .int .i64 (i : Int)] = some (potV R C i) := by
 refine FpotE_of _ _ _ _ _ _ _ ?_
 unfold tpotE potV
 rw [bif_pos (by omega)]
 simp only [Int.toNat_natCast, Nat.mul_one, intI_get h1, bindO_val, rE_is]
 rw [bif_pos (by omega)]
 simp only [intI_get h2, bindO_val, fE2_is]
theorem isEx_loop (L : List (List Int)) (a R C : List Int) (hL : L.length ≤ 1000) (hR : R.length = L.length) (hC : C.length = L.length) (i : Nat) (hi : i < L.length) (hr : (L.getD i []).length = L.length) : ∀ (m k : Nat), k + m = L.length →
  RisEx_0 (TisEx_0a i (L.getD i []).length (encI (L.getD i [])) (L.getD i []).length k a.length (encI a) R.length (encI R) C.length (encI C)) = if excF L R C i m k = true then exO (XisEx_0a ()) else exO (XisEx_0b (a.length, encI a, R.length, encI R, C.length, encI C))
 | 0, k, h => by
  refine RisEx_0a_of _ _ _ _ _ _ _ _ _ _ _ ?_
  unfold BisEx_0a
  rw [bif_neg (by omega)]
  rfl
 | m + 1, k, h => by
  have ih := isEx_loop L a R C hL hR hC i hi hr m (k + 1) (by omega)
  have hi1 : i < R.length := by omega
  have hk2 : k < C.length := by omega
  have hk : k < (L.getD i []).length := by omega
  unfold excF
  have hs : BisEx_0a (Fn env) RisEx_0 exO LisEx_0 i (L.getD i []).length (encI (L.getD i [])) (L.getD i []).length k a.length (encI a) R.length (encI R) C.length (encI C) = if Zm L i k < w64 (R.getD i 0 + C.getD k 0) then exO (XisEx_0a ()) else RisEx_0 (TisEx_0a i (L.getD i []).length (encI (L.getD i [])) (L.getD i []).length ((k + 1 : Nat) : Int) a.length (encI a) R.length (encI R) C.length (encI C)) := by
   unfold BisEx_0a Zm
   rw [bif_pos (by omega), bif_pos (by omega)]
   simp only [Int.toNat_natCast, Nat.mul_one, intI_get hk, bindO_val]
   rw [bif_pos (by omega)]
   simp only [intI_get hi1, bindO_val]
   rw [bif_pos (by omega)]
   simp only [intI_get hk2, bindO_val]
   rw [w64_in (n := (k : Int) + 1) (by omega)]
   rw [bif_dec]
   rfl
  by_cases hz : Zm L i k < w64 (R.getD i 0 + C.getD k 0)
  ·rw [if_pos hz] at hs
   simp only [hz, decide_true, Bool.true_or, if_true]
   exact RisEx_0a_of _ _ _ _ _ _ _ _ _ _ _ hs
  ·rw [if_neg hz, ih] at hs
   simp only [hz, decide_false, Bool.false_or]
   split at hs
   ·rename_i he
    rw [if_pos he]
    exact RisEx_0a_of _ _ _ _ _ _ _ _ _ _ _ hs
   ·rename_i he
    rw [if_neg he]
    exact RisEx_0a_of _ _ _ _ _ _ _ _ _ _ _ hs
theorem isEx_is (L : List (List Int)) (a R C : List Int) (hL : L.length ≤ 1000) (hR : R.length = L.length) (hC : C.length = L.length) (i : Nat) (hi : i < L.length) (hr : (L.getD i []).length = L.length) :
  FisEx [.list (L.getD i []).length (encI (L.getD i [])), encP a R C, .int .i64 (i : Int)] = some (excF L R C i L.length 0) := by
 refine FisEx_of _ _ _ _ _ _ _ _ _ ?_
 unfold tisEx
 have h := isEx_loop L a R C hL hR hC i hi hr L.length 0 (by omega)
 have h : RisEx_0 (TisEx_0a i (L.getD i []).length (encI (L.getD i [])) (L.getD i []).length 0 a.length (encI a) R.length (encI R) C.length (encI C)) = _ := h
 split at h
 ·rename_i he
  rw [LisEx_0a_of h, he]
  rfl
 ·rename_i he
  rw [LisEx_0b_of h, (Bool.not_eq_true _).mp he]
  rfl
theorem sumI_is {B : Int} : ∀ (r : List Int) (s : Int), (∀ x ∈ r, -B ≤ x ∧ x ≤ B) → 0 ≤ B → B ≤ 100000000 → -(1000000000000 - r.length * B) ≤ s ∧ s ≤ 1000000000000 - r.length * B → r.foldl (fun a x => w64 (a + x)) s = s + r.sum
 | [], s, _, _, _, _ => by simp
 | x :: r, s, h, h0, hB, hs => by
  have hx := h x (by simp)
  have e : (((x :: r).length : Nat) : Int) * B = r.length * B + B := by rw [List.length_cons, Int.natCast_add, Int.add_mul]; simp
  rw [e] at hs
  have hn : 0 ≤ (r.length : Int) * B := Int.mul_nonneg (by omega) h0
  rw [List.foldl_cons, w64_in (by omega), sumI_is r (s + x) (fun y hy => h y (by simp [hy])) h0 hB (by omega), List.sum_cons]
  omega
theorem sumRC_is {B : Int} : ∀ (R C : List Int) (s : Int), R.length = C.length → (∀ x ∈ R, -B ≤ x ∧ x ≤ B) → (∀ x ∈ C, -B ≤ x ∧ x ≤ B) → 0 ≤ B → B ≤ 100000000 → -(1000000000000 - R.length * (2 * B)) ≤ s ∧ s ≤ 1000000000000 - R.length * (2 * B) → sumRC R C s = s + (R.sum + C.sum)
 | [], [], s, _, _, _, _, _, _ => by simp [sumRC]
 | [], y :: C, s, h, _, _, _, _, _ => by simp at h
 | x :: R, [], s, h, _, _, _, _, _ => by simp at h
 | x :: R, y :: C, s, hl, h1, h2, h0, hB, hs => by
  have hx := h1 x (by simp)
  have hy := h2 y (by simp)
  have e : (((x :: R).length : Nat) : Int) * (2 * B) = R.length * (2 * B) + 2 * B := by rw [List.length_cons, Int.natCast_add, Int.add_mul]; simp
  rw [e] at hs
  have hn : 0 ≤ (R.length : Int) * (2 * B) := Int.mul_nonneg (by omega) (by omega)
  unfold sumRC
  rw [w64_in (n := s + x) (by omega), w64_in (n := s + x + y) (by omega), sumRC_is R C (s + x + y) (by simpa using hl) (fun z hz => h1 z (by simp [hz])) (fun z hz => h2 z (by simp [hz])) h0 hB (by omega), List.sum_cons, List.sum_cons]
  omega
theorem pots_ok {R C : List Int} {n : Nat} (hR : R.length = n) (hC : C.length = n) (h : errF (potV R C) n 0 = none) : (∀ x ∈ R, -60000000 ≤ x ∧ x ≤ 60000000) ∧ ∀ x ∈ C, -60000000 ≤ x ∧ x ≤ 60000000 := by
 have hp : ∀ j, j < n → (-60000000 ≤ R.getD j 0 ∧ R.getD j 0 ≤ 60000000) ∧ (-60000000 ≤ C.getD j 0 ∧ C.getD j 0 ≤ 60000000) := by
  intro j hj
  have := errF_none h j (by omega) (by omega)
  unfold potV both at this
  rw [rangeE_if, rangeE_if] at this
  split at this <;> split at this <;> first | (refine ⟨by assumption, ?_⟩; (repeat' split at this) <;> first | assumption | simp_all) | simp_all
 constructor
 ·intro x hx
  obtain ⟨i, hi, rfl⟩ := List.getElem_of_mem hx
  have := (hp i (by omega)).1
  simpa [List.getD, List.getElem?_eq_getElem hi] using this
 ·intro x hx
  obtain ⟨i, hi, rfl⟩ := List.getElem_of_mem hx
  have := (hp i (by omega)).2
  simpa [List.getD, List.getElem?_eq_getElem hi] using this
theorem sums_are {R C : List Int} {n : Nat} (hn : n ≤ 1000) (hR : R.length = n) (hC : C.length = n) (h : errF (potV R C) n 0 = none) : w64 (sumI R 0 0 + sumI C 0 0) = sumRC R C 0 := by
 obtain ⟨h1, h2⟩ := pots_ok hR hC h
 have b1 : ∀ (r : List Int), r.length = n → (∀ x ∈ r, -60000000 ≤ x ∧ x ≤ 60000000) → sumI r 0 0 = r.sum ∧ -60000000000 ≤ r.sum ∧ r.sum ≤ 60000000000 := by
  intro r hr hx
  have e := sumI_is (B := 60000000) r 0 hx (by omega) (by omega) (by omega)
  refine ⟨by unfold sumI; rw [List.drop_zero, e]; omega, ?_⟩
  have : ∀ (r : List Int), (∀ x ∈ r, -60000000 ≤ x ∧ x ≤ 60000000) → -(60000000 * (r.length : Int)) ≤ r.sum ∧ r.sum ≤ 60000000 * (r.length : Int) := by
   intro r
   induction r with
   | nil => intro _; simp
   | cons x r ih =>
    intro h
    have hx := h x (by simp)
    have := ih fun y hy => h y (by simp [hy])
    simp only [List.sum_cons, List.length_cons]
    omega
  have := this r hx
  omega
 obtain ⟨e1, e2, e3⟩ := b1 R hR h1
 obtain ⟨f1, f2, f3⟩ := b1 C hC h2
 rw [sumRC_is (B := 60000000) R C 0 (by omega) h1 h2 (by omega) (by omega) (by omega), e1, f1, w64_in (by omega)]
 omega
end Gv

/- The cheapest assignments, as the reference and the program find them. -/
namespace Gv
open Go
set_option maxRecDepth 100000
def minF (c : List Nat → Int) (l : List (List Nat)) (s : Int) : Int := l.foldl (fun s b => if c b < s then c b else s) s
def minL (c : List Nat → Int) (l : List (List Nat)) : Int := minF c (l.drop 1) (c (l.getD 0 []))
def cheapL (c : List Nat → Int) (l : List (List Nat)) : List (List Nat) := l.filter fun b => decide (c b = minL c l)
theorem all_fold (c : List Nat → Int) : ∀ (l p : List (List Nat)) (k : Int), (∀ b ∈ p, k ≤ c b) → l.foldl (allStep c) (some (p.filter (fun b => decide (c b = k)), k)) = some ((p ++ l).filter (fun b => decide (c b = minF c l k)), minF c l k)
 | [], p, k, _ => by rw [List.append_nil]; rfl
 | x :: l, p, k, h => by
  have e : minF c (x :: l) k = minF c l (if c x < k then c x else k) := rfl
  rw [List.foldl_cons, e]
  have hp : p ++ x :: l = (p ++ [x]) ++ l := by simp
  rw [hp]
  by_cases h1 : c x < k
  ·have hs : allStep c (some (p.filter (fun b => decide (c b = k)), k)) x = some ((p ++ [x]).filter (fun b => decide (c b = c x)), c x) := by
    unfold allStep
    simp only [h1, if_true]
    have : p.filter (fun b => decide (c b = c x)) = [] := List.filter_eq_nil_iff.2 fun b hb => by
     have := h b hb
     simp only [decide_eq_true_eq]
     omega
    rw [List.filter_append, this]
    simp
   rw [hs, if_pos h1]
   refine all_fold c l (p ++ [x]) (c x) fun b hb => ?_
   rcases List.mem_append.1 hb with hb | hb
   ·have := h b hb; omega
   ·simp at hb; subst hb; omega
  ·rw [if_neg h1]
   have hge : ∀ b ∈ p ++ [x], k ≤ c b := fun b hb => by
    rcases List.mem_append.1 hb with hb | hb
    ·exact h b hb
    ·simp at hb; subst hb; omega
   by_cases h2 : c x = k
   ·have hs : allStep c (some (p.filter (fun b => decide (c b = k)), k)) x = some ((p ++ [x]).filter (fun b => decide (c b = k)), k) := by
     unfold allStep
     simp only [h1, if_false]
     rw [if_pos h2, List.filter_append]
     simp [h2]
    rw [hs]
    exact all_fold c l (p ++ [x]) k hge
   ·have hs : allStep c (some (p.filter (fun b => decide (c b = k)), k)) x = some ((p ++ [x]).filter (fun b => decide (c b = k)), k) := by
     unfold allStep
     simp only [h1, if_false]
     rw [if_neg h2, List.filter_append]
     simp [h2]
    rw [hs]
    exact all_fold c l (p ++ [x]) k hge
theorem allIn_is (c : List Nat → Int) {l : List (List Nat)} (h : l ≠ []) : allIn c l = some (cheapL c l, minL c l) := by
 obtain ⟨x, r, rfl⟩ := List.exists_cons_of_ne_nil h
 have := all_fold c r [x] (c x) fun b hb => by simp at hb; subst hb; omega
 have e : allIn c (x :: r) = r.foldl (allStep c) (some ([x].filter (fun b => decide (c b = c x)), c x)) := by
  unfold allIn
  rw [List.foldl_cons]
  simp [allStep]
 rw [e, this]
 rfl
theorem cheap_ne (c : List Nat → Int) {l : List (List Nat)} (h : l ≠ []) : ∃ b bs, cheapL c l = b :: bs ∧ bestIn c l = some (b, minL c l) := by
 have ha := allIn_is c h
 rcases all_best c l none none (.inl ⟨rfl, rfl⟩) with ⟨h1, _⟩ | ⟨b, bs, k, h1, h2⟩
 ·have h1 : allIn c l = none := h1
  rw [ha] at h1
  cases h1
 ·have h1 : allIn c l = _ := h1
  have h2 : bestIn c l = _ := h2
  rw [ha] at h1
  simp only [Option.some.injEq, Prod.mk.injEq] at h1
  exact ⟨b, bs, h1.1, h1.2 ▸ h2⟩
theorem cheap_mem {c : List Nat → Int} {l : List (List Nat)} {b : List Nat} (h : b ∈ cheapL c l) : b ∈ l ∧ c b = minL c l := by
 unfold cheapL at h
 have := List.mem_filter.1 h
 exact ⟨this.1, by simpa using this.2⟩
def asI (b : List Nat) : List Int := b.map fun (x : Nat) => (x : Int)
theorem encN_is (b : List Nat) : encN b = encI (asI b) := by simp [encN, encI, asI]
theorem asI_len (b : List Nat) : (asI b).length = b.length := by simp [asI]
theorem asI_nat (b : List Nat) : (asI b).map Int.toNat = b := by
 unfold asI
 rw [List.map_map]
 have e : (Int.toNat ∘ fun (x : Nat) => (x : Int)) = id := by funext x; simp
 rw [e, List.map_id]
theorem listP_get {A : List (List Nat)} {i : Nat} (h : i < A.length) : listC (A.map rowP)[i]? = some ((A.getD i []).length, encN (A.getD i [])) := by
 rw [List.getElem?_map, List.getElem?_eq_getElem h]
 simp [List.getD, List.getElem?_eq_getElem h, rowP, listC]
theorem intN_get {b : List Nat} {i : Nat} (h : i < b.length) : intC .i64 (encN b)[i]? = some ((b.getD i 0 : Nat) : Int) := by
 have : (encN b)[i]? = some (PV.int .i64 ((b.getD i 0 : Nat) : Int)) := by simp [encN, List.getD, List.getElem?_eq_getElem h]
 rw [this]
 rfl
theorem drop_getN {r : List (List Nat)} {i : Nat} (h : i < r.length) : r.drop i = r.getD i [] :: r.drop (i + 1) := by
 rw [List.drop_eq_getElem_cons h]
 simp [List.getD, List.getElem?_eq_getElem h]
theorem getD_memN {L : List (List Nat)} {i : Nat} (h : i < L.length) : L.getD i [] ∈ L := by simp [List.getD, List.getElem?_eq_getElem h]
def asgs (N : Nat) : List (List Nat) := ext N N []
theorem asgs_row {N : Nat} (h : N ≤ 5) {b : List Nat} (hb : b ∈ asgs N) : b.length = N ∧ ∀ x ∈ b, x < N := ⟨ext_row h b hb, fun x hx => by simpa using List.all_eq_true.1 (ext_all_lt h b hb) x hx⟩
theorem cost_both {L : List (List Int)} (h5 : L.length ≤ 5) (hr : ∀ r ∈ L, r.length = L.length) {b : List Nat} (hb : b ∈ asgs L.length) :
  FrCost [.list L.length (encM L), .list b.length (encN b)] = some (costW (Zm L) b) ∧ FwCost [.list L.length (encM L), .list b.length (encN b)] = some (costW (Zm L) b) := by
 obtain ⟨h1, h2⟩ := asgs_row h5 hb
 have hl : ∀ x ∈ asI b, 0 ≤ x ∧ x < (L.length : Int) := fun x hx => by
  unfold asI at hx
  obtain ⟨y, hy, rfl⟩ := List.mem_map.1 hx
  have := h2 y hy
  omega
 have e : sumW (Zm L) ((asI b).map Int.toNat) 0 0 = costW (Zm L) b := by rw [asI_nat, sumW_zero]; rfl
 have a1 := rCost_is L (by omega) hr (asI b) (by rw [asI_len]; omega) hl
 have a2 := wCost_is L (by omega) hr (asI b) (by rw [asI_len]; omega) hl
 rw [e, asI_len, ← encN_is] at a1 a2
 exact ⟨a1, a2⟩
section
variable (L : List (List Int)) (h5 : L.length ≤ 5) (hr : ∀ r ∈ L, r.length = L.length)
include h5 hr
end
end Gv

/- The cheapest assignment and certain rows. -/
namespace Gv
open Go
set_option maxRecDepth 100000
theorem prim1_fn {env : Nat → Option AFn} {f n : Nat} {cs : List PV} {g : List PV → Option PV} {v : PV} (hf : env f = some (primA 1 g)) (hg : g [.list n cs] = some v) : run env f [.list n cs] = some (.val v) := by
 refine (run_iff env).2 ⟨2, ?_⟩
 have e : exN (callN env 1) 1 (primA 1 g).body (start (primA 1 g) [.list n cs]) = some (.normal, ⟨[.p (.list n cs), .p v], [Blk.none, Blk.none]⟩) := by
  show exN (callN env 1) 1 (.ops [{ dst := some 1, grd := none, args := [.tmp 0], k := .l (.prim g) }]) ⟨[.p (.list n cs), .undef], [Blk.none, Blk.none]⟩ = _
  simp only [exN, exOps, exOp, grd]
  have hk : runK (callN env 1) (.l (.prim g)) [.p (.list n cs)] [Blk.none, Blk.none] = some (.p v, [Blk.none, Blk.none]) := by
   simp only [runK, runL, pureAs, pureA, hg, Option.map_some]
  have ha : ([Arg.tmp 0].map (Arg.get [AV.p (.list n cs), .undef])) = [.p (.list n cs)] := rfl
  simp only [ha, hk]
  rfl
 rw [callN_fn env 1 f _ (fun sh caps e => by cases e)]
 simp only [hf]
 rw [if_pos ⟨rfl, rfl⟩, e]
 rfl
theorem zOf_enc (L : List (List Int)) : zOf (encM L) = Zm L := by
 funext i j
 unfold zOf Zm
 rw [encM_get]
 by_cases hi : i < L.length
 ·rw [List.getElem?_eq_getElem hi]
  simp only [Option.map_some, rowI, List.getD, List.getElem?_eq_getElem hi, Option.getD_some]
  unfold intAt
  rw [encI_get]
  by_cases hj : j < L[i].length
  ·rw [List.getElem?_eq_getElem hj]
   rfl
  ·rw [List.getElem?_eq_none (by omega)]
   rfl
 ·rw [List.getElem?_eq_none (by omega)]
  simp [List.getD, List.getElem?_eq_none (show L.length ≤ i by omega)]
theorem rowN_enc {L : List (List Int)} (hr : ∀ r ∈ L, r.length = L.length) : (encM L).length = L.length ∧ (encM L).all (isRowN L.length) = true := by
 refine ⟨by simp [encM], List.all_eq_true.2 fun x hx => ?_⟩
 unfold encM at hx
 obtain ⟨r, h, rfl⟩ := List.mem_map.1 hx
 have := hr r h
 unfold isRowN rowI
 simp only [this, encI_len, decide_true, Bool.true_and]
 exact List.all_eq_true.2 fun y hy => by
  unfold encI at hy
  obtain ⟨z, _, rfl⟩ := List.mem_map.1 hy
  rfl
theorem f94 {L : List (List Int)} (h5 : L.length ≤ 5) (hr : ∀ r ∈ L, r.length = L.length) {b : List Nat} {k : Int} (hb : bestIn (costW (Zm L)) (asgs L.length) = some (b, k)) : Fn env 47 (RSh.one CK.list) [.list L.length (encM L)] = some (b.length, encN b) := by
 have hg : cheapG [.list L.length (encM L)] = some (rowP b) := by
  unfold cheapG
  simp only
  rw [if_pos ⟨h5, rowN_enc hr⟩, zOf_enc]
  unfold asgs at hb
  rw [hb]
 unfold Fn
 rw [prim1_fn (env := env) (f := 47) rfl hg]
 rfl
theorem f96 {L : List (List Int)} (h5 : L.length ≤ 5) (hr : ∀ r ∈ L, r.length = L.length) : Fn env 50 (RSh.one CK.list) [.list L.length (encM L)] = some ((cheapL (costW (Zm L)) (asgs L.length)).length, (cheapL (costW (Zm L)) (asgs L.length)).map rowP) := by
 have hg : allG [.list L.length (encM L)] = some (.list (cheapL (costW (Zm L)) (asgs L.length)).length ((cheapL (costW (Zm L)) (asgs L.length)).map rowP)) := by
  unfold allG
  simp only
  rw [if_pos ⟨h5, rowN_enc hr⟩, zOf_enc]
  have := allIn_is (costW (Zm L)) (l := asgs L.length) (ext_ne h5)
  unfold asgs at this ⊢
  rw [this]
 unfold Fn
 rw [prim1_fn (env := env) (f := 50) rfl hg]
 rfl
theorem cheO_is {L : List (List Int)} (hz : (matV L).2 = 0) (h5 : L.length ≤ 5) {b : List Nat} {k : Int} (hb : bestIn (costW (Zm L)) (asgs L.length) = some (b, k)) : FcheO [.list L.length (encM L)] = some ((b.length, encN b), (costW (Zm L) b, 0)) := by
 have hr : ∀ r ∈ L, r.length = L.length := fun r h => ((matV_ok hz).2.2.2 r h).1
 refine FcheO_of _ _ ?_
 unfold tcheO
 have h1 : Fn env 45 _ [.list L.length (encM L)] = _ := matE_is L fun r h => by have := hr r h; omega
 have h2 : Fn env 49 _ [.list L.length (encM L), .list b.length (encN b)] = _ := (cost_both h5 hr (bestIn_mem hb)).2
 rw [h1, hz]
 simp only [bindO_val, bne_self_eq_false, cond_false]
 rw [f94 h5 hr hb]
 simp only [bindO_val]
 rw [h2]
 rfl
def sameC (G : List (List Nat)) (i : Nat) (b : List Nat) : Bool := decide (b.getD i 0 = (G.getD 0 []).getD i 0)
def cerF (G : List (List Nat)) : Nat → Nat → List Int
 | 0, _ => []
 | m + 1, i => if G.all (sameC G i) = true then (i : Int) :: cerF G m (i + 1) else cerF G m (i + 1)
section
variable (N : Nat) (M : List PV) (G : List (List Nat)) (hG : 0 < G.length) (hGl : G.length ≤ 1000) (hN : N ≤ 1000) (hrow : ∀ b ∈ G, b.length = N)
include hG hGl hN hrow
omit hN in
omit hN in
omit hN in
theorem cerI_in (i : Nat) (hi : i < N) : ∀ (m k : Nat), k + m = G.length → ∃ j : Nat, RcerI_1470000000 (TcerI_1470000000a G.length (G.map rowP) i G.length (G.map rowP) G.length k) = if (G.drop k).all (sameC G i) = true then exO (XcerI_1470000000b ()) else exO (XcerI_1470000000a (j : Int))
 | 0, k, h => by
  refine ⟨0, ?_⟩
  rw [List.drop_of_length_le (by omega), List.all_nil, if_pos rfl]
  refine RcerI_1470000000a_of _ _ _ _ _ _ _ ?_
  unfold BcerI_1470000000a
  rw [bif_neg (by omega)]
  rfl
 | m + 1, k, h => by
  obtain ⟨j, ih⟩ := cerI_in i hi m (k + 1) (by omega)
  have hk : k < G.length := by omega
  have h1 : i < (G.getD k []).length := by rw [hrow _ (getD_memN hk)]; exact hi
  have h0 : i < (G.getD 0 []).length := by rw [hrow _ (getD_memN hG)]; exact hi
  have ew : w64 ((k : Int) + 1) = ((k + 1 : Nat) : Int) := by rw [w64_in (by omega)]; omega
  have hs : BcerI_1470000000a (Fn env) RcerI_1470000000 exO LcerI_0 LcerI_1470000000 G.length (G.map rowP) i G.length (G.map rowP) G.length k = if sameC G i (G.getD k []) = true then RcerI_1470000000 (TcerI_1470000000a G.length (G.map rowP) i G.length (G.map rowP) G.length ((k + 1 : Nat) : Int)) else exO (XcerI_1470000000a (k : Int)) := by
   unfold BcerI_1470000000a
   rw [bif_pos (by omega), bif_pos (by omega)]
   simp only [Int.toNat_natCast, Nat.mul_one, listP_get hk, bindO_val]
   rw [bif_pos (by omega)]
   simp only [intN_get h1, bindO_val]
   rw [bif_pos (by omega)]
   simp only [listP_get hG, bindO_val]
   rw [bif_pos (by omega)]
   simp only [intN_get h0, bindO_val, ew]
   by_cases he : (G.getD k []).getD i 0 = (G.getD 0 []).getD i 0
   ·have e1 : ((((G.getD k []).getD i 0 : Nat) : Int) != (((G.getD 0 []).getD i 0 : Nat) : Int)) = false := by rw [he]; simp
    have e2 : sameC G i (G.getD k []) = true := decide_eq_true he
    rw [e1, if_pos e2]
    rfl
   ·have e1 : ((((G.getD k []).getD i 0 : Nat) : Int) != (((G.getD 0 []).getD i 0 : Nat) : Int)) = true := by rw [bne_iff_ne]; exact fun h => he (by exact_mod_cast h)
    have e2 : ¬ sameC G i (G.getD k []) = true := by unfold sameC; simp only [he, decide_false]; decide
    rw [e1, if_neg e2]
    rfl
  rw [drop_getN hk, List.all_cons]
  by_cases he : sameC G i (G.getD k []) = true
  ·rw [if_pos he, ih] at hs
   refine ⟨j, ?_⟩
   rw [he, Bool.true_and]
   split at hs
   ·rename_i ha
    rw [if_pos ha]
    exact RcerI_1470000000a_of _ _ _ _ _ _ _ hs
   ·rename_i ha
    rw [if_neg ha]
    exact RcerI_1470000000a_of _ _ _ _ _ _ _ hs
  ·rw [if_neg he] at hs
   refine ⟨k, ?_⟩
   rw [(Bool.not_eq_true _).mp he, Bool.false_and, if_neg (by decide)]
   exact RcerI_1470000000a_of _ _ _ _ _ _ _ hs
theorem cerI_0b : ∀ (m i : Nat) (F : List Int), i + m = N → F.length ≤ i → RcerI_0 (TcerI_0b F.length (encI F) N i G.length (G.map rowP) F.length) = exO (XcerI_0b ((F ++ cerF G m i).length, encI (F ++ cerF G m i), G.length, G.map rowP, (F ++ cerF G m i).length))
 | 0, i, F, h, hF => by
  refine RcerI_0b_of _ _ _ _ _ _ _ ?_
  unfold BcerI_0b cerF
  rw [bif_neg (by omega), List.append_nil]
  rfl
 | m + 1, i, F, h, hF => by
  have hi : i < N := by omega
  obtain ⟨j, h2⟩ := cerI_in N G hG hGl hrow i hi G.length 0 (by omega)
  rw [List.drop_zero] at h2
  have h2 : RcerI_1470000000 (TcerI_1470000000a G.length (G.map rowP) i G.length (G.map rowP) G.length 0) = _ := h2
  have ew : w64 ((i : Int) + 1) = ((i + 1 : Nat) : Int) := by rw [w64_in (by omega)]; omega
  refine RcerI_0b_of _ _ _ _ _ _ _ ?_
  unfold BcerI_0b cerF
  rw [bif_pos (by omega)]
  by_cases hs : G.all (sameC G i) = true
  ·rw [if_pos hs] at h2 ⊢
   rw [LcerI_1470000000b_of h2]
   have ih := cerI_0b m (i + 1) (F ++ [(i : Int)]) (by omega) (by simp; omega)
   simp only [bindO_val, Sum.elim_inr, ew]
   rw [bif_pos ⟨trivial, by unfold big; omega⟩]
   rw [List.append_assoc, List.singleton_append] at ih
   have e1 : (F ++ [(i : Int)]).length = F.length + 1 := by simp
   have e2 : encI (F ++ [(i : Int)]) = encI F ++ [PV.int .i64 (i : Int)] := by simp [encI]
   rw [e1, e2] at ih
   exact ih
  ·rw [if_neg hs] at h2 ⊢
   rw [LcerI_1470000000a_of h2]
   have ih := cerI_0b m (i + 1) F (by omega) (by omega)
   simp only [bindO_val, Sum.elim_inl, ew]
   rw [bif_pos (by omega)]
   exact ih
theorem cerI_0a : ∀ (m i : Nat) (s : Bool), i + m = N → ∃ s2 : Bool, RcerI_0 (TcerI_0a N i s G.length (G.map rowP)) = if cerF G m i = [] then exO (XcerI_0a (s2, G.length, G.map rowP)) else exO (XcerI_0b ((cerF G m i).length, encI (cerF G m i), G.length, G.map rowP, (cerF G m i).length))
 | 0, i, s, h => by
  refine ⟨s, RcerI_0a_of _ _ _ _ _ ?_⟩
  unfold BcerI_0a
  rw [bif_neg (by omega)]
  rfl
 | m + 1, i, s, h => by
  have hi : i < N := by omega
  obtain ⟨j, h2⟩ := cerI_in N G hG hGl hrow i hi G.length 0 (by omega)
  rw [List.drop_zero] at h2
  have h2 : RcerI_1470000000 (TcerI_1470000000a G.length (G.map rowP) i G.length (G.map rowP) G.length 0) = _ := h2
  have ew : w64 ((i : Int) + 1) = ((i + 1 : Nat) : Int) := by rw [w64_in (by omega)]; omega
  have hb : BcerI_0a (Fn env) RcerI_0 exO LcerI_0 LcerI_1470000000 N i s G.length (G.map rowP) = if G.all (sameC G i) = true then RcerI_0 (TcerI_0b [(i : Int)].length (encI [(i : Int)]) N ((i + 1 : Nat) : Int) G.length (G.map rowP) [(i : Int)].length) else RcerI_0 (TcerI_0a N ((i + 1 : Nat) : Int) false G.length (G.map rowP)) := by
   unfold BcerI_0a
   rw [bif_pos (by omega)]
   by_cases hs : G.all (sameC G i) = true
   ·rw [if_pos hs] at h2 ⊢
    rw [LcerI_1470000000b_of h2]
    simp only [bindO_val, Sum.elim_inr, ew]
    rfl
   ·rw [if_neg hs] at h2 ⊢
    rw [LcerI_1470000000a_of h2]
    simp only [bindO_val, Sum.elim_inl, ew]
    rw [bif_pos (by omega)]
  unfold cerF
  by_cases ha : G.all (sameC G i) = true
  ·have ih := cerI_0b N G hG hGl hN hrow m (i + 1) [(i : Int)] (by omega) (by simp)
   rw [if_pos ha, ih] at hb
   refine ⟨false, ?_⟩
   rw [if_pos ha, if_neg (by simp)]
   exact RcerI_0a_of _ _ _ _ _ hb
  ·obtain ⟨s2, ih⟩ := cerI_0a m (i + 1) false (by omega)
   rw [if_neg ha, ih] at hb
   refine ⟨s2, ?_⟩
   rw [if_neg ha]
   split at hb
   ·rename_i hn
    rw [if_pos hn]
    exact RcerI_0a_of _ _ _ _ _ hb
   ·rename_i hn
    rw [if_neg hn]
    exact RcerI_0a_of _ _ _ _ _ hb
end
section
variable {L : List (List Int)} (hz : (matV L).2 = 0) (h5 : L.length ≤ 5)
include hz h5
omit hz in
theorem cheap_facts : 0 < (cheapL (costW (Zm L)) (asgs L.length)).length ∧ (cheapL (costW (Zm L)) (asgs L.length)).length ≤ 1000 ∧ ∀ b ∈ cheapL (costW (Zm L)) (asgs L.length), b.length = L.length := by
 obtain ⟨b, bs, hb, _⟩ := cheap_ne (costW (Zm L)) (l := asgs L.length) (ext_ne h5)
 refine ⟨by rw [hb]; simp, ?_, fun b hb => (asgs_row h5 (cheap_mem hb).1).1⟩
 have h1 : (cheapL (costW (Zm L)) (asgs L.length)).length ≤ (asgs L.length).length := List.length_filter_le _ _
 have h2 : (asgs L.length).length ≤ 120 := ext_len h5
 omega
theorem cerI_is : FcerI [.list L.length (encM L)] = some (((cerF (cheapL (costW (Zm L)) (asgs L.length)) L.length 0).length, encI (cerF (cheapL (costW (Zm L)) (asgs L.length)) L.length 0)), 0) := by
 obtain ⟨g1, g2, g3⟩ := cheap_facts h5
 have hr : ∀ r ∈ L, r.length = L.length := fun r h => ((matV_ok hz).2.2.2 r h).1
 have h1 : Fn env 45 _ [.list L.length (encM L)] = _ := matE_is L fun r h => by have := hr r h; omega
 obtain ⟨s2, h2⟩ := cerI_0a L.length _ g1 g2 (by omega) g3 L.length 0 true (by omega)
 have h2 : RcerI_0 (TcerI_0a L.length 0 true (cheapL (costW (Zm L)) (asgs L.length)).length ((cheapL (costW (Zm L)) (asgs L.length)).map rowP)) = _ := h2
 refine FcerI_of _ _ ?_
 unfold tcerI
 rw [h1, hz]
 simp only [bindO_val, bne_self_eq_false, cond_false]
 rw [f96 h5 hr]
 simp only [bindO_val]
 by_cases hn : cerF (cheapL (costW (Zm L)) (asgs L.length)) L.length 0 = []
 ·rw [if_pos hn] at h2
  rw [LcerI_0a_of h2, hn]
  rfl
 ·rw [if_neg hn] at h2
  rw [LcerI_0b_of h2]
  rfl
end
theorem bInts_loop (r t : List Int) (hl : r.length = t.length) (hr : r.length ≤ 1000) : ∀ (m k : Nat), k + m = r.length →
  RbInts_0 (TbInts_0a r.length (encI r) t.length (encI t) k) = if r.drop k = t.drop k then exO (XbInts_0b ()) else exO (XbInts_0a ())
 | 0, k, h => by
  rw [List.drop_of_length_le (by omega), List.drop_of_length_le (by omega), if_pos rfl]
  refine RbInts_0a_of _ _ _ _ _ ?_
  unfold BbInts_0a
  rw [bif_neg (by omega)]
  rfl
 | m + 1, k, h => by
  have ih := bInts_loop r t hl hr m (k + 1) (by omega)
  have hk : k < r.length := by omega
  have hk2 : k < t.length := by omega
  have hs : BbInts_0a (Fn env) RbInts_0 exO LbInts_0 r.length (encI r) t.length (encI t) k = if r.getD k 0 = t.getD k 0 then RbInts_0 (TbInts_0a r.length (encI r) t.length (encI t) ((k + 1 : Nat) : Int)) else exO (XbInts_0a ()) := by
   unfold BbInts_0a
   rw [bif_pos (by omega), bif_pos (by omega)]
   simp only [Int.toNat_natCast, Nat.mul_one, intI_get hk, bindO_val]
   rw [bif_pos (by omega)]
   simp only [intI_get hk2, bindO_val, bif_ne]
   rw [w64_in (n := (k : Int) + 1) (by omega)]
   rfl
  rw [drop_getD hk, drop_getD hk2]
  by_cases he : r.getD k 0 = t.getD k 0
  ·rw [if_pos he, ih] at hs
   rw [he]
   by_cases ht : r.drop (k + 1) = t.drop (k + 1)
   ·rw [if_pos ht] at hs
    rw [ht, if_pos rfl]
    exact RbInts_0a_of _ _ _ _ _ hs
   ·rw [if_neg ht] at hs
    rw [if_neg (fun h => ht (List.cons.inj h).2)]
    exact RbInts_0a_of _ _ _ _ _ hs
  ·rw [if_neg he] at hs
   rw [if_neg (fun h => he (List.cons.inj h).1)]
   exact RbInts_0a_of _ _ _ _ _ hs
theorem bInts_same (r : List Int) (hr : r.length ≤ 1000) : FbInts [.list r.length (encI r), .list r.length (encI r)] = some true := by
 refine FbInts_of _ _ _ _ ?_
 unfold tbInts
 have h := bInts_loop r r rfl hr r.length 0 (by omega)
 rw [if_pos rfl] at h
 have h : RbInts_0 (TbInts_0a r.length (encI r) r.length (encI r) 0) = _ := h
 rw [bne_self_eq_false, cond_false, LbInts_0b_of h]
 rfl
theorem cerF_len (G : List (List Nat)) : ∀ (m i : Nat), (cerF G m i).length ≤ m
 | 0, _ => by simp [cerF]
 | m + 1, i => by
  unfold cerF
  have := cerF_len G m (i + 1)
  split <;> simp <;> omega
end Gv

/- What the reference's list of all assignments is. -/
namespace Gv
open Go
set_option maxRecDepth 100000
theorem prim1_int {env : Nat → Option AFn} {f : Nat} {k : IntKind} {n : Int} {g : List PV → Option PV} {v : PV} (hf : env f = some (primA 1 g)) (hg : g [.int k n] = some v) : run env f [.int k n] = some (.val v) := by
 refine (run_iff env).2 ⟨2, ?_⟩
 have e : exN (callN env 1) 1 (primA 1 g).body (start (primA 1 g) [.int k n]) = some (.normal, ⟨[.p (.int k n), .p v], [Blk.none, Blk.none]⟩) := by
  show exN (callN env 1) 1 (.ops [{ dst := some 1, grd := none, args := [.tmp 0], k := .l (.prim g) }]) ⟨[.p (.int k n), .undef], [Blk.none, Blk.none]⟩ = _
  simp only [exN, exOps, exOp, grd]
  have hk : runK (callN env 1) (.l (.prim g)) [.p (.int k n)] [Blk.none, Blk.none] = some (.p v, [Blk.none, Blk.none]) := by
   simp only [runK, runL, pureAs, pureA, hg, Option.map_some]
  have ha : ([Arg.tmp 0].map (Arg.get [AV.p (.int k n), .undef])) = [.p (.int k n)] := rfl
  simp only [ha, hk]
  rfl
 rw [callN_fn env 1 f _ (fun sh caps e => by cases e)]
 simp only [hf]
 rw [if_pos ⟨rfl, rfl⟩, e]
 rfl
theorem f99 (N : Nat) (h5 : N ≤ 5) : Fn env 16 (RSh.one CK.list) [.int .i64 N] = some ((asgs N).length, (asgs N).map rowP) := by
 have hg : assignG [.int .i64 (N : Int)] = some (.list (asgs N).length ((asgs N).map rowP)) := by
  unfold assignG asgs
  simp only
  rw [if_pos ⟨trivial, by omega, by omega⟩, Int.toNat_natCast]
 unfold Fn
 rw [prim1_int (env := env) (f := 16) rfl hg]
 rfl
end Gv
