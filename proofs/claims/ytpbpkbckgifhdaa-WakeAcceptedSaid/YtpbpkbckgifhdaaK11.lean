import Derived.Test.YtpbpkbckgifhdaaGvEnv
import Derived.Test.YtpbpkbckgifhdaaGvYm
import Derived.Test.YtpbpkbckgifhdaaB2

/- What the functions do, round by round: B1. -/
namespace Gv
open Go
set_option maxRecDepth 100000
def EeIf : List Entry := []
theorem EeIf_ok : ∀ e ∈ EeIf, EntOK env e := ent_nil
def teIf (_F : FnT) (p0 : Bool) (p1 : Int) : Option (Int) :=
  bif p0 then
    some p1
  else some (0 : Int)
theorem teIf_eq (F : FnT) (p0 : Bool) (p1 : Int) : semF (callP F EeIf 20) s92 (loopT []) 400 a92 [PV.bool p0, PV.int .i64 p1] (fun rv => decR (RSh.one (CK.int .i64)) rv.pv) = teIf F p0 p1 := by kernel_rfl
noncomputable abbrev FeIf (args : List PV) := Fn env 92 (RSh.one (CK.int .i64)) args
theorem FeIf_of  (p0 : Bool) (p1 : Int) {res : (Int)} (h : teIf (Fn env) p0 p1 = some res) : FeIf [PV.bool p0, PV.int .i64 p1] = some res :=
  fn_of EeIf_ok rfl rfl lo_nil ((teIf_eq _ _ _).trans h)
def ErE : List Entry := [.inl 92 a92 s92]
theorem ErE_ok : ∀ e ∈ ErE, EntOK env e := (ent_inl rfl ent_nil)
def trE (_F : FnT) (p0 p1 p2 : Int) : Option (Int) :=
  bif (decide (p0 < p1)) then
    some (2 : Int)
  else bif (decide (p0 > p2)) then
    some (2 : Int)
  else some (0 : Int)
theorem trE_eq (F : FnT) (p0 p1 p2 : Int) : semF (callP F ErE 20) s86 (loopT []) 400 a86 [PV.int .i64 p0, PV.int .i64 p1, PV.int .i64 p2] (fun rv => decR (RSh.one (CK.int .i64)) rv.pv) = trE F p0 p1 p2 := by kernel_rfl
noncomputable abbrev FrE (args : List PV) := Fn env 86 (RSh.one (CK.int .i64)) args
theorem FrE_of  (p0 p1 p2 : Int) {res : (Int)} (h : trE (Fn env) p0 p1 p2 = some res) : FrE [PV.int .i64 p0, PV.int .i64 p1, PV.int .i64 p2] = some res :=
  fn_of ErE_ok rfl rfl lo_nil ((trE_eq _ _ _ _).trans h)
def EfE2 : List Entry := []
theorem EfE2_ok : ∀ e ∈ EfE2, EntOK env e := ent_nil
def tfE2 (_F : FnT)(e0 e1 : Int) : Option (Int) :=
  bif (e0 != (0 : Int)) then
    some e0
  else bif (e1 != (0 : Int)) then
    some e1
  else some (0 : Int)
theorem tfE2_eq (F : FnT)(e0 e1 : Int) : semF (callP F EfE2 20) s79 (loopT []) 400 a79 [.list 2 [.int .i64 e0, .int .i64 e1]] (fun rv => decR (RSh.one (CK.int .i64)) rv.pv) = tfE2 F e0 e1 := by kernel_rfl
noncomputable abbrev FfE2 (args : List PV) := Fn env 79 (RSh.one (CK.int .i64)) args
theorem FfE2_of (e0 e1 : Int) {res : (Int)} (h : tfE2 (Fn env) e0 e1 = some res) : FfE2 [.list 2 [.int .i64 e0, .int .i64 e1]] = some res :=
  fn_of EfE2_ok rfl rfl lo_nil ((tfE2_eq _ _ _).trans h)
end Gv

/- What the functions do, round by round: B4. -/
namespace Gv
open Go
set_option maxRecDepth 100000
def TcMat_1450000000a (n0 : Nat) (c1 : List PV) (n2 : Nat) (c3 : List PV) (i4 i5 : Int) : Q := ⟨(tm 24 [(1, (AV.p (PV.fn 89 [(PV.imm [(PV.list n0 c1)] 0)]))), (9, (AV.p (PV.list n2 c3))), (10, (AV.p (PV.int .i64 i4))), (11, (AV.p (PV.int .i64 i5)))]), (mm 24 [])⟩
def XcMat_1450000000a (y : Unit) : Ext × Q := (Ext.normal, ⟨(tm 24 []), (mm 24 [])⟩)
def IcMat_1450000000a (q : Ext × S) : Unit := ()
def XcMat_1450000000b (y : Int × Int) : Ext × Q := (Ext.ret, ⟨(tm 24 [(4, (AV.p (PV.int .i64 y.1))), (5, (AV.p (PV.int .i64 y.2)))]), (mm 24 [])⟩)
def IcMat_1450000000b (q : Ext × S) : Int × Int := ((pP_int1 (pA_p (avT q.2 4))), (pP_int1 (pA_p (avT q.2 5))))
abbrev YcMat_1450000000 : Type := (Unit) ⊕ ((Int × Int))
def XLcMat_1450000000 : XL YcMat_1450000000 := .more XcMat_1450000000a (.one XcMat_1450000000b)
def IcMat_1450000000 (q : Ext × S) : YcMat_1450000000 := bif (cE q.1 == 0) then (Sum.inl (IcMat_1450000000a q)) else (Sum.inr (IcMat_1450000000b q))
theorem XIcMat_1450000000a (y : Unit) : IcMat_1450000000 (xe (XcMat_1450000000a y)) = (Sum.inl y) := by kernel_rfl
theorem XIcMat_1450000000b (y : Int × Int) : IcMat_1450000000 (xe (XcMat_1450000000b y)) = (Sum.inr y) := by kernel_rfl
theorem XIcMat_1450000000 (y : YcMat_1450000000) : IcMat_1450000000 (xe (XLcMat_1450000000.fn y)) = y := (match y with | .inl y => XIcMat_1450000000a y | .inr y => XIcMat_1450000000b y)
noncomputable abbrev LcMat_1450000000 : Q → Option YcMat_1450000000 := lpO env a145.body 0 XLcMat_1450000000
noncomputable abbrev RcMat_1450000000 : Q → Option (Ext × S) := lpR env a145.body 0
theorem LcMat_1450000000a_of {s : Q} {y : Unit} (h : RcMat_1450000000 s = exO (XcMat_1450000000a y)) : LcMat_1450000000 s = some (Sum.inl y) := lpO_of IcMat_1450000000 XIcMat_1450000000 (y := (Sum.inl y)) h
theorem LcMat_1450000000b_of {s : Q} {y : Int × Int} (h : RcMat_1450000000 s = exO (XcMat_1450000000b y)) : LcMat_1450000000 s = some (Sum.inr y) := lpO_of IcMat_1450000000 XIcMat_1450000000 (y := (Sum.inr y)) h
def TcMat_900000000a (n0 : Nat) (c1 : List PV) (i2 i3 : Int) : Q := ⟨(tm 24 [(1, (AV.p (PV.fn 91 []))), (9, (AV.p (PV.list n0 c1))), (10, (AV.p (PV.int .i64 i2))), (11, (AV.p (PV.int .i64 i3)))]), (mm 24 [])⟩
def XcMat_900000000a (y : Int × Int) : Ext × Q := (Ext.ret, ⟨(tm 24 [(4, (AV.p (PV.int .i64 y.1))), (5, (AV.p (PV.int .i64 y.2)))]), (mm 24 [])⟩)
def IcMat_900000000a (q : Ext × S) : Int × Int := ((pP_int1 (pA_p (avT q.2 4))), (pP_int1 (pA_p (avT q.2 5))))
def XcMat_900000000b (y : Unit) : Ext × Q := (Ext.normal, ⟨(tm 24 []), (mm 24 [])⟩)
def IcMat_900000000b (q : Ext × S) : Unit := ()
abbrev YcMat_900000000 : Type := (Int × Int) ⊕ ((Unit))
def XLcMat_900000000 : XL YcMat_900000000 := .more XcMat_900000000a (.one XcMat_900000000b)
def IcMat_900000000 (q : Ext × S) : YcMat_900000000 := bif (cE q.1 == 2) then (Sum.inl (IcMat_900000000a q)) else (Sum.inr (IcMat_900000000b q))
theorem XIcMat_900000000a (y : Int × Int) : IcMat_900000000 (xe (XcMat_900000000a y)) = (Sum.inl y) := by kernel_rfl
theorem XIcMat_900000000b (y : Unit) : IcMat_900000000 (xe (XcMat_900000000b y)) = (Sum.inr y) := by kernel_rfl
theorem XIcMat_900000000 (y : YcMat_900000000) : IcMat_900000000 (xe (XLcMat_900000000.fn y)) = y := (match y with | .inl y => XIcMat_900000000a y | .inr y => XIcMat_900000000b y)
noncomputable abbrev LcMat_900000000 : Q → Option YcMat_900000000 := lpO env a90.body 0 XLcMat_900000000
noncomputable abbrev RcMat_900000000 : Q → Option (Ext × S) := lpR env a90.body 0
theorem LcMat_900000000a_of {s : Q} {y : Int × Int} (h : RcMat_900000000 s = exO (XcMat_900000000a y)) : LcMat_900000000 s = some (Sum.inl y) := lpO_of IcMat_900000000 XIcMat_900000000 (y := (Sum.inl y)) h
theorem LcMat_900000000b_of {s : Q} {y : Unit} (h : RcMat_900000000 s = exO (XcMat_900000000b y)) : LcMat_900000000 s = some (Sum.inr y) := lpO_of IcMat_900000000 XIcMat_900000000 (y := (Sum.inr y)) h
theorem UcMatg145 : uniq ((blocksOf a145.body).map (·.1)) = true := by kernel_rfl
theorem UcMatg90 : uniq ((blocksOf a90.body).map (·.1)) = true := by kernel_rfl
def EcMat (L1450000000 : Q → Option YcMat_1450000000) (L900000000 : Q → Option YcMat_900000000) : List Entry := [.inp 145 a145 s145 [⟨0, YcMat_1450000000, L1450000000, XLcMat_1450000000⟩], .inp 90 a90 s90 [⟨0, YcMat_900000000, L900000000, XLcMat_900000000⟩], .inl 88 a88 s88, .inl 89 a89 s89, .inl 91 a91 s91, .out 86 (RSh.one (CK.int .i64)), .out 92 (RSh.one (CK.int .i64)), .out 79 (RSh.one (CK.int .i64))]
theorem EcMat_ok : ∀ e ∈ EcMat LcMat_1450000000 LcMat_900000000, EntOK env e := (ent_inp rfl (lo_cons (lpO_ok UcMatg145) lo_nil) (ent_inp rfl (lo_cons (lpO_ok UcMatg90) lo_nil) (ent_inl rfl (ent_inl rfl (ent_inl rfl (ent_out (ent_out (ent_out ent_nil))))))))
def BcMat_1450000000a (F : FnT) (N : QO) (E : EO) (L1450000000 : Q → Option YcMat_1450000000) (L900000000 : Q → Option YcMat_900000000) (n0 : Nat) (c1 : List PV) (n2 : Nat) (c3 : List PV) (i4 i5 : Int) : Option (Ext × S) :=
  bif (decide (i5 < i4)) then
    bif (decide (((0 : Int) ≤ i5) ∧ (i5 < (n2 : Int)))) then
      bindO (listC (c3[((Int.toNat i5) * 1)]?)) fun x0 =>
      bindO (L900000000 (TcMat_900000000a x0.1 x0.2 (x0.1 : Int) (0 : Int))) fun z =>
      Sum.elim (fun y1 =>
        bif ((x0.1 : Int) != ((Prod.mk n0 c1).1 : Int)) then
          bindO (F 92 (RSh.one (CK.int .i64)) [(PV.bool true), (PV.int .i64 (10 : Int))]) fun (y2 : (Int)) =>
          bindO (F 79 (RSh.one (CK.int .i64)) [(PV.list 2 [(PV.int .i64 y2), (PV.int .i64 y1.2)])]) fun (y3 : (Int)) =>
          bif (y3 != (0 : Int)) then
            E (XcMat_1450000000b (i5, y3))
          else N (TcMat_1450000000a n0 c1 n2 c3 i4 (w64 (i5 + (1 : Int))))
        else bindO (F 92 (RSh.one (CK.int .i64)) [(PV.bool false), (PV.int .i64 (10 : Int))]) fun (y4 : (Int)) =>
        bindO (F 79 (RSh.one (CK.int .i64)) [(PV.list 2 [(PV.int .i64 y4), (PV.int .i64 y1.2)])]) fun (y5 : (Int)) =>
        bif (y5 != (0 : Int)) then
          E (XcMat_1450000000b (i5, y5))
        else N (TcMat_1450000000a n0 c1 n2 c3 i4 (w64 (i5 + (1 : Int))))) (fun y6 =>
        bif ((x0.1 : Int) != ((Prod.mk n0 c1).1 : Int)) then
          bindO (F 92 (RSh.one (CK.int .i64)) [(PV.bool true), (PV.int .i64 (10 : Int))]) fun (y7 : (Int)) =>
          bindO (F 79 (RSh.one (CK.int .i64)) [(PV.list 2 [(PV.int .i64 y7), (PV.int .i64 (0 : Int))])]) fun (y8 : (Int)) =>
          bif (y8 != (0 : Int)) then
            E (XcMat_1450000000b (i5, y8))
          else N (TcMat_1450000000a n0 c1 n2 c3 i4 (w64 (i5 + (1 : Int))))
        else bindO (F 92 (RSh.one (CK.int .i64)) [(PV.bool false), (PV.int .i64 (10 : Int))]) fun (y9 : (Int)) =>
        bindO (F 79 (RSh.one (CK.int .i64)) [(PV.list 2 [(PV.int .i64 y9), (PV.int .i64 (0 : Int))])]) fun (y10 : (Int)) =>
        bif (y10 != (0 : Int)) then
          E (XcMat_1450000000b (i5, y10))
        else N (TcMat_1450000000a n0 c1 n2 c3 i4 (w64 (i5 + (1 : Int))))) z
    else none
  else E (XcMat_1450000000a ())
theorem BcMat_1450000000a_eq (F : FnT) (N : QO) (E : EO) (L1450000000 : Q → Option YcMat_1450000000) (L900000000 : Q → Option YcMat_900000000) (n0 : Nat) (c1 : List PV) (n2 : Nat) (c3 : List PV) (i4 i5 : Int) : semB (callP F (EcMat L1450000000 L900000000) 20) s145 (loopT [⟨0, YcMat_1450000000, L1450000000, XLcMat_1450000000⟩]) 400 (blkIn a145.body 0) N E (TcMat_1450000000a n0 c1 n2 c3 i4 i5) = BcMat_1450000000a F N E L1450000000 L900000000 n0 c1 n2 c3 i4 i5 := by kernel_rfl
theorem RcMat_1450000000a_of  (n0 : Nat) (c1 : List PV) (n2 : Nat) (c3 : List PV) (i4 i5 : Int) {r : Ext × S} (h : BcMat_1450000000a (Fn env) RcMat_1450000000 exO LcMat_1450000000 LcMat_900000000 n0 c1 n2 c3 i4 i5 = some r) : RcMat_1450000000 (TcMat_1450000000a n0 c1 n2 c3 i4 i5) = some r :=
  lp_of EcMat_ok (by kernel_rfl) (lo_cons (lpO_ok UcMatg145) lo_nil) (by kernel_rfl) ((BcMat_1450000000a_eq _ _ _ _ _ _ _ _ _ _ _).trans h)
def BcMat_900000000a (F : FnT) (N : QO) (E : EO) (L1450000000 : Q → Option YcMat_1450000000) (L900000000 : Q → Option YcMat_900000000) (n0 : Nat) (c1 : List PV) (i2 i3 : Int) : Option (Ext × S) :=
  bif (decide (i3 < i2)) then
    bif (decide (((0 : Int) ≤ i3) ∧ (i3 < (n0 : Int)))) then
      bindO (intC .i64 (c1[((Int.toNat i3) * 1)]?)) fun x0 =>
      bindO (F 86 (RSh.one (CK.int .i64)) [(PV.int .i64 x0), (PV.int .i64 (0 : Int)), (PV.int .i64 (10000000 : Int))]) fun (y1 : (Int)) =>
      bif (y1 != (0 : Int)) then
        E (XcMat_900000000a (i3, y1))
      else N (TcMat_900000000a n0 c1 i2 (w64 (i3 + (1 : Int))))
    else none
  else E (XcMat_900000000b ())
theorem BcMat_900000000a_eq (F : FnT) (N : QO) (E : EO) (L1450000000 : Q → Option YcMat_1450000000) (L900000000 : Q → Option YcMat_900000000) (n0 : Nat) (c1 : List PV) (i2 i3 : Int) : semB (callP F (EcMat L1450000000 L900000000) 20) s90 (loopT [⟨0, YcMat_900000000, L900000000, XLcMat_900000000⟩]) 400 (blkIn a90.body 0) N E (TcMat_900000000a n0 c1 i2 i3) = BcMat_900000000a F N E L1450000000 L900000000 n0 c1 i2 i3 := by kernel_rfl
theorem RcMat_900000000a_of  (n0 : Nat) (c1 : List PV) (i2 i3 : Int) {r : Ext × S} (h : BcMat_900000000a (Fn env) RcMat_900000000 exO LcMat_1450000000 LcMat_900000000 n0 c1 i2 i3 = some r) : RcMat_900000000 (TcMat_900000000a n0 c1 i2 i3) = some r :=
  lp_of EcMat_ok (by kernel_rfl) (lo_cons (lpO_ok UcMatg90) lo_nil) (by kernel_rfl) ((BcMat_900000000a_eq _ _ _ _ _ _ _ _ _).trans h)
def tcMat (F : FnT) (L1450000000 : Q → Option YcMat_1450000000) (L900000000 : Q → Option YcMat_900000000) (p0n : Nat) (p0c : List PV) : Option ((Int) × (Int)) :=
  bif ((p0n : Int) == (0 : Int)) then
    some ((0 : Int), (10 : Int))
  else bif (decide ((p0n : Int) > (6 : Int))) then
    some ((0 : Int), (8 : Int))
  else bindO (L1450000000 (TcMat_1450000000a p0n p0c p0n p0c (p0n : Int) (0 : Int))) fun z =>
  Sum.elim (fun y0 =>
    some ((0 : Int), (0 : Int))) (fun y1 =>
    some (y1.1, y1.2)) z
theorem tcMat_eq (F : FnT) (L1450000000 : Q → Option YcMat_1450000000) (L900000000 : Q → Option YcMat_900000000) (p0n : Nat) (p0c : List PV) : semF (callP F (EcMat L1450000000 L900000000) 20) s26 (loopT []) 400 a26 [PV.list p0n p0c] (fun rv => decR (RSh.tup [(Prod.mk false [(CK.int .i64)]), (Prod.mk false [(CK.int .i64)])]) rv.pv) = tcMat F L1450000000 L900000000 p0n p0c := by kernel_rfl
noncomputable abbrev FcMat (args : List PV) := Fn env 26 (RSh.tup [(Prod.mk false [(CK.int .i64)]), (Prod.mk false [(CK.int .i64)])]) args
theorem FcMat_of  (p0n : Nat) (p0c : List PV) {res : ((Int) × (Int))} (h : tcMat (Fn env) LcMat_1450000000 LcMat_900000000 p0n p0c = some res) : FcMat [PV.list p0n p0c] = some res :=
  fn_of EcMat_ok rfl rfl lo_nil ((tcMat_eq _ _ _ _ _).trans h)
def EmatE : List Entry := [.out 26 (RSh.tup [(Prod.mk false [(CK.int .i64)]), (Prod.mk false [(CK.int .i64)])])]
theorem EmatE_ok : ∀ e ∈ EmatE, EntOK env e := (ent_out ent_nil)
def tmatE (F : FnT) (p0n : Nat) (p0c : List PV) : Option (Int) :=
  bindO (F 26 (RSh.tup [(Prod.mk false [(CK.int .i64)]), (Prod.mk false [(CK.int .i64)])]) [(PV.list p0n p0c)]) fun (y0 : ((Int) × (Int))) =>
  some y0.2
theorem tmatE_eq (F : FnT) (p0n : Nat) (p0c : List PV) : semF (callP F EmatE 20) s93 (loopT []) 400 a93 [PV.list p0n p0c] (fun rv => decR (RSh.one (CK.int .i64)) rv.pv) = tmatE F p0n p0c := by kernel_rfl
noncomputable abbrev FmatE (args : List PV) := Fn env 93 (RSh.one (CK.int .i64)) args
theorem FmatE_of  (p0n : Nat) (p0c : List PV) {res : (Int)} (h : tmatE (Fn env) p0n p0c = some res) : FmatE [PV.list p0n p0c] = some res :=
  fn_of EmatE_ok rfl rfl lo_nil ((tmatE_eq _ _ _).trans h)
end Gv

/- What the functions do, round by round: B5. -/
namespace Gv
open Go
set_option maxRecDepth 100000
def Esmall : List Entry := [.out 87 (RSh.one (CK.int .i64))]
theorem Esmall_ok : ∀ e ∈ Esmall, EntOK env e := (ent_out ent_nil)
def Tsmall_0a (n0 : Nat) (c1 : List PV) (i2 : Int) : Q := ⟨(tm 27 [(0, (AV.p (PV.list n0 c1))), (3, (AV.p (PV.int .i64 i2)))]), (mm 27 [])⟩
def Xsmall_0a (y : Unit) : Ext × Q := (Ext.ret, ⟨(tm 27 [(2, (AV.p (PV.bool false)))]), (mm 27 [])⟩)
def Ismall_0a (q : Ext × S) : Unit := ()
def Xsmall_0b (y : Nat × List PV) : Ext × Q := (Ext.normal, ⟨(tm 27 [(0, (AV.p (PV.list y.1 y.2)))]), (mm 27 [])⟩)
def Ismall_0b (q : Ext × S) : Nat × List PV := ((pP_list0 (pA_p (avT q.2 0))), (pP_list1 (pA_p (avT q.2 0))))
abbrev Ysmall_0 : Type := (Unit) ⊕ ((Nat × List PV))
def XLsmall_0 : XL Ysmall_0 := .more Xsmall_0a (.one Xsmall_0b)
def Ismall_0 (q : Ext × S) : Ysmall_0 := bif (cE q.1 == 2) then (Sum.inl (Ismall_0a q)) else (Sum.inr (Ismall_0b q))
theorem XIsmall_0a (y : Unit) : Ismall_0 (xe (Xsmall_0a y)) = (Sum.inl y) := by kernel_rfl
theorem XIsmall_0b (y : Nat × List PV) : Ismall_0 (xe (Xsmall_0b y)) = (Sum.inr y) := by kernel_rfl
theorem XIsmall_0 (y : Ysmall_0) : Ismall_0 (xe (XLsmall_0.fn y)) = y := (match y with | .inl y => XIsmall_0a y | .inr y => XIsmall_0b y)
noncomputable abbrev Lsmall_0 : Q → Option Ysmall_0 := lpO env a25.body 0 XLsmall_0
noncomputable abbrev Rsmall_0 : Q → Option (Ext × S) := lpR env a25.body 0
theorem Lsmall_0a_of {s : Q} {y : Unit} (h : Rsmall_0 s = exO (Xsmall_0a y)) : Lsmall_0 s = some (Sum.inl y) := lpO_of Ismall_0 XIsmall_0 (y := (Sum.inl y)) h
theorem Lsmall_0b_of {s : Q} {y : Nat × List PV} (h : Rsmall_0 s = exO (Xsmall_0b y)) : Lsmall_0 s = some (Sum.inr y) := lpO_of Ismall_0 XIsmall_0 (y := (Sum.inr y)) h
theorem Usmall : uniq ((blocksOf a25.body).map (·.1)) = true := by kernel_rfl
def Bsmall_0a (F : FnT) (N : QO) (E : EO) (L0 : Q → Option Ysmall_0) (n0 : Nat) (c1 : List PV) (i2 : Int) : Option (Ext × S) :=
  bif (decide (i2 < (n0 : Int))) then
    bif (decide (((0 : Int) ≤ i2) ∧ (i2 < (n0 : Int)))) then
      bindO (listC (c1[((Int.toNat i2) * 1)]?)) fun x0 =>
      bif (decide ((x0.1 : Int) > (8 : Int))) then
        E (Xsmall_0a ())
      else N (Tsmall_0a n0 c1 (w64 (i2 + (1 : Int))))
    else none
  else E (Xsmall_0b (n0, c1))
theorem Bsmall_0a_eq (F : FnT) (N : QO) (E : EO) (L0 : Q → Option Ysmall_0) (n0 : Nat) (c1 : List PV) (i2 : Int) : semB (callP F Esmall 20) s25 (loopT [⟨0, Ysmall_0, L0, XLsmall_0⟩]) 400 (blkIn a25.body 0) N E (Tsmall_0a n0 c1 i2) = Bsmall_0a F N E L0 n0 c1 i2 := by kernel_rfl
theorem Rsmall_0a_of  (n0 : Nat) (c1 : List PV) (i2 : Int) {r : Ext × S} (h : Bsmall_0a (Fn env) Rsmall_0 exO Lsmall_0 n0 c1 i2 = some r) : Rsmall_0 (Tsmall_0a n0 c1 i2) = some r :=
  lp_of Esmall_ok (by kernel_rfl) (lo_cons (lpO_ok Usmall) lo_nil) (by kernel_rfl) ((Bsmall_0a_eq _ _ _ _ _ _ _).trans h)
def tsmall (F : FnT) (L0 : Q → Option Ysmall_0) (p0n : Nat) (p0c : List PV) : Option (Bool) :=
  bif (decide ((p0n : Int) > (8 : Int))) then
    some false
  else bindO (L0 (Tsmall_0a p0n p0c (0 : Int))) fun z =>
  Sum.elim (fun y0 =>
    some false) (fun y1 =>
    bindO (F 87 (RSh.one (CK.int .i64)) [(PV.list y1.1 y1.2)]) fun (y2 : (Int)) =>
    bif (y2 != (0 : Int)) then
      some true
    else bif (decide ((y1.1 : Int) ≤ (5 : Int))) then
      some true
    else some false) z
theorem tsmall_eq (F : FnT) (L0 : Q → Option Ysmall_0) (p0n : Nat) (p0c : List PV) : semF (callP F Esmall 20) s25 (loopT [⟨0, Ysmall_0, L0, XLsmall_0⟩]) 400 a25 [PV.list p0n p0c] (fun rv => decR (RSh.one CK.bool) rv.pv) = tsmall F L0 p0n p0c := by kernel_rfl
noncomputable abbrev Fsmall (args : List PV) := Fn env 25 (RSh.one CK.bool) args
theorem Fsmall_of  (p0n : Nat) (p0c : List PV) {res : (Bool)} (h : tsmall (Fn env) Lsmall_0 p0n p0c = some res) : Fsmall [PV.list p0n p0c] = some res :=
  fn_of Esmall_ok rfl rfl (lo_cons (lpO_ok Usmall) lo_nil) ((tsmall_eq _ _ _ _).trans h)
def ErMatE : List Entry := [.out 30 (RSh.tup [(Prod.mk false [(CK.int .i64)]), (Prod.mk false [(CK.int .i64)])])]
theorem ErMatE_ok : ∀ e ∈ ErMatE, EntOK env e := (ent_out ent_nil)
def trMatE (F : FnT) (p0n : Nat) (p0c : List PV) : Option (Int) :=
  bindO (F 30 (RSh.tup [(Prod.mk false [(CK.int .i64)]), (Prod.mk false [(CK.int .i64)])]) [(PV.list p0n p0c)]) fun (y0 : ((Int) × (Int))) =>
  some y0.2
theorem trMatE_eq (F : FnT) (p0n : Nat) (p0c : List PV) : semF (callP F ErMatE 20) s87 (loopT []) 400 a87 [PV.list p0n p0c] (fun rv => decR (RSh.one (CK.int .i64)) rv.pv) = trMatE F p0n p0c := by kernel_rfl
noncomputable abbrev FrMatE (args : List PV) := Fn env 87 (RSh.one (CK.int .i64)) args
theorem FrMatE_of  (p0n : Nat) (p0c : List PV) {res : (Int)} (h : trMatE (Fn env) p0n p0c = some res) : FrMatE [PV.list p0n p0c] = some res :=
  fn_of ErMatE_ok rfl rfl lo_nil ((trMatE_eq _ _ _).trans h)
def ErCMat : List Entry := [.out 23 (RSh.one CK.bool)]
theorem ErCMat_ok : ∀ e ∈ ErCMat, EntOK env e := (ent_out ent_nil)
def TrCMat_0a (n0 : Nat) (c1 : List PV) (i2 : Int) : Q := ⟨(tm 43 [(0, (AV.p (PV.list n0 c1))), (4, (AV.p (PV.int .i64 i2)))]), (mm 43 [])⟩
def XrCMat_0a (y : Int × Int) : Ext × Q := (Ext.ret, ⟨(tm 43 [(2, (AV.p (PV.int .i64 y.1))), (3, (AV.p (PV.int .i64 y.2)))]), (mm 43 [])⟩)
def IrCMat_0a (q : Ext × S) : Int × Int := ((pP_int1 (pA_p (avT q.2 2))), (pP_int1 (pA_p (avT q.2 3))))
def XrCMat_0b (y : Unit) : Ext × Q := (Ext.normal, ⟨(tm 43 []), (mm 43 [])⟩)
def IrCMat_0b (q : Ext × S) : Unit := ()
abbrev YrCMat_0 : Type := (Int × Int) ⊕ ((Unit))
def XLrCMat_0 : XL YrCMat_0 := .more XrCMat_0a (.one XrCMat_0b)
def IrCMat_0 (q : Ext × S) : YrCMat_0 := bif (cE q.1 == 2) then (Sum.inl (IrCMat_0a q)) else (Sum.inr (IrCMat_0b q))
theorem XIrCMat_0a (y : Int × Int) : IrCMat_0 (xe (XrCMat_0a y)) = (Sum.inl y) := by kernel_rfl
theorem XIrCMat_0b (y : Unit) : IrCMat_0 (xe (XrCMat_0b y)) = (Sum.inr y) := by kernel_rfl
theorem XIrCMat_0 (y : YrCMat_0) : IrCMat_0 (xe (XLrCMat_0.fn y)) = y := (match y with | .inl y => XIrCMat_0a y | .inr y => XIrCMat_0b y)
noncomputable abbrev LrCMat_0 : Q → Option YrCMat_0 := lpO env a30.body 0 XLrCMat_0
noncomputable abbrev RrCMat_0 : Q → Option (Ext × S) := lpR env a30.body 0
theorem LrCMat_0a_of {s : Q} {y : Int × Int} (h : RrCMat_0 s = exO (XrCMat_0a y)) : LrCMat_0 s = some (Sum.inl y) := lpO_of IrCMat_0 XIrCMat_0 (y := (Sum.inl y)) h
theorem LrCMat_0b_of {s : Q} {y : Unit} (h : RrCMat_0 s = exO (XrCMat_0b y)) : LrCMat_0 s = some (Sum.inr y) := lpO_of IrCMat_0 XIrCMat_0 (y := (Sum.inr y)) h
def TrCMat_2a (n0 : Nat) (c1 : List PV) (i2 i3 : Int) : Q := ⟨(tm 43 [(0, (AV.p (PV.list n0 c1))), (4, (AV.p (PV.int .i64 i2))), (5, (AV.p (PV.int .i64 i3)))]), (mm 43 [])⟩
def XrCMat_2a (y : Int) : Ext × Q := (Ext.ret, ⟨(tm 43 [(2, (AV.p (PV.int .i64 y))), (3, (AV.p (PV.int .i64 (2 : Int))))]), (mm 43 [])⟩)
def IrCMat_2a (q : Ext × S) : Int := (pP_int1 (pA_p (avT q.2 2)))
def XrCMat_2b (y : Nat × List PV × Int) : Ext × Q := (Ext.normal, ⟨(tm 43 [(0, (AV.p (PV.list y.1 y.2.1))), (4, (AV.p (PV.int .i64 y.2.2)))]), (mm 43 [])⟩)
def IrCMat_2b (q : Ext × S) : Nat × List PV × Int := ((pP_list0 (pA_p (avT q.2 0))), (pP_list1 (pA_p (avT q.2 0))), (pP_int1 (pA_p (avT q.2 4))))
abbrev YrCMat_2 : Type := (Int) ⊕ ((Nat × List PV × Int))
def XLrCMat_2 : XL YrCMat_2 := .more XrCMat_2a (.one XrCMat_2b)
def IrCMat_2 (q : Ext × S) : YrCMat_2 := bif (cE q.1 == 2) then (Sum.inl (IrCMat_2a q)) else (Sum.inr (IrCMat_2b q))
theorem XIrCMat_2a (y : Int) : IrCMat_2 (xe (XrCMat_2a y)) = (Sum.inl y) := by kernel_rfl
theorem XIrCMat_2b (y : Nat × List PV × Int) : IrCMat_2 (xe (XrCMat_2b y)) = (Sum.inr y) := by kernel_rfl
theorem XIrCMat_2 (y : YrCMat_2) : IrCMat_2 (xe (XLrCMat_2.fn y)) = y := (match y with | .inl y => XIrCMat_2a y | .inr y => XIrCMat_2b y)
noncomputable abbrev LrCMat_2 : Q → Option YrCMat_2 := lpO env a30.body 2 XLrCMat_2
noncomputable abbrev RrCMat_2 : Q → Option (Ext × S) := lpR env a30.body 2
theorem LrCMat_2a_of {s : Q} {y : Int} (h : RrCMat_2 s = exO (XrCMat_2a y)) : LrCMat_2 s = some (Sum.inl y) := lpO_of IrCMat_2 XIrCMat_2 (y := (Sum.inl y)) h
theorem LrCMat_2b_of {s : Q} {y : Nat × List PV × Int} (h : RrCMat_2 s = exO (XrCMat_2b y)) : LrCMat_2 s = some (Sum.inr y) := lpO_of IrCMat_2 XIrCMat_2 (y := (Sum.inr y)) h
theorem UrCMat : uniq ((blocksOf a30.body).map (·.1)) = true := by kernel_rfl
def BrCMat_0a (F : FnT) (N : QO) (E : EO) (L0 : Q → Option YrCMat_0) (L2 : Q → Option YrCMat_2) (n0 : Nat) (c1 : List PV) (i2 : Int) : Option (Ext × S) :=
  bif (decide (i2 < (n0 : Int))) then
    bif (decide (((0 : Int) ≤ i2) ∧ (i2 < (n0 : Int)))) then
      bindO (listC (c1[((Int.toNat i2) * 1)]?)) fun x0 =>
      bif ((x0.1 : Int) != (n0 : Int)) then
        E (XrCMat_0a (i2, (10 : Int)))
      else bindO (L2 (TrCMat_2a n0 c1 i2 (0 : Int))) fun z =>
      Sum.elim (fun y1 =>
        E (XrCMat_0a (y1, (2 : Int)))) (fun y2 =>
        N (TrCMat_0a y2.1 y2.2.1 (w64 (y2.2.2 + (1 : Int))))) z
    else none
  else E (XrCMat_0b ())
theorem BrCMat_0a_eq (F : FnT) (N : QO) (E : EO) (L0 : Q → Option YrCMat_0) (L2 : Q → Option YrCMat_2) (n0 : Nat) (c1 : List PV) (i2 : Int) : semB (callP F ErCMat 20) s30 (loopT [⟨0, YrCMat_0, L0, XLrCMat_0⟩, ⟨2, YrCMat_2, L2, XLrCMat_2⟩]) 400 (blkIn a30.body 0) N E (TrCMat_0a n0 c1 i2) = BrCMat_0a F N E L0 L2 n0 c1 i2 := by kernel_rfl
theorem RrCMat_0a_of  (n0 : Nat) (c1 : List PV) (i2 : Int) {r : Ext × S} (h : BrCMat_0a (Fn env) RrCMat_0 exO LrCMat_0 LrCMat_2 n0 c1 i2 = some r) : RrCMat_0 (TrCMat_0a n0 c1 i2) = some r :=
  lp_of ErCMat_ok (by kernel_rfl) (lo_cons (lpO_ok UrCMat) (lo_cons (lpO_ok UrCMat) lo_nil)) (by kernel_rfl) ((BrCMat_0a_eq _ _ _ _ _ _ _ _).trans h)
def BrCMat_2a (F : FnT) (N : QO) (E : EO) (L0 : Q → Option YrCMat_0) (L2 : Q → Option YrCMat_2) (n0 : Nat) (c1 : List PV) (i2 i3 : Int) : Option (Ext × S) :=
  bif (decide (i3 < (n0 : Int))) then
    bif (decide (((0 : Int) ≤ i2) ∧ (i2 < (n0 : Int)))) then
      bindO (listC (c1[((Int.toNat i2) * 1)]?)) fun x0 =>
      bif (decide (((0 : Int) ≤ i3) ∧ (i3 < (x0.1 : Int)))) then
        bindO (intC .i64 (x0.2[((Int.toNat i3) * 1)]?)) fun x1 =>
        bindO (F 23 (RSh.one CK.bool) [(PV.int .i64 x1), (PV.int .i64 (0 : Int)), (PV.int .i64 (10000000 : Int))]) fun (y2 : (Bool)) =>
        bif y2 then
          N (TrCMat_2a n0 c1 i2 (w64 (i3 + (1 : Int))))
        else E (XrCMat_2a i2)
      else none
    else none
  else E (XrCMat_2b (n0, c1, i2))
theorem BrCMat_2a_eq (F : FnT) (N : QO) (E : EO) (L0 : Q → Option YrCMat_0) (L2 : Q → Option YrCMat_2) (n0 : Nat) (c1 : List PV) (i2 i3 : Int) : semB (callP F ErCMat 20) s30 (loopT [⟨0, YrCMat_0, L0, XLrCMat_0⟩, ⟨2, YrCMat_2, L2, XLrCMat_2⟩]) 400 (blkIn a30.body 2) N E (TrCMat_2a n0 c1 i2 i3) = BrCMat_2a F N E L0 L2 n0 c1 i2 i3 := by kernel_rfl
theorem RrCMat_2a_of  (n0 : Nat) (c1 : List PV) (i2 i3 : Int) {r : Ext × S} (h : BrCMat_2a (Fn env) RrCMat_2 exO LrCMat_0 LrCMat_2 n0 c1 i2 i3 = some r) : RrCMat_2 (TrCMat_2a n0 c1 i2 i3) = some r :=
  lp_of ErCMat_ok (by kernel_rfl) (lo_cons (lpO_ok UrCMat) (lo_cons (lpO_ok UrCMat) lo_nil)) (by kernel_rfl) ((BrCMat_2a_eq _ _ _ _ _ _ _ _ _).trans h)
def trCMat (F : FnT) (L0 : Q → Option YrCMat_0) (L2 : Q → Option YrCMat_2) (p0n : Nat) (p0c : List PV) : Option ((Int) × (Int)) :=
  bif ((p0n : Int) == (0 : Int)) then
    some ((0 : Int), (10 : Int))
  else bif (decide ((p0n : Int) > (6 : Int))) then
    some ((0 : Int), (8 : Int))
  else bindO (L0 (TrCMat_0a p0n p0c (0 : Int))) fun z =>
  Sum.elim (fun y0 =>
    some (y0.1, y0.2)) (fun y1 =>
    some ((0 : Int), (0 : Int))) z
theorem trCMat_eq (F : FnT) (L0 : Q → Option YrCMat_0) (L2 : Q → Option YrCMat_2) (p0n : Nat) (p0c : List PV) : semF (callP F ErCMat 20) s30 (loopT [⟨0, YrCMat_0, L0, XLrCMat_0⟩, ⟨2, YrCMat_2, L2, XLrCMat_2⟩]) 400 a30 [PV.list p0n p0c] (fun rv => decR (RSh.tup [(Prod.mk false [(CK.int .i64)]), (Prod.mk false [(CK.int .i64)])]) rv.pv) = trCMat F L0 L2 p0n p0c := by kernel_rfl
noncomputable abbrev FrCMat (args : List PV) := Fn env 30 (RSh.tup [(Prod.mk false [(CK.int .i64)]), (Prod.mk false [(CK.int .i64)])]) args
theorem FrCMat_of  (p0n : Nat) (p0c : List PV) {res : ((Int) × (Int))} (h : trCMat (Fn env) LrCMat_0 LrCMat_2 p0n p0c = some res) : FrCMat [PV.list p0n p0c] = some res :=
  fn_of ErCMat_ok rfl rfl (lo_cons (lpO_ok UrCMat) (lo_cons (lpO_ok UrCMat) lo_nil)) ((trCMat_eq _ _ _ _ _).trans h)
def ErCopM : List Entry := [.out 78 (RSh.one CK.list)]
theorem ErCopM_ok : ∀ e ∈ ErCopM, EntOK env e := (ent_out ent_nil)
def TrCopM_0a (n0 : Nat) (c1 : List PV) : Q := ⟨(tm 20 [(0, (AV.p (PV.list n0 c1))), (3, AV.nilS), (4, (AV.p (PV.int .i64 (0 : Int))))]), (mm 20 [])⟩
def TrCopM_0b (n0 : Nat) (c1 : List PV) (n2 : Nat) (c3 : List PV) (i4 : Int) (n5 : Nat) : Q := ⟨(tm 20 [(0, (AV.p (PV.list n0 c1))), (3, (AV.app 18 n2 1 c3)), (4, (AV.p (PV.int .i64 i4)))]), (mm 20 [(18, (Bk.buf n5))])⟩
def XrCopM_0a (y : Unit) : Ext × Q := (Ext.normal, ⟨(tm 20 [(3, AV.nilS)]), (mm 20 [])⟩)
def IrCopM_0a (q : Ext × S) : Unit := ()
def XrCopM_0b (y : Nat × List PV × Nat) : Ext × Q := (Ext.normal, ⟨(tm 20 [(3, (AV.app 18 y.1 1 y.2.1))]), (mm 20 [(18, (Bk.buf y.2.2))])⟩)
def IrCopM_0b (q : Ext × S) : Nat × List PV × Nat := ((pA_app1 (avT q.2 3)), (pA_app3 (avT q.2 3)), (pB_buf0 (avM q.2 18)))
abbrev YrCopM_0 : Type := (Unit) ⊕ ((Nat × List PV × Nat))
def XLrCopM_0 : XL YrCopM_0 := .more XrCopM_0a (.one XrCopM_0b)
def IrCopM_0 (q : Ext × S) : YrCopM_0 := bif (cA (avT q.2 3) == 1) then (Sum.inl (IrCopM_0a q)) else (Sum.inr (IrCopM_0b q))
theorem XIrCopM_0a (y : Unit) : IrCopM_0 (xe (XrCopM_0a y)) = (Sum.inl y) := by kernel_rfl
theorem XIrCopM_0b (y : Nat × List PV × Nat) : IrCopM_0 (xe (XrCopM_0b y)) = (Sum.inr y) := by kernel_rfl
theorem XIrCopM_0 (y : YrCopM_0) : IrCopM_0 (xe (XLrCopM_0.fn y)) = y := (match y with | .inl y => XIrCopM_0a y | .inr y => XIrCopM_0b y)
noncomputable abbrev LrCopM_0 : Q → Option YrCopM_0 := lpO env a27.body 0 XLrCopM_0
noncomputable abbrev RrCopM_0 : Q → Option (Ext × S) := lpR env a27.body 0
theorem LrCopM_0a_of {s : Q} {y : Unit} (h : RrCopM_0 s = exO (XrCopM_0a y)) : LrCopM_0 s = some (Sum.inl y) := lpO_of IrCopM_0 XIrCopM_0 (y := (Sum.inl y)) h
theorem LrCopM_0b_of {s : Q} {y : Nat × List PV × Nat} (h : RrCopM_0 s = exO (XrCopM_0b y)) : LrCopM_0 s = some (Sum.inr y) := lpO_of IrCopM_0 XIrCopM_0 (y := (Sum.inr y)) h
theorem UrCopM : uniq ((blocksOf a27.body).map (·.1)) = true := by kernel_rfl
def BrCopM_0a (F : FnT) (N : QO) (E : EO) (L0 : Q → Option YrCopM_0) (n0 : Nat) (c1 : List PV) : Option (Ext × S) :=
  bif (decide ((0 : Int) < (n0 : Int))) then
    bif (decide (((0 : Int) ≤ (0 : Int)) ∧ ((0 : Int) < (n0 : Int)))) then
      bindO (listC (c1[0]?)) fun x0 =>
      bindO (F 78 (RSh.one CK.list) [(PV.list x0.1 x0.2)]) fun (y1 : ((Nat) × (List PV))) =>
      N (TrCopM_0b n0 c1 1 [(PV.list y1.1 y1.2)] (1 : Int) 1)
    else none
  else E (XrCopM_0a ())
theorem BrCopM_0a_eq (F : FnT) (N : QO) (E : EO) (L0 : Q → Option YrCopM_0) (n0 : Nat) (c1 : List PV) : semB (callP F ErCopM 20) s27 (loopT [⟨0, YrCopM_0, L0, XLrCopM_0⟩]) 400 (blkIn a27.body 0) N E (TrCopM_0a n0 c1) = BrCopM_0a F N E L0 n0 c1 := by kernel_rfl
theorem RrCopM_0a_of  (n0 : Nat) (c1 : List PV) {r : Ext × S} (h : BrCopM_0a (Fn env) RrCopM_0 exO LrCopM_0 n0 c1 = some r) : RrCopM_0 (TrCopM_0a n0 c1) = some r :=
  lp_of ErCopM_ok (by kernel_rfl) (lo_cons (lpO_ok UrCopM) lo_nil) (by kernel_rfl) ((BrCopM_0a_eq _ _ _ _ _ _).trans h)
def BrCopM_0b (F : FnT) (N : QO) (E : EO) (L0 : Q → Option YrCopM_0) (n0 : Nat) (c1 : List PV) (n2 : Nat) (c3 : List PV) (i4 : Int) (n5 : Nat) : Option (Ext × S) :=
  bif (decide (i4 < (n0 : Int))) then
    bif (decide (((0 : Int) ≤ i4) ∧ (i4 < (n0 : Int)))) then
      bindO (listC (c1[((Int.toNat i4) * 1)]?)) fun x0 =>
      bindO (F 78 (RSh.one CK.list) [(PV.list x0.1 x0.2)]) fun (y1 : ((Nat) × (List PV))) =>
      bif (decide ((n5 = n2) ∧ ((n2 + 1) ≤ big))) then
        N (TrCopM_0b n0 c1 (n2 + 1) (c3 ++ [(PV.list y1.1 y1.2)]) (w64 (i4 + (1 : Int))) (n2 + 1))
      else none
    else none
  else E (XrCopM_0b (n2, c3, n5))
theorem BrCopM_0b_eq (F : FnT) (N : QO) (E : EO) (L0 : Q → Option YrCopM_0) (n0 : Nat) (c1 : List PV) (n2 : Nat) (c3 : List PV) (i4 : Int) (n5 : Nat) : semB (callP F ErCopM 20) s27 (loopT [⟨0, YrCopM_0, L0, XLrCopM_0⟩]) 400 (blkIn a27.body 0) N E (TrCopM_0b n0 c1 n2 c3 i4 n5) = BrCopM_0b F N E L0 n0 c1 n2 c3 i4 n5 := by kernel_rfl
theorem RrCopM_0b_of  (n0 : Nat) (c1 : List PV) (n2 : Nat) (c3 : List PV) (i4 : Int) (n5 : Nat) {r : Ext × S} (h : BrCopM_0b (Fn env) RrCopM_0 exO LrCopM_0 n0 c1 n2 c3 i4 n5 = some r) : RrCopM_0 (TrCopM_0b n0 c1 n2 c3 i4 n5) = some r :=
  lp_of ErCopM_ok (by kernel_rfl) (lo_cons (lpO_ok UrCopM) lo_nil) (by kernel_rfl) ((BrCopM_0b_eq _ _ _ _ _ _ _ _ _ _).trans h)
def trCopM (F : FnT) (L0 : Q → Option YrCopM_0) (p0n : Nat) (p0c : List PV) : Option ((Nat) × (List PV)) :=
  bindO (L0 (TrCopM_0a p0n p0c)) fun z =>
  Sum.elim (fun y0 =>
    some (0, [])) (fun y1 =>
    bif (decide (y1.2.2 = y1.1)) then
      some (y1.1, y1.2.1)
    else none) z
theorem trCopM_eq (F : FnT) (L0 : Q → Option YrCopM_0) (p0n : Nat) (p0c : List PV) : semF (callP F ErCopM 20) s27 (loopT [⟨0, YrCopM_0, L0, XLrCopM_0⟩]) 400 a27 [PV.list p0n p0c] (fun rv => decR (RSh.one CK.list) rv.pv) = trCopM F L0 p0n p0c := by kernel_rfl
noncomputable abbrev FrCopM (args : List PV) := Fn env 27 (RSh.one CK.list) args
theorem FrCopM_of  (p0n : Nat) (p0c : List PV) {res : ((Nat) × (List PV))} (h : trCopM (Fn env) LrCopM_0 p0n p0c = some res) : FrCopM [PV.list p0n p0c] = some res :=
  fn_of ErCopM_ok rfl rfl (lo_cons (lpO_ok UrCopM) lo_nil) ((trCopM_eq _ _ _ _).trans h)
def EbCopI : List Entry := []
theorem EbCopI_ok : ∀ e ∈ EbCopI, EntOK env e := ent_nil
def tbCopI (F : FnT) (p0n : Nat) (p0c : List PV) : Option ((Nat) × (List PV)) :=
  bif (decide (p0n = 0)) then
    some (0, [])
  else bif (decide ((List.length p0c) = (p0n * 1))) then
    bif (decide ((0 = 0) ∧ ((0 + p0n) ≤ big))) then
      bif (decide ((0 + p0n) = (0 + p0n))) then
        some ((0 + p0n), ([] ++ p0c))
      else none
    else none
  else none
theorem tbCopI_eq (F : FnT) (p0n : Nat) (p0c : List PV) : semF (callP F EbCopI 20) s78 (loopT []) 400 a78 [PV.list p0n p0c] (fun rv => decR (RSh.one CK.list) rv.pv) = tbCopI F p0n p0c := by kernel_rfl
noncomputable abbrev FbCopI (args : List PV) := Fn env 78 (RSh.one CK.list) args
theorem FbCopI_of  (p0n : Nat) (p0c : List PV) {res : ((Nat) × (List PV))} (h : tbCopI (Fn env) p0n p0c = some res) : FbCopI [PV.list p0n p0c] = some res :=
  fn_of EbCopI_ok rfl rfl lo_nil ((tbCopI_eq _ _ _).trans h)
def EbHas : List Entry := []
theorem EbHas_ok : ∀ e ∈ EbHas, EntOK env e := ent_nil
def TbHas_0a (n0 : Nat) (c1 : List PV) (i2 i3 : Int) : Q := ⟨(tm 18 [(0, (AV.p (PV.list n0 c1))), (1, (AV.p (PV.int .i64 i2))), (5, (AV.p (PV.int .i64 i3)))]), (mm 18 [])⟩
def XbHas_0a (y : Unit) : Ext × Q := (Ext.ret, ⟨(tm 18 [(4, (AV.p (PV.bool true)))]), (mm 18 [])⟩)
def IbHas_0a (q : Ext × S) : Unit := ()
def XbHas_0b (y : Unit) : Ext × Q := (Ext.normal, ⟨(tm 18 []), (mm 18 [])⟩)
def IbHas_0b (q : Ext × S) : Unit := ()
abbrev YbHas_0 : Type := (Unit) ⊕ ((Unit))
def XLbHas_0 : XL YbHas_0 := .more XbHas_0a (.one XbHas_0b)
def IbHas_0 (q : Ext × S) : YbHas_0 := bif (cE q.1 == 2) then (Sum.inl (IbHas_0a q)) else (Sum.inr (IbHas_0b q))
theorem XIbHas_0a (y : Unit) : IbHas_0 (xe (XbHas_0a y)) = (Sum.inl y) := by kernel_rfl
theorem XIbHas_0b (y : Unit) : IbHas_0 (xe (XbHas_0b y)) = (Sum.inr y) := by kernel_rfl
theorem XIbHas_0 (y : YbHas_0) : IbHas_0 (xe (XLbHas_0.fn y)) = y := (match y with | .inl y => XIbHas_0a y | .inr y => XIbHas_0b y)
noncomputable abbrev LbHas_0 : Q → Option YbHas_0 := lpO env a108.body 0 XLbHas_0
noncomputable abbrev RbHas_0 : Q → Option (Ext × S) := lpR env a108.body 0
theorem LbHas_0a_of {s : Q} {y : Unit} (h : RbHas_0 s = exO (XbHas_0a y)) : LbHas_0 s = some (Sum.inl y) := lpO_of IbHas_0 XIbHas_0 (y := (Sum.inl y)) h
theorem LbHas_0b_of {s : Q} {y : Unit} (h : RbHas_0 s = exO (XbHas_0b y)) : LbHas_0 s = some (Sum.inr y) := lpO_of IbHas_0 XIbHas_0 (y := (Sum.inr y)) h
theorem UbHas : uniq ((blocksOf a108.body).map (·.1)) = true := by kernel_rfl
def BbHas_0a (F : FnT) (N : QO) (E : EO) (L0 : Q → Option YbHas_0) (n0 : Nat) (c1 : List PV) (i2 i3 : Int) : Option (Ext × S) :=
  bif (decide (i3 < (n0 : Int))) then
    bif (decide (((0 : Int) ≤ i3) ∧ (i3 < (n0 : Int)))) then
      bindO (intC .i64 (c1[((Int.toNat i3) * 1)]?)) fun x0 =>
      bif (x0 == i2) then
        E (XbHas_0a ())
      else N (TbHas_0a n0 c1 i2 (w64 (i3 + (1 : Int))))
    else none
  else E (XbHas_0b ())
theorem BbHas_0a_eq (F : FnT) (N : QO) (E : EO) (L0 : Q → Option YbHas_0) (n0 : Nat) (c1 : List PV) (i2 i3 : Int) : semB (callP F EbHas 20) s108 (loopT [⟨0, YbHas_0, L0, XLbHas_0⟩]) 400 (blkIn a108.body 0) N E (TbHas_0a n0 c1 i2 i3) = BbHas_0a F N E L0 n0 c1 i2 i3 := by kernel_rfl
theorem RbHas_0a_of  (n0 : Nat) (c1 : List PV) (i2 i3 : Int) {r : Ext × S} (h : BbHas_0a (Fn env) RbHas_0 exO LbHas_0 n0 c1 i2 i3 = some r) : RbHas_0 (TbHas_0a n0 c1 i2 i3) = some r :=
  lp_of EbHas_ok (by kernel_rfl) (lo_cons (lpO_ok UbHas) lo_nil) (by kernel_rfl) ((BbHas_0a_eq _ _ _ _ _ _ _ _).trans h)
def tbHas (F : FnT) (L0 : Q → Option YbHas_0) (p0n : Nat) (p0c : List PV) (p1 : Int) : Option (Bool) :=
  bindO (L0 (TbHas_0a p0n p0c p1 (0 : Int))) fun z =>
  Sum.elim (fun y0 =>
    some true) (fun y1 =>
    some false) z
theorem tbHas_eq (F : FnT) (L0 : Q → Option YbHas_0) (p0n : Nat) (p0c : List PV) (p1 : Int) : semF (callP F EbHas 20) s108 (loopT [⟨0, YbHas_0, L0, XLbHas_0⟩]) 400 a108 [PV.list p0n p0c, PV.int .i64 p1] (fun rv => decR (RSh.one CK.bool) rv.pv) = tbHas F L0 p0n p0c p1 := by kernel_rfl
noncomputable abbrev FbHas (args : List PV) := Fn env 108 (RSh.one CK.bool) args
theorem FbHas_of  (p0n : Nat) (p0c : List PV) (p1 : Int) {res : (Bool)} (h : tbHas (Fn env) LbHas_0 p0n p0c p1 = some res) : FbHas [PV.list p0n p0c, PV.int .i64 p1] = some res :=
  fn_of EbHas_ok rfl rfl (lo_cons (lpO_ok UbHas) lo_nil) ((tbHas_eq _ _ _ _ _).trans h)
def ErCost : List Entry := []
theorem ErCost_ok : ∀ e ∈ ErCost, EntOK env e := ent_nil
def TrCost_0a (n0 : Nat) (c1 : List PV) (n2 : Nat) (c3 : List PV) (i4 i5 : Int) : Q := ⟨(tm 26 [(0, (AV.p (PV.list n0 c1))), (1, (AV.p (PV.list n2 c3))), (5, (AV.p (PV.int .i64 i4))), (6, (AV.p (PV.int .i64 i5)))]), (mm 26 [])⟩
def XrCost_0a (y : Int) : Ext × Q := (Ext.normal, ⟨(tm 26 [(5, (AV.p (PV.int .i64 y)))]), (mm 26 [])⟩)
def IrCost_0a (q : Ext × S) : Int := (pP_int1 (pA_p (avT q.2 5)))
abbrev YrCost_0 : Type := Int
def XLrCost_0 : XL YrCost_0 := .one XrCost_0a
def IrCost_0 (q : Ext × S) : YrCost_0 := (IrCost_0a q)
theorem XIrCost_0a (y : Int) : IrCost_0 (xe (XrCost_0a y)) = y := by kernel_rfl
theorem XIrCost_0 (y : YrCost_0) : IrCost_0 (xe (XLrCost_0.fn y)) = y := XIrCost_0a y
noncomputable abbrev LrCost_0 : Q → Option YrCost_0 := lpO env a100.body 0 XLrCost_0
noncomputable abbrev RrCost_0 : Q → Option (Ext × S) := lpR env a100.body 0
theorem LrCost_0a_of {s : Q} {y : Int} (h : RrCost_0 s = exO (XrCost_0a y)) : LrCost_0 s = some y := lpO_of IrCost_0 XIrCost_0 (y := y) h
theorem UrCost : uniq ((blocksOf a100.body).map (·.1)) = true := by kernel_rfl
def BrCost_0a (F : FnT) (N : QO) (E : EO) (L0 : Q → Option YrCost_0) (n0 : Nat) (c1 : List PV) (n2 : Nat) (c3 : List PV) (i4 i5 : Int) : Option (Ext × S) :=
  bif (decide (i5 < (n2 : Int))) then
    bif (decide (((0 : Int) ≤ i5) ∧ (i5 < (n0 : Int)))) then
      bindO (listC (c1[((Int.toNat i5) * 1)]?)) fun x0 =>
      bif (decide (((0 : Int) ≤ i5) ∧ (i5 < (n2 : Int)))) then
        bindO (intC .i64 (c3[((Int.toNat i5) * 1)]?)) fun x1 =>
        bif (decide (((0 : Int) ≤ x1) ∧ (x1 < (x0.1 : Int)))) then
          bindO (intC .i64 (x0.2[((Int.toNat x1) * 1)]?)) fun x2 =>
          N (TrCost_0a n0 c1 n2 c3 (w64 (i4 + x2)) (w64 (i5 + (1 : Int))))
        else none
      else none
    else none
  else E (XrCost_0a i4)
theorem BrCost_0a_eq (F : FnT) (N : QO) (E : EO) (L0 : Q → Option YrCost_0) (n0 : Nat) (c1 : List PV) (n2 : Nat) (c3 : List PV) (i4 i5 : Int) : semB (callP F ErCost 20) s100 (loopT [⟨0, YrCost_0, L0, XLrCost_0⟩]) 400 (blkIn a100.body 0) N E (TrCost_0a n0 c1 n2 c3 i4 i5) = BrCost_0a F N E L0 n0 c1 n2 c3 i4 i5 := by kernel_rfl
theorem RrCost_0a_of  (n0 : Nat) (c1 : List PV) (n2 : Nat) (c3 : List PV) (i4 i5 : Int) {r : Ext × S} (h : BrCost_0a (Fn env) RrCost_0 exO LrCost_0 n0 c1 n2 c3 i4 i5 = some r) : RrCost_0 (TrCost_0a n0 c1 n2 c3 i4 i5) = some r :=
  lp_of ErCost_ok (by kernel_rfl) (lo_cons (lpO_ok UrCost) lo_nil) (by kernel_rfl) ((BrCost_0a_eq _ _ _ _ _ _ _ _ _ _).trans h)
def trCost (F : FnT) (L0 : Q → Option YrCost_0) (p0n : Nat) (p0c : List PV) (p1n : Nat) (p1c : List PV) : Option (Int) :=
  bindO (L0 (TrCost_0a p0n p0c p1n p1c (0 : Int) (0 : Int))) fun y0 =>
  some y0
theorem trCost_eq (F : FnT) (L0 : Q → Option YrCost_0) (p0n : Nat) (p0c : List PV) (p1n : Nat) (p1c : List PV) : semF (callP F ErCost 20) s100 (loopT [⟨0, YrCost_0, L0, XLrCost_0⟩]) 400 a100 [PV.list p0n p0c, PV.list p1n p1c] (fun rv => decR (RSh.one (CK.int .i64)) rv.pv) = trCost F L0 p0n p0c p1n p1c := by kernel_rfl
noncomputable abbrev FrCost (args : List PV) := Fn env 100 (RSh.one (CK.int .i64)) args
theorem FrCost_of  (p0n : Nat) (p0c : List PV) (p1n : Nat) (p1c : List PV) {res : (Int)} (h : trCost (Fn env) LrCost_0 p0n p0c p1n p1c = some res) : FrCost [PV.list p0n p0c, PV.list p1n p1c] = some res :=
  fn_of ErCost_ok rfl rfl (lo_cons (lpO_ok UrCost) lo_nil) ((trCost_eq _ _ _ _ _ _).trans h)
def EwCost : List Entry := []
theorem EwCost_ok : ∀ e ∈ EwCost, EntOK env e := ent_nil
def TwCost_0a (n0 : Nat) (c1 : List PV) (i2 : Int) (n3 : Nat) (c4 : List PV) (i5 i6 : Int) : Q := ⟨(tm 26 [(0, (AV.p (PV.list n0 c1))), (5, (AV.p (PV.int .i64 i2))), (8, (AV.p (PV.list n3 c4))), (9, (AV.p (PV.int .i64 i5))), (10, (AV.p (PV.int .i64 i6)))]), (mm 26 [])⟩
def XwCost_0a (y : Int) : Ext × Q := (Ext.normal, ⟨(tm 26 [(5, (AV.p (PV.int .i64 y)))]), (mm 26 [])⟩)
def IwCost_0a (q : Ext × S) : Int := (pP_int1 (pA_p (avT q.2 5)))
abbrev YwCost_0 : Type := Int
def XLwCost_0 : XL YwCost_0 := .one XwCost_0a
def IwCost_0 (q : Ext × S) : YwCost_0 := (IwCost_0a q)
theorem XIwCost_0a (y : Int) : IwCost_0 (xe (XwCost_0a y)) = y := by kernel_rfl
theorem XIwCost_0 (y : YwCost_0) : IwCost_0 (xe (XLwCost_0.fn y)) = y := XIwCost_0a y
noncomputable abbrev LwCost_0 : Q → Option YwCost_0 := lpO env a95.body 0 XLwCost_0
noncomputable abbrev RwCost_0 : Q → Option (Ext × S) := lpR env a95.body 0
theorem LwCost_0a_of {s : Q} {y : Int} (h : RwCost_0 s = exO (XwCost_0a y)) : LwCost_0 s = some y := lpO_of IwCost_0 XIwCost_0 (y := y) h
theorem UwCost : uniq ((blocksOf a95.body).map (·.1)) = true := by kernel_rfl
def BwCost_0a (F : FnT) (N : QO) (E : EO) (L0 : Q → Option YwCost_0) (n0 : Nat) (c1 : List PV) (i2 : Int) (n3 : Nat) (c4 : List PV) (i5 i6 : Int) : Option (Ext × S) :=
  bif (decide (i6 < i5)) then
    bif (decide (((0 : Int) ≤ i6) ∧ (i6 < (n3 : Int)))) then
      bindO (intC .i64 (c4[((Int.toNat i6) * 1)]?)) fun x0 =>
      bif (decide (((0 : Int) ≤ i6) ∧ (i6 < (n0 : Int)))) then
        bindO (listC (c1[((Int.toNat i6) * 1)]?)) fun x1 =>
        bif (decide (((0 : Int) ≤ x0) ∧ (x0 < (x1.1 : Int)))) then
          bindO (intC .i64 (x1.2[((Int.toNat x0) * 1)]?)) fun x2 =>
          N (TwCost_0a n0 c1 (w64 (i2 + x2)) n3 c4 i5 (w64 (i6 + (1 : Int))))
        else none
      else none
    else none
  else E (XwCost_0a i2)
theorem BwCost_0a_eq (F : FnT) (N : QO) (E : EO) (L0 : Q → Option YwCost_0) (n0 : Nat) (c1 : List PV) (i2 : Int) (n3 : Nat) (c4 : List PV) (i5 i6 : Int) : semB (callP F EwCost 20) s95 (loopT [⟨0, YwCost_0, L0, XLwCost_0⟩]) 400 (blkIn a95.body 0) N E (TwCost_0a n0 c1 i2 n3 c4 i5 i6) = BwCost_0a F N E L0 n0 c1 i2 n3 c4 i5 i6 := by kernel_rfl
theorem RwCost_0a_of  (n0 : Nat) (c1 : List PV) (i2 : Int) (n3 : Nat) (c4 : List PV) (i5 i6 : Int) {r : Ext × S} (h : BwCost_0a (Fn env) RwCost_0 exO LwCost_0 n0 c1 i2 n3 c4 i5 i6 = some r) : RwCost_0 (TwCost_0a n0 c1 i2 n3 c4 i5 i6) = some r :=
  lp_of EwCost_ok (by kernel_rfl) (lo_cons (lpO_ok UwCost) lo_nil) (by kernel_rfl) ((BwCost_0a_eq _ _ _ _ _ _ _ _ _ _ _).trans h)
def twCost (F : FnT) (L0 : Q → Option YwCost_0) (p0n : Nat) (p0c : List PV) (p1n : Nat) (p1c : List PV) : Option (Int) :=
  bindO (L0 (TwCost_0a p0n p0c (0 : Int) p1n p1c (p1n : Int) (0 : Int))) fun y0 =>
  some y0
theorem twCost_eq (F : FnT) (L0 : Q → Option YwCost_0) (p0n : Nat) (p0c : List PV) (p1n : Nat) (p1c : List PV) : semF (callP F EwCost 20) s95 (loopT [⟨0, YwCost_0, L0, XLwCost_0⟩]) 400 a95 [PV.list p0n p0c, PV.list p1n p1c] (fun rv => decR (RSh.one (CK.int .i64)) rv.pv) = twCost F L0 p0n p0c p1n p1c := by kernel_rfl
noncomputable abbrev FwCost (args : List PV) := Fn env 95 (RSh.one (CK.int .i64)) args
theorem FwCost_of  (p0n : Nat) (p0c : List PV) (p1n : Nat) (p1c : List PV) {res : (Int)} (h : twCost (Fn env) LwCost_0 p0n p0c p1n p1c = some res) : FwCost [PV.list p0n p0c, PV.list p1n p1c] = some res :=
  fn_of EwCost_ok rfl rfl (lo_cons (lpO_ok UwCost) lo_nil) ((twCost_eq _ _ _ _ _ _).trans h)
def ErCopP : List Entry := [.out 78 (RSh.one CK.list)]
theorem ErCopP_ok : ∀ e ∈ ErCopP, EntOK env e := (ent_out ent_nil)
def trCopP (F : FnT) (p0_0n : Nat) (p0_0c : List PV) (p0_1n : Nat) (p0_1c : List PV) (p0_2n : Nat) (p0_2c : List PV) : Option (((Nat) × (List PV)) × (((Nat) × (List PV)) × ((Nat) × (List PV)))) :=
  bindO (F 78 (RSh.one CK.list) [(PV.list p0_0n p0_0c)]) fun (y0 : ((Nat) × (List PV))) =>
  bindO (F 78 (RSh.one CK.list) [(PV.list p0_1n p0_1c)]) fun (y1 : ((Nat) × (List PV))) =>
  bindO (F 78 (RSh.one CK.list) [(PV.list p0_2n p0_2c)]) fun (y2 : ((Nat) × (List PV))) =>
  some ((y0.1, y0.2), ((y1.1, y1.2), (y2.1, y2.2)))
theorem trCopP_eq (F : FnT) (p0_0n : Nat) (p0_0c : List PV) (p0_1n : Nat) (p0_1c : List PV) (p0_2n : Nat) (p0_2c : List PV) : semF (callP F ErCopP 20) s35 (loopT []) 400 a35 [PV.agg [PV.list p0_0n p0_0c, PV.list p0_1n p0_1c, PV.list p0_2n p0_2c]] (fun rv => decR (RSh.agg [CK.list, CK.list, CK.list]) rv.pv) = trCopP F p0_0n p0_0c p0_1n p0_1c p0_2n p0_2c := by kernel_rfl
noncomputable abbrev FrCopP (args : List PV) := Fn env 35 (RSh.agg [CK.list, CK.list, CK.list]) args
theorem FrCopP_of  (p0_0n : Nat) (p0_0c : List PV) (p0_1n : Nat) (p0_1c : List PV) (p0_2n : Nat) (p0_2c : List PV) {res : (((Nat) × (List PV)) × (((Nat) × (List PV)) × ((Nat) × (List PV))))} (h : trCopP (Fn env) p0_0n p0_0c p0_1n p0_1c p0_2n p0_2c = some res) : FrCopP [PV.agg [PV.list p0_0n p0_0c, PV.list p0_1n p0_1c, PV.list p0_2n p0_2c]] = some res :=
  fn_of ErCopP_ok rfl rfl lo_nil ((trCopP_eq _ _ _ _ _ _ _).trans h)
def ErCAsg : List Entry := [.out 23 (RSh.one CK.bool), .out 108 (RSh.one CK.bool), .out 100 (RSh.one (CK.int .i64))]
theorem ErCAsg_ok : ∀ e ∈ ErCAsg, EntOK env e := (ent_out (ent_out (ent_out ent_nil)))
def TrCAsg_0a (n0 : Nat) (c1 : List PV) (i2 : Int) (n3 : Nat) (c4 : List PV) (n5 : Nat) (c6 : List PV) (n7 : Nat) (c8 : List PV) : Q := ⟨(tm 135 [(0, (AV.p (PV.list n0 c1))), (3, (AV.loc 3 0)), (6, (AV.p (PV.int .i64 i2)))]), (mm 135 [(3, (Bk.cells true [(AV.p (PV.list n3 c4)), (AV.p (PV.list n5 c6)), (AV.p (PV.list n7 c8))]))])⟩
def XrCAsg_0a (y : Int × Int) : Ext × Q := (Ext.ret, ⟨(tm 135 [(4, (AV.p (PV.int .i64 y.1))), (5, (AV.p (PV.int .i64 y.2)))]), (mm 135 [])⟩)
def IrCAsg_0a (q : Ext × S) : Int × Int := ((pP_int1 (pA_p (avT q.2 4))), (pP_int1 (pA_p (avT q.2 5))))
def XrCAsg_0b (y : Nat × List PV × Nat × List PV × Nat × List PV × Nat × List PV) : Ext × Q := (Ext.normal, ⟨(tm 135 [(0, (AV.p (PV.list y.1 y.2.1))), (3, (AV.loc 3 0))]), (mm 135 [(3, (Bk.cells true [(AV.p (PV.list y.2.2.1 y.2.2.2.1)), (AV.p (PV.list y.2.2.2.2.1 y.2.2.2.2.2.1)), (AV.p (PV.list y.2.2.2.2.2.2.1 y.2.2.2.2.2.2.2))]))])⟩)
def IrCAsg_0b (q : Ext × S) : Nat × List PV × Nat × List PV × Nat × List PV × Nat × List PV := ((pP_list0 (pA_p (avT q.2 0))), (pP_list1 (pA_p (avT q.2 0))), (pP_list0 (pA_p (hdA (pB_cells1 (avM q.2 3))))), (pP_list1 (pA_p (hdA (pB_cells1 (avM q.2 3))))), (pP_list0 (pA_p (hdA (List.tail (pB_cells1 (avM q.2 3)))))), (pP_list1 (pA_p (hdA (List.tail (pB_cells1 (avM q.2 3)))))), (pP_list0 (pA_p (hdA (List.tail (List.tail (pB_cells1 (avM q.2 3))))))), (pP_list1 (pA_p (hdA (List.tail (List.tail (pB_cells1 (avM q.2 3))))))))
abbrev YrCAsg_0 : Type := (Int × Int) ⊕ ((Nat × List PV × Nat × List PV × Nat × List PV × Nat × List PV))
def XLrCAsg_0 : XL YrCAsg_0 := .more XrCAsg_0a (.one XrCAsg_0b)
def IrCAsg_0 (q : Ext × S) : YrCAsg_0 := bif (cE q.1 == 2) then (Sum.inl (IrCAsg_0a q)) else (Sum.inr (IrCAsg_0b q))
theorem XIrCAsg_0a (y : Int × Int) : IrCAsg_0 (xe (XrCAsg_0a y)) = (Sum.inl y) := by kernel_rfl
theorem XIrCAsg_0b (y : Nat × List PV × Nat × List PV × Nat × List PV × Nat × List PV) : IrCAsg_0 (xe (XrCAsg_0b y)) = (Sum.inr y) := by kernel_rfl
theorem XIrCAsg_0 (y : YrCAsg_0) : IrCAsg_0 (xe (XLrCAsg_0.fn y)) = y := (match y with | .inl y => XIrCAsg_0a y | .inr y => XIrCAsg_0b y)
noncomputable abbrev LrCAsg_0 : Q → Option YrCAsg_0 := lpO env a36.body 0 XLrCAsg_0
noncomputable abbrev RrCAsg_0 : Q → Option (Ext × S) := lpR env a36.body 0
theorem LrCAsg_0a_of {s : Q} {y : Int × Int} (h : RrCAsg_0 s = exO (XrCAsg_0a y)) : LrCAsg_0 s = some (Sum.inl y) := lpO_of IrCAsg_0 XIrCAsg_0 (y := (Sum.inl y)) h
theorem LrCAsg_0b_of {s : Q} {y : Nat × List PV × Nat × List PV × Nat × List PV × Nat × List PV} (h : RrCAsg_0 s = exO (XrCAsg_0b y)) : LrCAsg_0 s = some (Sum.inr y) := lpO_of IrCAsg_0 XIrCAsg_0 (y := (Sum.inr y)) h
def TrCAsg_2a (n0 : Nat) (c1 : List PV) (i2 : Int) (n3 : Nat) (c4 : List PV) (n5 : Nat) (c6 : List PV) (n7 : Nat) (c8 : List PV) : Q := ⟨(tm 135 [(0, (AV.p (PV.list n0 c1))), (3, (AV.loc 3 0)), (7, (AV.p (PV.int .i64 i2)))]), (mm 135 [(3, (Bk.cells true [(AV.p (PV.list n3 c4)), (AV.p (PV.list n5 c6)), (AV.p (PV.list n7 c8))]))])⟩
def XrCAsg_2a (y : Int) : Ext × Q := (Ext.ret, ⟨(tm 135 [(4, (AV.p (PV.int .i64 y))), (5, (AV.p (PV.int .i64 (2 : Int))))]), (mm 135 [])⟩)
def IrCAsg_2a (q : Ext × S) : Int := (pP_int1 (pA_p (avT q.2 4)))
def XrCAsg_2b (y : Nat × List PV × Nat × List PV × Nat × List PV × Nat × List PV) : Ext × Q := (Ext.normal, ⟨(tm 135 [(0, (AV.p (PV.list y.1 y.2.1))), (3, (AV.loc 3 0))]), (mm 135 [(3, (Bk.cells true [(AV.p (PV.list y.2.2.1 y.2.2.2.1)), (AV.p (PV.list y.2.2.2.2.1 y.2.2.2.2.2.1)), (AV.p (PV.list y.2.2.2.2.2.2.1 y.2.2.2.2.2.2.2))]))])⟩)
def IrCAsg_2b (q : Ext × S) : Nat × List PV × Nat × List PV × Nat × List PV × Nat × List PV := ((pP_list0 (pA_p (avT q.2 0))), (pP_list1 (pA_p (avT q.2 0))), (pP_list0 (pA_p (hdA (pB_cells1 (avM q.2 3))))), (pP_list1 (pA_p (hdA (pB_cells1 (avM q.2 3))))), (pP_list0 (pA_p (hdA (List.tail (pB_cells1 (avM q.2 3)))))), (pP_list1 (pA_p (hdA (List.tail (pB_cells1 (avM q.2 3)))))), (pP_list0 (pA_p (hdA (List.tail (List.tail (pB_cells1 (avM q.2 3))))))), (pP_list1 (pA_p (hdA (List.tail (List.tail (pB_cells1 (avM q.2 3))))))))
abbrev YrCAsg_2 : Type := (Int) ⊕ ((Nat × List PV × Nat × List PV × Nat × List PV × Nat × List PV))
def XLrCAsg_2 : XL YrCAsg_2 := .more XrCAsg_2a (.one XrCAsg_2b)
def IrCAsg_2 (q : Ext × S) : YrCAsg_2 := bif (cE q.1 == 2) then (Sum.inl (IrCAsg_2a q)) else (Sum.inr (IrCAsg_2b q))
theorem XIrCAsg_2a (y : Int) : IrCAsg_2 (xe (XrCAsg_2a y)) = (Sum.inl y) := by kernel_rfl
theorem XIrCAsg_2b (y : Nat × List PV × Nat × List PV × Nat × List PV × Nat × List PV) : IrCAsg_2 (xe (XrCAsg_2b y)) = (Sum.inr y) := by kernel_rfl
theorem XIrCAsg_2 (y : YrCAsg_2) : IrCAsg_2 (xe (XLrCAsg_2.fn y)) = y := (match y with | .inl y => XIrCAsg_2a y | .inr y => XIrCAsg_2b y)
noncomputable abbrev LrCAsg_2 : Q → Option YrCAsg_2 := lpO env a36.body 2 XLrCAsg_2
noncomputable abbrev RrCAsg_2 : Q → Option (Ext × S) := lpR env a36.body 2
theorem LrCAsg_2a_of {s : Q} {y : Int} (h : RrCAsg_2 s = exO (XrCAsg_2a y)) : LrCAsg_2 s = some (Sum.inl y) := lpO_of IrCAsg_2 XIrCAsg_2 (y := (Sum.inl y)) h
theorem LrCAsg_2b_of {s : Q} {y : Nat × List PV × Nat × List PV × Nat × List PV × Nat × List PV} (h : RrCAsg_2 s = exO (XrCAsg_2b y)) : LrCAsg_2 s = some (Sum.inr y) := lpO_of IrCAsg_2 XIrCAsg_2 (y := (Sum.inr y)) h
def TrCAsg_4a (n0 : Nat) (c1 : List PV) (i2 i3 : Int) (n4 : Nat) (c5 : List PV) (n6 : Nat) (c7 : List PV) (n8 : Nat) (c9 : List PV) : Q := ⟨(tm 135 [(0, (AV.p (PV.list n0 c1))), (3, (AV.loc 3 0)), (8, (AV.p (PV.int .i64 i2))), (9, (AV.p (PV.int .i64 i3)))]), (mm 135 [(3, (Bk.cells true [(AV.p (PV.list n4 c5)), (AV.p (PV.list n6 c7)), (AV.p (PV.list n8 c9))]))])⟩
def XrCAsg_4a (y : Nat × List PV × Int × Nat × List PV × Nat × List PV × Nat × List PV) : Ext × Q := (Ext.normal, ⟨(tm 135 [(0, (AV.p (PV.list y.1 y.2.1))), (3, (AV.loc 3 0)), (8, (AV.p (PV.int .i64 y.2.2.1)))]), (mm 135 [(3, (Bk.cells true [(AV.p (PV.list y.2.2.2.1 y.2.2.2.2.1)), (AV.p (PV.list y.2.2.2.2.2.1 y.2.2.2.2.2.2.1)), (AV.p (PV.list y.2.2.2.2.2.2.2.1 y.2.2.2.2.2.2.2.2))]))])⟩)
def IrCAsg_4a (q : Ext × S) : Nat × List PV × Int × Nat × List PV × Nat × List PV × Nat × List PV := ((pP_list0 (pA_p (avT q.2 0))), (pP_list1 (pA_p (avT q.2 0))), (pP_int1 (pA_p (avT q.2 8))), (pP_list0 (pA_p (hdA (pB_cells1 (avM q.2 3))))), (pP_list1 (pA_p (hdA (pB_cells1 (avM q.2 3))))), (pP_list0 (pA_p (hdA (List.tail (pB_cells1 (avM q.2 3)))))), (pP_list1 (pA_p (hdA (List.tail (pB_cells1 (avM q.2 3)))))), (pP_list0 (pA_p (hdA (List.tail (List.tail (pB_cells1 (avM q.2 3))))))), (pP_list1 (pA_p (hdA (List.tail (List.tail (pB_cells1 (avM q.2 3))))))))
def XrCAsg_4b (y : Int) : Ext × Q := (Ext.ret, ⟨(tm 135 [(4, (AV.p (PV.int .i64 y))), (5, (AV.p (PV.int .i64 (17 : Int))))]), (mm 135 [])⟩)
def IrCAsg_4b (q : Ext × S) : Int := (pP_int1 (pA_p (avT q.2 4)))
abbrev YrCAsg_4 : Type := (Nat × List PV × Int × Nat × List PV × Nat × List PV × Nat × List PV) ⊕ ((Int))
def XLrCAsg_4 : XL YrCAsg_4 := .more XrCAsg_4a (.one XrCAsg_4b)
def IrCAsg_4 (q : Ext × S) : YrCAsg_4 := bif (cE q.1 == 0) then (Sum.inl (IrCAsg_4a q)) else (Sum.inr (IrCAsg_4b q))
theorem XIrCAsg_4a (y : Nat × List PV × Int × Nat × List PV × Nat × List PV × Nat × List PV) : IrCAsg_4 (xe (XrCAsg_4a y)) = (Sum.inl y) := by kernel_rfl
theorem XIrCAsg_4b (y : Int) : IrCAsg_4 (xe (XrCAsg_4b y)) = (Sum.inr y) := by kernel_rfl
theorem XIrCAsg_4 (y : YrCAsg_4) : IrCAsg_4 (xe (XLrCAsg_4.fn y)) = y := (match y with | .inl y => XIrCAsg_4a y | .inr y => XIrCAsg_4b y)
noncomputable abbrev LrCAsg_4 : Q → Option YrCAsg_4 := lpO env a36.body 4 XLrCAsg_4
noncomputable abbrev RrCAsg_4 : Q → Option (Ext × S) := lpR env a36.body 4
theorem LrCAsg_4a_of {s : Q} {y : Nat × List PV × Int × Nat × List PV × Nat × List PV × Nat × List PV} (h : RrCAsg_4 s = exO (XrCAsg_4a y)) : LrCAsg_4 s = some (Sum.inl y) := lpO_of IrCAsg_4 XIrCAsg_4 (y := (Sum.inl y)) h
theorem LrCAsg_4b_of {s : Q} {y : Int} (h : RrCAsg_4 s = exO (XrCAsg_4b y)) : LrCAsg_4 s = some (Sum.inr y) := lpO_of IrCAsg_4 XIrCAsg_4 (y := (Sum.inr y)) h
def TrCAsg_6a (n0 : Nat) (c1 : List PV) (i2 i3 i4 : Int) (n5 : Nat) (c6 : List PV) (n7 : Nat) (c8 : List PV) (n9 : Nat) (c10 : List PV) : Q := ⟨(tm 135 [(0, (AV.p (PV.list n0 c1))), (3, (AV.loc 3 0)), (8, (AV.p (PV.int .i64 i2))), (9, (AV.p (PV.int .i64 i3))), (10, (AV.p (PV.int .i64 i4)))]), (mm 135 [(3, (Bk.cells true [(AV.p (PV.list n5 c6)), (AV.p (PV.list n7 c8)), (AV.p (PV.list n9 c10))]))])⟩
def XrCAsg_6a (y : Int) : Ext × Q := (Ext.ret, ⟨(tm 135 [(4, (AV.p (PV.int .i64 y))), (5, (AV.p (PV.int .i64 (17 : Int))))]), (mm 135 [])⟩)
def IrCAsg_6a (q : Ext × S) : Int := (pP_int1 (pA_p (avT q.2 4)))
def XrCAsg_6b (y : Nat × List PV × Int × Int × Nat × List PV × Nat × List PV × Nat × List PV) : Ext × Q := (Ext.normal, ⟨(tm 135 [(0, (AV.p (PV.list y.1 y.2.1))), (3, (AV.loc 3 0)), (8, (AV.p (PV.int .i64 y.2.2.1))), (9, (AV.p (PV.int .i64 y.2.2.2.1)))]), (mm 135 [(3, (Bk.cells true [(AV.p (PV.list y.2.2.2.2.1 y.2.2.2.2.2.1)), (AV.p (PV.list y.2.2.2.2.2.2.1 y.2.2.2.2.2.2.2.1)), (AV.p (PV.list y.2.2.2.2.2.2.2.2.1 y.2.2.2.2.2.2.2.2.2))]))])⟩)
def IrCAsg_6b (q : Ext × S) : Nat × List PV × Int × Int × Nat × List PV × Nat × List PV × Nat × List PV := ((pP_list0 (pA_p (avT q.2 0))), (pP_list1 (pA_p (avT q.2 0))), (pP_int1 (pA_p (avT q.2 8))), (pP_int1 (pA_p (avT q.2 9))), (pP_list0 (pA_p (hdA (pB_cells1 (avM q.2 3))))), (pP_list1 (pA_p (hdA (pB_cells1 (avM q.2 3))))), (pP_list0 (pA_p (hdA (List.tail (pB_cells1 (avM q.2 3)))))), (pP_list1 (pA_p (hdA (List.tail (pB_cells1 (avM q.2 3)))))), (pP_list0 (pA_p (hdA (List.tail (List.tail (pB_cells1 (avM q.2 3))))))), (pP_list1 (pA_p (hdA (List.tail (List.tail (pB_cells1 (avM q.2 3))))))))
abbrev YrCAsg_6 : Type := (Int) ⊕ ((Nat × List PV × Int × Int × Nat × List PV × Nat × List PV × Nat × List PV))
def XLrCAsg_6 : XL YrCAsg_6 := .more XrCAsg_6a (.one XrCAsg_6b)
def IrCAsg_6 (q : Ext × S) : YrCAsg_6 := bif (cE q.1 == 2) then (Sum.inl (IrCAsg_6a q)) else (Sum.inr (IrCAsg_6b q))
theorem XIrCAsg_6a (y : Int) : IrCAsg_6 (xe (XrCAsg_6a y)) = (Sum.inl y) := by kernel_rfl
theorem XIrCAsg_6b (y : Nat × List PV × Int × Int × Nat × List PV × Nat × List PV × Nat × List PV) : IrCAsg_6 (xe (XrCAsg_6b y)) = (Sum.inr y) := by kernel_rfl
theorem XIrCAsg_6 (y : YrCAsg_6) : IrCAsg_6 (xe (XLrCAsg_6.fn y)) = y := (match y with | .inl y => XIrCAsg_6a y | .inr y => XIrCAsg_6b y)
noncomputable abbrev LrCAsg_6 : Q → Option YrCAsg_6 := lpO env a36.body 6 XLrCAsg_6
noncomputable abbrev RrCAsg_6 : Q → Option (Ext × S) := lpR env a36.body 6
theorem LrCAsg_6a_of {s : Q} {y : Int} (h : RrCAsg_6 s = exO (XrCAsg_6a y)) : LrCAsg_6 s = some (Sum.inl y) := lpO_of IrCAsg_6 XIrCAsg_6 (y := (Sum.inl y)) h
theorem LrCAsg_6b_of {s : Q} {y : Nat × List PV × Int × Int × Nat × List PV × Nat × List PV × Nat × List PV} (h : RrCAsg_6 s = exO (XrCAsg_6b y)) : LrCAsg_6 s = some (Sum.inr y) := lpO_of IrCAsg_6 XIrCAsg_6 (y := (Sum.inr y)) h
theorem UrCAsg : uniq ((blocksOf a36.body).map (·.1)) = true := by kernel_rfl
def BrCAsg_0a (F : FnT) (N : QO) (E : EO) (L0 : Q → Option YrCAsg_0) (L2 : Q → Option YrCAsg_2) (L4 : Q → Option YrCAsg_4) (L6 : Q → Option YrCAsg_6) (n0 : Nat) (c1 : List PV) (i2 : Int) (n3 : Nat) (c4 : List PV) (n5 : Nat) (c6 : List PV) (n7 : Nat) (c8 : List PV) : Option (Ext × S) :=
  bif (decide (i2 < (n0 : Int))) then
    bif (decide (((0 : Int) ≤ i2) ∧ (i2 < (n3 : Int)))) then
      bindO (intC .i64 (c4[((Int.toNat i2) * 1)]?)) fun x0 =>
      bindO (F 23 (RSh.one CK.bool) [(PV.int .i64 x0), (PV.int .i64 (0 : Int)), (PV.int .i64 (w64 ((n0 : Int) - (1 : Int))))]) fun (y1 : (Bool)) =>
      bif y1 then
        bif (decide (((0 : Int) ≤ i2) ∧ (i2 ≤ ((Prod.mk n3 c4).1 : Int)))) then
          bif (decide ((0 = (Int.toNat i2)) ∨ (((0 * 1) + (((Int.toNat i2) - 0) * 1)) ≤ (List.length c4)))) then
            bif (decide (((0 : Int) ≤ i2) ∧ (i2 < (n3 : Int)))) then
              bindO (intC .i64 (c4[((Int.toNat i2) * 1)]?)) fun x2 =>
              bindO (F 108 (RSh.one CK.bool) [(PV.list ((Int.toNat i2) - 0) (List.take (((Int.toNat i2) - 0) * 1) (List.drop 0 c4))), (PV.int .i64 x2)]) fun (y3 : (Bool)) =>
              bif y3 then
                E (XrCAsg_0a (i2, (21 : Int)))
              else N (TrCAsg_0a n0 c1 (w64 (i2 + (1 : Int))) n3 c4 n5 c6 n7 c8)
            else none
          else none
        else none
      else E (XrCAsg_0a (i2, (6 : Int)))
    else none
  else E (XrCAsg_0b (n0, c1, n3, c4, n5, c6, n7, c8))
theorem BrCAsg_0a_eq (F : FnT) (N : QO) (E : EO) (L0 : Q → Option YrCAsg_0) (L2 : Q → Option YrCAsg_2) (L4 : Q → Option YrCAsg_4) (L6 : Q → Option YrCAsg_6) (n0 : Nat) (c1 : List PV) (i2 : Int) (n3 : Nat) (c4 : List PV) (n5 : Nat) (c6 : List PV) (n7 : Nat) (c8 : List PV) : semB (callP F ErCAsg 20) s36 (loopT [⟨0, YrCAsg_0, L0, XLrCAsg_0⟩, ⟨2, YrCAsg_2, L2, XLrCAsg_2⟩, ⟨4, YrCAsg_4, L4, XLrCAsg_4⟩, ⟨6, YrCAsg_6, L6, XLrCAsg_6⟩]) 400 (blkIn a36.body 0) N E (TrCAsg_0a n0 c1 i2 n3 c4 n5 c6 n7 c8) = BrCAsg_0a F N E L0 L2 L4 L6 n0 c1 i2 n3 c4 n5 c6 n7 c8 := by kernel_rfl
theorem RrCAsg_0a_of  (n0 : Nat) (c1 : List PV) (i2 : Int) (n3 : Nat) (c4 : List PV) (n5 : Nat) (c6 : List PV) (n7 : Nat) (c8 : List PV) {r : Ext × S} (h : BrCAsg_0a (Fn env) RrCAsg_0 exO LrCAsg_0 LrCAsg_2 LrCAsg_4 LrCAsg_6 n0 c1 i2 n3 c4 n5 c6 n7 c8 = some r) : RrCAsg_0 (TrCAsg_0a n0 c1 i2 n3 c4 n5 c6 n7 c8) = some r :=
  lp_of ErCAsg_ok (by kernel_rfl) (lo_cons (lpO_ok UrCAsg) (lo_cons (lpO_ok UrCAsg) (lo_cons (lpO_ok UrCAsg) (lo_cons (lpO_ok UrCAsg) lo_nil)))) (by kernel_rfl) ((BrCAsg_0a_eq _ _ _ _ _ _ _ _ _ _ _ _ _ _ _ _).trans h)
def BrCAsg_2a (F : FnT) (N : QO) (E : EO) (L0 : Q → Option YrCAsg_0) (L2 : Q → Option YrCAsg_2) (L4 : Q → Option YrCAsg_4) (L6 : Q → Option YrCAsg_6) (n0 : Nat) (c1 : List PV) (i2 : Int) (n3 : Nat) (c4 : List PV) (n5 : Nat) (c6 : List PV) (n7 : Nat) (c8 : List PV) : Option (Ext × S) :=
  bif (decide (i2 < (n0 : Int))) then
    bif (decide (((0 : Int) ≤ i2) ∧ (i2 < (n5 : Int)))) then
      bindO (intC .i64 (c6[((Int.toNat i2) * 1)]?)) fun x0 =>
      bindO (F 23 (RSh.one CK.bool) [(PV.int .i64 x0), (PV.int .i64 (-60000000 : Int)), (PV.int .i64 (60000000 : Int))]) fun (y1 : (Bool)) =>
      bif y1 then
        bif (decide (((0 : Int) ≤ i2) ∧ (i2 < (n7 : Int)))) then
          bindO (intC .i64 (c8[((Int.toNat i2) * 1)]?)) fun x2 =>
          bindO (F 23 (RSh.one CK.bool) [(PV.int .i64 x2), (PV.int .i64 (-60000000 : Int)), (PV.int .i64 (60000000 : Int))]) fun (y3 : (Bool)) =>
          bif y3 then
            N (TrCAsg_2a n0 c1 (w64 (i2 + (1 : Int))) n3 c4 n5 c6 n7 c8)
          else E (XrCAsg_2a i2)
        else none
      else E (XrCAsg_2a i2)
    else none
  else E (XrCAsg_2b (n0, c1, n3, c4, n5, c6, n7, c8))
theorem BrCAsg_2a_eq (F : FnT) (N : QO) (E : EO) (L0 : Q → Option YrCAsg_0) (L2 : Q → Option YrCAsg_2) (L4 : Q → Option YrCAsg_4) (L6 : Q → Option YrCAsg_6) (n0 : Nat) (c1 : List PV) (i2 : Int) (n3 : Nat) (c4 : List PV) (n5 : Nat) (c6 : List PV) (n7 : Nat) (c8 : List PV) : semB (callP F ErCAsg 20) s36 (loopT [⟨0, YrCAsg_0, L0, XLrCAsg_0⟩, ⟨2, YrCAsg_2, L2, XLrCAsg_2⟩, ⟨4, YrCAsg_4, L4, XLrCAsg_4⟩, ⟨6, YrCAsg_6, L6, XLrCAsg_6⟩]) 400 (blkIn a36.body 2) N E (TrCAsg_2a n0 c1 i2 n3 c4 n5 c6 n7 c8) = BrCAsg_2a F N E L0 L2 L4 L6 n0 c1 i2 n3 c4 n5 c6 n7 c8 := by kernel_rfl
theorem RrCAsg_2a_of  (n0 : Nat) (c1 : List PV) (i2 : Int) (n3 : Nat) (c4 : List PV) (n5 : Nat) (c6 : List PV) (n7 : Nat) (c8 : List PV) {r : Ext × S} (h : BrCAsg_2a (Fn env) RrCAsg_2 exO LrCAsg_0 LrCAsg_2 LrCAsg_4 LrCAsg_6 n0 c1 i2 n3 c4 n5 c6 n7 c8 = some r) : RrCAsg_2 (TrCAsg_2a n0 c1 i2 n3 c4 n5 c6 n7 c8) = some r :=
  lp_of ErCAsg_ok (by kernel_rfl) (lo_cons (lpO_ok UrCAsg) (lo_cons (lpO_ok UrCAsg) (lo_cons (lpO_ok UrCAsg) (lo_cons (lpO_ok UrCAsg) lo_nil)))) (by kernel_rfl) ((BrCAsg_2a_eq _ _ _ _ _ _ _ _ _ _ _ _ _ _ _ _).trans h)
def BrCAsg_4a (F : FnT) (N : QO) (E : EO) (L0 : Q → Option YrCAsg_0) (L2 : Q → Option YrCAsg_2) (L4 : Q → Option YrCAsg_4) (L6 : Q → Option YrCAsg_6) (n0 : Nat) (c1 : List PV) (i2 i3 : Int) (n4 : Nat) (c5 : List PV) (n6 : Nat) (c7 : List PV) (n8 : Nat) (c9 : List PV) : Option (Ext × S) :=
  bif (decide (i3 < (n0 : Int))) then
    bindO (L6 (TrCAsg_6a n0 c1 i2 i3 (0 : Int) n4 c5 n6 c7 n8 c9)) fun z =>
    Sum.elim (fun y0 =>
      E (XrCAsg_4b y0)) (fun y1 =>
      bif (decide (((0 : Int) ≤ y1.2.2.2.1) ∧ (y1.2.2.2.1 < (y1.2.2.2.2.2.2.1 : Int)))) then
        bindO (intC .i64 (y1.2.2.2.2.2.2.2.1[((Int.toNat y1.2.2.2.1) * 1)]?)) fun x2 =>
        bif (decide (((0 : Int) ≤ y1.2.2.2.1) ∧ (y1.2.2.2.1 < (y1.2.2.2.2.2.2.2.2.1 : Int)))) then
          bindO (intC .i64 (y1.2.2.2.2.2.2.2.2.2[((Int.toNat y1.2.2.2.1) * 1)]?)) fun x3 =>
          N (TrCAsg_4a y1.1 y1.2.1 (w64 ((w64 (y1.2.2.1 + x2)) + x3)) (w64 (y1.2.2.2.1 + (1 : Int))) y1.2.2.2.2.1 y1.2.2.2.2.2.1 y1.2.2.2.2.2.2.1 y1.2.2.2.2.2.2.2.1 y1.2.2.2.2.2.2.2.2.1 y1.2.2.2.2.2.2.2.2.2)
        else none
      else none) z
  else E (XrCAsg_4a (n0, c1, i2, n4, c5, n6, c7, n8, c9))
theorem BrCAsg_4a_eq (F : FnT) (N : QO) (E : EO) (L0 : Q → Option YrCAsg_0) (L2 : Q → Option YrCAsg_2) (L4 : Q → Option YrCAsg_4) (L6 : Q → Option YrCAsg_6) (n0 : Nat) (c1 : List PV) (i2 i3 : Int) (n4 : Nat) (c5 : List PV) (n6 : Nat) (c7 : List PV) (n8 : Nat) (c9 : List PV) : semB (callP F ErCAsg 20) s36 (loopT [⟨0, YrCAsg_0, L0, XLrCAsg_0⟩, ⟨2, YrCAsg_2, L2, XLrCAsg_2⟩, ⟨4, YrCAsg_4, L4, XLrCAsg_4⟩, ⟨6, YrCAsg_6, L6, XLrCAsg_6⟩]) 400 (blkIn a36.body 4) N E (TrCAsg_4a n0 c1 i2 i3 n4 c5 n6 c7 n8 c9) = BrCAsg_4a F N E L0 L2 L4 L6 n0 c1 i2 i3 n4 c5 n6 c7 n8 c9 := by kernel_rfl
theorem RrCAsg_4a_of  (n0 : Nat) (c1 : List PV) (i2 i3 : Int) (n4 : Nat) (c5 : List PV) (n6 : Nat) (c7 : List PV) (n8 : Nat) (c9 : List PV) {r : Ext × S} (h : BrCAsg_4a (Fn env) RrCAsg_4 exO LrCAsg_0 LrCAsg_2 LrCAsg_4 LrCAsg_6 n0 c1 i2 i3 n4 c5 n6 c7 n8 c9 = some r) : RrCAsg_4 (TrCAsg_4a n0 c1 i2 i3 n4 c5 n6 c7 n8 c9) = some r :=
  lp_of ErCAsg_ok (by kernel_rfl) (lo_cons (lpO_ok UrCAsg) (lo_cons (lpO_ok UrCAsg) (lo_cons (lpO_ok UrCAsg) (lo_cons (lpO_ok UrCAsg) lo_nil)))) (by kernel_rfl) ((BrCAsg_4a_eq _ _ _ _ _ _ _ _ _ _ _ _ _ _ _ _ _).trans h)
def BrCAsg_6a (F : FnT) (N : QO) (E : EO) (L0 : Q → Option YrCAsg_0) (L2 : Q → Option YrCAsg_2) (L4 : Q → Option YrCAsg_4) (L6 : Q → Option YrCAsg_6) (n0 : Nat) (c1 : List PV) (i2 i3 i4 : Int) (n5 : Nat) (c6 : List PV) (n7 : Nat) (c8 : List PV) (n9 : Nat) (c10 : List PV) : Option (Ext × S) :=
  bif (decide (i4 < (n0 : Int))) then
    bif (decide (((0 : Int) ≤ i3) ∧ (i3 < (n0 : Int)))) then
      bindO (listC (c1[((Int.toNat i3) * 1)]?)) fun x0 =>
      bif (decide (((0 : Int) ≤ i4) ∧ (i4 < (x0.1 : Int)))) then
        bindO (intC .i64 (x0.2[((Int.toNat i4) * 1)]?)) fun x1 =>
        bif (decide (((0 : Int) ≤ i3) ∧ (i3 < (n7 : Int)))) then
          bindO (intC .i64 (c8[((Int.toNat i3) * 1)]?)) fun x2 =>
          bif (decide (((0 : Int) ≤ i4) ∧ (i4 < (n9 : Int)))) then
            bindO (intC .i64 (c10[((Int.toNat i4) * 1)]?)) fun x3 =>
            bif (decide (x1 < (w64 (x2 + x3)))) then
              E (XrCAsg_6a i3)
            else N (TrCAsg_6a n0 c1 i2 i3 (w64 (i4 + (1 : Int))) n5 c6 n7 c8 n9 c10)
          else none
        else none
      else none
    else none
  else E (XrCAsg_6b (n0, c1, i2, i3, n5, c6, n7, c8, n9, c10))
theorem BrCAsg_6a_eq (F : FnT) (N : QO) (E : EO) (L0 : Q → Option YrCAsg_0) (L2 : Q → Option YrCAsg_2) (L4 : Q → Option YrCAsg_4) (L6 : Q → Option YrCAsg_6) (n0 : Nat) (c1 : List PV) (i2 i3 i4 : Int) (n5 : Nat) (c6 : List PV) (n7 : Nat) (c8 : List PV) (n9 : Nat) (c10 : List PV) : semB (callP F ErCAsg 20) s36 (loopT [⟨0, YrCAsg_0, L0, XLrCAsg_0⟩, ⟨2, YrCAsg_2, L2, XLrCAsg_2⟩, ⟨4, YrCAsg_4, L4, XLrCAsg_4⟩, ⟨6, YrCAsg_6, L6, XLrCAsg_6⟩]) 400 (blkIn a36.body 6) N E (TrCAsg_6a n0 c1 i2 i3 i4 n5 c6 n7 c8 n9 c10) = BrCAsg_6a F N E L0 L2 L4 L6 n0 c1 i2 i3 i4 n5 c6 n7 c8 n9 c10 := by kernel_rfl
theorem RrCAsg_6a_of  (n0 : Nat) (c1 : List PV) (i2 i3 i4 : Int) (n5 : Nat) (c6 : List PV) (n7 : Nat) (c8 : List PV) (n9 : Nat) (c10 : List PV) {r : Ext × S} (h : BrCAsg_6a (Fn env) RrCAsg_6 exO LrCAsg_0 LrCAsg_2 LrCAsg_4 LrCAsg_6 n0 c1 i2 i3 i4 n5 c6 n7 c8 n9 c10 = some r) : RrCAsg_6 (TrCAsg_6a n0 c1 i2 i3 i4 n5 c6 n7 c8 n9 c10) = some r :=
  lp_of ErCAsg_ok (by kernel_rfl) (lo_cons (lpO_ok UrCAsg) (lo_cons (lpO_ok UrCAsg) (lo_cons (lpO_ok UrCAsg) (lo_cons (lpO_ok UrCAsg) lo_nil)))) (by kernel_rfl) ((BrCAsg_6a_eq _ _ _ _ _ _ _ _ _ _ _ _ _ _ _ _ _ _).trans h)
def trCAsg (F : FnT) (L0 : Q → Option YrCAsg_0) (L2 : Q → Option YrCAsg_2) (L4 : Q → Option YrCAsg_4) (L6 : Q → Option YrCAsg_6) (p0n : Nat) (p0c : List PV) (p1_0n : Nat) (p1_0c : List PV) (p1_1n : Nat) (p1_1c : List PV) (p1_2n : Nat) (p1_2c : List PV) : Option ((Int) × (Int)) :=
  bif ((p1_0n : Int) != (p0n : Int)) then
    some ((0 : Int), (10 : Int))
  else bif ((p1_1n : Int) != (p0n : Int)) then
    some ((0 : Int), (10 : Int))
  else bif ((p1_2n : Int) != (p0n : Int)) then
    some ((0 : Int), (10 : Int))
  else bindO (L0 (TrCAsg_0a p0n p0c (0 : Int) p1_0n p1_0c p1_1n p1_1c p1_2n p1_2c)) fun z =>
  Sum.elim (fun y0 =>
    some (y0.1, y0.2)) (fun y1 =>
    bindO (L2 (TrCAsg_2a y1.1 y1.2.1 (0 : Int) y1.2.2.1 y1.2.2.2.1 y1.2.2.2.2.1 y1.2.2.2.2.2.1 y1.2.2.2.2.2.2.1 y1.2.2.2.2.2.2.2)) fun z =>
    Sum.elim (fun y2 =>
      some (y2, (2 : Int))) (fun y3 =>
      bindO (L4 (TrCAsg_4a y3.1 y3.2.1 (0 : Int) (0 : Int) y3.2.2.1 y3.2.2.2.1 y3.2.2.2.2.1 y3.2.2.2.2.2.1 y3.2.2.2.2.2.2.1 y3.2.2.2.2.2.2.2)) fun z =>
      Sum.elim (fun y4 =>
        bindO (F 100 (RSh.one (CK.int .i64)) [(PV.list y4.1 y4.2.1), (PV.list y4.2.2.2.1 y4.2.2.2.2.1)]) fun (y5 : (Int)) =>
        bif (y4.2.2.1 != y5) then
          some ((0 : Int), (13 : Int))
        else some ((0 : Int), (0 : Int))) (fun y6 =>
        some (y6, (17 : Int))) z) z) z
theorem trCAsg_eq (F : FnT) (L0 : Q → Option YrCAsg_0) (L2 : Q → Option YrCAsg_2) (L4 : Q → Option YrCAsg_4) (L6 : Q → Option YrCAsg_6) (p0n : Nat) (p0c : List PV) (p1_0n : Nat) (p1_0c : List PV) (p1_1n : Nat) (p1_1c : List PV) (p1_2n : Nat) (p1_2c : List PV) : semF (callP F ErCAsg 20) s36 (loopT [⟨0, YrCAsg_0, L0, XLrCAsg_0⟩, ⟨2, YrCAsg_2, L2, XLrCAsg_2⟩, ⟨4, YrCAsg_4, L4, XLrCAsg_4⟩, ⟨6, YrCAsg_6, L6, XLrCAsg_6⟩]) 400 a36 [PV.list p0n p0c, PV.agg [PV.list p1_0n p1_0c, PV.list p1_1n p1_1c, PV.list p1_2n p1_2c]] (fun rv => decR (RSh.tup [(Prod.mk false [(CK.int .i64)]), (Prod.mk false [(CK.int .i64)])]) rv.pv) = trCAsg F L0 L2 L4 L6 p0n p0c p1_0n p1_0c p1_1n p1_1c p1_2n p1_2c := by kernel_rfl
noncomputable abbrev FrCAsg (args : List PV) := Fn env 36 (RSh.tup [(Prod.mk false [(CK.int .i64)]), (Prod.mk false [(CK.int .i64)])]) args
theorem FrCAsg_of  (p0n : Nat) (p0c : List PV) (p1_0n : Nat) (p1_0c : List PV) (p1_1n : Nat) (p1_1c : List PV) (p1_2n : Nat) (p1_2c : List PV) {res : ((Int) × (Int))} (h : trCAsg (Fn env) LrCAsg_0 LrCAsg_2 LrCAsg_4 LrCAsg_6 p0n p0c p1_0n p1_0c p1_1n p1_1c p1_2n p1_2c = some res) : FrCAsg [PV.list p0n p0c, PV.agg [PV.list p1_0n p1_0c, PV.list p1_1n p1_1c, PV.list p1_2n p1_2c]] = some res :=
  fn_of ErCAsg_ok rfl rfl (lo_cons (lpO_ok UrCAsg) (lo_cons (lpO_ok UrCAsg) (lo_cons (lpO_ok UrCAsg) (lo_cons (lpO_ok UrCAsg) lo_nil)))) ((trCAsg_eq _ _ _ _ _ _ _ _ _ _ _ _ _).trans h)
end Gv

/- What the functions do, round by round: B6. -/
namespace Gv
open Go
set_option maxRecDepth 100000
def EsumO : List Entry := []
theorem EsumO_ok : ∀ e ∈ EsumO, EntOK env e := ent_nil
def TsumO_0a (i0 : Int) (n1 : Nat) (c2 : List PV) (i3 i4 : Int) : Q := ⟨(tm 17 [(3, (AV.p (PV.int .i64 i0))), (6, (AV.p (PV.list n1 c2))), (7, (AV.p (PV.int .i64 i3))), (8, (AV.p (PV.int .i64 i4)))]), (mm 17 [])⟩
def XsumO_0a (y : Int) : Ext × Q := (Ext.normal, ⟨(tm 17 [(3, (AV.p (PV.int .i64 y)))]), (mm 17 [])⟩)
def IsumO_0a (q : Ext × S) : Int := (pP_int1 (pA_p (avT q.2 3)))
abbrev YsumO_0 : Type := Int
def XLsumO_0 : XL YsumO_0 := .one XsumO_0a
def IsumO_0 (q : Ext × S) : YsumO_0 := (IsumO_0a q)
theorem XIsumO_0a (y : Int) : IsumO_0 (xe (XsumO_0a y)) = y := by kernel_rfl
theorem XIsumO_0 (y : YsumO_0) : IsumO_0 (xe (XLsumO_0.fn y)) = y := XIsumO_0a y
noncomputable abbrev LsumO_0 : Q → Option YsumO_0 := lpO env a107.body 0 XLsumO_0
noncomputable abbrev RsumO_0 : Q → Option (Ext × S) := lpR env a107.body 0
theorem LsumO_0a_of {s : Q} {y : Int} (h : RsumO_0 s = exO (XsumO_0a y)) : LsumO_0 s = some y := lpO_of IsumO_0 XIsumO_0 (y := y) h
theorem UsumO : uniq ((blocksOf a107.body).map (·.1)) = true := by kernel_rfl
def BsumO_0a (F : FnT) (N : QO) (E : EO) (L0 : Q → Option YsumO_0) (i0 : Int) (n1 : Nat) (c2 : List PV) (i3 i4 : Int) : Option (Ext × S) :=
  bif (decide (i4 < i3)) then
    bif (decide (((0 : Int) ≤ i4) ∧ (i4 < (n1 : Int)))) then
      bindO (intC .i64 (c2[((Int.toNat i4) * 1)]?)) fun x0 =>
      N (TsumO_0a (w64 (i0 + x0)) n1 c2 i3 (w64 (i4 + (1 : Int))))
    else none
  else E (XsumO_0a i0)
theorem BsumO_0a_eq (F : FnT) (N : QO) (E : EO) (L0 : Q → Option YsumO_0) (i0 : Int) (n1 : Nat) (c2 : List PV) (i3 i4 : Int) : semB (callP F EsumO 20) s107 (loopT [⟨0, YsumO_0, L0, XLsumO_0⟩]) 400 (blkIn a107.body 0) N E (TsumO_0a i0 n1 c2 i3 i4) = BsumO_0a F N E L0 i0 n1 c2 i3 i4 := by kernel_rfl
theorem RsumO_0a_of  (i0 : Int) (n1 : Nat) (c2 : List PV) (i3 i4 : Int) {r : Ext × S} (h : BsumO_0a (Fn env) RsumO_0 exO LsumO_0 i0 n1 c2 i3 i4 = some r) : RsumO_0 (TsumO_0a i0 n1 c2 i3 i4) = some r :=
  lp_of EsumO_ok (by kernel_rfl) (lo_cons (lpO_ok UsumO) lo_nil) (by kernel_rfl) ((BsumO_0a_eq _ _ _ _ _ _ _ _ _).trans h)
def tsumO (F : FnT) (L0 : Q → Option YsumO_0) (p0n : Nat) (p0c : List PV) : Option (Int) :=
  bindO (L0 (TsumO_0a (0 : Int) p0n p0c (p0n : Int) (0 : Int))) fun y0 =>
  some y0
theorem tsumO_eq (F : FnT) (L0 : Q → Option YsumO_0) (p0n : Nat) (p0c : List PV) : semF (callP F EsumO 20) s107 (loopT [⟨0, YsumO_0, L0, XLsumO_0⟩]) 400 a107 [PV.list p0n p0c] (fun rv => decR (RSh.one (CK.int .i64)) rv.pv) = tsumO F L0 p0n p0c := by kernel_rfl
noncomputable abbrev FsumO (args : List PV) := Fn env 107 (RSh.one (CK.int .i64)) args
theorem FsumO_of  (p0n : Nat) (p0c : List PV) {res : (Int)} (h : tsumO (Fn env) LsumO_0 p0n p0c = some res) : FsumO [PV.list p0n p0c] = some res :=
  fn_of EsumO_ok rfl rfl (lo_cons (lpO_ok UsumO) lo_nil) ((tsumO_eq _ _ _ _).trans h)
def EisEx : List Entry := []
theorem EisEx_ok : ∀ e ∈ EisEx, EntOK env e := ent_nil
def TisEx_0a (i0 : Int) (n1 : Nat) (c2 : List PV) (i3 i4 : Int) (n5 : Nat) (c6 : List PV) (n7 : Nat) (c8 : List PV) (n9 : Nat) (c10 : List PV) : Q := ⟨(tm 30 [(2, (AV.p (PV.int .i64 i0))), (4, (AV.loc 4 0)), (9, (AV.p (PV.list n1 c2))), (10, (AV.p (PV.int .i64 i3))), (11, (AV.p (PV.int .i64 i4)))]), (mm 30 [(4, (Bk.cells true [(AV.p (PV.list n5 c6)), (AV.p (PV.list n7 c8)), (AV.p (PV.list n9 c10))]))])⟩
def XisEx_0a (y : Unit) : Ext × Q := (Ext.ret, ⟨(tm 30 [(6, (AV.p (PV.bool true)))]), (mm 30 [])⟩)
def IisEx_0a (q : Ext × S) : Unit := ()
def XisEx_0b (y : Nat × List PV × Nat × List PV × Nat × List PV) : Ext × Q := (Ext.normal, ⟨(tm 30 []), (mm 30 [(4, (Bk.cells true [(AV.p (PV.list y.1 y.2.1)), (AV.p (PV.list y.2.2.1 y.2.2.2.1)), (AV.p (PV.list y.2.2.2.2.1 y.2.2.2.2.2))]))])⟩)
def IisEx_0b (q : Ext × S) : Nat × List PV × Nat × List PV × Nat × List PV := ((pP_list0 (pA_p (hdA (pB_cells1 (avM q.2 4))))), (pP_list1 (pA_p (hdA (pB_cells1 (avM q.2 4))))), (pP_list0 (pA_p (hdA (List.tail (pB_cells1 (avM q.2 4)))))), (pP_list1 (pA_p (hdA (List.tail (pB_cells1 (avM q.2 4)))))), (pP_list0 (pA_p (hdA (List.tail (List.tail (pB_cells1 (avM q.2 4))))))), (pP_list1 (pA_p (hdA (List.tail (List.tail (pB_cells1 (avM q.2 4))))))))
abbrev YisEx_0 : Type := (Unit) ⊕ ((Nat × List PV × Nat × List PV × Nat × List PV))
def XLisEx_0 : XL YisEx_0 := .more XisEx_0a (.one XisEx_0b)
def IisEx_0 (q : Ext × S) : YisEx_0 := bif (cE q.1 == 2) then (Sum.inl (IisEx_0a q)) else (Sum.inr (IisEx_0b q))
theorem XIisEx_0a (y : Unit) : IisEx_0 (xe (XisEx_0a y)) = (Sum.inl y) := by kernel_rfl
theorem XIisEx_0b (y : Nat × List PV × Nat × List PV × Nat × List PV) : IisEx_0 (xe (XisEx_0b y)) = (Sum.inr y) := by kernel_rfl
theorem XIisEx_0 (y : YisEx_0) : IisEx_0 (xe (XLisEx_0.fn y)) = y := (match y with | .inl y => XIisEx_0a y | .inr y => XIisEx_0b y)
noncomputable abbrev LisEx_0 : Q → Option YisEx_0 := lpO env a106.body 0 XLisEx_0
noncomputable abbrev RisEx_0 : Q → Option (Ext × S) := lpR env a106.body 0
theorem LisEx_0a_of {s : Q} {y : Unit} (h : RisEx_0 s = exO (XisEx_0a y)) : LisEx_0 s = some (Sum.inl y) := lpO_of IisEx_0 XIisEx_0 (y := (Sum.inl y)) h
theorem LisEx_0b_of {s : Q} {y : Nat × List PV × Nat × List PV × Nat × List PV} (h : RisEx_0 s = exO (XisEx_0b y)) : LisEx_0 s = some (Sum.inr y) := lpO_of IisEx_0 XIisEx_0 (y := (Sum.inr y)) h
theorem UisEx : uniq ((blocksOf a106.body).map (·.1)) = true := by kernel_rfl
def BisEx_0a (F : FnT) (N : QO) (E : EO) (L0 : Q → Option YisEx_0) (i0 : Int) (n1 : Nat) (c2 : List PV) (i3 i4 : Int) (n5 : Nat) (c6 : List PV) (n7 : Nat) (c8 : List PV) (n9 : Nat) (c10 : List PV) : Option (Ext × S) :=
  bif (decide (i4 < i3)) then
    bif (decide (((0 : Int) ≤ i4) ∧ (i4 < (n1 : Int)))) then
      bindO (intC .i64 (c2[((Int.toNat i4) * 1)]?)) fun x0 =>
      bif (decide (((0 : Int) ≤ i0) ∧ (i0 < (n7 : Int)))) then
        bindO (intC .i64 (c8[((Int.toNat i0) * 1)]?)) fun x1 =>
        bif (decide (((0 : Int) ≤ i4) ∧ (i4 < (n9 : Int)))) then
          bindO (intC .i64 (c10[((Int.toNat i4) * 1)]?)) fun x2 =>
          bif (decide (x0 < (w64 (x1 + x2)))) then
            E (XisEx_0a ())
          else N (TisEx_0a i0 n1 c2 i3 (w64 (i4 + (1 : Int))) n5 c6 n7 c8 n9 c10)
        else none
      else none
    else none
  else E (XisEx_0b (n5, c6, n7, c8, n9, c10))
theorem BisEx_0a_eq (F : FnT) (N : QO) (E : EO) (L0 : Q → Option YisEx_0) (i0 : Int) (n1 : Nat) (c2 : List PV) (i3 i4 : Int) (n5 : Nat) (c6 : List PV) (n7 : Nat) (c8 : List PV) (n9 : Nat) (c10 : List PV) : semB (callP F EisEx 20) s106 (loopT [⟨0, YisEx_0, L0, XLisEx_0⟩]) 400 (blkIn a106.body 0) N E (TisEx_0a i0 n1 c2 i3 i4 n5 c6 n7 c8 n9 c10) = BisEx_0a F N E L0 i0 n1 c2 i3 i4 n5 c6 n7 c8 n9 c10 := by kernel_rfl
theorem RisEx_0a_of  (i0 : Int) (n1 : Nat) (c2 : List PV) (i3 i4 : Int) (n5 : Nat) (c6 : List PV) (n7 : Nat) (c8 : List PV) (n9 : Nat) (c10 : List PV) {r : Ext × S} (h : BisEx_0a (Fn env) RisEx_0 exO LisEx_0 i0 n1 c2 i3 i4 n5 c6 n7 c8 n9 c10 = some r) : RisEx_0 (TisEx_0a i0 n1 c2 i3 i4 n5 c6 n7 c8 n9 c10) = some r :=
  lp_of EisEx_ok (by kernel_rfl) (lo_cons (lpO_ok UisEx) lo_nil) (by kernel_rfl) ((BisEx_0a_eq _ _ _ _ _ _ _ _ _ _ _ _ _ _ _).trans h)
def tisEx (F : FnT) (L0 : Q → Option YisEx_0) (p0n : Nat) (p0c : List PV) (p1_0n : Nat) (p1_0c : List PV) (p1_1n : Nat) (p1_1c : List PV) (p1_2n : Nat) (p1_2c : List PV) (p2 : Int) : Option (Bool) :=
  bindO (L0 (TisEx_0a p2 p0n p0c (p0n : Int) (0 : Int) p1_0n p1_0c p1_1n p1_1c p1_2n p1_2c)) fun z =>
  Sum.elim (fun y0 =>
    some true) (fun y1 =>
    some false) z
theorem tisEx_eq (F : FnT) (L0 : Q → Option YisEx_0) (p0n : Nat) (p0c : List PV) (p1_0n : Nat) (p1_0c : List PV) (p1_1n : Nat) (p1_1c : List PV) (p1_2n : Nat) (p1_2c : List PV) (p2 : Int) : semF (callP F EisEx 20) s106 (loopT [⟨0, YisEx_0, L0, XLisEx_0⟩]) 400 a106 [PV.list p0n p0c, PV.agg [PV.list p1_0n p1_0c, PV.list p1_1n p1_1c, PV.list p1_2n p1_2c], PV.int .i64 p2] (fun rv => decR (RSh.one CK.bool) rv.pv) = tisEx F L0 p0n p0c p1_0n p1_0c p1_1n p1_1c p1_2n p1_2c p2 := by kernel_rfl
noncomputable abbrev FisEx (args : List PV) := Fn env 106 (RSh.one CK.bool) args
theorem FisEx_of  (p0n : Nat) (p0c : List PV) (p1_0n : Nat) (p1_0c : List PV) (p1_1n : Nat) (p1_1c : List PV) (p1_2n : Nat) (p1_2c : List PV) (p2 : Int) {res : (Bool)} (h : tisEx (Fn env) LisEx_0 p0n p0c p1_0n p1_0c p1_1n p1_1c p1_2n p1_2c p2 = some res) : FisEx [PV.list p0n p0c, PV.agg [PV.list p1_0n p1_0c, PV.list p1_1n p1_1c, PV.list p1_2n p1_2c], PV.int .i64 p2] = some res :=
  fn_of EisEx_ok rfl rfl (lo_cons (lpO_ok UisEx) lo_nil) ((tisEx_eq _ _ _ _ _ _ _ _ _ _ _).trans h)
def EpotE : List Entry := [.out 86 (RSh.one (CK.int .i64)), .out 79 (RSh.one (CK.int .i64))]
theorem EpotE_ok : ∀ e ∈ EpotE, EntOK env e := (ent_out (ent_out ent_nil))
def tpotE (F : FnT) (p0_0n : Nat) (p0_0c : List PV) (p0_1n : Nat) (p0_1c : List PV) (p0_2n : Nat) (p0_2c : List PV) (p1 : Int) : Option (Int) :=
  bif (decide (((0 : Int) ≤ p1) ∧ (p1 < (p0_1n : Int)))) then
    bindO (intC .i64 (p0_1c[((Int.toNat p1) * 1)]?)) fun x0 =>
    bindO (F 86 (RSh.one (CK.int .i64)) [(PV.int .i64 x0), (PV.int .i64 (-60000000 : Int)), (PV.int .i64 (60000000 : Int))]) fun (y1 : (Int)) =>
    bif (decide (((0 : Int) ≤ p1) ∧ (p1 < (p0_2n : Int)))) then
      bindO (intC .i64 (p0_2c[((Int.toNat p1) * 1)]?)) fun x2 =>
      bindO (F 86 (RSh.one (CK.int .i64)) [(PV.int .i64 x2), (PV.int .i64 (-60000000 : Int)), (PV.int .i64 (60000000 : Int))]) fun (y3 : (Int)) =>
      bindO (F 79 (RSh.one (CK.int .i64)) [(PV.list 2 [(PV.int .i64 y1), (PV.int .i64 y3)])]) fun (y4 : (Int)) =>
      some y4
    else none
  else none
theorem tpotE_eq (F : FnT) (p0_0n : Nat) (p0_0c : List PV) (p0_1n : Nat) (p0_1c : List PV) (p0_2n : Nat) (p0_2c : List PV) (p1 : Int) : semF (callP F EpotE 20) s104 (loopT []) 400 a104 [PV.agg [PV.list p0_0n p0_0c, PV.list p0_1n p0_1c, PV.list p0_2n p0_2c], PV.int .i64 p1] (fun rv => decR (RSh.one (CK.int .i64)) rv.pv) = tpotE F p0_0n p0_0c p0_1n p0_1c p0_2n p0_2c p1 := by kernel_rfl
noncomputable abbrev FpotE (args : List PV) := Fn env 104 (RSh.one (CK.int .i64)) args
theorem FpotE_of  (p0_0n : Nat) (p0_0c : List PV) (p0_1n : Nat) (p0_1c : List PV) (p0_2n : Nat) (p0_2c : List PV) (p1 : Int) {res : (Int)} (h : tpotE (Fn env) p0_0n p0_0c p0_1n p0_1c p0_2n p0_2c p1 = some res) : FpotE [PV.agg [PV.list p0_0n p0_0c, PV.list p0_1n p0_1c, PV.list p0_2n p0_2c], PV.int .i64 p1] = some res :=
  fn_of EpotE_ok rfl rfl lo_nil ((tpotE_eq _ _ _ _ _ _ _ _).trans h)
def TsCon_1520000000a (n0 : Nat) (c1 : List PV) (i2 i3 i4 : Int) : Q := ⟨(tm 19 [(0, (AV.p (PV.list n0 c1))), (1, (AV.p (PV.int .i64 i2))), (7, (AV.p (PV.int .i64 i3))), (8, (AV.p (PV.int .i64 i4)))]), (mm 19 [])⟩
def XsCon_1520000000a (y : Int) : Ext × Q := (Ext.ret, ⟨(tm 19 [(4, (AV.p (PV.int .i64 y)))]), (mm 19 [])⟩)
def IsCon_1520000000a (q : Ext × S) : Int := (pP_int1 (pA_p (avT q.2 4)))
def XsCon_1520000000b (y : Unit) : Ext × Q := (Ext.normal, ⟨(tm 19 []), (mm 19 [])⟩)
def IsCon_1520000000b (q : Ext × S) : Unit := ()
abbrev YsCon_1520000000 : Type := (Int) ⊕ ((Unit))
def XLsCon_1520000000 : XL YsCon_1520000000 := .more XsCon_1520000000a (.one XsCon_1520000000b)
def IsCon_1520000000 (q : Ext × S) : YsCon_1520000000 := bif (cE q.1 == 2) then (Sum.inl (IsCon_1520000000a q)) else (Sum.inr (IsCon_1520000000b q))
theorem XIsCon_1520000000a (y : Int) : IsCon_1520000000 (xe (XsCon_1520000000a y)) = (Sum.inl y) := by kernel_rfl
theorem XIsCon_1520000000b (y : Unit) : IsCon_1520000000 (xe (XsCon_1520000000b y)) = (Sum.inr y) := by kernel_rfl
theorem XIsCon_1520000000 (y : YsCon_1520000000) : IsCon_1520000000 (xe (XLsCon_1520000000.fn y)) = y := (match y with | .inl y => XIsCon_1520000000a y | .inr y => XIsCon_1520000000b y)
noncomputable abbrev LsCon_1520000000 : Q → Option YsCon_1520000000 := lpO env a152.body 0 XLsCon_1520000000
noncomputable abbrev RsCon_1520000000 : Q → Option (Ext × S) := lpR env a152.body 0
theorem LsCon_1520000000a_of {s : Q} {y : Int} (h : RsCon_1520000000 s = exO (XsCon_1520000000a y)) : LsCon_1520000000 s = some (Sum.inl y) := lpO_of IsCon_1520000000 XIsCon_1520000000 (y := (Sum.inl y)) h
theorem LsCon_1520000000b_of {s : Q} {y : Unit} (h : RsCon_1520000000 s = exO (XsCon_1520000000b y)) : LsCon_1520000000 s = some (Sum.inr y) := lpO_of IsCon_1520000000 XIsCon_1520000000 (y := (Sum.inr y)) h
theorem UsCong152 : uniq ((blocksOf a152.body).map (·.1)) = true := by kernel_rfl
def EsCon (L1520000000 : Q → Option YsCon_1520000000) : List Entry := [.inp 152 a152 s152 [⟨0, YsCon_1520000000, L1520000000, XLsCon_1520000000⟩]]
theorem EsCon_ok : ∀ e ∈ EsCon LsCon_1520000000, EntOK env e := (ent_inp rfl (lo_cons (lpO_ok UsCong152) lo_nil) ent_nil)
def BsCon_1520000000a (F : FnT) (N : QO) (E : EO) (L1520000000 : Q → Option YsCon_1520000000) (n0 : Nat) (c1 : List PV) (i2 i3 i4 : Int) : Option (Ext × S) :=
  bif (decide (i4 < i3)) then
    bif (decide (((0 : Int) ≤ i4) ∧ (i4 < (n0 : Int)))) then
      bindO (intC .i64 (c1[((Int.toNat i4) * 1)]?)) fun x0 =>
      bif (i2 == x0) then
        E (XsCon_1520000000a i4)
      else N (TsCon_1520000000a n0 c1 i2 i3 (w64 (i4 + (1 : Int))))
    else none
  else E (XsCon_1520000000b ())
theorem BsCon_1520000000a_eq (F : FnT) (N : QO) (E : EO) (L1520000000 : Q → Option YsCon_1520000000) (n0 : Nat) (c1 : List PV) (i2 i3 i4 : Int) : semB (callP F (EsCon L1520000000) 20) s152 (loopT [⟨0, YsCon_1520000000, L1520000000, XLsCon_1520000000⟩]) 400 (blkIn a152.body 0) N E (TsCon_1520000000a n0 c1 i2 i3 i4) = BsCon_1520000000a F N E L1520000000 n0 c1 i2 i3 i4 := by kernel_rfl
theorem RsCon_1520000000a_of  (n0 : Nat) (c1 : List PV) (i2 i3 i4 : Int) {r : Ext × S} (h : BsCon_1520000000a (Fn env) RsCon_1520000000 exO LsCon_1520000000 n0 c1 i2 i3 i4 = some r) : RsCon_1520000000 (TsCon_1520000000a n0 c1 i2 i3 i4) = some r :=
  lp_of EsCon_ok (by kernel_rfl) (lo_cons (lpO_ok UsCong152) lo_nil) (by kernel_rfl) ((BsCon_1520000000a_eq _ _ _ _ _ _ _ _ _).trans h)
def tsCon (F : FnT) (L1520000000 : Q → Option YsCon_1520000000) (p0n : Nat) (p0c : List PV) (p1 : Int) : Option (Bool) :=
  bindO (L1520000000 (TsCon_1520000000a p0n p0c p1 (p0n : Int) (0 : Int))) fun z =>
  Sum.elim (fun y0 =>
    bif (decide (y0 ≥ (0 : Int))) then
      some true
    else some false) (fun y1 =>
    some false) z
theorem tsCon_eq (F : FnT) (L1520000000 : Q → Option YsCon_1520000000) (p0n : Nat) (p0c : List PV) (p1 : Int) : semF (callP F (EsCon L1520000000) 20) s115 (loopT []) 400 a115 [PV.list p0n p0c, PV.int .i64 p1] (fun rv => decR (RSh.one CK.bool) rv.pv) = tsCon F L1520000000 p0n p0c p1 := by kernel_rfl
noncomputable abbrev FsCon (args : List PV) := Fn env 115 (RSh.one CK.bool) args
theorem FsCon_of  (p0n : Nat) (p0c : List PV) (p1 : Int) {res : (Bool)} (h : tsCon (Fn env) LsCon_1520000000 p0n p0c p1 = some res) : FsCon [PV.list p0n p0c, PV.int .i64 p1] = some res :=
  fn_of EsCon_ok rfl rfl lo_nil ((tsCon_eq _ _ _ _ _).trans h)
def EcolE : List Entry := [.out 92 (RSh.one (CK.int .i64)), .out 115 (RSh.one CK.bool), .out 79 (RSh.one (CK.int .i64))]
theorem EcolE_ok : ∀ e ∈ EcolE, EntOK env e := (ent_out (ent_out (ent_out ent_nil)))
def tcolE (F : FnT) (p0n : Nat) (p0c : List PV) (p1 : Int) : Option (Int) :=
  bif (decide (((0 : Int) ≤ p1) ∧ (p1 < (p0n : Int)))) then
    bindO (intC .i64 (p0c[((Int.toNat p1) * 1)]?)) fun x0 =>
    bif (decide (x0 < (0 : Int))) then
      bindO (F 92 (RSh.one (CK.int .i64)) [(PV.bool true), (PV.int .i64 (6 : Int))]) fun (y1 : (Int)) =>
      bif (decide (((0 : Int) ≤ p1) ∧ (p1 ≤ ((Prod.mk p0n p0c).1 : Int)))) then
        bif (decide ((0 = (Int.toNat p1)) ∨ (((0 * 1) + (((Int.toNat p1) - 0) * 1)) ≤ (List.length p0c)))) then
          bindO (F 115 (RSh.one CK.bool) [(PV.list ((Int.toNat p1) - 0) (List.take (((Int.toNat p1) - 0) * 1) (List.drop 0 p0c))), (PV.int .i64 x0)]) fun (y2 : (Bool)) =>
          bif y2 then
            bindO (F 92 (RSh.one (CK.int .i64)) [(PV.bool true), (PV.int .i64 (21 : Int))]) fun (y3 : (Int)) =>
            bindO (F 79 (RSh.one (CK.int .i64)) [(PV.list 2 [(PV.int .i64 y1), (PV.int .i64 y3)])]) fun (y4 : (Int)) =>
            some y4
          else bindO (F 92 (RSh.one (CK.int .i64)) [(PV.bool false), (PV.int .i64 (21 : Int))]) fun (y5 : (Int)) =>
          bindO (F 79 (RSh.one (CK.int .i64)) [(PV.list 2 [(PV.int .i64 y1), (PV.int .i64 y5)])]) fun (y6 : (Int)) =>
          some y6
        else none
      else none
    else bif (decide (x0 ≥ (p0n : Int))) then
      bindO (F 92 (RSh.one (CK.int .i64)) [(PV.bool true), (PV.int .i64 (6 : Int))]) fun (y7 : (Int)) =>
      bif (decide (((0 : Int) ≤ p1) ∧ (p1 ≤ ((Prod.mk p0n p0c).1 : Int)))) then
        bif (decide ((0 = (Int.toNat p1)) ∨ (((0 * 1) + (((Int.toNat p1) - 0) * 1)) ≤ (List.length p0c)))) then
          bindO (F 115 (RSh.one CK.bool) [(PV.list ((Int.toNat p1) - 0) (List.take (((Int.toNat p1) - 0) * 1) (List.drop 0 p0c))), (PV.int .i64 x0)]) fun (y8 : (Bool)) =>
          bif y8 then
            bindO (F 92 (RSh.one (CK.int .i64)) [(PV.bool true), (PV.int .i64 (21 : Int))]) fun (y9 : (Int)) =>
            bindO (F 79 (RSh.one (CK.int .i64)) [(PV.list 2 [(PV.int .i64 y7), (PV.int .i64 y9)])]) fun (y10 : (Int)) =>
            some y10
          else bindO (F 92 (RSh.one (CK.int .i64)) [(PV.bool false), (PV.int .i64 (21 : Int))]) fun (y11 : (Int)) =>
          bindO (F 79 (RSh.one (CK.int .i64)) [(PV.list 2 [(PV.int .i64 y7), (PV.int .i64 y11)])]) fun (y12 : (Int)) =>
          some y12
        else none
      else none
    else bindO (F 92 (RSh.one (CK.int .i64)) [(PV.bool false), (PV.int .i64 (6 : Int))]) fun (y13 : (Int)) =>
    bif (decide (((0 : Int) ≤ p1) ∧ (p1 ≤ ((Prod.mk p0n p0c).1 : Int)))) then
      bif (decide ((0 = (Int.toNat p1)) ∨ (((0 * 1) + (((Int.toNat p1) - 0) * 1)) ≤ (List.length p0c)))) then
        bindO (F 115 (RSh.one CK.bool) [(PV.list ((Int.toNat p1) - 0) (List.take (((Int.toNat p1) - 0) * 1) (List.drop 0 p0c))), (PV.int .i64 x0)]) fun (y14 : (Bool)) =>
        bif y14 then
          bindO (F 92 (RSh.one (CK.int .i64)) [(PV.bool true), (PV.int .i64 (21 : Int))]) fun (y15 : (Int)) =>
          bindO (F 79 (RSh.one (CK.int .i64)) [(PV.list 2 [(PV.int .i64 y13), (PV.int .i64 y15)])]) fun (y16 : (Int)) =>
          some y16
        else bindO (F 92 (RSh.one (CK.int .i64)) [(PV.bool false), (PV.int .i64 (21 : Int))]) fun (y17 : (Int)) =>
        bindO (F 79 (RSh.one (CK.int .i64)) [(PV.list 2 [(PV.int .i64 y13), (PV.int .i64 y17)])]) fun (y18 : (Int)) =>
        some y18
      else none
    else none
  else none
theorem tcolE_eq (F : FnT) (p0n : Nat) (p0c : List PV) (p1 : Int) : semF (callP F EcolE 20) s102 (loopT []) 400 a102 [PV.list p0n p0c, PV.int .i64 p1] (fun rv => decR (RSh.one (CK.int .i64)) rv.pv) = tcolE F p0n p0c p1 := by kernel_rfl
noncomputable abbrev FcolE (args : List PV) := Fn env 102 (RSh.one (CK.int .i64)) args
theorem FcolE_of  (p0n : Nat) (p0c : List PV) (p1 : Int) {res : (Int)} (h : tcolE (Fn env) p0n p0c p1 = some res) : FcolE [PV.list p0n p0c, PV.int .i64 p1] = some res :=
  fn_of EcolE_ok rfl rfl lo_nil ((tcolE_eq _ _ _ _).trans h)
end Gv

/- Boxes: errors, the box after some ticks, what two boxes have in common. -/
namespace Gv
open Go
set_option maxRecDepth 100000
abbrev B6 := Int × Int × Int × Int × Int × Int
theorem eIf_is (b : Bool) (x : Int) : FeIf [.bool b, .int .i64 x] = some (if b then x else 0) := FeIf_of b x (by cases b <;> rfl)
theorem rE_is (x lo hi : Int) : FrE [.int .i64 x, .int .i64 lo, .int .i64 hi] = some (rangeE x lo hi) :=
  FrE_of x lo hi (by
    unfold trE rangeE
    by_cases h1 : x < lo
    · simp [h1]
    · by_cases h2 : x > hi
      · have : hi < x := h2
        simp [h1, this]
      · have : ¬ hi < x := h2
        simp [h1, this])
theorem fE2_is (a b : Int) : FfE2 [.list 2 [.int .i64 a, .int .i64 b]] = some (both a b) :=
  FfE2_of a b (by
    unfold tfE2 both
    simp only [bif_ne]
    by_cases h1 : a = 0 <;> by_cases h2 : b = 0 <;> simp [h1, h2])
theorem rangeE_if (x a b : Int) : rangeE x a b = if a ≤ x ∧ x ≤ b then 0 else 2 := by unfold rangeE; split <;> split <;> omega
theorem bWi_is (x a b : Int) : FbWi [.int .i64 x, .int .i64 a, .int .i64 b] = some (decide (a ≤ x ∧ x ≤ b)) :=
  FbWi_of _ _ _ (by
    unfold tbWi
    by_cases h1 : a ≤ x <;> by_cases h2 : x ≤ b <;> simp [h1, h2])
def ord3 (a b c d e f : Int) : Int := if a ≤ b ∧ c ≤ d ∧ e ≤ f then 0 else 9
def driE (d : B6) : Int := if ((-100 ≤ d.1 ∧ d.1 ≤ 100) ∧ (-100 ≤ d.2.1 ∧ d.2.1 ≤ 100)) ∧ ((0 ≤ d.2.2.1 ∧ d.2.2.1 ≤ 100) ∧ (0 ≤ d.2.2.2.1 ∧ d.2.2.2.1 ≤ 100)) ∧ ((0 ≤ d.2.2.2.2.1 ∧ d.2.2.2.2.1 ≤ 100) ∧ (0 ≤ d.2.2.2.2.2 ∧ d.2.2.2.2.2 ≤ 100)) then ord3 d.1 d.2.1 d.2.2.1 d.2.2.2.1 d.2.2.2.2.1 d.2.2.2.2.2 else 2
def pos (x : Int) : Int := if x > 0 then x else 0
end Gv

/- Matrices of costs: encodings, copies, errors, costs. -/
namespace Gv
open Go
set_option maxRecDepth 100000
def rowI (r : List Int) : PV := .list r.length (encI r)
def encM (L : List (List Int)) : List PV := L.map rowI
theorem encM_get (L : List (List Int)) (i : Nat) : (encM L)[i]? = L[i]?.map rowI := by simp [encM]
theorem intI_get {r : List Int} {i : Nat} (h : i < r.length) : intC .i64 (encI r)[i]? = some (r.getD i 0) := by
  rw [encI_get, List.getElem?_eq_getElem h]
  simp [List.getD, List.getElem?_eq_getElem h]
theorem listM_get {L : List (List Int)} {i : Nat} (h : i < L.length) : listC (encM L)[i]? = some ((L.getD i []).length, encI (L.getD i [])) := by
  rw [encM_get, List.getElem?_eq_getElem h]
  simp [List.getD, List.getElem?_eq_getElem h, rowI, listC]
theorem drop_getD {r : List Int} {i : Nat} (h : i < r.length) : r.drop i = r.getD i 0 :: r.drop (i + 1) := by
  rw [List.drop_eq_getElem_cons h]
  simp [List.getD, List.getElem?_eq_getElem h]
theorem drop_getM {r : List (List Int)} {i : Nat} (h : i < r.length) : r.drop i = r.getD i [] :: r.drop (i + 1) := by
  rw [List.drop_eq_getElem_cons h]
  simp [List.getD, List.getElem?_eq_getElem h]
theorem getD_memM {L : List (List Int)} {i : Nat} (h : i < L.length) : L.getD i [] ∈ L := by
  simp [List.getD, List.getElem?_eq_getElem h]
theorem copI_is (r : List Int) (hr : r.length ≤ 1000) : FbCopI [.list r.length (encI r)] = some (r.length, encI r) := by
  refine FbCopI_of _ _ ?_
  unfold tbCopI
  by_cases h0 : r.length = 0
  · rw [bif_pos h0]
    have : r = [] := List.length_eq_zero_iff.1 h0
    subst this
    rfl
  · rw [bif_neg h0, bif_pos (by rw [encI_len]; omega), bif_pos ⟨rfl, by unfold big; omega⟩, bif_pos rfl]
    simp
theorem copM_loop (L : List (List Int)) (hL : L.length ≤ 1000) (hr : ∀ r ∈ L, r.length ≤ 1000) : ∀ (m k : Nat), k + m = L.length →
    RrCopM_0 (TrCopM_0b L.length (encM L) k (encM (L.take k)) k k) = exO (XrCopM_0b (L.length, encM L, L.length))
  | 0, k, h => by
    have hk : k = L.length := by omega
    subst hk
    refine RrCopM_0b_of _ _ _ _ _ _ ?_
    unfold BrCopM_0b
    rw [bif_neg (by omega), List.take_of_length_le (Nat.le_refl _)]
    rfl
  | m + 1, k, h => by
    have hk : k < L.length := by omega
    have ih := copM_loop L hL hr m (k + 1) (by omega)
    refine RrCopM_0b_of _ _ _ _ _ _ ?_
    unfold BrCopM_0b
    have hc := copI_is (L.getD k []) (hr _ (getD_memM hk))
    have e : encM (L.take (k + 1)) = encM (L.take k) ++ [PV.list (L.getD k []).length (encI (L.getD k []))] := by
      unfold encM
      rw [List.take_succ_eq_append_getElem hk, List.map_append]
      congr 1
      simp [rowI, List.getD, List.getElem?_eq_getElem hk]
    rw [bif_pos (by omega), bif_pos (by omega)]
    simp only [Int.toNat_natCast, Nat.mul_one, listM_get hk, bindO_val, hc]
    rw [bif_pos ⟨trivial, by unfold big; omega⟩, w64_in (by omega), ← e]
    exact_mod_cast ih
theorem copM_is (L : List (List Int)) (hL : L.length ≤ 1000) (hr : ∀ r ∈ L, r.length ≤ 1000) : FrCopM [.list L.length (encM L)] = some (L.length, encM L) := by
  refine FrCopM_of _ _ ?_
  unfold trCopM
  by_cases h0 : L.length = 0
  · have hL0 : L = [] := List.length_eq_zero_iff.1 h0
    subst hL0
    have h : RrCopM_0 (TrCopM_0a 0 []) = exO (XrCopM_0a ()) := by
      refine RrCopM_0a_of _ _ ?_
      unfold BrCopM_0a
      rfl
    have h := LrCopM_0a_of h
    simp only [List.length_nil, encM, List.map_nil]
    rw [h]
    rfl
  · have hk : 0 < L.length := by omega
    have hc := copI_is (L.getD 0 []) (hr _ (getD_memM hk))
    have ih := copM_loop L hL hr (L.length - 1) 1 (by omega)
    have e : encM (L.take 1) = [PV.list (L.getD 0 []).length (encI (L.getD 0 []))] := by
      unfold encM
      rw [List.take_add_one, List.getElem?_eq_getElem hk]
      simp [rowI, List.getD, List.getElem?_eq_getElem hk]
    rw [e] at ih
    have h : RrCopM_0 (TrCopM_0a L.length (encM L)) = exO (XrCopM_0b (L.length, encM L, L.length)) := by
      refine RrCopM_0a_of _ _ ?_
      unfold BrCopM_0a
      rw [bif_pos (by omega), bif_pos (by omega)]
      simp only [listM_get hk, bindO_val, hc]
      exact ih
    have h := LrCopM_0b_of h
    rw [h]
    simp
def okC (x : Int) : Bool := decide (0 ≤ x ∧ x ≤ 10000000)
def rowE (k : Nat) (r : List Int) : Int := if r.length = k then (if r.all okC = true then 0 else 2) else 10
def matF (k : Nat) : List (List Int) → Nat → Option (Int × Int)
  | [], _ => none
  | r :: L, i => if rowE k r = 0 then matF k L (i + 1) else some ((i : Int), rowE k r)
def matV (L : List (List Int)) : Int × Int := if L.length = 0 then (0, 10) else if 6 < L.length then (0, 8) else (matF L.length L 0).getD (0, 0)
theorem rCMat_in (L : List (List Int)) (hL : L.length ≤ 1000) (i : Nat) (hi : i < L.length) (hlen : (L.getD i []).length = L.length) : ∀ (m k : Nat), k + m = L.length →
    RrCMat_2 (TrCMat_2a L.length (encM L) i k) = if ((L.getD i []).drop k).all okC = true then exO (XrCMat_2b (L.length, encM L, i)) else exO (XrCMat_2a i)
  | 0, k, h => by
    rw [List.drop_of_length_le (by omega), List.all_nil, if_pos rfl]
    refine RrCMat_2a_of _ _ _ _ ?_
    unfold BrCMat_2a
    rw [bif_neg (by omega)]
    rfl
  | m + 1, k, h => by
    have ih := rCMat_in L hL i hi hlen m (k + 1) (by omega)
    have hk : k < (L.getD i []).length := by omega
    rw [drop_getD hk, List.all_cons]
    have hs : BrCMat_2a (Fn env) RrCMat_2 exO LrCMat_0 LrCMat_2 L.length (encM L) i k = if okC ((L.getD i []).getD k 0) = true then RrCMat_2 (TrCMat_2a L.length (encM L) i ((k + 1 : Nat) : Int)) else exO (XrCMat_2a i) := by
      unfold BrCMat_2a
      rw [bif_pos (by omega), bif_pos (by omega)]
      simp only [Int.toNat_natCast, Nat.mul_one, listM_get hi, bindO_val]
      rw [bif_pos (by omega)]
      simp only [intI_get hk, bindO_val, bWi_is]
      rw [w64_in (by omega)]
      unfold okC
      by_cases ho : 0 ≤ (L.getD i []).getD k 0 ∧ (L.getD i []).getD k 0 ≤ 10000000
      · rw [bif_pos ho, if_pos (by simpa using ho)]
        rfl
      · rw [bif_neg ho, if_neg (by simpa using ho)]
    by_cases ho : okC ((L.getD i []).getD k 0) = true
    · rw [if_pos ho, ih] at hs
      simp only [ho, Bool.true_and]
      by_cases ha : ((L.getD i []).drop (k + 1)).all okC = true
      · rw [if_pos ha] at hs ⊢
        exact RrCMat_2a_of _ _ _ _ hs
      · rw [if_neg ha] at hs ⊢
        exact RrCMat_2a_of _ _ _ _ hs
    · rw [if_neg ho] at hs
      rw [(Bool.not_eq_true _).mp ho, Bool.false_and, if_neg (by decide)]
      exact RrCMat_2a_of _ _ _ _ hs
theorem rCMat_loop (L : List (List Int)) (hL : L.length ≤ 1000) : ∀ (m i : Nat), i + m = L.length →
    RrCMat_0 (TrCMat_0a L.length (encM L) i) = match matF L.length (L.drop i) i with
      | some y => exO (XrCMat_0a y)
      | none => exO (XrCMat_0b ())
  | 0, i, h => by
    rw [List.drop_of_length_le (by omega)]
    refine RrCMat_0a_of _ _ _ ?_
    unfold BrCMat_0a
    rw [bif_neg (by omega)]
    rfl
  | m + 1, i, h => by
    have ih := rCMat_loop L hL m (i + 1) (by omega)
    have hi : i < L.length := by omega
    rw [drop_getM hi]
    unfold matF
    have hs : BrCMat_0a (Fn env) RrCMat_0 exO LrCMat_0 LrCMat_2 L.length (encM L) i = if rowE L.length (L.getD i []) = 0 then RrCMat_0 (TrCMat_0a L.length (encM L) ((i + 1 : Nat) : Int)) else exO (XrCMat_0a ((i : Int), rowE L.length (L.getD i []))) := by
      unfold BrCMat_0a rowE
      rw [bif_pos (by omega), bif_pos (by omega)]
      simp only [Int.toNat_natCast, Nat.mul_one, listM_get hi, bindO_val]
      by_cases hl : (L.getD i []).length = L.length
      · have hin := rCMat_in L hL i hi hl L.length 0 (by omega)
        rw [List.drop_zero] at hin
        have e : (((L.getD i []).length : Int) != (L.length : Int)) = false := by rw [hl]; simp
        rw [e, if_pos hl, cond_false]
        by_cases ha : (L.getD i []).all okC = true
        · rw [if_pos ha] at hin ⊢
          have hin := LrCMat_2b_of hin
          have hin : LrCMat_2 (TrCMat_2a L.length (encM L) i 0) = _ := hin
          rw [hin]
          simp only [bindO_val, Sum.elim_inr]
          rw [w64_in (by omega)]
          rfl
        · rw [if_neg ha] at hin ⊢
          have hin := LrCMat_2a_of hin
          have hin : LrCMat_2 (TrCMat_2a L.length (encM L) i 0) = _ := hin
          rw [hin]
          rfl
      · have e : (((L.getD i []).length : Int) != (L.length : Int)) = true := by rw [bne_iff_ne]; omega
        rw [e, if_neg hl]
        rfl
    by_cases hz : rowE L.length (L.getD i []) = 0
    · rw [if_pos hz] at hs ⊢
      rw [ih] at hs
      generalize matF L.length (L.drop (i + 1)) (i + 1) = x at hs ⊢
      cases x <;> exact RrCMat_0a_of _ _ _ hs
    · rw [if_neg hz] at hs ⊢
      exact RrCMat_0a_of _ _ _ hs
theorem rCMat_is (L : List (List Int)) : FrCMat [.list L.length (encM L)] = some (matV L) := by
  refine FrCMat_of _ _ ?_
  unfold trCMat matV
  by_cases h0 : L.length = 0
  · have : ((L.length : Int) == 0) = true := by simp [h0]
    rw [this, if_pos h0]
    rfl
  · have : ((L.length : Int) == 0) = false := by rw [beq_eq_false_iff_ne]; omega
    rw [this, if_neg h0, cond_false]
    by_cases h6 : 6 < L.length
    · rw [bif_pos (by omega), if_pos h6]
    · rw [bif_neg (by omega), if_neg h6]
      have h := rCMat_loop L (by omega) L.length 0 (by omega)
      rw [List.drop_zero] at h
      have h : RrCMat_0 (TrCMat_0a L.length (encM L) 0) = _ := h
      generalize matF L.length L 0 = x at h ⊢
      cases x with
      | none =>
        rw [LrCMat_0b_of h]
        rfl
      | some y =>
        rw [LrCMat_0a_of h]
        rfl
theorem rMatE_is (L : List (List Int)) : FrMatE [.list L.length (encM L)] = some (matV L).2 := by
  refine FrMatE_of _ _ ?_
  unfold trMatE
  have h : Fn env 30 _ [.list L.length (encM L)] = _ := rCMat_is L
  rw [h]
  rfl
def SmallP (L : List (List Int)) : Prop := L.length ≤ 8 ∧ (∀ r ∈ L, r.length ≤ 8) ∧ ((matV L).2 ≠ 0 ∨ L.length ≤ 5)
theorem small_loop (L : List (List Int)) (hL : L.length ≤ 8) : ∀ (m i : Nat), i + m = L.length →
    Rsmall_0 (Tsmall_0a L.length (encM L) i) = if (L.drop i).all (fun r => decide (r.length ≤ 8)) = true then exO (Xsmall_0b (L.length, encM L)) else exO (Xsmall_0a ())
  | 0, i, h => by
    rw [List.drop_of_length_le (by omega), List.all_nil, if_pos rfl]
    refine Rsmall_0a_of _ _ _ ?_
    unfold Bsmall_0a
    rw [bif_neg (by omega)]
    rfl
  | m + 1, i, h => by
    have ih := small_loop L hL m (i + 1) (by omega)
    have hi : i < L.length := by omega
    rw [drop_getM hi, List.all_cons]
    have hs : Bsmall_0a (Fn env) Rsmall_0 exO Lsmall_0 L.length (encM L) i = if (L.getD i []).length ≤ 8 then Rsmall_0 (Tsmall_0a L.length (encM L) ((i + 1 : Nat) : Int)) else exO (Xsmall_0a ()) := by
      unfold Bsmall_0a
      rw [bif_pos (by omega), bif_pos (by omega)]
      simp only [Int.toNat_natCast, Nat.mul_one, listM_get hi, bindO_val]
      rw [w64_in (by omega)]
      by_cases ho : (L.getD i []).length ≤ 8
      · rw [bif_neg (by omega), if_pos ho]
        rfl
      · rw [bif_pos (by omega), if_neg ho]
    by_cases ho : (L.getD i []).length ≤ 8
    · rw [if_pos ho, ih] at hs
      simp only [ho, decide_true, Bool.true_and]
      split at hs
      · rename_i ha
        rw [if_pos ha]
        exact Rsmall_0a_of _ _ _ hs
      · rename_i ha
        rw [if_neg ha]
        exact Rsmall_0a_of _ _ _ hs
    · rw [if_neg ho] at hs
      rw [if_neg (by simp only [ho, decide_false, Bool.false_and]; simp)]
      exact Rsmall_0a_of _ _ _ hs
instance (L : List (List Int)) : Decidable (SmallP L) := by unfold SmallP; infer_instance
theorem small_is (L : List (List Int)) : Fsmall [.list L.length (encM L)] = some (decide (SmallP L)) := by
  refine Fsmall_of _ _ ?_
  unfold tsmall
  by_cases h8 : L.length ≤ 8
  · rw [bif_neg (by omega)]
    have h := small_loop L h8 L.length 0 (by omega)
    rw [List.drop_zero] at h
    have h : Rsmall_0 (Tsmall_0a L.length (encM L) 0) = _ := h
    by_cases ha : L.all (fun r => decide (r.length ≤ 8)) = true
    · rw [if_pos ha] at h
      rw [Lsmall_0b_of h]
      have hm : Fn env 87 _ [.list L.length (encM L)] = _ := rMatE_is L
      simp only [bindO_val, Sum.elim_inr, hm, bif_ne]
      have hr : ∀ r ∈ L, r.length ≤ 8 := by simpa using ha
      by_cases hz : (matV L).2 = 0
      · rw [if_pos hz]
        by_cases h5 : L.length ≤ 5
        · rw [bif_pos (by omega)]
          exact congrArg some (decide_eq_true ⟨h8, hr, .inr h5⟩).symm
        · rw [bif_neg (by omega)]
          exact congrArg some (decide_eq_false fun h => h.2.2.elim (fun k => k hz) h5).symm
      · rw [if_neg hz]
        exact congrArg some (decide_eq_true ⟨h8, hr, .inl hz⟩).symm
    · rw [if_neg ha] at h
      rw [Lsmall_0a_of h]
      simp only [bindO_val, Sum.elim_inl]
      exact congrArg some (decide_eq_false fun h => ha (by simpa using h.2.1)).symm
  · rw [bif_pos (by omega)]
    exact congrArg some (decide_eq_false fun h => h8 h.1).symm
theorem matF_none {k : Nat} : ∀ {L : List (List Int)} {i : Nat}, matF k L i = none → ∀ r ∈ L, rowE k r = 0
  | [], _, _ => fun r h => by cases h
  | x :: L, i, h => by
    unfold matF at h
    split at h
    · rename_i hz
      intro r hr
      rcases List.mem_cons.1 hr with rfl | hr
      · exact hz
      · exact matF_none h r hr
    · cases h
theorem matF_err {k : Nat} : ∀ {L : List (List Int)} {i : Nat} {y : Int × Int}, matF k L i = some y → y.2 ≠ 0
  | [], _, _, h => by cases h
  | x :: L, i, y, h => by
    unfold matF at h
    split at h
    · exact matF_err h
    · rename_i hz
      simp only [Option.some.injEq] at h
      subst h
      exact hz
theorem matV_ok {L : List (List Int)} (h : (matV L).2 = 0) : matV L = (0, 0) ∧ 0 < L.length ∧ L.length ≤ 6 ∧ ∀ r ∈ L, r.length = L.length ∧ ∀ x ∈ r, 0 ≤ x ∧ x ≤ 10000000 := by
  unfold matV at h ⊢
  split at h
  · cases h
  · rename_i h0
    rw [if_neg h0]
    split at h
    · cases h
    · rename_i h6
      rw [if_neg h6]
      cases hm : matF L.length L 0 with
      | some y =>
        rw [hm] at h
        exact absurd h (matF_err hm)
      | none =>
        refine ⟨rfl, by omega, by omega, fun r hr => ?_⟩
        have := matF_none hm r hr
        unfold rowE at this
        split at this
        · rename_i hl
          split at this
          · rename_i ha
            refine ⟨hl, fun x hx => ?_⟩
            have := List.all_eq_true.1 ha x hx
            simpa [okC] using this
          · cases this
        · cases this
def Zm (L : List (List Int)) (i j : Nat) : Int := (L.getD i []).getD j 0
def sumW (Z : Nat → Nat → Int) (b : List Nat) (i : Nat) (a : Int) : Int := ((List.range b.length).drop i).foldl (fun a i => w64 (a + Z i (b.getD i 0))) a
theorem sumW_step (Z : Nat → Nat → Int) {b : List Nat} {i : Nat} (h : i < b.length) (a : Int) : sumW Z b i a = sumW Z b (i + 1) (w64 (a + Z i (b.getD i 0))) := by
  unfold sumW
  rw [List.drop_eq_getElem_cons (by simpa using h), List.foldl_cons]
  simp
theorem sumW_end (Z : Nat → Nat → Int) (b : List Nat) (a : Int) : sumW Z b b.length a = a := by
  unfold sumW
  rw [List.drop_of_length_le (by simp)]
  rfl
theorem getD_nat {a : List Int} {i : Nat} (h : i < a.length) : (a.map Int.toNat).getD i 0 = (a.getD i 0).toNat := by
  simp [List.getD, List.getElem?_eq_getElem h]
theorem rCost_loop (L : List (List Int)) (hL : L.length ≤ 1000) (hr : ∀ r ∈ L, r.length = L.length) (a : List Int) (ha : a.length ≤ L.length) (hc : ∀ x ∈ a, 0 ≤ x ∧ x < L.length) : ∀ (m i : Nat) (s : Int), i + m = a.length →
    RrCost_0 (TrCost_0a L.length (encM L) a.length (encI a) s i) = exO (XrCost_0a (sumW (Zm L) (a.map Int.toNat) i s))
  | 0, i, s, h => by
    have : i = (a.map Int.toNat).length := by simp; omega
    subst this
    rw [sumW_end]
    refine RrCost_0a_of _ _ _ _ _ _ ?_
    unfold BrCost_0a
    rw [bif_neg (by simp)]
    rfl
  | m + 1, i, s, h => by
    have hi : i < a.length := by omega
    have hL' : i < L.length := by omega
    have hx := hc (a.getD i 0) (by simp [List.getD, List.getElem?_eq_getElem hi])
    have hrl := hr _ (getD_memM hL')
    refine RrCost_0a_of _ _ _ _ _ _ ?_
    unfold BrCost_0a
    rw [bif_pos (by omega), bif_pos (by omega)]
    simp only [Int.toNat_natCast, Nat.mul_one, listM_get hL', bindO_val]
    rw [bif_pos (by omega)]
    simp only [intI_get hi, bindO_val]
    rw [bif_pos (by omega)]
    have hj : (a.getD i 0).toNat < (L.getD i []).length := by omega
    simp only [intI_get hj, bindO_val]
    rw [w64_in (n := (i : Int) + 1) (by omega)]
    have ih := rCost_loop L hL hr a ha hc m (i + 1) (w64 (s + (L.getD i []).getD (a.getD i 0).toNat 0)) (by omega)
    rw [sumW_step _ (by simpa using hi), getD_nat hi]
    exact_mod_cast ih
theorem rCost_is (L : List (List Int)) (hL : L.length ≤ 1000) (hr : ∀ r ∈ L, r.length = L.length) (a : List Int) (ha : a.length ≤ L.length) (hc : ∀ x ∈ a, 0 ≤ x ∧ x < L.length) :
    FrCost [.list L.length (encM L), .list a.length (encI a)] = some (sumW (Zm L) (a.map Int.toNat) 0 0) := by
  refine FrCost_of _ _ _ _ ?_
  unfold trCost
  have h := LrCost_0a_of (rCost_loop L hL hr a ha hc a.length 0 0 (by omega))
  have h : LrCost_0 (TrCost_0a L.length (encM L) a.length (encI a) 0 0) = _ := h
  rw [h]
  rfl
theorem wCost_loop (L : List (List Int)) (hL : L.length ≤ 1000) (hr : ∀ r ∈ L, r.length = L.length) (a : List Int) (ha : a.length ≤ L.length) (hc : ∀ x ∈ a, 0 ≤ x ∧ x < L.length) : ∀ (m i : Nat) (s : Int), i + m = a.length →
    RwCost_0 (TwCost_0a L.length (encM L) s a.length (encI a) a.length i) = exO (XwCost_0a (sumW (Zm L) (a.map Int.toNat) i s))
  | 0, i, s, h => by
    have : i = (a.map Int.toNat).length := by simp; omega
    subst this
    rw [sumW_end]
    refine RwCost_0a_of _ _ _ _ _ _ _ ?_
    unfold BwCost_0a
    rw [bif_neg (by simp)]
    rfl
  | m + 1, i, s, h => by
    have hi : i < a.length := by omega
    have hL' : i < L.length := by omega
    have hx := hc (a.getD i 0) (by simp [List.getD, List.getElem?_eq_getElem hi])
    have hrl := hr _ (getD_memM hL')
    refine RwCost_0a_of _ _ _ _ _ _ _ ?_
    unfold BwCost_0a
    rw [bif_pos (by omega), bif_pos (by omega)]
    simp only [Int.toNat_natCast, Nat.mul_one, intI_get hi, bindO_val]
    rw [bif_pos (by omega)]
    simp only [listM_get hL', bindO_val]
    rw [bif_pos (by omega)]
    have hj : (a.getD i 0).toNat < (L.getD i []).length := by omega
    simp only [intI_get hj, bindO_val]
    rw [w64_in (n := (i : Int) + 1) (by omega)]
    have ih := wCost_loop L hL hr a ha hc m (i + 1) (w64 (s + (L.getD i []).getD (a.getD i 0).toNat 0)) (by omega)
    rw [sumW_step _ (by simpa using hi), getD_nat hi]
    exact_mod_cast ih
theorem wCost_is (L : List (List Int)) (hL : L.length ≤ 1000) (hr : ∀ r ∈ L, r.length = L.length) (a : List Int) (ha : a.length ≤ L.length) (hc : ∀ x ∈ a, 0 ≤ x ∧ x < L.length) :
    FwCost [.list L.length (encM L), .list a.length (encI a)] = some (sumW (Zm L) (a.map Int.toNat) 0 0) := by
  refine FwCost_of _ _ _ _ ?_
  unfold twCost
  have h := LwCost_0a_of (wCost_loop L hL hr a ha hc a.length 0 0 (by omega))
  have h : LwCost_0 (TwCost_0a L.length (encM L) 0 a.length (encI a) a.length 0) = _ := h
  rw [h]
  rfl
end Gv

/- Errors of matrices and of assignments. -/
namespace Gv
open Go
set_option maxRecDepth 100000
theorem cMat_in (r : List Int) (hr : r.length ≤ 1000) : ∀ (m k : Nat), k + m = r.length →
    ∃ j e : Int, RcMat_900000000 (TcMat_900000000a r.length (encI r) r.length k) = (if (r.drop k).all okC = true then exO (XcMat_900000000b ()) else exO (XcMat_900000000a (j, 2))) ∧ e = 0
  | 0, k, h => by
    refine ⟨0, 0, ?_, rfl⟩
    rw [List.drop_of_length_le (by omega), List.all_nil, if_pos rfl]
    refine RcMat_900000000a_of _ _ _ _ ?_
    unfold BcMat_900000000a
    rw [bif_neg (by omega)]
    rfl
  | m + 1, k, h => by
    obtain ⟨j, _, ih, _⟩ := cMat_in r hr m (k + 1) (by omega)
    have hk : k < r.length := by omega
    have hs : BcMat_900000000a (Fn env) RcMat_900000000 exO LcMat_1450000000 LcMat_900000000 r.length (encI r) r.length k = if okC (r.getD k 0) = true then RcMat_900000000 (TcMat_900000000a r.length (encI r) r.length ((k + 1 : Nat) : Int)) else exO (XcMat_900000000a ((k : Int), 2)) := by
      unfold BcMat_900000000a
      have hE := rE_is (r.getD k 0) 0 10000000
      rw [bif_pos (by omega), bif_pos (by omega)]
      simp only [Int.toNat_natCast, Nat.mul_one, intI_get hk, bindO_val, hE, bif_ne]
      rw [w64_in (by omega), rangeE_if]
      unfold okC
      by_cases ho : 0 ≤ r.getD k 0 ∧ r.getD k 0 ≤ 10000000
      · rw [if_pos ho, if_pos rfl, if_pos (by simpa using ho)]
        rfl
      · rw [if_neg ho, if_neg (by decide), if_neg (by simpa using ho)]
    rw [drop_getD hk, List.all_cons]
    by_cases ho : okC (r.getD k 0) = true
    · rw [if_pos ho, ih] at hs
      refine ⟨j, 0, ?_, rfl⟩
      simp only [ho, Bool.true_and]
      by_cases ha : (r.drop (k + 1)).all okC = true
      · rw [if_pos ha] at hs ⊢
        exact RcMat_900000000a_of _ _ _ _ hs
      · rw [if_neg ha] at hs ⊢
        exact RcMat_900000000a_of _ _ _ _ hs
    · rw [if_neg ho] at hs
      refine ⟨k, 0, ?_, rfl⟩
      rw [(Bool.not_eq_true _).mp ho, Bool.false_and, if_neg (by decide)]
      exact RcMat_900000000a_of _ _ _ _ hs
theorem cMat_loop (L : List (List Int)) (hL : L.length ≤ 1000) (hr : ∀ r ∈ L, r.length ≤ 1000) : ∀ (m i : Nat), i + m = L.length →
    RcMat_1450000000 (TcMat_1450000000a L.length (encM L) L.length (encM L) L.length i) = match matF L.length (L.drop i) i with
      | some y => exO (XcMat_1450000000b y)
      | none => exO (XcMat_1450000000a ())
  | 0, i, h => by
    rw [List.drop_of_length_le (by omega)]
    refine RcMat_1450000000a_of _ _ _ _ _ _ ?_
    unfold BcMat_1450000000a
    rw [bif_neg (by omega)]
    rfl
  | m + 1, i, h => by
    have ih := cMat_loop L hL hr m (i + 1) (by omega)
    have hi : i < L.length := by omega
    rw [drop_getM hi]
    unfold matF
    have hs : BcMat_1450000000a (Fn env) RcMat_1450000000 exO LcMat_1450000000 LcMat_900000000 L.length (encM L) L.length (encM L) L.length i = if rowE L.length (L.getD i []) = 0 then RcMat_1450000000 (TcMat_1450000000a L.length (encM L) L.length (encM L) L.length ((i + 1 : Nat) : Int)) else exO (XcMat_1450000000b ((i : Int), rowE L.length (L.getD i []))) := by
      obtain ⟨j, _, hin, _⟩ := cMat_in (L.getD i []) (hr _ (getD_memM hi)) _ 0 (Nat.zero_add _)
      rw [List.drop_zero] at hin
      unfold BcMat_1450000000a rowE
      rw [bif_pos (by omega), bif_pos (by omega)]
      simp only [Int.toNat_natCast, Nat.mul_one, listM_get hi, bindO_val, eIf_is, fE2_is, bif_ne]
      rw [w64_in (by omega)]
      by_cases ha : (L.getD i []).all okC = true
      · rw [if_pos ha] at hin ⊢
        have hin := LcMat_900000000b_of hin
        have hin : LcMat_900000000 (TcMat_900000000a (L.getD i []).length (encI (L.getD i [])) (L.getD i []).length 0) = _ := hin
        rw [hin]
        simp only [bindO_val, Sum.elim_inr]
        by_cases hl : (L.getD i []).length = L.length
        · rw [if_pos (by omega), if_pos hl]
          simp only [both]
          rfl
        · rw [if_neg (by omega), if_neg hl]
          simp only [both]
          rfl
      · rw [if_neg ha] at hin ⊢
        have hin := LcMat_900000000a_of hin
        have hin : LcMat_900000000 (TcMat_900000000a (L.getD i []).length (encI (L.getD i [])) (L.getD i []).length 0) = _ := hin
        rw [hin]
        simp only [bindO_val, Sum.elim_inl]
        by_cases hl : (L.getD i []).length = L.length
        · rw [if_pos (by omega), if_pos hl]
          simp only [both]
          rfl
        · rw [if_neg (by omega), if_neg hl]
          simp only [both]
          rfl
    by_cases hz : rowE L.length (L.getD i []) = 0
    · rw [if_pos hz] at hs ⊢
      rw [ih] at hs
      generalize matF L.length (L.drop (i + 1)) (i + 1) = x at hs ⊢
      cases x <;> exact RcMat_1450000000a_of _ _ _ _ _ _ hs
    · rw [if_neg hz] at hs ⊢
      exact RcMat_1450000000a_of _ _ _ _ _ _ hs
theorem cMat_is (L : List (List Int)) (hr : ∀ r ∈ L, r.length ≤ 1000) : FcMat [.list L.length (encM L)] = some (matV L) := by
  refine FcMat_of _ _ ?_
  unfold tcMat matV
  by_cases h0 : L.length = 0
  · have : ((L.length : Int) == 0) = true := by simp [h0]
    rw [this, if_pos h0]
    rfl
  · have : ((L.length : Int) == 0) = false := by rw [beq_eq_false_iff_ne]; omega
    rw [this, if_neg h0, cond_false]
    by_cases h6 : 6 < L.length
    · rw [bif_pos (by omega), if_pos h6]
    · rw [bif_neg (by omega), if_neg h6]
      have h := cMat_loop L (by omega) hr L.length 0 (by omega)
      rw [List.drop_zero] at h
      have h : RcMat_1450000000 (TcMat_1450000000a L.length (encM L) L.length (encM L) L.length 0) = _ := h
      generalize matF L.length L 0 = x at h ⊢
      cases x with
      | none =>
        rw [LcMat_1450000000a_of h]
        rfl
      | some y =>
        rw [LcMat_1450000000b_of h]
        rfl
theorem matE_is (L : List (List Int)) (hr : ∀ r ∈ L, r.length ≤ 1000) : FmatE [.list L.length (encM L)] = some (matV L).2 := by
  refine FmatE_of _ _ ?_
  unfold tmatE
  have h : Fn env 26 _ [.list L.length (encM L)] = _ := cMat_is L hr
  rw [h]
  rfl
theorem bHas_loop (r : List Int) (hr : r.length ≤ 1000) (x : Int) : ∀ (m k : Nat), k + m = r.length →
    RbHas_0 (TbHas_0a r.length (encI r) x k) = if (r.drop k).contains x = true then exO (XbHas_0a ()) else exO (XbHas_0b ())
  | 0, k, h => by
    rw [List.drop_of_length_le (by omega), if_neg (by simp)]
    refine RbHas_0a_of _ _ _ _ ?_
    unfold BbHas_0a
    rw [bif_neg (by omega)]
    rfl
  | m + 1, k, h => by
    have ih := bHas_loop r hr x m (k + 1) (by omega)
    have hk : k < r.length := by omega
    have hs : BbHas_0a (Fn env) RbHas_0 exO LbHas_0 r.length (encI r) x k = if x = r.getD k 0 then exO (XbHas_0a ()) else RbHas_0 (TbHas_0a r.length (encI r) x ((k + 1 : Nat) : Int)) := by
      unfold BbHas_0a
      rw [bif_pos (by omega), bif_pos (by omega)]
      simp only [Int.toNat_natCast, Nat.mul_one, intI_get hk, bindO_val]
      rw [w64_in (by omega)]
      by_cases he : x = r.getD k 0
      · rw [if_pos he, ← he]
        simp
      · have e : (r.getD k 0 == x) = false := by rw [beq_eq_false_iff_ne]; exact fun h => he h.symm
        rw [if_neg he, e]
        rfl
    rw [drop_getD hk, List.contains_cons]
    by_cases he : x = r.getD k 0
    · rw [if_pos he] at hs
      rw [if_pos (by rw [Bool.or_eq_true]; exact .inl (by rw [beq_iff_eq]; exact he))]
      exact RbHas_0a_of _ _ _ _ hs
    · rw [if_neg he, ih] at hs
      have e : (x == r.getD k 0) = false := by rw [beq_eq_false_iff_ne]; exact he
      rw [e, Bool.false_or]
      split at hs
      · rename_i ha
        rw [if_pos ha]
        exact RbHas_0a_of _ _ _ _ hs
      · rename_i ha
        rw [if_neg ha]
        exact RbHas_0a_of _ _ _ _ hs
theorem bHas_is (r : List Int) (hr : r.length ≤ 1000) (x : Int) : FbHas [.list r.length (encI r), .int .i64 x] = some (r.contains x) := by
  refine FbHas_of _ _ _ ?_
  unfold tbHas
  have h := bHas_loop r hr x r.length 0 (by omega)
  rw [List.drop_zero] at h
  have h : RbHas_0 (TbHas_0a r.length (encI r) x 0) = _ := h
  split at h
  · rename_i ha
    rw [LbHas_0a_of h, ha]
    rfl
  · rename_i ha
    rw [LbHas_0b_of h, (Bool.not_eq_true _).mp ha]
    rfl
theorem sCon_loop (r : List Int) (hr : r.length ≤ 1000) (x : Int) : ∀ (m k : Nat), k + m = r.length →
    ∃ j : Nat, RsCon_1520000000 (TsCon_1520000000a r.length (encI r) x r.length k) = if (r.drop k).contains x = true then exO (XsCon_1520000000a (j : Int)) else exO (XsCon_1520000000b ())
  | 0, k, h => by
    refine ⟨0, ?_⟩
    rw [List.drop_of_length_le (by omega), if_neg (by simp)]
    refine RsCon_1520000000a_of _ _ _ _ _ ?_
    unfold BsCon_1520000000a
    rw [bif_neg (by omega)]
    rfl
  | m + 1, k, h => by
    obtain ⟨j, ih⟩ := sCon_loop r hr x m (k + 1) (by omega)
    have hk : k < r.length := by omega
    have hs : BsCon_1520000000a (Fn env) RsCon_1520000000 exO LsCon_1520000000 r.length (encI r) x r.length k = if x = r.getD k 0 then exO (XsCon_1520000000a (k : Int)) else RsCon_1520000000 (TsCon_1520000000a r.length (encI r) x r.length ((k + 1 : Nat) : Int)) := by
      unfold BsCon_1520000000a
      rw [bif_pos (by omega), bif_pos (by omega)]
      simp only [Int.toNat_natCast, Nat.mul_one, intI_get hk, bindO_val]
      rw [w64_in (by omega)]
      by_cases he : x = r.getD k 0
      · rw [if_pos he, ← he]
        simp
      · have e : (x == r.getD k 0) = false := by rw [beq_eq_false_iff_ne]; exact he
        rw [if_neg he, e]
        rfl
    rw [drop_getD hk, List.contains_cons]
    by_cases he : x = r.getD k 0
    · rw [if_pos he] at hs
      refine ⟨k, ?_⟩
      rw [if_pos (by rw [Bool.or_eq_true]; exact .inl (by rw [beq_iff_eq]; exact he))]
      exact RsCon_1520000000a_of _ _ _ _ _ hs
    · rw [if_neg he, ih] at hs
      refine ⟨j, ?_⟩
      have e : (x == r.getD k 0) = false := by rw [beq_eq_false_iff_ne]; exact he
      rw [e, Bool.false_or]
      split at hs
      · rename_i ha
        rw [if_pos ha]
        exact RsCon_1520000000a_of _ _ _ _ _ hs
      · rename_i ha
        rw [if_neg ha]
        exact RsCon_1520000000a_of _ _ _ _ _ hs
theorem sCon_is (r : List Int) (hr : r.length ≤ 1000) (x : Int) : FsCon [.list r.length (encI r), .int .i64 x] = some (r.contains x) := by
  refine FsCon_of _ _ _ ?_
  unfold tsCon
  obtain ⟨j, h⟩ := sCon_loop r hr x r.length 0 (by omega)
  rw [List.drop_zero] at h
  have h : RsCon_1520000000 (TsCon_1520000000a r.length (encI r) x r.length 0) = _ := h
  split at h
  · rename_i ha
    rw [LsCon_1520000000a_of h, ha]
    simp only [bindO_val, Sum.elim_inl]
    rw [bif_pos (by omega)]
  · rename_i ha
    rw [LsCon_1520000000b_of h, (Bool.not_eq_true _).mp ha]
    rfl
def sumI (r : List Int) (i : Nat) (a : Int) : Int := (r.drop i).foldl (fun a x => w64 (a + x)) a
theorem sumO_loop (r : List Int) (hr : r.length ≤ 1000) : ∀ (m i : Nat) (s : Int), i + m = r.length →
    RsumO_0 (TsumO_0a s r.length (encI r) r.length i) = exO (XsumO_0a (sumI r i s))
  | 0, i, s, h => by
    refine RsumO_0a_of _ _ _ _ _ ?_
    unfold BsumO_0a sumI
    rw [bif_neg (by omega), List.drop_of_length_le (by omega)]
    rfl
  | m + 1, i, s, h => by
    have hi : i < r.length := by omega
    have ih := sumO_loop r hr m (i + 1) (w64 (s + r.getD i 0)) (by omega)
    refine RsumO_0a_of _ _ _ _ _ ?_
    unfold BsumO_0a
    rw [bif_pos (by omega), bif_pos (by omega)]
    simp only [Int.toNat_natCast, Nat.mul_one, intI_get hi, bindO_val]
    rw [w64_in (n := (i : Int) + 1) (by omega)]
    have e : sumI r i s = sumI r (i + 1) (w64 (s + r.getD i 0)) := by unfold sumI; rw [drop_getD hi, List.foldl_cons]
    rw [e]
    exact_mod_cast ih
theorem sumO_is (r : List Int) (hr : r.length ≤ 1000) : FsumO [.list r.length (encI r)] = some (sumI r 0 0) := by
  refine FsumO_of _ _ ?_
  unfold tsumO
  have h := LsumO_0a_of (sumO_loop r hr r.length 0 0 (by omega))
  have h : LsumO_0 (TsumO_0a 0 r.length (encI r) r.length 0) = _ := h
  rw [h]
  rfl
end Gv

/- An assignment with potentials, as the reference checks it. -/
namespace Gv
open Go
set_option maxRecDepth 100000
def errF (f : Nat → Int) : Nat → Nat → Option (Int × Int)
  | 0, _ => none
  | m + 1, i => if f i = 0 then errF f m (i + 1) else some ((i : Int), f i)
theorem errF_none {f : Nat → Int} : ∀ {m i : Nat}, errF f m i = none → ∀ j, i ≤ j → j < i + m → f j = 0
  | 0, _, _ => fun j h1 h2 => by omega
  | m + 1, i, h => by
    unfold errF at h
    split at h
    · rename_i hz
      intro j h1 h2
      by_cases e : j = i
      · subst e; exact hz
      · exact errF_none h j (by omega) (by omega)
    · cases h
def colV (n : Nat) (a : List Int) (i : Nat) : Int := if 0 ≤ a.getD i 0 ∧ a.getD i 0 ≤ (n : Int) - 1 then (if (a.take i).contains (a.getD i 0) = true then 21 else 0) else 6
def potV (R C : List Int) (i : Nat) : Int := both (rangeE (R.getD i 0) (-60000000) 60000000) (rangeE (C.getD i 0) (-60000000) 60000000)
def excF (L : List (List Int)) (R C : List Int) (i : Nat) : Nat → Nat → Bool
  | 0, _ => false
  | m + 1, k => decide (Zm L i k < w64 (R.getD i 0 + C.getD k 0)) || excF L R C i m (k + 1)
def excV (L : List (List Int)) (R C : List Int) (i : Nat) : Int := if excF L R C i L.length 0 = true then 17 else 0
def sumRC : List Int → List Int → Int → Int
  | x :: R, y :: C, s => sumRC R C (w64 (w64 (s + x) + y))
  | _, _, s => s
def casV (L : List (List Int)) (a R C : List Int) : Int × Int :=
  if a.length = L.length ∧ R.length = L.length ∧ C.length = L.length then
    match errF (colV L.length a) L.length 0 with
    | some y => y
    | none => match errF (potV R C) L.length 0 with
      | some y => y
      | none => match errF (excV L R C) L.length 0 with
        | some y => y
        | none => if sumRC R C 0 = sumW (Zm L) (a.map Int.toNat) 0 0 then (0, 0) else (0, 13)
  else (0, 10)
section
variable (L : List (List Int)) (hL : L.length ≤ 1000) (a R C : List Int) (ha : a.length = L.length) (hR : R.length = L.length) (hC : C.length = L.length)
include hL ha hR hC
theorem rCAsg_0 : ∀ (m i : Nat), i + m = L.length →
    RrCAsg_0 (TrCAsg_0a L.length (encM L) i a.length (encI a) R.length (encI R) C.length (encI C)) = match errF (colV L.length a) m i with
      | some y => exO (XrCAsg_0a y)
      | none => exO (XrCAsg_0b (L.length, encM L, a.length, encI a, R.length, encI R, C.length, encI C))
  | 0, i, h => by
    refine RrCAsg_0a_of _ _ _ _ _ _ _ _ _ ?_
    unfold BrCAsg_0a
    rw [bif_neg (by omega)]
    rfl
  | m + 1, i, h => by
    have ih := rCAsg_0 m (i + 1) (by omega)
    have hi : i < a.length := by omega
    unfold errF
    have hs : BrCAsg_0a (Fn env) RrCAsg_0 exO LrCAsg_0 LrCAsg_2 LrCAsg_4 LrCAsg_6 L.length (encM L) i a.length (encI a) R.length (encI R) C.length (encI C) = if colV L.length a i = 0 then RrCAsg_0 (TrCAsg_0a L.length (encM L) ((i + 1 : Nat) : Int) a.length (encI a) R.length (encI R) C.length (encI C)) else exO (XrCAsg_0a ((i : Int), colV L.length a i)) := by
      unfold BrCAsg_0a colV
      have hH := bHas_is (a.take i) (by rw [List.length_take]; omega) (a.getD i 0)
      have ew : w64 ((L.length : Int) - 1) = (L.length : Int) - 1 := w64_in (by omega)
      have et : (encI a).take i = encI (a.take i) := by unfold encI; rw [List.map_take]
      have el : (a.take i).length = i := by rw [List.length_take]; omega
      rw [el] at hH
      rw [bif_pos (by omega), bif_pos (by omega)]
      simp only [Int.toNat_natCast, Nat.mul_one, intI_get hi, bindO_val, bWi_is, ew]
      by_cases hr : 0 ≤ a.getD i 0 ∧ a.getD i 0 ≤ (L.length : Int) - 1
      · rw [bif_pos hr, if_pos hr, bif_pos (by omega), bif_pos (by rw [encI_len]; omega), bif_pos (by omega)]
        simp only [Nat.sub_zero, List.drop_zero, et, hH, bindO_val]
        rw [w64_in (by omega)]
        cases hc : (a.take i).contains (a.getD i 0) with
        | true => rfl
        | false => rfl
      · rw [bif_neg hr, if_neg hr]
        rfl
    by_cases hz : colV L.length a i = 0
    · rw [if_pos hz] at hs ⊢
      rw [ih] at hs
      generalize errF (colV L.length a) m (i + 1) = x at hs ⊢
      cases x <;> exact RrCAsg_0a_of _ _ _ _ _ _ _ _ _ hs
    · rw [if_neg hz] at hs ⊢
      exact RrCAsg_0a_of _ _ _ _ _ _ _ _ _ hs
theorem rCAsg_2 : ∀ (m i : Nat), i + m = L.length →
    RrCAsg_2 (TrCAsg_2a L.length (encM L) i a.length (encI a) R.length (encI R) C.length (encI C)) = match errF (potV R C) m i with
      | some y => exO (XrCAsg_2a y.1)
      | none => exO (XrCAsg_2b (L.length, encM L, a.length, encI a, R.length, encI R, C.length, encI C))
  | 0, i, h => by
    refine RrCAsg_2a_of _ _ _ _ _ _ _ _ _ ?_
    unfold BrCAsg_2a
    rw [bif_neg (by omega)]
    rfl
  | m + 1, i, h => by
    have ih := rCAsg_2 m (i + 1) (by omega)
    have hi : i < R.length := by omega
    have hi2 : i < C.length := by omega
    unfold errF
    have hs : BrCAsg_2a (Fn env) RrCAsg_2 exO LrCAsg_0 LrCAsg_2 LrCAsg_4 LrCAsg_6 L.length (encM L) i a.length (encI a) R.length (encI R) C.length (encI C) = if potV R C i = 0 then RrCAsg_2 (TrCAsg_2a L.length (encM L) ((i + 1 : Nat) : Int) a.length (encI a) R.length (encI R) C.length (encI C)) else exO (XrCAsg_2a (i : Int)) := by
      unfold BrCAsg_2a potV
      rw [bif_pos (by omega), bif_pos (by omega)]
      simp only [Int.toNat_natCast, Nat.mul_one, intI_get hi, bindO_val, bWi_is, rangeE_if, both]
      by_cases h1 : -60000000 ≤ R.getD i 0 ∧ R.getD i 0 ≤ 60000000
      · rw [bif_pos h1, if_pos h1, bif_pos (by omega)]
        simp only [intI_get hi2, bindO_val]
        rw [w64_in (by omega)]
        by_cases h2 : -60000000 ≤ C.getD i 0 ∧ C.getD i 0 ≤ 60000000
        · rw [bif_pos h2, if_pos h2]
          rfl
        · rw [bif_neg h2, if_neg h2]
          rfl
      · rw [bif_neg h1, if_neg h1]
        rfl
    by_cases hz : potV R C i = 0
    · rw [if_pos hz] at hs ⊢
      rw [ih] at hs
      generalize errF (potV R C) m (i + 1) = x at hs ⊢
      cases x <;> exact RrCAsg_2a_of _ _ _ _ _ _ _ _ _ hs
    · rw [if_neg hz] at hs ⊢
      exact RrCAsg_2a_of _ _ _ _ _ _ _ _ _ hs
theorem rCAsg_6 (hr : ∀ r ∈ L, r.length = L.length) (s : Int) (i : Nat) (hi : i < L.length) : ∀ (m k : Nat), k + m = L.length →
    RrCAsg_6 (TrCAsg_6a L.length (encM L) s i k a.length (encI a) R.length (encI R) C.length (encI C)) = if excF L R C i m k = true then exO (XrCAsg_6a (i : Int)) else exO (XrCAsg_6b (L.length, encM L, s, (i : Int), a.length, encI a, R.length, encI R, C.length, encI C))
  | 0, k, h => by
    refine RrCAsg_6a_of _ _ _ _ _ _ _ _ _ _ _ ?_
    unfold BrCAsg_6a
    rw [bif_neg (by omega)]
    rfl
  | m + 1, k, h => by
    have ih := rCAsg_6 hr s i hi m (k + 1) (by omega)
    have hi1 : i < R.length := by omega
    have hk2 : k < C.length := by omega
    have hk : k < (L.getD i []).length := by rw [hr _ (getD_memM hi)]; omega
    unfold excF
    have hs : BrCAsg_6a (Fn env) RrCAsg_6 exO LrCAsg_0 LrCAsg_2 LrCAsg_4 LrCAsg_6 L.length (encM L) s i k a.length (encI a) R.length (encI R) C.length (encI C) = if Zm L i k < w64 (R.getD i 0 + C.getD k 0) then exO (XrCAsg_6a (i : Int)) else RrCAsg_6 (TrCAsg_6a L.length (encM L) s i ((k + 1 : Nat) : Int) a.length (encI a) R.length (encI R) C.length (encI C)) := by
      unfold BrCAsg_6a Zm
      rw [bif_pos (by omega), bif_pos (by omega)]
      simp only [Int.toNat_natCast, Nat.mul_one, listM_get hi, bindO_val]
      rw [bif_pos (by omega)]
      simp only [intI_get hk, bindO_val]
      rw [bif_pos (by omega)]
      simp only [intI_get hi1, bindO_val]
      rw [bif_pos (by omega)]
      simp only [intI_get hk2, bindO_val]
      rw [w64_in (n := (k : Int) + 1) (by omega)]
      rw [bif_dec]
      rfl
    by_cases hz : Zm L i k < w64 (R.getD i 0 + C.getD k 0)
    · rw [if_pos hz] at hs
      simp only [hz, decide_true, Bool.true_or, if_true]
      exact RrCAsg_6a_of _ _ _ _ _ _ _ _ _ _ _ hs
    · rw [if_neg hz, ih] at hs
      simp only [hz, decide_false, Bool.false_or]
      split at hs
      · rename_i he
        rw [if_pos he]
        exact RrCAsg_6a_of _ _ _ _ _ _ _ _ _ _ _ hs
      · rename_i he
        rw [if_neg he]
        exact RrCAsg_6a_of _ _ _ _ _ _ _ _ _ _ _ hs
theorem rCAsg_4 (hr : ∀ r ∈ L, r.length = L.length) : ∀ (m i : Nat) (s : Int), i + m = L.length →
    RrCAsg_4 (TrCAsg_4a L.length (encM L) s i a.length (encI a) R.length (encI R) C.length (encI C)) = match errF (excV L R C) m i with
      | some y => exO (XrCAsg_4b y.1)
      | none => exO (XrCAsg_4a (L.length, encM L, sumRC (R.drop i) (C.drop i) s, a.length, encI a, R.length, encI R, C.length, encI C))
  | 0, i, s, h => by
    refine RrCAsg_4a_of _ _ _ _ _ _ _ _ _ _ ?_
    unfold BrCAsg_4a
    rw [bif_neg (by omega), List.drop_of_length_le (by omega)]
    rfl
  | m + 1, i, s, h => by
    have hi : i < L.length := by omega
    have hi1 : i < R.length := by omega
    have hi2 : i < C.length := by omega
    have ih := rCAsg_4 hr m (i + 1) (w64 (w64 (s + R.getD i 0) + C.getD i 0)) (by omega)
    unfold errF
    have e : sumRC (R.drop i) (C.drop i) s = sumRC (R.drop (i + 1)) (C.drop (i + 1)) (w64 (w64 (s + R.getD i 0) + C.getD i 0)) := by rw [drop_getD hi1, drop_getD hi2]; rfl
    have hs : BrCAsg_4a (Fn env) RrCAsg_4 exO LrCAsg_0 LrCAsg_2 LrCAsg_4 LrCAsg_6 L.length (encM L) s i a.length (encI a) R.length (encI R) C.length (encI C) = if excV L R C i = 0 then RrCAsg_4 (TrCAsg_4a L.length (encM L) (w64 (w64 (s + R.getD i 0) + C.getD i 0)) ((i + 1 : Nat) : Int) a.length (encI a) R.length (encI R) C.length (encI C)) else exO (XrCAsg_4b (i : Int)) := by
      unfold BrCAsg_4a excV
      have h6 := rCAsg_6 L hL a R C ha hR hC hr s i hi L.length 0 (by omega)
      have h6 : RrCAsg_6 (TrCAsg_6a L.length (encM L) s i 0 a.length (encI a) R.length (encI R) C.length (encI C)) = _ := h6
      rw [bif_pos (by omega)]
      by_cases he : excF L R C i L.length 0 = true
      · rw [if_pos he] at h6 ⊢
        rw [LrCAsg_6a_of h6]
        rfl
      · rw [if_neg he] at h6 ⊢
        rw [LrCAsg_6b_of h6]
        simp only [bindO_val, Sum.elim_inr]
        rw [bif_pos (by omega)]
        simp only [Int.toNat_natCast, Nat.mul_one, intI_get hi1, bindO_val]
        rw [bif_pos (by omega)]
        simp only [intI_get hi2, bindO_val]
        rw [w64_in (n := (i : Int) + 1) (by omega)]
        rfl
    by_cases hz : excV L R C i = 0
    · rw [if_pos hz] at hs ⊢
      rw [ih] at hs
      rw [e]
      generalize errF (excV L R C) m (i + 1) = x at hs ⊢
      cases x <;> exact RrCAsg_4a_of _ _ _ _ _ _ _ _ _ _ hs
    · rw [if_neg hz] at hs ⊢
      exact RrCAsg_4a_of _ _ _ _ _ _ _ _ _ _ hs
end
theorem colV_zero {n : Nat} {a : List Int} {i : Nat} (h : colV n a i = 0) : 0 ≤ a.getD i 0 ∧ a.getD i 0 < n := by
  unfold colV at h
  split at h
  · omega
  · cases h
theorem cols_ok {n : Nat} {a : List Int} (ha : a.length = n) (h : errF (colV n a) n 0 = none) : ∀ x ∈ a, 0 ≤ x ∧ x < n := by
  intro x hx
  obtain ⟨i, hi, rfl⟩ := List.getElem_of_mem hx
  have := colV_zero (errF_none h i (by omega) (by omega))
  simpa [List.getD, List.getElem?_eq_getElem hi] using this
theorem errF_two {f : Nat → Int} {x : Int} (hf : ∀ i, f i = 0 ∨ f i = x) : ∀ {m i : Nat} {y : Int × Int}, errF f m i = some y → y.2 = x
  | 0, _, _, h => by cases h
  | m + 1, i, y, h => by
    unfold errF at h
    split at h
    · exact errF_two hf h
    · rename_i hz
      simp only [Option.some.injEq] at h
      subst h
      exact (hf i).resolve_left hz
theorem potV_two (R C : List Int) (i : Nat) : potV R C i = 0 ∨ potV R C i = 2 := by
  unfold potV both
  rw [rangeE_if, rangeE_if]
  repeat' split
  all_goals simp_all
theorem excV_two (L : List (List Int)) (R C : List Int) (i : Nat) : excV L R C i = 0 ∨ excV L R C i = 17 := by
  unfold excV
  split <;> simp
theorem rCAsg_is (L : List (List Int)) (hL : L.length ≤ 1000) (hr : ∀ r ∈ L, r.length = L.length) (a R C : List Int) :
    FrCAsg [.list L.length (encM L), .agg [.list a.length (encI a), .list R.length (encI R), .list C.length (encI C)]] = some (casV L a R C) := by
  refine FrCAsg_of _ _ _ _ _ _ _ _ ?_
  unfold trCAsg casV
  simp only [bif_ne]
  by_cases ha : a.length = L.length
  · by_cases hR : R.length = L.length
    · by_cases hC : C.length = L.length
      · rw [if_pos (by omega), if_pos (by omega), if_pos (by omega), if_pos ⟨ha, hR, hC⟩]
        have h0 := rCAsg_0 L hL a R C ha hR hC L.length 0 (by omega)
        have h0 : RrCAsg_0 (TrCAsg_0a L.length (encM L) 0 a.length (encI a) R.length (encI R) C.length (encI C)) = _ := h0
        cases c0 : errF (colV L.length a) L.length 0 with
        | some y =>
          rw [c0] at h0
          rw [LrCAsg_0a_of h0]
          rfl
        | none =>
          rw [c0] at h0
          rw [LrCAsg_0b_of h0]
          simp only [bindO_val, Sum.elim_inr]
          have h2 := rCAsg_2 L hL a R C ha hR hC L.length 0 (by omega)
          have h2 : RrCAsg_2 (TrCAsg_2a L.length (encM L) 0 a.length (encI a) R.length (encI R) C.length (encI C)) = _ := h2
          cases c2 : errF (potV R C) L.length 0 with
          | some y =>
            rw [c2] at h2
            rw [LrCAsg_2a_of h2]
            have := errF_two (potV_two R C) c2
            simp only [bindO_val, Sum.elim_inl]
            rw [← this]
          | none =>
            rw [c2] at h2
            rw [LrCAsg_2b_of h2]
            simp only [bindO_val, Sum.elim_inr]
            have h4 := rCAsg_4 L hL a R C ha hR hC hr L.length 0 0 (by omega)
            have h4 : RrCAsg_4 (TrCAsg_4a L.length (encM L) 0 0 a.length (encI a) R.length (encI R) C.length (encI C)) = _ := h4
            cases c4 : errF (excV L R C) L.length 0 with
            | some y =>
              rw [c4] at h4
              rw [LrCAsg_4b_of h4]
              have := errF_two (excV_two L R C) c4
              simp only [bindO_val, Sum.elim_inr]
              rw [← this]
            | none =>
              rw [c4] at h4
              rw [LrCAsg_4a_of h4]
              have hc : Fn env 100 _ [.list L.length (encM L), .list a.length (encI a)] = _ := rCost_is L hL hr a (by omega) (cols_ok ha c0)
              simp only [bindO_val, Sum.elim_inl, hc, List.drop_zero, bif_ne]
              split <;> rfl
      · rw [if_pos (by omega), if_pos (by omega), if_neg (by omega), if_neg (fun h => hC h.2.2)]
    · rw [if_pos (by omega), if_neg (by omega), if_neg (fun h => hR h.2.1)]
  · rw [if_neg (by omega), if_neg (fun h => ha h.1)]
end Gv

/- The parts of the program's check of an assignment. -/
namespace Gv
open Go
set_option maxRecDepth 100000
theorem colE_is (a : List Int) (ha : a.length ≤ 1000) (i : Nat) (hi : i < a.length) : FcolE [.list a.length (encI a), .int .i64 (i : Int)] = some (colV a.length a i) := by
  refine FcolE_of _ _ _ ?_
  unfold tcolE
  have hH := sCon_is (a.take i) (by rw [List.length_take]; omega) (a.getD i 0)
  have et : (encI a).take i = encI (a.take i) := by unfold encI; rw [List.map_take]
  have el : (a.take i).length = i := by rw [List.length_take]; omega
  rw [el] at hH
  rw [bif_pos (by omega)]
  simp only [Int.toNat_natCast, Nat.mul_one, intI_get hi, bindO_val, eIf_is]
  by_cases h1 : a.getD i 0 < 0
  · have hv : colV a.length a i = 6 := by unfold colV; rw [if_neg (by omega)]
    rw [hv, bif_pos h1, bif_pos (by omega), bif_pos (by rw [encI_len]; omega)]
    simp only [Nat.sub_zero, List.drop_zero, et, hH, bindO_val, fE2_is, both]
    cases (a.take i).contains (a.getD i 0) <;> rfl
  · rw [bif_neg h1]
    by_cases h2 : a.getD i 0 ≥ (a.length : Int)
    · have hv : colV a.length a i = 6 := by unfold colV; rw [if_neg (by omega)]
      rw [hv, bif_pos h2, bif_pos (by omega), bif_pos (by rw [encI_len]; omega)]
      simp only [Nat.sub_zero, List.drop_zero, et, hH, bindO_val, fE2_is, both]
      cases (a.take i).contains (a.getD i 0) <;> rfl
    · have hv : colV a.length a i = if (a.take i).contains (a.getD i 0) = true then 21 else 0 := by unfold colV; rw [if_pos (by omega)]
      rw [hv, bif_neg h2, bif_pos (by omega), bif_pos (by rw [encI_len]; omega)]
      simp only [Nat.sub_zero, List.drop_zero, et, hH, bindO_val, fE2_is, both]
      cases (a.take i).contains (a.getD i 0) <;> rfl
def encP (a R C : List Int) : PV := .agg [.list a.length (encI a), .list R.length (encI R), .list C.length (encI C)]
theorem potE_is (a R C : List Int) (i : Nat) (h1 : i < R.length) (h2 : i < C.length) : FpotE [encP a R C, .int .i64 (i : Int)] = some (potV R C i) := by
  refine FpotE_of _ _ _ _ _ _ _ ?_
  unfold tpotE potV
  rw [bif_pos (by omega)]
  simp only [Int.toNat_natCast, Nat.mul_one, intI_get h1, bindO_val, rE_is]
  rw [bif_pos (by omega)]
  simp only [intI_get h2, bindO_val, rE_is, fE2_is]
theorem isEx_loop (L : List (List Int)) (a R C : List Int) (hL : L.length ≤ 1000) (hR : R.length = L.length) (hC : C.length = L.length) (i : Nat) (hi : i < L.length) (hr : (L.getD i []).length = L.length) : ∀ (m k : Nat), k + m = L.length →
    RisEx_0 (TisEx_0a i (L.getD i []).length (encI (L.getD i [])) (L.getD i []).length k a.length (encI a) R.length (encI R) C.length (encI C)) = if excF L R C i m k = true then exO (XisEx_0a ()) else exO (XisEx_0b (a.length, encI a, R.length, encI R, C.length, encI C))
  | 0, k, h => by
    refine RisEx_0a_of _ _ _ _ _ _ _ _ _ _ _ ?_
    unfold BisEx_0a
    rw [bif_neg (by omega)]
    rfl
  | m + 1, k, h => by
    have ih := isEx_loop L a R C hL hR hC i hi hr m (k + 1) (by omega)
    have hi1 : i < R.length := by omega
    have hk2 : k < C.length := by omega
    have hk : k < (L.getD i []).length := by omega
    unfold excF
    have hs : BisEx_0a (Fn env) RisEx_0 exO LisEx_0 i (L.getD i []).length (encI (L.getD i [])) (L.getD i []).length k a.length (encI a) R.length (encI R) C.length (encI C) = if Zm L i k < w64 (R.getD i 0 + C.getD k 0) then exO (XisEx_0a ()) else RisEx_0 (TisEx_0a i (L.getD i []).length (encI (L.getD i [])) (L.getD i []).length ((k + 1 : Nat) : Int) a.length (encI a) R.length (encI R) C.length (encI C)) := by
      unfold BisEx_0a Zm
      rw [bif_pos (by omega), bif_pos (by omega)]
      simp only [Int.toNat_natCast, Nat.mul_one, intI_get hk, bindO_val]
      rw [bif_pos (by omega)]
      simp only [intI_get hi1, bindO_val]
      rw [bif_pos (by omega)]
      simp only [intI_get hk2, bindO_val]
      rw [w64_in (n := (k : Int) + 1) (by omega)]
      rw [bif_dec]
      rfl
    by_cases hz : Zm L i k < w64 (R.getD i 0 + C.getD k 0)
    · rw [if_pos hz] at hs
      simp only [hz, decide_true, Bool.true_or, if_true]
      exact RisEx_0a_of _ _ _ _ _ _ _ _ _ _ _ hs
    · rw [if_neg hz, ih] at hs
      simp only [hz, decide_false, Bool.false_or]
      split at hs
      · rename_i he
        rw [if_pos he]
        exact RisEx_0a_of _ _ _ _ _ _ _ _ _ _ _ hs
      · rename_i he
        rw [if_neg he]
        exact RisEx_0a_of _ _ _ _ _ _ _ _ _ _ _ hs
theorem isEx_is (L : List (List Int)) (a R C : List Int) (hL : L.length ≤ 1000) (hR : R.length = L.length) (hC : C.length = L.length) (i : Nat) (hi : i < L.length) (hr : (L.getD i []).length = L.length) :
    FisEx [.list (L.getD i []).length (encI (L.getD i [])), encP a R C, .int .i64 (i : Int)] = some (excF L R C i L.length 0) := by
  refine FisEx_of _ _ _ _ _ _ _ _ _ ?_
  unfold tisEx
  have h := isEx_loop L a R C hL hR hC i hi hr L.length 0 (by omega)
  have h : RisEx_0 (TisEx_0a i (L.getD i []).length (encI (L.getD i [])) (L.getD i []).length 0 a.length (encI a) R.length (encI R) C.length (encI C)) = _ := h
  split at h
  · rename_i he
    rw [LisEx_0a_of h, he]
    rfl
  · rename_i he
    rw [LisEx_0b_of h, (Bool.not_eq_true _).mp he]
    rfl
theorem sumI_is {B : Int} : ∀ (r : List Int) (s : Int), (∀ x ∈ r, -B ≤ x ∧ x ≤ B) → 0 ≤ B → B ≤ 100000000 → -(1000000000000 - r.length * B) ≤ s ∧ s ≤ 1000000000000 - r.length * B → r.foldl (fun a x => w64 (a + x)) s = s + r.sum
  | [], s, _, _, _, _ => by simp
  | x :: r, s, h, h0, hB, hs => by
    have hx := h x (by simp)
    have e : (((x :: r).length : Nat) : Int) * B = r.length * B + B := by rw [List.length_cons, Int.natCast_add, Int.add_mul]; simp
    rw [e] at hs
    have hn : 0 ≤ (r.length : Int) * B := Int.mul_nonneg (by omega) h0
    rw [List.foldl_cons, w64_in (by omega), sumI_is r (s + x) (fun y hy => h y (by simp [hy])) h0 hB (by omega), List.sum_cons]
    omega
theorem sumRC_is {B : Int} : ∀ (R C : List Int) (s : Int), R.length = C.length → (∀ x ∈ R, -B ≤ x ∧ x ≤ B) → (∀ x ∈ C, -B ≤ x ∧ x ≤ B) → 0 ≤ B → B ≤ 100000000 → -(1000000000000 - R.length * (2 * B)) ≤ s ∧ s ≤ 1000000000000 - R.length * (2 * B) → sumRC R C s = s + (R.sum + C.sum)
  | [], [], s, _, _, _, _, _, _ => by simp [sumRC]
  | [], y :: C, s, h, _, _, _, _, _ => by simp at h
  | x :: R, [], s, h, _, _, _, _, _ => by simp at h
  | x :: R, y :: C, s, hl, h1, h2, h0, hB, hs => by
    have hx := h1 x (by simp)
    have hy := h2 y (by simp)
    have e : (((x :: R).length : Nat) : Int) * (2 * B) = R.length * (2 * B) + 2 * B := by rw [List.length_cons, Int.natCast_add, Int.add_mul]; simp
    rw [e] at hs
    have hn : 0 ≤ (R.length : Int) * (2 * B) := Int.mul_nonneg (by omega) (by omega)
    unfold sumRC
    rw [w64_in (n := s + x) (by omega), w64_in (n := s + x + y) (by omega), sumRC_is R C (s + x + y) (by simpa using hl) (fun z hz => h1 z (by simp [hz])) (fun z hz => h2 z (by simp [hz])) h0 hB (by omega), List.sum_cons, List.sum_cons]
    omega
theorem pots_ok {R C : List Int} {n : Nat} (hR : R.length = n) (hC : C.length = n) (h : errF (potV R C) n 0 = none) : (∀ x ∈ R, -60000000 ≤ x ∧ x ≤ 60000000) ∧ ∀ x ∈ C, -60000000 ≤ x ∧ x ≤ 60000000 := by
  have hp : ∀ j, j < n → (-60000000 ≤ R.getD j 0 ∧ R.getD j 0 ≤ 60000000) ∧ (-60000000 ≤ C.getD j 0 ∧ C.getD j 0 ≤ 60000000) := by
    intro j hj
    have := errF_none h j (by omega) (by omega)
    unfold potV both at this
    rw [rangeE_if, rangeE_if] at this
    split at this <;> split at this <;> first | (refine ⟨by assumption, ?_⟩; (repeat' split at this) <;> first | assumption | simp_all) | simp_all
  constructor
  · intro x hx
    obtain ⟨i, hi, rfl⟩ := List.getElem_of_mem hx
    have := (hp i (by omega)).1
    simpa [List.getD, List.getElem?_eq_getElem hi] using this
  · intro x hx
    obtain ⟨i, hi, rfl⟩ := List.getElem_of_mem hx
    have := (hp i (by omega)).2
    simpa [List.getD, List.getElem?_eq_getElem hi] using this
theorem sums_are {R C : List Int} {n : Nat} (hn : n ≤ 1000) (hR : R.length = n) (hC : C.length = n) (h : errF (potV R C) n 0 = none) : w64 (sumI R 0 0 + sumI C 0 0) = sumRC R C 0 := by
  obtain ⟨h1, h2⟩ := pots_ok hR hC h
  have b1 : ∀ (r : List Int), r.length = n → (∀ x ∈ r, -60000000 ≤ x ∧ x ≤ 60000000) → sumI r 0 0 = r.sum ∧ -60000000000 ≤ r.sum ∧ r.sum ≤ 60000000000 := by
    intro r hr hx
    have e := sumI_is (B := 60000000) r 0 hx (by omega) (by omega) (by omega)
    refine ⟨by unfold sumI; rw [List.drop_zero, e]; omega, ?_⟩
    have : ∀ (r : List Int), (∀ x ∈ r, -60000000 ≤ x ∧ x ≤ 60000000) → -(60000000 * (r.length : Int)) ≤ r.sum ∧ r.sum ≤ 60000000 * (r.length : Int) := by
      intro r
      induction r with
      | nil => intro _; simp
      | cons x r ih =>
        intro h
        have hx := h x (by simp)
        have := ih fun y hy => h y (by simp [hy])
        simp only [List.sum_cons, List.length_cons]
        omega
    have := this r hx
    omega
  obtain ⟨e1, e2, e3⟩ := b1 R hR h1
  obtain ⟨f1, f2, f3⟩ := b1 C hC h2
  rw [sumRC_is (B := 60000000) R C 0 (by omega) h1 h2 (by omega) (by omega) (by omega), e1, f1, w64_in (by omega)]
  omega
end Gv

/- The program's check of an assignment. -/
namespace Gv
open Go
set_option maxRecDepth 100000
def stepsC (call : Nat → Option Int) (K : Option (Int × Int)) : Nat → Nat → Option (Int × Int)
  | 0, _ => K
  | m + 1, i => bindO (call i) fun y => bif y != 0 then some ((i : Int), y) else stepsC call K m (i + 1)
def stepsX (F : FnT) (d : List PV) (p : PV) (K : Option (Int × Int)) : Nat → Nat → Option (Int × Int)
  | 0, _ => K
  | m + 1, i => bindO (listC d[i]?) fun x => bindO (F 106 (RSh.one CK.bool) [.list x.1 x.2, p, .int .i64 (i : Int)]) fun (y : Bool) => bif y then some ((i : Int), 17) else stepsX F d p K m (i + 1)
def asgTail (F : FnT) (n : Nat) (d : List PV) (n1 : Nat) (a : List PV) (n2 : Nat) (b : List PV) (n3 : Nat) (c : List PV) : Option (Int × Int) :=
  stepsC (fun i => F 102 (RSh.one (CK.int .i64)) [.list n1 a, .int .i64 (i : Int)]) (stepsC (fun i => F 104 (RSh.one (CK.int .i64)) [.agg [.list n1 a, .list n2 b, .list n3 c], .int .i64 (i : Int)])
    (stepsX F d (.agg [.list n1 a, .list n2 b, .list n3 c])
      (bindO (F 107 (RSh.one (CK.int .i64)) [.list n2 b]) fun (y1 : Int) => bindO (F 107 (RSh.one (CK.int .i64)) [.list n3 c]) fun (y2 : Int) => bindO (F 95 (RSh.one (CK.int .i64)) [.list n d, .list n1 a]) fun (y3 : Int) =>
        bif (w64 (y1 + y2)) != y3 then some (0, 13) else some (0, 0)) n 0) n 0) n 0
def asgHead (F : FnT) (n : Nat) (d : List PV) (K K2 : Option (Int × Int)) : Option (Int × Int) :=
  bindO (F 93 (RSh.one (CK.int .i64)) [.list n d]) fun (y : Int) => bif y != 0 then (bif y != 0 then some (0, y) else K) else K2
def tcAs (F : FnT) (n : Nat) (d : List PV) (n1 : Nat) (a : List PV) (n2 : Nat) (b : List PV) (n3 : Nat) (c : List PV) : Option (Int × Int) :=
  bif (n1 : Int) == (n : Int) then bif (n2 : Int) == (n : Int) then bif (n3 : Int) == (n : Int) then asgHead F n d (asgTail F n d n1 a n2 b n3 c) (asgTail F n d n1 a n2 b n3 c)
    else asgHead F n d (asgTail F n d n1 a n2 b n3 c) (some (0, 10)) else asgHead F n d (asgTail F n d n1 a n2 b n3 c) (some (0, 10)) else asgHead F n d (asgTail F n d n1 a n2 b n3 c) (some (0, 10))
def EcAs : List Entry := [.inl 79 a79 s79, .inl 92 a92 s92, .inl 101 a101 s101, .inl 103 a103 s103, .inl 105 a105 s105, .out 93 (RSh.one (CK.int .i64)), .out 102 (RSh.one (CK.int .i64)), .out 104 (RSh.one (CK.int .i64)), .out 106 (RSh.one CK.bool), .out 107 (RSh.one (CK.int .i64)), .out 95 (RSh.one (CK.int .i64))]
theorem EcAs_ok : ∀ e ∈ EcAs, EntOK env e := (ent_inl rfl (ent_inl rfl (ent_inl rfl (ent_inl rfl (ent_inl rfl (ent_out (ent_out (ent_out (ent_out (ent_out (ent_out ent_nil)))))))))))
theorem tcAs_0 (F : FnT) (d : List PV) (n1 : Nat) (a : List PV) (n2 : Nat) (b : List PV) (n3 : Nat) (c : List PV) : semF (callP F EcAs 20) s34 (loopT []) 400 a34 [.list 0 d, .agg [.list n1 a, .list n2 b, .list n3 c]] (fun rv => decR (RSh.tup [(Prod.mk false [(CK.int .i64)]), (Prod.mk false [(CK.int .i64)])]) rv.pv) = tcAs F 0 d n1 a n2 b n3 c := by kernel_rfl
theorem tcAs_1 (F : FnT) (d : List PV) (n1 : Nat) (a : List PV) (n2 : Nat) (b : List PV) (n3 : Nat) (c : List PV) : semF (callP F EcAs 20) s34 (loopT []) 400 a34 [.list 1 d, .agg [.list n1 a, .list n2 b, .list n3 c]] (fun rv => decR (RSh.tup [(Prod.mk false [(CK.int .i64)]), (Prod.mk false [(CK.int .i64)])]) rv.pv) = tcAs F 1 d n1 a n2 b n3 c := by kernel_rfl
theorem tcAs_2 (F : FnT) (d : List PV) (n1 : Nat) (a : List PV) (n2 : Nat) (b : List PV) (n3 : Nat) (c : List PV) : semF (callP F EcAs 20) s34 (loopT []) 400 a34 [.list 2 d, .agg [.list n1 a, .list n2 b, .list n3 c]] (fun rv => decR (RSh.tup [(Prod.mk false [(CK.int .i64)]), (Prod.mk false [(CK.int .i64)])]) rv.pv) = tcAs F 2 d n1 a n2 b n3 c := by kernel_rfl
theorem tcAs_3 (F : FnT) (d : List PV) (n1 : Nat) (a : List PV) (n2 : Nat) (b : List PV) (n3 : Nat) (c : List PV) : semF (callP F EcAs 20) s34 (loopT []) 400 a34 [.list 3 d, .agg [.list n1 a, .list n2 b, .list n3 c]] (fun rv => decR (RSh.tup [(Prod.mk false [(CK.int .i64)]), (Prod.mk false [(CK.int .i64)])]) rv.pv) = tcAs F 3 d n1 a n2 b n3 c := by kernel_rfl
theorem tcAs_4 (F : FnT) (d : List PV) (n1 : Nat) (a : List PV) (n2 : Nat) (b : List PV) (n3 : Nat) (c : List PV) : semF (callP F EcAs 20) s34 (loopT []) 400 a34 [.list 4 d, .agg [.list n1 a, .list n2 b, .list n3 c]] (fun rv => decR (RSh.tup [(Prod.mk false [(CK.int .i64)]), (Prod.mk false [(CK.int .i64)])]) rv.pv) = tcAs F 4 d n1 a n2 b n3 c := by kernel_rfl
theorem tcAs_5 (F : FnT) (d : List PV) (n1 : Nat) (a : List PV) (n2 : Nat) (b : List PV) (n3 : Nat) (c : List PV) : semF (callP F EcAs 20) s34 (loopT []) 400 a34 [.list 5 d, .agg [.list n1 a, .list n2 b, .list n3 c]] (fun rv => decR (RSh.tup [(Prod.mk false [(CK.int .i64)]), (Prod.mk false [(CK.int .i64)])]) rv.pv) = tcAs F 5 d n1 a n2 b n3 c := by kernel_rfl
theorem tcAs_6 (F : FnT) (d : List PV) (n1 : Nat) (a : List PV) (n2 : Nat) (b : List PV) (n3 : Nat) (c : List PV) : semF (callP F EcAs 20) s34 (loopT []) 400 a34 [.list 6 d, .agg [.list n1 a, .list n2 b, .list n3 c]] (fun rv => decR (RSh.tup [(Prod.mk false [(CK.int .i64)]), (Prod.mk false [(CK.int .i64)])]) rv.pv) = tcAs F 6 d n1 a n2 b n3 c := by kernel_rfl
theorem tcAs_7 (F : FnT) (d : List PV) (n1 : Nat) (a : List PV) (n2 : Nat) (b : List PV) (n3 : Nat) (c : List PV) : semF (callP F EcAs 20) s34 (loopT []) 400 a34 [.list 7 d, .agg [.list n1 a, .list n2 b, .list n3 c]] (fun rv => decR (RSh.tup [(Prod.mk false [(CK.int .i64)]), (Prod.mk false [(CK.int .i64)])]) rv.pv) = tcAs F 7 d n1 a n2 b n3 c := by kernel_rfl
theorem tcAs_8 (F : FnT) (d : List PV) (n1 : Nat) (a : List PV) (n2 : Nat) (b : List PV) (n3 : Nat) (c : List PV) : semF (callP F EcAs 20) s34 (loopT []) 400 a34 [.list 8 d, .agg [.list n1 a, .list n2 b, .list n3 c]] (fun rv => decR (RSh.tup [(Prod.mk false [(CK.int .i64)]), (Prod.mk false [(CK.int .i64)])]) rv.pv) = tcAs F 8 d n1 a n2 b n3 c := by kernel_rfl
noncomputable abbrev FcAs (args : List PV) := Fn env 34 (RSh.tup [(Prod.mk false [(CK.int .i64)]), (Prod.mk false [(CK.int .i64)])]) args
theorem FcAs_of {n : Nat} (hn : n ≤ 8) (d : List PV) (n1 : Nat) (a : List PV) (n2 : Nat) (b : List PV) (n3 : Nat) (c : List PV) {res : Int × Int} (h : tcAs (Fn env) n d n1 a n2 b n3 c = some res) : FcAs [.list n d, .agg [.list n1 a, .list n2 b, .list n3 c]] = some res := by
  match n, hn with
  | 0, _ => exact fn_of EcAs_ok rfl rfl lo_nil ((tcAs_0 _ _ _ _ _ _ _ _).trans h)
  | 1, _ => exact fn_of EcAs_ok rfl rfl lo_nil ((tcAs_1 _ _ _ _ _ _ _ _).trans h)
  | 2, _ => exact fn_of EcAs_ok rfl rfl lo_nil ((tcAs_2 _ _ _ _ _ _ _ _).trans h)
  | 3, _ => exact fn_of EcAs_ok rfl rfl lo_nil ((tcAs_3 _ _ _ _ _ _ _ _).trans h)
  | 4, _ => exact fn_of EcAs_ok rfl rfl lo_nil ((tcAs_4 _ _ _ _ _ _ _ _).trans h)
  | 5, _ => exact fn_of EcAs_ok rfl rfl lo_nil ((tcAs_5 _ _ _ _ _ _ _ _).trans h)
  | 6, _ => exact fn_of EcAs_ok rfl rfl lo_nil ((tcAs_6 _ _ _ _ _ _ _ _).trans h)
  | 7, _ => exact fn_of EcAs_ok rfl rfl lo_nil ((tcAs_7 _ _ _ _ _ _ _ _).trans h)
  | 8, _ => exact fn_of EcAs_ok rfl rfl lo_nil ((tcAs_8 _ _ _ _ _ _ _ _).trans h)
  | n + 9, h => exact absurd h (by omega)
theorem stepsC_is {call : Nat → Option Int} {f : Nat → Int} {K : Option (Int × Int)} {n : Nat} (h : ∀ i, i < n → call i = some (f i)) : ∀ (m i : Nat), i + m = n → stepsC call K m i = match errF f m i with
    | some y => some y
    | none => K
  | 0, i, _ => rfl
  | m + 1, i, hm => by
    unfold stepsC errF
    rw [h i (by omega), bindO_val, bif_ne]
    by_cases hz : f i = 0
    · rw [if_pos hz, if_pos hz]
      exact stepsC_is h m (i + 1) (by omega)
    · rw [if_neg hz, if_neg hz]
theorem stepsX_is {L : List (List Int)} (a R C : List Int) (hL : L.length ≤ 1000) (hR : R.length = L.length) (hC : C.length = L.length) (hr : ∀ r ∈ L, r.length = L.length) {K : Option (Int × Int)} : ∀ (m i : Nat), i + m = L.length → stepsX (Fn env) (encM L) (encP a R C) K m i = match errF (excV L R C) m i with
    | some y => some y
    | none => K
  | 0, i, _ => rfl
  | m + 1, i, hm => by
    have hi : i < L.length := by omega
    have hx : Fn env 106 _ [.list (L.getD i []).length (encI (L.getD i [])), encP a R C, .int .i64 (i : Int)] = _ := isEx_is L a R C hL hR hC i hi (hr _ (getD_memM hi))
    unfold stepsX errF
    simp only [listM_get hi, bindO_val]
    rw [hx]
    simp only [bindO_val]
    have ih := stepsX_is a R C hL hR hC hr (K := K) m (i + 1) (by omega)
    unfold excV
    by_cases he : excF L R C i L.length 0 = true
    · rw [if_pos he, if_neg (by decide), he]
      rfl
    · rw [if_neg he, if_pos rfl, (Bool.not_eq_true _).mp he]
      exact ih
theorem asgTail_is (L : List (List Int)) (hL : L.length ≤ 8) (hr : ∀ r ∈ L, r.length = L.length) (a R C : List Int) (ha : a.length = L.length) (hR : R.length = L.length) (hC : C.length = L.length) :
    asgTail (Fn env) L.length (encM L) a.length (encI a) R.length (encI R) C.length (encI C) = some (casV L a R C) := by
  unfold asgTail casV
  rw [if_pos ⟨ha, hR, hC⟩]
  have h1 : ∀ i, i < L.length → Fn env 102 (RSh.one (CK.int .i64)) [.list a.length (encI a), .int .i64 (i : Int)] = some (colV L.length a i) := fun i hi => by
    have := colE_is a (by omega) i (by omega)
    rw [ha] at this ⊢
    exact this
  have h2 : ∀ i, i < L.length → Fn env 104 (RSh.one (CK.int .i64)) [.agg [.list a.length (encI a), .list R.length (encI R), .list C.length (encI C)], .int .i64 (i : Int)] = some (potV R C i) := fun i hi => potE_is a R C i (by omega) (by omega)
  rw [stepsC_is h1 L.length 0 (by omega)]
  cases c0 : errF (colV L.length a) L.length 0 with
  | some y => rfl
  | none =>
    simp only
    rw [stepsC_is h2 L.length 0 (by omega)]
    cases c2 : errF (potV R C) L.length 0 with
    | some y => rfl
    | none =>
      simp only
      have h3 := fun K => stepsX_is (K := K) a R C (by omega) hR hC hr L.length 0 (by omega)
      unfold encP at h3
      rw [h3]
      cases c4 : errF (excV L R C) L.length 0 with
      | some y => rfl
      | none =>
        simp only
        have s1 : Fn env 107 (RSh.one (CK.int .i64)) [.list R.length (encI R)] = _ := sumO_is R (by omega)
        have s2 : Fn env 107 (RSh.one (CK.int .i64)) [.list C.length (encI C)] = _ := sumO_is C (by omega)
        have s3 : Fn env 95 (RSh.one (CK.int .i64)) [.list L.length (encM L), .list a.length (encI a)] = _ := wCost_is L (by omega) hr a (by omega) (cols_ok ha c0)
        rw [s1, s2, s3]
        simp only [bindO_val, bif_ne, sums_are (by omega) hR hC c2]
        split <;> rfl
theorem cAsg_is (L : List (List Int)) (hL : L.length ≤ 8) (hr : ∀ r ∈ L, r.length ≤ 8) (a R C : List Int) : FcAs [.list L.length (encM L), encP a R C] = some (if (matV L).2 = 0 then casV L a R C else (0, (matV L).2)) := by
  refine FcAs_of hL _ _ _ _ _ _ _ ?_
  have hm : Fn env 93 (RSh.one (CK.int .i64)) [.list L.length (encM L)] = _ := matE_is L fun r h => by have := hr r h; omega
  have hd : ∀ K K2, asgHead (Fn env) L.length (encM L) K K2 = if (matV L).2 = 0 then K2 else some (0, (matV L).2) := by
    intro K K2
    unfold asgHead
    rw [hm]
    simp only [bindO_val, bif_ne]
    by_cases hz : (matV L).2 = 0
    · rw [if_pos hz, if_pos hz]
    · rw [if_neg hz, if_neg hz, if_neg hz]
  unfold tcAs
  simp only [hd]
  by_cases hz : (matV L).2 = 0
  · rw [if_pos hz]
    simp only [hz, if_true]
    have hrr : ∀ r ∈ L, r.length = L.length := fun r h => ((matV_ok hz).2.2.2 r h).1
    have bq : ∀ (x : Nat) (p q : Option (Int × Int)), (bif (x : Int) == (L.length : Int) then p else q) = if x = L.length then p else q := by
      intro x p q
      by_cases h : x = L.length
      · rw [if_pos h, h]
        simp
      · have : ((x : Int) == (L.length : Int)) = false := by rw [beq_eq_false_iff_ne]; omega
        rw [if_neg h, this]
        rfl
    rw [bq, bq, bq]
    by_cases h1 : a.length = L.length
    · by_cases h2 : R.length = L.length
      · by_cases h3 : C.length = L.length
        · rw [if_pos h1, if_pos h2, if_pos h3]
          exact asgTail_is L hL hrr a R C h1 h2 h3
        · rw [if_pos h1, if_pos h2, if_neg h3]
          unfold casV
          rw [if_neg fun h => h3 h.2.2]
      · rw [if_pos h1, if_neg h2]
        unfold casV
        rw [if_neg fun h => h2 h.2.1]
    · rw [if_neg h1]
      unfold casV
      rw [if_neg fun h => h1 h.1]
  · rw [if_neg hz]
    simp only [hz, if_false]
    cases (a.length : Int) == (L.length : Int) <;> cases (R.length : Int) == (L.length : Int) <;> cases (C.length : Int) == (L.length : Int) <;> rfl
end Gv
