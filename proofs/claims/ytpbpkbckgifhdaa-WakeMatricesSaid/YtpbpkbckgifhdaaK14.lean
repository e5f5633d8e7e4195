import Derived.Test.YtpbpkbckgifhdaaGvEnv
import Derived.Test.YtpbpkbckgifhdaaGvYm
import Derived.Test.YtpbpkbckgifhdaaB2
import Derived.Test.YtpbpkbckgifhdaaX20

/- What the functions do, round by round: B1. -/
namespace Gv
open Go
set_option maxRecDepth 100000
def EeIf : List Entry := []
theorem EeIf_ok : ∀ e ∈ EeIf, EntOK env e := ent_nil
def teIf (_F : FnT) (p0 : Bool) (p1 : Int) : Option (Int) :=
  bif p0 then
    some p1
  else some (0 : Int)
theorem teIf_eq (F : FnT) (p0 : Bool) (p1 : Int) : semF (callP F EeIf 20) s92 (loopT []) 400 a92 [PV.bool p0, PV.int .i64 p1] (fun rv => decR (RSh.one (CK.int .i64)) rv.pv) = teIf F p0 p1 := by kernel_rfl
noncomputable abbrev FeIf (args : List PV) := Fn env 92 (RSh.one (CK.int .i64)) args
theorem FeIf_of  (p0 : Bool) (p1 : Int) {res : (Int)} (h : teIf (Fn env) p0 p1 = some res) : FeIf [PV.bool p0, PV.int .i64 p1] = some res :=
  fn_of EeIf_ok rfl rfl lo_nil ((teIf_eq _ _ _).trans h)
def ErE : List Entry := [.inl 92 a92 s92]
theorem ErE_ok : ∀ e ∈ ErE, EntOK env e := (ent_inl rfl ent_nil)
def trE (_F : FnT) (p0 p1 p2 : Int) : Option (Int) :=
  bif (decide (p0 < p1)) then
    some (2 : Int)
  else bif (decide (p0 > p2)) then
    some (2 : Int)
  else some (0 : Int)
theorem trE_eq (F : FnT) (p0 p1 p2 : Int) : semF (callP F ErE 20) s86 (loopT []) 400 a86 [PV.int .i64 p0, PV.int .i64 p1, PV.int .i64 p2] (fun rv => decR (RSh.one (CK.int .i64)) rv.pv) = trE F p0 p1 p2 := by kernel_rfl
noncomputable abbrev FrE (args : List PV) := Fn env 86 (RSh.one (CK.int .i64)) args
theorem FrE_of  (p0 p1 p2 : Int) {res : (Int)} (h : trE (Fn env) p0 p1 p2 = some res) : FrE [PV.int .i64 p0, PV.int .i64 p1, PV.int .i64 p2] = some res :=
  fn_of ErE_ok rfl rfl lo_nil ((trE_eq _ _ _ _).trans h)
def EfE2 : List Entry := []
theorem EfE2_ok : ∀ e ∈ EfE2, EntOK env e := ent_nil
def tfE2 (_F : FnT)(e0 e1 : Int) : Option (Int) :=
  bif (e0 != (0 : Int)) then
    some e0
  else bif (e1 != (0 : Int)) then
    some e1
  else some (0 : Int)
theorem tfE2_eq (F : FnT)(e0 e1 : Int) : semF (callP F EfE2 20) s79 (loopT []) 400 a79 [.list 2 [.int .i64 e0, .int .i64 e1]] (fun rv => decR (RSh.one (CK.int .i64)) rv.pv) = tfE2 F e0 e1 := by kernel_rfl
noncomputable abbrev FfE2 (args : List PV) := Fn env 79 (RSh.one (CK.int .i64)) args
theorem FfE2_of (e0 e1 : Int) {res : (Int)} (h : tfE2 (Fn env) e0 e1 = some res) : FfE2 [.list 2 [.int .i64 e0, .int .i64 e1]] = some res :=
  fn_of EfE2_ok rfl rfl lo_nil ((tfE2_eq _ _ _).trans h)
end Gv

/- What the functions do, round by round: B4. -/
namespace Gv
open Go
set_option maxRecDepth 100000
def TcMat_1450000000a (n0 : Nat) (c1 : List PV) (n2 : Nat) (c3 : List PV) (i4 i5 : Int) : Q := ⟨(tm 24 [(1, (AV.p (PV.fn 89 [(PV.imm [(PV.list n0 c1)] 0)]))), (9, (AV.p (PV.list n2 c3))), (10, (AV.p (PV.int .i64 i4))), (11, (AV.p (PV.int .i64 i5)))]), (mm 24 [])⟩
def XcMat_1450000000a (_y : Unit) : Ext × Q := (Ext.normal, ⟨(tm 24 []), (mm 24 [])⟩)
def IcMat_1450000000a (_q : Ext × S) : Unit := ()
def XcMat_1450000000b (y : Int × Int) : Ext × Q := (Ext.ret, ⟨(tm 24 [(4, (AV.p (PV.int .i64 y.1))), (5, (AV.p (PV.int .i64 y.2)))]), (mm 24 [])⟩)
def IcMat_1450000000b (q : Ext × S) : Int × Int := ((pP_int1 (pA_p (avT q.2 4))), (pP_int1 (pA_p (avT q.2 5))))
abbrev YcMat_1450000000 : Type := (Unit) ⊕ ((Int × Int))
def XLcMat_1450000000 : XL YcMat_1450000000 := .more XcMat_1450000000a (.one XcMat_1450000000b)
def IcMat_1450000000 (q : Ext × S) : YcMat_1450000000 := bif (cE q.1 == 0) then (Sum.inl (IcMat_1450000000a q)) else (Sum.inr (IcMat_1450000000b q))
theorem XIcMat_1450000000a (y : Unit) : IcMat_1450000000 (xe (XcMat_1450000000a y)) = (Sum.inl y) := by kernel_rfl
theorem XIcMat_1450000000b (y : Int × Int) : IcMat_1450000000 (xe (XcMat_1450000000b y)) = (Sum.inr y) := by kernel_rfl
theorem XIcMat_1450000000 (y : YcMat_1450000000) : IcMat_1450000000 (xe (XLcMat_1450000000.fn y)) = y := (match y with | .inl y => XIcMat_1450000000a y | .inr y => XIcMat_1450000000b y)
noncomputable abbrev LcMat_1450000000 : Q → Option YcMat_1450000000 := lpO env a145.body 0 XLcMat_1450000000
noncomputable abbrev RcMat_1450000000 : Q → Option (Ext × S) := lpR env a145.body 0
theorem LcMat_1450000000a_of {s : Q} {y : Unit} (h : RcMat_1450000000 s = exO (XcMat_1450000000a y)) : LcMat_1450000000 s = some (Sum.inl y) := lpO_of IcMat_1450000000 XIcMat_1450000000 (y := (Sum.inl y)) h
theorem LcMat_1450000000b_of {s : Q} {y : Int × Int} (h : RcMat_1450000000 s = exO (XcMat_1450000000b y)) : LcMat_1450000000 s = some (Sum.inr y) := lpO_of IcMat_1450000000 XIcMat_1450000000 (y := (Sum.inr y)) h
def TcMat_900000000a (n0 : Nat) (c1 : List PV) (i2 i3 : Int) : Q := ⟨(tm 24 [(1, (AV.p (PV.fn 91 []))), (9, (AV.p (PV.list n0 c1))), (10, (AV.p (PV.int .i64 i2))), (11, (AV.p (PV.int .i64 i3)))]), (mm 24 [])⟩
def XcMat_900000000a (y : Int × Int) : Ext × Q := (Ext.ret, ⟨(tm 24 [(4, (AV.p (PV.int .i64 y.1))), (5, (AV.p (PV.int .i64 y.2)))]), (mm 24 [])⟩)
def IcMat_900000000a (q : Ext × S) : Int × Int := ((pP_int1 (pA_p (avT q.2 4))), (pP_int1 (pA_p (avT q.2 5))))
def XcMat_900000000b (_y : Unit) : Ext × Q := (Ext.normal, ⟨(tm 24 []), (mm 24 [])⟩)
def IcMat_900000000b (_q : Ext × S) : Unit := ()
abbrev YcMat_900000000 : Type := (Int × Int) ⊕ ((Unit))
def XLcMat_900000000 : XL YcMat_900000000 := .more XcMat_900000000a (.one XcMat_900000000b)
def IcMat_900000000 (q : Ext × S) : YcMat_900000000 := bif (cE q.1 == 2) then (Sum.inl (IcMat_900000000a q)) else (Sum.inr (IcMat_900000000b q))
theorem XIcMat_900000000a (y : Int × Int) : IcMat_900000000 (xe (XcMat_900000000a y)) = (Sum.inl y) := by kernel_rfl
theorem XIcMat_900000000b (y : Unit) : IcMat_900000000 (xe (XcMat_900000000b y)) = (Sum.inr y) := by kernel_rfl
theorem XIcMat_900000000 (y : YcMat_900000000) : IcMat_900000000 (xe (XLcMat_900000000.fn y)) = y := (match y with | .inl y => XIcMat_900000000a y | .inr y => XIcMat_900000000b y)
noncomputable abbrev LcMat_900000000 : Q → Option YcMat_900000000 := lpO env a90.body 0 XLcMat_900000000
noncomputable abbrev RcMat_900000000 : Q → Option (Ext × S) := lpR env a90.body 0
theorem LcMat_900000000a_of {s : Q} {y : Int × Int} (h : RcMat_900000000 s = exO (XcMat_900000000a y)) : LcMat_900000000 s = some (Sum.inl y) := lpO_of IcMat_900000000 XIcMat_900000000 (y := (Sum.inl y)) h
theorem LcMat_900000000b_of {s : Q} {y : Unit} (h : RcMat_900000000 s = exO (XcMat_900000000b y)) : LcMat_900000000 s = some (Sum.inr y) := lpO_of IcMat_900000000 XIcMat_900000000 (y := (Sum.inr y)) h
theorem UcMatg145 : uniq ((blocksOf a145.body).map (·.1)) = true := by kernel_rfl
theorem UcMatg90 : uniq ((blocksOf a90.body).map (·.1)) = true := by kernel_rfl
def EcMat (L1450000000 : Q → Option YcMat_1450000000) (L900000000 : Q → Option YcMat_900000000) : List Entry := [.inp 145 a145 s145 [⟨0, YcMat_1450000000, L1450000000, XLcMat_1450000000⟩], .inp 90 a90 s90 [⟨0, YcMat_900000000, L900000000, XLcMat_900000000⟩], .inl 88 a88 s88, .inl 89 a89 s89, .inl 91 a91 s91, .out 86 (RSh.one (CK.int .i64)), .out 92 (RSh.one (CK.int .i64)), .out 79 (RSh.one (CK.int .i64))]
theorem EcMat_ok : ∀ e ∈ EcMat LcMat_1450000000 LcMat_900000000, EntOK env e := (ent_inp rfl (lo_cons (lpO_ok UcMatg145) lo_nil) (ent_inp rfl (lo_cons (lpO_ok UcMatg90) lo_nil) (ent_inl rfl (ent_inl rfl (ent_inl rfl (ent_out (ent_out (ent_out ent_nil))))))))
def BcMat_1450000000a (F : FnT) (N : QO) (E : EO) (_L1450000000 : Q → Option YcMat_1450000000) (L900000000 : Q → Option YcMat_900000000) (n0 : Nat) (c1 : List PV) (n2 : Nat) (c3 : List PV) (i4 i5 : Int) : Option (Ext × S) :=
  bif (decide (i5 < i4)) then
    bif (decide (((0 : Int) ≤ i5) ∧ (i5 < (n2 : Int)))) then
      bindO (listC (c3[((Int.toNat i5) * 1)]?)) fun x0 =>
      bindO (L900000000 (TcMat_900000000a x0.1 x0.2 (x0.1 : Int) (0 : Int))) fun z =>
      Sum.elim (fun y1 =>
        bif ((x0.1 : Int) != ((Prod.mk n0 c1).1 : Int)) then
          bindO (F 92 (RSh.one (CK.int .i64)) [(PV.bool true), (PV.int .i64 (10 : Int))]) fun (y2 : (Int)) =>
          bindO (F 79 (RSh.one (CK.int .i64)) [(PV.list 2 [(PV.int .i64 y2), (PV.int .i64 y1.2)])]) fun (y3 : (Int)) =>
          bif (y3 != (0 : Int)) then
            E (XcMat_1450000000b (i5, y3))
          else N (TcMat_1450000000a n0 c1 n2 c3 i4 (w64 (i5 + (1 : Int))))
        else bindO (F 92 (RSh.one (CK.int .i64)) [(PV.bool false), (PV.int .i64 (10 : Int))]) fun (y4 : (Int)) =>
        bindO (F 79 (RSh.one (CK.int .i64)) [(PV.list 2 [(PV.int .i64 y4), (PV.int .i64 y1.2)])]) fun (y5 : (Int)) =>
        bif (y5 != (0 : Int)) then
          E (XcMat_1450000000b (i5, y5))
        else N (TcMat_1450000000a n0 c1 n2 c3 i4 (w64 (i5 + (1 : Int))))) (fun _y6 =>
        bif ((x0.1 : Int) != ((Prod.mk n0 c1).1 : Int)) then
          bindO (F 92 (RSh.one (CK.int .i64)) [(PV.bool true), (PV.int .i64 (10 : Int))]) fun (y7 : (Int)) =>
          bindO (F 79 (RSh.one (CK.int .i64)) [(PV.list 2 [(PV.int .i64 y7), (PV.int .i64 (0 : Int))])]) fun (y8 : (Int)) =>
          bif (y8 != (0 : Int)) then
            E (XcMat_1450000000b (i5, y8))
          else N (TcMat_1450000000a n0 c1 n2 c3 i4 (w64 (i5 + (1 : Int))))
        else bindO (F 92 (RSh.one (CK.int .i64)) [(PV.bool false), (PV.int .i64 (10 : Int))]) fun (y9 : (Int)) =>
        bindO (F 79 (RSh.one (CK.int .i64)) [(PV.list 2 [(PV.int .i64 y9), (PV.int .i64 (0 : Int))])]) fun (y10 : (Int)) =>
        bif (y10 != (0 : Int)) then
          E (XcMat_1450000000b (i5, y10))
        else N (TcMat_1450000000a n0 c1 n2 c3 i4 (w64 (i5 + (1 : Int))))) z
    else none
  else E (XcMat_1450000000a ())
theorem BcMat_1450000000a_eq (F : FnT) (N : QO) (E : EO) (L1450000000 : Q → Option YcMat_1450000000) (L900000000 : Q → Option YcMat_900000000) (n0 : Nat) (c1 : List PV) (n2 : Nat) (c3 : List PV) (i4 i5 : Int) : semB (callP F (EcMat L1450000000 L900000000) 20) s145 (loopT [⟨0, YcMat_1450000000, L1450000000, XLcMat_1450000000⟩]) 400 (blkIn a145.body 0) N E (TcMat_1450000000a n0 c1 n2 c3 i4 i5) = BcMat_1450000000a F N E L1450000000 L900000000 n0 c1 n2 c3 i4 i5 := by kernel_rfl
theorem RcMat_1450000000a_of  (n0 : Nat) (c1 : List PV) (n2 : Nat) (c3 : List PV) (i4 i5 : Int) {r : Ext × S} (h : BcMat_1450000000a (Fn env) RcMat_1450000000 exO LcMat_1450000000 LcMat_900000000 n0 c1 n2 c3 i4 i5 = some r) : RcMat_1450000000 (TcMat_1450000000a n0 c1 n2 c3 i4 i5) = some r :=
  lp_of EcMat_ok (by kernel_rfl) (lo_cons (lpO_ok UcMatg145) lo_nil) (by kernel_rfl) ((BcMat_1450000000a_eq _ _ _ _ _ _ _ _ _ _ _).trans h)
def BcMat_900000000a (F : FnT) (N : QO) (E : EO) (_L1450000000 : Q → Option YcMat_1450000000) (_L900000000 : Q → Option YcMat_900000000) (n0 : Nat) (c1 : List PV) (i2 i3 : Int) : Option (Ext × S) :=
  bif (decide (i3 < i2)) then
    bif (decide (((0 : Int) ≤ i3) ∧ (i3 < (n0 : Int)))) then
      bindO (intC .i64 (c1[((Int.toNat i3) * 1)]?)) fun x0 =>
      bindO (F 86 (RSh.one (CK.int .i64)) [(PV.int .i64 x0), (PV.int .i64 (0 : Int)), (PV.int .i64 (10000000 : Int))]) fun (y1 : (Int)) =>
      bif (y1 != (0 : Int)) then
        E (XcMat_900000000a (i3, y1))
      else N (TcMat_900000000a n0 c1 i2 (w64 (i3 + (1 : Int))))
    else none
  else E (XcMat_900000000b ())
theorem BcMat_900000000a_eq (F : FnT) (N : QO) (E : EO) (L1450000000 : Q → Option YcMat_1450000000) (L900000000 : Q → Option YcMat_900000000) (n0 : Nat) (c1 : List PV) (i2 i3 : Int) : semB (callP F (EcMat L1450000000 L900000000) 20) s90 (loopT [⟨0, YcMat_900000000, L900000000, XLcMat_900000000⟩]) 400 (blkIn a90.body 0) N E (TcMat_900000000a n0 c1 i2 i3) = BcMat_900000000a F N E L1450000000 L900000000 n0 c1 i2 i3 := by kernel_rfl
theorem RcMat_900000000a_of  (n0 : Nat) (c1 : List PV) (i2 i3 : Int) {r : Ext × S} (h : BcMat_900000000a (Fn env) RcMat_900000000 exO LcMat_1450000000 LcMat_900000000 n0 c1 i2 i3 = some r) : RcMat_900000000 (TcMat_900000000a n0 c1 i2 i3) = some r :=
  lp_of EcMat_ok (by kernel_rfl) (lo_cons (lpO_ok UcMatg90) lo_nil) (by kernel_rfl) ((BcMat_900000000a_eq _ _ _ _ _ _ _ _ _).trans h)
def tcMat (_F : FnT) (L1450000000 : Q → Option YcMat_1450000000) (_L900000000 : Q → Option YcMat_900000000) (p0n : Nat) (p0c : List PV) : Option ((Int) × (Int)) :=
  bif ((p0n : Int) == (0 : Int)) then
    some ((0 : Int), (10 : Int))
  else bif (decide ((p0n : Int) > (6 : Int))) then
    some ((0 : Int), (8 : Int))
  else bindO (L1450000000 (TcMat_1450000000a p0n p0c p0n p0c (p0n : Int) (0 : Int))) fun z =>
  Sum.elim (fun _y0 =>
    some ((0 : Int), (0 : Int))) (fun y1 =>
    some (y1.1, y1.2)) z
theorem tcMat_eq (F : FnT) (L1450000000 : Q → Option YcMat_1450000000) (L900000000 : Q → Option YcMat_900000000) (p0n : Nat) (p0c : List PV) : semF (callP F (EcMat L1450000000 L900000000) 20) s26 (loopT []) 400 a26 [PV.list p0n p0c] (fun rv => decR (RSh.tup [(Prod.mk false [(CK.int .i64)]), (Prod.mk false [(CK.int .i64)])]) rv.pv) = tcMat F L1450000000 L900000000 p0n p0c := by kernel_rfl
noncomputable abbrev FcMat (args : List PV) := Fn env 26 (RSh.tup [(Prod.mk false [(CK.int .i64)]), (Prod.mk false [(CK.int .i64)])]) args
theorem FcMat_of  (p0n : Nat) (p0c : List PV) {res : ((Int) × (Int))} (h : tcMat (Fn env) LcMat_1450000000 LcMat_900000000 p0n p0c = some res) : FcMat [PV.list p0n p0c] = some res :=
  fn_of EcMat_ok rfl rfl lo_nil ((tcMat_eq _ _ _ _ _).trans h)
def EmatE : List Entry := [.out 26 (RSh.tup [(Prod.mk false [(CK.int .i64)]), (Prod.mk false [(CK.int .i64)])])]
theorem EmatE_ok : ∀ e ∈ EmatE, EntOK env e := (ent_out ent_nil)
def tmatE (F : FnT) (p0n : Nat) (p0c : List PV) : Option (Int) :=
  bindO (F 26 (RSh.tup [(Prod.mk false [(CK.int .i64)]), (Prod.mk false [(CK.int .i64)])]) [(PV.list p0n p0c)]) fun (y0 : ((Int) × (Int))) =>
  some y0.2
theorem tmatE_eq (F : FnT) (p0n : Nat) (p0c : List PV) : semF (callP F EmatE 20) s93 (loopT []) 400 a93 [PV.list p0n p0c] (fun rv => decR (RSh.one (CK.int .i64)) rv.pv) = tmatE F p0n p0c := by kernel_rfl
noncomputable abbrev FmatE (args : List PV) := Fn env 93 (RSh.one (CK.int .i64)) args
theorem FmatE_of  (p0n : Nat) (p0c : List PV) {res : (Int)} (h : tmatE (Fn env) p0n p0c = some res) : FmatE [PV.list p0n p0c] = some res :=
  fn_of EmatE_ok rfl rfl lo_nil ((tmatE_eq _ _ _).trans h)
end Gv

/- What the functions do, round by round: B5. -/
namespace Gv
open Go
set_option maxRecDepth 100000
def Esmall : List Entry := [.out 87 (RSh.one (CK.int .i64))]
theorem Esmall_ok : ∀ e ∈ Esmall, EntOK env e := (ent_out ent_nil)
def Tsmall_0a (n0 : Nat) (c1 : List PV) (i2 : Int) : Q := ⟨(tm 27 [(0, (AV.p (PV.list n0 c1))), (3, (AV.p (PV.int .i64 i2)))]), (mm 27 [])⟩
def Xsmall_0a (_y : Unit) : Ext × Q := (Ext.ret, ⟨(tm 27 [(2, (AV.p (PV.bool false)))]), (mm 27 [])⟩)
def Ismall_0a (_q : Ext × S) : Unit := ()
def Xsmall_0b (y : Nat × List PV) : Ext × Q := (Ext.normal, ⟨(tm 27 [(0, (AV.p (PV.list y.1 y.2)))]), (mm 27 [])⟩)
def Ismall_0b (q : Ext × S) : Nat × List PV := ((pP_list0 (pA_p (avT q.2 0))), (pP_list1 (pA_p (avT q.2 0))))
abbrev Ysmall_0 : Type := (Unit) ⊕ ((Nat × List PV))
def XLsmall_0 : XL Ysmall_0 := .more Xsmall_0a (.one Xsmall_0b)
def Ismall_0 (q : Ext × S) : Ysmall_0 := bif (cE q.1 == 2) then (Sum.inl (Ismall_0a q)) else (Sum.inr (Ismall_0b q))
theorem XIsmall_0a (y : Unit) : Ismall_0 (xe (Xsmall_0a y)) = (Sum.inl y) := by kernel_rfl
theorem XIsmall_0b (y : Nat × List PV) : Ismall_0 (xe (Xsmall_0b y)) = (Sum.inr y) := by kernel_rfl
theorem XIsmall_0 (y : Ysmall_0) : Ismall_0 (xe (XLsmall_0.fn y)) = y := (match y with | .inl y => XIsmall_0a y | .inr y => XIsmall_0b y)
noncomputable abbrev Lsmall_0 : Q → Option Ysmall_0 := lpO env a25.body 0 XLsmall_0
noncomputable abbrev Rsmall_0 : Q → Option (Ext × S) := lpR env a25.body 0
theorem Lsmall_0a_of {s : Q} {y : Unit} (h : Rsmall_0 s = exO (Xsmall_0a y)) : Lsmall_0 s = some (Sum.inl y) := lpO_of Ismall_0 XIsmall_0 (y := (Sum.inl y)) h
theorem Lsmall_0b_of {s : Q} {y : Nat × List PV} (h : Rsmall_0 s = exO (Xsmall_0b y)) : Lsmall_0 s = some (Sum.inr y) := lpO_of Ismall_0 XIsmall_0 (y := (Sum.inr y)) h
theorem Usmall : uniq ((blocksOf a25.body).map (·.1)) = true := by kernel_rfl
def Bsmall_0a (_F : FnT) (N : QO) (E : EO) (_L0 : Q → Option Ysmall_0) (n0 : Nat) (c1 : List PV) (i2 : Int) : Option (Ext × S) :=
  bif (decide (i2 < (n0 : Int))) then
    bif (decide (((0 : Int) ≤ i2) ∧ (i2 < (n0 : Int)))) then
      bindO (listC (c1[((Int.toNat i2) * 1)]?)) fun x0 =>
      bif (decide ((x0.1 : Int) > (8 : Int))) then
        E (Xsmall_0a ())
      else N (Tsmall_0a n0 c1 (w64 (i2 + (1 : Int))))
    else none
  else E (Xsmall_0b (n0, c1))
theorem Bsmall_0a_eq (F : FnT) (N : QO) (E : EO) (L0 : Q → Option Ysmall_0) (n0 : Nat) (c1 : List PV) (i2 : Int) : semB (callP F Esmall 20) s25 (loopT [⟨0, Ysmall_0, L0, XLsmall_0⟩]) 400 (blkIn a25.body 0) N E (Tsmall_0a n0 c1 i2) = Bsmall_0a F N E L0 n0 c1 i2 := by kernel_rfl
theorem Rsmall_0a_of  (n0 : Nat) (c1 : List PV) (i2 : Int) {r : Ext × S} (h : Bsmall_0a (Fn env) Rsmall_0 exO Lsmall_0 n0 c1 i2 = some r) : Rsmall_0 (Tsmall_0a n0 c1 i2) = some r :=
  lp_of Esmall_ok (by kernel_rfl) (lo_cons (lpO_ok Usmall) lo_nil) (by kernel_rfl) ((Bsmall_0a_eq _ _ _ _ _ _ _).trans h)
def tsmall (F : FnT) (L0 : Q → Option Ysmall_0) (p0n : Nat) (p0c : List PV) : Option (Bool) :=
  bif (decide ((p0n : Int) > (8 : Int))) then
    some false
  else bindO (L0 (Tsmall_0a p0n p0c (0 : Int))) fun z =>
  Sum.elim (fun _y0 =>
    some false) (fun y1 =>
    bindO (F 87 (RSh.one (CK.int .i64)) [(PV.list y1.1 y1.2)]) fun (y2 : (Int)) =>
    bif (y2 != (0 : Int)) then
      some true
    else bif (decide ((y1.1 : Int) ≤ (5 : Int))) then
      some true
    else some false) z
theorem tsmall_eq (F : FnT) (L0 : Q → Option Ysmall_0) (p0n : Nat) (p0c : List PV) : semF (callP F Esmall 20) s25 (loopT [⟨0, Ysmall_0, L0, XLsmall_0⟩]) 400 a25 [PV.list p0n p0c] (fun rv => decR (RSh.one CK.bool) rv.pv) = tsmall F L0 p0n p0c := by kernel_rfl
noncomputable abbrev Fsmall (args : List PV) := Fn env 25 (RSh.one CK.bool) args
theorem Fsmall_of  (p0n : Nat) (p0c : List PV) {res : (Bool)} (h : tsmall (Fn env) Lsmall_0 p0n p0c = some res) : Fsmall [PV.list p0n p0c] = some res :=
  fn_of Esmall_ok rfl rfl (lo_cons (lpO_ok Usmall) lo_nil) ((tsmall_eq _ _ _ _).trans h)
def ErMatE : List Entry := [.out 30 (RSh.tup [(Prod.mk false [(CK.int .i64)]), (Prod.mk false [(CK.int .i64)])])]
theorem ErMatE_ok : ∀ e ∈ ErMatE, EntOK env e := (ent_out ent_nil)
def trMatE (F : FnT) (p0n : Nat) (p0c : List PV) : Option (Int) :=
  bindO (F 30 (RSh.tup [(Prod.mk false [(CK.int .i64)]), (Prod.mk false [(CK.int .i64)])]) [(PV.list p0n p0c)]) fun (y0 : ((Int) × (Int))) =>
  some y0.2
theorem trMatE_eq (F : FnT) (p0n : Nat) (p0c : List PV) : semF (callP F ErMatE 20) s87 (loopT []) 400 a87 [PV.list p0n p0c] (fun rv => decR (RSh.one (CK.int .i64)) rv.pv) = trMatE F p0n p0c := by kernel_rfl
noncomputable abbrev FrMatE (args : List PV) := Fn env 87 (RSh.one (CK.int .i64)) args
theorem FrMatE_of  (p0n : Nat) (p0c : List PV) {res : (Int)} (h : trMatE (Fn env) p0n p0c = some res) : FrMatE [PV.list p0n p0c] = some res :=
  fn_of ErMatE_ok rfl rfl lo_nil ((trMatE_eq _ _ _).trans h)
def ErCMat : List Entry := [.out 23 (RSh.one CK.bool)]
theorem ErCMat_ok : ∀ e ∈ ErCMat, EntOK env e := (ent_out ent_nil)
def TrCMat_0a (n0 : Nat) (c1 : List PV) (i2 : Int) : Q := ⟨(tm 43 [(0, (AV.p (PV.list n0 c1))), (4, (AV.p (PV.int .i64 i2)))]), (mm 43 [])⟩
def XrCMat_0a (y : Int × Int) : Ext × Q := (Ext.ret, ⟨(tm 43 [(2, (AV.p (PV.int .i64 y.1))), (3, (AV.p (PV.int .i64 y.2)))]), (mm 43 [])⟩)
def IrCMat_0a (q : Ext × S) : Int × Int := ((pP_int1 (pA_p (avT q.2 2))), (pP_int1 (pA_p (avT q.2 3))))
def XrCMat_0b (_y : Unit) : Ext × Q := (Ext.normal, ⟨(tm 43 []), (mm 43 [])⟩)
def IrCMat_0b (_q : Ext × S) : Unit := ()
abbrev YrCMat_0 : Type := (Int × Int) ⊕ ((Unit))
def XLrCMat_0 : XL YrCMat_0 := .more XrCMat_0a (.one XrCMat_0b)
def IrCMat_0 (q : Ext × S) : YrCMat_0 := bif (cE q.1 == 2) then (Sum.inl (IrCMat_0a q)) else (Sum.inr (IrCMat_0b q))
theorem XIrCMat_0a (y : Int × Int) : IrCMat_0 (xe (XrCMat_0a y)) = (Sum.inl y) := by kernel_rfl
theorem XIrCMat_0b (y : Unit) : IrCMat_0 (xe (XrCMat_0b y)) = (Sum.inr y) := by kernel_rfl
theorem XIrCMat_0 (y : YrCMat_0) : IrCMat_0 (xe (XLrCMat_0.fn y)) = y := (match y with | .inl y => XIrCMat_0a y | .inr y => XIrCMat_0b y)
noncomputable abbrev LrCMat_0 : Q → Option YrCMat_0 := lpO env a30.body 0 XLrCMat_0
noncomputable abbrev RrCMat_0 : Q → Option (Ext × S) := lpR env a30.body 0
theorem LrCMat_0a_of {s : Q} {y : Int × Int} (h : RrCMat_0 s = exO (XrCMat_0a y)) : LrCMat_0 s = some (Sum.inl y) := lpO_of IrCMat_0 XIrCMat_0 (y := (Sum.inl y)) h
theorem LrCMat_0b_of {s : Q} {y : Unit} (h : RrCMat_0 s = exO (XrCMat_0b y)) : LrCMat_0 s = some (Sum.inr y) := lpO_of IrCMat_0 XIrCMat_0 (y := (Sum.inr y)) h
def TrCMat_2a (n0 : Nat) (c1 : List PV) (i2 i3 : Int) : Q := ⟨(tm 43 [(0, (AV.p (PV.list n0 c1))), (4, (AV.p (PV.int .i64 i2))), (5, (AV.p (PV.int .i64 i3)))]), (mm 43 [])⟩
def XrCMat_2a (y : Int) : Ext × Q := (Ext.ret, ⟨(tm 43 [(2, (AV.p (PV.int .i64 y))), (3, (AV.p (PV.int .i64 (2 : Int))))]), (mm 43 [])⟩)
def IrCMat_2a (q : Ext × S) : Int := (pP_int1 (pA_p (avT q.2 2)))
def XrCMat_2b (y : Nat × List PV × Int) : Ext × Q := (Ext.normal, ⟨(tm 43 [(0, (AV.p (PV.list y.1 y.2.1))), (4, (AV.p (PV.int .i64 y.2.2)))]), (mm 43 [])⟩)
def IrCMat_2b (q : Ext × S) : Nat × List PV × Int := ((pP_list0 (pA_p (avT q.2 0))), (pP_list1 (pA_p (avT q.2 0))), (pP_int1 (pA_p (avT q.2 4))))
abbrev YrCMat_2 : Type := (Int) ⊕ ((Nat × List PV × Int))
def XLrCMat_2 : XL YrCMat_2 := .more XrCMat_2a (.one XrCMat_2b)
def IrCMat_2 (q : Ext × S) : YrCMat_2 := bif (cE q.1 == 2) then (Sum.inl (IrCMat_2a q)) else (Sum.inr (IrCMat_2b q))
theorem XIrCMat_2a (y : Int) : IrCMat_2 (xe (XrCMat_2a y)) = (Sum.inl y) := by kernel_rfl
theorem XIrCMat_2b (y : Nat × List PV × Int) : IrCMat_2 (xe (XrCMat_2b y)) = (Sum.inr y) := by kernel_rfl
theorem XIrCMat_2 (y : YrCMat_2) : IrCMat_2 (xe (XLrCMat_2.fn y)) = y := (match y with | .inl y => XIrCMat_2a y | .inr y => XIrCMat_2b y)
noncomputable abbrev LrCMat_2 : Q → Option YrCMat_2 := lpO env a30.body 2 XLrCMat_2
noncomputable abbrev RrCMat_2 : Q → Option (Ext × S) := lpR env a30.body 2
theorem LrCMat_2a_of {s : Q} {y : Int} (h : RrCMat_2 s = exO (XrCMat_2a y)) : LrCMat_2 s = some (Sum.inl y) := lpO_of IrCMat_2 XIrCMat_2 (y := (Sum.inl y)) h
theorem LrCMat_2b_of {s : Q} {y : Nat × List PV × Int} (h : RrCMat_2 s = exO (XrCMat_2b y)) : LrCMat_2 s = some (Sum.inr y) := lpO_of IrCMat_2 XIrCMat_2 (y := (Sum.inr y)) h
theorem UrCMat : uniq ((blocksOf a30.body).map (·.1)) = true := by kernel_rfl
def BrCMat_0a (_F : FnT) (N : QO) (E : EO) (_L0 : Q → Option YrCMat_0) (L2 : Q → Option YrCMat_2) (n0 : Nat) (c1 : List PV) (i2 : Int) : Option (Ext × S) :=
  bif (decide (i2 < (n0 : Int))) then
    bif (decide (((0 : Int) ≤ i2) ∧ (i2 < (n0 : Int)))) then
      bindO (listC (c1[((Int.toNat i2) * 1)]?)) fun x0 =>
      bif ((x0.1 : Int) != (n0 : Int)) then
        E (XrCMat_0a (i2, (10 : Int)))
      else bindO (L2 (TrCMat_2a n0 c1 i2 (0 : Int))) fun z =>
      Sum.elim (fun y1 =>
        E (XrCMat_0a (y1, (2 : Int)))) (fun y2 =>
        N (TrCMat_0a y2.1 y2.2.1 (w64 (y2.2.2 + (1 : Int))))) z
    else none
  else E (XrCMat_0b ())
theorem BrCMat_0a_eq (F : FnT) (N : QO) (E : EO) (L0 : Q → Option YrCMat_0) (L2 : Q → Option YrCMat_2) (n0 : Nat) (c1 : List PV) (i2 : Int) : semB (callP F ErCMat 20) s30 (loopT [⟨0, YrCMat_0, L0, XLrCMat_0⟩, ⟨2, YrCMat_2, L2, XLrCMat_2⟩]) 400 (blkIn a30.body 0) N E (TrCMat_0a n0 c1 i2) = BrCMat_0a F N E L0 L2 n0 c1 i2 := by kernel_rfl
theorem RrCMat_0a_of  (n0 : Nat) (c1 : List PV) (i2 : Int) {r : Ext × S} (h : BrCMat_0a (Fn env) RrCMat_0 exO LrCMat_0 LrCMat_2 n0 c1 i2 = some r) : RrCMat_0 (TrCMat_0a n0 c1 i2) = some r :=
  lp_of ErCMat_ok (by kernel_rfl) (lo_cons (lpO_ok UrCMat) (lo_cons (lpO_ok UrCMat) lo_nil)) (by kernel_rfl) ((BrCMat_0a_eq _ _ _ _ _ _ _ _).trans h)
def BrCMat_2a (F : FnT) (N : QO) (E : EO) (_L0 : Q → Option YrCMat_0) (_L2 : Q → Option YrCMat_2) (n0 : Nat) (c1 : List PV) (i2 i3 : Int) : Option (Ext × S) :=
  bif (decide (i3 < (n0 : Int))) then
    bif (decide (((0 : Int) ≤ i2) ∧ (i2 < (n0 : Int)))) then
      bindO (listC (c1[((Int.toNat i2) * 1)]?)) fun x0 =>
      bif (decide (((0 : Int) ≤ i3) ∧ (i3 < (x0.1 : Int)))) then
        bindO (intC .i64 (x0.2[((Int.toNat i3) * 1)]?)) fun x1 =>
        bindO (F 23 (RSh.one CK.bool) [(PV.int .i64 x1), (PV.int .i64 (0 : Int)), (PV.int .i64 (10000000 : Int))]) fun (y2 : (Bool)) =>
        bif y2 then
          N (TrCMat_2a n0 c1 i2 (w64 (i3 + (1 : Int))))
        else E (XrCMat_2a i2)
      else none
    else none
  else E (XrCMat_2b (n0, c1, i2))
theorem BrCMat_2a_eq (F : FnT) (N : QO) (E : EO) (L0 : Q → Option YrCMat_0) (L2 : Q → Option YrCMat_2) (n0 : Nat) (c1 : List PV) (i2 i3 : Int) : semB (callP F ErCMat 20) s30 (loopT [⟨0, YrCMat_0, L0, XLrCMat_0⟩, ⟨2, YrCMat_2, L2, XLrCMat_2⟩]) 400 (blkIn a30.body 2) N E (TrCMat_2a n0 c1 i2 i3) = BrCMat_2a F N E L0 L2 n0 c1 i2 i3 := by kernel_rfl
theorem RrCMat_2a_of  (n0 : Nat) (c1 : List PV) (i2 i3 : Int) {r : Ext × S} (h : BrCMat_2a (Fn env) RrCMat_2 exO LrCMat_0 LrCMat_2 n0 c1 i2 i3 = some r) : RrCMat_2 (TrCMat_2a n0 c1 i2 i3) = some r :=
  lp_of ErCMat_ok (by kernel_rfl) (lo_cons (lpO_ok UrCMat) (lo_cons (lpO_ok UrCMat) lo_nil)) (by kernel_rfl) ((BrCMat_2a_eq _ _ _ _ _ _ _ _ _).trans h)
def trCMat (_F : FnT) (L0 : Q → Option YrCMat_0) (_L2 : Q → Option YrCMat_2) (p0n : Nat) (p0c : List PV) : Option ((Int) × (Int)) :=
  bif ((p0n : Int) == (0 : Int)) then
    some ((0 : Int), (10 : Int))
  else bif (decide ((p0n : Int) > (6 : Int))) then
    some ((0 : Int), (8 : Int))
  else bindO (L0 (TrCMat_0a p0n p0c (0 : Int))) fun z =>
  Sum.elim (fun y0 =>
    some (y0.1, y0.2)) (fun _y1 =>
    some ((0 : Int), (0 : Int))) z
theorem trCMat_eq (F : FnT) (L0 : Q → Option YrCMat_0) (L2 : Q → Option YrCMat_2) (p0n : Nat) (p0c : List PV) : semF (callP F ErCMat 20) s30 (loopT [⟨0, YrCMat_0, L0, XLrCMat_0⟩, ⟨2, YrCMat_2, L2, XLrCMat_2⟩]) 400 a30 [PV.list p0n p0c] (fun rv => decR (RSh.tup [(Prod.mk false [(CK.int .i64)]), (Prod.mk false [(CK.int .i64)])]) rv.pv) = trCMat F L0 L2 p0n p0c := by kernel_rfl
noncomputable abbrev FrCMat (args : List PV) := Fn env 30 (RSh.tup [(Prod.mk false [(CK.int .i64)]), (Prod.mk false [(CK.int .i64)])]) args
theorem FrCMat_of  (p0n : Nat) (p0c : List PV) {res : ((Int) × (Int))} (h : trCMat (Fn env) LrCMat_0 LrCMat_2 p0n p0c = some res) : FrCMat [PV.list p0n p0c] = some res :=
  fn_of ErCMat_ok rfl rfl (lo_cons (lpO_ok UrCMat) (lo_cons (lpO_ok UrCMat) lo_nil)) ((trCMat_eq _ _ _ _ _).trans h)
def ErCopM : List Entry := [.out 78 (RSh.one CK.list)]
theorem ErCopM_ok : ∀ e ∈ ErCopM, EntOK env e := (ent_out ent_nil)
def TrCopM_0a (n0 : Nat) (c1 : List PV) : Q := ⟨(tm 20 [(0, (AV.p (PV.list n0 c1))), (3, AV.nilS), (4, (AV.p (PV.int .i64 (0 : Int))))]), (mm 20 [])⟩
def TrCopM_0b (n0 : Nat) (c1 : List PV) (n2 : Nat) (c3 : List PV) (i4 : Int) (n5 : Nat) : Q := ⟨(tm 20 [(0, (AV.p (PV.list n0 c1))), (3, (AV.app 18 n2 1 c3)), (4, (AV.p (PV.int .i64 i4)))]), (mm 20 [(18, (Bk.buf n5))])⟩
def XrCopM_0a (_y : Unit) : Ext × Q := (Ext.normal, ⟨(tm 20 [(3, AV.nilS)]), (mm 20 [])⟩)
def IrCopM_0a (_q : Ext × S) : Unit := ()
def XrCopM_0b (y : Nat × List PV × Nat) : Ext × Q := (Ext.normal, ⟨(tm 20 [(3, (AV.app 18 y.1 1 y.2.1))]), (mm 20 [(18, (Bk.buf y.2.2))])⟩)
def IrCopM_0b (q : Ext × S) : Nat × List PV × Nat := ((pA_app1 (avT q.2 3)), (pA_app3 (avT q.2 3)), (pB_buf0 (avM q.2 18)))
abbrev YrCopM_0 : Type := (Unit) ⊕ ((Nat × List PV × Nat))
def XLrCopM_0 : XL YrCopM_0 := .more XrCopM_0a (.one XrCopM_0b)
def IrCopM_0 (q : Ext × S) : YrCopM_0 := bif (cA (avT q.2 3) == 1) then (Sum.inl (IrCopM_0a q)) else (Sum.inr (IrCopM_0b q))
theorem XIrCopM_0a (y : Unit) : IrCopM_0 (xe (XrCopM_0a y)) = (Sum.inl y) := by kernel_rfl
theorem XIrCopM_0b (y : Nat × List PV × Nat) : IrCopM_0 (xe (XrCopM_0b y)) = (Sum.inr y) := by kernel_rfl
theorem XIrCopM_0 (y : YrCopM_0) : IrCopM_0 (xe (XLrCopM_0.fn y)) = y := (match y with | .inl y => XIrCopM_0a y | .inr y => XIrCopM_0b y)
noncomputable abbrev LrCopM_0 : Q → Option YrCopM_0 := lpO env a27.body 0 XLrCopM_0
noncomputable abbrev RrCopM_0 : Q → Option (Ext × S) := lpR env a27.body 0
theorem LrCopM_0a_of {s : Q} {y : Unit} (h : RrCopM_0 s = exO (XrCopM_0a y)) : LrCopM_0 s = some (Sum.inl y) := lpO_of IrCopM_0 XIrCopM_0 (y := (Sum.inl y)) h
theorem LrCopM_0b_of {s : Q} {y : Nat × List PV × Nat} (h : RrCopM_0 s = exO (XrCopM_0b y)) : LrCopM_0 s = some (Sum.inr y) := lpO_of IrCopM_0 XIrCopM_0 (y := (Sum.inr y)) h
theorem UrCopM : uniq ((blocksOf a27.body).map (·.1)) = true := by kernel_rfl
def BrCopM_0a (F : FnT) (N : QO) (E : EO) (_L0 : Q → Option YrCopM_0) (n0 : Nat) (c1 : List PV) : Option (Ext × S) :=
  bif (decide ((0 : Int) < (n0 : Int))) then
    bif (decide (((0 : Int) ≤ (0 : Int)) ∧ ((0 : Int) < (n0 : Int)))) then
      bindO (listC (c1[0]?)) fun x0 =>
      bindO (F 78 (RSh.one CK.list) [(PV.list x0.1 x0.2)]) fun (y1 : ((Nat) × (List PV))) =>
      N (TrCopM_0b n0 c1 1 [(PV.list y1.1 y1.2)] (1 : Int) 1)
    else none
  else E (XrCopM_0a ())
theorem BrCopM_0a_eq (F : FnT) (N : QO) (E : EO) (L0 : Q → Option YrCopM_0) (n0 : Nat) (c1 : List PV) : semB (callP F ErCopM 20) s27 (loopT [⟨0, YrCopM_0, L0, XLrCopM_0⟩]) 400 (blkIn a27.body 0) N E (TrCopM_0a n0 c1) = BrCopM_0a F N E L0 n0 c1 := by kernel_rfl
theorem RrCopM_0a_of  (n0 : Nat) (c1 : List PV) {r : Ext × S} (h : BrCopM_0a (Fn env) RrCopM_0 exO LrCopM_0 n0 c1 = some r) : RrCopM_0 (TrCopM_0a n0 c1) = some r :=
  lp_of ErCopM_ok (by kernel_rfl) (lo_cons (lpO_ok UrCopM) lo_nil) (by kernel_rfl) ((BrCopM_0a_eq _ _ _ _ _ _).trans h)
def BrCopM_0b (F : FnT) (N : QO) (E : EO) (_L0 : Q → Option YrCopM_0) (n0 : Nat) (c1 : List PV) (n2 : Nat) (c3 : List PV) (i4 : Int) (n5 : Nat) : Option (Ext × S) :=
  bif (decide (i4 < (n0 : Int))) then
    bif (decide (((0 : Int) ≤ i4) ∧ (i4 < (n0 : Int)))) then
      bindO (listC (c1[((Int.toNat i4) * 1)]?)) fun x0 =>
      bindO (F 78 (RSh.one CK.list) [(PV.list x0.1 x0.2)]) fun (y1 : ((Nat) × (List PV))) =>
      bif (decide ((n5 = n2) ∧ ((n2 + 1) ≤ big))) then
        N (TrCopM_0b n0 c1 (n2 + 1) (c3 ++ [(PV.list y1.1 y1.2)]) (w64 (i4 + (1 : Int))) (n2 + 1))
      else none
    else none
  else E (XrCopM_0b (n2, c3, n5))
theorem BrCopM_0b_eq (F : FnT) (N : QO) (E : EO) (L0 : Q → Option YrCopM_0) (n0 : Nat) (c1 : List PV) (n2 : Nat) (c3 : List PV) (i4 : Int) (n5 : Nat) : semB (callP F ErCopM 20) s27 (loopT [⟨0, YrCopM_0, L0, XLrCopM_0⟩]) 400 (blkIn a27.body 0) N E (TrCopM_0b n0 c1 n2 c3 i4 n5) = BrCopM_0b F N E L0 n0 c1 n2 c3 i4 n5 := by kernel_rfl
theorem RrCopM_0b_of  (n0 : Nat) (c1 : List PV) (n2 : Nat) (c3 : List PV) (i4 : Int) (n5 : Nat) {r : Ext × S} (h : BrCopM_0b (Fn env) RrCopM_0 exO LrCopM_0 n0 c1 n2 c3 i4 n5 = some r) : RrCopM_0 (TrCopM_0b n0 c1 n2 c3 i4 n5) = some r :=
  lp_of ErCopM_ok (by kernel_rfl) (lo_cons (lpO_ok UrCopM) lo_nil) (by kernel_rfl) ((BrCopM_0b_eq _ _ _ _ _ _ _ _ _ _).trans h)
def trCopM (_F : FnT) (L0 : Q → Option YrCopM_0) (p0n : Nat) (p0c : List PV) : Option ((Nat) × (List PV)) :=
  bindO (L0 (TrCopM_0a p0n p0c)) fun z =>
  Sum.elim (fun _y0 =>
    some (0, [])) (fun y1 =>
    bif (decide (y1.2.2 = y1.1)) then
      some (y1.1, y1.2.1)
    else none) z
theorem trCopM_eq (F : FnT) (L0 : Q → Option YrCopM_0) (p0n : Nat) (p0c : List PV) : semF (callP F ErCopM 20) s27 (loopT [⟨0, YrCopM_0, L0, XLrCopM_0⟩]) 400 a27 [PV.list p0n p0c] (fun rv => decR (RSh.one CK.list) rv.pv) = trCopM F L0 p0n p0c := by kernel_rfl
noncomputable abbrev FrCopM (args : List PV) := Fn env 27 (RSh.one CK.list) args
theorem FrCopM_of  (p0n : Nat) (p0c : List PV) {res : ((Nat) × (List PV))} (h : trCopM (Fn env) LrCopM_0 p0n p0c = some res) : FrCopM [PV.list p0n p0c] = some res :=
  fn_of ErCopM_ok rfl rfl (lo_cons (lpO_ok UrCopM) lo_nil) ((trCopM_eq _ _ _ _).trans h)
def EbCopI : List Entry := []
theorem EbCopI_ok : ∀ e ∈ EbCopI, EntOK env e := ent_nil
def tbCopI (_F : FnT) (p0n : Nat) (p0c : List PV) : Option ((Nat) × (List PV)) :=
  bif (decide (p0n = 0)) then
    some (0, [])
  else bif (decide ((List.length p0c) = (p0n * 1))) then
    bif (decide ((0 = 0) ∧ ((0 + p0n) ≤ big))) then
      bif (decide ((0 + p0n) = (0 + p0n))) then
        some ((0 + p0n), ([] ++ p0c))
      else none
    else none
  else none
theorem tbCopI_eq (F : FnT) (p0n : Nat) (p0c : List PV) : semF (callP F EbCopI 20) s78 (loopT []) 400 a78 [PV.list p0n p0c] (fun rv => decR (RSh.one CK.list) rv.pv) = tbCopI F p0n p0c := by kernel_rfl
noncomputable abbrev FbCopI (args : List PV) := Fn env 78 (RSh.one CK.list) args
theorem FbCopI_of  (p0n : Nat) (p0c : List PV) {res : ((Nat) × (List PV))} (h : tbCopI (Fn env) p0n p0c = some res) : FbCopI [PV.list p0n p0c] = some res :=
  fn_of EbCopI_ok rfl rfl lo_nil ((tbCopI_eq _ _ _).trans h)
def EbInts : List Entry := []
theorem EbInts_ok : ∀ e ∈ EbInts, EntOK env e := ent_nil
def TbInts_0a (n0 : Nat) (c1 : List PV) (n2 : Nat) (c3 : List PV) (i4 : Int) : Q := ⟨(tm 26 [(0, (AV.p (PV.list n0 c1))), (1, (AV.p (PV.list n2 c3))), (5, (AV.p (PV.int .i64 i4)))]), (mm 26 [])⟩
def XbInts_0a (_y : Unit) : Ext × Q := (Ext.ret, ⟨(tm 26 [(4, (AV.p (PV.bool false)))]), (mm 26 [])⟩)
def IbInts_0a (_q : Ext × S) : Unit := ()
def XbInts_0b (_y : Unit) : Ext × Q := (Ext.normal, ⟨(tm 26 []), (mm 26 [])⟩)
def IbInts_0b (_q : Ext × S) : Unit := ()
abbrev YbInts_0 : Type := (Unit) ⊕ ((Unit))
def XLbInts_0 : XL YbInts_0 := .more XbInts_0a (.one XbInts_0b)
def IbInts_0 (q : Ext × S) : YbInts_0 := bif (cE q.1 == 2) then (Sum.inl (IbInts_0a q)) else (Sum.inr (IbInts_0b q))
theorem XIbInts_0a (y : Unit) : IbInts_0 (xe (XbInts_0a y)) = (Sum.inl y) := by kernel_rfl
theorem XIbInts_0b (y : Unit) : IbInts_0 (xe (XbInts_0b y)) = (Sum.inr y) := by kernel_rfl
theorem XIbInts_0 (y : YbInts_0) : IbInts_0 (xe (XLbInts_0.fn y)) = y := (match y with | .inl y => XIbInts_0a y | .inr y => XIbInts_0b y)
noncomputable abbrev LbInts_0 : Q → Option YbInts_0 := lpO env a32.body 0 XLbInts_0
noncomputable abbrev RbInts_0 : Q → Option (Ext × S) := lpR env a32.body 0
theorem LbInts_0b_of {s : Q} {y : Unit} (h : RbInts_0 s = exO (XbInts_0b y)) : LbInts_0 s = some (Sum.inr y) := lpO_of IbInts_0 XIbInts_0 (y := (Sum.inr y)) h
theorem UbInts : uniq ((blocksOf a32.body).map (·.1)) = true := by kernel_rfl
def BbInts_0a (_F : FnT) (N : QO) (E : EO) (_L0 : Q → Option YbInts_0) (n0 : Nat) (c1 : List PV) (n2 : Nat) (c3 : List PV) (i4 : Int) : Option (Ext × S) :=
  bif (decide (i4 < (n0 : Int))) then
    bif (decide (((0 : Int) ≤ i4) ∧ (i4 < (n0 : Int)))) then
      bindO (intC .i64 (c1[((Int.toNat i4) * 1)]?)) fun x0 =>
      bif (decide (((0 : Int) ≤ i4) ∧ (i4 < (n2 : Int)))) then
        bindO (intC .i64 (c3[((Int.toNat i4) * 1)]?)) fun x1 =>
        bif (x0 != x1) then
          E (XbInts_0a ())
        else N (TbInts_0a n0 c1 n2 c3 (w64 (i4 + (1 : Int))))
      else none
    else none
  else E (XbInts_0b ())
theorem BbInts_0a_eq (F : FnT) (N : QO) (E : EO) (L0 : Q → Option YbInts_0) (n0 : Nat) (c1 : List PV) (n2 : Nat) (c3 : List PV) (i4 : Int) : semB (callP F EbInts 20) s32 (loopT [⟨0, YbInts_0, L0, XLbInts_0⟩]) 400 (blkIn a32.body 0) N E (TbInts_0a n0 c1 n2 c3 i4) = BbInts_0a F N E L0 n0 c1 n2 c3 i4 := by kernel_rfl
theorem RbInts_0a_of  (n0 : Nat) (c1 : List PV) (n2 : Nat) (c3 : List PV) (i4 : Int) {r : Ext × S} (h : BbInts_0a (Fn env) RbInts_0 exO LbInts_0 n0 c1 n2 c3 i4 = some r) : RbInts_0 (TbInts_0a n0 c1 n2 c3 i4) = some r :=
  lp_of EbInts_ok (by kernel_rfl) (lo_cons (lpO_ok UbInts) lo_nil) (by kernel_rfl) ((BbInts_0a_eq _ _ _ _ _ _ _ _ _).trans h)
def tbInts (_F : FnT) (L0 : Q → Option YbInts_0) (p0n : Nat) (p0c : List PV) (p1n : Nat) (p1c : List PV) : Option (Bool) :=
  bif ((p0n : Int) != (p1n : Int)) then
    some false
  else bindO (L0 (TbInts_0a p0n p0c p1n p1c (0 : Int))) fun z =>
  Sum.elim (fun _y0 =>
    some false) (fun _y1 =>
    some true) z
theorem tbInts_eq (F : FnT) (L0 : Q → Option YbInts_0) (p0n : Nat) (p0c : List PV) (p1n : Nat) (p1c : List PV) : semF (callP F EbInts 20) s32 (loopT [⟨0, YbInts_0, L0, XLbInts_0⟩]) 400 a32 [PV.list p0n p0c, PV.list p1n p1c] (fun rv => decR (RSh.one CK.bool) rv.pv) = tbInts F L0 p0n p0c p1n p1c := by kernel_rfl
noncomputable abbrev FbInts (args : List PV) := Fn env 32 (RSh.one CK.bool) args
theorem FbInts_of  (p0n : Nat) (p0c : List PV) (p1n : Nat) (p1c : List PV) {res : (Bool)} (h : tbInts (Fn env) LbInts_0 p0n p0c p1n p1c = some res) : FbInts [PV.list p0n p0c, PV.list p1n p1c] = some res :=
  fn_of EbInts_ok rfl rfl (lo_cons (lpO_ok UbInts) lo_nil) ((tbInts_eq _ _ _ _ _ _).trans h)
def ErCost : List Entry := []
theorem ErCost_ok : ∀ e ∈ ErCost, EntOK env e := ent_nil
def TrCost_0a (n0 : Nat) (c1 : List PV) (n2 : Nat) (c3 : List PV) (i4 i5 : Int) : Q := ⟨(tm 26 [(0, (AV.p (PV.list n0 c1))), (1, (AV.p (PV.list n2 c3))), (5, (AV.p (PV.int .i64 i4))), (6, (AV.p (PV.int .i64 i5)))]), (mm 26 [])⟩
def XrCost_0a (y : Int) : Ext × Q := (Ext.normal, ⟨(tm 26 [(5, (AV.p (PV.int .i64 y)))]), (mm 26 [])⟩)
def IrCost_0a (q : Ext × S) : Int := (pP_int1 (pA_p (avT q.2 5)))
abbrev YrCost_0 : Type := Int
def XLrCost_0 : XL YrCost_0 := .one XrCost_0a
def IrCost_0 (q : Ext × S) : YrCost_0 := (IrCost_0a q)
theorem XIrCost_0a (y : Int) : IrCost_0 (xe (XrCost_0a y)) = y := by kernel_rfl
theorem XIrCost_0 (y : YrCost_0) : IrCost_0 (xe (XLrCost_0.fn y)) = y := XIrCost_0a y
noncomputable abbrev LrCost_0 : Q → Option YrCost_0 := lpO env a100.body 0 XLrCost_0
noncomputable abbrev RrCost_0 : Q → Option (Ext × S) := lpR env a100.body 0
theorem LrCost_0a_of {s : Q} {y : Int} (h : RrCost_0 s = exO (XrCost_0a y)) : LrCost_0 s = some y := lpO_of IrCost_0 XIrCost_0 (y := y) h
theorem UrCost : uniq ((blocksOf a100.body).map (·.1)) = true := by kernel_rfl
def BrCost_0a (_F : FnT) (N : QO) (E : EO) (_L0 : Q → Option YrCost_0) (n0 : Nat) (c1 : List PV) (n2 : Nat) (c3 : List PV) (i4 i5 : Int) : Option (Ext × S) :=
  bif (decide (i5 < (n2 : Int))) then
    bif (decide (((0 : Int) ≤ i5) ∧ (i5 < (n0 : Int)))) then
      bindO (listC (c1[((Int.toNat i5) * 1)]?)) fun x0 =>
      bif (decide (((0 : Int) ≤ i5) ∧ (i5 < (n2 : Int)))) then
        bindO (intC .i64 (c3[((Int.toNat i5) * 1)]?)) fun x1 =>
        bif (decide (((0 : Int) ≤ x1) ∧ (x1 < (x0.1 : Int)))) then
          bindO (intC .i64 (x0.2[((Int.toNat x1) * 1)]?)) fun x2 =>
          N (TrCost_0a n0 c1 n2 c3 (w64 (i4 + x2)) (w64 (i5 + (1 : Int))))
        else none
      else none
    else none
  else E (XrCost_0a i4)
theorem BrCost_0a_eq (F : FnT) (N : QO) (E : EO) (L0 : Q → Option YrCost_0) (n0 : Nat) (c1 : List PV) (n2 : Nat) (c3 : List PV) (i4 i5 : Int) : semB (callP F ErCost 20) s100 (loopT [⟨0, YrCost_0, L0, XLrCost_0⟩]) 400 (blkIn a100.body 0) N E (TrCost_0a n0 c1 n2 c3 i4 i5) = BrCost_0a F N E L0 n0 c1 n2 c3 i4 i5 := by kernel_rfl
theorem RrCost_0a_of  (n0 : Nat) (c1 : List PV) (n2 : Nat) (c3 : List PV) (i4 i5 : Int) {r : Ext × S} (h : BrCost_0a (Fn env) RrCost_0 exO LrCost_0 n0 c1 n2 c3 i4 i5 = some r) : RrCost_0 (TrCost_0a n0 c1 n2 c3 i4 i5) = some r :=
  lp_of ErCost_ok (by kernel_rfl) (lo_cons (lpO_ok UrCost) lo_nil) (by kernel_rfl) ((BrCost_0a_eq _ _ _ _ _ _ _ _ _ _).trans h)
def trCost (_F : FnT) (L0 : Q → Option YrCost_0) (p0n : Nat) (p0c : List PV) (p1n : Nat) (p1c : List PV) : Option (Int) :=
  bindO (L0 (TrCost_0a p0n p0c p1n p1c (0 : Int) (0 : Int))) fun y0 =>
  some y0
theorem trCost_eq (F : FnT) (L0 : Q → Option YrCost_0) (p0n : Nat) (p0c : List PV) (p1n : Nat) (p1c : List PV) : semF (callP F ErCost 20) s100 (loopT [⟨0, YrCost_0, L0, XLrCost_0⟩]) 400 a100 [PV.list p0n p0c, PV.list p1n p1c] (fun rv => decR (RSh.one (CK.int .i64)) rv.pv) = trCost F L0 p0n p0c p1n p1c := by kernel_rfl
noncomputable abbrev FrCost (args : List PV) := Fn env 100 (RSh.one (CK.int .i64)) args
theorem FrCost_of  (p0n : Nat) (p0c : List PV) (p1n : Nat) (p1c : List PV) {res : (Int)} (h : trCost (Fn env) LrCost_0 p0n p0c p1n p1c = some res) : FrCost [PV.list p0n p0c, PV.list p1n p1c] = some res :=
  fn_of ErCost_ok rfl rfl (lo_cons (lpO_ok UrCost) lo_nil) ((trCost_eq _ _ _ _ _ _).trans h)
def EwCost : List Entry := []
theorem EwCost_ok : ∀ e ∈ EwCost, EntOK env e := ent_nil
def TwCost_0a (n0 : Nat) (c1 : List PV) (i2 : Int) (n3 : Nat) (c4 : List PV) (i5 i6 : Int) : Q := ⟨(tm 26 [(0, (AV.p (PV.list n0 c1))), (5, (AV.p (PV.int .i64 i2))), (8, (AV.p (PV.list n3 c4))), (9, (AV.p (PV.int .i64 i5))), (10, (AV.p (PV.int .i64 i6)))]), (mm 26 [])⟩
def XwCost_0a (y : Int) : Ext × Q := (Ext.normal, ⟨(tm 26 [(5, (AV.p (PV.int .i64 y)))]), (mm 26 [])⟩)
def IwCost_0a (q : Ext × S) : Int := (pP_int1 (pA_p (avT q.2 5)))
abbrev YwCost_0 : Type := Int
def XLwCost_0 : XL YwCost_0 := .one XwCost_0a
def IwCost_0 (q : Ext × S) : YwCost_0 := (IwCost_0a q)
theorem XIwCost_0a (y : Int) : IwCost_0 (xe (XwCost_0a y)) = y := by kernel_rfl
theorem XIwCost_0 (y : YwCost_0) : IwCost_0 (xe (XLwCost_0.fn y)) = y := XIwCost_0a y
noncomputable abbrev LwCost_0 : Q → Option YwCost_0 := lpO env a95.body 0 XLwCost_0
noncomputable abbrev RwCost_0 : Q → Option (Ext × S) := lpR env a95.body 0
theorem LwCost_0a_of {s : Q} {y : Int} (h : RwCost_0 s = exO (XwCost_0a y)) : LwCost_0 s = some y := lpO_of IwCost_0 XIwCost_0 (y := y) h
theorem UwCost : uniq ((blocksOf a95.body).map (·.1)) = true := by kernel_rfl
def BwCost_0a (_F : FnT) (N : QO) (E : EO) (_L0 : Q → Option YwCost_0) (n0 : Nat) (c1 : List PV) (i2 : Int) (n3 : Nat) (c4 : List PV) (i5 i6 : Int) : Option (Ext × S) :=
  bif (decide (i6 < i5)) then
    bif (decide (((0 : Int) ≤ i6) ∧ (i6 < (n3 : Int)))) then
      bindO (intC .i64 (c4[((Int.toNat i6) * 1)]?)) fun x0 =>
      bif (decide (((0 : Int) ≤ i6) ∧ (i6 < (n0 : Int)))) then
        bindO (listC (c1[((Int.toNat i6) * 1)]?)) fun x1 =>
        bif (decide (((0 : Int) ≤ x0) ∧ (x0 < (x1.1 : Int)))) then
          bindO (intC .i64 (x1.2[((Int.toNat x0) * 1)]?)) fun x2 =>
          N (TwCost_0a n0 c1 (w64 (i2 + x2)) n3 c4 i5 (w64 (i6 + (1 : Int))))
        else none
      else none
    else none
  else E (XwCost_0a i2)
theorem BwCost_0a_eq (F : FnT) (N : QO) (E : EO) (L0 : Q → Option YwCost_0) (n0 : Nat) (c1 : List PV) (i2 : Int) (n3 : Nat) (c4 : List PV) (i5 i6 : Int) : semB (callP F EwCost 20) s95 (loopT [⟨0, YwCost_0, L0, XLwCost_0⟩]) 400 (blkIn a95.body 0) N E (TwCost_0a n0 c1 i2 n3 c4 i5 i6) = BwCost_0a F N E L0 n0 c1 i2 n3 c4 i5 i6 := by kernel_rfl
theorem RwCost_0a_of  (n0 : Nat) (c1 : List PV) (i2 : Int) (n3 : Nat) (c4 : List PV) (i5 i6 : Int) {r : Ext × S} (h : BwCost_0a (Fn env) RwCost_0 exO LwCost_0 n0 c1 i2 n3 c4 i5 i6 = some r) : RwCost_0 (TwCost_0a n0 c1 i2 n3 c4 i5 i6) = some r :=
  lp_of EwCost_ok (by kernel_rfl) (lo_cons (lpO_ok UwCost) lo_nil) (by kernel_rfl) ((BwCost_0a_eq _ _ _ _ _ _ _ _ _ _ _).trans h)
def twCost (_F : FnT) (L0 : Q → Option YwCost_0) (p0n : Nat) (p0c : List PV) (p1n : Nat) (p1c : List PV) : Option (Int) :=
  bindO (L0 (TwCost_0a p0n p0c (0 : Int) p1n p1c (p1n : Int) (0 : Int))) fun y0 =>
  some y0
theorem twCost_eq (F : FnT) (L0 : Q → Option YwCost_0) (p0n : Nat) (p0c : List PV) (p1n : Nat) (p1c : List PV) : semF (callP F EwCost 20) s95 (loopT [⟨0, YwCost_0, L0, XLwCost_0⟩]) 400 a95 [PV.list p0n p0c, PV.list p1n p1c] (fun rv => decR (RSh.one (CK.int .i64)) rv.pv) = twCost F L0 p0n p0c p1n p1c := by kernel_rfl
noncomputable abbrev FwCost (args : List PV) := Fn env 95 (RSh.one (CK.int .i64)) args
theorem FwCost_of  (p0n : Nat) (p0c : List PV) (p1n : Nat) (p1c : List PV) {res : (Int)} (h : twCost (Fn env) LwCost_0 p0n p0c p1n p1c = some res) : FwCost [PV.list p0n p0c, PV.list p1n p1c] = some res :=
  fn_of EwCost_ok rfl rfl (lo_cons (lpO_ok UwCost) lo_nil) ((twCost_eq _ _ _ _ _ _).trans h)
end Gv

/- What the functions do, round by round: B6. -/
namespace Gv
open Go
set_option maxRecDepth 100000
end Gv

/- What the functions do, round by round: B7. -/
namespace Gv
open Go
set_option maxRecDepth 100000
def ErChe : List Entry := [.out 99 (RSh.one CK.list), .out 100 (RSh.one (CK.int .i64))]
theorem ErChe_ok : ∀ e ∈ ErChe, EntOK env e := (ent_out (ent_out ent_nil))
def TrChe_0a (n0 : Nat) (c1 : List PV) (n2 : Nat) (c3 : List PV) (i4 i5 : Int) : Q := ⟨(tm 54 [(0, (AV.p (PV.list n0 c1))), (4, (AV.p (PV.list n2 c3))), (5, (AV.p (PV.int .i64 i4))), (6, (AV.p (PV.int .i64 i5)))]), (mm 54 [])⟩
def XrChe_0a (y : Nat × List PV × Nat × List PV × Int) : Ext × Q := (Ext.normal, ⟨(tm 54 [(0, (AV.p (PV.list y.1 y.2.1))), (4, (AV.p (PV.list y.2.2.1 y.2.2.2.1))), (5, (AV.p (PV.int .i64 y.2.2.2.2)))]), (mm 54 [])⟩)
def IrChe_0a (q : Ext × S) : Nat × List PV × Nat × List PV × Int := ((pP_list0 (pA_p (avT q.2 0))), (pP_list1 (pA_p (avT q.2 0))), (pP_list0 (pA_p (avT q.2 4))), (pP_list1 (pA_p (avT q.2 4))), (pP_int1 (pA_p (avT q.2 5))))
abbrev YrChe_0 : Type := Nat × List PV × Nat × List PV × Int
def XLrChe_0 : XL YrChe_0 := .one XrChe_0a
def IrChe_0 (q : Ext × S) : YrChe_0 := (IrChe_0a q)
theorem XIrChe_0a (y : Nat × List PV × Nat × List PV × Int) : IrChe_0 (xe (XrChe_0a y)) = y := by kernel_rfl
theorem XIrChe_0 (y : YrChe_0) : IrChe_0 (xe (XLrChe_0.fn y)) = y := XIrChe_0a y
noncomputable abbrev LrChe_0 : Q → Option YrChe_0 := lpO env a31.body 0 XLrChe_0
noncomputable abbrev RrChe_0 : Q → Option (Ext × S) := lpR env a31.body 0
theorem LrChe_0a_of {s : Q} {y : Nat × List PV × Nat × List PV × Int} (h : RrChe_0 s = exO (XrChe_0a y)) : LrChe_0 s = some y := lpO_of IrChe_0 XIrChe_0 (y := y) h
def TrChe_2a (n0 : Nat) (c1 : List PV) (n2 : Nat) (c3 : List PV) (i4 i5 : Int) : Q := ⟨(tm 54 [(0, (AV.p (PV.list n0 c1))), (4, (AV.p (PV.list n2 c3))), (5, (AV.p (PV.int .i64 i4))), (7, AV.nilS), (8, (AV.p (PV.int .i64 i5)))]), (mm 54 [])⟩
def TrChe_2b (n0 : Nat) (c1 : List PV) (n2 : Nat) (c3 : List PV) (i4 : Int) (n5 : Nat) (c6 : List PV) (i7 : Int) (n8 : Nat) : Q := ⟨(tm 54 [(0, (AV.p (PV.list n0 c1))), (4, (AV.p (PV.list n2 c3))), (5, (AV.p (PV.int .i64 i4))), (7, (AV.app 51 n5 1 c6)), (8, (AV.p (PV.int .i64 i7)))]), (mm 54 [(51, (Bk.buf n8))])⟩
def XrChe_2a (y : Int) : Ext × Q := (Ext.normal, ⟨(tm 54 [(5, (AV.p (PV.int .i64 y))), (7, AV.nilS)]), (mm 54 [])⟩)
def IrChe_2a (q : Ext × S) : Int := (pP_int1 (pA_p (avT q.2 5)))
def XrChe_2b (y : Int × Nat × List PV × Nat) : Ext × Q := (Ext.normal, ⟨(tm 54 [(5, (AV.p (PV.int .i64 y.1))), (7, (AV.app 51 y.2.1 1 y.2.2.1))]), (mm 54 [(51, (Bk.buf y.2.2.2))])⟩)
def IrChe_2b (q : Ext × S) : Int × Nat × List PV × Nat := ((pP_int1 (pA_p (avT q.2 5))), (pA_app1 (avT q.2 7)), (pA_app3 (avT q.2 7)), (pB_buf0 (avM q.2 51)))
abbrev YrChe_2 : Type := (Int) ⊕ ((Int × Nat × List PV × Nat))
def XLrChe_2 : XL YrChe_2 := .more XrChe_2a (.one XrChe_2b)
def IrChe_2 (q : Ext × S) : YrChe_2 := bif (cA (avT q.2 7) == 1) then (Sum.inl (IrChe_2a q)) else (Sum.inr (IrChe_2b q))
theorem XIrChe_2a (y : Int) : IrChe_2 (xe (XrChe_2a y)) = (Sum.inl y) := by kernel_rfl
theorem XIrChe_2b (y : Int × Nat × List PV × Nat) : IrChe_2 (xe (XrChe_2b y)) = (Sum.inr y) := by kernel_rfl
theorem XIrChe_2 (y : YrChe_2) : IrChe_2 (xe (XLrChe_2.fn y)) = y := (match y with | .inl y => XIrChe_2a y | .inr y => XIrChe_2b y)
noncomputable abbrev LrChe_2 : Q → Option YrChe_2 := lpO env a31.body 2 XLrChe_2
noncomputable abbrev RrChe_2 : Q → Option (Ext × S) := lpR env a31.body 2
theorem LrChe_2b_of {s : Q} {y : Int × Nat × List PV × Nat} (h : RrChe_2 s = exO (XrChe_2b y)) : LrChe_2 s = some (Sum.inr y) := lpO_of IrChe_2 XIrChe_2 (y := (Sum.inr y)) h
theorem UrChe : uniq ((blocksOf a31.body).map (·.1)) = true := by kernel_rfl
def BrChe_0a (F : FnT) (N : QO) (E : EO) (_L0 : Q → Option YrChe_0) (_L2 : Q → Option YrChe_2) (n0 : Nat) (c1 : List PV) (n2 : Nat) (c3 : List PV) (i4 i5 : Int) : Option (Ext × S) :=
  bif (decide (i5 < (n2 : Int))) then
    bif (decide (((0 : Int) ≤ i5) ∧ (i5 < (n2 : Int)))) then
      bindO (listC (c3[((Int.toNat i5) * 1)]?)) fun x0 =>
      bindO (F 100 (RSh.one (CK.int .i64)) [(PV.list n0 c1), (PV.list x0.1 x0.2)]) fun (y1 : (Int)) =>
      N (TrChe_0a n0 c1 n2 c3 (if (y1 < i4) then y1 else i4) (w64 (i5 + (1 : Int))))
    else none
  else E (XrChe_0a (n0, c1, n2, c3, i4))
theorem BrChe_0a_eq (F : FnT) (N : QO) (E : EO) (L0 : Q → Option YrChe_0) (L2 : Q → Option YrChe_2) (n0 : Nat) (c1 : List PV) (n2 : Nat) (c3 : List PV) (i4 i5 : Int) : semB (callP F ErChe 20) s31 (loopT [⟨0, YrChe_0, L0, XLrChe_0⟩, ⟨2, YrChe_2, L2, XLrChe_2⟩]) 400 (blkIn a31.body 0) N E (TrChe_0a n0 c1 n2 c3 i4 i5) = BrChe_0a F N E L0 L2 n0 c1 n2 c3 i4 i5 := by kernel_rfl
theorem RrChe_0a_of  (n0 : Nat) (c1 : List PV) (n2 : Nat) (c3 : List PV) (i4 i5 : Int) {r : Ext × S} (h : BrChe_0a (Fn env) RrChe_0 exO LrChe_0 LrChe_2 n0 c1 n2 c3 i4 i5 = some r) : RrChe_0 (TrChe_0a n0 c1 n2 c3 i4 i5) = some r :=
  lp_of ErChe_ok (by kernel_rfl) (lo_cons (lpO_ok UrChe) (lo_cons (lpO_ok UrChe) lo_nil)) (by kernel_rfl) ((BrChe_0a_eq _ _ _ _ _ _ _ _ _ _ _).trans h)
def BrChe_2a (F : FnT) (N : QO) (E : EO) (_L0 : Q → Option YrChe_0) (_L2 : Q → Option YrChe_2) (n0 : Nat) (c1 : List PV) (n2 : Nat) (c3 : List PV) (i4 i5 : Int) : Option (Ext × S) :=
  bif (decide (i5 < (n2 : Int))) then
    bif (decide (((0 : Int) ≤ i5) ∧ (i5 < (n2 : Int)))) then
      bindO (listC (c3[((Int.toNat i5) * 1)]?)) fun x0 =>
      bindO (F 100 (RSh.one (CK.int .i64)) [(PV.list n0 c1), (PV.list x0.1 x0.2)]) fun (y1 : (Int)) =>
      bif (y1 == i4) then
        bif (decide (((0 : Int) ≤ i5) ∧ (i5 < (n2 : Int)))) then
          bindO (listC (c3[((Int.toNat i5) * 1)]?)) fun x2 =>
          N (TrChe_2b n0 c1 n2 c3 i4 1 [(PV.list x2.1 x2.2)] (w64 (i5 + (1 : Int))) 1)
        else none
      else N (TrChe_2a n0 c1 n2 c3 i4 (w64 (i5 + (1 : Int))))
    else none
  else E (XrChe_2a i4)
theorem BrChe_2a_eq (F : FnT) (N : QO) (E : EO) (L0 : Q → Option YrChe_0) (L2 : Q → Option YrChe_2) (n0 : Nat) (c1 : List PV) (n2 : Nat) (c3 : List PV) (i4 i5 : Int) : semB (callP F ErChe 20) s31 (loopT [⟨0, YrChe_0, L0, XLrChe_0⟩, ⟨2, YrChe_2, L2, XLrChe_2⟩]) 400 (blkIn a31.body 2) N E (TrChe_2a n0 c1 n2 c3 i4 i5) = BrChe_2a F N E L0 L2 n0 c1 n2 c3 i4 i5 := by kernel_rfl
theorem RrChe_2a_of  (n0 : Nat) (c1 : List PV) (n2 : Nat) (c3 : List PV) (i4 i5 : Int) {r : Ext × S} (h : BrChe_2a (Fn env) RrChe_2 exO LrChe_0 LrChe_2 n0 c1 n2 c3 i4 i5 = some r) : RrChe_2 (TrChe_2a n0 c1 n2 c3 i4 i5) = some r :=
  lp_of ErChe_ok (by kernel_rfl) (lo_cons (lpO_ok UrChe) (lo_cons (lpO_ok UrChe) lo_nil)) (by kernel_rfl) ((BrChe_2a_eq _ _ _ _ _ _ _ _ _ _ _).trans h)
def BrChe_2b (F : FnT) (N : QO) (E : EO) (_L0 : Q → Option YrChe_0) (_L2 : Q → Option YrChe_2) (n0 : Nat) (c1 : List PV) (n2 : Nat) (c3 : List PV) (i4 : Int) (n5 : Nat) (c6 : List PV) (i7 : Int) (n8 : Nat) : Option (Ext × S) :=
  bif (decide (i7 < (n2 : Int))) then
    bif (decide (((0 : Int) ≤ i7) ∧ (i7 < (n2 : Int)))) then
      bindO (listC (c3[((Int.toNat i7) * 1)]?)) fun x0 =>
      bindO (F 100 (RSh.one (CK.int .i64)) [(PV.list n0 c1), (PV.list x0.1 x0.2)]) fun (y1 : (Int)) =>
      bif (y1 == i4) then
        bif (decide (((0 : Int) ≤ i7) ∧ (i7 < (n2 : Int)))) then
          bindO (listC (c3[((Int.toNat i7) * 1)]?)) fun x2 =>
          bif (decide ((n8 = n5) ∧ ((n5 + 1) ≤ big))) then
            N (TrChe_2b n0 c1 n2 c3 i4 (n5 + 1) (c6 ++ [(PV.list x2.1 x2.2)]) (w64 (i7 + (1 : Int))) (n5 + 1))
          else none
        else none
      else N (TrChe_2b n0 c1 n2 c3 i4 n5 c6 (w64 (i7 + (1 : Int))) n8)
    else none
  else E (XrChe_2b (i4, n5, c6, n8))
theorem BrChe_2b_eq (F : FnT) (N : QO) (E : EO) (L0 : Q → Option YrChe_0) (L2 : Q → Option YrChe_2) (n0 : Nat) (c1 : List PV) (n2 : Nat) (c3 : List PV) (i4 : Int) (n5 : Nat) (c6 : List PV) (i7 : Int) (n8 : Nat) : semB (callP F ErChe 20) s31 (loopT [⟨0, YrChe_0, L0, XLrChe_0⟩, ⟨2, YrChe_2, L2, XLrChe_2⟩]) 400 (blkIn a31.body 2) N E (TrChe_2b n0 c1 n2 c3 i4 n5 c6 i7 n8) = BrChe_2b F N E L0 L2 n0 c1 n2 c3 i4 n5 c6 i7 n8 := by kernel_rfl
theorem RrChe_2b_of  (n0 : Nat) (c1 : List PV) (n2 : Nat) (c3 : List PV) (i4 : Int) (n5 : Nat) (c6 : List PV) (i7 : Int) (n8 : Nat) {r : Ext × S} (h : BrChe_2b (Fn env) RrChe_2 exO LrChe_0 LrChe_2 n0 c1 n2 c3 i4 n5 c6 i7 n8 = some r) : RrChe_2 (TrChe_2b n0 c1 n2 c3 i4 n5 c6 i7 n8) = some r :=
  lp_of ErChe_ok (by kernel_rfl) (lo_cons (lpO_ok UrChe) (lo_cons (lpO_ok UrChe) lo_nil)) (by kernel_rfl) ((BrChe_2b_eq _ _ _ _ _ _ _ _ _ _ _ _ _ _).trans h)
def trChe (F : FnT) (L0 : Q → Option YrChe_0) (L2 : Q → Option YrChe_2) (p0n : Nat) (p0c : List PV) : Option (((Nat) × (List PV)) × (Int)) :=
  bindO (F 99 (RSh.one CK.list) [(PV.int .i64 (p0n : Int))]) fun (y0 : ((Nat) × (List PV))) =>
  bif (decide (((0 : Int) ≤ (0 : Int)) ∧ ((0 : Int) < (y0.1 : Int)))) then
    bindO (listC (y0.2[0]?)) fun x1 =>
    bindO (F 100 (RSh.one (CK.int .i64)) [(PV.list p0n p0c), (PV.list x1.1 x1.2)]) fun (y2 : (Int)) =>
    bindO (L0 (TrChe_0a p0n p0c y0.1 y0.2 y2 (1 : Int))) fun y3 =>
    bindO (L2 (TrChe_2a y3.1 y3.2.1 y3.2.2.1 y3.2.2.2.1 y3.2.2.2.2 (0 : Int))) fun z =>
    Sum.elim (fun y4 =>
      some ((0, []), y4)) (fun y5 =>
      some ((y5.2.1, y5.2.2.1), y5.1)) z
  else none
theorem trChe_eq (F : FnT) (L0 : Q → Option YrChe_0) (L2 : Q → Option YrChe_2) (p0n : Nat) (p0c : List PV) : semF (callP F ErChe 20) s31 (loopT [⟨0, YrChe_0, L0, XLrChe_0⟩, ⟨2, YrChe_2, L2, XLrChe_2⟩]) 400 a31 [PV.list p0n p0c] (fun rv => decR (RSh.tup [(Prod.mk false [CK.list]), (Prod.mk false [(CK.int .i64)])]) rv.pv) = trChe F L0 L2 p0n p0c := by kernel_rfl
noncomputable abbrev FrChe (args : List PV) := Fn env 31 (RSh.tup [(Prod.mk false [CK.list]), (Prod.mk false [(CK.int .i64)])]) args
theorem FrChe_of  (p0n : Nat) (p0c : List PV) {res : (((Nat) × (List PV)) × (Int))} (h : trChe (Fn env) LrChe_0 LrChe_2 p0n p0c = some res) : FrChe [PV.list p0n p0c] = some res :=
  fn_of ErChe_ok rfl rfl (lo_cons (lpO_ok UrChe) (lo_cons (lpO_ok UrChe) lo_nil)) ((trChe_eq _ _ _ _ _).trans h)
def ErCer : List Entry := [.out 31 (RSh.tup [(Prod.mk false [CK.list]), (Prod.mk false [(CK.int .i64)])])]
theorem ErCer_ok : ∀ e ∈ ErCer, EntOK env e := (ent_out ent_nil)
def TrCer_0a (n0 : Nat) (c1 : List PV) (n2 : Nat) (c3 : List PV) (i4 : Int) : Q := ⟨(tm 49 [(0, (AV.p (PV.list n0 c1))), (3, (AV.p (PV.list n2 c3))), (5, AV.nilS), (6, (AV.p (PV.int .i64 i4)))]), (mm 49 [])⟩
def TrCer_0b (n0 : Nat) (c1 : List PV) (n2 : Nat) (c3 : List PV) (n4 : Nat) (c5 : List PV) (i6 : Int) (n7 : Nat) : Q := ⟨(tm 49 [(0, (AV.p (PV.list n0 c1))), (3, (AV.p (PV.list n2 c3))), (5, (AV.app 47 n4 1 c5)), (6, (AV.p (PV.int .i64 i6)))]), (mm 49 [(47, (Bk.buf n7))])⟩
def XrCer_0a (_y : Unit) : Ext × Q := (Ext.normal, ⟨(tm 49 [(5, AV.nilS)]), (mm 49 [])⟩)
def IrCer_0a (_q : Ext × S) : Unit := ()
def XrCer_0b (y : Nat × List PV × Nat) : Ext × Q := (Ext.normal, ⟨(tm 49 [(5, (AV.app 47 y.1 1 y.2.1))]), (mm 49 [(47, (Bk.buf y.2.2))])⟩)
def IrCer_0b (q : Ext × S) : Nat × List PV × Nat := ((pA_app1 (avT q.2 5)), (pA_app3 (avT q.2 5)), (pB_buf0 (avM q.2 47)))
abbrev YrCer_0 : Type := (Unit) ⊕ ((Nat × List PV × Nat))
def XLrCer_0 : XL YrCer_0 := .more XrCer_0a (.one XrCer_0b)
def IrCer_0 (q : Ext × S) : YrCer_0 := bif (cA (avT q.2 5) == 1) then (Sum.inl (IrCer_0a q)) else (Sum.inr (IrCer_0b q))
theorem XIrCer_0a (y : Unit) : IrCer_0 (xe (XrCer_0a y)) = (Sum.inl y) := by kernel_rfl
theorem XIrCer_0b (y : Nat × List PV × Nat) : IrCer_0 (xe (XrCer_0b y)) = (Sum.inr y) := by kernel_rfl
theorem XIrCer_0 (y : YrCer_0) : IrCer_0 (xe (XLrCer_0.fn y)) = y := (match y with | .inl y => XIrCer_0a y | .inr y => XIrCer_0b y)
noncomputable abbrev LrCer_0 : Q → Option YrCer_0 := lpO env a33.body 0 XLrCer_0
noncomputable abbrev RrCer_0 : Q → Option (Ext × S) := lpR env a33.body 0
theorem LrCer_0a_of {s : Q} {y : Unit} (h : RrCer_0 s = exO (XrCer_0a y)) : LrCer_0 s = some (Sum.inl y) := lpO_of IrCer_0 XIrCer_0 (y := (Sum.inl y)) h
theorem LrCer_0b_of {s : Q} {y : Nat × List PV × Nat} (h : RrCer_0 s = exO (XrCer_0b y)) : LrCer_0 s = some (Sum.inr y) := lpO_of IrCer_0 XIrCer_0 (y := (Sum.inr y)) h
def TrCer_2a (n0 : Nat) (c1 : List PV) (n2 : Nat) (c3 : List PV) (i4 : Int) (b5 : Bool) (i6 : Int) : Q := ⟨(tm 49 [(0, (AV.p (PV.list n0 c1))), (3, (AV.p (PV.list n2 c3))), (5, AV.nilS), (6, (AV.p (PV.int .i64 i4))), (7, (AV.p (PV.bool b5))), (8, (AV.p (PV.int .i64 i6)))]), (mm 49 [])⟩
def TrCer_2b (n0 : Nat) (c1 : List PV) (n2 : Nat) (c3 : List PV) (n4 : Nat) (c5 : List PV) (i6 : Int) (b7 : Bool) (i8 : Int) (n9 : Nat) : Q := ⟨(tm 49 [(0, (AV.p (PV.list n0 c1))), (3, (AV.p (PV.list n2 c3))), (5, (AV.app 47 n4 1 c5)), (6, (AV.p (PV.int .i64 i6))), (7, (AV.p (PV.bool b7))), (8, (AV.p (PV.int .i64 i8)))]), (mm 49 [(47, (Bk.buf n9))])⟩
def XrCer_2a (y : Nat × List PV × Nat × List PV × Int × Bool) : Ext × Q := (Ext.normal, ⟨(tm 49 [(0, (AV.p (PV.list y.1 y.2.1))), (3, (AV.p (PV.list y.2.2.1 y.2.2.2.1))), (5, AV.nilS), (6, (AV.p (PV.int .i64 y.2.2.2.2.1))), (7, (AV.p (PV.bool y.2.2.2.2.2)))]), (mm 49 [])⟩)
def IrCer_2a (q : Ext × S) : Nat × List PV × Nat × List PV × Int × Bool := ((pP_list0 (pA_p (avT q.2 0))), (pP_list1 (pA_p (avT q.2 0))), (pP_list0 (pA_p (avT q.2 3))), (pP_list1 (pA_p (avT q.2 3))), (pP_int1 (pA_p (avT q.2 6))), (pP_bool0 (pA_p (avT q.2 7))))
def XrCer_2b (y : Nat × List PV × Nat × List PV × Nat × List PV × Int × Bool × Nat) : Ext × Q := (Ext.normal, ⟨(tm 49 [(0, (AV.p (PV.list y.1 y.2.1))), (3, (AV.p (PV.list y.2.2.1 y.2.2.2.1))), (5, (AV.app 47 y.2.2.2.2.1 1 y.2.2.2.2.2.1)), (6, (AV.p (PV.int .i64 y.2.2.2.2.2.2.1))), (7, (AV.p (PV.bool y.2.2.2.2.2.2.2.1)))]), (mm 49 [(47, (Bk.buf y.2.2.2.2.2.2.2.2))])⟩)
def IrCer_2b (q : Ext × S) : Nat × List PV × Nat × List PV × Nat × List PV × Int × Bool × Nat := ((pP_list0 (pA_p (avT q.2 0))), (pP_list1 (pA_p (avT q.2 0))), (pP_list0 (pA_p (avT q.2 3))), (pP_list1 (pA_p (avT q.2 3))), (pA_app1 (avT q.2 5)), (pA_app3 (avT q.2 5)), (pP_int1 (pA_p (avT q.2 6))), (pP_bool0 (pA_p (avT q.2 7))), (pB_buf0 (avM q.2 47)))
abbrev YrCer_2 : Type := (Nat × List PV × Nat × List PV × Int × Bool) ⊕ ((Nat × List PV × Nat × List PV × Nat × List PV × Int × Bool × Nat))
def XLrCer_2 : XL YrCer_2 := .more XrCer_2a (.one XrCer_2b)
def IrCer_2 (q : Ext × S) : YrCer_2 := bif (cA (avT q.2 5) == 1) then (Sum.inl (IrCer_2a q)) else (Sum.inr (IrCer_2b q))
theorem XIrCer_2a (y : Nat × List PV × Nat × List PV × Int × Bool) : IrCer_2 (xe (XrCer_2a y)) = (Sum.inl y) := by kernel_rfl
theorem XIrCer_2b (y : Nat × List PV × Nat × List PV × Nat × List PV × Int × Bool × Nat) : IrCer_2 (xe (XrCer_2b y)) = (Sum.inr y) := by kernel_rfl
theorem XIrCer_2 (y : YrCer_2) : IrCer_2 (xe (XLrCer_2.fn y)) = y := (match y with | .inl y => XIrCer_2a y | .inr y => XIrCer_2b y)
noncomputable abbrev LrCer_2 : Q → Option YrCer_2 := lpO env a33.body 2 XLrCer_2
noncomputable abbrev RrCer_2 : Q → Option (Ext × S) := lpR env a33.body 2
theorem LrCer_2a_of {s : Q} {y : Nat × List PV × Nat × List PV × Int × Bool} (h : RrCer_2 s = exO (XrCer_2a y)) : LrCer_2 s = some (Sum.inl y) := lpO_of IrCer_2 XIrCer_2 (y := (Sum.inl y)) h
theorem LrCer_2b_of {s : Q} {y : Nat × List PV × Nat × List PV × Nat × List PV × Int × Bool × Nat} (h : RrCer_2 s = exO (XrCer_2b y)) : LrCer_2 s = some (Sum.inr y) := lpO_of IrCer_2 XIrCer_2 (y := (Sum.inr y)) h
theorem UrCer : uniq ((blocksOf a33.body).map (·.1)) = true := by kernel_rfl
def BrCer_0a (_F : FnT) (N : QO) (E : EO) (_L0 : Q → Option YrCer_0) (L2 : Q → Option YrCer_2) (n0 : Nat) (c1 : List PV) (n2 : Nat) (c3 : List PV) (i4 : Int) : Option (Ext × S) :=
  bif (decide (i4 < (n0 : Int))) then
    bindO (L2 (TrCer_2a n0 c1 n2 c3 i4 true (0 : Int))) fun z =>
    Sum.elim (fun y0 =>
      bif y0.2.2.2.2.2 then
        N (TrCer_0b y0.1 y0.2.1 y0.2.2.1 y0.2.2.2.1 1 [(PV.int .i64 y0.2.2.2.2.1)] (w64 (y0.2.2.2.2.1 + (1 : Int))) 1)
      else N (TrCer_0a y0.1 y0.2.1 y0.2.2.1 y0.2.2.2.1 (w64 (y0.2.2.2.2.1 + (1 : Int))))) (fun y1 =>
      bif y1.2.2.2.2.2.2.2.1 then
        bif (decide ((y1.2.2.2.2.2.2.2.2 = y1.2.2.2.2.1) ∧ ((y1.2.2.2.2.1 + 1) ≤ big))) then
          N (TrCer_0b y1.1 y1.2.1 y1.2.2.1 y1.2.2.2.1 (y1.2.2.2.2.1 + 1) (y1.2.2.2.2.2.1 ++ [(PV.int .i64 y1.2.2.2.2.2.2.1)]) (w64 (y1.2.2.2.2.2.2.1 + (1 : Int))) (y1.2.2.2.2.1 + 1))
        else none
      else N (TrCer_0b y1.1 y1.2.1 y1.2.2.1 y1.2.2.2.1 y1.2.2.2.2.1 y1.2.2.2.2.2.1 (w64 (y1.2.2.2.2.2.2.1 + (1 : Int))) y1.2.2.2.2.2.2.2.2)) z
  else E (XrCer_0a ())
theorem BrCer_0a_eq (F : FnT) (N : QO) (E : EO) (L0 : Q → Option YrCer_0) (L2 : Q → Option YrCer_2) (n0 : Nat) (c1 : List PV) (n2 : Nat) (c3 : List PV) (i4 : Int) : semB (callP F ErCer 20) s33 (loopT [⟨0, YrCer_0, L0, XLrCer_0⟩, ⟨2, YrCer_2, L2, XLrCer_2⟩]) 400 (blkIn a33.body 0) N E (TrCer_0a n0 c1 n2 c3 i4) = BrCer_0a F N E L0 L2 n0 c1 n2 c3 i4 := by kernel_rfl
theorem RrCer_0a_of  (n0 : Nat) (c1 : List PV) (n2 : Nat) (c3 : List PV) (i4 : Int) {r : Ext × S} (h : BrCer_0a (Fn env) RrCer_0 exO LrCer_0 LrCer_2 n0 c1 n2 c3 i4 = some r) : RrCer_0 (TrCer_0a n0 c1 n2 c3 i4) = some r :=
  lp_of ErCer_ok (by kernel_rfl) (lo_cons (lpO_ok UrCer) (lo_cons (lpO_ok UrCer) lo_nil)) (by kernel_rfl) ((BrCer_0a_eq _ _ _ _ _ _ _ _ _ _).trans h)
def BrCer_0b (_F : FnT) (N : QO) (E : EO) (_L0 : Q → Option YrCer_0) (L2 : Q → Option YrCer_2) (n0 : Nat) (c1 : List PV) (n2 : Nat) (c3 : List PV) (n4 : Nat) (c5 : List PV) (i6 : Int) (n7 : Nat) : Option (Ext × S) :=
  bif (decide (i6 < (n0 : Int))) then
    bindO (L2 (TrCer_2b n0 c1 n2 c3 n4 c5 i6 true (0 : Int) n7)) fun z =>
    Sum.elim (fun y0 =>
      bif y0.2.2.2.2.2 then
        N (TrCer_0b y0.1 y0.2.1 y0.2.2.1 y0.2.2.2.1 1 [(PV.int .i64 y0.2.2.2.2.1)] (w64 (y0.2.2.2.2.1 + (1 : Int))) 1)
      else N (TrCer_0a y0.1 y0.2.1 y0.2.2.1 y0.2.2.2.1 (w64 (y0.2.2.2.2.1 + (1 : Int))))) (fun y1 =>
      bif y1.2.2.2.2.2.2.2.1 then
        bif (decide ((y1.2.2.2.2.2.2.2.2 = y1.2.2.2.2.1) ∧ ((y1.2.2.2.2.1 + 1) ≤ big))) then
          N (TrCer_0b y1.1 y1.2.1 y1.2.2.1 y1.2.2.2.1 (y1.2.2.2.2.1 + 1) (y1.2.2.2.2.2.1 ++ [(PV.int .i64 y1.2.2.2.2.2.2.1)]) (w64 (y1.2.2.2.2.2.2.1 + (1 : Int))) (y1.2.2.2.2.1 + 1))
        else none
      else N (TrCer_0b y1.1 y1.2.1 y1.2.2.1 y1.2.2.2.1 y1.2.2.2.2.1 y1.2.2.2.2.2.1 (w64 (y1.2.2.2.2.2.2.1 + (1 : Int))) y1.2.2.2.2.2.2.2.2)) z
  else E (XrCer_0b (n4, c5, n7))
theorem BrCer_0b_eq (F : FnT) (N : QO) (E : EO) (L0 : Q → Option YrCer_0) (L2 : Q → Option YrCer_2) (n0 : Nat) (c1 : List PV) (n2 : Nat) (c3 : List PV) (n4 : Nat) (c5 : List PV) (i6 : Int) (n7 : Nat) : semB (callP F ErCer 20) s33 (loopT [⟨0, YrCer_0, L0, XLrCer_0⟩, ⟨2, YrCer_2, L2, XLrCer_2⟩]) 400 (blkIn a33.body 0) N E (TrCer_0b n0 c1 n2 c3 n4 c5 i6 n7) = BrCer_0b F N E L0 L2 n0 c1 n2 c3 n4 c5 i6 n7 := by kernel_rfl
theorem RrCer_0b_of  (n0 : Nat) (c1 : List PV) (n2 : Nat) (c3 : List PV) (n4 : Nat) (c5 : List PV) (i6 : Int) (n7 : Nat) {r : Ext × S} (h : BrCer_0b (Fn env) RrCer_0 exO LrCer_0 LrCer_2 n0 c1 n2 c3 n4 c5 i6 n7 = some r) : RrCer_0 (TrCer_0b n0 c1 n2 c3 n4 c5 i6 n7) = some r :=
  lp_of ErCer_ok (by kernel_rfl) (lo_cons (lpO_ok UrCer) (lo_cons (lpO_ok UrCer) lo_nil)) (by kernel_rfl) ((BrCer_0b_eq _ _ _ _ _ _ _ _ _ _ _ _ _).trans h)
def BrCer_2a (_F : FnT) (N : QO) (E : EO) (_L0 : Q → Option YrCer_0) (_L2 : Q → Option YrCer_2) (n0 : Nat) (c1 : List PV) (n2 : Nat) (c3 : List PV) (i4 : Int) (b5 : Bool) (i6 : Int) : Option (Ext × S) :=
  bif (decide (i6 < (n2 : Int))) then
    bif b5 then
      bif (decide (((0 : Int) ≤ i6) ∧ (i6 < (n2 : Int)))) then
        bindO (listC (c3[((Int.toNat i6) * 1)]?)) fun x0 =>
        bif (decide (((0 : Int) ≤ i4) ∧ (i4 < (x0.1 : Int)))) then
          bindO (intC .i64 (x0.2[((Int.toNat i4) * 1)]?)) fun x1 =>
          bif (decide (((0 : Int) ≤ (0 : Int)) ∧ ((0 : Int) < (n2 : Int)))) then
            bindO (listC (c3[0]?)) fun x2 =>
            bif (decide (((0 : Int) ≤ i4) ∧ (i4 < (x2.1 : Int)))) then
              bindO (intC .i64 (x2.2[((Int.toNat i4) * 1)]?)) fun x3 =>
              bif (x1 == x3) then
                N (TrCer_2a n0 c1 n2 c3 i4 true (w64 (i6 + (1 : Int))))
              else N (TrCer_2a n0 c1 n2 c3 i4 false (w64 (i6 + (1 : Int))))
            else none
          else none
        else none
      else none
    else N (TrCer_2a n0 c1 n2 c3 i4 false (w64 (i6 + (1 : Int))))
  else E (XrCer_2a (n0, c1, n2, c3, i4, b5))
theorem BrCer_2a_eq (F : FnT) (N : QO) (E : EO) (L0 : Q → Option YrCer_0) (L2 : Q → Option YrCer_2) (n0 : Nat) (c1 : List PV) (n2 : Nat) (c3 : List PV) (i4 : Int) (b5 : Bool) (i6 : Int) : semB (callP F ErCer 20) s33 (loopT [⟨0, YrCer_0, L0, XLrCer_0⟩, ⟨2, YrCer_2, L2, XLrCer_2⟩]) 400 (blkIn a33.body 2) N E (TrCer_2a n0 c1 n2 c3 i4 b5 i6) = BrCer_2a F N E L0 L2 n0 c1 n2 c3 i4 b5 i6 := by kernel_rfl
theorem RrCer_2a_of  (n0 : Nat) (c1 : List PV) (n2 : Nat) (c3 : List PV) (i4 : Int) (b5 : Bool) (i6 : Int) {r : Ext × S} (h : BrCer_2a (Fn env) RrCer_2 exO LrCer_0 LrCer_2 n0 c1 n2 c3 i4 b5 i6 = some r) : RrCer_2 (TrCer_2a n0 c1 n2 c3 i4 b5 i6) = some r :=
  lp_of ErCer_ok (by kernel_rfl) (lo_cons (lpO_ok UrCer) (lo_cons (lpO_ok UrCer) lo_nil)) (by kernel_rfl) ((BrCer_2a_eq _ _ _ _ _ _ _ _ _ _ _ _).trans h)
def BrCer_2b (_F : FnT) (N : QO) (E : EO) (_L0 : Q → Option YrCer_0) (_L2 : Q → Option YrCer_2) (n0 : Nat) (c1 : List PV) (n2 : Nat) (c3 : List PV) (n4 : Nat) (c5 : List PV) (i6 : Int) (b7 : Bool) (i8 : Int) (n9 : Nat) : Option (Ext × S) :=
  bif (decide (i8 < (n2 : Int))) then
    bif b7 then
      bif (decide (((0 : Int) ≤ i8) ∧ (i8 < (n2 : Int)))) then
        bindO (listC (c3[((Int.toNat i8) * 1)]?)) fun x0 =>
        bif (decide (((0 : Int) ≤ i6) ∧ (i6 < (x0.1 : Int)))) then
          bindO (intC .i64 (x0.2[((Int.toNat i6) * 1)]?)) fun x1 =>
          bif (decide (((0 : Int) ≤ (0 : Int)) ∧ ((0 : Int) < (n2 : Int)))) then
            bindO (listC (c3[0]?)) fun x2 =>
            bif (decide (((0 : Int) ≤ i6) ∧ (i6 < (x2.1 : Int)))) then
              bindO (intC .i64 (x2.2[((Int.toNat i6) * 1)]?)) fun x3 =>
              bif (x1 == x3) then
                N (TrCer_2b n0 c1 n2 c3 n4 c5 i6 true (w64 (i8 + (1 : Int))) n9)
              else N (TrCer_2b n0 c1 n2 c3 n4 c5 i6 false (w64 (i8 + (1 : Int))) n9)
            else none
          else none
        else none
      else none
    else N (TrCer_2b n0 c1 n2 c3 n4 c5 i6 false (w64 (i8 + (1 : Int))) n9)
  else E (XrCer_2b (n0, c1, n2, c3, n4, c5, i6, b7, n9))
theorem BrCer_2b_eq (F : FnT) (N : QO) (E : EO) (L0 : Q → Option YrCer_0) (L2 : Q → Option YrCer_2) (n0 : Nat) (c1 : List PV) (n2 : Nat) (c3 : List PV) (n4 : Nat) (c5 : List PV) (i6 : Int) (b7 : Bool) (i8 : Int) (n9 : Nat) : semB (callP F ErCer 20) s33 (loopT [⟨0, YrCer_0, L0, XLrCer_0⟩, ⟨2, YrCer_2, L2, XLrCer_2⟩]) 400 (blkIn a33.body 2) N E (TrCer_2b n0 c1 n2 c3 n4 c5 i6 b7 i8 n9) = BrCer_2b F N E L0 L2 n0 c1 n2 c3 n4 c5 i6 b7 i8 n9 := by kernel_rfl
theorem RrCer_2b_of  (n0 : Nat) (c1 : List PV) (n2 : Nat) (c3 : List PV) (n4 : Nat) (c5 : List PV) (i6 : Int) (b7 : Bool) (i8 : Int) (n9 : Nat) {r : Ext × S} (h : BrCer_2b (Fn env) RrCer_2 exO LrCer_0 LrCer_2 n0 c1 n2 c3 n4 c5 i6 b7 i8 n9 = some r) : RrCer_2 (TrCer_2b n0 c1 n2 c3 n4 c5 i6 b7 i8 n9) = some r :=
  lp_of ErCer_ok (by kernel_rfl) (lo_cons (lpO_ok UrCer) (lo_cons (lpO_ok UrCer) lo_nil)) (by kernel_rfl) ((BrCer_2b_eq _ _ _ _ _ _ _ _ _ _ _ _ _ _ _).trans h)
def trCer (F : FnT) (L0 : Q → Option YrCer_0) (_L2 : Q → Option YrCer_2) (p0n : Nat) (p0c : List PV) : Option ((Nat) × (List PV)) :=
  bindO (F 31 (RSh.tup [(Prod.mk false [CK.list]), (Prod.mk false [(CK.int .i64)])]) [(PV.list p0n p0c)]) fun (y0 : (((Nat) × (List PV)) × (Int))) =>
  bindO (L0 (TrCer_0a p0n p0c y0.1.1 y0.1.2 (0 : Int))) fun z =>
  Sum.elim (fun _y1 =>
    some (0, [])) (fun y2 =>
    bif (decide (y2.2.2 = y2.1)) then
      some (y2.1, y2.2.1)
    else none) z
theorem trCer_eq (F : FnT) (L0 : Q → Option YrCer_0) (L2 : Q → Option YrCer_2) (p0n : Nat) (p0c : List PV) : semF (callP F ErCer 20) s33 (loopT [⟨0, YrCer_0, L0, XLrCer_0⟩, ⟨2, YrCer_2, L2, XLrCer_2⟩]) 400 a33 [PV.list p0n p0c] (fun rv => decR (RSh.one CK.list) rv.pv) = trCer F L0 L2 p0n p0c := by kernel_rfl
noncomputable abbrev FrCer (args : List PV) := Fn env 33 (RSh.one CK.list) args
theorem FrCer_of  (p0n : Nat) (p0c : List PV) {res : ((Nat) × (List PV))} (h : trCer (Fn env) LrCer_0 LrCer_2 p0n p0c = some res) : FrCer [PV.list p0n p0c] = some res :=
  fn_of ErCer_ok rfl rfl (lo_cons (lpO_ok UrCer) (lo_cons (lpO_ok UrCer) lo_nil)) ((trCer_eq _ _ _ _ _).trans h)
def EcheO : List Entry := [.out 93 (RSh.one (CK.int .i64)), .out 94 (RSh.one CK.list), .out 95 (RSh.one (CK.int .i64))]
theorem EcheO_ok : ∀ e ∈ EcheO, EntOK env e := (ent_out (ent_out (ent_out ent_nil)))
def tcheO (F : FnT) (p0n : Nat) (p0c : List PV) : Option (((Nat) × (List PV)) × ((Int) × (Int))) :=
  bindO (F 93 (RSh.one (CK.int .i64)) [(PV.list p0n p0c)]) fun (y0 : (Int)) =>
  bif (y0 != (0 : Int)) then
    some ((0, []), ((0 : Int), y0))
  else bindO (F 94 (RSh.one CK.list) [(PV.list p0n p0c)]) fun (y1 : ((Nat) × (List PV))) =>
  bindO (F 95 (RSh.one (CK.int .i64)) [(PV.list p0n p0c), (PV.list y1.1 y1.2)]) fun (y2 : (Int)) =>
  some ((y1.1, y1.2), (y2, (0 : Int)))
theorem tcheO_eq (F : FnT) (p0n : Nat) (p0c : List PV) : semF (callP F EcheO 20) s28 (loopT []) 400 a28 [PV.list p0n p0c] (fun rv => decR (RSh.tup [(Prod.mk false [CK.list]), (Prod.mk false [(CK.int .i64)]), (Prod.mk false [(CK.int .i64)])]) rv.pv) = tcheO F p0n p0c := by kernel_rfl
noncomputable abbrev FcheO (args : List PV) := Fn env 28 (RSh.tup [(Prod.mk false [CK.list]), (Prod.mk false [(CK.int .i64)]), (Prod.mk false [(CK.int .i64)])]) args
theorem FcheO_of  (p0n : Nat) (p0c : List PV) {res : (((Nat) × (List PV)) × ((Int) × (Int)))} (h : tcheO (Fn env) p0n p0c = some res) : FcheO [PV.list p0n p0c] = some res :=
  fn_of EcheO_ok rfl rfl lo_nil ((tcheO_eq _ _ _).trans h)
end Gv

/- What the functions do, round by round: B9. -/
namespace Gv
open Go
set_option maxRecDepth 100000
def TcerI_0a (i0 i1 : Int) (b2 : Bool) (n3 : Nat) (c4 : List PV) : Q := ⟨(tm 32 [(5, (AV.loc 5 0)), (6, AV.nilS), (17, (AV.p (PV.int .i64 i0))), (18, (AV.p (PV.int .i64 i1)))]), (mm 32 [(5, (Bk.cells b2 [(AV.p (PV.list n3 c4))]))])⟩
def TcerI_0b (n0 : Nat) (c1 : List PV) (i2 i3 : Int) (n4 : Nat) (c5 : List PV) (n6 : Nat) : Q := ⟨(tm 32 [(5, (AV.loc 5 0)), (6, (AV.app 29 n0 1 c1)), (17, (AV.p (PV.int .i64 i2))), (18, (AV.p (PV.int .i64 i3)))]), (mm 32 [(5, (Bk.cells false [(AV.p (PV.list n4 c5))])), (29, (Bk.buf n6))])⟩
def XcerI_0a (y : Bool × Nat × List PV) : Ext × Q := (Ext.normal, ⟨(tm 32 [(6, AV.nilS)]), (mm 32 [(5, (Bk.cells y.1 [(AV.p (PV.list y.2.1 y.2.2))]))])⟩)
def IcerI_0a (q : Ext × S) : Bool × Nat × List PV := (((fun b : Blk => match b with | .cells w _ => w | _ => false) (avM q.2 5)), (pP_list0 (pA_p (hdA (pB_cells1 (avM q.2 5))))), (pP_list1 (pA_p (hdA (pB_cells1 (avM q.2 5))))))
def XcerI_0b (y : Nat × List PV × Nat × List PV × Nat) : Ext × Q := (Ext.normal, ⟨(tm 32 [(6, (AV.app 29 y.1 1 y.2.1))]), (mm 32 [(5, (Bk.cells false [(AV.p (PV.list y.2.2.1 y.2.2.2.1))])), (29, (Bk.buf y.2.2.2.2))])⟩)
def IcerI_0b (q : Ext × S) : Nat × List PV × Nat × List PV × Nat := ((pA_app1 (avT q.2 6)), (pA_app3 (avT q.2 6)), (pP_list0 (pA_p (hdA (pB_cells1 (avM q.2 5))))), (pP_list1 (pA_p (hdA (pB_cells1 (avM q.2 5))))), (pB_buf0 (avM q.2 29)))
abbrev YcerI_0 : Type := (Bool × Nat × List PV) ⊕ ((Nat × List PV × Nat × List PV × Nat))
def XLcerI_0 : XL YcerI_0 := .more XcerI_0a (.one XcerI_0b)
def IcerI_0 (q : Ext × S) : YcerI_0 := bif (cA (avT q.2 6) == 1) then (Sum.inl (IcerI_0a q)) else (Sum.inr (IcerI_0b q))
theorem XIcerI_0a (y : Bool × Nat × List PV) : IcerI_0 (xe (XcerI_0a y)) = (Sum.inl y) := by kernel_rfl
theorem XIcerI_0b (y : Nat × List PV × Nat × List PV × Nat) : IcerI_0 (xe (XcerI_0b y)) = (Sum.inr y) := by kernel_rfl
theorem XIcerI_0 (y : YcerI_0) : IcerI_0 (xe (XLcerI_0.fn y)) = y := (match y with | .inl y => XIcerI_0a y | .inr y => XIcerI_0b y)
noncomputable abbrev LcerI_0 : Q → Option YcerI_0 := lpO env a29.body 0 XLcerI_0
noncomputable abbrev RcerI_0 : Q → Option (Ext × S) := lpR env a29.body 0
theorem LcerI_0a_of {s : Q} {y : Bool × Nat × List PV} (h : RcerI_0 s = exO (XcerI_0a y)) : LcerI_0 s = some (Sum.inl y) := lpO_of IcerI_0 XIcerI_0 (y := (Sum.inl y)) h
theorem LcerI_0b_of {s : Q} {y : Nat × List PV × Nat × List PV × Nat} (h : RcerI_0 s = exO (XcerI_0b y)) : LcerI_0 s = some (Sum.inr y) := lpO_of IcerI_0 XIcerI_0 (y := (Sum.inr y)) h
def TcerI_1470000000a (n0 : Nat) (c1 : List PV) (i2 : Int) (n3 : Nat) (c4 : List PV) (i5 i6 : Int) : Q := ⟨(tm 19 [(0, (AV.p (PV.list n0 c1))), (1, (AV.p (PV.fn 97 [(PV.imm [(PV.int .i64 i2)] 0), (PV.imm [(PV.list n3 c4)] 0)]))), (7, (AV.p (PV.int .i64 i5))), (8, (AV.p (PV.int .i64 i6)))]), (mm 19 [])⟩
def XcerI_1470000000a (y : Int) : Ext × Q := (Ext.ret, ⟨(tm 19 [(4, (AV.p (PV.int .i64 y)))]), (mm 19 [])⟩)
def IcerI_1470000000a (q : Ext × S) : Int := (pP_int1 (pA_p (avT q.2 4)))
def XcerI_1470000000b (_y : Unit) : Ext × Q := (Ext.normal, ⟨(tm 19 []), (mm 19 [])⟩)
def IcerI_1470000000b (_q : Ext × S) : Unit := ()
abbrev YcerI_1470000000 : Type := (Int) ⊕ ((Unit))
def XLcerI_1470000000 : XL YcerI_1470000000 := .more XcerI_1470000000a (.one XcerI_1470000000b)
def IcerI_1470000000 (q : Ext × S) : YcerI_1470000000 := bif (cE q.1 == 2) then (Sum.inl (IcerI_1470000000a q)) else (Sum.inr (IcerI_1470000000b q))
theorem XIcerI_1470000000a (y : Int) : IcerI_1470000000 (xe (XcerI_1470000000a y)) = (Sum.inl y) := by kernel_rfl
theorem XIcerI_1470000000b (y : Unit) : IcerI_1470000000 (xe (XcerI_1470000000b y)) = (Sum.inr y) := by kernel_rfl
theorem XIcerI_1470000000 (y : YcerI_1470000000) : IcerI_1470000000 (xe (XLcerI_1470000000.fn y)) = y := (match y with | .inl y => XIcerI_1470000000a y | .inr y => XIcerI_1470000000b y)
noncomputable abbrev LcerI_1470000000 : Q → Option YcerI_1470000000 := lpO env a147.body 0 XLcerI_1470000000
noncomputable abbrev RcerI_1470000000 : Q → Option (Ext × S) := lpR env a147.body 0
theorem LcerI_1470000000a_of {s : Q} {y : Int} (h : RcerI_1470000000 s = exO (XcerI_1470000000a y)) : LcerI_1470000000 s = some (Sum.inl y) := lpO_of IcerI_1470000000 XIcerI_1470000000 (y := (Sum.inl y)) h
theorem LcerI_1470000000b_of {s : Q} {y : Unit} (h : RcerI_1470000000 s = exO (XcerI_1470000000b y)) : LcerI_1470000000 s = some (Sum.inr y) := lpO_of IcerI_1470000000 XIcerI_1470000000 (y := (Sum.inr y)) h
theorem UcerIg147 : uniq ((blocksOf a147.body).map (·.1)) = true := by kernel_rfl
def EcerI (L1470000000 : Q → Option YcerI_1470000000) : List Entry := [.inp 147 a147 s147 [⟨0, YcerI_1470000000, L1470000000, XLcerI_1470000000⟩], .inl 97 a97 s97, .inl 98 a98 s98, .out 93 (RSh.one (CK.int .i64)), .out 96 (RSh.one CK.list)]
theorem EcerI_ok : ∀ e ∈ EcerI LcerI_1470000000, EntOK env e := (ent_inp rfl (lo_cons (lpO_ok UcerIg147) lo_nil) (ent_inl rfl (ent_inl rfl (ent_out (ent_out ent_nil)))))
theorem UcerI : uniq ((blocksOf a29.body).map (·.1)) = true := by kernel_rfl
def BcerI_0a (_F : FnT) (N : QO) (E : EO) (_L0 : Q → Option YcerI_0) (L1470000000 : Q → Option YcerI_1470000000) (i0 i1 : Int) (b2 : Bool) (n3 : Nat) (c4 : List PV) : Option (Ext × S) :=
  bif (decide (i1 < i0)) then
    bindO (L1470000000 (TcerI_1470000000a n3 c4 i1 n3 c4 (n3 : Int) (0 : Int))) fun z =>
    Sum.elim (fun y0 =>
      bif (decide (y0 ≥ (0 : Int))) then
        N (TcerI_0a i0 (w64 (i1 + (1 : Int))) false n3 c4)
      else N (TcerI_0b 1 [(PV.int .i64 i1)] i0 (w64 (i1 + (1 : Int))) n3 c4 1)) (fun _y1 =>
      N (TcerI_0b 1 [(PV.int .i64 i1)] i0 (w64 (i1 + (1 : Int))) n3 c4 1)) z
  else E (XcerI_0a (b2, n3, c4))
theorem BcerI_0a_eq (F : FnT) (N : QO) (E : EO) (L0 : Q → Option YcerI_0) (L1470000000 : Q → Option YcerI_1470000000) (i0 i1 : Int) (b2 : Bool) (n3 : Nat) (c4 : List PV) : semB (callP F (EcerI L1470000000) 20) s29 (loopT [⟨0, YcerI_0, L0, XLcerI_0⟩]) 400 (blkIn a29.body 0) N E (TcerI_0a i0 i1 b2 n3 c4) = BcerI_0a F N E L0 L1470000000 i0 i1 b2 n3 c4 := by kernel_rfl
theorem RcerI_0a_of  (i0 i1 : Int) (b2 : Bool) (n3 : Nat) (c4 : List PV) {r : Ext × S} (h : BcerI_0a (Fn env) RcerI_0 exO LcerI_0 LcerI_1470000000 i0 i1 b2 n3 c4 = some r) : RcerI_0 (TcerI_0a i0 i1 b2 n3 c4) = some r :=
  lp_of EcerI_ok (by kernel_rfl) (lo_cons (lpO_ok UcerI) lo_nil) (by kernel_rfl) ((BcerI_0a_eq _ _ _ _ _ _ _ _ _ _).trans h)
def BcerI_0b (_F : FnT) (N : QO) (E : EO) (_L0 : Q → Option YcerI_0) (L1470000000 : Q → Option YcerI_1470000000) (n0 : Nat) (c1 : List PV) (i2 i3 : Int) (n4 : Nat) (c5 : List PV) (n6 : Nat) : Option (Ext × S) :=
  bif (decide (i3 < i2)) then
    bindO (L1470000000 (TcerI_1470000000a n4 c5 i3 n4 c5 (n4 : Int) (0 : Int))) fun z =>
    Sum.elim (fun y0 =>
      bif (decide (y0 ≥ (0 : Int))) then
        N (TcerI_0b n0 c1 i2 (w64 (i3 + (1 : Int))) n4 c5 n6)
      else bif (decide ((n6 = n0) ∧ ((n0 + 1) ≤ big))) then
        N (TcerI_0b (n0 + 1) (c1 ++ [(PV.int .i64 i3)]) i2 (w64 (i3 + (1 : Int))) n4 c5 (n0 + 1))
      else none) (fun _y1 =>
      bif (decide ((n6 = n0) ∧ ((n0 + 1) ≤ big))) then
        N (TcerI_0b (n0 + 1) (c1 ++ [(PV.int .i64 i3)]) i2 (w64 (i3 + (1 : Int))) n4 c5 (n0 + 1))
      else none) z
  else E (XcerI_0b (n0, c1, n4, c5, n6))
theorem BcerI_0b_eq (F : FnT) (N : QO) (E : EO) (L0 : Q → Option YcerI_0) (L1470000000 : Q → Option YcerI_1470000000) (n0 : Nat) (c1 : List PV) (i2 i3 : Int) (n4 : Nat) (c5 : List PV) (n6 : Nat) : semB (callP F (EcerI L1470000000) 20) s29 (loopT [⟨0, YcerI_0, L0, XLcerI_0⟩]) 400 (blkIn a29.body 0) N E (TcerI_0b n0 c1 i2 i3 n4 c5 n6) = BcerI_0b F N E L0 L1470000000 n0 c1 i2 i3 n4 c5 n6 := by kernel_rfl
theorem RcerI_0b_of  (n0 : Nat) (c1 : List PV) (i2 i3 : Int) (n4 : Nat) (c5 : List PV) (n6 : Nat) {r : Ext × S} (h : BcerI_0b (Fn env) RcerI_0 exO LcerI_0 LcerI_1470000000 n0 c1 i2 i3 n4 c5 n6 = some r) : RcerI_0 (TcerI_0b n0 c1 i2 i3 n4 c5 n6) = some r :=
  lp_of EcerI_ok (by kernel_rfl) (lo_cons (lpO_ok UcerI) lo_nil) (by kernel_rfl) ((BcerI_0b_eq _ _ _ _ _ _ _ _ _ _ _ _).trans h)
def BcerI_1470000000a (_F : FnT) (N : QO) (E : EO) (_L0 : Q → Option YcerI_0) (_L1470000000 : Q → Option YcerI_1470000000) (n0 : Nat) (c1 : List PV) (i2 : Int) (n3 : Nat) (c4 : List PV) (i5 i6 : Int) : Option (Ext × S) :=
  bif (decide (i6 < i5)) then
    bif (decide (((0 : Int) ≤ i6) ∧ (i6 < (n0 : Int)))) then
      bindO (listC (c1[((Int.toNat i6) * 1)]?)) fun x0 =>
      bif (decide (((0 : Int) ≤ i2) ∧ (i2 < (x0.1 : Int)))) then
        bindO (intC .i64 (x0.2[((Int.toNat i2) * 1)]?)) fun x1 =>
        bif (decide (((0 : Int) ≤ (0 : Int)) ∧ ((0 : Int) < ((Prod.mk n3 c4).1 : Int)))) then
          bindO (listC ((Prod.mk n3 c4).2[0]?)) fun x2 =>
          bif (decide (((0 : Int) ≤ i2) ∧ (i2 < (x2.1 : Int)))) then
            bindO (intC .i64 (x2.2[((Int.toNat i2) * 1)]?)) fun x3 =>
            bif (x1 != x3) then
              E (XcerI_1470000000a i6)
            else N (TcerI_1470000000a n0 c1 i2 n3 c4 i5 (w64 (i6 + (1 : Int))))
          else none
        else none
      else none
    else none
  else E (XcerI_1470000000b ())
theorem BcerI_1470000000a_eq (F : FnT) (N : QO) (E : EO) (L0 : Q → Option YcerI_0) (L1470000000 : Q → Option YcerI_1470000000) (n0 : Nat) (c1 : List PV) (i2 : Int) (n3 : Nat) (c4 : List PV) (i5 i6 : Int) : semB (callP F (EcerI L1470000000) 20) s147 (loopT [⟨0, YcerI_1470000000, L1470000000, XLcerI_1470000000⟩]) 400 (blkIn a147.body 0) N E (TcerI_1470000000a n0 c1 i2 n3 c4 i5 i6) = BcerI_1470000000a F N E L0 L1470000000 n0 c1 i2 n3 c4 i5 i6 := by kernel_rfl
theorem RcerI_1470000000a_of  (n0 : Nat) (c1 : List PV) (i2 : Int) (n3 : Nat) (c4 : List PV) (i5 i6 : Int) {r : Ext × S} (h : BcerI_1470000000a (Fn env) RcerI_1470000000 exO LcerI_0 LcerI_1470000000 n0 c1 i2 n3 c4 i5 i6 = some r) : RcerI_1470000000 (TcerI_1470000000a n0 c1 i2 n3 c4 i5 i6) = some r :=
  lp_of EcerI_ok (by kernel_rfl) (lo_cons (lpO_ok UcerIg147) lo_nil) (by kernel_rfl) ((BcerI_1470000000a_eq _ _ _ _ _ _ _ _ _ _ _ _).trans h)
def tcerI (F : FnT) (L0 : Q → Option YcerI_0) (_L1470000000 : Q → Option YcerI_1470000000) (p0n : Nat) (p0c : List PV) : Option (((Nat) × (List PV)) × (Int)) :=
  bindO (F 93 (RSh.one (CK.int .i64)) [(PV.list p0n p0c)]) fun (y0 : (Int)) =>
  bif (y0 != (0 : Int)) then
    some ((0, []), y0)
  else bindO (F 96 (RSh.one CK.list) [(PV.list p0n p0c)]) fun (y1 : ((Nat) × (List PV))) =>
  bindO (L0 (TcerI_0a (p0n : Int) (0 : Int) true y1.1 y1.2)) fun z =>
  Sum.elim (fun _y2 =>
    some ((0, []), (0 : Int))) (fun y3 =>
    some ((y3.1, y3.2.1), (0 : Int))) z
theorem tcerI_eq (F : FnT) (L0 : Q → Option YcerI_0) (L1470000000 : Q → Option YcerI_1470000000) (p0n : Nat) (p0c : List PV) : semF (callP F (EcerI L1470000000) 20) s29 (loopT [⟨0, YcerI_0, L0, XLcerI_0⟩]) 400 a29 [PV.list p0n p0c] (fun rv => decR (RSh.tup [(Prod.mk false [CK.list]), (Prod.mk false [(CK.int .i64)])]) rv.pv) = tcerI F L0 L1470000000 p0n p0c := by kernel_rfl
noncomputable abbrev FcerI (args : List PV) := Fn env 29 (RSh.tup [(Prod.mk false [CK.list]), (Prod.mk false [(CK.int .i64)])]) args
theorem FcerI_of  (p0n : Nat) (p0c : List PV) {res : (((Nat) × (List PV)) × (Int))} (h : tcerI (Fn env) LcerI_0 LcerI_1470000000 p0n p0c = some res) : FcerI [PV.list p0n p0c] = some res :=
  fn_of EcerI_ok rfl rfl (lo_cons (lpO_ok UcerI) lo_nil) ((tcerI_eq _ _ _ _ _).trans h)
end Gv

/- Boxes: errors, the box after some ticks, what two boxes have in common. -/
namespace Gv
open Go
set_option maxRecDepth 100000
abbrev B6 := Int × Int × Int × Int × Int × Int
theorem eIf_is (b : Bool) (x : Int) : FeIf [.bool b, .int .i64 x] = some (if b then x else 0) := FeIf_of b x (by cases b <;> rfl)
theorem rE_is (x lo hi : Int) : FrE [.int .i64 x, .int .i64 lo, .int .i64 hi] = some (rangeE x lo hi) :=
  FrE_of x lo hi (by
    unfold trE rangeE
    by_cases h1 : x < lo
    · simp [h1]
    · by_cases h2 : x > hi
      · have : hi < x := h2
        simp [h1, this]
      · have : ¬ hi < x := h2
        simp [h1, this])
theorem fE2_is (a b : Int) : FfE2 [.list 2 [.int .i64 a, .int .i64 b]] = some (both a b) :=
  FfE2_of a b (by
    unfold tfE2 both
    simp only [bif_ne]
    by_cases h1 : a = 0 <;> by_cases h2 : b = 0 <;> simp [h1, h2])
theorem rangeE_if (x a b : Int) : rangeE x a b = if a ≤ x ∧ x ≤ b then 0 else 2 := by unfold rangeE; split <;> split <;> omega
theorem bWi_is (x a b : Int) : FbWi [.int .i64 x, .int .i64 a, .int .i64 b] = some (decide (a ≤ x ∧ x ≤ b)) :=
  FbWi_of _ _ _ (by
    unfold tbWi
    by_cases h1 : a ≤ x <;> by_cases h2 : x ≤ b <;> simp [h1, h2])
def ord3 (a b c d e f : Int) : Int := if a ≤ b ∧ c ≤ d ∧ e ≤ f then 0 else 9
def driE (d : B6) : Int := if ((-100 ≤ d.1 ∧ d.1 ≤ 100) ∧ (-100 ≤ d.2.1 ∧ d.2.1 ≤ 100)) ∧ ((0 ≤ d.2.2.1 ∧ d.2.2.1 ≤ 100) ∧ (0 ≤ d.2.2.2.1 ∧ d.2.2.2.1 ≤ 100)) ∧ ((0 ≤ d.2.2.2.2.1 ∧ d.2.2.2.2.1 ≤ 100) ∧ (0 ≤ d.2.2.2.2.2 ∧ d.2.2.2.2.2 ≤ 100)) then ord3 d.1 d.2.1 d.2.2.1 d.2.2.2.1 d.2.2.2.2.1 d.2.2.2.2.2 else 2
def pos (x : Int) : Int := if x > 0 then x else 0
end Gv

/- Matrices of costs: encodings, copies, errors, costs. -/
namespace Gv
open Go
set_option maxRecDepth 100000
def rowI (r : List Int) : PV := .list r.length (encI r)
def encM (L : List (List Int)) : List PV := L.map rowI
theorem encM_get (L : List (List Int)) (i : Nat) : (encM L)[i]? = L[i]?.map rowI := by simp [encM]
theorem intI_get {r : List Int} {i : Nat} (h : i < r.length) : intC .i64 (encI r)[i]? = some (r.getD i 0) := by
  rw [encI_get, List.getElem?_eq_getElem h]
  simp [List.getD, List.getElem?_eq_getElem h]
theorem listM_get {L : List (List Int)} {i : Nat} (h : i < L.length) : listC (encM L)[i]? = some ((L.getD i []).length, encI (L.getD i [])) := by
  rw [encM_get, List.getElem?_eq_getElem h]
  simp [List.getD, List.getElem?_eq_getElem h, rowI, listC]
theorem drop_getD {r : List Int} {i : Nat} (h : i < r.length) : r.drop i = r.getD i 0 :: r.drop (i + 1) := by
  rw [List.drop_eq_getElem_cons h]
  simp [List.getD, List.getElem?_eq_getElem h]
theorem drop_getM {r : List (List Int)} {i : Nat} (h : i < r.length) : r.drop i = r.getD i [] :: r.drop (i + 1) := by
  rw [List.drop_eq_getElem_cons h]
  simp [List.getD, List.getElem?_eq_getElem h]
theorem getD_memM {L : List (List Int)} {i : Nat} (h : i < L.length) : L.getD i [] ∈ L := by
  simp [List.getD, List.getElem?_eq_getElem h]
theorem copI_is (r : List Int) (hr : r.length ≤ 1000) : FbCopI [.list r.length (encI r)] = some (r.length, encI r) := by
  refine FbCopI_of _ _ ?_
  unfold tbCopI
  by_cases h0 : r.length = 0
  · rw [bif_pos h0]
    have : r = [] := List.length_eq_zero_iff.1 h0
    subst this
    rfl
  · rw [bif_neg h0, bif_pos (by rw [encI_len]; omega), bif_pos ⟨rfl, by unfold big; omega⟩, bif_pos rfl]
    simp
theorem copM_loop (L : List (List Int)) (hL : L.length ≤ 1000) (hr : ∀ r ∈ L, r.length ≤ 1000) : ∀ (m k : Nat), k + m = L.length →
    RrCopM_0 (TrCopM_0b L.length (encM L) k (encM (L.take k)) k k) = exO (XrCopM_0b (L.length, encM L, L.length))
  | 0, k, h => by
    have hk : k = L.length := by omega
    subst hk
    refine RrCopM_0b_of _ _ _ _ _ _ ?_
    unfold BrCopM_0b
    rw [bif_neg (by omega), List.take_of_length_le (Nat.le_refl _)]
    rfl
  | m + 1, k, h => by
    have hk : k < L.length := by omega
    have ih := copM_loop L hL hr m (k + 1) (by omega)
    refine RrCopM_0b_of _ _ _ _ _ _ ?_
    unfold BrCopM_0b
    have hc := copI_is (L.getD k []) (hr _ (getD_memM hk))
    have e : encM (L.take (k + 1)) = encM (L.take k) ++ [PV.list (L.getD k []).length (encI (L.getD k []))] := by
      unfold encM
      rw [List.take_succ_eq_append_getElem hk, List.map_append]
      congr 1
      simp [rowI, List.getD, List.getElem?_eq_getElem hk]
    rw [bif_pos (by omega), bif_pos (by omega)]
    simp only [Int.toNat_natCast, Nat.mul_one, listM_get hk, bindO_val, hc]
    rw [bif_pos ⟨trivial, by unfold big; omega⟩, w64_in (by omega), ← e]
    exact_mod_cast ih
theorem copM_is (L : List (List Int)) (hL : L.length ≤ 1000) (hr : ∀ r ∈ L, r.length ≤ 1000) : FrCopM [.list L.length (encM L)] = some (L.length, encM L) := by
  refine FrCopM_of _ _ ?_
  unfold trCopM
  by_cases h0 : L.length = 0
  · have hL0 : L = [] := List.length_eq_zero_iff.1 h0
    subst hL0
    have h : RrCopM_0 (TrCopM_0a 0 []) = exO (XrCopM_0a ()) := by
      refine RrCopM_0a_of _ _ ?_
      unfold BrCopM_0a
      rfl
    have h := LrCopM_0a_of h
    simp only [List.length_nil, encM, List.map_nil]
    rw [h]
    rfl
  · have hk : 0 < L.length := by omega
    have hc := copI_is (L.getD 0 []) (hr _ (getD_memM hk))
    have ih := copM_loop L hL hr (L.length - 1) 1 (by omega)
    have e : encM (L.take 1) = [PV.list (L.getD 0 []).length (encI (L.getD 0 []))] := by
      unfold encM
      rw [List.take_add_one, List.getElem?_eq_getElem hk]
      simp [rowI, List.getD, List.getElem?_eq_getElem hk]
    rw [e] at ih
    have h : RrCopM_0 (TrCopM_0a L.length (encM L)) = exO (XrCopM_0b (L.length, encM L, L.length)) := by
      refine RrCopM_0a_of _ _ ?_
      unfold BrCopM_0a
      rw [bif_pos (by omega), bif_pos (by omega)]
      simp only [listM_get hk, bindO_val, hc]
      exact ih
    have h := LrCopM_0b_of h
    rw [h]
    simp
def okC (x : Int) : Bool := decide (0 ≤ x ∧ x ≤ 10000000)
def rowE (k : Nat) (r : List Int) : Int := if r.length = k then (if r.all okC = true then 0 else 2) else 10
def matF (k : Nat) : List (List Int) → Nat → Option (Int × Int)
  | [], _ => none
  | r :: L, i => if rowE k r = 0 then matF k L (i + 1) else some ((i : Int), rowE k r)
def matV (L : List (List Int)) : Int × Int := if L.length = 0 then (0, 10) else if 6 < L.length then (0, 8) else (matF L.length L 0).getD (0, 0)
theorem rCMat_in (L : List (List Int)) (hL : L.length ≤ 1000) (i : Nat) (hi : i < L.length) (hlen : (L.getD i []).length = L.length) : ∀ (m k : Nat), k + m = L.length →
    RrCMat_2 (TrCMat_2a L.length (encM L) i k) = if ((L.getD i []).drop k).all okC = true then exO (XrCMat_2b (L.length, encM L, i)) else exO (XrCMat_2a i)
  | 0, k, h => by
    rw [List.drop_of_length_le (by omega), List.all_nil, if_pos rfl]
    refine RrCMat_2a_of _ _ _ _ ?_
    unfold BrCMat_2a
    rw [bif_neg (by omega)]
    rfl
  | m + 1, k, h => by
    have ih := rCMat_in L hL i hi hlen m (k + 1) (by omega)
    have hk : k < (L.getD i []).length := by omega
    rw [drop_getD hk, List.all_cons]
    have hs : BrCMat_2a (Fn env) RrCMat_2 exO LrCMat_0 LrCMat_2 L.length (encM L) i k = if okC ((L.getD i []).getD k 0) = true then RrCMat_2 (TrCMat_2a L.length (encM L) i ((k + 1 : Nat) : Int)) else exO (XrCMat_2a i) := by
      unfold BrCMat_2a
      rw [bif_pos (by omega), bif_pos (by omega)]
      simp only [Int.toNat_natCast, Nat.mul_one, listM_get hi, bindO_val]
      rw [bif_pos (by omega)]
      simp only [intI_get hk, bindO_val, bWi_is]
      rw [w64_in (by omega)]
      unfold okC
      by_cases ho : 0 ≤ (L.getD i []).getD k 0 ∧ (L.getD i []).getD k 0 ≤ 10000000
      · rw [bif_pos ho, if_pos (by simpa using ho)]
        rfl
      · rw [bif_neg ho, if_neg (by simpa using ho)]
    by_cases ho : okC ((L.getD i []).getD k 0) = true
    · rw [if_pos ho, ih] at hs
      simp only [ho, Bool.true_and]
      by_cases ha : ((L.getD i []).drop (k + 1)).all okC = true
      · rw [if_pos ha] at hs ⊢
        exact RrCMat_2a_of _ _ _ _ hs
      · rw [if_neg ha] at hs ⊢
        exact RrCMat_2a_of _ _ _ _ hs
    · rw [if_neg ho] at hs
      rw [(Bool.not_eq_true _).mp ho, Bool.false_and, if_neg (by decide)]
      exact RrCMat_2a_of _ _ _ _ hs
theorem rCMat_loop (L : List (List Int)) (hL : L.length ≤ 1000) : ∀ (m i : Nat), i + m = L.length →
    RrCMat_0 (TrCMat_0a L.length (encM L) i) = match matF L.length (L.drop i) i with
      | some y => exO (XrCMat_0a y)
      | none => exO (XrCMat_0b ())
  | 0, i, h => by
    rw [List.drop_of_length_le (by omega)]
    refine RrCMat_0a_of _ _ _ ?_
    unfold BrCMat_0a
    rw [bif_neg (by omega)]
    rfl
  | m + 1, i, h => by
    have ih := rCMat_loop L hL m (i + 1) (by omega)
    have hi : i < L.length := by omega
    rw [drop_getM hi]
    unfold matF
    have hs : BrCMat_0a (Fn env) RrCMat_0 exO LrCMat_0 LrCMat_2 L.length (encM L) i = if rowE L.length (L.getD i []) = 0 then RrCMat_0 (TrCMat_0a L.length (encM L) ((i + 1 : Nat) : Int)) else exO (XrCMat_0a ((i : Int), rowE L.length (L.getD i []))) := by
      unfold BrCMat_0a rowE
      rw [bif_pos (by omega), bif_pos (by omega)]
      simp only [Int.toNat_natCast, Nat.mul_one, listM_get hi, bindO_val]
      by_cases hl : (L.getD i []).length = L.length
      · have hin := rCMat_in L hL i hi hl L.length 0 (by omega)
        rw [List.drop_zero] at hin
        have e : (((L.getD i []).length : Int) != (L.length : Int)) = false := by rw [hl]; simp
        rw [e, if_pos hl, cond_false]
        by_cases ha : (L.getD i []).all okC = true
        · rw [if_pos ha] at hin ⊢
          have hin := LrCMat_2b_of hin
          have hin : LrCMat_2 (TrCMat_2a L.length (encM L) i 0) = _ := hin
          rw [hin]
          simp only [bindO_val, Sum.elim_inr]
          rw [w64_in (by omega)]
          rfl
        · rw [if_neg ha] at hin ⊢
          have hin := LrCMat_2a_of hin
          have hin : LrCMat_2 (TrCMat_2a L.length (encM L) i 0) = _ := hin
          rw [hin]
          rfl
      · have e : (((L.getD i []).length : Int) != (L.length : Int)) = true := by rw [bne_iff_ne]; omega
        rw [e, if_neg hl]
        rfl
    by_cases hz : rowE L.length (L.getD i []) = 0
    · rw [if_pos hz] at hs ⊢
      rw [ih] at hs
      generalize matF L.length (L.drop (i + 1)) (i + 1) = x at hs ⊢
      cases x <;> exact RrCMat_0a_of _ _ _ hs
    · rw [if_neg hz] at hs ⊢
      exact RrCMat_0a_of _ _ _ hs
theorem rCMat_is (L : List (List Int)) : FrCMat [.list L.length (encM L)] = some (matV L) := by
  refine FrCMat_of _ _ ?_
  unfold trCMat matV
  by_cases h0 : L.length = 0
  · have : ((L.length : Int) == 0) = true := by simp [h0]
    rw [this, if_pos h0]
    rfl
  · have : ((L.length : Int) == 0) = false := by rw [beq_eq_false_iff_ne]; omega
    rw [this, if_neg h0, cond_false]
    by_cases h6 : 6 < L.length
    · rw [bif_pos (by omega), if_pos h6]
    · rw [bif_neg (by omega), if_neg h6]
      have h := rCMat_loop L (by omega) L.length 0 (by omega)
      rw [List.drop_zero] at h
      have h : RrCMat_0 (TrCMat_0a L.length (encM L) 0) = _ := h
      generalize matF L.length L 0 = x at h ⊢
      cases x with
      | none =>
        rw [LrCMat_0b_of h]
        rfl
      | some y =>
        rw [LrCMat_0a_of h]
        rfl
theorem rMatE_is (L : List (List Int)) : FrMatE [.list L.length (encM L)] = some (matV L).2 := by
  refine FrMatE_of _ _ ?_
  unfold trMatE
  have h : Fn env 30 _ [.list L.length (encM L)] = _ := rCMat_is L
  rw [h]
  rfl
def SmallP (L : List (List Int)) : Prop := L.length ≤ 8 ∧ (∀ r ∈ L, r.length ≤ 8) ∧ ((matV L).2 ≠ 0 ∨ L.length ≤ 5)
theorem small_loop (L : List (List Int)) (hL : L.length ≤ 8) : ∀ (m i : Nat), i + m = L.length →
    Rsmall_0 (Tsmall_0a L.length (encM L) i) = if (L.drop i).all (fun r => decide (r.length ≤ 8)) = true then exO (Xsmall_0b (L.length, encM L)) else exO (Xsmall_0a ())
  | 0, i, h => by
    rw [List.drop_of_length_le (by omega), List.all_nil, if_pos rfl]
    refine Rsmall_0a_of _ _ _ ?_
    unfold Bsmall_0a
    rw [bif_neg (by omega)]
    rfl
  | m + 1, i, h => by
    have ih := small_loop L hL m (i + 1) (by omega)
    have hi : i < L.length := by omega
    rw [drop_getM hi, List.all_cons]
    have hs : Bsmall_0a (Fn env) Rsmall_0 exO Lsmall_0 L.length (encM L) i = if (L.getD i []).length ≤ 8 then Rsmall_0 (Tsmall_0a L.length (encM L) ((i + 1 : Nat) : Int)) else exO (Xsmall_0a ()) := by
      unfold Bsmall_0a
      rw [bif_pos (by omega), bif_pos (by omega)]
      simp only [Int.toNat_natCast, Nat.mul_one, listM_get hi, bindO_val]
      rw [w64_in (by omega)]
      by_cases ho : (L.getD i []).length ≤ 8
      · rw [bif_neg (by omega), if_pos ho]
        rfl
      · rw [bif_pos (by omega), if_neg ho]
    by_cases ho : (L.getD i []).length ≤ 8
    · rw [if_pos ho, ih] at hs
      simp only [ho, decide_true, Bool.true_and]
      split at hs
      · rename_i ha
        rw [if_pos ha]
        exact Rsmall_0a_of _ _ _ hs
      · rename_i ha
        rw [if_neg ha]
        exact Rsmall_0a_of _ _ _ hs
    · rw [if_neg ho] at hs
      rw [if_neg (by simp only [ho, decide_false, Bool.false_and]; simp)]
      exact Rsmall_0a_of _ _ _ hs
instance (L : List (List Int)) : Decidable (SmallP L) := by unfold SmallP; infer_instance
theorem small_is (L : List (List Int)) : Fsmall [.list L.length (encM L)] = some (decide (SmallP L)) := by
  refine Fsmall_of _ _ ?_
  unfold tsmall
  by_cases h8 : L.length ≤ 8
  · rw [bif_neg (by omega)]
    have h := small_loop L h8 L.length 0 (by omega)
    rw [List.drop_zero] at h
    have h : Rsmall_0 (Tsmall_0a L.length (encM L) 0) = _ := h
    by_cases ha : L.all (fun r => decide (r.length ≤ 8)) = true
    · rw [if_pos ha] at h
      rw [Lsmall_0b_of h]
      have hm : Fn env 87 _ [.list L.length (encM L)] = _ := rMatE_is L
      simp only [bindO_val, Sum.elim_inr, hm, bif_ne]
      have hr : ∀ r ∈ L, r.length ≤ 8 := by simpa using ha
      by_cases hz : (matV L).2 = 0
      · rw [if_pos hz]
        by_cases h5 : L.length ≤ 5
        · rw [bif_pos (by omega)]
          exact congrArg some (decide_eq_true ⟨h8, hr, .inr h5⟩).symm
        · rw [bif_neg (by omega)]
          exact congrArg some (decide_eq_false fun h => h.2.2.elim (fun k => k hz) h5).symm
      · rw [if_neg hz]
        exact congrArg some (decide_eq_true ⟨h8, hr, .inl hz⟩).symm
    · rw [if_neg ha] at h
      rw [Lsmall_0a_of h]
      simp only [bindO_val, Sum.elim_inl]
      exact congrArg some (decide_eq_false fun h => ha (by simpa using h.2.1)).symm
  · rw [bif_pos (by omega)]
    exact congrArg some (decide_eq_false fun h => h8 h.1).symm
theorem matF_none {k : Nat} : ∀ {L : List (List Int)} {i : Nat}, matF k L i = none → ∀ r ∈ L, rowE k r = 0
  | [], _, _ => fun r h => by cases h
  | x :: L, i, h => by
    unfold matF at h
    split at h
    · rename_i hz
      intro r hr
      rcases List.mem_cons.1 hr with rfl | hr
      · exact hz
      · exact matF_none h r hr
    · cases h
theorem matF_err {k : Nat} : ∀ {L : List (List Int)} {i : Nat} {y : Int × Int}, matF k L i = some y → y.2 ≠ 0
  | [], _, _, h => by cases h
  | x :: L, i, y, h => by
    unfold matF at h
    split at h
    · exact matF_err h
    · rename_i hz
      simp only [Option.some.injEq] at h
      subst h
      exact hz
theorem matV_ok {L : List (List Int)} (h : (matV L).2 = 0) : matV L = (0, 0) ∧ 0 < L.length ∧ L.length ≤ 6 ∧ ∀ r ∈ L, r.length = L.length ∧ ∀ x ∈ r, 0 ≤ x ∧ x ≤ 10000000 := by
  unfold matV at h ⊢
  split at h
  · cases h
  · rename_i h0
    rw [if_neg h0]
    split at h
    · cases h
    · rename_i h6
      rw [if_neg h6]
      cases hm : matF L.length L 0 with
      | some y =>
        rw [hm] at h
        exact absurd h (matF_err hm)
      | none =>
        refine ⟨rfl, by omega, by omega, fun r hr => ?_⟩
        have := matF_none hm r hr
        unfold rowE at this
        split at this
        · rename_i hl
          split at this
          · rename_i ha
            refine ⟨hl, fun x hx => ?_⟩
            have := List.all_eq_true.1 ha x hx
            simpa [okC] using this
          · cases this
        · cases this
def Zm (L : List (List Int)) (i j : Nat) : Int := (L.getD i []).getD j 0
def sumW (Z : Nat → Nat → Int) (b : List Nat) (i : Nat) (a : Int) : Int := ((List.range b.length).drop i).foldl (fun a i => w64 (a + Z i (b.getD i 0))) a
theorem sumW_step (Z : Nat → Nat → Int) {b : List Nat} {i : Nat} (h : i < b.length) (a : Int) : sumW Z b i a = sumW Z b (i + 1) (w64 (a + Z i (b.getD i 0))) := by
  unfold sumW
  rw [List.drop_eq_getElem_cons (by simpa using h), List.foldl_cons]
  simp
theorem sumW_end (Z : Nat → Nat → Int) (b : List Nat) (a : Int) : sumW Z b b.length a = a := by
  unfold sumW
  rw [List.drop_of_length_le (by simp)]
  rfl
theorem getD_nat {a : List Int} {i : Nat} (h : i < a.length) : (a.map Int.toNat).getD i 0 = (a.getD i 0).toNat := by
  simp [List.getD, List.getElem?_eq_getElem h]
theorem rCost_loop (L : List (List Int)) (hL : L.length ≤ 1000) (hr : ∀ r ∈ L, r.length = L.length) (a : List Int) (ha : a.length ≤ L.length) (hc : ∀ x ∈ a, 0 ≤ x ∧ x < L.length) : ∀ (m i : Nat) (s : Int), i + m = a.length →
    RrCost_0 (TrCost_0a L.length (encM L) a.length (encI a) s i) = exO (XrCost_0a (sumW (Zm L) (a.map Int.toNat) i s))
  | 0, i, s, h => by
    have : i = (a.map Int.toNat).length := by simp; omega
    subst this
    rw [sumW_end]
    refine RrCost_0a_of _ _ _ _ _ _ ?_
    unfold BrCost_0a
    rw [bif_neg (by simp)]
    rfl
  | m + 1, i, s, h => by
    have hi : i < a.length := by omega
    have hL' : i < L.length := by omega
    have hx := hc (a.getD i 0) (by simp [List.getD, List.getElem?_eq_getElem hi])
    have hrl := hr _ (getD_memM hL')
    refine RrCost_0a_of _ _ _ _ _ _ ?_
    unfold BrCost_0a
    rw [bif_pos (by omega), bif_pos (by omega)]
    simp only [Int.toNat_natCast, Nat.mul_one, listM_get hL', bindO_val]
    rw [bif_pos (by omega)]
    simp only [intI_get hi, bindO_val]
    rw [bif_pos (by omega)]
    have hj : (a.getD i 0).toNat < (L.getD i []).length := by omega
    simp only [intI_get hj, bindO_val]
    rw [w64_in (n := (i : Int) + 1) (by omega)]
    have ih := rCost_loop L hL hr a ha hc m (i + 1) (w64 (s + (L.getD i []).getD (a.getD i 0).toNat 0)) (by omega)
    rw [sumW_step _ (by simpa using hi), getD_nat hi]
    exact_mod_cast ih
theorem sumW_zero (Z : Nat → Nat → Int) (b : List Nat) : sumW Z b 0 0 = (List.range b.length).foldl (fun a i => w64 (a + Z i (b.getD i 0))) 0 := by unfold sumW; rw [List.drop_zero]
theorem rCost_is (L : List (List Int)) (hL : L.length ≤ 1000) (hr : ∀ r ∈ L, r.length = L.length) (a : List Int) (ha : a.length ≤ L.length) (hc : ∀ x ∈ a, 0 ≤ x ∧ x < L.length) :
    FrCost [.list L.length (encM L), .list a.length (encI a)] = some (sumW (Zm L) (a.map Int.toNat) 0 0) := by
  refine FrCost_of _ _ _ _ ?_
  unfold trCost
  have h := LrCost_0a_of (rCost_loop L hL hr a ha hc a.length 0 0 (by omega))
  have h : LrCost_0 (TrCost_0a L.length (encM L) a.length (encI a) 0 0) = _ := h
  rw [h]
  rfl
theorem wCost_loop (L : List (List Int)) (hL : L.length ≤ 1000) (hr : ∀ r ∈ L, r.length = L.length) (a : List Int) (ha : a.length ≤ L.length) (hc : ∀ x ∈ a, 0 ≤ x ∧ x < L.length) : ∀ (m i : Nat) (s : Int), i + m = a.length →
    RwCost_0 (TwCost_0a L.length (encM L) s a.length (encI a) a.length i) = exO (XwCost_0a (sumW (Zm L) (a.map Int.toNat) i s))
  | 0, i, s, h => by
    have : i = (a.map Int.toNat).length := by simp; omega
    subst this
    rw [sumW_end]
    refine RwCost_0a_of _ _ _ _ _ _ _ ?_
    unfold BwCost_0a
    rw [bif_neg (by simp)]
    rfl
  | m + 1, i, s, h => by
    have hi : i < a.length := by omega
    have hL' : i < L.length := by omega
    have hx := hc (a.getD i 0) (by simp [List.getD, List.getElem?_eq_getElem hi])
    have hrl := hr _ (getD_memM hL')
    refine RwCost_0a_of _ _ _ _ _ _ _ ?_
    unfold BwCost_0a
    rw [bif_pos (by omega), bif_pos (by omega)]
    simp only [Int.toNat_natCast, Nat.mul_one, intI_get hi, bindO_val]
    rw [bif_pos (by omega)]
    simp only [listM_get hL', bindO_val]
    rw [bif_pos (by omega)]
    have hj : (a.getD i 0).toNat < (L.getD i []).length := by omega
    simp only [intI_get hj, bindO_val]
    rw [w64_in (n := (i : Int) + 1) (by omega)]
    have ih := wCost_loop L hL hr a ha hc m (i + 1) (w64 (s + (L.getD i []).getD (a.getD i 0).toNat 0)) (by omega)
    rw [sumW_step _ (by simpa using hi), getD_nat hi]
    exact_mod_cast ih
theorem wCost_is (L : List (List Int)) (hL : L.length ≤ 1000) (hr : ∀ r ∈ L, r.length = L.length) (a : List Int) (ha : a.length ≤ L.length) (hc : ∀ x ∈ a, 0 ≤ x ∧ x < L.length) :
    FwCost [.list L.length (encM L), .list a.length (encI a)] = some (sumW (Zm L) (a.map Int.toNat) 0 0) := by
  refine FwCost_of _ _ _ _ ?_
  unfold twCost
  have h := LwCost_0a_of (wCost_loop L hL hr a ha hc a.length 0 0 (by omega))
  have h : LwCost_0 (TwCost_0a L.length (encM L) 0 a.length (encI a) a.length 0) = _ := h
  rw [h]
  rfl
end Gv

/- Errors of matrices and of assignments. -/
namespace Gv
open Go
set_option maxRecDepth 100000
theorem cMat_in (r : List Int) (hr : r.length ≤ 1000) : ∀ (m k : Nat), k + m = r.length →
    ∃ j e : Int, RcMat_900000000 (TcMat_900000000a r.length (encI r) r.length k) = (if (r.drop k).all okC = true then exO (XcMat_900000000b ()) else exO (XcMat_900000000a (j, 2))) ∧ e = 0
  | 0, k, h => by
    refine ⟨0, 0, ?_, rfl⟩
    rw [List.drop_of_length_le (by omega), List.all_nil, if_pos rfl]
    refine RcMat_900000000a_of _ _ _ _ ?_
    unfold BcMat_900000000a
    rw [bif_neg (by omega)]
    rfl
  | m + 1, k, h => by
    obtain ⟨j, _, ih, _⟩ := cMat_in r hr m (k + 1) (by omega)
    have hk : k < r.length := by omega
    have hs : BcMat_900000000a (Fn env) RcMat_900000000 exO LcMat_1450000000 LcMat_900000000 r.length (encI r) r.length k = if okC (r.getD k 0) = true then RcMat_900000000 (TcMat_900000000a r.length (encI r) r.length ((k + 1 : Nat) : Int)) else exO (XcMat_900000000a ((k : Int), 2)) := by
      unfold BcMat_900000000a
      have hE := rE_is (r.getD k 0) 0 10000000
      rw [bif_pos (by omega), bif_pos (by omega)]
      simp only [Int.toNat_natCast, Nat.mul_one, intI_get hk, bindO_val, hE, bif_ne]
      rw [w64_in (by omega), rangeE_if]
      unfold okC
      by_cases ho : 0 ≤ r.getD k 0 ∧ r.getD k 0 ≤ 10000000
      · rw [if_pos ho, if_pos rfl, if_pos (by simpa using ho)]
        rfl
      · rw [if_neg ho, if_neg (by decide), if_neg (by simpa using ho)]
    rw [drop_getD hk, List.all_cons]
    by_cases ho : okC (r.getD k 0) = true
    · rw [if_pos ho, ih] at hs
      refine ⟨j, 0, ?_, rfl⟩
      simp only [ho, Bool.true_and]
      by_cases ha : (r.drop (k + 1)).all okC = true
      · rw [if_pos ha] at hs ⊢
        exact RcMat_900000000a_of _ _ _ _ hs
      · rw [if_neg ha] at hs ⊢
        exact RcMat_900000000a_of _ _ _ _ hs
    · rw [if_neg ho] at hs
      refine ⟨k, 0, ?_, rfl⟩
      rw [(Bool.not_eq_true _).mp ho, Bool.false_and, if_neg (by decide)]
      exact RcMat_900000000a_of _ _ _ _ hs
theorem cMat_loop (L : List (List Int)) (hL : L.length ≤ 1000) (hr : ∀ r ∈ L, r.length ≤ 1000) : ∀ (m i : Nat), i + m = L.length →
    RcMat_1450000000 (TcMat_1450000000a L.length (encM L) L.length (encM L) L.length i) = match matF L.length (L.drop i) i with
      | some y => exO (XcMat_1450000000b y)
      | none => exO (XcMat_1450000000a ())
  | 0, i, h => by
    rw [List.drop_of_length_le (by omega)]
    refine RcMat_1450000000a_of _ _ _ _ _ _ ?_
    unfold BcMat_1450000000a
    rw [bif_neg (by omega)]
    rfl
  | m + 1, i, h => by
    have ih := cMat_loop L hL hr m (i + 1) (by omega)
    have hi : i < L.length := by omega
    rw [drop_getM hi]
    unfold matF
    have hs : BcMat_1450000000a (Fn env) RcMat_1450000000 exO LcMat_1450000000 LcMat_900000000 L.length (encM L) L.length (encM L) L.length i = if rowE L.length (L.getD i []) = 0 then RcMat_1450000000 (TcMat_1450000000a L.length (encM L) L.length (encM L) L.length ((i + 1 : Nat) : Int)) else exO (XcMat_1450000000b ((i : Int), rowE L.length (L.getD i []))) := by
      obtain ⟨j, _, hin, _⟩ := cMat_in (L.getD i []) (hr _ (getD_memM hi)) _ 0 (Nat.zero_add _)
      rw [List.drop_zero] at hin
      unfold BcMat_1450000000a rowE
      rw [bif_pos (by omega), bif_pos (by omega)]
      simp only [Int.toNat_natCast, Nat.mul_one, listM_get hi, bindO_val, eIf_is, fE2_is, bif_ne]
      rw [w64_in (by omega)]
      by_cases ha : (L.getD i []).all okC = true
      · rw [if_pos ha] at hin ⊢
        have hin := LcMat_900000000b_of hin
        have hin : LcMat_900000000 (TcMat_900000000a (L.getD i []).length (encI (L.getD i [])) (L.getD i []).length 0) = _ := hin
        rw [hin]
        simp only [bindO_val, Sum.elim_inr]
        by_cases hl : (L.getD i []).length = L.length
        · rw [if_pos (by omega), if_pos hl]
          simp only [both]
          rfl
        · rw [if_neg (by omega), if_neg hl]
          simp only [both]
          rfl
      · rw [if_neg ha] at hin ⊢
        have hin := LcMat_900000000a_of hin
        have hin : LcMat_900000000 (TcMat_900000000a (L.getD i []).length (encI (L.getD i [])) (L.getD i []).length 0) = _ := hin
        rw [hin]
        simp only [bindO_val, Sum.elim_inl]
        by_cases hl : (L.getD i []).length = L.length
        · rw [if_pos (by omega), if_pos hl]
          simp only [both]
          rfl
        · rw [if_neg (by omega), if_neg hl]
          simp only [both]
          rfl
    by_cases hz : rowE L.length (L.getD i []) = 0
    · rw [if_pos hz] at hs ⊢
      rw [ih] at hs
      generalize matF L.length (L.drop (i + 1)) (i + 1) = x at hs ⊢
      cases x <;> exact RcMat_1450000000a_of _ _ _ _ _ _ hs
    · rw [if_neg hz] at hs ⊢
      exact RcMat_1450000000a_of _ _ _ _ _ _ hs
theorem cMat_is (L : List (List Int)) (hr : ∀ r ∈ L, r.length ≤ 1000) : FcMat [.list L.length (encM L)] = some (matV L) := by
  refine FcMat_of _ _ ?_
  unfold tcMat matV
  by_cases h0 : L.length = 0
  · have : ((L.length : Int) == 0) = true := by simp [h0]
    rw [this, if_pos h0]
    rfl
  · have : ((L.length : Int) == 0) = false := by rw [beq_eq_false_iff_ne]; omega
    rw [this, if_neg h0, cond_false]
    by_cases h6 : 6 < L.length
    · rw [bif_pos (by omega), if_pos h6]
    · rw [bif_neg (by omega), if_neg h6]
      have h := cMat_loop L (by omega) hr L.length 0 (by omega)
      rw [List.drop_zero] at h
      have h : RcMat_1450000000 (TcMat_1450000000a L.length (encM L) L.length (encM L) L.length 0) = _ := h
      generalize matF L.length L 0 = x at h ⊢
      cases x with
      | none =>
        rw [LcMat_1450000000a_of h]
        rfl
      | some y =>
        rw [LcMat_1450000000b_of h]
        rfl
theorem matE_is (L : List (List Int)) (hr : ∀ r ∈ L, r.length ≤ 1000) : FmatE [.list L.length (encM L)] = some (matV L).2 := by
  refine FmatE_of _ _ ?_
  unfold tmatE
  have h : Fn env 26 _ [.list L.length (encM L)] = _ := cMat_is L hr
  rw [h]
  rfl
end Gv

/- An assignment with potentials, as the reference checks it. -/
namespace Gv
open Go
set_option maxRecDepth 100000
section
variable (L : List (List Int)) (hL : L.length ≤ 1000) (a R C : List Int) (ha : a.length = L.length) (hR : R.length = L.length) (hC : C.length = L.length)
include hL ha hR hC
end
end Gv

/- The parts of the program's check of an assignment. -/
namespace Gv
open Go
set_option maxRecDepth 100000
end Gv

/- The cheapest assignments, as the reference and the program find them. -/
namespace Gv
open Go
set_option maxRecDepth 100000
def minF (c : List Nat → Int) (l : List (List Nat)) (s : Int) : Int := l.foldl (fun s b => if c b < s then c b else s) s
def minL (c : List Nat → Int) (l : List (List Nat)) : Int := minF c (l.drop 1) (c (l.getD 0 []))
def cheapL (c : List Nat → Int) (l : List (List Nat)) : List (List Nat) := l.filter fun b => decide (c b = minL c l)
theorem all_fold (c : List Nat → Int) : ∀ (l p : List (List Nat)) (k : Int), (∀ b ∈ p, k ≤ c b) → l.foldl (allStep c) (some (p.filter (fun b => decide (c b = k)), k)) = some ((p ++ l).filter (fun b => decide (c b = minF c l k)), minF c l k)
  | [], p, k, _ => by rw [List.append_nil]; rfl
  | x :: l, p, k, h => by
    have e : minF c (x :: l) k = minF c l (if c x < k then c x else k) := rfl
    rw [List.foldl_cons, e]
    have hp : p ++ x :: l = (p ++ [x]) ++ l := by simp
    rw [hp]
    by_cases h1 : c x < k
    · have hs : allStep c (some (p.filter (fun b => decide (c b = k)), k)) x = some ((p ++ [x]).filter (fun b => decide (c b = c x)), c x) := by
        unfold allStep
        simp only [h1, if_true]
        have : p.filter (fun b => decide (c b = c x)) = [] := List.filter_eq_nil_iff.2 fun b hb => by
          have := h b hb
          simp only [decide_eq_true_eq]
          omega
        rw [List.filter_append, this]
        simp
      rw [hs, if_pos h1]
      refine all_fold c l (p ++ [x]) (c x) fun b hb => ?_
      rcases List.mem_append.1 hb with hb | hb
      · have := h b hb; omega
      · simp at hb; subst hb; omega
    · rw [if_neg h1]
      have hge : ∀ b ∈ p ++ [x], k ≤ c b := fun b hb => by
        rcases List.mem_append.1 hb with hb | hb
        · exact h b hb
        · simp at hb; subst hb; omega
      by_cases h2 : c x = k
      · have hs : allStep c (some (p.filter (fun b => decide (c b = k)), k)) x = some ((p ++ [x]).filter (fun b => decide (c b = k)), k) := by
          unfold allStep
          simp only [h1, if_false]
          rw [if_pos h2, List.filter_append]
          simp [h2]
        rw [hs]
        exact all_fold c l (p ++ [x]) k hge
      · have hs : allStep c (some (p.filter (fun b => decide (c b = k)), k)) x = some ((p ++ [x]).filter (fun b => decide (c b = k)), k) := by
          unfold allStep
          simp only [h1, if_false]
          rw [if_neg h2, List.filter_append]
          simp [h2]
        rw [hs]
        exact all_fold c l (p ++ [x]) k hge
theorem allIn_is (c : List Nat → Int) {l : List (List Nat)} (h : l ≠ []) : allIn c l = some (cheapL c l, minL c l) := by
  obtain ⟨x, r, rfl⟩ := List.exists_cons_of_ne_nil h
  have := all_fold c r [x] (c x) fun b hb => by simp at hb; subst hb; omega
  have e : allIn c (x :: r) = r.foldl (allStep c) (some ([x].filter (fun b => decide (c b = c x)), c x)) := by
    unfold allIn
    rw [List.foldl_cons]
    simp [allStep]
  rw [e, this]
  rfl
theorem cheap_ne (c : List Nat → Int) {l : List (List Nat)} (h : l ≠ []) : ∃ b bs, cheapL c l = b :: bs ∧ bestIn c l = some (b, minL c l) := by
  have ha := allIn_is c h
  rcases all_best c l none none (.inl ⟨rfl, rfl⟩) with ⟨h1, _⟩ | ⟨b, bs, k, h1, h2⟩
  · have h1 : allIn c l = none := h1
    rw [ha] at h1
    cases h1
  · have h1 : allIn c l = _ := h1
    have h2 : bestIn c l = _ := h2
    rw [ha] at h1
    simp only [Option.some.injEq, Prod.mk.injEq] at h1
    exact ⟨b, bs, h1.1, h1.2 ▸ h2⟩
theorem cheap_mem {c : List Nat → Int} {l : List (List Nat)} {b : List Nat} (h : b ∈ cheapL c l) : b ∈ l ∧ c b = minL c l := by
  unfold cheapL at h
  have := List.mem_filter.1 h
  exact ⟨this.1, by simpa using this.2⟩
def asI (b : List Nat) : List Int := b.map fun (x : Nat) => (x : Int)
theorem encN_is (b : List Nat) : encN b = encI (asI b) := by simp [encN, encI, asI]
theorem asI_len (b : List Nat) : (asI b).length = b.length := by simp [asI]
theorem asI_nat (b : List Nat) : (asI b).map Int.toNat = b := by
  unfold asI
  rw [List.map_map]
  have e : (Int.toNat ∘ fun (x : Nat) => (x : Int)) = id := by funext x; simp
  rw [e, List.map_id]
theorem listP_get {A : List (List Nat)} {i : Nat} (h : i < A.length) : listC (A.map rowP)[i]? = some ((A.getD i []).length, encN (A.getD i [])) := by
  rw [List.getElem?_map, List.getElem?_eq_getElem h]
  simp [List.getD, List.getElem?_eq_getElem h, rowP, listC]
theorem intN_get {b : List Nat} {i : Nat} (h : i < b.length) : intC .i64 (encN b)[i]? = some ((b.getD i 0 : Nat) : Int) := by
  have : (encN b)[i]? = some (PV.int .i64 ((b.getD i 0 : Nat) : Int)) := by simp [encN, List.getD, List.getElem?_eq_getElem h]
  rw [this]
  rfl
theorem drop_getN {r : List (List Nat)} {i : Nat} (h : i < r.length) : r.drop i = r.getD i [] :: r.drop (i + 1) := by
  rw [List.drop_eq_getElem_cons h]
  simp [List.getD, List.getElem?_eq_getElem h]
theorem getD_memN {L : List (List Nat)} {i : Nat} (h : i < L.length) : L.getD i [] ∈ L := by simp [List.getD, List.getElem?_eq_getElem h]
def asgs (N : Nat) : List (List Nat) := ext N N []
theorem asgs_row {N : Nat} (h : N ≤ 5) {b : List Nat} (hb : b ∈ asgs N) : b.length = N ∧ ∀ x ∈ b, x < N := ⟨ext_row h b hb, fun x hx => by simpa using List.all_eq_true.1 (ext_all_lt h b hb) x hx⟩
theorem cost_both {L : List (List Int)} (h5 : L.length ≤ 5) (hr : ∀ r ∈ L, r.length = L.length) {b : List Nat} (hb : b ∈ asgs L.length) :
    FrCost [.list L.length (encM L), .list b.length (encN b)] = some (costW (Zm L) b) ∧ FwCost [.list L.length (encM L), .list b.length (encN b)] = some (costW (Zm L) b) := by
  obtain ⟨h1, h2⟩ := asgs_row h5 hb
  have hl : ∀ x ∈ asI b, 0 ≤ x ∧ x < (L.length : Int) := fun x hx => by
    unfold asI at hx
    obtain ⟨y, hy, rfl⟩ := List.mem_map.1 hx
    have := h2 y hy
    omega
  have e : sumW (Zm L) ((asI b).map Int.toNat) 0 0 = costW (Zm L) b := by rw [asI_nat, sumW_zero]; rfl
  have a1 := rCost_is L (by omega) hr (asI b) (by rw [asI_len]; omega) hl
  have a2 := wCost_is L (by omega) hr (asI b) (by rw [asI_len]; omega) hl
  rw [e, asI_len, ← encN_is] at a1 a2
  exact ⟨a1, a2⟩
section
variable (L : List (List Int)) (h5 : L.length ≤ 5) (hr : ∀ r ∈ L, r.length = L.length)
include h5 hr
theorem rChe_0 (A : List (List Nat)) (hA : ∀ b ∈ A, b ∈ asgs L.length) (hAl : A.length ≤ 1000) : ∀ (m i : Nat) (s : Int), i + m = A.length →
    RrChe_0 (TrChe_0a L.length (encM L) A.length (A.map rowP) s i) = exO (XrChe_0a (L.length, encM L, A.length, A.map rowP, minF (costW (Zm L)) (A.drop i) s))
  | 0, i, s, h => by
    refine RrChe_0a_of _ _ _ _ _ _ ?_
    unfold BrChe_0a minF
    rw [bif_neg (by omega), List.drop_of_length_le (by omega)]
    rfl
  | m + 1, i, s, h => by
    have hi : i < A.length := by omega
    have hc : Fn env 100 _ [.list L.length (encM L), .list (A.getD i []).length (encN (A.getD i []))] = _ := (cost_both h5 hr (hA _ (getD_memN hi))).1
    have ih := rChe_0 A hA hAl m (i + 1) (if costW (Zm L) (A.getD i []) < s then costW (Zm L) (A.getD i []) else s) (by omega)
    refine RrChe_0a_of _ _ _ _ _ _ ?_
    unfold BrChe_0a
    rw [bif_pos (by omega), bif_pos (by omega)]
    simp only [Int.toNat_natCast, Nat.mul_one, listP_get hi, bindO_val]
    rw [hc]
    simp only [bindO_val]
    rw [w64_in (n := (i : Int) + 1) (by omega), drop_getN hi]
    exact_mod_cast ih
theorem rChe_2b (A : List (List Nat)) (hA : ∀ b ∈ A, b ∈ asgs L.length) (hAl : A.length ≤ 1000) (s : Int) : ∀ (m i : Nat) (F : List (List Nat)), i + m = A.length → F.length ≤ i →
    RrChe_2 (TrChe_2b L.length (encM L) A.length (A.map rowP) s F.length (F.map rowP) i F.length) = exO (XrChe_2b (s, (F ++ (A.drop i).filter (fun b => decide (costW (Zm L) b = s))).length, (F ++ (A.drop i).filter (fun b => decide (costW (Zm L) b = s))).map rowP, (F ++ (A.drop i).filter (fun b => decide (costW (Zm L) b = s))).length))
  | 0, i, F, h, _ => by
    refine RrChe_2b_of _ _ _ _ _ _ _ _ _ ?_
    unfold BrChe_2b
    rw [bif_neg (by omega), List.drop_of_length_le (by omega), List.filter_nil, List.append_nil]
    rfl
  | m + 1, i, F, h, hF => by
    have hi : i < A.length := by omega
    have hc : Fn env 100 _ [.list L.length (encM L), .list (A.getD i []).length (encN (A.getD i []))] = _ := (cost_both h5 hr (hA _ (getD_memN hi))).1
    refine RrChe_2b_of _ _ _ _ _ _ _ _ _ ?_
    unfold BrChe_2b
    rw [bif_pos (by omega), bif_pos (by omega)]
    simp only [Int.toNat_natCast, Nat.mul_one, listP_get hi, bindO_val]
    rw [hc]
    simp only [bindO_val]
    rw [drop_getN hi, List.filter_cons]
    by_cases he : costW (Zm L) (A.getD i []) = s
    · have ih := rChe_2b A hA hAl s m (i + 1) (F ++ [A.getD i []]) (by omega) (by simp; omega)
      have e : (costW (Zm L) (A.getD i []) == s) = true := by simpa using he
      rw [e, cond_true, bif_pos (by omega), if_pos (by simpa using he), bif_pos ⟨trivial, by unfold big; omega⟩]
      rw [List.append_assoc, List.singleton_append, List.length_append, List.map_append] at ih
      rw [w64_in (n := (i : Int) + 1) (by omega)]
      exact_mod_cast ih
    · have ih := rChe_2b A hA hAl s m (i + 1) F (by omega) (by omega)
      have e : (costW (Zm L) (A.getD i []) == s) = false := by rw [beq_eq_false_iff_ne]; exact he
      rw [e, cond_false, if_neg (by simpa using he), w64_in (n := (i : Int) + 1) (by omega)]
      exact_mod_cast ih
theorem rChe_2a (A : List (List Nat)) (hA : ∀ b ∈ A, b ∈ asgs L.length) (hAl : A.length ≤ 1000) (s : Int) : ∀ (m i : Nat), i + m = A.length →
    RrChe_2 (TrChe_2a L.length (encM L) A.length (A.map rowP) s i) = if (A.drop i).filter (fun b => decide (costW (Zm L) b = s)) = [] then exO (XrChe_2a s) else exO (XrChe_2b (s, ((A.drop i).filter (fun b => decide (costW (Zm L) b = s))).length, ((A.drop i).filter (fun b => decide (costW (Zm L) b = s))).map rowP, ((A.drop i).filter (fun b => decide (costW (Zm L) b = s))).length))
  | 0, i, h => by
    rw [List.drop_of_length_le (by omega), List.filter_nil, if_pos rfl]
    refine RrChe_2a_of _ _ _ _ _ _ ?_
    unfold BrChe_2a
    rw [bif_neg (by omega)]
    rfl
  | m + 1, i, h => by
    have hi : i < A.length := by omega
    have hc : Fn env 100 _ [.list L.length (encM L), .list (A.getD i []).length (encN (A.getD i []))] = _ := (cost_both h5 hr (hA _ (getD_memN hi))).1
    rw [drop_getN hi]
    by_cases he : costW (Zm L) (A.getD i []) = s
    · have ih := rChe_2b L h5 hr A hA hAl s m (i + 1) [A.getD i []] (by omega) (by simp)
      have e : (costW (Zm L) (A.getD i []) == s) = true := by simpa using he
      have ef : (A.getD i [] :: A.drop (i + 1)).filter (fun b => decide (costW (Zm L) b = s)) = A.getD i [] :: (A.drop (i + 1)).filter (fun b => decide (costW (Zm L) b = s)) := by rw [List.filter_cons, if_pos (by simpa using he)]
      rw [ef, if_neg (by simp)]
      refine RrChe_2a_of _ _ _ _ _ _ ?_
      unfold BrChe_2a
      rw [bif_pos (by omega), bif_pos (by omega)]
      simp only [Int.toNat_natCast, Nat.mul_one, listP_get hi, bindO_val]
      rw [hc]
      simp only [bindO_val]
      rw [e, cond_true, bif_pos (by omega), w64_in (n := (i : Int) + 1) (by omega)]
      rw [List.singleton_append] at ih
      exact_mod_cast ih
    · have ih := rChe_2a A hA hAl s m (i + 1) (by omega)
      have e : (costW (Zm L) (A.getD i []) == s) = false := by rw [beq_eq_false_iff_ne]; exact he
      have ef : (A.getD i [] :: A.drop (i + 1)).filter (fun b => decide (costW (Zm L) b = s)) = (A.drop (i + 1)).filter (fun b => decide (costW (Zm L) b = s)) := by rw [List.filter_cons, if_neg (by simpa using he)]
      rw [ef]
      have hs : BrChe_2a (Fn env) RrChe_2 exO LrChe_0 LrChe_2 L.length (encM L) A.length (A.map rowP) s i = RrChe_2 (TrChe_2a L.length (encM L) A.length (A.map rowP) s ((i + 1 : Nat) : Int)) := by
        unfold BrChe_2a
        rw [bif_pos (by omega), bif_pos (by omega)]
        simp only [Int.toNat_natCast, Nat.mul_one, listP_get hi, bindO_val]
        rw [hc]
        simp only [bindO_val]
        rw [e, cond_false, w64_in (n := (i : Int) + 1) (by omega)]
        rfl
      rw [ih] at hs
      split at hs
      · rename_i hn
        rw [if_pos hn]
        exact RrChe_2a_of _ _ _ _ _ _ hs
      · rename_i hn
        rw [if_neg hn]
        exact RrChe_2a_of _ _ _ _ _ _ hs
theorem rChe_is (h99 : Fn env 99 (RSh.one CK.list) [.int .i64 L.length] = some ((asgs L.length).length, (asgs L.length).map rowP)) :
    FrChe [.list L.length (encM L)] = some (((cheapL (costW (Zm L)) (asgs L.length)).length, (cheapL (costW (Zm L)) (asgs L.length)).map rowP), minL (costW (Zm L)) (asgs L.length)) := by
  refine FrChe_of _ _ ?_
  unfold trChe
  have hne : asgs L.length ≠ [] := ext_ne h5
  have hlen : (asgs L.length).length ≤ 120 := ext_len h5
  have hpos : 0 < (asgs L.length).length := Nat.pos_of_ne_zero fun h => hne (List.length_eq_zero_iff.1 h)
  have hc : Fn env 100 _ [.list L.length (encM L), .list ((asgs L.length).getD 0 []).length (encN ((asgs L.length).getD 0 []))] = _ := (cost_both h5 hr (getD_memN hpos)).1
  rw [h99]
  simp only [bindO_val]
  rw [bif_pos (by omega), listP_get hpos]
  simp only [bindO_val]
  rw [hc]
  simp only [bindO_val]
  have h0 := LrChe_0a_of (rChe_0 L h5 hr (asgs L.length) (fun b h => h) (by omega) ((asgs L.length).length - 1) 1 (costW (Zm L) ((asgs L.length).getD 0 [])) (by omega))
  have h0 : LrChe_0 (TrChe_0a L.length (encM L) (asgs L.length).length ((asgs L.length).map rowP) (costW (Zm L) ((asgs L.length).getD 0 [])) 1) = _ := h0
  rw [h0]
  simp only [bindO_val]
  have h2 := rChe_2a L h5 hr (asgs L.length) (fun b h => h) (by omega) (minL (costW (Zm L)) (asgs L.length)) (asgs L.length).length 0 (by omega)
  rw [List.drop_zero] at h2
  have hcl : (asgs L.length).filter (fun b => decide (costW (Zm L) b = minL (costW (Zm L)) (asgs L.length))) = cheapL (costW (Zm L)) (asgs L.length) := rfl
  rw [hcl] at h2
  obtain ⟨b, bs, hb, _⟩ := cheap_ne (costW (Zm L)) hne
  rw [if_neg (by rw [hb]; simp)] at h2
  have h2 := LrChe_2b_of h2
  have h2 : LrChe_2 (TrChe_2a L.length (encM L) (asgs L.length).length ((asgs L.length).map rowP) (minF (costW (Zm L)) ((asgs L.length).drop 1) (costW (Zm L) ((asgs L.length).getD 0 []))) 0) = _ := h2
  rw [h2]
  rfl
end
end Gv

/- The cheapest assignment and certain rows. -/
namespace Gv
open Go
set_option maxRecDepth 100000
theorem prim1_fn {env : Nat → Option AFn} {f n : Nat} {cs : List PV} {g : List PV → Option PV} {v : PV} (hf : env f = some (primA 1 g)) (hg : g [.list n cs] = some v) : run env f [.list n cs] = some (.val v) := by
  refine (run_iff env).2 ⟨2, ?_⟩
  have e : exN (callN env 1) 1 (primA 1 g).body (start (primA 1 g) [.list n cs]) = some (.normal, ⟨[.p (.list n cs), .p v], [Blk.none, Blk.none]⟩) := by
    show exN (callN env 1) 1 (.ops [{ dst := some 1, grd := none, args := [.tmp 0], k := .l (.prim g) }]) ⟨[.p (.list n cs), .undef], [Blk.none, Blk.none]⟩ = _
    simp only [exN, exOps, exOp, grd]
    have hk : runK (callN env 1) (.l (.prim g)) [.p (.list n cs)] [Blk.none, Blk.none] = some (.p v, [Blk.none, Blk.none]) := by
      simp only [runK, runL, pureAs, pureA, hg, Option.map_some]
    have ha : ([Arg.tmp 0].map (Arg.get [AV.p (.list n cs), .undef])) = [.p (.list n cs)] := rfl
    simp only [ha, hk]
    rfl
  rw [callN_fn env 1 f _ (fun sh caps e => by cases e)]
  simp only [hf]
  rw [if_pos ⟨rfl, rfl⟩, e]
  rfl
theorem zOf_enc (L : List (List Int)) : zOf (encM L) = Zm L := by
  funext i j
  unfold zOf Zm
  rw [encM_get]
  by_cases hi : i < L.length
  · rw [List.getElem?_eq_getElem hi]
    simp only [Option.map_some, rowI, List.getD, List.getElem?_eq_getElem hi, Option.getD_some]
    unfold intAt
    rw [encI_get]
    by_cases hj : j < L[i].length
    · rw [List.getElem?_eq_getElem hj]
      rfl
    · rw [List.getElem?_eq_none (by omega)]
      rfl
  · rw [List.getElem?_eq_none (by omega)]
    simp [List.getD, List.getElem?_eq_none (show L.length ≤ i by omega)]
theorem rowN_enc {L : List (List Int)} (hr : ∀ r ∈ L, r.length = L.length) : (encM L).length = L.length ∧ (encM L).all (isRowN L.length) = true := by
  refine ⟨by simp [encM], List.all_eq_true.2 fun x hx => ?_⟩
  unfold encM at hx
  obtain ⟨r, h, rfl⟩ := List.mem_map.1 hx
  have := hr r h
  unfold isRowN rowI
  simp only [this, encI_len, decide_true, Bool.true_and]
  exact List.all_eq_true.2 fun y hy => by
    unfold encI at hy
    obtain ⟨z, _, rfl⟩ := List.mem_map.1 hy
    rfl
theorem f94 {L : List (List Int)} (h5 : L.length ≤ 5) (hr : ∀ r ∈ L, r.length = L.length) {b : List Nat} {k : Int} (hb : bestIn (costW (Zm L)) (asgs L.length) = some (b, k)) : Fn env 94 (RSh.one CK.list) [.list L.length (encM L)] = some (b.length, encN b) := by
  have hg : cheapG [.list L.length (encM L)] = some (rowP b) := by
    unfold cheapG
    simp only
    rw [if_pos ⟨h5, rowN_enc hr⟩, zOf_enc]
    unfold asgs at hb
    rw [hb]
  unfold Fn
  rw [prim1_fn (env := env) (f := 94) rfl hg]
  rfl
theorem f96 {L : List (List Int)} (h5 : L.length ≤ 5) (hr : ∀ r ∈ L, r.length = L.length) : Fn env 96 (RSh.one CK.list) [.list L.length (encM L)] = some ((cheapL (costW (Zm L)) (asgs L.length)).length, (cheapL (costW (Zm L)) (asgs L.length)).map rowP) := by
  have hg : allG [.list L.length (encM L)] = some (.list (cheapL (costW (Zm L)) (asgs L.length)).length ((cheapL (costW (Zm L)) (asgs L.length)).map rowP)) := by
    unfold allG
    simp only
    rw [if_pos ⟨h5, rowN_enc hr⟩, zOf_enc]
    have := allIn_is (costW (Zm L)) (l := asgs L.length) (ext_ne h5)
    unfold asgs at this ⊢
    rw [this]
  unfold Fn
  rw [prim1_fn (env := env) (f := 96) rfl hg]
  rfl
theorem cheO_is {L : List (List Int)} (hz : (matV L).2 = 0) (h5 : L.length ≤ 5) {b : List Nat} {k : Int} (hb : bestIn (costW (Zm L)) (asgs L.length) = some (b, k)) : FcheO [.list L.length (encM L)] = some ((b.length, encN b), (costW (Zm L) b, 0)) := by
  have hr : ∀ r ∈ L, r.length = L.length := fun r h => ((matV_ok hz).2.2.2 r h).1
  refine FcheO_of _ _ ?_
  unfold tcheO
  have h1 : Fn env 93 _ [.list L.length (encM L)] = _ := matE_is L fun r h => by have := hr r h; omega
  have h2 : Fn env 95 _ [.list L.length (encM L), .list b.length (encN b)] = _ := (cost_both h5 hr (bestIn_mem hb)).2
  rw [h1, hz]
  simp only [bindO_val, bne_self_eq_false, cond_false]
  rw [f94 h5 hr hb]
  simp only [bindO_val]
  rw [h2]
  rfl
theorem cheO_bad {L : List (List Int)} (hr : ∀ r ∈ L, r.length ≤ 1000) (hz : (matV L).2 ≠ 0) : FcheO [.list L.length (encM L)] = some ((0, []), (0, (matV L).2)) := by
  refine FcheO_of _ _ ?_
  unfold tcheO
  have h1 : Fn env 93 _ [.list L.length (encM L)] = _ := matE_is L hr
  rw [h1]
  simp only [bindO_val, bif_ne]
  rw [if_neg hz]
def sameC (G : List (List Nat)) (i : Nat) (b : List Nat) : Bool := decide (b.getD i 0 = (G.getD 0 []).getD i 0)
def cerF (G : List (List Nat)) : Nat → Nat → List Int
  | 0, _ => []
  | m + 1, i => if G.all (sameC G i) = true then (i : Int) :: cerF G m (i + 1) else cerF G m (i + 1)
section
variable (N : Nat) (M : List PV) (G : List (List Nat)) (hG : 0 < G.length) (hGl : G.length ≤ 1000) (hN : N ≤ 1000) (hrow : ∀ b ∈ G, b.length = N)
include hG hGl hN hrow
omit hN in
theorem rCer_2a (i : Nat) (hi : i < N) : ∀ (m k : Nat) (s : Bool), k + m = G.length → RrCer_2 (TrCer_2a N M G.length (G.map rowP) i s k) = exO (XrCer_2a (N, M, G.length, G.map rowP, (i : Int), s && (G.drop k).all (sameC G i)))
  | 0, k, s, h => by
    refine RrCer_2a_of _ _ _ _ _ _ _ ?_
    unfold BrCer_2a
    rw [bif_neg (by omega), List.drop_of_length_le (by omega), List.all_nil, Bool.and_true]
    rfl
  | m + 1, k, s, h => by
    have hk : k < G.length := by omega
    have h1 : i < (G.getD k []).length := by rw [hrow _ (getD_memN hk)]; exact hi
    have h0 : i < (G.getD 0 []).length := by rw [hrow _ (getD_memN hG)]; exact hi
    refine RrCer_2a_of _ _ _ _ _ _ _ ?_
    unfold BrCer_2a
    rw [bif_pos (by omega), drop_getN hk, List.all_cons]
    have ew : w64 ((k : Int) + 1) = ((k + 1 : Nat) : Int) := by rw [w64_in (by omega)]; omega
    cases s with
    | false =>
      have ih := rCer_2a i hi m (k + 1) false (by omega)
      rw [cond_false, ew, Bool.false_and]
      rw [Bool.false_and] at ih
      exact ih
    | true =>
      rw [cond_true, bif_pos (by omega)]
      simp only [Int.toNat_natCast, Nat.mul_one, listP_get hk, bindO_val]
      rw [bif_pos (by omega)]
      simp only [intN_get h1, bindO_val]
      rw [bif_pos (by omega)]
      simp only [listP_get hG, bindO_val]
      rw [bif_pos (by omega)]
      simp only [intN_get h0, bindO_val, ew]
      by_cases he : (G.getD k []).getD i 0 = (G.getD 0 []).getD i 0
      · have ih := rCer_2a i hi m (k + 1) true (by omega)
        have e1 : ((((G.getD k []).getD i 0 : Nat) : Int) == (((G.getD 0 []).getD i 0 : Nat) : Int)) = true := by rw [he]; simp
        have e2 : sameC G i (G.getD k []) = true := decide_eq_true he
        rw [e1, e2, cond_true, Bool.true_and]
        exact ih
      · have ih := rCer_2a i hi m (k + 1) false (by omega)
        have e1 : ((((G.getD k []).getD i 0 : Nat) : Int) == (((G.getD 0 []).getD i 0 : Nat) : Int)) = false := by rw [beq_eq_false_iff_ne]; exact fun h => he (by exact_mod_cast h)
        have e2 : sameC G i (G.getD k []) = false := decide_eq_false he
        rw [e1, e2, cond_false, Bool.false_and, Bool.and_false]
        rw [Bool.false_and] at ih
        exact ih
omit hN in
theorem rCer_2b (n4 n9 : Nat) (c5 : List PV) (i : Nat) (hi : i < N) : ∀ (m k : Nat) (s : Bool), k + m = G.length → RrCer_2 (TrCer_2b N M G.length (G.map rowP) n4 c5 i s k n9) = exO (XrCer_2b (N, M, G.length, G.map rowP, n4, c5, (i : Int), s && (G.drop k).all (sameC G i), n9))
  | 0, k, s, h => by
    refine RrCer_2b_of _ _ _ _ _ _ _ _ _ _ ?_
    unfold BrCer_2b
    rw [bif_neg (by omega), List.drop_of_length_le (by omega), List.all_nil, Bool.and_true]
    rfl
  | m + 1, k, s, h => by
    have hk : k < G.length := by omega
    have h1 : i < (G.getD k []).length := by rw [hrow _ (getD_memN hk)]; exact hi
    have h0 : i < (G.getD 0 []).length := by rw [hrow _ (getD_memN hG)]; exact hi
    refine RrCer_2b_of _ _ _ _ _ _ _ _ _ _ ?_
    unfold BrCer_2b
    rw [bif_pos (by omega), drop_getN hk, List.all_cons]
    have ew : w64 ((k : Int) + 1) = ((k + 1 : Nat) : Int) := by rw [w64_in (by omega)]; omega
    cases s with
    | false =>
      have ih := rCer_2b n4 n9 c5 i hi m (k + 1) false (by omega)
      rw [cond_false, ew, Bool.false_and]
      rw [Bool.false_and] at ih
      exact ih
    | true =>
      rw [cond_true, bif_pos (by omega)]
      simp only [Int.toNat_natCast, Nat.mul_one, listP_get hk, bindO_val]
      rw [bif_pos (by omega)]
      simp only [intN_get h1, bindO_val]
      rw [bif_pos (by omega)]
      simp only [listP_get hG, bindO_val]
      rw [bif_pos (by omega)]
      simp only [intN_get h0, bindO_val, ew]
      by_cases he : (G.getD k []).getD i 0 = (G.getD 0 []).getD i 0
      · have ih := rCer_2b n4 n9 c5 i hi m (k + 1) true (by omega)
        have e1 : ((((G.getD k []).getD i 0 : Nat) : Int) == (((G.getD 0 []).getD i 0 : Nat) : Int)) = true := by rw [he]; simp
        have e2 : sameC G i (G.getD k []) = true := decide_eq_true he
        rw [e1, e2, cond_true, Bool.true_and]
        exact ih
      · have ih := rCer_2b n4 n9 c5 i hi m (k + 1) false (by omega)
        have e1 : ((((G.getD k []).getD i 0 : Nat) : Int) == (((G.getD 0 []).getD i 0 : Nat) : Int)) = false := by rw [beq_eq_false_iff_ne]; exact fun h => he (by exact_mod_cast h)
        have e2 : sameC G i (G.getD k []) = false := decide_eq_false he
        rw [e1, e2, cond_false, Bool.false_and, Bool.and_false]
        rw [Bool.false_and] at ih
        exact ih
theorem rCer_0b : ∀ (m i : Nat) (F : List Int), i + m = N → F.length ≤ i → RrCer_0 (TrCer_0b N M G.length (G.map rowP) F.length (encI F) i F.length) = exO (XrCer_0b ((F ++ cerF G m i).length, encI (F ++ cerF G m i), (F ++ cerF G m i).length))
  | 0, i, F, h, hF => by
    refine RrCer_0b_of _ _ _ _ _ _ _ _ ?_
    unfold BrCer_0b cerF
    rw [bif_neg (by omega), List.append_nil]
    rfl
  | m + 1, i, F, h, hF => by
    have hi : i < N := by omega
    have h2 := rCer_2b N M G hG hGl hrow F.length F.length (encI F) i hi G.length 0 true (by omega)
    rw [List.drop_zero, Bool.true_and] at h2
    have h2 := LrCer_2b_of h2
    have h2 : LrCer_2 (TrCer_2b N M G.length (G.map rowP) F.length (encI F) i true 0 F.length) = _ := h2
    have ew : w64 ((i : Int) + 1) = ((i + 1 : Nat) : Int) := by rw [w64_in (by omega)]; omega
    refine RrCer_0b_of _ _ _ _ _ _ _ _ ?_
    unfold BrCer_0b cerF
    rw [bif_pos (by omega), h2]
    simp only [bindO_val, Sum.elim_inr, ew]
    cases hs : G.all (sameC G i) with
    | true =>
      have ih := rCer_0b m (i + 1) (F ++ [(i : Int)]) (by omega) (by simp; omega)
      rw [cond_true, bif_pos ⟨trivial, by unfold big; omega⟩, if_pos rfl]
      rw [List.append_assoc, List.singleton_append] at ih
      have e1 : (F ++ [(i : Int)]).length = F.length + 1 := by simp
      have e2 : encI (F ++ [(i : Int)]) = encI F ++ [PV.int .i64 (i : Int)] := by simp [encI]
      rw [e1, e2] at ih
      exact ih
    | false =>
      have ih := rCer_0b m (i + 1) F (by omega) (by omega)
      rw [cond_false, if_neg (by decide)]
      exact ih
theorem rCer_0a : ∀ (m i : Nat), i + m = N → RrCer_0 (TrCer_0a N M G.length (G.map rowP) i) = if cerF G m i = [] then exO (XrCer_0a ()) else exO (XrCer_0b ((cerF G m i).length, encI (cerF G m i), (cerF G m i).length))
  | 0, i, h => by
    refine RrCer_0a_of _ _ _ _ _ ?_
    unfold BrCer_0a
    rw [bif_neg (by omega)]
    rfl
  | m + 1, i, h => by
    have hi : i < N := by omega
    have h2 := rCer_2a N M G hG hGl hrow i hi G.length 0 true (by omega)
    rw [List.drop_zero, Bool.true_and] at h2
    have h2 := LrCer_2a_of h2
    have h2 : LrCer_2 (TrCer_2a N M G.length (G.map rowP) i true 0) = _ := h2
    have ew : w64 ((i : Int) + 1) = ((i + 1 : Nat) : Int) := by rw [w64_in (by omega)]; omega
    have hs : BrCer_0a (Fn env) RrCer_0 exO LrCer_0 LrCer_2 N M G.length (G.map rowP) i = if G.all (sameC G i) = true then RrCer_0 (TrCer_0b N M G.length (G.map rowP) [(i : Int)].length (encI [(i : Int)]) ((i + 1 : Nat) : Int) [(i : Int)].length) else RrCer_0 (TrCer_0a N M G.length (G.map rowP) ((i + 1 : Nat) : Int)) := by
      unfold BrCer_0a
      rw [bif_pos (by omega), h2]
      simp only [bindO_val, Sum.elim_inl, ew]
      cases G.all (sameC G i) <;> rfl
    unfold cerF
    by_cases ha : G.all (sameC G i) = true
    · have ih := rCer_0b N M G hG hGl hN hrow m (i + 1) [(i : Int)] (by omega) (by simp)
      rw [if_pos ha, ih] at hs
      rw [if_pos ha, if_neg (by simp)]
      exact RrCer_0a_of _ _ _ _ _ hs
    · have ih := rCer_0a m (i + 1) (by omega)
      rw [if_neg ha, ih] at hs
      rw [if_neg ha]
      split at hs
      · rename_i hn
        rw [if_pos hn]
        exact RrCer_0a_of _ _ _ _ _ hs
      · rename_i hn
        rw [if_neg hn]
        exact RrCer_0a_of _ _ _ _ _ hs
omit hN in
theorem cerI_in (i : Nat) (hi : i < N) : ∀ (m k : Nat), k + m = G.length → ∃ j : Nat, RcerI_1470000000 (TcerI_1470000000a G.length (G.map rowP) i G.length (G.map rowP) G.length k) = if (G.drop k).all (sameC G i) = true then exO (XcerI_1470000000b ()) else exO (XcerI_1470000000a (j : Int))
  | 0, k, h => by
    refine ⟨0, ?_⟩
    rw [List.drop_of_length_le (by omega), List.all_nil, if_pos rfl]
    refine RcerI_1470000000a_of _ _ _ _ _ _ _ ?_
    unfold BcerI_1470000000a
    rw [bif_neg (by omega)]
    rfl
  | m + 1, k, h => by
    obtain ⟨j, ih⟩ := cerI_in i hi m (k + 1) (by omega)
    have hk : k < G.length := by omega
    have h1 : i < (G.getD k []).length := by rw [hrow _ (getD_memN hk)]; exact hi
    have h0 : i < (G.getD 0 []).length := by rw [hrow _ (getD_memN hG)]; exact hi
    have ew : w64 ((k : Int) + 1) = ((k + 1 : Nat) : Int) := by rw [w64_in (by omega)]; omega
    have hs : BcerI_1470000000a (Fn env) RcerI_1470000000 exO LcerI_0 LcerI_1470000000 G.length (G.map rowP) i G.length (G.map rowP) G.length k = if sameC G i (G.getD k []) = true then RcerI_1470000000 (TcerI_1470000000a G.length (G.map rowP) i G.length (G.map rowP) G.length ((k + 1 : Nat) : Int)) else exO (XcerI_1470000000a (k : Int)) := by
      unfold BcerI_1470000000a
      rw [bif_pos (by omega), bif_pos (by omega)]
      simp only [Int.toNat_natCast, Nat.mul_one, listP_get hk, bindO_val]
      rw [bif_pos (by omega)]
      simp only [intN_get h1, bindO_val]
      rw [bif_pos (by omega)]
      simp only [listP_get hG, bindO_val]
      rw [bif_pos (by omega)]
      simp only [intN_get h0, bindO_val, ew]
      by_cases he : (G.getD k []).getD i 0 = (G.getD 0 []).getD i 0
      · have e1 : ((((G.getD k []).getD i 0 : Nat) : Int) != (((G.getD 0 []).getD i 0 : Nat) : Int)) = false := by rw [he]; simp
        have e2 : sameC G i (G.getD k []) = true := decide_eq_true he
        rw [e1, if_pos e2]
        rfl
      · have e1 : ((((G.getD k []).getD i 0 : Nat) : Int) != (((G.getD 0 []).getD i 0 : Nat) : Int)) = true := by rw [bne_iff_ne]; exact fun h => he (by exact_mod_cast h)
        have e2 : ¬ sameC G i (G.getD k []) = true := by unfold sameC; simp only [he, decide_false]; decide
        rw [e1, if_neg e2]
        rfl
    rw [drop_getN hk, List.all_cons]
    by_cases he : sameC G i (G.getD k []) = true
    · rw [if_pos he, ih] at hs
      refine ⟨j, ?_⟩
      rw [he, Bool.true_and]
      split at hs
      · rename_i ha
        rw [if_pos ha]
        exact RcerI_1470000000a_of _ _ _ _ _ _ _ hs
      · rename_i ha
        rw [if_neg ha]
        exact RcerI_1470000000a_of _ _ _ _ _ _ _ hs
    · rw [if_neg he] at hs
      refine ⟨k, ?_⟩
      rw [(Bool.not_eq_true _).mp he, Bool.false_and, if_neg (by decide)]
      exact RcerI_1470000000a_of _ _ _ _ _ _ _ hs
theorem cerI_0b : ∀ (m i : Nat) (F : List Int), i + m = N → F.length ≤ i → RcerI_0 (TcerI_0b F.length (encI F) N i G.length (G.map rowP) F.length) = exO (XcerI_0b ((F ++ cerF G m i).length, encI (F ++ cerF G m i), G.length, G.map rowP, (F ++ cerF G m i).length))
  | 0, i, F, h, hF => by
    refine RcerI_0b_of _ _ _ _ _ _ _ ?_
    unfold BcerI_0b cerF
    rw [bif_neg (by omega), List.append_nil]
    rfl
  | m + 1, i, F, h, hF => by
    have hi : i < N := by omega
    obtain ⟨j, h2⟩ := cerI_in N G hG hGl hrow i hi G.length 0 (by omega)
    rw [List.drop_zero] at h2
    have h2 : RcerI_1470000000 (TcerI_1470000000a G.length (G.map rowP) i G.length (G.map rowP) G.length 0) = _ := h2
    have ew : w64 ((i : Int) + 1) = ((i + 1 : Nat) : Int) := by rw [w64_in (by omega)]; omega
    refine RcerI_0b_of _ _ _ _ _ _ _ ?_
    unfold BcerI_0b cerF
    rw [bif_pos (by omega)]
    by_cases hs : G.all (sameC G i) = true
    · rw [if_pos hs] at h2 ⊢
      rw [LcerI_1470000000b_of h2]
      have ih := cerI_0b m (i + 1) (F ++ [(i : Int)]) (by omega) (by simp; omega)
      simp only [bindO_val, Sum.elim_inr, ew]
      rw [bif_pos ⟨trivial, by unfold big; omega⟩]
      rw [List.append_assoc, List.singleton_append] at ih
      have e1 : (F ++ [(i : Int)]).length = F.length + 1 := by simp
      have e2 : encI (F ++ [(i : Int)]) = encI F ++ [PV.int .i64 (i : Int)] := by simp [encI]
      rw [e1, e2] at ih
      exact ih
    · rw [if_neg hs] at h2 ⊢
      rw [LcerI_1470000000a_of h2]
      have ih := cerI_0b m (i + 1) F (by omega) (by omega)
      simp only [bindO_val, Sum.elim_inl, ew]
      rw [bif_pos (by omega)]
      exact ih
theorem cerI_0a : ∀ (m i : Nat) (s : Bool), i + m = N → ∃ s2 : Bool, RcerI_0 (TcerI_0a N i s G.length (G.map rowP)) = if cerF G m i = [] then exO (XcerI_0a (s2, G.length, G.map rowP)) else exO (XcerI_0b ((cerF G m i).length, encI (cerF G m i), G.length, G.map rowP, (cerF G m i).length))
  | 0, i, s, h => by
    refine ⟨s, RcerI_0a_of _ _ _ _ _ ?_⟩
    unfold BcerI_0a
    rw [bif_neg (by omega)]
    rfl
  | m + 1, i, s, h => by
    have hi : i < N := by omega
    obtain ⟨j, h2⟩ := cerI_in N G hG hGl hrow i hi G.length 0 (by omega)
    rw [List.drop_zero] at h2
    have h2 : RcerI_1470000000 (TcerI_1470000000a G.length (G.map rowP) i G.length (G.map rowP) G.length 0) = _ := h2
    have ew : w64 ((i : Int) + 1) = ((i + 1 : Nat) : Int) := by rw [w64_in (by omega)]; omega
    have hb : BcerI_0a (Fn env) RcerI_0 exO LcerI_0 LcerI_1470000000 N i s G.length (G.map rowP) = if G.all (sameC G i) = true then RcerI_0 (TcerI_0b [(i : Int)].length (encI [(i : Int)]) N ((i + 1 : Nat) : Int) G.length (G.map rowP) [(i : Int)].length) else RcerI_0 (TcerI_0a N ((i + 1 : Nat) : Int) false G.length (G.map rowP)) := by
      unfold BcerI_0a
      rw [bif_pos (by omega)]
      by_cases hs : G.all (sameC G i) = true
      · rw [if_pos hs] at h2 ⊢
        rw [LcerI_1470000000b_of h2]
        simp only [bindO_val, Sum.elim_inr, ew]
        rfl
      · rw [if_neg hs] at h2 ⊢
        rw [LcerI_1470000000a_of h2]
        simp only [bindO_val, Sum.elim_inl, ew]
        rw [bif_pos (by omega)]
    unfold cerF
    by_cases ha : G.all (sameC G i) = true
    · have ih := cerI_0b N G hG hGl hN hrow m (i + 1) [(i : Int)] (by omega) (by simp)
      rw [if_pos ha, ih] at hb
      refine ⟨false, ?_⟩
      rw [if_pos ha, if_neg (by simp)]
      exact RcerI_0a_of _ _ _ _ _ hb
    · obtain ⟨s2, ih⟩ := cerI_0a m (i + 1) false (by omega)
      rw [if_neg ha, ih] at hb
      refine ⟨s2, ?_⟩
      rw [if_neg ha]
      split at hb
      · rename_i hn
        rw [if_pos hn]
        exact RcerI_0a_of _ _ _ _ _ hb
      · rename_i hn
        rw [if_neg hn]
        exact RcerI_0a_of _ _ _ _ _ hb
end
section
variable {L : List (List Int)} (hz : (matV L).2 = 0) (h5 : L.length ≤ 5)
include hz h5
omit hz in
theorem cheap_facts : 0 < (cheapL (costW (Zm L)) (asgs L.length)).length ∧ (cheapL (costW (Zm L)) (asgs L.length)).length ≤ 1000 ∧ ∀ b ∈ cheapL (costW (Zm L)) (asgs L.length), b.length = L.length := by
  obtain ⟨b, bs, hb, _⟩ := cheap_ne (costW (Zm L)) (l := asgs L.length) (ext_ne h5)
  refine ⟨by rw [hb]; simp, ?_, fun b hb => (asgs_row h5 (cheap_mem hb).1).1⟩
  have h1 : (cheapL (costW (Zm L)) (asgs L.length)).length ≤ (asgs L.length).length := List.length_filter_le _ _
  have h2 : (asgs L.length).length ≤ 120 := ext_len h5
  omega
theorem rCer_is (h99 : Fn env 99 (RSh.one CK.list) [.int .i64 L.length] = some ((asgs L.length).length, (asgs L.length).map rowP)) :
    FrCer [.list L.length (encM L)] = some ((cerF (cheapL (costW (Zm L)) (asgs L.length)) L.length 0).length, encI (cerF (cheapL (costW (Zm L)) (asgs L.length)) L.length 0)) := by
  obtain ⟨g1, g2, g3⟩ := cheap_facts h5
  have h1 : Fn env 31 _ [.list L.length (encM L)] = _ := rChe_is L h5 (fun r h => ((matV_ok hz).2.2.2 r h).1) h99
  have h2 := rCer_0a L.length (encM L) _ g1 g2 (by omega) g3 L.length 0 (by omega)
  have h2 : RrCer_0 (TrCer_0a L.length (encM L) (cheapL (costW (Zm L)) (asgs L.length)).length ((cheapL (costW (Zm L)) (asgs L.length)).map rowP) 0) = _ := h2
  refine FrCer_of _ _ ?_
  unfold trCer
  rw [h1]
  simp only [bindO_val]
  by_cases hn : cerF (cheapL (costW (Zm L)) (asgs L.length)) L.length 0 = []
  · rw [if_pos hn] at h2
    rw [LrCer_0a_of h2, hn]
    rfl
  · rw [if_neg hn] at h2
    rw [LrCer_0b_of h2]
    simp
theorem cerI_is : FcerI [.list L.length (encM L)] = some (((cerF (cheapL (costW (Zm L)) (asgs L.length)) L.length 0).length, encI (cerF (cheapL (costW (Zm L)) (asgs L.length)) L.length 0)), 0) := by
  obtain ⟨g1, g2, g3⟩ := cheap_facts h5
  have hr : ∀ r ∈ L, r.length = L.length := fun r h => ((matV_ok hz).2.2.2 r h).1
  have h1 : Fn env 93 _ [.list L.length (encM L)] = _ := matE_is L fun r h => by have := hr r h; omega
  obtain ⟨s2, h2⟩ := cerI_0a L.length _ g1 g2 (by omega) g3 L.length 0 true (by omega)
  have h2 : RcerI_0 (TcerI_0a L.length 0 true (cheapL (costW (Zm L)) (asgs L.length)).length ((cheapL (costW (Zm L)) (asgs L.length)).map rowP)) = _ := h2
  refine FcerI_of _ _ ?_
  unfold tcerI
  rw [h1, hz]
  simp only [bindO_val, bne_self_eq_false, cond_false]
  rw [f96 h5 hr]
  simp only [bindO_val]
  by_cases hn : cerF (cheapL (costW (Zm L)) (asgs L.length)) L.length 0 = []
  · rw [if_pos hn] at h2
    rw [LcerI_0a_of h2, hn]
    rfl
  · rw [if_neg hn] at h2
    rw [LcerI_0b_of h2]
    rfl
end
theorem cerI_bad {L : List (List Int)} (hr : ∀ r ∈ L, r.length ≤ 1000) (hz : (matV L).2 ≠ 0) : FcerI [.list L.length (encM L)] = some ((0, []), (matV L).2) := by
  refine FcerI_of _ _ ?_
  unfold tcerI
  have h1 : Fn env 93 _ [.list L.length (encM L)] = _ := matE_is L hr
  rw [h1]
  simp only [bindO_val, bif_ne]
  rw [if_neg hz]
theorem bInts_loop (r t : List Int) (hl : r.length = t.length) (hr : r.length ≤ 1000) : ∀ (m k : Nat), k + m = r.length →
    RbInts_0 (TbInts_0a r.length (encI r) t.length (encI t) k) = if r.drop k = t.drop k then exO (XbInts_0b ()) else exO (XbInts_0a ())
  | 0, k, h => by
    rw [List.drop_of_length_le (by omega), List.drop_of_length_le (by omega), if_pos rfl]
    refine RbInts_0a_of _ _ _ _ _ ?_
    unfold BbInts_0a
    rw [bif_neg (by omega)]
    rfl
  | m + 1, k, h => by
    have ih := bInts_loop r t hl hr m (k + 1) (by omega)
    have hk : k < r.length := by omega
    have hk2 : k < t.length := by omega
    have hs : BbInts_0a (Fn env) RbInts_0 exO LbInts_0 r.length (encI r) t.length (encI t) k = if r.getD k 0 = t.getD k 0 then RbInts_0 (TbInts_0a r.length (encI r) t.length (encI t) ((k + 1 : Nat) : Int)) else exO (XbInts_0a ()) := by
      unfold BbInts_0a
      rw [bif_pos (by omega), bif_pos (by omega)]
      simp only [Int.toNat_natCast, Nat.mul_one, intI_get hk, bindO_val]
      rw [bif_pos (by omega)]
      simp only [intI_get hk2, bindO_val, bif_ne]
      rw [w64_in (n := (k : Int) + 1) (by omega)]
      rfl
    rw [drop_getD hk, drop_getD hk2]
    by_cases he : r.getD k 0 = t.getD k 0
    · rw [if_pos he, ih] at hs
      rw [he]
      by_cases ht : r.drop (k + 1) = t.drop (k + 1)
      · rw [if_pos ht] at hs
        rw [ht, if_pos rfl]
        exact RbInts_0a_of _ _ _ _ _ hs
      · rw [if_neg ht] at hs
        rw [if_neg (fun h => ht (List.cons.inj h).2)]
        exact RbInts_0a_of _ _ _ _ _ hs
    · rw [if_neg he] at hs
      rw [if_neg (fun h => he (List.cons.inj h).1)]
      exact RbInts_0a_of _ _ _ _ _ hs
theorem bInts_same (r : List Int) (hr : r.length ≤ 1000) : FbInts [.list r.length (encI r), .list r.length (encI r)] = some true := by
  refine FbInts_of _ _ _ _ ?_
  unfold tbInts
  have h := bInts_loop r r rfl hr r.length 0 (by omega)
  rw [if_pos rfl] at h
  have h : RbInts_0 (TbInts_0a r.length (encI r) r.length (encI r) 0) = _ := h
  rw [bne_self_eq_false, cond_false, LbInts_0b_of h]
  rfl
theorem cerF_len (G : List (List Nat)) : ∀ (m i : Nat), (cerF G m i).length ≤ m
  | 0, _ => by simp [cerF]
  | m + 1, i => by
    unfold cerF
    have := cerF_len G m (i + 1)
    split <;> simp <;> omega
end Gv

/- What the reference's list of all assignments is. -/
namespace Gv
open Go
set_option maxRecDepth 100000
theorem prim1_int {env : Nat → Option AFn} {f : Nat} {k : IntKind} {n : Int} {g : List PV → Option PV} {v : PV} (hf : env f = some (primA 1 g)) (hg : g [.int k n] = some v) : run env f [.int k n] = some (.val v) := by
  refine (run_iff env).2 ⟨2, ?_⟩
  have e : exN (callN env 1) 1 (primA 1 g).body (start (primA 1 g) [.int k n]) = some (.normal, ⟨[.p (.int k n), .p v], [Blk.none, Blk.none]⟩) := by
    show exN (callN env 1) 1 (.ops [{ dst := some 1, grd := none, args := [.tmp 0], k := .l (.prim g) }]) ⟨[.p (.int k n), .undef], [Blk.none, Blk.none]⟩ = _
    simp only [exN, exOps, exOp, grd]
    have hk : runK (callN env 1) (.l (.prim g)) [.p (.int k n)] [Blk.none, Blk.none] = some (.p v, [Blk.none, Blk.none]) := by
      simp only [runK, runL, pureAs, pureA, hg, Option.map_some]
    have ha : ([Arg.tmp 0].map (Arg.get [AV.p (.int k n), .undef])) = [.p (.int k n)] := rfl
    simp only [ha, hk]
    rfl
  rw [callN_fn env 1 f _ (fun sh caps e => by cases e)]
  simp only [hf]
  rw [if_pos ⟨rfl, rfl⟩, e]
  rfl
theorem f99 (N : Nat) (h5 : N ≤ 5) : Fn env 99 (RSh.one CK.list) [.int .i64 N] = some ((asgs N).length, (asgs N).map rowP) := by
  have hg : assignG [.int .i64 (N : Int)] = some (.list (asgs N).length ((asgs N).map rowP)) := by
    unfold assignG asgs
    simp only
    rw [if_pos ⟨trivial, by omega, by omega⟩, Int.toNat_natCast]
  unfold Fn
  rw [prim1_int (env := env) (f := 99) rfl hg]
  rfl
end Gv
