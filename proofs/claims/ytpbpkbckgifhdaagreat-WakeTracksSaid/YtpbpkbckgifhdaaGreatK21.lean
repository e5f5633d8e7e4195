import Derived.Test.YtpbpkbckgifhdaaGreatGvEnv
import Derived.Test.YtpbpkbckgifhdaaGreatK2
import Derived.Test.YtpbpkbckgifhdaaGreatK14

/- What the functions do, round by round: B13. -/
namespace Gv
open Go
set_option maxRecDepth 100000
def EposE : List Entry := [.out 84 (RSh.one (CK.int .i64)), .out 53 (RSh.one (CK.int .i64))]
theorem EposE_ok : ∀ e ∈ EposE, EntOK env e := (ent_out (ent_out ent_nil))
def tposE (F : FnT) (p0_0 p0_1 : Int) : Option (Int) :=
 bindO (F 84 (RSh.one (CK.int .i64)) [(PV.int .i64 p0_0), (PV.int .i64 (-1000 : Int)), (PV.int .i64 (1000 : Int))]) fun (y0 : (Int)) =>
 bindO (F 84 (RSh.one (CK.int .i64)) [(PV.int .i64 p0_1), (PV.int .i64 (0 : Int)), (PV.int .i64 (1000 : Int))]) fun (y1 : (Int)) =>
 bindO (F 53 (RSh.one (CK.int .i64)) [(PV.list 2 [(PV.int .i64 y0), (PV.int .i64 y1)])]) fun (y2 : (Int)) =>
 some y2
theorem tposE_eq (F p0_0 p0_1) : semF (callP F EposE 20) s76 (loopT []) 400 a76 [PV.agg [PV.int .i64 p0_0, PV.int .i64 p0_1]] (fun rv => decR (RSh.one (CK.int .i64)) rv.pv) = tposE F p0_0 p0_1 := by kernel_rfl
noncomputable abbrev FposE (args : List PV) := Fn env 76 (RSh.one (CK.int .i64)) args
theorem FposE_of  (p0_0 p0_1 : Int) {res : (Int)} (h : tposE (Fn env) p0_0 p0_1 = some res) : FposE [PV.agg [PV.int .i64 p0_0, PV.int .i64 p0_1]] = some res :=
 fn_of EposE_ok rfl rfl lo_nil ((tposE_eq _ _ _).trans h)
end Gv

/- What the functions do, round by round: B16. -/
namespace Gv
open Go
set_option maxRecDepth 100000
def ErVorE : List Entry := [.out 120 (RSh.one (CK.int .i64)), .out 90 (RSh.one CK.bool)]
theorem ErVorE_ok : ∀ e ∈ ErVorE, EntOK env e := (ent_out (ent_out ent_nil))
def trVorE (F : FnT) (p0_0 p0_1 p0_2 : Int) : Option (Int) :=
 bindO (F 120 (RSh.one (CK.int .i64)) [(PV.agg [(PV.int .i64 p0_0), (PV.int .i64 p0_1)])]) fun (y0 : (Int)) =>
 bif (y0 != (0 : Int)) then
  some y0
 else bindO (F 90 (RSh.one CK.bool) [(PV.int .i64 p0_2), (PV.int .i64 (-10000 : Int)), (PV.int .i64 (10000 : Int))]) fun (y1 : (Bool)) =>
 bif y1 then
  some (0 : Int)
 else some (2 : Int)
theorem trVorE_eq (F p0_0 p0_1 p0_2) : semF (callP F ErVorE 20) s94 (loopT []) 400 a94 [PV.agg [PV.int .i64 p0_0, PV.int .i64 p0_1, PV.int .i64 p0_2]] (fun rv => decR (RSh.one (CK.int .i64)) rv.pv) = trVorE F p0_0 p0_1 p0_2 := by kernel_rfl
noncomputable abbrev FrVorE (args : List PV) := Fn env 94 (RSh.one (CK.int .i64)) args
theorem FrVorE_of  (p0_0 p0_1 p0_2 : Int) {res : (Int)} (h : trVorE (Fn env) p0_0 p0_1 p0_2 = some res) : FrVorE [PV.agg [PV.int .i64 p0_0, PV.int .i64 p0_1, PV.int .i64 p0_2]] = some res :=
 fn_of ErVorE_ok rfl rfl lo_nil ((trVorE_eq _ _ _ _).trans h)
def ErScaE : List Entry := [.out 94 (RSh.one (CK.int .i64))]
theorem ErScaE_ok : ∀ e ∈ ErScaE, EntOK env e := (ent_out ent_nil)
def TrScaE_0a (n0 : Nat) (c1 : List PV) (i2 : Int) : Q := ⟨(tm 22 [(0, (AV.p (PV.list n0 c1))), (3, (AV.p (PV.int .i64 i2)))]), (mm 22 [])⟩
def XrScaE_0a (y : Int) : Ext × Q := (Ext.ret, ⟨(tm 22 [(2, (AV.p (PV.int .i64 y)))]), (mm 22 [])⟩)
def IrScaE_0a (q : Ext × S) : Int := (pP_int1 (pA_p (avT q.2 2)))
def XrScaE_0b (_y : Unit) : Ext × Q := (Ext.normal, ⟨(tm 22 []), (mm 22 [])⟩)
def IrScaE_0b (_q : Ext × S) : Unit := ()
abbrev YrScaE_0 : Type := (Int) ⊕ ((Unit))
def XLrScaE_0 : XL YrScaE_0 := .more XrScaE_0a (.one XrScaE_0b)
def IrScaE_0 (q : Ext × S) : YrScaE_0 := bif (cE q.1 == 2) then (Sum.inl (IrScaE_0a q)) else (Sum.inr (IrScaE_0b q))
theorem XIrScaE_0a (y) : IrScaE_0 (xe (XrScaE_0a y)) = (Sum.inl y) := by kernel_rfl
theorem XIrScaE_0b (y) : IrScaE_0 (xe (XrScaE_0b y)) = (Sum.inr y) := by kernel_rfl
theorem XIrScaE_0 (y) : IrScaE_0 (xe (XLrScaE_0.fn y)) = y := (match y with | .inl y => XIrScaE_0a y | .inr y => XIrScaE_0b y)
noncomputable abbrev LrScaE_0 : Q → Option YrScaE_0 := lpO env a62.body 0 XLrScaE_0
noncomputable abbrev RrScaE_0 : Q → Option (Ext × S) := lpR env a62.body 0
theorem LrScaE_0a_of {s y} (h : RrScaE_0 s = exO (XrScaE_0a y)) : LrScaE_0 s = some (Sum.inl y) := lpO_of IrScaE_0 XIrScaE_0 (y := (Sum.inl y)) h
theorem LrScaE_0b_of {s y} (h : RrScaE_0 s = exO (XrScaE_0b y)) : LrScaE_0 s = some (Sum.inr y) := lpO_of IrScaE_0 XIrScaE_0 (y := (Sum.inr y)) h
theorem UrScaE : uniq ((blocksOf a62.body).map (·.1)) = true := by kernel_rfl
def BrScaE_0a (F : FnT) (N : QO) (E : EO) (_L0 : QQ YrScaE_0) (n0 : Nat) (c1 : List PV) (i2 : Int) : OX :=
 bif (decide (i2 < (n0 : Int))) then
  bif (decide (((0 : Int) ≤ i2) ∧ (i2 < (n0 : Int)))) then
   bindO (intC .i64 (c1[((Int.toNat i2) * 3)]?)) fun x0 =>
   bindO (intC .i64 (c1[(((Int.toNat i2) * 3) + 1)]?)) fun x1 =>
   bindO (intC .i64 (c1[((((Int.toNat i2) * 3) + 1) + 1)]?)) fun x2 =>
   bindO (F 94 (RSh.one (CK.int .i64)) [(PV.agg [(PV.int .i64 x0), (PV.int .i64 x1), (PV.int .i64 x2)])]) fun (y3 : (Int)) =>
   bif (y3 != (0 : Int)) then
    E (XrScaE_0a y3)
   else N (TrScaE_0a n0 c1 (w64 (i2 + (1 : Int))))
  else none
 else E (XrScaE_0b ())
theorem BrScaE_0a_eq (F N E L0 n0 c1 i2) : semB (callP F ErScaE 20) s62 (loopT [⟨0, YrScaE_0, L0, XLrScaE_0⟩]) 400 (blkIn a62.body 0) N E (TrScaE_0a n0 c1 i2) = BrScaE_0a F N E L0 n0 c1 i2 := by kernel_rfl
theorem RrScaE_0a_of (n0 c1 i2) {r} (h : BrScaE_0a (Fn env) RrScaE_0 exO LrScaE_0 n0 c1 i2 = some r) : RrScaE_0 (TrScaE_0a n0 c1 i2) = some r :=
 lp_of ErScaE_ok (by kernel_rfl) (lo_cons (lpO_ok UrScaE) lo_nil) (by kernel_rfl) ((BrScaE_0a_eq _ _ _ _ _ _ _).trans h)
def trScaE (_F : FnT) (L0 : QQ YrScaE_0) (p0n : Nat) (p0c : List PV) : Option (Int) :=
 bif (decide ((p0n : Int) > (3 : Int))) then
  some (8 : Int)
 else bindO (L0 (TrScaE_0a p0n p0c (0 : Int))) fun z =>
 Sum.elim (fun y0 =>
  some y0) (fun _y1 =>
  some (0 : Int)) z
theorem trScaE_eq (F L0 p0n p0c) : semF (callP F ErScaE 20) s62 (loopT [⟨0, YrScaE_0, L0, XLrScaE_0⟩]) 400 a62 [PV.list p0n p0c] (fun rv => decR (RSh.one (CK.int .i64)) rv.pv) = trScaE F L0 p0n p0c := by kernel_rfl
noncomputable abbrev FrScaE (args : List PV) := Fn env 62 (RSh.one (CK.int .i64)) args
theorem FrScaE_of  (p0n : Nat) (p0c : List PV) {res : (Int)} (h : trScaE (Fn env) LrScaE_0 p0n p0c = some res) : FrScaE [PV.list p0n p0c] = some res :=
 fn_of ErScaE_ok rfl rfl (lo_cons (lpO_ok UrScaE) lo_nil) ((trScaE_eq _ _ _ _).trans h)
def ErMisE : List Entry := [.out 90 (RSh.one CK.bool)]
theorem ErMisE_ok : ∀ e ∈ ErMisE, EntOK env e := (ent_out ent_nil)
def trMisE (F : FnT) (p0 : Int) : Option (Int) :=
 bindO (F 90 (RSh.one CK.bool) [(PV.int .i64 p0), (PV.int .i64 (0 : Int)), (PV.int .i64 (10000000 : Int))]) fun (y0 : (Bool)) =>
 bif y0 then
  some (0 : Int)
 else some (2 : Int)
theorem trMisE_eq (F p0) : semF (callP F ErMisE 20) s63 (loopT []) 400 a63 [PV.int .i64 p0] (fun rv => decR (RSh.one (CK.int .i64)) rv.pv) = trMisE F p0 := by kernel_rfl
noncomputable abbrev FrMisE (args : List PV) := Fn env 63 (RSh.one (CK.int .i64)) args
theorem FrMisE_of  (p0 : Int) {res : (Int)} (h : trMisE (Fn env) p0 = some res) : FrMisE [PV.int .i64 p0] = some res :=
 fn_of ErMisE_ok rfl rfl lo_nil ((trMisE_eq _ _).trans h)
def ErScsE : List Entry := [.out 62 (RSh.one (CK.int .i64)), .out 63 (RSh.one (CK.int .i64))]
theorem ErScsE_ok : ∀ e ∈ ErScsE, EntOK env e := (ent_out (ent_out ent_nil))
def TrScsE_0a (n0 : Nat) (c1 : List PV) (i2 i3 : Int) : Q := ⟨(tm 26 [(0, (AV.p (PV.list n0 c1))), (1, (AV.p (PV.int .i64 i2))), (5, (AV.p (PV.int .i64 i3)))]), (mm 26 [])⟩
def XrScsE_0a (y : Int) : Ext × Q := (Ext.ret, ⟨(tm 26 [(4, (AV.p (PV.int .i64 y)))]), (mm 26 [])⟩)
def IrScsE_0a (q : Ext × S) : Int := (pP_int1 (pA_p (avT q.2 4)))
def XrScsE_0b (y : Int) : Ext × Q := (Ext.normal, ⟨(tm 26 [(1, (AV.p (PV.int .i64 y)))]), (mm 26 [])⟩)
def IrScsE_0b (q : Ext × S) : Int := (pP_int1 (pA_p (avT q.2 1)))
abbrev YrScsE_0 : Type := (Int) ⊕ ((Int))
def XLrScsE_0 : XL YrScsE_0 := .more XrScsE_0a (.one XrScsE_0b)
def IrScsE_0 (q : Ext × S) : YrScsE_0 := bif (cE q.1 == 2) then (Sum.inl (IrScsE_0a q)) else (Sum.inr (IrScsE_0b q))
theorem XIrScsE_0a (y) : IrScsE_0 (xe (XrScsE_0a y)) = (Sum.inl y) := by kernel_rfl
theorem XIrScsE_0b (y) : IrScsE_0 (xe (XrScsE_0b y)) = (Sum.inr y) := by kernel_rfl
theorem XIrScsE_0 (y) : IrScsE_0 (xe (XLrScsE_0.fn y)) = y := (match y with | .inl y => XIrScsE_0a y | .inr y => XIrScsE_0b y)
noncomputable abbrev LrScsE_0 : Q → Option YrScsE_0 := lpO env a30.body 0 XLrScsE_0
noncomputable abbrev RrScsE_0 : Q → Option (Ext × S) := lpR env a30.body 0
theorem LrScsE_0a_of {s y} (h : RrScsE_0 s = exO (XrScsE_0a y)) : LrScsE_0 s = some (Sum.inl y) := lpO_of IrScsE_0 XIrScsE_0 (y := (Sum.inl y)) h
theorem LrScsE_0b_of {s y} (h : RrScsE_0 s = exO (XrScsE_0b y)) : LrScsE_0 s = some (Sum.inr y) := lpO_of IrScsE_0 XIrScsE_0 (y := (Sum.inr y)) h
theorem UrScsE : uniq ((blocksOf a30.body).map (·.1)) = true := by kernel_rfl
def BrScsE_0a (F : FnT) (N : QO) (E : EO) (_L0 : QQ YrScsE_0) (n0 : Nat) (c1 : List PV) (i2 i3 : Int) : OX :=
 bif (decide (i3 < (n0 : Int))) then
  bif (decide (((0 : Int) ≤ i3) ∧ (i3 < (n0 : Int)))) then
   bindO (listC (c1[((Int.toNat i3) * 1)]?)) fun x0 =>
   bindO (F 62 (RSh.one (CK.int .i64)) [(PV.list x0.1 x0.2)]) fun (y1 : (Int)) =>
   bif (y1 != (0 : Int)) then
    E (XrScsE_0a y1)
   else N (TrScsE_0a n0 c1 i2 (w64 (i3 + (1 : Int))))
  else none
 else E (XrScsE_0b i2)
theorem BrScsE_0a_eq (F N E L0 n0 c1 i2 i3) : semB (callP F ErScsE 20) s30 (loopT [⟨0, YrScsE_0, L0, XLrScsE_0⟩]) 400 (blkIn a30.body 0) N E (TrScsE_0a n0 c1 i2 i3) = BrScsE_0a F N E L0 n0 c1 i2 i3 := by kernel_rfl
theorem RrScsE_0a_of (n0 c1 i2 i3) {r} (h : BrScsE_0a (Fn env) RrScsE_0 exO LrScsE_0 n0 c1 i2 i3 = some r) : RrScsE_0 (TrScsE_0a n0 c1 i2 i3) = some r :=
 lp_of ErScsE_ok (by kernel_rfl) (lo_cons (lpO_ok UrScsE) lo_nil) (by kernel_rfl) ((BrScsE_0a_eq _ _ _ _ _ _ _ _).trans h)
def trScsE (F : FnT) (L0 : QQ YrScsE_0) (p0n : Nat) (p0c : List PV) (p1 : Int) : Option (Int) :=
 bif (decide ((p0n : Int) > (6 : Int))) then
  some (8 : Int)
 else bindO (L0 (TrScsE_0a p0n p0c p1 (0 : Int))) fun z =>
 Sum.elim (fun y0 =>
  some y0) (fun y1 =>
  bindO (F 63 (RSh.one (CK.int .i64)) [(PV.int .i64 y1)]) fun (y2 : (Int)) =>
  some y2) z
theorem trScsE_eq (F L0 p0n p0c p1) : semF (callP F ErScsE 20) s30 (loopT [⟨0, YrScsE_0, L0, XLrScsE_0⟩]) 400 a30 [PV.list p0n p0c, PV.int .i64 p1] (fun rv => decR (RSh.one (CK.int .i64)) rv.pv) = trScsE F L0 p0n p0c p1 := by kernel_rfl
noncomputable abbrev FrScsE (args : List PV) := Fn env 30 (RSh.one (CK.int .i64)) args
theorem FrScsE_of  (p0n : Nat) (p0c : List PV) (p1 : Int) {res : (Int)} (h : trScsE (Fn env) LrScsE_0 p0n p0c p1 = some res) : FrScsE [PV.list p0n p0c, PV.int .i64 p1] = some res :=
 fn_of ErScsE_ok rfl rfl (lo_cons (lpO_ok UrScsE) lo_nil) ((trScsE_eq _ _ _ _ _).trans h)
def ErCopS : List Entry := [.out 23 (RSh.one CK.list)]
theorem ErCopS_ok : ∀ e ∈ ErCopS, EntOK env e := (ent_out ent_nil)
def TrCopS_0a (n0 : Nat) (c1 : List PV) : Q := ⟨(tm 20 [(0, (AV.p (PV.list n0 c1))), (3, AV.nilS), (4, (AV.p (PV.int .i64 (0 : Int))))]), (mm 20 [])⟩
def TrCopS_0b (n0 : Nat) (c1 : List PV) (n2 : Nat) (c3 : List PV) (i4 : Int) (n5 : Nat) : Q := ⟨(tm 20 [(0, (AV.p (PV.list n0 c1))), (3, (AV.app 18 n2 1 c3)), (4, (AV.p (PV.int .i64 i4)))]), (mm 20 [(18, (Bk.buf n5))])⟩
def XrCopS_0a (_y : Unit) : Ext × Q := (Ext.normal, ⟨(tm 20 [(3, AV.nilS)]), (mm 20 [])⟩)
def IrCopS_0a (_q : Ext × S) : Unit := ()
def XrCopS_0b (y : Nat × List PV × Nat) : Ext × Q := (Ext.normal, ⟨(tm 20 [(3, (AV.app 18 y.1 1 y.2.1))]), (mm 20 [(18, (Bk.buf y.2.2))])⟩)
def IrCopS_0b (q : Ext × S) : Nat × List PV × Nat := ((pA_app1 (avT q.2 3)), (pA_app3 (avT q.2 3)), (pB_buf0 (avM q.2 18)))
abbrev YrCopS_0 : Type := (Unit) ⊕ ((Nat × List PV × Nat))
def XLrCopS_0 : XL YrCopS_0 := .more XrCopS_0a (.one XrCopS_0b)
def IrCopS_0 (q : Ext × S) : YrCopS_0 := bif (cA (avT q.2 3) == 1) then (Sum.inl (IrCopS_0a q)) else (Sum.inr (IrCopS_0b q))
theorem XIrCopS_0a (y) : IrCopS_0 (xe (XrCopS_0a y)) = (Sum.inl y) := by kernel_rfl
theorem XIrCopS_0b (y) : IrCopS_0 (xe (XrCopS_0b y)) = (Sum.inr y) := by kernel_rfl
theorem XIrCopS_0 (y) : IrCopS_0 (xe (XLrCopS_0.fn y)) = y := (match y with | .inl y => XIrCopS_0a y | .inr y => XIrCopS_0b y)
noncomputable abbrev LrCopS_0 : Q → Option YrCopS_0 := lpO env a29.body 0 XLrCopS_0
noncomputable abbrev RrCopS_0 : Q → Option (Ext × S) := lpR env a29.body 0
theorem LrCopS_0a_of {s y} (h : RrCopS_0 s = exO (XrCopS_0a y)) : LrCopS_0 s = some (Sum.inl y) := lpO_of IrCopS_0 XIrCopS_0 (y := (Sum.inl y)) h
theorem LrCopS_0b_of {s y} (h : RrCopS_0 s = exO (XrCopS_0b y)) : LrCopS_0 s = some (Sum.inr y) := lpO_of IrCopS_0 XIrCopS_0 (y := (Sum.inr y)) h
theorem UrCopS : uniq ((blocksOf a29.body).map (·.1)) = true := by kernel_rfl
def BrCopS_0a (F : FnT) (N : QO) (E : EO) (_L0 : QQ YrCopS_0) (n0 : Nat) (c1 : List PV) : OX :=
 bif (decide ((0 : Int) < (n0 : Int))) then
  bif (decide (((0 : Int) ≤ (0 : Int)) ∧ ((0 : Int) < (n0 : Int)))) then
   bindO (listC (c1[0]?)) fun x0 =>
   bindO (F 23 (RSh.one CK.list) [(PV.list x0.1 x0.2)]) fun (y1 : ((Nat) × (List PV))) =>
   N (TrCopS_0b n0 c1 1 [(PV.list y1.1 y1.2)] (1 : Int) 1)
  else none
 else E (XrCopS_0a ())
theorem BrCopS_0a_eq (F N E L0 n0 c1) : semB (callP F ErCopS 20) s29 (loopT [⟨0, YrCopS_0, L0, XLrCopS_0⟩]) 400 (blkIn a29.body 0) N E (TrCopS_0a n0 c1) = BrCopS_0a F N E L0 n0 c1 := by kernel_rfl
theorem RrCopS_0a_of (n0 c1) {r} (h : BrCopS_0a (Fn env) RrCopS_0 exO LrCopS_0 n0 c1 = some r) : RrCopS_0 (TrCopS_0a n0 c1) = some r :=
 lp_of ErCopS_ok (by kernel_rfl) (lo_cons (lpO_ok UrCopS) lo_nil) (by kernel_rfl) ((BrCopS_0a_eq _ _ _ _ _ _).trans h)
def BrCopS_0b (F : FnT) (N : QO) (E : EO) (_L0 : QQ YrCopS_0) (n0 : Nat) (c1 : List PV) (n2 : Nat) (c3 : List PV) (i4 : Int) (n5 : Nat) : OX :=
 bif (decide (i4 < (n0 : Int))) then
  bif (decide (((0 : Int) ≤ i4) ∧ (i4 < (n0 : Int)))) then
   bindO (listC (c1[((Int.toNat i4) * 1)]?)) fun x0 =>
   bindO (F 23 (RSh.one CK.list) [(PV.list x0.1 x0.2)]) fun (y1 : ((Nat) × (List PV))) =>
   bif (decide ((n5 = n2) ∧ ((n2 + 1) ≤ big))) then
    N (TrCopS_0b n0 c1 (n2 + 1) (c3 ++ [(PV.list y1.1 y1.2)]) (w64 (i4 + (1 : Int))) (n2 + 1))
   else none
  else none
 else E (XrCopS_0b (n2, c3, n5))
theorem BrCopS_0b_eq (F N E L0 n0 c1 n2 c3 i4 n5) : semB (callP F ErCopS 20) s29 (loopT [⟨0, YrCopS_0, L0, XLrCopS_0⟩]) 400 (blkIn a29.body 0) N E (TrCopS_0b n0 c1 n2 c3 i4 n5) = BrCopS_0b F N E L0 n0 c1 n2 c3 i4 n5 := by kernel_rfl
theorem RrCopS_0b_of (n0 c1 n2 c3 i4 n5) {r} (h : BrCopS_0b (Fn env) RrCopS_0 exO LrCopS_0 n0 c1 n2 c3 i4 n5 = some r) : RrCopS_0 (TrCopS_0b n0 c1 n2 c3 i4 n5) = some r :=
 lp_of ErCopS_ok (by kernel_rfl) (lo_cons (lpO_ok UrCopS) lo_nil) (by kernel_rfl) ((BrCopS_0b_eq _ _ _ _ _ _ _ _ _ _).trans h)
def trCopS (_F : FnT) (L0 : QQ YrCopS_0) (p0n : Nat) (p0c : List PV) : Option ((Nat) × (List PV)) :=
 bindO (L0 (TrCopS_0a p0n p0c)) fun z =>
 Sum.elim (fun _y0 =>
  some (0, [])) (fun y1 =>
  bif (decide (y1.2.2 = y1.1)) then
   some (y1.1, y1.2.1)
  else none) z
theorem trCopS_eq (F L0 p0n p0c) : semF (callP F ErCopS 20) s29 (loopT [⟨0, YrCopS_0, L0, XLrCopS_0⟩]) 400 a29 [PV.list p0n p0c] (fun rv => decR (RSh.one CK.list) rv.pv) = trCopS F L0 p0n p0c := by kernel_rfl
noncomputable abbrev FrCopS (args : List PV) := Fn env 29 (RSh.one CK.list) args
theorem FrCopS_of  (p0n : Nat) (p0c : List PV) {res : ((Nat) × (List PV))} (h : trCopS (Fn env) LrCopS_0 p0n p0c = some res) : FrCopS [PV.list p0n p0c] = some res :=
 fn_of ErCopS_ok rfl rfl (lo_cons (lpO_ok UrCopS) lo_nil) ((trCopS_eq _ _ _ _).trans h)
def ErOff : List Entry := [.out 96 (RSh.one (CK.int .i64))]
theorem ErOff_ok : ∀ e ∈ ErOff, EntOK env e := (ent_out ent_nil)
def trOff (F : FnT) (p0_0 p0_1 p0_2 p1_0 p1_1 p1_2 : Int) : Option (Int) :=
 bindO (F 96 (RSh.one (CK.int .i64)) [(PV.int .i64 (w64 (p0_2 - p1_2)))]) fun (y0 : (Int)) =>
 some (w64 ((w64 ((w64 ((w64 (p0_0 - p1_0)) * (w64 (p0_0 - p1_0)))) + (w64 ((w64 (p0_1 - p1_1)) * (w64 (p0_1 - p1_1)))))) + y0))
theorem trOff_eq (F p0_0 p0_1 p0_2 p1_0 p1_1 p1_2) : semF (callP F ErOff 20) s67 (loopT []) 400 a67 [PV.agg [PV.int .i64 p0_0, PV.int .i64 p0_1, PV.int .i64 p0_2], PV.agg [PV.int .i64 p1_0, PV.int .i64 p1_1, PV.int .i64 p1_2]] (fun rv => decR (RSh.one (CK.int .i64)) rv.pv) = trOff F p0_0 p0_1 p0_2 p1_0 p1_1 p1_2 := by kernel_rfl
noncomputable abbrev FrOff (args : List PV) := Fn env 67 (RSh.one (CK.int .i64)) args
theorem FrOff_of  (p0_0 p0_1 p0_2 p1_0 p1_1 p1_2 : Int) {res : (Int)} (h : trOff (Fn env) p0_0 p0_1 p0_2 p1_0 p1_1 p1_2 = some res) : FrOff [PV.agg [PV.int .i64 p0_0, PV.int .i64 p0_1, PV.int .i64 p0_2], PV.agg [PV.int .i64 p1_0, PV.int .i64 p1_1, PV.int .i64 p1_2]] = some res :=
 fn_of ErOff_ok rfl rfl lo_nil ((trOff_eq _ _ _ _ _ _ _).trans h)
def Ebrief : List Entry := []
theorem Ebrief_ok : ∀ e ∈ Ebrief, EntOK env e := ent_nil
def tbrief (_F : FnT) (p0n : Nat) (_p0c : List PV) : Option (Bool) :=
 bif (decide ((p0n : Int) ≤ (5 : Int))) then
  some true
 else some false
theorem tbrief_eq (F p0n p0c) : semF (callP F Ebrief 20) s20 (loopT []) 400 a20 [PV.list p0n p0c] (fun rv => decR (RSh.one CK.bool) rv.pv) = tbrief F p0n p0c := by kernel_rfl
noncomputable abbrev Fbrief (args : List PV) := Fn env 20 (RSh.one CK.bool) args
theorem Fbrief_of  (p0n : Nat) (p0c : List PV) {res : (Bool)} (h : tbrief (Fn env) p0n p0c = some res) : Fbrief [PV.list p0n p0c] = some res :=
 fn_of Ebrief_ok rfl rfl lo_nil ((tbrief_eq _ _ _).trans h)
def Escann : List Entry := [.out 20 (RSh.one CK.bool), .out 30 (RSh.one (CK.int .i64))]
theorem Escann_ok : ∀ e ∈ Escann, EntOK env e := (ent_out (ent_out ent_nil))
def Tscann_0a (n0 : Nat) (c1 : List PV) (i2 : Int) : Q := ⟨(tm 43 [(0, (AV.p (PV.list n0 c1))), (3, (AV.p (PV.int .i64 i2)))]), (mm 43 [])⟩
def Xscann_0a (_y : Unit) : Ext × Q := (Ext.ret, ⟨(tm 43 [(2, (AV.p (PV.bool false)))]), (mm 43 [])⟩)
def Iscann_0a (_q : Ext × S) : Unit := ()
def Xscann_0b (_y : Unit) : Ext × Q := (Ext.normal, ⟨(tm 43 []), (mm 43 [])⟩)
def Iscann_0b (_q : Ext × S) : Unit := ()
abbrev Yscann_0 : Type := (Unit) ⊕ ((Unit))
def XLscann_0 : XL Yscann_0 := .more Xscann_0a (.one Xscann_0b)
def Iscann_0 (q : Ext × S) : Yscann_0 := bif (cE q.1 == 2) then (Sum.inl (Iscann_0a q)) else (Sum.inr (Iscann_0b q))
theorem XIscann_0a (y) : Iscann_0 (xe (Xscann_0a y)) = (Sum.inl y) := by kernel_rfl
theorem XIscann_0b (y) : Iscann_0 (xe (Xscann_0b y)) = (Sum.inr y) := by kernel_rfl
theorem XIscann_0 (y) : Iscann_0 (xe (XLscann_0.fn y)) = y := (match y with | .inl y => XIscann_0a y | .inr y => XIscann_0b y)
noncomputable abbrev Lscann_0 : Q → Option Yscann_0 := lpO env a27.body 0 XLscann_0
noncomputable abbrev Rscann_0 : Q → Option (Ext × S) := lpR env a27.body 0
theorem Lscann_0a_of {s y} (h : Rscann_0 s = exO (Xscann_0a y)) : Lscann_0 s = some (Sum.inl y) := lpO_of Iscann_0 XIscann_0 (y := (Sum.inl y)) h
theorem Lscann_0b_of {s y} (h : Rscann_0 s = exO (Xscann_0b y)) : Lscann_0 s = some (Sum.inr y) := lpO_of Iscann_0 XIscann_0 (y := (Sum.inr y)) h
theorem Uscann : uniq ((blocksOf a27.body).map (·.1)) = true := by kernel_rfl
def Bscann_0a (F : FnT) (N : QO) (E : EO) (_L0 : QQ Yscann_0) (n0 : Nat) (c1 : List PV) (i2 : Int) : OX :=
 bif (decide (i2 < (n0 : Int))) then
  bif (decide (((0 : Int) ≤ i2) ∧ (i2 < (n0 : Int)))) then
   bindO (listC (c1[((Int.toNat i2) * 1)]?)) fun x0 =>
   bindO (F 20 (RSh.one CK.bool) [(PV.list x0.1 x0.2)]) fun (y1 : (Bool)) =>
   bif y1 then
    bif (decide (i2 > (0 : Int))) then
     bif (decide (((0 : Int) ≤ i2) ∧ (i2 < (n0 : Int)))) then
      bindO (listC (c1[((Int.toNat i2) * 1)]?)) fun x2 =>
      bif (decide (((0 : Int) ≤ (w64 (i2 - (1 : Int)))) ∧ ((w64 (i2 - (1 : Int))) < (n0 : Int)))) then
       bindO (listC (c1[((Int.toNat (w64 (i2 - (1 : Int)))) * 1)]?)) fun x3 =>
       bif (decide ((w64 ((x2.1 : Int) + (x3.1 : Int))) > (5 : Int))) then
        bindO (F 30 (RSh.one (CK.int .i64)) [(PV.list n0 c1), (PV.int .i64 (0 : Int))]) fun (y4 : (Int)) =>
        bif (y4 == (0 : Int)) then
         E (Xscann_0a ())
        else N (Tscann_0a n0 c1 (w64 (i2 + (1 : Int))))
       else N (Tscann_0a n0 c1 (w64 (i2 + (1 : Int))))
      else none
     else none
    else N (Tscann_0a n0 c1 (w64 (i2 + (1 : Int))))
   else E (Xscann_0a ())
  else none
 else E (Xscann_0b ())
theorem Bscann_0a_eq (F N E L0 n0 c1 i2) : semB (callP F Escann 20) s27 (loopT [⟨0, Yscann_0, L0, XLscann_0⟩]) 400 (blkIn a27.body 0) N E (Tscann_0a n0 c1 i2) = Bscann_0a F N E L0 n0 c1 i2 := by kernel_rfl
theorem Rscann_0a_of (n0 c1 i2) {r} (h : Bscann_0a (Fn env) Rscann_0 exO Lscann_0 n0 c1 i2 = some r) : Rscann_0 (Tscann_0a n0 c1 i2) = some r :=
 lp_of Escann_ok (by kernel_rfl) (lo_cons (lpO_ok Uscann) lo_nil) (by kernel_rfl) ((Bscann_0a_eq _ _ _ _ _ _ _).trans h)
def tscann (_F : FnT) (L0 : QQ Yscann_0) (p0n : Nat) (p0c : List PV) : Option (Bool) :=
 bif (decide ((p0n : Int) > (8 : Int))) then
  some false
 else bindO (L0 (Tscann_0a p0n p0c (0 : Int))) fun z =>
 Sum.elim (fun _y0 =>
  some false) (fun _y1 =>
  some true) z
theorem tscann_eq (F L0 p0n p0c) : semF (callP F Escann 20) s27 (loopT [⟨0, Yscann_0, L0, XLscann_0⟩]) 400 a27 [PV.list p0n p0c] (fun rv => decR (RSh.one CK.bool) rv.pv) = tscann F L0 p0n p0c := by kernel_rfl
noncomputable abbrev Fscann (args : List PV) := Fn env 27 (RSh.one CK.bool) args
theorem Fscann_of  (p0n : Nat) (p0c : List PV) {res : (Bool)} (h : tscann (Fn env) Lscann_0 p0n p0c = some res) : Fscann [PV.list p0n p0c] = some res :=
 fn_of Escann_ok rfl rfl (lo_cons (lpO_ok Uscann) lo_nil) ((tscann_eq _ _ _ _).trans h)
end Gv

/- What the functions do, round by round: B17. -/
namespace Gv
open Go
set_option maxRecDepth 100000
def EtraF : List Entry := []
theorem EtraF_ok : ∀ e ∈ EtraF, EntOK env e := ent_nil
def TtraF_0a (n0 : Nat) (c1 : List PV) (i2 i3 i4 i5 : Int) : Q := ⟨(tm 42 [(0, (AV.p (PV.list n0 c1))), (1, (AV.p (PV.int .i64 i2))), (2, (AV.p (PV.int .i64 i3))), (7, (AV.lit 1 2 [(PV.int .i64 i4), (PV.int .i64 i5)]))]), (mm 42 [])⟩
def TtraF_0b (n0 : Nat) (c1 : List PV) (i2 i3 : Int) (n4 : Nat) (c5 : List PV) (n6 : Nat) : Q := ⟨(tm 42 [(0, (AV.p (PV.list n0 c1))), (1, (AV.p (PV.int .i64 i2))), (2, (AV.p (PV.int .i64 i3))), (7, (AV.app 40 n4 2 c5))]), (mm 42 [(40, (Bk.buf n6))])⟩
def XtraF_0a (y : Int × Int) : Ext × Q := (Ext.normal, ⟨(tm 42 [(7, (AV.lit 1 2 [(PV.int .i64 y.1), (PV.int .i64 y.2)]))]), (mm 42 [])⟩)
def ItraF_0a (q : Ext × S) : Int × Int := ((pP_int1 (hdP (pA_lit2 (avT q.2 7)))), (pP_int1 (hdP (List.tail (pA_lit2 (avT q.2 7))))))
def XtraF_0b (y : Nat × List PV × Nat) : Ext × Q := (Ext.normal, ⟨(tm 42 [(7, (AV.app 40 y.1 2 y.2.1))]), (mm 42 [(40, (Bk.buf y.2.2))])⟩)
def ItraF_0b (q : Ext × S) : Nat × List PV × Nat := ((pA_app1 (avT q.2 7)), (pA_app3 (avT q.2 7)), (pB_buf0 (avM q.2 40)))
abbrev YtraF_0 : Type := (Int × Int) ⊕ ((Nat × List PV × Nat))
def XLtraF_0 : XL YtraF_0 := .more XtraF_0a (.one XtraF_0b)
def ItraF_0 (q : Ext × S) : YtraF_0 := bif (cA (avT q.2 7) == 4) then (Sum.inl (ItraF_0a q)) else (Sum.inr (ItraF_0b q))
theorem XItraF_0a (y) : ItraF_0 (xe (XtraF_0a y)) = (Sum.inl y) := by kernel_rfl
theorem XItraF_0b (y) : ItraF_0 (xe (XtraF_0b y)) = (Sum.inr y) := by kernel_rfl
theorem XItraF_0 (y) : ItraF_0 (xe (XLtraF_0.fn y)) = y := (match y with | .inl y => XItraF_0a y | .inr y => XItraF_0b y)
noncomputable abbrev LtraF_0 : Q → Option YtraF_0 := lpO env a73.body 0 XLtraF_0
noncomputable abbrev RtraF_0 : Q → Option (Ext × S) := lpR env a73.body 0
theorem LtraF_0a_of {s y} (h : RtraF_0 s = exO (XtraF_0a y)) : LtraF_0 s = some (Sum.inl y) := lpO_of ItraF_0 XItraF_0 (y := (Sum.inl y)) h
theorem LtraF_0b_of {s y} (h : RtraF_0 s = exO (XtraF_0b y)) : LtraF_0 s = some (Sum.inr y) := lpO_of ItraF_0 XItraF_0 (y := (Sum.inr y)) h
theorem UtraF : uniq ((blocksOf a73.body).map (·.1)) = true := by kernel_rfl
def BtraF_0a (_F : FnT) (N : QO) (E : EO) (_L0 : QQ YtraF_0) (n0 : Nat) (c1 : List PV) (i2 i3 i4 i5 : Int) : OX :=
 bif (decide (i2 < (n0 : Int))) then
  bif (decide (((0 : Int) ≤ i2) ∧ (i2 < (n0 : Int)))) then
   bindO (listC (c1[((Int.toNat i2) * 1)]?)) fun x0 =>
   bif (decide (((0 : Int) ≤ i3) ∧ (i3 < (x0.1 : Int)))) then
    bindO (intC .i64 (x0.2[((Int.toNat i3) * 1)]?)) fun x1 =>
    bif (decide (x1 ≥ (0 : Int))) then
     bif (decide (((0 : Int) ≤ i2) ∧ (i2 < (n0 : Int)))) then
      bindO (listC (c1[((Int.toNat i2) * 1)]?)) fun x2 =>
      bif (decide (((0 : Int) ≤ i3) ∧ (i3 < (x2.1 : Int)))) then
       bindO (intC .i64 (x2.2[((Int.toNat i3) * 1)]?)) fun x3 =>
       N (TtraF_0b n0 c1 (w64 (i2 + (1 : Int))) x3 2 [(PV.int .i64 i4), (PV.int .i64 i5), (PV.int .i64 (w64 (i2 + (1 : Int)))), (PV.int .i64 x3)] 2)
      else none
     else none
    else E (XtraF_0a (i4, i5))
   else none
  else none
 else E (XtraF_0a (i4, i5))
theorem BtraF_0a_eq (F N E L0 n0 c1 i2 i3 i4 i5) : semB (callP F EtraF 20) s73 (loopT [⟨0, YtraF_0, L0, XLtraF_0⟩]) 400 (blkIn a73.body 0) N E (TtraF_0a n0 c1 i2 i3 i4 i5) = BtraF_0a F N E L0 n0 c1 i2 i3 i4 i5 := by kernel_rfl
theorem RtraF_0a_of (n0 c1 i2 i3 i4 i5) {r} (h : BtraF_0a (Fn env) RtraF_0 exO LtraF_0 n0 c1 i2 i3 i4 i5 = some r) : RtraF_0 (TtraF_0a n0 c1 i2 i3 i4 i5) = some r :=
 lp_of EtraF_ok (by kernel_rfl) (lo_cons (lpO_ok UtraF) lo_nil) (by kernel_rfl) ((BtraF_0a_eq _ _ _ _ _ _ _ _ _ _).trans h)
def BtraF_0b (_F : FnT) (N : QO) (E : EO) (_L0 : QQ YtraF_0) (n0 : Nat) (c1 : List PV) (i2 i3 : Int) (n4 : Nat) (c5 : List PV) (n6 : Nat) : OX :=
 bif (decide (i2 < (n0 : Int))) then
  bif (decide (((0 : Int) ≤ i2) ∧ (i2 < (n0 : Int)))) then
   bindO (listC (c1[((Int.toNat i2) * 1)]?)) fun x0 =>
   bif (decide (((0 : Int) ≤ i3) ∧ (i3 < (x0.1 : Int)))) then
    bindO (intC .i64 (x0.2[((Int.toNat i3) * 1)]?)) fun x1 =>
    bif (decide (x1 ≥ (0 : Int))) then
     bif (decide (((0 : Int) ≤ i2) ∧ (i2 < (n0 : Int)))) then
      bindO (listC (c1[((Int.toNat i2) * 1)]?)) fun x2 =>
      bif (decide (((0 : Int) ≤ i3) ∧ (i3 < (x2.1 : Int)))) then
       bindO (intC .i64 (x2.2[((Int.toNat i3) * 1)]?)) fun x3 =>
       bif (decide ((n6 = n4) ∧ ((n4 + 1) ≤ big))) then
        N (TtraF_0b n0 c1 (w64 (i2 + (1 : Int))) x3 (n4 + 1) (c5 ++ [(PV.int .i64 (w64 (i2 + (1 : Int)))), (PV.int .i64 x3)]) (n4 + 1))
       else none
      else none
     else none
    else E (XtraF_0b (n4, c5, n6))
   else none
  else none
 else E (XtraF_0b (n4, c5, n6))
theorem BtraF_0b_eq (F N E L0 n0 c1 i2 i3 n4 c5 n6) : semB (callP F EtraF 20) s73 (loopT [⟨0, YtraF_0, L0, XLtraF_0⟩]) 400 (blkIn a73.body 0) N E (TtraF_0b n0 c1 i2 i3 n4 c5 n6) = BtraF_0b F N E L0 n0 c1 i2 i3 n4 c5 n6 := by kernel_rfl
theorem RtraF_0b_of (n0 c1 i2 i3 n4 c5 n6) {r} (h : BtraF_0b (Fn env) RtraF_0 exO LtraF_0 n0 c1 i2 i3 n4 c5 n6 = some r) : RtraF_0 (TtraF_0b n0 c1 i2 i3 n4 c5 n6) = some r :=
 lp_of EtraF_ok (by kernel_rfl) (lo_cons (lpO_ok UtraF) lo_nil) (by kernel_rfl) ((BtraF_0b_eq _ _ _ _ _ _ _ _ _ _ _).trans h)
def ttraF (_F : FnT) (L0 : QQ YtraF_0) (p0n : Nat) (p0c : List PV) (p1 p2 : Int) : Option ((Nat) × (List PV)) :=
 bindO (L0 (TtraF_0a p0n p0c p1 p2 p1 p2)) fun z =>
 Sum.elim (fun y0 =>
  some (1, [(PV.int .i64 y0.1), (PV.int .i64 y0.2)])) (fun y1 =>
  bif (decide (y1.2.2 = y1.1)) then
   some (y1.1, y1.2.1)
  else none) z
theorem ttraF_eq (F L0 p0n p0c p1 p2) : semF (callP F EtraF 20) s73 (loopT [⟨0, YtraF_0, L0, XLtraF_0⟩]) 400 a73 [PV.list p0n p0c, PV.int .i64 p1, PV.int .i64 p2] (fun rv => decR (RSh.one CK.list) rv.pv) = ttraF F L0 p0n p0c p1 p2 := by kernel_rfl
noncomputable abbrev FtraF (args : List PV) := Fn env 73 (RSh.one CK.list) args
theorem FtraF_of  (p0n : Nat) (p0c : List PV) (p1 p2 : Int) {res : ((Nat) × (List PV))} (h : ttraF (Fn env) LtraF_0 p0n p0c p1 p2 = some res) : FtraF [PV.list p0n p0c, PV.int .i64 p1, PV.int .i64 p2] = some res :=
 fn_of EtraF_ok rfl rfl (lo_cons (lpO_ok UtraF) lo_nil) ((ttraF_eq _ _ _ _ _ _).trans h)
def TtraO_0a (n0 : Nat) (c1 : List PV) (i2 : Int) : Q := ⟨(tm 82 [(0, (AV.p (PV.list n0 c1))), (1, (AV.p (PV.int .i64 i2))), (9, AV.nilS), (10, (AV.p (PV.int .i64 (1 : Int))))]), (mm 82 [])⟩
def TtraO_0b (n0 : Nat) (c1 : List PV) (i2 : Int) (n3 : Nat) (c4 : List PV) (i5 : Int) (n6 : Nat) : Q := ⟨(tm 82 [(0, (AV.p (PV.list n0 c1))), (1, (AV.p (PV.int .i64 i2))), (9, (AV.app 47 n3 1 c4)), (10, (AV.p (PV.int .i64 i5)))]), (mm 82 [(47, (Bk.buf n6))])⟩
def XtraO_0a (y : Nat × List PV) : Ext × Q := (Ext.normal, ⟨(tm 82 [(0, (AV.p (PV.list y.1 y.2))), (9, AV.nilS)]), (mm 82 [])⟩)
def ItraO_0a (q : Ext × S) : Nat × List PV := ((pP_list0 (pA_p (avT q.2 0))), (pP_list1 (pA_p (avT q.2 0))))
def XtraO_0b (y : Nat × List PV × Nat × List PV × Nat) : Ext × Q := (Ext.normal, ⟨(tm 82 [(0, (AV.p (PV.list y.1 y.2.1))), (9, (AV.app 47 y.2.2.1 1 y.2.2.2.1))]), (mm 82 [(47, (Bk.buf y.2.2.2.2))])⟩)
def ItraO_0b (q : Ext × S) : Nat × List PV × Nat × List PV × Nat := ((pP_list0 (pA_p (avT q.2 0))), (pP_list1 (pA_p (avT q.2 0))), (pA_app1 (avT q.2 9)), (pA_app3 (avT q.2 9)), (pB_buf0 (avM q.2 47)))
abbrev YtraO_0 : Type := (Nat × List PV) ⊕ ((Nat × List PV × Nat × List PV × Nat))
def XLtraO_0 : XL YtraO_0 := .more XtraO_0a (.one XtraO_0b)
def ItraO_0 (q : Ext × S) : YtraO_0 := bif (cA (avT q.2 9) == 1) then (Sum.inl (ItraO_0a q)) else (Sum.inr (ItraO_0b q))
theorem XItraO_0a (y) : ItraO_0 (xe (XtraO_0a y)) = (Sum.inl y) := by kernel_rfl
theorem XItraO_0b (y) : ItraO_0 (xe (XtraO_0b y)) = (Sum.inr y) := by kernel_rfl
theorem XItraO_0 (y) : ItraO_0 (xe (XLtraO_0.fn y)) = y := (match y with | .inl y => XItraO_0a y | .inr y => XItraO_0b y)
noncomputable abbrev LtraO_0 : Q → Option YtraO_0 := lpO env a28.body 0 XLtraO_0
noncomputable abbrev RtraO_0 : Q → Option (Ext × S) := lpR env a28.body 0
theorem LtraO_0a_of {s y} (h : RtraO_0 s = exO (XtraO_0a y)) : LtraO_0 s = some (Sum.inl y) := lpO_of ItraO_0 XItraO_0 (y := (Sum.inl y)) h
theorem LtraO_0b_of {s y} (h : RtraO_0 s = exO (XtraO_0b y)) : LtraO_0 s = some (Sum.inr y) := lpO_of ItraO_0 XItraO_0 (y := (Sum.inr y)) h
def TtraO_2a (n0 : Nat) (c1 : List PV) (i2 i3 : Int) : Q := ⟨(tm 82 [(9, AV.nilS), (11, AV.nilS), (48, (AV.p (PV.list n0 c1))), (49, (AV.p (PV.int .i64 i2))), (50, (AV.p (PV.int .i64 i3)))]), (mm 82 [])⟩
def TtraO_2b (n0 : Nat) (c1 : List PV) (n2 : Nat) (c3 : List PV) (i4 i5 : Int) (n6 : Nat) : Q := ⟨(tm 82 [(9, (AV.app 47 n0 1 c1)), (11, AV.nilS), (48, (AV.p (PV.list n2 c3))), (49, (AV.p (PV.int .i64 i4))), (50, (AV.p (PV.int .i64 i5)))]), (mm 82 [(47, (Bk.buf n6))])⟩
def TtraO_2c (n0 : Nat) (c1 : List PV) (n2 : Nat) (c3 : List PV) (i4 i5 : Int) (n6 : Nat) : Q := ⟨(tm 82 [(9, AV.nilS), (11, (AV.app 78 n0 1 c1)), (48, (AV.p (PV.list n2 c3))), (49, (AV.p (PV.int .i64 i4))), (50, (AV.p (PV.int .i64 i5)))]), (mm 82 [(78, (Bk.buf n6))])⟩
def TtraO_2d (n0 : Nat) (c1 : List PV) (n2 : Nat) (c3 : List PV) (n4 : Nat) (c5 : List PV) (i6 i7 : Int) (n8 n9 : Nat) : Q := ⟨(tm 82 [(9, (AV.app 47 n0 1 c1)), (11, (AV.app 78 n2 1 c3)), (48, (AV.p (PV.list n4 c5))), (49, (AV.p (PV.int .i64 i6))), (50, (AV.p (PV.int .i64 i7)))]), (mm 82 [(47, (Bk.buf n8)), (78, (Bk.buf n9))])⟩
def XtraO_2a (_y : Unit) : Ext × Q := (Ext.normal, ⟨(tm 82 [(11, AV.nilS)]), (mm 82 [])⟩)
def ItraO_2a (_q : Ext × S) : Unit := ()
def XtraO_2b (y : Nat) : Ext × Q := (Ext.normal, ⟨(tm 82 [(11, AV.nilS)]), (mm 82 [(47, (Bk.buf y))])⟩)
def ItraO_2b (q : Ext × S) : Nat := (pB_buf0 (avM q.2 47))
def XtraO_2c (y : Nat × List PV × Nat) : Ext × Q := (Ext.normal, ⟨(tm 82 [(11, (AV.app 78 y.1 1 y.2.1))]), (mm 82 [(78, (Bk.buf y.2.2))])⟩)
def ItraO_2c (q : Ext × S) : Nat × List PV × Nat := ((pA_app1 (avT q.2 11)), (pA_app3 (avT q.2 11)), (pB_buf0 (avM q.2 78)))
def XtraO_2d (y : Nat × List PV × Nat × Nat) : Ext × Q := (Ext.normal, ⟨(tm 82 [(11, (AV.app 78 y.1 1 y.2.1))]), (mm 82 [(47, (Bk.buf y.2.2.1)), (78, (Bk.buf y.2.2.2))])⟩)
def ItraO_2d (q : Ext × S) : Nat × List PV × Nat × Nat := ((pA_app1 (avT q.2 11)), (pA_app3 (avT q.2 11)), (pB_buf0 (avM q.2 47)), (pB_buf0 (avM q.2 78)))
abbrev YtraO_2 : Type := (Unit) ⊕ ((Nat) ⊕ ((Nat × List PV × Nat) ⊕ ((Nat × List PV × Nat × Nat))))
def XLtraO_2 : XL YtraO_2 := .more XtraO_2a (.more XtraO_2b (.more XtraO_2c (.one XtraO_2d)))
def ItraO_2 (q : Ext × S) : YtraO_2 := bif (cB (avM q.2 47) == 0) && (cA (avT q.2 11) == 1) then (Sum.inl (ItraO_2a q)) else bif (cA (avT q.2 11) == 1) then (Sum.inr (Sum.inl (ItraO_2b q))) else bif (cB (avM q.2 47) == 0) then (Sum.inr (Sum.inr (Sum.inl (ItraO_2c q)))) else (Sum.inr (Sum.inr (Sum.inr (ItraO_2d q))))
theorem XItraO_2a (y) : ItraO_2 (xe (XtraO_2a y)) = (Sum.inl y) := by kernel_rfl
theorem XItraO_2b (y) : ItraO_2 (xe (XtraO_2b y)) = (Sum.inr (Sum.inl y)) := by kernel_rfl
theorem XItraO_2c (y) : ItraO_2 (xe (XtraO_2c y)) = (Sum.inr (Sum.inr (Sum.inl y))) := by kernel_rfl
theorem XItraO_2d (y) : ItraO_2 (xe (XtraO_2d y)) = (Sum.inr (Sum.inr (Sum.inr y))) := by kernel_rfl
theorem XItraO_2 (y) : ItraO_2 (xe (XLtraO_2.fn y)) = y := (match y with | .inl y => XItraO_2a y | .inr y => (match y with | .inl y => XItraO_2b y | .inr y => (match y with | .inl y => XItraO_2c y | .inr y => XItraO_2d y)))
noncomputable abbrev LtraO_2 : Q → Option YtraO_2 := lpO env a28.body 2 XLtraO_2
noncomputable abbrev RtraO_2 : Q → Option (Ext × S) := lpR env a28.body 2
theorem LtraO_2a_of {s y} (h : RtraO_2 s = exO (XtraO_2a y)) : LtraO_2 s = some (Sum.inl y) := lpO_of ItraO_2 XItraO_2 (y := (Sum.inl y)) h
theorem LtraO_2b_of {s y} (h : RtraO_2 s = exO (XtraO_2b y)) : LtraO_2 s = some (Sum.inr (Sum.inl y)) := lpO_of ItraO_2 XItraO_2 (y := (Sum.inr (Sum.inl y))) h
theorem LtraO_2c_of {s y} (h : RtraO_2 s = exO (XtraO_2c y)) : LtraO_2 s = some (Sum.inr (Sum.inr (Sum.inl y))) := lpO_of ItraO_2 XItraO_2 (y := (Sum.inr (Sum.inr (Sum.inl y)))) h
theorem LtraO_2d_of {s y} (h : RtraO_2 s = exO (XtraO_2d y)) : LtraO_2 s = some (Sum.inr (Sum.inr (Sum.inr y))) := lpO_of ItraO_2 XItraO_2 (y := (Sum.inr (Sum.inr (Sum.inr y)))) h
def TtraO_4a (i0 : Int) (n1 : Nat) (c2 : List PV) (i3 i4 i5 : Int) : Q := ⟨(tm 82 [(9, AV.nilS), (11, AV.nilS), (12, (AV.p (PV.int .i64 i0))), (48, (AV.p (PV.list n1 c2))), (49, (AV.p (PV.int .i64 i3))), (50, (AV.p (PV.int .i64 i4))), (56, (AV.p (PV.int .i64 i5))), (57, (AV.p (PV.int .i64 (0 : Int))))]), (mm 82 [])⟩
def TtraO_4b (n0 : Nat) (c1 : List PV) (i2 : Int) (n3 : Nat) (c4 : List PV) (i5 i6 i7 i8 : Int) (n9 : Nat) : Q := ⟨(tm 82 [(9, AV.nilS), (11, (AV.app 78 n0 1 c1)), (12, (AV.p (PV.int .i64 i2))), (48, (AV.p (PV.list n3 c4))), (49, (AV.p (PV.int .i64 i5))), (50, (AV.p (PV.int .i64 i6))), (56, (AV.p (PV.int .i64 i7))), (57, (AV.p (PV.int .i64 i8)))]), (mm 82 [(78, (Bk.buf n9))])⟩
def TtraO_4c (n0 : Nat) (c1 : List PV) (i2 : Int) (n3 : Nat) (c4 : List PV) (i5 i6 i7 i8 : Int) (n9 : Nat) : Q := ⟨(tm 82 [(9, (AV.app 47 n0 1 c1)), (11, AV.nilS), (12, (AV.p (PV.int .i64 i2))), (48, (AV.p (PV.list n3 c4))), (49, (AV.p (PV.int .i64 i5))), (50, (AV.p (PV.int .i64 i6))), (56, (AV.p (PV.int .i64 i7))), (57, (AV.p (PV.int .i64 i8)))]), (mm 82 [(47, (Bk.buf n9))])⟩
def TtraO_4d (n0 : Nat) (c1 : List PV) (n2 : Nat) (c3 : List PV) (i4 : Int) (n5 : Nat) (c6 : List PV) (i7 i8 i9 i10 : Int) (n11 n12 : Nat) : Q := ⟨(tm 82 [(9, (AV.app 47 n0 1 c1)), (11, (AV.app 78 n2 1 c3)), (12, (AV.p (PV.int .i64 i4))), (48, (AV.p (PV.list n5 c6))), (49, (AV.p (PV.int .i64 i7))), (50, (AV.p (PV.int .i64 i8))), (56, (AV.p (PV.int .i64 i9))), (57, (AV.p (PV.int .i64 i10)))]), (mm 82 [(47, (Bk.buf n11)), (78, (Bk.buf n12))])⟩
def XtraO_4a (y : Nat × List PV × Int × Int) : Ext × Q := (Ext.normal, ⟨(tm 82 [(9, AV.nilS), (11, AV.nilS), (48, (AV.p (PV.list y.1 y.2.1))), (49, (AV.p (PV.int .i64 y.2.2.1))), (50, (AV.p (PV.int .i64 y.2.2.2)))]), (mm 82 [])⟩)
def ItraO_4a (q : Ext × S) : Nat × List PV × Int × Int := ((pP_list0 (pA_p (avT q.2 48))), (pP_list1 (pA_p (avT q.2 48))), (pP_int1 (pA_p (avT q.2 49))), (pP_int1 (pA_p (avT q.2 50))))
def XtraO_4b (y : Nat × List PV × Nat × List PV × Int × Int × Nat) : Ext × Q := (Ext.normal, ⟨(tm 82 [(9, AV.nilS), (11, (AV.app 78 y.1 1 y.2.1)), (48, (AV.p (PV.list y.2.2.1 y.2.2.2.1))), (49, (AV.p (PV.int .i64 y.2.2.2.2.1))), (50, (AV.p (PV.int .i64 y.2.2.2.2.2.1)))]), (mm 82 [(78, (Bk.buf y.2.2.2.2.2.2))])⟩)
def ItraO_4b (q : Ext × S) : Nat × List PV × Nat × List PV × Int × Int × Nat := ((pA_app1 (avT q.2 11)), (pA_app3 (avT q.2 11)), (pP_list0 (pA_p (avT q.2 48))), (pP_list1 (pA_p (avT q.2 48))), (pP_int1 (pA_p (avT q.2 49))), (pP_int1 (pA_p (avT q.2 50))), (pB_buf0 (avM q.2 78)))
def XtraO_4c (y : Nat × List PV × Nat × List PV × Int × Int × Nat) : Ext × Q := (Ext.normal, ⟨(tm 82 [(9, (AV.app 47 y.1 1 y.2.1)), (11, AV.nilS), (48, (AV.p (PV.list y.2.2.1 y.2.2.2.1))), (49, (AV.p (PV.int .i64 y.2.2.2.2.1))), (50, (AV.p (PV.int .i64 y.2.2.2.2.2.1)))]), (mm 82 [(47, (Bk.buf y.2.2.2.2.2.2))])⟩)
def ItraO_4c (q : Ext × S) : Nat × List PV × Nat × List PV × Int × Int × Nat := ((pA_app1 (avT q.2 9)), (pA_app3 (avT q.2 9)), (pP_list0 (pA_p (avT q.2 48))), (pP_list1 (pA_p (avT q.2 48))), (pP_int1 (pA_p (avT q.2 49))), (pP_int1 (pA_p (avT q.2 50))), (pB_buf0 (avM q.2 47)))
def XtraO_4d (y : Nat × List PV × Nat × List PV × Nat × List PV × Int × Int × Nat × Nat) : Ext × Q := (Ext.normal, ⟨(tm 82 [(9, (AV.app 47 y.1 1 y.2.1)), (11, (AV.app 78 y.2.2.1 1 y.2.2.2.1)), (48, (AV.p (PV.list y.2.2.2.2.1 y.2.2.2.2.2.1))), (49, (AV.p (PV.int .i64 y.2.2.2.2.2.2.1))), (50, (AV.p (PV.int .i64 y.2.2.2.2.2.2.2.1)))]), (mm 82 [(47, (Bk.buf y.2.2.2.2.2.2.2.2.1)), (78, (Bk.buf y.2.2.2.2.2.2.2.2.2))])⟩)
def ItraO_4d (q : Ext × S) : Nat × List PV × Nat × List PV × Nat × List PV × Int × Int × Nat × Nat := ((pA_app1 (avT q.2 9)), (pA_app3 (avT q.2 9)), (pA_app1 (avT q.2 11)), (pA_app3 (avT q.2 11)), (pP_list0 (pA_p (avT q.2 48))), (pP_list1 (pA_p (avT q.2 48))), (pP_int1 (pA_p (avT q.2 49))), (pP_int1 (pA_p (avT q.2 50))), (pB_buf0 (avM q.2 47)), (pB_buf0 (avM q.2 78)))
abbrev YtraO_4 : Type := (Nat × List PV × Int × Int) ⊕ ((Nat × List PV × Nat × List PV × Int × Int × Nat) ⊕ ((Nat × List PV × Nat × List PV × Int × Int × Nat) ⊕ ((Nat × List PV × Nat × List PV × Nat × List PV × Int × Int × Nat × Nat))))
def XLtraO_4 : XL YtraO_4 := .more XtraO_4a (.more XtraO_4b (.more XtraO_4c (.one XtraO_4d)))
def ItraO_4 (q : Ext × S) : YtraO_4 := bif (cA (avT q.2 11) == 1) && (cA (avT q.2 9) == 1) then (Sum.inl (ItraO_4a q)) else bif (cA (avT q.2 9) == 1) then (Sum.inr (Sum.inl (ItraO_4b q))) else bif (cA (avT q.2 11) == 1) then (Sum.inr (Sum.inr (Sum.inl (ItraO_4c q)))) else (Sum.inr (Sum.inr (Sum.inr (ItraO_4d q))))
theorem XItraO_4a (y) : ItraO_4 (xe (XtraO_4a y)) = (Sum.inl y) := by kernel_rfl
theorem XItraO_4b (y) : ItraO_4 (xe (XtraO_4b y)) = (Sum.inr (Sum.inl y)) := by kernel_rfl
theorem XItraO_4c (y) : ItraO_4 (xe (XtraO_4c y)) = (Sum.inr (Sum.inr (Sum.inl y))) := by kernel_rfl
theorem XItraO_4d (y) : ItraO_4 (xe (XtraO_4d y)) = (Sum.inr (Sum.inr (Sum.inr y))) := by kernel_rfl
theorem XItraO_4 (y) : ItraO_4 (xe (XLtraO_4.fn y)) = y := (match y with | .inl y => XItraO_4a y | .inr y => (match y with | .inl y => XItraO_4b y | .inr y => (match y with | .inl y => XItraO_4c y | .inr y => XItraO_4d y)))
noncomputable abbrev LtraO_4 : Q → Option YtraO_4 := lpO env a28.body 4 XLtraO_4
noncomputable abbrev RtraO_4 : Q → Option (Ext × S) := lpR env a28.body 4
theorem LtraO_4a_of {s y} (h : RtraO_4 s = exO (XtraO_4a y)) : LtraO_4 s = some (Sum.inl y) := lpO_of ItraO_4 XItraO_4 (y := (Sum.inl y)) h
theorem LtraO_4b_of {s y} (h : RtraO_4 s = exO (XtraO_4b y)) : LtraO_4 s = some (Sum.inr (Sum.inl y)) := lpO_of ItraO_4 XItraO_4 (y := (Sum.inr (Sum.inl y))) h
theorem LtraO_4c_of {s y} (h : RtraO_4 s = exO (XtraO_4c y)) : LtraO_4 s = some (Sum.inr (Sum.inr (Sum.inl y))) := lpO_of ItraO_4 XItraO_4 (y := (Sum.inr (Sum.inr (Sum.inl y)))) h
theorem LtraO_4d_of {s y} (h : RtraO_4 s = exO (XtraO_4d y)) : LtraO_4 s = some (Sum.inr (Sum.inr (Sum.inr y))) := lpO_of ItraO_4 XItraO_4 (y := (Sum.inr (Sum.inr (Sum.inr y)))) h
def TtraO_1490000000a (n0 : Nat) (c1 : List PV) (i2 i3 : Int) : Q := ⟨(tm 24 [(1, (AV.p (PV.fn 70 []))), (9, (AV.p (PV.list n0 c1))), (10, (AV.p (PV.int .i64 i2))), (11, (AV.p (PV.int .i64 i3)))]), (mm 24 [])⟩
def XtraO_1490000000a (y : Int × Int) : Ext × Q := (Ext.ret, ⟨(tm 24 [(4, (AV.p (PV.int .i64 y.1))), (5, (AV.p (PV.int .i64 y.2)))]), (mm 24 [])⟩)
def ItraO_1490000000a (q : Ext × S) : Int × Int := ((pP_int1 (pA_p (avT q.2 4))), (pP_int1 (pA_p (avT q.2 5))))
def XtraO_1490000000b (_y : Unit) : Ext × Q := (Ext.normal, ⟨(tm 24 []), (mm 24 [])⟩)
def ItraO_1490000000b (_q : Ext × S) : Unit := ()
abbrev YtraO_1490000000 : Type := (Int × Int) ⊕ ((Unit))
def XLtraO_1490000000 : XL YtraO_1490000000 := .more XtraO_1490000000a (.one XtraO_1490000000b)
def ItraO_1490000000 (q : Ext × S) : YtraO_1490000000 := bif (cE q.1 == 2) then (Sum.inl (ItraO_1490000000a q)) else (Sum.inr (ItraO_1490000000b q))
theorem XItraO_1490000000a (y) : ItraO_1490000000 (xe (XtraO_1490000000a y)) = (Sum.inl y) := by kernel_rfl
theorem XItraO_1490000000b (y) : ItraO_1490000000 (xe (XtraO_1490000000b y)) = (Sum.inr y) := by kernel_rfl
theorem XItraO_1490000000 (y) : ItraO_1490000000 (xe (XLtraO_1490000000.fn y)) = y := (match y with | .inl y => XItraO_1490000000a y | .inr y => XItraO_1490000000b y)
noncomputable abbrev LtraO_1490000000 : Q → Option YtraO_1490000000 := lpO env a97.body 0 XLtraO_1490000000
noncomputable abbrev RtraO_1490000000 : Q → Option (Ext × S) := lpR env a97.body 0
theorem LtraO_1490000000a_of {s y} (h : RtraO_1490000000 s = exO (XtraO_1490000000a y)) : LtraO_1490000000 s = some (Sum.inl y) := lpO_of ItraO_1490000000 XItraO_1490000000 (y := (Sum.inl y)) h
theorem LtraO_1490000000b_of {s y} (h : RtraO_1490000000 s = exO (XtraO_1490000000b y)) : LtraO_1490000000 s = some (Sum.inr y) := lpO_of ItraO_1490000000 XItraO_1490000000 (y := (Sum.inr y)) h
def TtraO_1580000000a (n0 : Nat) (c1 : List PV) (i2 i3 : Int) : Q := ⟨(tm 24 [(1, (AV.p (PV.fn 99 []))), (9, (AV.p (PV.list n0 c1))), (10, (AV.p (PV.int .i64 i2))), (11, (AV.p (PV.int .i64 i3)))]), (mm 24 [])⟩
def XtraO_1580000000a (y : Int × Int) : Ext × Q := (Ext.ret, ⟨(tm 24 [(4, (AV.p (PV.int .i64 y.1))), (5, (AV.p (PV.int .i64 y.2)))]), (mm 24 [])⟩)
def ItraO_1580000000a (q : Ext × S) : Int × Int := ((pP_int1 (pA_p (avT q.2 4))), (pP_int1 (pA_p (avT q.2 5))))
def XtraO_1580000000b (_y : Unit) : Ext × Q := (Ext.normal, ⟨(tm 24 []), (mm 24 [])⟩)
def ItraO_1580000000b (_q : Ext × S) : Unit := ()
abbrev YtraO_1580000000 : Type := (Int × Int) ⊕ ((Unit))
def XLtraO_1580000000 : XL YtraO_1580000000 := .more XtraO_1580000000a (.one XtraO_1580000000b)
def ItraO_1580000000 (q : Ext × S) : YtraO_1580000000 := bif (cE q.1 == 2) then (Sum.inl (ItraO_1580000000a q)) else (Sum.inr (ItraO_1580000000b q))
theorem XItraO_1580000000a (y) : ItraO_1580000000 (xe (XtraO_1580000000a y)) = (Sum.inl y) := by kernel_rfl
theorem XItraO_1580000000b (y) : ItraO_1580000000 (xe (XtraO_1580000000b y)) = (Sum.inr y) := by kernel_rfl
theorem XItraO_1580000000 (y) : ItraO_1580000000 (xe (XLtraO_1580000000.fn y)) = y := (match y with | .inl y => XItraO_1580000000a y | .inr y => XItraO_1580000000b y)
noncomputable abbrev LtraO_1580000000 : Q → Option YtraO_1580000000 := lpO env a121.body 0 XLtraO_1580000000
noncomputable abbrev RtraO_1580000000 : Q → Option (Ext × S) := lpR env a121.body 0
theorem LtraO_1580000000a_of {s y} (h : RtraO_1580000000 s = exO (XtraO_1580000000a y)) : LtraO_1580000000 s = some (Sum.inl y) := lpO_of ItraO_1580000000 XItraO_1580000000 (y := (Sum.inl y)) h
theorem LtraO_1580000000b_of {s y} (h : RtraO_1580000000 s = exO (XtraO_1580000000b y)) : LtraO_1580000000 s = some (Sum.inr y) := lpO_of ItraO_1580000000 XItraO_1580000000 (y := (Sum.inr y)) h
theorem UtraOg149 : uniq ((blocksOf a97.body).map (·.1)) = true := by kernel_rfl
theorem UtraOg158 : uniq ((blocksOf a121.body).map (·.1)) = true := by kernel_rfl
def EtraO (L1490000000 : QQ YtraO_1490000000) (L1580000000 : QQ YtraO_1580000000) : List Entry := [.inp 97 a97 s97 [⟨0, YtraO_1490000000, L1490000000, XLtraO_1490000000⟩], .inp 121 a121 s121 [⟨0, YtraO_1580000000, L1580000000, XLtraO_1580000000⟩], .inl 69 a69 s69, .inl 70 a70 s70, .inl 98 a98 s98, .inl 99 a99 s99, .out 71 (RSh.one (CK.int .i64)), .out 53 (RSh.one (CK.int .i64)), .out 66 (RSh.one CK.list), .out 76 (RSh.one (CK.int .i64)), .out 84 (RSh.one (CK.int .i64)), .out 73 (RSh.one CK.list), .out 72 (RSh.one CK.bool)]
theorem EtraO_ok : ∀ e ∈ EtraO LtraO_1490000000 LtraO_1580000000, EntOK env e := (ent_inp rfl (lo_cons (lpO_ok UtraOg149) lo_nil) (ent_inp rfl (lo_cons (lpO_ok UtraOg158) lo_nil) (ent_inl rfl (ent_inl rfl (ent_inl rfl (ent_inl rfl (ent_out (ent_out (ent_out (ent_out (ent_out (ent_out (ent_out ent_nil)))))))))))))
theorem UtraO : uniq ((blocksOf a28.body).map (·.1)) = true := by kernel_rfl
def BtraO_0a (F : FnT) (N : QO) (E : EO) (_L0 : QQ YtraO_0) (_L2 : QQ YtraO_2) (_L4 : QQ YtraO_4) (_L1490000000 : QQ YtraO_1490000000) (_L1580000000 : QQ YtraO_1580000000) (n0 : Nat) (c1 : List PV) (i2 : Int) : OX :=
 bif (decide ((1 : Int) < (n0 : Int))) then
  bif (decide (((0 : Int) ≤ (w64 ((1 : Int) - (1 : Int)))) ∧ ((w64 ((1 : Int) - (1 : Int))) < (n0 : Int)))) then
   bindO (listC (c1[0]?)) fun x0 =>
   bif (decide (((0 : Int) ≤ (1 : Int)) ∧ ((1 : Int) < (n0 : Int)))) then
    bindO (listC (c1[1]?)) fun x1 =>
    bindO (F 66 (RSh.one CK.list) [(PV.list x0.1 x0.2), (PV.list x1.1 x1.2), (PV.int .i64 i2)]) fun (y2 : ((Nat) × (List PV))) =>
    N (TtraO_0b n0 c1 i2 1 [(PV.list y2.1 y2.2)] (2 : Int) 1)
   else none
  else none
 else E (XtraO_0a (n0, c1))
abbrev qK21_1 (L0 : QQ YtraO_0) (L2 : QQ YtraO_2) (L4 : QQ YtraO_4) : List LoopO := [⟨0, YtraO_0, L0, XLtraO_0⟩, ⟨2, YtraO_2, L2, XLtraO_2⟩, ⟨4, YtraO_4, L4, XLtraO_4⟩]
theorem BtraO_0a_eq (F N E L0 L2 L4 L1490000000 L1580000000 n0 c1 i2) : semB (callP F (EtraO L1490000000 L1580000000) 20) s28 (loopT (qK21_1 L0 L2 L4)) 400 (blkIn a28.body 0) N E (TtraO_0a n0 c1 i2) = BtraO_0a F N E L0 L2 L4 L1490000000 L1580000000 n0 c1 i2 := by kernel_rfl
theorem oqK21_1 : ∀ o ∈ qK21_1 LtraO_0 LtraO_2 LtraO_4, LoopOOK env a28.body o := lo_cons (lpO_ok UtraO) (lo_cons (lpO_ok UtraO) (lo_cons (lpO_ok UtraO) lo_nil))
theorem RtraO_0a_of (n0 c1 i2) {r} (h : BtraO_0a (Fn env) RtraO_0 exO LtraO_0 LtraO_2 LtraO_4 LtraO_1490000000 LtraO_1580000000 n0 c1 i2 = some r) : RtraO_0 (TtraO_0a n0 c1 i2) = some r :=
 lp_of EtraO_ok (by kernel_rfl) oqK21_1 (by kernel_rfl) ((BtraO_0a_eq _ _ _ _ _ _ _ _ _ _ _).trans h)
def BtraO_0b (F : FnT) (N : QO) (E : EO) (_L0 : QQ YtraO_0) (_L2 : QQ YtraO_2) (_L4 : QQ YtraO_4) (_L1490000000 : QQ YtraO_1490000000) (_L1580000000 : QQ YtraO_1580000000) (n0 : Nat) (c1 : List PV) (i2 : Int) (n3 : Nat) (c4 : List PV) (i5 : Int) (n6 : Nat) : OX :=
 bif (decide (i5 < (n0 : Int))) then
  bif (decide (((0 : Int) ≤ (w64 (i5 - (1 : Int)))) ∧ ((w64 (i5 - (1 : Int))) < (n0 : Int)))) then
   bindO (listC (c1[((Int.toNat (w64 (i5 - (1 : Int)))) * 1)]?)) fun x0 =>
   bif (decide (((0 : Int) ≤ i5) ∧ (i5 < (n0 : Int)))) then
    bindO (listC (c1[((Int.toNat i5) * 1)]?)) fun x1 =>
    bindO (F 66 (RSh.one CK.list) [(PV.list x0.1 x0.2), (PV.list x1.1 x1.2), (PV.int .i64 i2)]) fun (y2 : ((Nat) × (List PV))) =>
    bif (decide ((n6 = n3) ∧ ((n3 + 1) ≤ big))) then
     N (TtraO_0b n0 c1 i2 (n3 + 1) (c4 ++ [(PV.list y2.1 y2.2)]) (w64 (i5 + (1 : Int))) (n3 + 1))
    else none
   else none
  else none
 else E (XtraO_0b (n0, c1, n3, c4, n6))
theorem BtraO_0b_eq (F N E L0 L2 L4 L1490000000 L1580000000 n0 c1 i2 n3 c4 i5 n6) : semB (callP F (EtraO L1490000000 L1580000000) 20) s28 (loopT (qK21_1 L0 L2 L4)) 400 (blkIn a28.body 0) N E (TtraO_0b n0 c1 i2 n3 c4 i5 n6) = BtraO_0b F N E L0 L2 L4 L1490000000 L1580000000 n0 c1 i2 n3 c4 i5 n6 := by kernel_rfl
theorem RtraO_0b_of (n0 c1 i2 n3 c4 i5 n6) {r} (h : BtraO_0b (Fn env) RtraO_0 exO LtraO_0 LtraO_2 LtraO_4 LtraO_1490000000 LtraO_1580000000 n0 c1 i2 n3 c4 i5 n6 = some r) : RtraO_0 (TtraO_0b n0 c1 i2 n3 c4 i5 n6) = some r :=
 lp_of EtraO_ok (by kernel_rfl) oqK21_1 (by kernel_rfl) ((BtraO_0b_eq _ _ _ _ _ _ _ _ _ _ _ _ _ _ _).trans h)
def BtraO_2a (_F : FnT) (N : QO) (E : EO) (_L0 : QQ YtraO_0) (_L2 : QQ YtraO_2) (L4 : QQ YtraO_4) (_L1490000000 : QQ YtraO_1490000000) (_L1580000000 : QQ YtraO_1580000000) (n0 : Nat) (c1 : List PV) (i2 i3 : Int) : OX :=
 bif (decide (i3 < i2)) then
  bif (decide (((0 : Int) ≤ i3) ∧ (i3 < (n0 : Int)))) then
   bindO (listC (c1[((Int.toNat i3) * 1)]?)) fun x0 =>
   bindO (L4 (TtraO_4a i3 n0 c1 i2 i3 (x0.1 : Int))) fun z =>
   Sum.elim (fun y1 =>
    N (TtraO_2a y1.1 y1.2.1 y1.2.2.1 (w64 (y1.2.2.2 + (1 : Int))))) (fun z0 => Sum.elim (fun y2 =>
    N (TtraO_2c y2.1 y2.2.1 y2.2.2.1 y2.2.2.2.1 y2.2.2.2.2.1 (w64 (y2.2.2.2.2.2.1 + (1 : Int))) y2.2.2.2.2.2.2)) (fun z1 => Sum.elim (fun y3 =>
    N (TtraO_2b y3.1 y3.2.1 y3.2.2.1 y3.2.2.2.1 y3.2.2.2.2.1 (w64 (y3.2.2.2.2.2.1 + (1 : Int))) y3.2.2.2.2.2.2)) (fun y4 =>
    N (TtraO_2d y4.1 y4.2.1 y4.2.2.1 y4.2.2.2.1 y4.2.2.2.2.1 y4.2.2.2.2.2.1 y4.2.2.2.2.2.2.1 (w64 (y4.2.2.2.2.2.2.2.1 + (1 : Int))) y4.2.2.2.2.2.2.2.2.1 y4.2.2.2.2.2.2.2.2.2)) z1) z0) z
  else none
 else E (XtraO_2a ())
theorem BtraO_2a_eq (F N E L0 L2 L4 L1490000000 L1580000000 n0 c1 i2 i3) : semB (callP F (EtraO L1490000000 L1580000000) 20) s28 (loopT (qK21_1 L0 L2 L4)) 400 (blkIn a28.body 2) N E (TtraO_2a n0 c1 i2 i3) = BtraO_2a F N E L0 L2 L4 L1490000000 L1580000000 n0 c1 i2 i3 := by kernel_rfl
theorem RtraO_2a_of (n0 c1 i2 i3) {r} (h : BtraO_2a (Fn env) RtraO_2 exO LtraO_0 LtraO_2 LtraO_4 LtraO_1490000000 LtraO_1580000000 n0 c1 i2 i3 = some r) : RtraO_2 (TtraO_2a n0 c1 i2 i3) = some r :=
 lp_of EtraO_ok (by kernel_rfl) oqK21_1 (by kernel_rfl) ((BtraO_2a_eq _ _ _ _ _ _ _ _ _ _ _ _).trans h)
def BtraO_2b (_F : FnT) (N : QO) (E : EO) (_L0 : QQ YtraO_0) (_L2 : QQ YtraO_2) (L4 : QQ YtraO_4) (_L1490000000 : QQ YtraO_1490000000) (_L1580000000 : QQ YtraO_1580000000) (n0 : Nat) (c1 : List PV) (n2 : Nat) (c3 : List PV) (i4 i5 : Int) (n6 : Nat) : OX :=
 bif (decide (i5 < i4)) then
  bif (decide (((0 : Int) ≤ i5) ∧ (i5 < (n2 : Int)))) then
   bindO (listC (c3[((Int.toNat i5) * 1)]?)) fun x0 =>
   bindO (L4 (TtraO_4c n0 c1 i5 n2 c3 i4 i5 (x0.1 : Int) (0 : Int) n6)) fun z =>
   Sum.elim (fun y1 =>
    N (TtraO_2a y1.1 y1.2.1 y1.2.2.1 (w64 (y1.2.2.2 + (1 : Int))))) (fun z0 => Sum.elim (fun y2 =>
    N (TtraO_2c y2.1 y2.2.1 y2.2.2.1 y2.2.2.2.1 y2.2.2.2.2.1 (w64 (y2.2.2.2.2.2.1 + (1 : Int))) y2.2.2.2.2.2.2)) (fun z1 => Sum.elim (fun y3 =>
    N (TtraO_2b y3.1 y3.2.1 y3.2.2.1 y3.2.2.2.1 y3.2.2.2.2.1 (w64 (y3.2.2.2.2.2.1 + (1 : Int))) y3.2.2.2.2.2.2)) (fun y4 =>
    N (TtraO_2d y4.1 y4.2.1 y4.2.2.1 y4.2.2.2.1 y4.2.2.2.2.1 y4.2.2.2.2.2.1 y4.2.2.2.2.2.2.1 (w64 (y4.2.2.2.2.2.2.2.1 + (1 : Int))) y4.2.2.2.2.2.2.2.2.1 y4.2.2.2.2.2.2.2.2.2)) z1) z0) z
  else none
 else E (XtraO_2b n6)
theorem BtraO_2b_eq (F N E L0 L2 L4 L1490000000 L1580000000 n0 c1 n2 c3 i4 i5 n6) : semB (callP F (EtraO L1490000000 L1580000000) 20) s28 (loopT (qK21_1 L0 L2 L4)) 400 (blkIn a28.body 2) N E (TtraO_2b n0 c1 n2 c3 i4 i5 n6) = BtraO_2b F N E L0 L2 L4 L1490000000 L1580000000 n0 c1 n2 c3 i4 i5 n6 := by kernel_rfl
theorem RtraO_2b_of (n0 c1 n2 c3 i4 i5 n6) {r} (h : BtraO_2b (Fn env) RtraO_2 exO LtraO_0 LtraO_2 LtraO_4 LtraO_1490000000 LtraO_1580000000 n0 c1 n2 c3 i4 i5 n6 = some r) : RtraO_2 (TtraO_2b n0 c1 n2 c3 i4 i5 n6) = some r :=
 lp_of EtraO_ok (by kernel_rfl) oqK21_1 (by kernel_rfl) ((BtraO_2b_eq _ _ _ _ _ _ _ _ _ _ _ _ _ _ _).trans h)
def BtraO_2c (_F : FnT) (N : QO) (E : EO) (_L0 : QQ YtraO_0) (_L2 : QQ YtraO_2) (L4 : QQ YtraO_4) (_L1490000000 : QQ YtraO_1490000000) (_L1580000000 : QQ YtraO_1580000000) (n0 : Nat) (c1 : List PV) (n2 : Nat) (c3 : List PV) (i4 i5 : Int) (n6 : Nat) : OX :=
 bif (decide (i5 < i4)) then
  bif (decide (((0 : Int) ≤ i5) ∧ (i5 < (n2 : Int)))) then
   bindO (listC (c3[((Int.toNat i5) * 1)]?)) fun x0 =>
   bindO (L4 (TtraO_4b n0 c1 i5 n2 c3 i4 i5 (x0.1 : Int) (0 : Int) n6)) fun z =>
   Sum.elim (fun y1 =>
    N (TtraO_2a y1.1 y1.2.1 y1.2.2.1 (w64 (y1.2.2.2 + (1 : Int))))) (fun z0 => Sum.elim (fun y2 =>
    N (TtraO_2c y2.1 y2.2.1 y2.2.2.1 y2.2.2.2.1 y2.2.2.2.2.1 (w64 (y2.2.2.2.2.2.1 + (1 : Int))) y2.2.2.2.2.2.2)) (fun z1 => Sum.elim (fun y3 =>
    N (TtraO_2b y3.1 y3.2.1 y3.2.2.1 y3.2.2.2.1 y3.2.2.2.2.1 (w64 (y3.2.2.2.2.2.1 + (1 : Int))) y3.2.2.2.2.2.2)) (fun y4 =>
    N (TtraO_2d y4.1 y4.2.1 y4.2.2.1 y4.2.2.2.1 y4.2.2.2.2.1 y4.2.2.2.2.2.1 y4.2.2.2.2.2.2.1 (w64 (y4.2.2.2.2.2.2.2.1 + (1 : Int))) y4.2.2.2.2.2.2.2.2.1 y4.2.2.2.2.2.2.2.2.2)) z1) z0) z
  else none
 else E (XtraO_2c (n0, c1, n6))
theorem BtraO_2c_eq (F N E L0 L2 L4 L1490000000 L1580000000 n0 c1 n2 c3 i4 i5 n6) : semB (callP F (EtraO L1490000000 L1580000000) 20) s28 (loopT (qK21_1 L0 L2 L4)) 400 (blkIn a28.body 2) N E (TtraO_2c n0 c1 n2 c3 i4 i5 n6) = BtraO_2c F N E L0 L2 L4 L1490000000 L1580000000 n0 c1 n2 c3 i4 i5 n6 := by kernel_rfl
theorem RtraO_2c_of (n0 c1 n2 c3 i4 i5 n6) {r} (h : BtraO_2c (Fn env) RtraO_2 exO LtraO_0 LtraO_2 LtraO_4 LtraO_1490000000 LtraO_1580000000 n0 c1 n2 c3 i4 i5 n6 = some r) : RtraO_2 (TtraO_2c n0 c1 n2 c3 i4 i5 n6) = some r :=
 lp_of EtraO_ok (by kernel_rfl) oqK21_1 (by kernel_rfl) ((BtraO_2c_eq _ _ _ _ _ _ _ _ _ _ _ _ _ _ _).trans h)
def BtraO_2d (_F : FnT) (N : QO) (E : EO) (_L0 : QQ YtraO_0) (_L2 : QQ YtraO_2) (L4 : QQ YtraO_4) (_L1490000000 : QQ YtraO_1490000000) (_L1580000000 : QQ YtraO_1580000000) (n0 : Nat) (c1 : List PV) (n2 : Nat) (c3 : List PV) (n4 : Nat) (c5 : List PV) (i6 i7 : Int) (n8 n9 : Nat) : OX :=
 bif (decide (i7 < i6)) then
  bif (decide (((0 : Int) ≤ i7) ∧ (i7 < (n4 : Int)))) then
   bindO (listC (c5[((Int.toNat i7) * 1)]?)) fun x0 =>
   bindO (L4 (TtraO_4d n0 c1 n2 c3 i7 n4 c5 i6 i7 (x0.1 : Int) (0 : Int) n8 n9)) fun z =>
   Sum.elim (fun y1 =>
    N (TtraO_2a y1.1 y1.2.1 y1.2.2.1 (w64 (y1.2.2.2 + (1 : Int))))) (fun z0 => Sum.elim (fun y2 =>
    N (TtraO_2c y2.1 y2.2.1 y2.2.2.1 y2.2.2.2.1 y2.2.2.2.2.1 (w64 (y2.2.2.2.2.2.1 + (1 : Int))) y2.2.2.2.2.2.2)) (fun z1 => Sum.elim (fun y3 =>
    N (TtraO_2b y3.1 y3.2.1 y3.2.2.1 y3.2.2.2.1 y3.2.2.2.2.1 (w64 (y3.2.2.2.2.2.1 + (1 : Int))) y3.2.2.2.2.2.2)) (fun y4 =>
    N (TtraO_2d y4.1 y4.2.1 y4.2.2.1 y4.2.2.2.1 y4.2.2.2.2.1 y4.2.2.2.2.2.1 y4.2.2.2.2.2.2.1 (w64 (y4.2.2.2.2.2.2.2.1 + (1 : Int))) y4.2.2.2.2.2.2.2.2.1 y4.2.2.2.2.2.2.2.2.2)) z1) z0) z
  else none
 else E (XtraO_2d (n2, c3, n8, n9))
theorem BtraO_2d_eq (F N E L0 L2 L4 L1490000000 L1580000000 n0 c1 n2 c3 n4 c5 i6 i7 n8 n9) : semB (callP F (EtraO L1490000000 L1580000000) 20) s28 (loopT (qK21_1 L0 L2 L4)) 400 (blkIn a28.body 2) N E (TtraO_2d n0 c1 n2 c3 n4 c5 i6 i7 n8 n9) = BtraO_2d F N E L0 L2 L4 L1490000000 L1580000000 n0 c1 n2 c3 n4 c5 i6 i7 n8 n9 := by kernel_rfl
theorem RtraO_2d_of (n0 c1 n2 c3 n4 c5 i6 i7 n8 n9) {r} (h : BtraO_2d (Fn env) RtraO_2 exO LtraO_0 LtraO_2 LtraO_4 LtraO_1490000000 LtraO_1580000000 n0 c1 n2 c3 n4 c5 i6 i7 n8 n9 = some r) : RtraO_2 (TtraO_2d n0 c1 n2 c3 n4 c5 i6 i7 n8 n9) = some r :=
 lp_of EtraO_ok (by kernel_rfl) oqK21_1 (by kernel_rfl) ((BtraO_2d_eq _ _ _ _ _ _ _ _ _ _ _ _ _ _ _ _ _ _).trans h)
def BtraO_4a (F : FnT) (N : QO) (E : EO) (_L0 : QQ YtraO_0) (_L2 : QQ YtraO_2) (_L4 : QQ YtraO_4) (_L1490000000 : QQ YtraO_1490000000) (_L1580000000 : QQ YtraO_1580000000) (i0 : Int) (n1 : Nat) (c2 : List PV) (i3 i4 i5 : Int) : OX :=
 bif (decide ((0 : Int) < i5)) then
  bif (i0 == (0 : Int)) then
   bindO (F 73 (RSh.one CK.list) [(PV.list 0 []), (PV.int .i64 i0), (PV.int .i64 (0 : Int))]) fun (y0 : ((Nat) × (List PV))) =>
   N (TtraO_4b 1 [(PV.list y0.1 y0.2)] i0 n1 c2 i3 i4 i5 (1 : Int) 1)
  else bif (decide (((0 : Int) ≤ (w64 (i0 - (1 : Int)))) ∧ ((w64 (i0 - (1 : Int))) < (0 : Int)))) then
   none
  else none
 else E (XtraO_4a (n1, c2, i3, i4))
theorem BtraO_4a_eq (F N E L0 L2 L4 L1490000000 L1580000000 i0 n1 c2 i3 i4 i5) : semB (callP F (EtraO L1490000000 L1580000000) 20) s28 (loopT (qK21_1 L0 L2 L4)) 400 (blkIn a28.body 4) N E (TtraO_4a i0 n1 c2 i3 i4 i5) = BtraO_4a F N E L0 L2 L4 L1490000000 L1580000000 i0 n1 c2 i3 i4 i5 := by kernel_rfl
theorem RtraO_4a_of (i0 n1 c2 i3 i4 i5) {r} (h : BtraO_4a (Fn env) RtraO_4 exO LtraO_0 LtraO_2 LtraO_4 LtraO_1490000000 LtraO_1580000000 i0 n1 c2 i3 i4 i5 = some r) : RtraO_4 (TtraO_4a i0 n1 c2 i3 i4 i5) = some r :=
 lp_of EtraO_ok (by kernel_rfl) oqK21_1 (by kernel_rfl) ((BtraO_4a_eq _ _ _ _ _ _ _ _ _ _ _ _ _ _).trans h)
def BtraO_4b (F : FnT) (N : QO) (E : EO) (_L0 : QQ YtraO_0) (_L2 : QQ YtraO_2) (_L4 : QQ YtraO_4) (_L1490000000 : QQ YtraO_1490000000) (_L1580000000 : QQ YtraO_1580000000) (n0 : Nat) (c1 : List PV) (i2 : Int) (n3 : Nat) (c4 : List PV) (i5 i6 i7 i8 : Int) (n9 : Nat) : OX :=
 bif (decide (i8 < i7)) then
  bif (i2 == (0 : Int)) then
   bindO (F 73 (RSh.one CK.list) [(PV.list 0 []), (PV.int .i64 i2), (PV.int .i64 i8)]) fun (y0 : ((Nat) × (List PV))) =>
   bif (decide ((n9 = n0) ∧ ((n0 + 1) ≤ big))) then
    N (TtraO_4b (n0 + 1) (c1 ++ [(PV.list y0.1 y0.2)]) i2 n3 c4 i5 i6 i7 (w64 (i8 + (1 : Int))) (n0 + 1))
   else none
  else bif (decide (((0 : Int) ≤ (w64 (i2 - (1 : Int)))) ∧ ((w64 (i2 - (1 : Int))) < (0 : Int)))) then
   none
  else none
 else E (XtraO_4b (n0, c1, n3, c4, i5, i6, n9))
theorem BtraO_4b_eq (F N E L0 L2 L4 L1490000000 L1580000000 n0 c1 i2 n3 c4 i5 i6 i7 i8 n9) : semB (callP F (EtraO L1490000000 L1580000000) 20) s28 (loopT (qK21_1 L0 L2 L4)) 400 (blkIn a28.body 4) N E (TtraO_4b n0 c1 i2 n3 c4 i5 i6 i7 i8 n9) = BtraO_4b F N E L0 L2 L4 L1490000000 L1580000000 n0 c1 i2 n3 c4 i5 i6 i7 i8 n9 := by kernel_rfl
theorem RtraO_4b_of (n0 c1 i2 n3 c4 i5 i6 i7 i8 n9) {r} (h : BtraO_4b (Fn env) RtraO_4 exO LtraO_0 LtraO_2 LtraO_4 LtraO_1490000000 LtraO_1580000000 n0 c1 i2 n3 c4 i5 i6 i7 i8 n9 = some r) : RtraO_4 (TtraO_4b n0 c1 i2 n3 c4 i5 i6 i7 i8 n9) = some r :=
 lp_of EtraO_ok (by kernel_rfl) oqK21_1 (by kernel_rfl) ((BtraO_4b_eq _ _ _ _ _ _ _ _ _ _ _ _ _ _ _ _ _ _).trans h)
def BtraO_4c (F : FnT) (N : QO) (E : EO) (_L0 : QQ YtraO_0) (_L2 : QQ YtraO_2) (_L4 : QQ YtraO_4) (_L1490000000 : QQ YtraO_1490000000) (_L1580000000 : QQ YtraO_1580000000) (n0 : Nat) (c1 : List PV) (i2 : Int) (n3 : Nat) (c4 : List PV) (i5 i6 i7 i8 : Int) (n9 : Nat) : OX :=
 bif (decide (i8 < i7)) then
  bif (i2 == (0 : Int)) then
   bindO (F 73 (RSh.one CK.list) [(PV.list n0 c1), (PV.int .i64 i2), (PV.int .i64 i8)]) fun (y0 : ((Nat) × (List PV))) =>
   N (TtraO_4d n0 c1 1 [(PV.list y0.1 y0.2)] i2 n3 c4 i5 i6 i7 (w64 (i8 + (1 : Int))) n9 1)
  else bif (decide (((0 : Int) ≤ (w64 (i2 - (1 : Int)))) ∧ ((w64 (i2 - (1 : Int))) < (n0 : Int)))) then
   bindO (listC (c1[((Int.toNat (w64 (i2 - (1 : Int)))) * 1)]?)) fun x1 =>
   bindO (F 72 (RSh.one CK.bool) [(PV.list x1.1 x1.2), (PV.int .i64 i8)]) fun (y2 : (Bool)) =>
   bif y2 then
    N (TtraO_4c n0 c1 i2 n3 c4 i5 i6 i7 (w64 (i8 + (1 : Int))) n9)
   else bindO (F 73 (RSh.one CK.list) [(PV.list n0 c1), (PV.int .i64 i2), (PV.int .i64 i8)]) fun (y3 : ((Nat) × (List PV))) =>
   N (TtraO_4d n0 c1 1 [(PV.list y3.1 y3.2)] i2 n3 c4 i5 i6 i7 (w64 (i8 + (1 : Int))) n9 1)
  else none
 else E (XtraO_4c (n0, c1, n3, c4, i5, i6, n9))
theorem BtraO_4c_eq (F N E L0 L2 L4 L1490000000 L1580000000 n0 c1 i2 n3 c4 i5 i6 i7 i8 n9) : semB (callP F (EtraO L1490000000 L1580000000) 20) s28 (loopT (qK21_1 L0 L2 L4)) 400 (blkIn a28.body 4) N E (TtraO_4c n0 c1 i2 n3 c4 i5 i6 i7 i8 n9) = BtraO_4c F N E L0 L2 L4 L1490000000 L1580000000 n0 c1 i2 n3 c4 i5 i6 i7 i8 n9 := by kernel_rfl
theorem RtraO_4c_of (n0 c1 i2 n3 c4 i5 i6 i7 i8 n9) {r} (h : BtraO_4c (Fn env) RtraO_4 exO LtraO_0 LtraO_2 LtraO_4 LtraO_1490000000 LtraO_1580000000 n0 c1 i2 n3 c4 i5 i6 i7 i8 n9 = some r) : RtraO_4 (TtraO_4c n0 c1 i2 n3 c4 i5 i6 i7 i8 n9) = some r :=
 lp_of EtraO_ok (by kernel_rfl) oqK21_1 (by kernel_rfl) ((BtraO_4c_eq _ _ _ _ _ _ _ _ _ _ _ _ _ _ _ _ _ _).trans h)
def BtraO_4d (F : FnT) (N : QO) (E : EO) (_L0 : QQ YtraO_0) (_L2 : QQ YtraO_2) (_L4 : QQ YtraO_4) (_L1490000000 : QQ YtraO_1490000000) (_L1580000000 : QQ YtraO_1580000000) (n0 : Nat) (c1 : List PV) (n2 : Nat) (c3 : List PV) (i4 : Int) (n5 : Nat) (c6 : List PV) (i7 i8 i9 i10 : Int) (n11 n12 : Nat) : OX :=
 bif (decide (i10 < i9)) then
  bif (i4 == (0 : Int)) then
   bindO (F 73 (RSh.one CK.list) [(PV.list n0 c1), (PV.int .i64 i4), (PV.int .i64 i10)]) fun (y0 : ((Nat) × (List PV))) =>
   bif (decide ((n12 = n2) ∧ ((n2 + 1) ≤ big))) then
    N (TtraO_4d n0 c1 (n2 + 1) (c3 ++ [(PV.list y0.1 y0.2)]) i4 n5 c6 i7 i8 i9 (w64 (i10 + (1 : Int))) n11 (n2 + 1))
   else none
  else bif (decide (((0 : Int) ≤ (w64 (i4 - (1 : Int)))) ∧ ((w64 (i4 - (1 : Int))) < (n0 : Int)))) then
   bindO (listC (c1[((Int.toNat (w64 (i4 - (1 : Int)))) * 1)]?)) fun x1 =>
   bindO (F 72 (RSh.one CK.bool) [(PV.list x1.1 x1.2), (PV.int .i64 i10)]) fun (y2 : (Bool)) =>
   bif y2 then
    N (TtraO_4d n0 c1 n2 c3 i4 n5 c6 i7 i8 i9 (w64 (i10 + (1 : Int))) n11 n12)
   else bindO (F 73 (RSh.one CK.list) [(PV.list n0 c1), (PV.int .i64 i4), (PV.int .i64 i10)]) fun (y3 : ((Nat) × (List PV))) =>
   bif (decide ((n12 = n2) ∧ ((n2 + 1) ≤ big))) then
    N (TtraO_4d n0 c1 (n2 + 1) (c3 ++ [(PV.list y3.1 y3.2)]) i4 n5 c6 i7 i8 i9 (w64 (i10 + (1 : Int))) n11 (n2 + 1))
   else none
  else none
 else E (XtraO_4d (n0, c1, n2, c3, n5, c6, i7, i8, n11, n12))
theorem BtraO_4d_eq (F N E L0 L2 L4 L1490000000 L1580000000 n0 c1 n2 c3 i4 n5 c6 i7 i8 i9 i10 n11 n12) : semB (callP F (EtraO L1490000000 L1580000000) 20) s28 (loopT (qK21_1 L0 L2 L4)) 400 (blkIn a28.body 4) N E (TtraO_4d n0 c1 n2 c3 i4 n5 c6 i7 i8 i9 i10 n11 n12) = BtraO_4d F N E L0 L2 L4 L1490000000 L1580000000 n0 c1 n2 c3 i4 n5 c6 i7 i8 i9 i10 n11 n12 := by kernel_rfl
theorem RtraO_4d_of (n0 c1 n2 c3 i4 n5 c6 i7 i8 i9 i10 n11 n12) {r} (h : BtraO_4d (Fn env) RtraO_4 exO LtraO_0 LtraO_2 LtraO_4 LtraO_1490000000 LtraO_1580000000 n0 c1 n2 c3 i4 n5 c6 i7 i8 i9 i10 n11 n12 = some r) : RtraO_4 (TtraO_4d n0 c1 n2 c3 i4 n5 c6 i7 i8 i9 i10 n11 n12) = some r :=
 lp_of EtraO_ok (by kernel_rfl) oqK21_1 (by kernel_rfl) ((BtraO_4d_eq _ _ _ _ _ _ _ _ _ _ _ _ _ _ _ _ _ _ _ _ _).trans h)
def BtraO_1490000000a (_F : FnT) (N : QO) (E : EO) (_L0 : QQ YtraO_0) (_L2 : QQ YtraO_2) (_L4 : QQ YtraO_4) (_L1490000000 : QQ YtraO_1490000000) (L1580000000 : QQ YtraO_1580000000) (n0 : Nat) (c1 : List PV) (i2 i3 : Int) : OX :=
 bif (decide (i3 < i2)) then
  bif (decide (((0 : Int) ≤ i3) ∧ (i3 < (n0 : Int)))) then
   bindO (listC (c1[((Int.toNat i3) * 1)]?)) fun x0 =>
   bif (decide ((x0.1 : Int) > (3 : Int))) then
    E (XtraO_1490000000a (i3, (8 : Int)))
   else bindO (L1580000000 (TtraO_1580000000a x0.1 x0.2 (x0.1 : Int) (0 : Int))) fun z =>
   Sum.elim (fun y1 =>
    bif (y1.2 != (0 : Int)) then
     E (XtraO_1490000000a (i3, y1.2))
    else N (TtraO_1490000000a n0 c1 i2 (w64 (i3 + (1 : Int))))) (fun _y2 =>
    N (TtraO_1490000000a n0 c1 i2 (w64 (i3 + (1 : Int))))) z
  else none
 else E (XtraO_1490000000b ())
theorem BtraO_1490000000a_eq (F N E L0 L2 L4 L1490000000 L1580000000 n0 c1 i2 i3) : semB (callP F (EtraO L1490000000 L1580000000) 20) s97 (loopT [⟨0, YtraO_1490000000, L1490000000, XLtraO_1490000000⟩]) 400 (blkIn a97.body 0) N E (TtraO_1490000000a n0 c1 i2 i3) = BtraO_1490000000a F N E L0 L2 L4 L1490000000 L1580000000 n0 c1 i2 i3 := by kernel_rfl
theorem RtraO_1490000000a_of (n0 c1 i2 i3) {r} (h : BtraO_1490000000a (Fn env) RtraO_1490000000 exO LtraO_0 LtraO_2 LtraO_4 LtraO_1490000000 LtraO_1580000000 n0 c1 i2 i3 = some r) : RtraO_1490000000 (TtraO_1490000000a n0 c1 i2 i3) = some r :=
 lp_of EtraO_ok (by kernel_rfl) (lo_cons (lpO_ok UtraOg149) lo_nil) (by kernel_rfl) ((BtraO_1490000000a_eq _ _ _ _ _ _ _ _ _ _ _ _).trans h)
def BtraO_1580000000a (F : FnT) (N : QO) (E : EO) (_L0 : QQ YtraO_0) (_L2 : QQ YtraO_2) (_L4 : QQ YtraO_4) (_L1490000000 : QQ YtraO_1490000000) (_L1580000000 : QQ YtraO_1580000000) (n0 : Nat) (c1 : List PV) (i2 i3 : Int) : OX :=
 bif (decide (i3 < i2)) then
  bif (decide (((0 : Int) ≤ i3) ∧ (i3 < (n0 : Int)))) then
   bindO (intC .i64 (c1[((Int.toNat i3) * 3)]?)) fun x0 =>
   bindO (intC .i64 (c1[(((Int.toNat i3) * 3) + 1)]?)) fun x1 =>
   bindO (intC .i64 (c1[((((Int.toNat i3) * 3) + 1) + 1)]?)) fun x2 =>
   bindO (F 76 (RSh.one (CK.int .i64)) [(PV.agg [(PV.int .i64 x0), (PV.int .i64 x1)])]) fun (y3 : (Int)) =>
   bindO (F 84 (RSh.one (CK.int .i64)) [(PV.int .i64 x2), (PV.int .i64 (-10000 : Int)), (PV.int .i64 (10000 : Int))]) fun (y4 : (Int)) =>
   bindO (F 53 (RSh.one (CK.int .i64)) [(PV.list 2 [(PV.int .i64 y3), (PV.int .i64 y4)])]) fun (y5 : (Int)) =>
   bif (y5 != (0 : Int)) then
    E (XtraO_1580000000a (i3, y5))
   else N (TtraO_1580000000a n0 c1 i2 (w64 (i3 + (1 : Int))))
  else none
 else E (XtraO_1580000000b ())
theorem BtraO_1580000000a_eq (F N E L0 L2 L4 L1490000000 L1580000000 n0 c1 i2 i3) : semB (callP F (EtraO L1490000000 L1580000000) 20) s121 (loopT [⟨0, YtraO_1580000000, L1580000000, XLtraO_1580000000⟩]) 400 (blkIn a121.body 0) N E (TtraO_1580000000a n0 c1 i2 i3) = BtraO_1580000000a F N E L0 L2 L4 L1490000000 L1580000000 n0 c1 i2 i3 := by kernel_rfl
theorem RtraO_1580000000a_of (n0 c1 i2 i3) {r} (h : BtraO_1580000000a (Fn env) RtraO_1580000000 exO LtraO_0 LtraO_2 LtraO_4 LtraO_1490000000 LtraO_1580000000 n0 c1 i2 i3 = some r) : RtraO_1580000000 (TtraO_1580000000a n0 c1 i2 i3) = some r :=
 lp_of EtraO_ok (by kernel_rfl) (lo_cons (lpO_ok UtraOg158) lo_nil) (by kernel_rfl) ((BtraO_1580000000a_eq _ _ _ _ _ _ _ _ _ _ _ _).trans h)
def ttraO (F : FnT) (L0 : QQ YtraO_0) (L2 : QQ YtraO_2) (_L4 : QQ YtraO_4) (L1490000000 : QQ YtraO_1490000000) (_L1580000000 : QQ YtraO_1580000000) (p0n : Nat) (p0c : List PV) (p1 : Int) : Option (((Nat) × (List PV)) × (Int)) :=
 bif (decide ((p0n : Int) > (6 : Int))) then
  bindO (F 71 (RSh.one (CK.int .i64)) [(PV.int .i64 p1)]) fun (y0 : (Int)) =>
  bindO (F 53 (RSh.one (CK.int .i64)) [(PV.list 2 [(PV.int .i64 (8 : Int)), (PV.int .i64 y0)])]) fun (y1 : (Int)) =>
  bif (y1 != (0 : Int)) then
   some ((0, []), y1)
  else bindO (L0 (TtraO_0a p0n p0c p1)) fun z =>
  Sum.elim (fun y2 =>
   bindO (L2 (TtraO_2a y2.1 y2.2 (y2.1 : Int) (0 : Int))) fun z =>
   Sum.elim (fun _y3 =>
    some ((0, []), (0 : Int))) (fun z0 => Sum.elim (fun _y4 =>
    some ((0, []), (0 : Int))) (fun z1 => Sum.elim (fun y5 =>
    some ((y5.1, y5.2.1), (0 : Int))) (fun y6 =>
    some ((y6.1, y6.2.1), (0 : Int))) z1) z0) z) (fun y7 =>
   bindO (L2 (TtraO_2b y7.2.2.1 y7.2.2.2.1 y7.1 y7.2.1 (y7.1 : Int) (0 : Int) y7.2.2.2.2)) fun z =>
   Sum.elim (fun _y8 =>
    some ((0, []), (0 : Int))) (fun z0 => Sum.elim (fun _y9 =>
    some ((0, []), (0 : Int))) (fun z1 => Sum.elim (fun y10 =>
    some ((y10.1, y10.2.1), (0 : Int))) (fun y11 =>
    some ((y11.1, y11.2.1), (0 : Int))) z1) z0) z) z
 else bindO (L1490000000 (TtraO_1490000000a p0n p0c (p0n : Int) (0 : Int))) fun z =>
 Sum.elim (fun y12 =>
  bindO (F 71 (RSh.one (CK.int .i64)) [(PV.int .i64 p1)]) fun (y13 : (Int)) =>
  bindO (F 53 (RSh.one (CK.int .i64)) [(PV.list 2 [(PV.int .i64 y12.2), (PV.int .i64 y13)])]) fun (y14 : (Int)) =>
  bif (y14 != (0 : Int)) then
   some ((0, []), y14)
  else bindO (L0 (TtraO_0a p0n p0c p1)) fun z =>
  Sum.elim (fun y15 =>
   bindO (L2 (TtraO_2a y15.1 y15.2 (y15.1 : Int) (0 : Int))) fun z =>
   Sum.elim (fun _y16 =>
    some ((0, []), (0 : Int))) (fun z0 => Sum.elim (fun _y17 =>
    some ((0, []), (0 : Int))) (fun z1 => Sum.elim (fun y18 =>
    some ((y18.1, y18.2.1), (0 : Int))) (fun y19 =>
    some ((y19.1, y19.2.1), (0 : Int))) z1) z0) z) (fun y20 =>
   bindO (L2 (TtraO_2b y20.2.2.1 y20.2.2.2.1 y20.1 y20.2.1 (y20.1 : Int) (0 : Int) y20.2.2.2.2)) fun z =>
   Sum.elim (fun _y21 =>
    some ((0, []), (0 : Int))) (fun z0 => Sum.elim (fun _y22 =>
    some ((0, []), (0 : Int))) (fun z1 => Sum.elim (fun y23 =>
    some ((y23.1, y23.2.1), (0 : Int))) (fun y24 =>
    some ((y24.1, y24.2.1), (0 : Int))) z1) z0) z) z) (fun _y25 =>
  bindO (F 71 (RSh.one (CK.int .i64)) [(PV.int .i64 p1)]) fun (y26 : (Int)) =>
  bindO (F 53 (RSh.one (CK.int .i64)) [(PV.list 2 [(PV.int .i64 (0 : Int)), (PV.int .i64 y26)])]) fun (y27 : (Int)) =>
  bif (y27 != (0 : Int)) then
   some ((0, []), y27)
  else bindO (L0 (TtraO_0a p0n p0c p1)) fun z =>
  Sum.elim (fun y28 =>
   bindO (L2 (TtraO_2a y28.1 y28.2 (y28.1 : Int) (0 : Int))) fun z =>
   Sum.elim (fun _y29 =>
    some ((0, []), (0 : Int))) (fun z0 => Sum.elim (fun _y30 =>
    some ((0, []), (0 : Int))) (fun z1 => Sum.elim (fun y31 =>
    some ((y31.1, y31.2.1), (0 : Int))) (fun y32 =>
    some ((y32.1, y32.2.1), (0 : Int))) z1) z0) z) (fun y33 =>
   bindO (L2 (TtraO_2b y33.2.2.1 y33.2.2.2.1 y33.1 y33.2.1 (y33.1 : Int) (0 : Int) y33.2.2.2.2)) fun z =>
   Sum.elim (fun _y34 =>
    some ((0, []), (0 : Int))) (fun z0 => Sum.elim (fun _y35 =>
    some ((0, []), (0 : Int))) (fun z1 => Sum.elim (fun y36 =>
    some ((y36.1, y36.2.1), (0 : Int))) (fun y37 =>
    some ((y37.1, y37.2.1), (0 : Int))) z1) z0) z) z) z
theorem ttraO_eq (F L0 L2 L4 L1490000000 L1580000000 p0n p0c p1) : semF (callP F (EtraO L1490000000 L1580000000) 20) s28 (loopT (qK21_1 L0 L2 L4)) 400 a28 [PV.list p0n p0c, PV.int .i64 p1] (fun rv => decR (RSh.tup [(Prod.mk false [CK.list]), (Prod.mk false [(CK.int .i64)])]) rv.pv) = ttraO F L0 L2 L4 L1490000000 L1580000000 p0n p0c p1 := by kernel_rfl
noncomputable abbrev FtraO (args : List PV) := Fn env 28 (RSh.tup [(Prod.mk false [CK.list]), (Prod.mk false [(CK.int .i64)])]) args
theorem FtraO_of  (p0n : Nat) (p0c : List PV) (p1 : Int) {res : (((Nat) × (List PV)) × (Int))} (h : ttraO (Fn env) LtraO_0 LtraO_2 LtraO_4 LtraO_1490000000 LtraO_1580000000 p0n p0c p1 = some res) : FtraO [PV.list p0n p0c, PV.int .i64 p1] = some res :=
 fn_of EtraO_ok rfl rfl oqK21_1 ((ttraO_eq _ _ _ _ _ _ _ _ _).trans h)
end Gv

/- Scans, their links and tracks. -/
namespace Gv
open Go
set_option maxRecDepth 100000
def poiV (y z : Int) : Int := if (-1000 ≤ y ∧ y ≤ 1000) ∧ (0 ≤ z ∧ z ≤ 1000) then 0 else 2
def vorV (v : Z3) : Int := if ((-1000 ≤ v.1 ∧ v.1 ≤ 1000) ∧ (0 ≤ v.2.1 ∧ v.2.1 ≤ 1000)) ∧ (-10000 ≤ v.2.2 ∧ v.2.2 ≤ 10000) then 0 else 2
theorem posE_is (y z : Int) : FposE [.agg [.int .i64 y, .int .i64 z]] = some (poiV y z) := by
 refine FposE_of _ _ ?_
 unfold tposE poiV
 have h1 : Fn env 84 _ [.int .i64 y, .int .i64 (-1000), .int .i64 1000] = _ := rE_is y (-1000) 1000
 have h2 : Fn env 84 _ [.int .i64 z, .int .i64 0, .int .i64 1000] = _ := rE_is z 0 1000
 rw [h1, h2]
 simp only [bindO_val, fE2_is, rangeE_if, both]
 by_cases a : -1000 ≤ y ∧ y ≤ 1000 <;> by_cases b : 0 ≤ z ∧ z ≤ 1000 <;> simp [a, b]
def scaF : List Z3 → Int
 | [] => 0
 | v :: l => if vorV v = 0 then scaF l else vorV v
def scaV (l : List Z3) : Int := if 3 < l.length then 8 else scaF l
theorem drop_getZ {r : List Z3} {i : Nat} (h : i < r.length) : ∃ v, r[i]? = some v ∧ r.drop i = v :: r.drop (i + 1) := ⟨r[i], List.getElem?_eq_getElem h, List.drop_eq_getElem_cons h⟩
def trackR (Ls : List (List Int)) : Nat → Nat → Int → List ZZ
 | 0, _, _ => []
 | m + 1, s, i => if 0 ≤ (Ls.getD s []).getD i.toNat 0 then ((s : Int) + 1, (Ls.getD s []).getD i.toNat 0) :: trackR Ls m (s + 1) ((Ls.getD s []).getD i.toNat 0) else []
def trackV (Ls : List (List Int)) (s : Nat) (i : Int) : List ZZ := ((s : Int), i) :: trackR Ls (Ls.length - s) s i
def LinksOK (Ls : List (List Int)) : Prop := ∀ s, s + 1 < Ls.length → ∀ x ∈ Ls.getD s [], x < ((Ls.getD (s + 1) []).length : Int)
theorem links_mem {Ls : List (List Int)} {s : Nat} {i : Int} (h : 0 ≤ i ∧ i < ((Ls.getD s []).length : Int)) : (Ls.getD s []).getD i.toNat 0 ∈ Ls.getD s [] := by
 have : i.toNat < (Ls.getD s []).length := by omega
 generalize Ls.getD s [] = r at this ⊢
 simp [List.getD, List.getElem?_eq_getElem this]
theorem trackR_len (Ls : List (List Int)) : ∀ (m s : Nat) (i : Int), (trackR Ls m s i).length ≤ m
 | 0, _, _ => by simp [trackR]
 | m + 1, s, i => by
  unfold trackR
  split
  ·have := trackR_len Ls m (s + 1) ((Ls.getD s []).getD i.toNat 0)
   simp only [List.length_cons]
   omega
  ·simp
theorem traF_b (Ls : List (List Int)) (hL : Ls.length ≤ 1000) (ok : LinksOK Ls) : ∀ (m s : Nat) (i : Int) (acc : List ZZ), s + m = Ls.length → (0 < m → 0 ≤ i ∧ i < ((Ls.getD s []).length : Int)) → acc.length ≤ s + 1 →
  RtraF_0 (TtraF_0b Ls.length (encM Ls) s i acc.length (encG acc) acc.length) = exO (XtraF_0b ((acc ++ trackR Ls m s i).length, encG (acc ++ trackR Ls m s i), (acc ++ trackR Ls m s i).length))
 | 0, s, i, acc, h, _, _ => by
  refine RtraF_0b_of _ _ _ _ _ _ _ ?_
  unfold BtraF_0b trackR
  rw [bif_neg (by omega), List.append_nil]
  rfl
 | m + 1, s, i, acc, h, hi, ha => by
  obtain ⟨i0, i1⟩ := hi (by omega)
  have hs : s < Ls.length := by omega
  have hin : i.toNat < (Ls.getD s []).length := by omega
  refine RtraF_0b_of _ _ _ _ _ _ _ ?_
  unfold BtraF_0b
  rw [bif_pos (by omega), bif_pos (by omega)]
  simp only [Int.toNat_natCast, Nat.mul_one, listM_get hs, bindO_val]
  rw [bif_pos (by omega)]
  simp only [intI_get hin, bindO_val]
  unfold trackR
  by_cases hx : 0 ≤ (Ls.getD s []).getD i.toNat 0
  ·have ih := traF_b Ls hL ok m (s + 1) ((Ls.getD s []).getD i.toNat 0) (acc ++ [((s : Int) + 1, (Ls.getD s []).getD i.toNat 0)]) (by omega) (fun hm => ⟨hx, ok s (by omega) _ (links_mem ⟨i0, i1⟩)⟩) (by simp; omega)
   rw [bif_pos hx, bif_pos (by omega)]
   try simp only [listM_get hs, bindO_val]
   rw [bif_pos (by omega)]
   try simp only [intI_get hin, bindO_val]
   rw [bif_pos ⟨trivial, by unfold big; omega⟩, if_pos hx, w64_in (by omega)]
   rw [List.append_assoc, List.singleton_append, encG_app, List.length_append, List.length_singleton] at ih
   exact_mod_cast ih
  ·rw [bif_neg hx, if_neg hx, List.append_nil]
   rfl
theorem traF_is (Ls : List (List Int)) (hL : Ls.length ≤ 1000) (ok : LinksOK Ls) (s : Nat) (i : Int) (hs : s ≤ Ls.length) (hi : s < Ls.length → 0 ≤ i ∧ i < ((Ls.getD s []).length : Int)) :
  FtraF [.list Ls.length (encM Ls), .int .i64 (s : Int), .int .i64 i] = some ((trackV Ls s i).length, encG (trackV Ls s i)) := by
 refine FtraF_of _ _ _ _ ?_
 unfold ttraF
 have key : ∃ z, LtraF_0 (TtraF_0a Ls.length (encM Ls) (s : Int) i (s : Int) i) = some z ∧ z = (if trackR Ls (Ls.length - s) s i = [] then Sum.inl ((s : Int), i) else Sum.inr ((trackV Ls s i).length, encG (trackV Ls s i), (trackV Ls s i).length)) := by
  by_cases h0 : s < Ls.length
  ·obtain ⟨i0, i1⟩ := hi h0
   obtain ⟨m, hm⟩ : ∃ m, Ls.length - s = m + 1 := ⟨Ls.length - s - 1, by omega⟩
   have hin : i.toNat < (Ls.getD s []).length := by omega
   by_cases hx : 0 ≤ (Ls.getD s []).getD i.toNat 0
   ·have ih := traF_b Ls hL ok m (s + 1) ((Ls.getD s []).getD i.toNat 0) [((s : Int), i), ((s : Int) + 1, (Ls.getD s []).getD i.toNat 0)] (by omega) (fun _ => ⟨hx, ok s (by omega) _ (links_mem ⟨i0, i1⟩)⟩) (by simp)
    have t : trackR Ls (m + 1) s i = ((s : Int) + 1, (Ls.getD s []).getD i.toNat 0) :: trackR Ls m (s + 1) ((Ls.getD s []).getD i.toNat 0) := if_pos hx
    have e : trackV Ls s i = [((s : Int), i), ((s : Int) + 1, (Ls.getD s []).getD i.toNat 0)] ++ trackR Ls m (s + 1) ((Ls.getD s []).getD i.toNat 0) := by
     unfold trackV
     rw [hm, t]
     rfl
    have hne : ¬ trackR Ls (Ls.length - s) s i = [] := by
     rw [hm, t]
     simp
    rw [if_neg hne, e]
    refine ⟨_, LtraF_0b_of (RtraF_0a_of _ _ _ _ _ _ ?_), rfl⟩
    unfold BtraF_0a
    rw [bif_pos (by omega), bif_pos (by omega)]
    simp only [Int.toNat_natCast, Nat.mul_one, listM_get h0, bindO_val]
    rw [bif_pos (by omega)]
    simp only [intI_get hin, bindO_val]
    rw [bif_pos hx, bif_pos (by omega)]
    try simp only [listM_get h0, bindO_val]
    rw [bif_pos (by omega)]
    try simp only [intI_get hin, bindO_val]
    rw [w64_in (by omega)]
    exact_mod_cast ih
   ·have he : trackR Ls (Ls.length - s) s i = [] := by
     rw [hm]
     exact if_neg hx
    rw [if_pos he]
    refine ⟨_, LtraF_0a_of (RtraF_0a_of _ _ _ _ _ _ ?_), rfl⟩
    unfold BtraF_0a
    rw [bif_pos (by omega), bif_pos (by omega)]
    simp only [Int.toNat_natCast, Nat.mul_one, listM_get h0, bindO_val]
    rw [bif_pos (by omega)]
    simp only [intI_get hin, bindO_val]
    rw [bif_neg hx]
    rfl
  ·have hm : Ls.length - s = 0 := by omega
   rw [hm]
   refine ⟨_, LtraF_0a_of (RtraF_0a_of _ _ _ _ _ _ ?_), (if_pos rfl).symm⟩
   unfold BtraF_0a
   rw [bif_neg (by omega)]
   rfl
 obtain ⟨z, h1, h2⟩ := key
 rw [h1, h2]
 by_cases he : trackR Ls (Ls.length - s) s i = []
 ·rw [if_pos he]
  unfold trackV
  rw [he]
  rfl
 ·rw [if_neg he]
  simp
end Gv

/- The links of two scans. -/
namespace Gv
open Go
set_option maxRecDepth 100000
theorem prim3_fn {env : Nat → Option AFn} {f n m : Nat} {cs ds : List PV} {k : IntKind} {x : Int} {g : List PV → Option PV} {v : PV} (hf : env f = some (primA 3 g)) (hg : g [.list n cs, .list m ds, .int k x] = some v) : run env f [.list n cs, .list m ds, .int k x] = some (.val v) := by
 refine (run_iff env).2 ⟨2, ?_⟩
 have e : exN (callN env 1) 1 (primA 3 g).body (start (primA 3 g) [.list n cs, .list m ds, .int k x]) = some (.normal, ⟨[.p (.list n cs), .p (.list m ds), .p (.int k x), .p v], [Blk.none, Blk.none, Blk.none, Blk.none]⟩) := by
  show exN (callN env 1) 1 (.ops [{ dst := some 3, grd := none, args := [.tmp 0, .tmp 1, .tmp 2], k := .l (.prim g) }]) ⟨[.p (.list n cs), .p (.list m ds), .p (.int k x), .undef], [Blk.none, Blk.none, Blk.none, Blk.none]⟩ = _
  simp only [exN, exOps, exOp, grd]
  have hk : runK (callN env 1) (.l (.prim g)) [.p (.list n cs), .p (.list m ds), .p (.int k x)] [Blk.none, Blk.none, Blk.none, Blk.none] = some (.p v, [Blk.none, Blk.none, Blk.none, Blk.none]) := by
   simp only [runK, runL, pureAs, pureA, hg, Option.map_some]
  have ha : ([Arg.tmp 0, Arg.tmp 1, Arg.tmp 2].map (Arg.get [AV.p (.list n cs), .p (.list m ds), .p (.int k x), .undef])) = [.p (.list n cs), .p (.list m ds), .p (.int k x)] := rfl
  simp only [ha, hk]
  rfl
 rw [callN_fn env 1 f _ (fun sh caps e => by cases e)]
 simp only [hf]
 rw [if_pos ⟨rfl, rfl⟩, e]
 rfl
theorem encT_i64 (l : List Z3) : (encT l).all isI64 = true := by
 unfold encT
 rw [List.all_eq_true]
 intro x hx
 obtain ⟨z, _, hz⟩ := List.mem_flatMap.1 hx
 simp only [enc3, List.mem_cons, List.not_mem_nil, or_false] at hz
 rcases hz with rfl | rfl | rfl <;> rfl
def vAt (l : List Z3) (i : Nat) : Z3 := l.getD i (0, 0, 0)
theorem vOf_enc (l : List Z3) : vOf (encT l) = vAt l := by
 funext i
 unfold vOf vAt intAt
 have g0 := encT_0 l i
 have g1 := encT_1 l i
 have g2 : (encT l)[i * 3 + 2]? = _ := encT_2 l i
 rw [g0, g1, g2]
 by_cases hi : i < l.length
 ·simp [List.getD, List.getElem?_eq_getElem hi]
 ·simp [List.getD, List.getElem?_eq_none (show l.length ≤ i by omega)]
def lnk (a b : List Z3) (miss : Int) : List Int := (linksV a.length b.length miss (vAt a) (vAt b)).getD []
theorem lnk_is (a b : List Z3) (miss : Int) (h5 : a.length + b.length ≤ 5) : ∃ (d : List Nat) (k : Int), bestIn (costW (linkZ a.length b.length miss (vAt a) (vAt b))) (asgs (a.length + b.length)) = some (d, k) ∧ lnk a b miss = (List.range a.length).map fun j => lkV b.length (d.getD j 0) := by
 obtain ⟨⟨d, k⟩, h⟩ := bestIn_some (costW (linkZ a.length b.length miss (vAt a) (vAt b))) (l := asgs (a.length + b.length)) (ext_ne h5)
 refine ⟨d, k, h, ?_⟩
 unfold lnk linksV
 unfold asgs at h
 rw [h]
 rfl
theorem lnk_len (a b : List Z3) (miss : Int) (h5 : a.length + b.length ≤ 5) : (lnk a b miss).length = a.length := by
 obtain ⟨d, k, _, h⟩ := lnk_is a b miss h5
 rw [h]
 simp
theorem f114 (a b : List Z3) (miss : Int) (h5 : a.length + b.length ≤ 5) : Fn env 66 (RSh.one CK.list) [.list a.length (encT a), .list b.length (encT b), .int .i64 miss] = some (a.length, encI (lnk a b miss)) := by
 have hg : linksG [.list a.length (encT a), .list b.length (encT b), .int .i64 miss] = some (.list a.length (encI (lnk a b miss))) := by
  unfold linksG
  simp only
  rw [if_pos ⟨trivial, h5, encT_len a, encT_len b, encT_i64 a, encT_i64 b⟩, vOf_enc, vOf_enc]
  obtain ⟨d, k, h1, h2⟩ := lnk_is a b miss h5
  unfold linksV
  unfold asgs at h1
  rw [h1, h2]
  rfl
 unfold Fn
 rw [prim3_fn (env := env) (f := 66) rfl hg]
 rfl
theorem lnk_mem {a b : List Z3} {miss : Int} (h5 : a.length + b.length ≤ 5) : ∀ x ∈ lnk a b miss, -1 ≤ x ∧ x < (b.length : Int) := by
 obtain ⟨d, k, _, h⟩ := lnk_is a b miss h5
 rw [h]
 intro x hx
 obtain ⟨j, _, rfl⟩ := List.mem_map.1 hx
 unfold lkV
 split <;> omega
end Gv

/- The links of all scans. -/
namespace Gv
open Go
set_option maxRecDepth 100000
def rowS (l : List Z3) : PV := .list l.length (encT l)
def encS (S : List (List Z3)) : List PV := S.map rowS
theorem encS_get (S : List (List Z3)) (i : Nat) : (encS S)[i]? = S[i]?.map rowS := by simp [encS]
theorem listS_get {S : List (List Z3)} {i : Nat} (h : i < S.length) : listC (encS S)[i]? = some ((S.getD i []).length, encT (S.getD i [])) := by
 rw [encS_get, List.getElem?_eq_getElem h]
 simp [List.getD, List.getElem?_eq_getElem h, rowS, listC]
def PairOK (S : List (List Z3)) : Prop := ∀ t, t + 1 < S.length → (S.getD t []).length + (S.getD (t + 1) []).length ≤ 5
def linkN (S : List (List Z3)) (miss : Int) : Nat → Nat → List (List Int)
 | 0, _ => []
 | m + 1, t => lnk (S.getD t []) (S.getD (t + 1) []) miss :: linkN S miss m (t + 1)
def linksL (S : List (List Z3)) (miss : Int) : List (List Int) := linkN S miss (S.length - 1) 0
theorem linkN_len (S : List (List Z3)) (miss : Int) : ∀ (m t : Nat), (linkN S miss m t).length = m
 | 0, _ => rfl
 | m + 1, t => by unfold linkN; rw [List.length_cons, linkN_len S miss m (t + 1)]
theorem linkN_app (S : List (List Z3)) (miss : Int) : ∀ (m t : Nat), linkN S miss (m + 1) t = linkN S miss m t ++ [lnk (S.getD (t + m) []) (S.getD (t + m + 1) []) miss]
 | 0, t => rfl
 | m + 1, t => by
  have e : linkN S miss (m + 1 + 1) t = lnk (S.getD t []) (S.getD (t + 1) []) miss :: linkN S miss (m + 1) (t + 1) := rfl
  have e2 : linkN S miss (m + 1) t = lnk (S.getD t []) (S.getD (t + 1) []) miss :: linkN S miss m (t + 1) := rfl
  rw [e, linkN_app S miss m (t + 1), e2, List.cons_append, show t + 1 + m = t + (m + 1) by omega]
theorem encM_snoc (M : List (List Int)) (r : List Int) : encM (M ++ [r]) = encM M ++ [PV.list r.length (encI r)] := by simp [encM, rowI]
theorem traO_0b (S : List (List Z3)) (miss : Int) (hS : S.length ≤ 1000) (hp : PairOK S) : ∀ (m i : Nat), i + 1 + m = S.length →
  RtraO_0 (TtraO_0b S.length (encS S) miss i (encM (linkN S miss i 0)) ((i + 1 : Nat) : Int) i) = exO (XtraO_0b (S.length, encS S, S.length - 1, encM (linksL S miss), S.length - 1))
 | 0, i, h => by
  have e : i = S.length - 1 := by omega
  refine RtraO_0b_of _ _ _ _ _ _ _ ?_
  unfold BtraO_0b linksL
  rw [bif_neg (by omega), ← e]
  rfl
 | m + 1, i, h => by
  have ih := traO_0b S miss hS hp m (i + 1) (by omega)
  have h1 : i < S.length := by omega
  have h2 : i + 1 < S.length := by omega
  have hl : Fn env 66 _ [.list (S.getD i []).length (encT (S.getD i [])), .list (S.getD (i + 1) []).length (encT (S.getD (i + 1) [])), .int .i64 miss] = _ := f114 _ _ miss (hp i h2)
  have hll := lnk_len (S.getD i []) (S.getD (i + 1) []) miss (hp i h2)
  have ew : w64 (((i + 1 : Nat) : Int) - 1) = (i : Int) := by rw [w64_in (by omega)]; omega
  refine RtraO_0b_of _ _ _ _ _ _ _ ?_
  unfold BtraO_0b
  rw [bif_pos (by omega), ew, bif_pos (by omega)]
  simp only [Int.toNat_natCast, Nat.mul_one, listS_get h1, bindO_val]
  rw [bif_pos (by omega)]
  simp only [listS_get h2, bindO_val]
  rw [hl]
  simp only [bindO_val]
  rw [bif_pos ⟨trivial, by unfold big; omega⟩, w64_in (by omega)]
  rw [linkN_app S miss i 0, encM_snoc, Nat.zero_add, hll] at ih
  exact_mod_cast ih
theorem traO_0 (S : List (List Z3)) (miss : Int) (hS : S.length ≤ 1000) (hp : PairOK S) : LtraO_0 (TtraO_0a S.length (encS S) miss) = some (if S.length ≤ 1 then Sum.inl (S.length, encS S) else Sum.inr (S.length, encS S, S.length - 1, encM (linksL S miss), S.length - 1)) := by
 by_cases h1 : S.length ≤ 1
 ·rw [if_pos h1]
  refine LtraO_0a_of (RtraO_0a_of _ _ _ ?_)
  unfold BtraO_0a
  rw [bif_neg (by omega)]
  rfl
 ·rw [if_neg h1]
  refine LtraO_0b_of (RtraO_0a_of _ _ _ ?_)
  have g0 : 0 < S.length := by omega
  have g1 : 0 + 1 < S.length := by omega
  have hl : Fn env 66 _ [.list (S.getD 0 []).length (encT (S.getD 0 [])), .list (S.getD (0 + 1) []).length (encT (S.getD (0 + 1) [])), .int .i64 miss] = _ := f114 _ _ miss (hp 0 g1)
  have hll := lnk_len (S.getD 0 []) (S.getD (0 + 1) []) miss (hp 0 g1)
  have ih := traO_0b S miss hS hp (S.length - 2) 1 (by omega)
  have e1 : encM (linkN S miss 1 0) = [PV.list (S.getD 0 []).length (encI (lnk (S.getD 0 []) (S.getD (0 + 1) []) miss))] := by
   show [PV.list _ _] = _
   rw [hll]
  rw [e1] at ih
  have ew : w64 ((1 : Int) - 1) = 0 := w64_in (by omega)
  have x0 : listC (encS S)[0]? = _ := listS_get g0
  have x1 : listC (encS S)[1]? = _ := listS_get g1
  unfold BtraO_0a
  rw [bif_pos (by omega), ew, bif_pos (by omega)]
  simp only [x0, bindO_val]
  rw [bif_pos (by omega)]
  simp only [x1, bindO_val]
  rw [hl]
  simp only [bindO_val]
  exact ih
theorem linkN_get (S : List (List Z3)) (miss : Int) : ∀ (m t s : Nat), s < m → (linkN S miss m t).getD s [] = lnk (S.getD (t + s) []) (S.getD (t + s + 1) []) miss
 | 0, _, s, h => by omega
 | m + 1, t, 0, _ => rfl
 | m + 1, t, s + 1, h => by
  have := linkN_get S miss m (t + 1) s (by omega)
  unfold linkN
  rw [show t + 1 + s = t + (s + 1) by omega] at this
  rw [List.getD_cons_succ]
  exact this
theorem links_ok (S : List (List Z3)) (miss : Int) (hp : PairOK S) : LinksOK (linksL S miss) := by
 intro s hs x hx
 unfold linksL at hs hx ⊢
 rw [linkN_len] at hs
 rw [linkN_get S miss _ 0 s (by omega), Nat.zero_add] at hx
 rw [linkN_get S miss _ 0 (s + 1) (by omega), Nat.zero_add, lnk_len _ _ _ (hp (s + 1) (by omega))]
 exact (lnk_mem (hp s (by omega)) x hx).2
end Gv

/- The tracks of all scans. -/
namespace Gv
open Go
set_option maxRecDepth 100000
def encTT (T : List (List ZZ)) : List PV := T.map fun tr => .list tr.length (encG tr)
theorem encTT_snoc (T : List (List ZZ)) (tr : List ZZ) : encTT (T ++ [tr]) = encTT T ++ [PV.list tr.length (encG tr)] := by simp [encTT]
def startC (Ls : List (List Int)) (t k : Nat) : Bool := decide (t = 0) || !((Ls.getD (t - 1) []).contains (k : Int))
def rowT (Ls : List (List Int)) (t : Nat) : Nat → Nat → List (List ZZ)
 | 0, _ => []
 | m + 1, k => if startC Ls t k = true then trackV Ls t (k : Int) :: rowT Ls t m (k + 1) else rowT Ls t m (k + 1)
theorem rowT_len (Ls : List (List Int)) (t : Nat) : ∀ (m k : Nat), (rowT Ls t m k).length ≤ m
 | 0, _ => by simp [rowT]
 | m + 1, k => by
  have := rowT_len Ls t m (k + 1)
  unfold rowT
  split <;> simp <;> omega
section
variable (Ls : List (List Int)) (hL : Ls.length ≤ 1000) (ok : LinksOK Ls) (hr : ∀ r ∈ Ls, r.length ≤ 1000) (n5 : Nat) (c6 : List PV) (i7 : Int) (t len : Nat) (ht : t ≤ Ls.length) (hk : t < Ls.length → len = (Ls.getD t []).length) (hl : len ≤ 1000)
include hL ok hr ht hk hl
theorem traO_4d : ∀ (m k : Nat) (T : List (List ZZ)), k + m = len → T.length + m ≤ 100000 →
  RtraO_4 (TtraO_4d Ls.length (encM Ls) T.length (encTT T) t n5 c6 i7 t len k Ls.length T.length) = exO (XtraO_4d (Ls.length, encM Ls, (T ++ rowT Ls t m k).length, encTT (T ++ rowT Ls t m k), n5, c6, i7, t, Ls.length, (T ++ rowT Ls t m k).length))
 | 0, k, T, h, hT => by
  refine RtraO_4d_of _ _ _ _ _ _ _ _ _ _ _ _ _ ?_
  unfold BtraO_4d rowT
  rw [bif_neg (by omega), List.append_nil]
  rfl
 | m + 1, k, T, h, hT => by
  have hf : Fn env 73 _ [.list Ls.length (encM Ls), .int .i64 (t : Int), .int .i64 (k : Int)] = _ := traF_is Ls hL ok t k ht fun h => by have := hk h; omega
  have ew : w64 ((k : Int) + 1) = ((k + 1 : Nat) : Int) := by rw [w64_in (by omega)]; omega
  have ihA := traO_4d m (k + 1) (T ++ [trackV Ls t k]) (by omega) (by simp; omega)
  rw [encTT_snoc, List.append_assoc, List.singleton_append, List.length_append, List.length_singleton] at ihA
  have ihB := traO_4d m (k + 1) T (by omega) (by omega)
  refine RtraO_4d_of _ _ _ _ _ _ _ _ _ _ _ _ _ ?_
  unfold BtraO_4d rowT
  rw [bif_pos (by omega)]
  by_cases h0 : t = 0
  ·have e : ((t : Int) == 0) = true := by simp [h0]
   have hs : startC Ls t k = true := by simp [startC, h0]
   rw [e, cond_true, hf, if_pos hs]
   simp only [bindO_val, ew]
   rw [bif_pos ⟨trivial, by unfold big; omega⟩]
   exact ihA
  ·have e : ((t : Int) == 0) = false := by rw [beq_eq_false_iff_ne]; omega
   have et : w64 ((t : Int) - 1) = ((t - 1 : Nat) : Int) := by rw [w64_in (by omega)]; omega
   have hlt : t - 1 < Ls.length := by omega
   have hc : Fn env 72 _ [.list (Ls.getD (t - 1) []).length (encI (Ls.getD (t - 1) [])), .int .i64 (k : Int)] = _ := sCon_is (Ls.getD (t - 1) []) (hr _ (getD_memM hlt)) (k : Int)
   rw [e, cond_false, et, bif_pos (by omega)]
   simp only [Int.toNat_natCast, Nat.mul_one, listM_get hlt, bindO_val]
   rw [hc]
   simp only [bindO_val, ew]
   cases hcc : (Ls.getD (t - 1) []).contains (k : Int) with
   | true =>
    have hs : ¬ startC Ls t k = true := by unfold startC; rw [hcc]; simp [h0]
    rw [cond_true, if_neg hs]
    exact ihB
   | false =>
    have hs : startC Ls t k = true := by unfold startC; rw [hcc]; simp
    rw [cond_false, if_pos hs, hf]
    simp only [bindO_val]
    rw [bif_pos ⟨trivial, by unfold big; omega⟩]
    exact ihA
theorem traO_4c : ∀ (m k : Nat), k + m = len →
  RtraO_4 (TtraO_4c Ls.length (encM Ls) t n5 c6 i7 t len k Ls.length) = if rowT Ls t m k = [] then exO (XtraO_4c (Ls.length, encM Ls, n5, c6, i7, t, Ls.length)) else exO (XtraO_4d (Ls.length, encM Ls, (rowT Ls t m k).length, encTT (rowT Ls t m k), n5, c6, i7, t, Ls.length, (rowT Ls t m k).length))
 | 0, k, h => by
  refine RtraO_4c_of _ _ _ _ _ _ _ _ _ _ ?_
  unfold BtraO_4c
  rw [bif_neg (by omega)]
  rfl
 | m + 1, k, h => by
  have hf : Fn env 73 _ [.list Ls.length (encM Ls), .int .i64 (t : Int), .int .i64 (k : Int)] = _ := traF_is Ls hL ok t k ht fun h => by have := hk h; omega
  have ew : w64 ((k : Int) + 1) = ((k + 1 : Nat) : Int) := by rw [w64_in (by omega)]; omega
  have ihA := traO_4d Ls hL ok hr n5 c6 i7 t len ht hk hl m (k + 1) [trackV Ls t k] (by omega) (by simp; omega)
  have ihB := traO_4c m (k + 1) (by omega)
  rw [List.singleton_append] at ihA
  have hs : BtraO_4c (Fn env) RtraO_4 exO LtraO_0 LtraO_2 LtraO_4 LtraO_1490000000 LtraO_1580000000 Ls.length (encM Ls) t n5 c6 i7 t len k Ls.length = if startC Ls t k = true then RtraO_4 (TtraO_4d Ls.length (encM Ls) [trackV Ls t k].length (encTT [trackV Ls t k]) t n5 c6 i7 t len ((k + 1 : Nat) : Int) Ls.length [trackV Ls t k].length) else RtraO_4 (TtraO_4c Ls.length (encM Ls) t n5 c6 i7 t len ((k + 1 : Nat) : Int) Ls.length) := by
   unfold BtraO_4c
   rw [bif_pos (by omega)]
   by_cases h0 : t = 0
   ·have e : ((t : Int) == 0) = true := by simp [h0]
    have hs : startC Ls t k = true := by simp [startC, h0]
    rw [e, cond_true, hf, if_pos hs]
    simp only [bindO_val, ew]
    rfl
   ·have e : ((t : Int) == 0) = false := by rw [beq_eq_false_iff_ne]; omega
    have et : w64 ((t : Int) - 1) = ((t - 1 : Nat) : Int) := by rw [w64_in (by omega)]; omega
    have hlt : t - 1 < Ls.length := by omega
    have hc : Fn env 72 _ [.list (Ls.getD (t - 1) []).length (encI (Ls.getD (t - 1) [])), .int .i64 (k : Int)] = _ := sCon_is (Ls.getD (t - 1) []) (hr _ (getD_memM hlt)) (k : Int)
    rw [e, cond_false, et, bif_pos (by omega)]
    simp only [Int.toNat_natCast, Nat.mul_one, listM_get hlt, bindO_val]
    rw [hc]
    simp only [bindO_val, ew]
    cases hcc : (Ls.getD (t - 1) []).contains (k : Int) with
    | true =>
     have hs : ¬ startC Ls t k = true := by unfold startC; rw [hcc]; simp [h0]
     rw [cond_true, if_neg hs]
    | false =>
     have hs : startC Ls t k = true := by unfold startC; rw [hcc]; simp
     rw [cond_false, if_pos hs, hf]
     rfl
  by_cases hst : startC Ls t k = true
  ·have e : rowT Ls t (m + 1) k = trackV Ls t k :: rowT Ls t m (k + 1) := if_pos hst
   rw [if_pos hst, ihA] at hs
   rw [e, if_neg (by simp)]
   exact RtraO_4c_of _ _ _ _ _ _ _ _ _ _ hs
  ·have e : rowT Ls t (m + 1) k = rowT Ls t m (k + 1) := if_neg hst
   rw [if_neg hst, ihB] at hs
   rw [e]
   split at hs
   ·rename_i hn
    rw [if_pos hn]
    exact RtraO_4c_of _ _ _ _ _ _ _ _ _ _ hs
   ·rename_i hn
    rw [if_neg hn]
    exact RtraO_4c_of _ _ _ _ _ _ _ _ _ _ hs
end
end Gv

/- The tracks of two scans or more. -/
namespace Gv
open Go
set_option maxRecDepth 100000
def allT (Ls : List (List Int)) (S : List (List Z3)) : Nat → Nat → List (List ZZ)
 | 0, _ => []
 | m + 1, t => rowT Ls t (S.getD t []).length 0 ++ allT Ls S m (t + 1)
section
variable (Ls : List (List Int)) (hL : Ls.length ≤ 1000) (ok : LinksOK Ls) (hr : ∀ r ∈ Ls, r.length ≤ 1000) (S : List (List Z3)) (hS : S.length = Ls.length + 1) (hk : ∀ t, t < Ls.length → (S.getD t []).length = (Ls.getD t []).length) (hl : ∀ t, (S.getD t []).length ≤ 5)
include hL ok hr hS hk hl
theorem traO_2d : ∀ (m t : Nat) (T : List (List ZZ)), t + m = S.length → T.length ≤ 5 * t →
  RtraO_2 (TtraO_2d Ls.length (encM Ls) T.length (encTT T) S.length (encS S) S.length t Ls.length T.length) = exO (XtraO_2d ((T ++ allT Ls S m t).length, encTT (T ++ allT Ls S m t), Ls.length, (T ++ allT Ls S m t).length))
 | 0, t, T, h, _ => by
  refine RtraO_2d_of _ _ _ _ _ _ _ _ _ _ ?_
  unfold BtraO_2d allT
  rw [bif_neg (by omega), List.append_nil]
  rfl
 | m + 1, t, T, h, hT => by
  have ht : t < S.length := by omega
  have hlt := hl t
  have hrl := rowT_len Ls t (S.getD t []).length 0
  have h4 := LtraO_4d_of (traO_4d Ls hL ok hr S.length (encS S) S.length t (S.getD t []).length (by omega) (hk t) (by omega) (S.getD t []).length 0 T (by omega) (by omega))
  have h4 : LtraO_4 (TtraO_4d Ls.length (encM Ls) T.length (encTT T) t S.length (encS S) S.length t (S.getD t []).length 0 Ls.length T.length) = _ := h4
  have ih := traO_2d m (t + 1) (T ++ rowT Ls t (S.getD t []).length 0) (by omega) (by rw [List.length_append]; omega)
  refine RtraO_2d_of _ _ _ _ _ _ _ _ _ _ ?_
  unfold BtraO_2d
  rw [bif_pos (by omega), bif_pos (by omega)]
  simp only [Int.toNat_natCast, Nat.mul_one, listS_get ht, bindO_val]
  rw [h4]
  simp only [bindO_val, Sum.elim_inr]
  have ew : w64 ((t : Int) + 1) = ((t + 1 : Nat) : Int) := by rw [w64_in (by omega)]; omega
  rw [ew]
  unfold allT
  rw [← List.append_assoc]
  exact ih
theorem traO_2b : ∀ (m t : Nat), t + m = S.length →
  RtraO_2 (TtraO_2b Ls.length (encM Ls) S.length (encS S) S.length t Ls.length) = if allT Ls S m t = [] then exO (XtraO_2b Ls.length) else exO (XtraO_2d ((allT Ls S m t).length, encTT (allT Ls S m t), Ls.length, (allT Ls S m t).length))
 | 0, t, h => by
  refine RtraO_2b_of _ _ _ _ _ _ _ ?_
  unfold BtraO_2b
  rw [bif_neg (by omega)]
  rfl
 | m + 1, t, h => by
  have ht : t < S.length := by omega
  have hlt := hl t
  have hrl := rowT_len Ls t (S.getD t []).length 0
  have h4 := traO_4c Ls hL ok hr S.length (encS S) S.length t (S.getD t []).length (by omega) (hk t) (by omega) (S.getD t []).length 0 (by omega)
  have ihA := traO_2d Ls hL ok hr S hS hk hl m (t + 1) (rowT Ls t (S.getD t []).length 0) (by omega) (by omega)
  have ihB := traO_2b m (t + 1) (by omega)
  have ew : w64 ((t : Int) + 1) = ((t + 1 : Nat) : Int) := by rw [w64_in (by omega)]; omega
  have hs : BtraO_2b (Fn env) RtraO_2 exO LtraO_0 LtraO_2 LtraO_4 LtraO_1490000000 LtraO_1580000000 Ls.length (encM Ls) S.length (encS S) S.length t Ls.length = if rowT Ls t (S.getD t []).length 0 = [] then RtraO_2 (TtraO_2b Ls.length (encM Ls) S.length (encS S) S.length ((t + 1 : Nat) : Int) Ls.length) else RtraO_2 (TtraO_2d Ls.length (encM Ls) (rowT Ls t (S.getD t []).length 0).length (encTT (rowT Ls t (S.getD t []).length 0)) S.length (encS S) S.length ((t + 1 : Nat) : Int) Ls.length (rowT Ls t (S.getD t []).length 0).length) := by
   unfold BtraO_2b
   rw [bif_pos (by omega), bif_pos (by omega)]
   simp only [Int.toNat_natCast, Nat.mul_one, listS_get ht, bindO_val]
   by_cases hn : rowT Ls t (S.getD t []).length 0 = []
   ·rw [if_pos hn] at h4 ⊢
    have h4 := LtraO_4c_of h4
    have h4 : LtraO_4 (TtraO_4c Ls.length (encM Ls) t S.length (encS S) S.length t (S.getD t []).length 0 Ls.length) = _ := h4
    rw [h4]
    simp only [bindO_val, Sum.elim_inr, Sum.elim_inl, ew]
   ·rw [if_neg hn] at h4 ⊢
    have h4 := LtraO_4d_of h4
    have h4 : LtraO_4 (TtraO_4c Ls.length (encM Ls) t S.length (encS S) S.length t (S.getD t []).length 0 Ls.length) = _ := h4
    rw [h4]
    simp only [bindO_val, Sum.elim_inr, ew]
  by_cases hn : rowT Ls t (S.getD t []).length 0 = []
  ·have e : allT Ls S (m + 1) t = allT Ls S m (t + 1) := by
    show rowT Ls t _ 0 ++ allT Ls S m (t + 1) = _
    rw [hn, List.nil_append]
   rw [if_pos hn, ihB] at hs
   rw [e]
   split at hs
   ·rename_i h0
    rw [if_pos h0]
    exact RtraO_2b_of _ _ _ _ _ _ _ hs
   ·rename_i h0
    rw [if_neg h0]
    exact RtraO_2b_of _ _ _ _ _ _ _ hs
  ·have e : allT Ls S (m + 1) t = rowT Ls t (S.getD t []).length 0 ++ allT Ls S m (t + 1) := rfl
   rw [if_neg hn, ihA] at hs
   rw [e, if_neg (by intro h; exact hn (List.append_eq_nil_iff.1 h).1)]
   exact RtraO_2b_of _ _ _ _ _ _ _ hs
end
end Gv

/- TracksOf. -/
namespace Gv
open Go
set_option maxRecDepth 100000
theorem cosE_is (x : Int) : FcosE [.int .i64 x] = some (rangeE x 0 10000000) := by
 refine FcosE_of _ ?_
 unfold tcosE
 have h : Fn env 84 _ [.int .i64 x, .int .i64 0, .int .i64 10000000] = _ := rE_is x 0 10000000
 rw [h]
 rfl
theorem traO_sca (l : List Z3) (hl : l.length ≤ 1000) : ∀ (m k : Nat), k + m = l.length → ∃ j : Int, RtraO_1580000000 (TtraO_1580000000a l.length (encT l) l.length k) = if scaF (l.drop k) = 0 then exO (XtraO_1580000000b ()) else exO (XtraO_1580000000a (j, scaF (l.drop k)))
 | 0, k, h => by
  refine ⟨0, ?_⟩
  rw [List.drop_of_length_le (by omega)]
  refine RtraO_1580000000a_of _ _ _ _ ?_
  unfold BtraO_1580000000a
  rw [bif_neg (by omega)]
  rfl
 | m + 1, k, h => by
  obtain ⟨j, ih⟩ := traO_sca l hl m (k + 1) (by omega)
  have hk : k < l.length := by omega
  obtain ⟨v, hv, hd⟩ := drop_getZ hk
  have g0 := encT_0 l k
  have g1 := encT_1 l k
  have g2 := encT_2 l k
  rw [hv] at g0 g1 g2
  simp only [Option.map_some] at g0 g1 g2
  have h1 : Fn env 76 (RSh.one (CK.int .i64)) [.agg [.int .i64 v.1, .int .i64 v.2.1]] = _ := posE_is v.1 v.2.1
  have h2 : Fn env 84 (RSh.one (CK.int .i64)) [.int .i64 v.2.2, .int .i64 (-10000), .int .i64 10000] = _ := rE_is v.2.2 (-10000) 10000
  have e : both (poiV v.1 v.2.1) (rangeE v.2.2 (-10000) 10000) = vorV v := by
   unfold both poiV vorV
   rw [rangeE_if]
   by_cases a : (-1000 ≤ v.1 ∧ v.1 ≤ 1000) ∧ (0 ≤ v.2.1 ∧ v.2.1 ≤ 1000) <;> by_cases b : -10000 ≤ v.2.2 ∧ v.2.2 ≤ 10000 <;> simp [a, b]
  have hs : BtraO_1580000000a (Fn env) RtraO_1580000000 exO LtraO_0 LtraO_2 LtraO_4 LtraO_1490000000 LtraO_1580000000 l.length (encT l) l.length k = if vorV v = 0 then RtraO_1580000000 (TtraO_1580000000a l.length (encT l) l.length ((k + 1 : Nat) : Int)) else exO (XtraO_1580000000a ((k : Int), vorV v)) := by
   unfold BtraO_1580000000a
   rw [bif_pos (by omega), bif_pos (by omega)]
   simp only [Int.toNat_natCast, g0, g1, g2, intC_int, bindO_val]
   rw [h1, h2]
   simp only [bindO_val, fE2_is, e, bif_ne]
   rw [w64_in (by omega)]
   rfl
  rw [hd]
  by_cases hz : vorV v = 0
  ·rw [if_pos hz, ih] at hs
   have e2 : scaF (v :: l.drop (k + 1)) = scaF (l.drop (k + 1)) := if_pos hz
   rw [e2]
   refine ⟨j, ?_⟩
   split at hs
   ·rename_i hn
    rw [if_pos hn]
    exact RtraO_1580000000a_of _ _ _ _ hs
   ·rename_i hn
    rw [if_neg hn]
    exact RtraO_1580000000a_of _ _ _ _ hs
  ·rw [if_neg hz] at hs
   have e2 : scaF (v :: l.drop (k + 1)) = vorV v := if_neg hz
   rw [e2]
   refine ⟨k, ?_⟩
   rw [if_neg hz]
   exact RtraO_1580000000a_of _ _ _ _ hs
def scsF : List (List Z3) → Int
 | [] => 0
 | l :: S => if scaV l = 0 then scsF S else scaV l
def scsV (S : List (List Z3)) : Int := if 6 < S.length then 8 else scsF S
theorem drop_getS {r : List (List Z3)} {i : Nat} (h : i < r.length) : r.drop i = r.getD i [] :: r.drop (i + 1) := by
 rw [List.drop_eq_getElem_cons h]
 simp [List.getD, List.getElem?_eq_getElem h]
theorem traO_scs (S : List (List Z3)) (hS : S.length ≤ 1000) : ∀ (m i : Nat), i + m = S.length → ∃ j : Int, RtraO_1490000000 (TtraO_1490000000a S.length (encS S) S.length i) = if scsF (S.drop i) = 0 then exO (XtraO_1490000000b ()) else exO (XtraO_1490000000a (j, scsF (S.drop i)))
 | 0, i, h => by
  refine ⟨0, ?_⟩
  rw [List.drop_of_length_le (by omega)]
  refine RtraO_1490000000a_of _ _ _ _ ?_
  unfold BtraO_1490000000a
  rw [bif_neg (by omega)]
  rfl
 | m + 1, i, h => by
  obtain ⟨j, ih⟩ := traO_scs S hS m (i + 1) (by omega)
  have hi : i < S.length := by omega
  have ew : w64 ((i : Int) + 1) = ((i + 1 : Nat) : Int) := by rw [w64_in (by omega)]; omega
  have hs : BtraO_1490000000a (Fn env) RtraO_1490000000 exO LtraO_0 LtraO_2 LtraO_4 LtraO_1490000000 LtraO_1580000000 S.length (encS S) S.length i = if scaV (S.getD i []) = 0 then RtraO_1490000000 (TtraO_1490000000a S.length (encS S) S.length ((i + 1 : Nat) : Int)) else exO (XtraO_1490000000a ((i : Int), scaV (S.getD i []))) := by
   unfold BtraO_1490000000a scaV
   rw [bif_pos (by omega), bif_pos (by omega)]
   simp only [Int.toNat_natCast, Nat.mul_one, listS_get hi, bindO_val]
   by_cases h3 : 3 < (S.getD i []).length
   ·rw [bif_pos (by omega), if_pos h3, if_neg (by decide)]
   ·obtain ⟨j2, h2⟩ := traO_sca (S.getD i []) (by omega) (S.getD i []).length 0 (by omega)
    rw [List.drop_zero] at h2
    have h2 : RtraO_1580000000 (TtraO_1580000000a (S.getD i []).length (encT (S.getD i [])) (S.getD i []).length 0) = _ := h2
    rw [bif_neg (by omega), if_neg h3]
    by_cases hz : scaF (S.getD i []) = 0
    ·rw [if_pos hz] at h2 ⊢
     rw [LtraO_1580000000b_of h2]
     simp only [bindO_val, Sum.elim_inr, ew]
    ·rw [if_neg hz] at h2 ⊢
     rw [LtraO_1580000000a_of h2]
     simp only [bindO_val, Sum.elim_inl, bif_ne]
     rw [if_neg hz]
  rw [drop_getS hi]
  by_cases hz : scaV (S.getD i []) = 0
  ·have e : scsF (S.getD i [] :: S.drop (i + 1)) = scsF (S.drop (i + 1)) := if_pos hz
   rw [if_pos hz, ih] at hs
   rw [e]
   refine ⟨j, ?_⟩
   split at hs
   ·rename_i hn
    rw [if_pos hn]
    exact RtraO_1490000000a_of _ _ _ _ hs
   ·rename_i hn
    rw [if_neg hn]
    exact RtraO_1490000000a_of _ _ _ _ hs
  ·have e : scsF (S.getD i [] :: S.drop (i + 1)) = scaV (S.getD i []) := if_neg hz
   rw [if_neg hz] at hs
   rw [e]
   refine ⟨i, ?_⟩
   rw [if_neg hz]
   exact RtraO_1490000000a_of _ _ _ _ hs
theorem traO_4b (n3 : Nat) (c4 : List PV) (i5 : Int) (len : Nat) (hl : len ≤ 1000) : ∀ (m k : Nat) (T : List (List ZZ)), k + m = len → T.length + m ≤ 100000 →
  RtraO_4 (TtraO_4b T.length (encTT T) 0 n3 c4 i5 0 len k T.length) = exO (XtraO_4b ((T ++ rowT [] 0 m k).length, encTT (T ++ rowT [] 0 m k), n3, c4, i5, 0, (T ++ rowT [] 0 m k).length))
 | 0, k, T, h, hT => by
  refine RtraO_4b_of _ _ _ _ _ _ _ _ _ _ ?_
  unfold BtraO_4b rowT
  rw [bif_neg (by omega), List.append_nil]
  rfl
 | m + 1, k, T, h, hT => by
  have hf : Fn env 73 (RSh.one CK.list) [.list 0 [], .int .i64 0, .int .i64 (k : Int)] = some ((trackV [] 0 (k : Int)).length, encG (trackV [] 0 (k : Int))) := traF_is [] (by simp) (fun s h => by simp at h) 0 k (by simp) (fun h => by simp at h)
  have ew : w64 ((k : Int) + 1) = ((k + 1 : Nat) : Int) := by rw [w64_in (by omega)]; omega
  have ih := traO_4b n3 c4 i5 len hl m (k + 1) (T ++ [trackV [] 0 k]) (by omega) (by simp; omega)
  rw [encTT_snoc, List.append_assoc, List.singleton_append, List.length_append, List.length_singleton] at ih
  have e : rowT [] 0 (m + 1) k = trackV [] 0 (k : Int) :: rowT [] 0 m (k + 1) := if_pos (by simp [startC])
  refine RtraO_4b_of _ _ _ _ _ _ _ _ _ _ ?_
  unfold BtraO_4b
  rw [bif_pos (by omega), beq_self_eq_true, cond_true, hf]
  simp only [bindO_val, ew]
  rw [bif_pos ⟨trivial, by unfold big; omega⟩, e]
  exact ih
theorem traO_one (l : List Z3) (hl : l.length ≤ 5) : LtraO_2 (TtraO_2a 1 (encS [l]) 1 0) = some (if allT [] [l] 1 0 = [] then Sum.inl () else Sum.inr (Sum.inr (Sum.inl ((allT [] [l] 1 0).length, encTT (allT [] [l] 1 0), (allT [] [l] 1 0).length)))) := by
 have ea : allT [] [l] 1 0 = rowT [] 0 l.length 0 := by
  show rowT [] 0 l.length 0 ++ [] = _
  rw [List.append_nil]
 have hg : listC (encS [l])[0]? = some (l.length, encT l) := rfl
 have ew : w64 ((0 : Int) + 1) = 1 := w64_in (by omega)
 rw [ea]
 by_cases h0 : l.length = 0
 ·have e : rowT [] 0 l.length 0 = [] := by rw [h0]; rfl
  rw [if_pos e]
  refine LtraO_2a_of (RtraO_2a_of _ _ _ _ ?_)
  have h4 : LtraO_4 (TtraO_4a 0 1 (encS [l]) 1 0 (l.length : Int)) = _ := LtraO_4a_of (y := (1, encS [l], 1, 0)) (RtraO_4a_of _ _ _ _ _ _ (by unfold BtraO_4a; rw [bif_neg (by omega)]; rfl))
  have h5 : RtraO_2 (TtraO_2a 1 (encS [l]) 1 1) = exO (XtraO_2a ()) := RtraO_2a_of _ _ _ _ (by unfold BtraO_2a; rw [bif_neg (by omega)]; rfl)
  unfold BtraO_2a
  rw [bif_pos (by omega), bif_pos (by omega)]
  simp only [Int.toNat_zero, Nat.zero_mul, hg, bindO_val]
  rw [h4]
  simp only [bindO_val, Sum.elim_inl, ew]
  exact h5
 ·obtain ⟨m, hm⟩ : ∃ m, l.length = m + 1 := ⟨l.length - 1, by omega⟩
  have e : rowT [] 0 l.length 0 = trackV [] 0 (0 : Int) :: rowT [] 0 m 1 := by rw [hm]; exact if_pos (by simp [startC])
  have hne : ¬ rowT [] 0 l.length 0 = [] := by rw [e]; simp
  rw [if_neg hne]
  have hf : Fn env 73 (RSh.one CK.list) [.list 0 [], .int .i64 0, .int .i64 0] = some ((trackV [] 0 (0 : Int)).length, encG (trackV [] 0 (0 : Int))) := traF_is [] (by simp) (fun s h => by simp at h) 0 0 (by simp) (fun h => by simp at h)
  have h4b := traO_4b 1 (encS [l]) 1 l.length (by omega) m 1 [trackV [] 0 0] (by omega) (by simp; omega)
  rw [List.singleton_append, ← e] at h4b
  have h4 : LtraO_4 (TtraO_4a 0 1 (encS [l]) 1 0 (l.length : Int)) = _ := LtraO_4b_of (RtraO_4a_of _ _ _ _ _ _ (by
   unfold BtraO_4a
   rw [bif_pos (by omega), beq_self_eq_true, cond_true, hf]
   simp only [bindO_val]
   exact h4b))
  have h5 : RtraO_2 (TtraO_2c (rowT [] 0 l.length 0).length (encTT (rowT [] 0 l.length 0)) 1 (encS [l]) 1 1 (rowT [] 0 l.length 0).length) = exO (XtraO_2c ((rowT [] 0 l.length 0).length, encTT (rowT [] 0 l.length 0), (rowT [] 0 l.length 0).length)) := RtraO_2c_of _ _ _ _ _ _ _ (by unfold BtraO_2c; rw [bif_neg (by omega)]; rfl)
  refine LtraO_2c_of (RtraO_2a_of _ _ _ _ ?_)
  unfold BtraO_2a
  rw [bif_pos (by omega), bif_pos (by omega)]
  simp only [Int.toNat_zero, Nat.zero_mul, hg, bindO_val]
  rw [h4]
  simp only [bindO_val, Sum.elim_inl, Sum.elim_inr, ew]
  exact h5
end Gv

/- TracksOf: the tracks of all scans, by their links. -/
namespace Gv
open Go
set_option maxRecDepth 100000
def tracksV (S : List (List Z3)) (miss : Int) : List (List ZZ) := allT (linksL S miss) S S.length 0
theorem linksL_len (S : List (List Z3)) (miss : Int) : (linksL S miss).length = S.length - 1 := by unfold linksL; rw [linkN_len]
theorem linksL_row {S : List (List Z3)} {miss : Int} (hp : PairOK S) {t : Nat} (h : t < (linksL S miss).length) : ((linksL S miss).getD t []).length = (S.getD t []).length := by
 rw [linksL_len] at h
 unfold linksL
 rw [linkN_get S miss _ 0 t (by omega), Nat.zero_add, lnk_len _ _ _ (hp t (by omega))]
theorem traO_loops (S : List (List Z3)) (miss : Int) (hS : S.length ≤ 6) (hp : PairOK S) (hl : ∀ t, (S.getD t []).length ≤ 5) (K : Option ((Nat × List PV) × Int)) :
  (bindO (LtraO_0 (TtraO_0a S.length (encS S) miss)) fun z => Sum.elim (fun (y2 : Nat × List PV) => bindO (LtraO_2 (TtraO_2a y2.1 y2.2 (y2.1 : Int) 0)) fun z => Sum.elim (fun _ => some ((0, []), 0)) (fun z0 => Sum.elim (fun _ => some ((0, []), 0)) (fun z1 => Sum.elim (fun (y5 : Nat × List PV × Nat) => some ((y5.1, y5.2.1), 0)) (fun (y6 : Nat × List PV × Nat × Nat) => some ((y6.1, y6.2.1), 0)) z1) z0) z)
   (fun (y7 : Nat × List PV × Nat × List PV × Nat) => bindO (LtraO_2 (TtraO_2b y7.2.2.1 y7.2.2.2.1 y7.1 y7.2.1 (y7.1 : Int) 0 y7.2.2.2.2)) fun z => Sum.elim (fun _ => some ((0, []), 0)) (fun z0 => Sum.elim (fun _ => some ((0, []), 0)) (fun z1 => Sum.elim (fun (y5 : Nat × List PV × Nat) => some ((y5.1, y5.2.1), 0)) (fun (y6 : Nat × List PV × Nat × Nat) => some ((y6.1, y6.2.1), 0)) z1) z0) z) z) = some (((tracksV S miss).length, encTT (tracksV S miss)), (0 : Int)) := by
 rw [traO_0 S miss (by omega) hp]
 by_cases h1 : S.length ≤ 1
 ·rw [if_pos h1]
  simp only [bindO_val, Sum.elim_inl]
  match S, h1 with
  | [], _ =>
   have h5 : LtraO_2 (TtraO_2a 0 (encS []) 0 0) = some (Sum.inl ()) := LtraO_2a_of (RtraO_2a_of _ _ _ _ (by unfold BtraO_2a; rw [bif_neg (by omega)]; rfl))
   have h5 : LtraO_2 (TtraO_2a ([] : List (List Z3)).length (encS []) (([] : List (List Z3)).length : Int) 0) = _ := h5
   rw [h5]
   rfl
  | [l], _ =>
   have hll : l.length ≤ 5 := hl 0
   have e : tracksV [l] miss = allT [] [l] 1 0 := rfl
   have h5 := traO_one l hll
   have h5 : LtraO_2 (TtraO_2a [l].length (encS [l]) ([l].length : Int) 0) = _ := h5
   rw [h5, e]
   by_cases hn : allT [] [l] 1 0 = []
   ·rw [if_pos hn, hn]
    rfl
   ·rw [if_neg hn]
    rfl
 ·rw [if_neg h1]
  simp only [bindO_val, Sum.elim_inr]
  have hlen := linksL_len S miss
  have h2 := traO_2b (linksL S miss) (by omega) (links_ok S miss hp) (fun r hr => by
   obtain ⟨i, hi, rfl⟩ := List.getElem_of_mem hr
   have := linksL_row (miss := miss) hp hi
   have h5 := hl i
   have e : (linksL S miss).getD i [] = (linksL S miss)[i] := by simp [List.getD, List.getElem?_eq_getElem hi]
   rw [e] at this
   omega) S (by omega) (fun t ht => (linksL_row hp ht).symm) hl S.length 0 (by omega)
  have h2 : RtraO_2 (TtraO_2b (linksL S miss).length (encM (linksL S miss)) S.length (encS S) S.length 0 (linksL S miss).length) = _ := h2
  rw [hlen] at h2
  by_cases hn : allT (linksL S miss) S S.length 0 = []
  ·rw [if_pos hn] at h2
   rw [LtraO_2b_of h2]
   unfold tracksV
   rw [hn]
   rfl
  ·rw [if_neg hn] at h2
   rw [LtraO_2d_of h2]
   rfl
theorem traO_is (S : List (List Z3)) (miss : Int) (hv : scsV S = 0) (hm : 0 ≤ miss ∧ miss ≤ 10000000) (hp : PairOK S) (hl : ∀ t, (S.getD t []).length ≤ 5) : FtraO [.list S.length (encS S), .int .i64 miss] = some (((tracksV S miss).length, encTT (tracksV S miss)), 0) := by
 have h6 : ¬ 6 < S.length := fun h => by
  unfold scsV at hv
  rw [if_pos h] at hv
  cases hv
 have hf : scsF S = 0 := by
  unfold scsV at hv
  rwa [if_neg h6] at hv
 refine FtraO_of _ _ _ ?_
 unfold ttraO
 obtain ⟨j, h0⟩ := traO_scs S (by omega) S.length 0 (by omega)
 rw [List.drop_zero, if_pos hf] at h0
 have h0 : RtraO_1490000000 (TtraO_1490000000a S.length (encS S) S.length 0) = _ := h0
 have hc : Fn env 71 _ [.int .i64 miss] = _ := cosE_is miss
 rw [bif_neg (by omega), LtraO_1490000000b_of h0]
 simp only [bindO_val, Sum.elim_inr]
 rw [hc]
 simp only [bindO_val, fE2_is, bif_ne]
 rw [if_pos (by rw [rangeE_in hm]; rfl)]
 exact traO_loops S miss (by omega) hp hl none
end Gv
