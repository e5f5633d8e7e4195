import Derived.Test.YtpbpkbckgifhdaaGreatGvEnv
import Derived.Test.YtpbpkbckgifhdaaGreatK2
import Derived.Test.YtpbpkbckgifhdaaGreatK14

/- What the functions do, round by round: B13. -/
namespace Gv
open Go
set_option maxRecDepth 100000
def EposE : List Entry := [.out 84 (RSh.one (CK.int .i64)), .out 53 (RSh.one (CK.int .i64))]
theorem EposE_ok : ∀ e ∈ EposE, EntOK env e := (ent_out (ent_out ent_nil))
def tposE (F : FnT) (p0_0 p0_1 : Int) : Option (Int) :=
 bindO (F 84 (RSh.one (CK.int .i64)) [(PV.int .i64 p0_0), (PV.int .i64 (-1000 : Int)), (PV.int .i64 (1000 : Int))]) fun (y0 : (Int)) =>
 bindO (F 84 (RSh.one (CK.int .i64)) [(PV.int .i64 p0_1), (PV.int .i64 (0 : Int)), (PV.int .i64 (1000 : Int))]) fun (y1 : (Int)) =>
 bindO (F 53 (RSh.one (CK.int .i64)) [(PV.list 2 [(PV.int .i64 y0), (PV.int .i64 y1)])]) fun (y2 : (Int)) =>
 some y2
theorem tposE_eq (F p0_0 p0_1) : semF (callP F EposE 20) s76 (loopT []) 400 a76 [PV.agg [PV.int .i64 p0_0, PV.int .i64 p0_1]] (fun rv => decR (RSh.one (CK.int .i64)) rv.pv) = tposE F p0_0 p0_1 := by kernel_rfl
noncomputable abbrev FposE (args : List PV) := Fn env 76 (RSh.one (CK.int .i64)) args
theorem FposE_of  (p0_0 p0_1 : Int) {res : (Int)} (h : tposE (Fn env) p0_0 p0_1 = some res) : FposE [PV.agg [PV.int .i64 p0_0, PV.int .i64 p0_1]] = some res :=
 fn_of EposE_ok rfl rfl lo_nil ((tposE_eq _ _ _).trans h)
end Gv

/- What the functions do, round by round: B16. -/
namespace Gv
open Go
set_option maxRecDepth 100000
def ErVorE : List Entry := [.out 120 (RSh.one (CK.int .i64)), .out 90 (RSh.one CK.bool)]
theorem ErVorE_ok : ∀ e ∈ ErVorE, EntOK env e := (ent_out (ent_out ent_nil))
def trVorE (F : FnT) (p0_0 p0_1 p0_2 : Int) : Option (Int) :=
 bindO (F 120 (RSh.one (CK.int .i64)) [(PV.agg [(PV.int .i64 p0_0), (PV.int .i64 p0_1)])]) fun (y0 : (Int)) =>
 bif (y0 != (0 : Int)) then
  some y0
 else bindO (F 90 (RSh.one CK.bool) [(PV.int .i64 p0_2), (PV.int .i64 (-10000 : Int)), (PV.int .i64 (10000 : Int))]) fun (y1 : (Bool)) =>
 bif y1 then
  some (0 : Int)
 else some (2 : Int)
theorem trVorE_eq (F p0_0 p0_1 p0_2) : semF (callP F ErVorE 20) s94 (loopT []) 400 a94 [PV.agg [PV.int .i64 p0_0, PV.int .i64 p0_1, PV.int .i64 p0_2]] (fun rv => decR (RSh.one (CK.int .i64)) rv.pv) = trVorE F p0_0 p0_1 p0_2 := by kernel_rfl
noncomputable abbrev FrVorE (args : List PV) := Fn env 94 (RSh.one (CK.int .i64)) args
theorem FrVorE_of  (p0_0 p0_1 p0_2 : Int) {res : (Int)} (h : trVorE (Fn env) p0_0 p0_1 p0_2 = some res) : FrVorE [PV.agg [PV.int .i64 p0_0, PV.int .i64 p0_1, PV.int .i64 p0_2]] = some res :=
 fn_of ErVorE_ok rfl rfl lo_nil ((trVorE_eq _ _ _ _).trans h)
def ErScaE : List Entry := [.out 94 (RSh.one (CK.int .i64))]
theorem ErScaE_ok : ∀ e ∈ ErScaE, EntOK env e := (ent_out ent_nil)
def TrScaE_0a (n0 : Nat) (c1 : List PV) (i2 : Int) : Q := ⟨(tm 22 [(0, (AV.p (PV.list n0 c1))), (3, (AV.p (PV.int .i64 i2)))]), (mm 22 [])⟩
def XrScaE_0a (y : Int) : Ext × Q := (Ext.ret, ⟨(tm 22 [(2, (AV.p (PV.int .i64 y)))]), (mm 22 [])⟩)
def IrScaE_0a (q : Ext × S) : Int := (pP_int1 (pA_p (avT q.2 2)))
def XrScaE_0b (_y : Unit) : Ext × Q := (Ext.normal, ⟨(tm 22 []), (mm 22 [])⟩)
def IrScaE_0b (_q : Ext × S) : Unit := ()
abbrev YrScaE_0 : Type := (Int) ⊕ ((Unit))
def XLrScaE_0 : XL YrScaE_0 := .more XrScaE_0a (.one XrScaE_0b)
def IrScaE_0 (q : Ext × S) : YrScaE_0 := bif (cE q.1 == 2) then (Sum.inl (IrScaE_0a q)) else (Sum.inr (IrScaE_0b q))
theorem XIrScaE_0a (y) : IrScaE_0 (xe (XrScaE_0a y)) = (Sum.inl y) := by kernel_rfl
theorem XIrScaE_0b (y) : IrScaE_0 (xe (XrScaE_0b y)) = (Sum.inr y) := by kernel_rfl
theorem XIrScaE_0 (y) : IrScaE_0 (xe (XLrScaE_0.fn y)) = y := (match y with | .inl y => XIrScaE_0a y | .inr y => XIrScaE_0b y)
noncomputable abbrev LrScaE_0 : Q → Option YrScaE_0 := lpO env a62.body 0 XLrScaE_0
noncomputable abbrev RrScaE_0 : Q → Option (Ext × S) := lpR env a62.body 0
theorem LrScaE_0a_of {s y} (h : RrScaE_0 s = exO (XrScaE_0a y)) : LrScaE_0 s = some (Sum.inl y) := lpO_of IrScaE_0 XIrScaE_0 (y := (Sum.inl y)) h
theorem LrScaE_0b_of {s y} (h : RrScaE_0 s = exO (XrScaE_0b y)) : LrScaE_0 s = some (Sum.inr y) := lpO_of IrScaE_0 XIrScaE_0 (y := (Sum.inr y)) h
theorem UrScaE : uniq ((blocksOf a62.body).map (·.1)) = true := by kernel_rfl
def BrScaE_0a (F : FnT) (N : QO) (E : EO) (_L0 : QQ YrScaE_0) (n0 : Nat) (c1 : List PV) (i2 : Int) : OX :=
 bif (decide (i2 < (n0 : Int))) then
  bif (decide (((0 : Int) ≤ i2) ∧ (i2 < (n0 : Int)))) then
   bindO (intC .i64 (c1[((Int.toNat i2) * 3)]?)) fun x0 =>
   bindO (intC .i64 (c1[(((Int.toNat i2) * 3) + 1)]?)) fun x1 =>
   bindO (intC .i64 (c1[((((Int.toNat i2) * 3) + 1) + 1)]?)) fun x2 =>
   bindO (F 94 (RSh.one (CK.int .i64)) [(PV.agg [(PV.int .i64 x0), (PV.int .i64 x1), (PV.int .i64 x2)])]) fun (y3 : (Int)) =>
   bif (y3 != (0 : Int)) then
    E (XrScaE_0a y3)
   else N (TrScaE_0a n0 c1 (w64 (i2 + (1 : Int))))
  else none
 else E (XrScaE_0b ())
theorem BrScaE_0a_eq (F N E L0 n0 c1 i2) : semB (callP F ErScaE 20) s62 (loopT [⟨0, YrScaE_0, L0, XLrScaE_0⟩]) 400 (blkIn a62.body 0) N E (TrScaE_0a n0 c1 i2) = BrScaE_0a F N E L0 n0 c1 i2 := by kernel_rfl
theorem RrScaE_0a_of (n0 c1 i2) {r} (h : BrScaE_0a (Fn env) RrScaE_0 exO LrScaE_0 n0 c1 i2 = some r) : RrScaE_0 (TrScaE_0a n0 c1 i2) = some r :=
 lp_of ErScaE_ok (by kernel_rfl) (lo_cons (lpO_ok UrScaE) lo_nil) (by kernel_rfl) ((BrScaE_0a_eq _ _ _ _ _ _ _).trans h)
def trScaE (_F : FnT) (L0 : QQ YrScaE_0) (p0n : Nat) (p0c : List PV) : Option (Int) :=
 bif (decide ((p0n : Int) > (3 : Int))) then
  some (8 : Int)
 else bindO (L0 (TrScaE_0a p0n p0c (0 : Int))) fun z =>
 Sum.elim (fun y0 =>
  some y0) (fun _y1 =>
  some (0 : Int)) z
theorem trScaE_eq (F L0 p0n p0c) : semF (callP F ErScaE 20) s62 (loopT [⟨0, YrScaE_0, L0, XLrScaE_0⟩]) 400 a62 [PV.list p0n p0c] (fun rv => decR (RSh.one (CK.int .i64)) rv.pv) = trScaE F L0 p0n p0c := by kernel_rfl
noncomputable abbrev FrScaE (args : List PV) := Fn env 62 (RSh.one (CK.int .i64)) args
theorem FrScaE_of  (p0n : Nat) (p0c : List PV) {res : (Int)} (h : trScaE (Fn env) LrScaE_0 p0n p0c = some res) : FrScaE [PV.list p0n p0c] = some res :=
 fn_of ErScaE_ok rfl rfl (lo_cons (lpO_ok UrScaE) lo_nil) ((trScaE_eq _ _ _ _).trans h)
def ErMisE : List Entry := [.out 90 (RSh.one CK.bool)]
theorem ErMisE_ok : ∀ e ∈ ErMisE, EntOK env e := (ent_out ent_nil)
def trMisE (F : FnT) (p0 : Int) : Option (Int) :=
 bindO (F 90 (RSh.one CK.bool) [(PV.int .i64 p0), (PV.int .i64 (0 : Int)), (PV.int .i64 (10000000 : Int))]) fun (y0 : (Bool)) =>
 bif y0 then
  some (0 : Int)
 else some (2 : Int)
theorem trMisE_eq (F p0) : semF (callP F ErMisE 20) s63 (loopT []) 400 a63 [PV.int .i64 p0] (fun rv => decR (RSh.one (CK.int .i64)) rv.pv) = trMisE F p0 := by kernel_rfl
noncomputable abbrev FrMisE (args : List PV) := Fn env 63 (RSh.one (CK.int .i64)) args
theorem FrMisE_of  (p0 : Int) {res : (Int)} (h : trMisE (Fn env) p0 = some res) : FrMisE [PV.int .i64 p0] = some res :=
 fn_of ErMisE_ok rfl rfl lo_nil ((trMisE_eq _ _).trans h)
def ErOff : List Entry := [.out 96 (RSh.one (CK.int .i64))]
theorem ErOff_ok : ∀ e ∈ ErOff, EntOK env e := (ent_out ent_nil)
def trOff (F : FnT) (p0_0 p0_1 p0_2 p1_0 p1_1 p1_2 : Int) : Option (Int) :=
 bindO (F 96 (RSh.one (CK.int .i64)) [(PV.int .i64 (w64 (p0_2 - p1_2)))]) fun (y0 : (Int)) =>
 some (w64 ((w64 ((w64 ((w64 (p0_0 - p1_0)) * (w64 (p0_0 - p1_0)))) + (w64 ((w64 (p0_1 - p1_1)) * (w64 (p0_1 - p1_1)))))) + y0))
theorem trOff_eq (F p0_0 p0_1 p0_2 p1_0 p1_1 p1_2) : semF (callP F ErOff 20) s67 (loopT []) 400 a67 [PV.agg [PV.int .i64 p0_0, PV.int .i64 p0_1, PV.int .i64 p0_2], PV.agg [PV.int .i64 p1_0, PV.int .i64 p1_1, PV.int .i64 p1_2]] (fun rv => decR (RSh.one (CK.int .i64)) rv.pv) = trOff F p0_0 p0_1 p0_2 p1_0 p1_1 p1_2 := by kernel_rfl
noncomputable abbrev FrOff (args : List PV) := Fn env 67 (RSh.one (CK.int .i64)) args
theorem FrOff_of  (p0_0 p0_1 p0_2 p1_0 p1_1 p1_2 : Int) {res : (Int)} (h : trOff (Fn env) p0_0 p0_1 p0_2 p1_0 p1_1 p1_2 = some res) : FrOff [PV.agg [PV.int .i64 p0_0, PV.int .i64 p0_1, PV.int .i64 p0_2], PV.agg [PV.int .i64 p1_0, PV.int .i64 p1_1, PV.int .i64 p1_2]] = some res :=
 fn_of ErOff_ok rfl rfl lo_nil ((trOff_eq _ _ _ _ _ _ _).trans h)
def Ebrief : List Entry := []
theorem Ebrief_ok : ∀ e ∈ Ebrief, EntOK env e := ent_nil
def tbrief (_F : FnT) (p0n : Nat) (_p0c : List PV) : Option (Bool) :=
 bif (decide ((p0n : Int) ≤ (5 : Int))) then
  some true
 else some false
theorem tbrief_eq (F p0n p0c) : semF (callP F Ebrief 20) s20 (loopT []) 400 a20 [PV.list p0n p0c] (fun rv => decR (RSh.one CK.bool) rv.pv) = tbrief F p0n p0c := by kernel_rfl
noncomputable abbrev Fbrief (args : List PV) := Fn env 20 (RSh.one CK.bool) args
theorem Fbrief_of  (p0n : Nat) (p0c : List PV) {res : (Bool)} (h : tbrief (Fn env) p0n p0c = some res) : Fbrief [PV.list p0n p0c] = some res :=
 fn_of Ebrief_ok rfl rfl lo_nil ((tbrief_eq _ _ _).trans h)
end Gv

/- What the functions do, round by round: B17. -/
namespace Gv
open Go
set_option maxRecDepth 100000
def TscaE_1580000000a (n0 : Nat) (c1 : List PV) (i2 i3 : Int) : Q := ⟨(tm 24 [(1, (AV.p (PV.fn 99 []))), (9, (AV.p (PV.list n0 c1))), (10, (AV.p (PV.int .i64 i2))), (11, (AV.p (PV.int .i64 i3)))]), (mm 24 [])⟩
def XscaE_1580000000a (y : Int × Int) : Ext × Q := (Ext.ret, ⟨(tm 24 [(4, (AV.p (PV.int .i64 y.1))), (5, (AV.p (PV.int .i64 y.2)))]), (mm 24 [])⟩)
def IscaE_1580000000a (q : Ext × S) : Int × Int := ((pP_int1 (pA_p (avT q.2 4))), (pP_int1 (pA_p (avT q.2 5))))
def XscaE_1580000000b (_y : Unit) : Ext × Q := (Ext.normal, ⟨(tm 24 []), (mm 24 [])⟩)
def IscaE_1580000000b (_q : Ext × S) : Unit := ()
abbrev YscaE_1580000000 : Type := (Int × Int) ⊕ ((Unit))
def XLscaE_1580000000 : XL YscaE_1580000000 := .more XscaE_1580000000a (.one XscaE_1580000000b)
def IscaE_1580000000 (q : Ext × S) : YscaE_1580000000 := bif (cE q.1 == 2) then (Sum.inl (IscaE_1580000000a q)) else (Sum.inr (IscaE_1580000000b q))
theorem XIscaE_1580000000a (y) : IscaE_1580000000 (xe (XscaE_1580000000a y)) = (Sum.inl y) := by kernel_rfl
theorem XIscaE_1580000000b (y) : IscaE_1580000000 (xe (XscaE_1580000000b y)) = (Sum.inr y) := by kernel_rfl
theorem XIscaE_1580000000 (y) : IscaE_1580000000 (xe (XLscaE_1580000000.fn y)) = y := (match y with | .inl y => XIscaE_1580000000a y | .inr y => XIscaE_1580000000b y)
noncomputable abbrev LscaE_1580000000 : Q → Option YscaE_1580000000 := lpO env a121.body 0 XLscaE_1580000000
noncomputable abbrev RscaE_1580000000 : Q → Option (Ext × S) := lpR env a121.body 0
theorem LscaE_1580000000a_of {s y} (h : RscaE_1580000000 s = exO (XscaE_1580000000a y)) : LscaE_1580000000 s = some (Sum.inl y) := lpO_of IscaE_1580000000 XIscaE_1580000000 (y := (Sum.inl y)) h
theorem LscaE_1580000000b_of {s y} (h : RscaE_1580000000 s = exO (XscaE_1580000000b y)) : LscaE_1580000000 s = some (Sum.inr y) := lpO_of IscaE_1580000000 XIscaE_1580000000 (y := (Sum.inr y)) h
theorem UscaEg158 : uniq ((blocksOf a121.body).map (·.1)) = true := by kernel_rfl
def EscaE (L1580000000 : QQ YscaE_1580000000) : List Entry := [.inp 121 a121 s121 [⟨0, YscaE_1580000000, L1580000000, XLscaE_1580000000⟩], .inl 98 a98 s98, .inl 99 a99 s99, .out 76 (RSh.one (CK.int .i64)), .out 84 (RSh.one (CK.int .i64)), .out 53 (RSh.one (CK.int .i64))]
theorem EscaE_ok : ∀ e ∈ EscaE LscaE_1580000000, EntOK env e := (ent_inp rfl (lo_cons (lpO_ok UscaEg158) lo_nil) (ent_inl rfl (ent_inl rfl (ent_out (ent_out (ent_out ent_nil))))))
def BscaE_1580000000a (F : FnT) (N : QO) (E : EO) (_L1580000000 : QQ YscaE_1580000000) (n0 : Nat) (c1 : List PV) (i2 i3 : Int) : OX :=
 bif (decide (i3 < i2)) then
  bif (decide (((0 : Int) ≤ i3) ∧ (i3 < (n0 : Int)))) then
   bindO (intC .i64 (c1[((Int.toNat i3) * 3)]?)) fun x0 =>
   bindO (intC .i64 (c1[(((Int.toNat i3) * 3) + 1)]?)) fun x1 =>
   bindO (intC .i64 (c1[((((Int.toNat i3) * 3) + 1) + 1)]?)) fun x2 =>
   bindO (F 76 (RSh.one (CK.int .i64)) [(PV.agg [(PV.int .i64 x0), (PV.int .i64 x1)])]) fun (y3 : (Int)) =>
   bindO (F 84 (RSh.one (CK.int .i64)) [(PV.int .i64 x2), (PV.int .i64 (-10000 : Int)), (PV.int .i64 (10000 : Int))]) fun (y4 : (Int)) =>
   bindO (F 53 (RSh.one (CK.int .i64)) [(PV.list 2 [(PV.int .i64 y3), (PV.int .i64 y4)])]) fun (y5 : (Int)) =>
   bif (y5 != (0 : Int)) then
    E (XscaE_1580000000a (i3, y5))
   else N (TscaE_1580000000a n0 c1 i2 (w64 (i3 + (1 : Int))))
  else none
 else E (XscaE_1580000000b ())
theorem BscaE_1580000000a_eq (F N E L1580000000 n0 c1 i2 i3) : semB (callP F (EscaE L1580000000) 20) s121 (loopT [⟨0, YscaE_1580000000, L1580000000, XLscaE_1580000000⟩]) 400 (blkIn a121.body 0) N E (TscaE_1580000000a n0 c1 i2 i3) = BscaE_1580000000a F N E L1580000000 n0 c1 i2 i3 := by kernel_rfl
theorem RscaE_1580000000a_of (n0 c1 i2 i3) {r} (h : BscaE_1580000000a (Fn env) RscaE_1580000000 exO LscaE_1580000000 n0 c1 i2 i3 = some r) : RscaE_1580000000 (TscaE_1580000000a n0 c1 i2 i3) = some r :=
 lp_of EscaE_ok (by kernel_rfl) (lo_cons (lpO_ok UscaEg158) lo_nil) (by kernel_rfl) ((BscaE_1580000000a_eq _ _ _ _ _ _ _ _).trans h)
def tscaE (_F : FnT) (L1580000000 : QQ YscaE_1580000000) (p0n : Nat) (p0c : List PV) : Option (Int) :=
 bif (decide ((p0n : Int) > (3 : Int))) then
  some (8 : Int)
 else bindO (L1580000000 (TscaE_1580000000a p0n p0c (p0n : Int) (0 : Int))) fun z =>
 Sum.elim (fun y0 =>
  some y0.2) (fun _y1 =>
  some (0 : Int)) z
theorem tscaE_eq (F L1580000000 p0n p0c) : semF (callP F (EscaE L1580000000) 20) s70 (loopT []) 400 a70 [PV.list p0n p0c] (fun rv => decR (RSh.one (CK.int .i64)) rv.pv) = tscaE F L1580000000 p0n p0c := by kernel_rfl
noncomputable abbrev FscaE (args : List PV) := Fn env 70 (RSh.one (CK.int .i64)) args
theorem FscaE_of  (p0n : Nat) (p0c : List PV) {res : (Int)} (h : tscaE (Fn env) LscaE_1580000000 p0n p0c = some res) : FscaE [PV.list p0n p0c] = some res :=
 fn_of EscaE_ok rfl rfl lo_nil ((tscaE_eq _ _ _ _).trans h)
def ElinE : List Entry := [.out 70 (RSh.one (CK.int .i64)), .out 71 (RSh.one (CK.int .i64)), .out 53 (RSh.one (CK.int .i64))]
theorem ElinE_ok : ∀ e ∈ ElinE, EntOK env e := (ent_out (ent_out (ent_out ent_nil)))
def tlinE (F : FnT) (p0n : Nat) (p0c : List PV) (p1n : Nat) (p1c : List PV) (p2 : Int) : Option (Int) :=
 bindO (F 70 (RSh.one (CK.int .i64)) [(PV.list p0n p0c)]) fun (y0 : (Int)) =>
 bindO (F 70 (RSh.one (CK.int .i64)) [(PV.list p1n p1c)]) fun (y1 : (Int)) =>
 bindO (F 71 (RSh.one (CK.int .i64)) [(PV.int .i64 p2)]) fun (y2 : (Int)) =>
 bindO (F 53 (RSh.one (CK.int .i64)) [(PV.list 3 [(PV.int .i64 y0), (PV.int .i64 y1), (PV.int .i64 y2)])]) fun (y3 : (Int)) =>
 some y3
theorem tlinE_eq (F p0n p0c p1n p1c p2) : semF (callP F ElinE 20) s64 (loopT []) 400 a64 [PV.list p0n p0c, PV.list p1n p1c, PV.int .i64 p2] (fun rv => decR (RSh.one (CK.int .i64)) rv.pv) = tlinE F p0n p0c p1n p1c p2 := by kernel_rfl
noncomputable abbrev FlinE (args : List PV) := Fn env 64 (RSh.one (CK.int .i64)) args
theorem FlinE_of  (p0n : Nat) (p0c : List PV) (p1n : Nat) (p1c : List PV) (p2 : Int) {res : (Int)} (h : tlinE (Fn env) p0n p0c p1n p1c p2 = some res) : FlinE [PV.list p0n p0c, PV.list p1n p1c, PV.int .i64 p2] = some res :=
 fn_of ElinE_ok rfl rfl lo_nil ((tlinE_eq _ _ _ _ _ _).trans h)
def ElinO : List Entry := [.out 64 (RSh.one (CK.int .i64)), .out 66 (RSh.one CK.list)]
theorem ElinO_ok : ∀ e ∈ ElinO, EntOK env e := (ent_out (ent_out ent_nil))
def tlinO (F : FnT) (p0n : Nat) (p0c : List PV) (p1n : Nat) (p1c : List PV) (p2 : Int) : Option (((Nat) × (List PV)) × (Int)) :=
 bindO (F 64 (RSh.one (CK.int .i64)) [(PV.list p0n p0c), (PV.list p1n p1c), (PV.int .i64 p2)]) fun (y0 : (Int)) =>
 bif (y0 != (0 : Int)) then
  some ((0, []), y0)
 else bindO (F 66 (RSh.one CK.list) [(PV.list p0n p0c), (PV.list p1n p1c), (PV.int .i64 p2)]) fun (y1 : ((Nat) × (List PV))) =>
 some ((y1.1, y1.2), (0 : Int))
theorem tlinO_eq (F p0n p0c p1n p1c p2) : semF (callP F ElinO 20) s24 (loopT []) 400 a24 [PV.list p0n p0c, PV.list p1n p1c, PV.int .i64 p2] (fun rv => decR (RSh.tup [(Prod.mk false [CK.list]), (Prod.mk false [(CK.int .i64)])]) rv.pv) = tlinO F p0n p0c p1n p1c p2 := by kernel_rfl
noncomputable abbrev FlinO (args : List PV) := Fn env 24 (RSh.tup [(Prod.mk false [CK.list]), (Prod.mk false [(CK.int .i64)])]) args
theorem FlinO_of  (p0n : Nat) (p0c : List PV) (p1n : Nat) (p1c : List PV) (p2 : Int) {res : (((Nat) × (List PV)) × (Int))} (h : tlinO (Fn env) p0n p0c p1n p1c p2 = some res) : FlinO [PV.list p0n p0c, PV.list p1n p1c, PV.int .i64 p2] = some res :=
 fn_of ElinO_ok rfl rfl lo_nil ((tlinO_eq _ _ _ _ _ _).trans h)
end Gv

/- What the functions do, round by round: B18. -/
namespace Gv
open Go
set_option maxRecDepth 100000
def ErSize : List Entry := []
theorem ErSize_ok : ∀ e ∈ ErSize, EntOK env e := ent_nil
def trSize (_F : FnT) (p0 : Int) : Option (Int) :=
 some (if ((w64 ((0 : Int) - p0)) > p0) then (w64 ((0 : Int) - p0)) else p0)
theorem trSize_eq (F p0) : semF (callP F ErSize 20) s96 (loopT []) 400 a96 [PV.int .i64 p0] (fun rv => decR (RSh.one (CK.int .i64)) rv.pv) = trSize F p0 := by kernel_rfl
noncomputable abbrev FrSize (args : List PV) := Fn env 96 (RSh.one (CK.int .i64)) args
theorem FrSize_of  (p0 : Int) {res : (Int)} (h : trSize (Fn env) p0 = some res) : FrSize [PV.int .i64 p0] = some res :=
 fn_of ErSize_ok rfl rfl lo_nil ((trSize_eq _ _).trans h)
def ErCopX : List Entry := []
theorem ErCopX_ok : ∀ e ∈ ErCopX, EntOK env e := ent_nil
def trCopX (_F : FnT) (p0n : Nat) (p0c : List PV) : Option ((Nat) × (List PV)) :=
 bif (decide (p0n = 0)) then
  some (0, [])
 else bif (decide ((List.length p0c) = (p0n * 3))) then
  bif (decide ((0 = 0) ∧ ((0 + p0n) ≤ big))) then
   bif (decide ((0 + p0n) = (0 + p0n))) then
    some ((0 + p0n), ([] ++ p0c))
   else none
  else none
 else none
theorem trCopX_eq (F p0n p0c) : semF (callP F ErCopX 20) s23 (loopT []) 400 a23 [PV.list p0n p0c] (fun rv => decR (RSh.one CK.list) rv.pv) = trCopX F p0n p0c := by kernel_rfl
noncomputable abbrev FrCopX (args : List PV) := Fn env 23 (RSh.one CK.list) args
theorem FrCopX_of  (p0n : Nat) (p0c : List PV) {res : ((Nat) × (List PV))} (h : trCopX (Fn env) p0n p0c = some res) : FrCopX [PV.list p0n p0c] = some res :=
 fn_of ErCopX_ok rfl rfl lo_nil ((trCopX_eq _ _ _).trans h)
end Gv

/- What the functions do, round by round: B19. -/
namespace Gv
open Go
set_option maxRecDepth 100000
def ErPoiE : List Entry := [.out 90 (RSh.one CK.bool)]
theorem ErPoiE_ok : ∀ e ∈ ErPoiE, EntOK env e := (ent_out ent_nil)
def trPoiE (F : FnT) (p0_0 p0_1 : Int) : Option (Int) :=
 bindO (F 90 (RSh.one CK.bool) [(PV.int .i64 p0_0), (PV.int .i64 (-1000 : Int)), (PV.int .i64 (1000 : Int))]) fun (y0 : (Bool)) =>
 bif y0 then
  bindO (F 90 (RSh.one CK.bool) [(PV.int .i64 p0_1), (PV.int .i64 (0 : Int)), (PV.int .i64 (1000 : Int))]) fun (y1 : (Bool)) =>
  bif y1 then
   some (0 : Int)
  else some (2 : Int)
 else some (2 : Int)
theorem trPoiE_eq (F p0_0 p0_1) : semF (callP F ErPoiE 20) s120 (loopT []) 400 a120 [PV.agg [PV.int .i64 p0_0, PV.int .i64 p0_1]] (fun rv => decR (RSh.one (CK.int .i64)) rv.pv) = trPoiE F p0_0 p0_1 := by kernel_rfl
noncomputable abbrev FrPoiE (args : List PV) := Fn env 120 (RSh.one (CK.int .i64)) args
theorem FrPoiE_of  (p0_0 p0_1 : Int) {res : (Int)} (h : trPoiE (Fn env) p0_0 p0_1 = some res) : FrPoiE [PV.agg [PV.int .i64 p0_0, PV.int .i64 p0_1]] = some res :=
 fn_of ErPoiE_ok rfl rfl lo_nil ((trPoiE_eq _ _ _).trans h)
end Gv

/- Scans, their links and tracks. -/
namespace Gv
open Go
set_option maxRecDepth 100000
def poiV (y z : Int) : Int := if (-1000 ≤ y ∧ y ≤ 1000) ∧ (0 ≤ z ∧ z ≤ 1000) then 0 else 2
def vorV (v : Z3) : Int := if ((-1000 ≤ v.1 ∧ v.1 ≤ 1000) ∧ (0 ≤ v.2.1 ∧ v.2.1 ≤ 1000)) ∧ (-10000 ≤ v.2.2 ∧ v.2.2 ≤ 10000) then 0 else 2
theorem posE_is (y z : Int) : FposE [.agg [.int .i64 y, .int .i64 z]] = some (poiV y z) := by
 refine FposE_of _ _ ?_
 unfold tposE poiV
 have h1 : Fn env 84 _ [.int .i64 y, .int .i64 (-1000), .int .i64 1000] = _ := rE_is y (-1000) 1000
 have h2 : Fn env 84 _ [.int .i64 z, .int .i64 0, .int .i64 1000] = _ := rE_is z 0 1000
 rw [h1, h2]
 simp only [bindO_val, fE2_is, rangeE_if, both]
 by_cases a : -1000 ≤ y ∧ y ≤ 1000 <;> by_cases b : 0 ≤ z ∧ z ≤ 1000 <;> simp [a, b]
def scaF : List Z3 → Int
 | [] => 0
 | v :: l => if vorV v = 0 then scaF l else vorV v
def scaV (l : List Z3) : Int := if 3 < l.length then 8 else scaF l
theorem drop_getZ {r : List Z3} {i : Nat} (h : i < r.length) : ∃ v, r[i]? = some v ∧ r.drop i = v :: r.drop (i + 1) := ⟨r[i], List.getElem?_eq_getElem h, List.drop_eq_getElem_cons h⟩
theorem scaE_loop (l : List Z3) (hl : l.length ≤ 1000) : ∀ (m k : Nat), k + m = l.length → ∃ j : Int, RscaE_1580000000 (TscaE_1580000000a l.length (encT l) l.length k) = if scaF (l.drop k) = 0 then exO (XscaE_1580000000b ()) else exO (XscaE_1580000000a (j, scaF (l.drop k)))
 | 0, k, h => by
  refine ⟨0, ?_⟩
  rw [List.drop_of_length_le (by omega)]
  refine RscaE_1580000000a_of _ _ _ _ ?_
  unfold BscaE_1580000000a
  rw [bif_neg (by omega)]
  rfl
 | m + 1, k, h => by
  obtain ⟨j, ih⟩ := scaE_loop l hl m (k + 1) (by omega)
  have hk : k < l.length := by omega
  obtain ⟨v, hv, hd⟩ := drop_getZ hk
  have g0 := encT_0 l k
  have g1 := encT_1 l k
  have g2 := encT_2 l k
  rw [hv] at g0 g1 g2
  simp only [Option.map_some] at g0 g1 g2
  have h1 : Fn env 76 (RSh.one (CK.int .i64)) [.agg [.int .i64 v.1, .int .i64 v.2.1]] = _ := posE_is v.1 v.2.1
  have h2 : Fn env 84 (RSh.one (CK.int .i64)) [.int .i64 v.2.2, .int .i64 (-10000), .int .i64 10000] = _ := rE_is v.2.2 (-10000) 10000
  have e : both (poiV v.1 v.2.1) (rangeE v.2.2 (-10000) 10000) = vorV v := by
   unfold both poiV vorV
   rw [rangeE_if]
   by_cases a : (-1000 ≤ v.1 ∧ v.1 ≤ 1000) ∧ (0 ≤ v.2.1 ∧ v.2.1 ≤ 1000) <;> by_cases b : -10000 ≤ v.2.2 ∧ v.2.2 ≤ 10000 <;> simp [a, b]
  have hs : BscaE_1580000000a (Fn env) RscaE_1580000000 exO LscaE_1580000000 l.length (encT l) l.length k = if vorV v = 0 then RscaE_1580000000 (TscaE_1580000000a l.length (encT l) l.length ((k + 1 : Nat) : Int)) else exO (XscaE_1580000000a ((k : Int), vorV v)) := by
   unfold BscaE_1580000000a
   rw [bif_pos (by omega), bif_pos (by omega)]
   simp only [Int.toNat_natCast, g0, g1, g2, intC_int, bindO_val]
   rw [h1, h2]
   simp only [bindO_val, fE2_is, e, bif_ne]
   rw [w64_in (by omega)]
   rfl
  rw [hd]
  by_cases hz : vorV v = 0
  ·rw [if_pos hz, ih] at hs
   have e2 : scaF (v :: l.drop (k + 1)) = scaF (l.drop (k + 1)) := if_pos hz
   rw [e2]
   refine ⟨j, ?_⟩
   split at hs
   ·rename_i hn
    rw [if_pos hn]
    exact RscaE_1580000000a_of _ _ _ _ hs
   ·rename_i hn
    rw [if_neg hn]
    exact RscaE_1580000000a_of _ _ _ _ hs
  ·rw [if_neg hz] at hs
   have e2 : scaF (v :: l.drop (k + 1)) = vorV v := if_neg hz
   rw [e2]
   refine ⟨k, ?_⟩
   rw [if_neg hz]
   exact RscaE_1580000000a_of _ _ _ _ hs
theorem scaE_is (l : List Z3) : FscaE [.list l.length (encT l)] = some (scaV l) := by
 refine FscaE_of _ _ ?_
 unfold tscaE scaV
 by_cases h3 : 3 < l.length
 ·rw [bif_pos (by omega), if_pos h3]
 ·rw [bif_neg (by omega), if_neg h3]
  obtain ⟨j, h⟩ := scaE_loop l (by omega) l.length 0 (by omega)
  rw [List.drop_zero] at h
  have h : RscaE_1580000000 (TscaE_1580000000a l.length (encT l) l.length 0) = _ := h
  split at h
  ·rename_i hn
   rw [LscaE_1580000000b_of h, hn]
   rfl
  ·rw [LscaE_1580000000a_of h]
   rfl
def trackR (Ls : List (List Int)) : Nat → Nat → Int → List ZZ
 | 0, _, _ => []
 | m + 1, s, i => if 0 ≤ (Ls.getD s []).getD i.toNat 0 then ((s : Int) + 1, (Ls.getD s []).getD i.toNat 0) :: trackR Ls m (s + 1) ((Ls.getD s []).getD i.toNat 0) else []
def trackV (Ls : List (List Int)) (s : Nat) (i : Int) : List ZZ := ((s : Int), i) :: trackR Ls (Ls.length - s) s i
def LinksOK (Ls : List (List Int)) : Prop := ∀ s, s + 1 < Ls.length → ∀ x ∈ Ls.getD s [], x < ((Ls.getD (s + 1) []).length : Int)
theorem links_mem {Ls : List (List Int)} {s : Nat} {i : Int} (h : 0 ≤ i ∧ i < ((Ls.getD s []).length : Int)) : (Ls.getD s []).getD i.toNat 0 ∈ Ls.getD s [] := by
 have : i.toNat < (Ls.getD s []).length := by omega
 generalize Ls.getD s [] = r at this ⊢
 simp [List.getD, List.getElem?_eq_getElem this]
end Gv

/- The links of two scans. -/
namespace Gv
open Go
set_option maxRecDepth 100000
theorem prim3_fn {env : Nat → Option AFn} {f n m : Nat} {cs ds : List PV} {k : IntKind} {x : Int} {g : List PV → Option PV} {v : PV} (hf : env f = some (primA 3 g)) (hg : g [.list n cs, .list m ds, .int k x] = some v) : run env f [.list n cs, .list m ds, .int k x] = some (.val v) := by
 refine (run_iff env).2 ⟨2, ?_⟩
 have e : exN (callN env 1) 1 (primA 3 g).body (start (primA 3 g) [.list n cs, .list m ds, .int k x]) = some (.normal, ⟨[.p (.list n cs), .p (.list m ds), .p (.int k x), .p v], [Blk.none, Blk.none, Blk.none, Blk.none]⟩) := by
  show exN (callN env 1) 1 (.ops [{ dst := some 3, grd := none, args := [.tmp 0, .tmp 1, .tmp 2], k := .l (.prim g) }]) ⟨[.p (.list n cs), .p (.list m ds), .p (.int k x), .undef], [Blk.none, Blk.none, Blk.none, Blk.none]⟩ = _
  simp only [exN, exOps, exOp, grd]
  have hk : runK (callN env 1) (.l (.prim g)) [.p (.list n cs), .p (.list m ds), .p (.int k x)] [Blk.none, Blk.none, Blk.none, Blk.none] = some (.p v, [Blk.none, Blk.none, Blk.none, Blk.none]) := by
   simp only [runK, runL, pureAs, pureA, hg, Option.map_some]
  have ha : ([Arg.tmp 0, Arg.tmp 1, Arg.tmp 2].map (Arg.get [AV.p (.list n cs), .p (.list m ds), .p (.int k x), .undef])) = [.p (.list n cs), .p (.list m ds), .p (.int k x)] := rfl
  simp only [ha, hk]
  rfl
 rw [callN_fn env 1 f _ (fun sh caps e => by cases e)]
 simp only [hf]
 rw [if_pos ⟨rfl, rfl⟩, e]
 rfl
theorem encT_i64 (l : List Z3) : (encT l).all isI64 = true := by
 unfold encT
 rw [List.all_eq_true]
 intro x hx
 obtain ⟨z, _, hz⟩ := List.mem_flatMap.1 hx
 simp only [enc3, List.mem_cons, List.not_mem_nil, or_false] at hz
 rcases hz with rfl | rfl | rfl <;> rfl
def vAt (l : List Z3) (i : Nat) : Z3 := l.getD i (0, 0, 0)
theorem vOf_enc (l : List Z3) : vOf (encT l) = vAt l := by
 funext i
 unfold vOf vAt intAt
 have g0 := encT_0 l i
 have g1 := encT_1 l i
 have g2 : (encT l)[i * 3 + 2]? = _ := encT_2 l i
 rw [g0, g1, g2]
 by_cases hi : i < l.length
 ·simp [List.getD, List.getElem?_eq_getElem hi]
 ·simp [List.getD, List.getElem?_eq_none (show l.length ≤ i by omega)]
def lnk (a b : List Z3) (miss : Int) : List Int := (linksV a.length b.length miss (vAt a) (vAt b)).getD []
theorem lnk_is (a b : List Z3) (miss : Int) (h5 : a.length + b.length ≤ 5) : ∃ (d : List Nat) (k : Int), bestIn (costW (linkZ a.length b.length miss (vAt a) (vAt b))) (asgs (a.length + b.length)) = some (d, k) ∧ lnk a b miss = (List.range a.length).map fun j => lkV b.length (d.getD j 0) := by
 obtain ⟨⟨d, k⟩, h⟩ := bestIn_some (costW (linkZ a.length b.length miss (vAt a) (vAt b))) (l := asgs (a.length + b.length)) (ext_ne h5)
 refine ⟨d, k, h, ?_⟩
 unfold lnk linksV
 unfold asgs at h
 rw [h]
 rfl
theorem lnk_len (a b : List Z3) (miss : Int) (h5 : a.length + b.length ≤ 5) : (lnk a b miss).length = a.length := by
 obtain ⟨d, k, _, h⟩ := lnk_is a b miss h5
 rw [h]
 simp
theorem f114 (a b : List Z3) (miss : Int) (h5 : a.length + b.length ≤ 5) : Fn env 66 (RSh.one CK.list) [.list a.length (encT a), .list b.length (encT b), .int .i64 miss] = some (a.length, encI (lnk a b miss)) := by
 have hg : linksG [.list a.length (encT a), .list b.length (encT b), .int .i64 miss] = some (.list a.length (encI (lnk a b miss))) := by
  unfold linksG
  simp only
  rw [if_pos ⟨trivial, h5, encT_len a, encT_len b, encT_i64 a, encT_i64 b⟩, vOf_enc, vOf_enc]
  obtain ⟨d, k, h1, h2⟩ := lnk_is a b miss h5
  unfold linksV
  unfold asgs at h1
  rw [h1, h2]
  rfl
 unfold Fn
 rw [prim3_fn (env := env) (f := 66) rfl hg]
 rfl
end Gv

/- The links of all scans. -/
namespace Gv
open Go
set_option maxRecDepth 100000
def linkN (S : List (List Z3)) (miss : Int) : Nat → Nat → List (List Int)
 | 0, _ => []
 | m + 1, t => lnk (S.getD t []) (S.getD (t + 1) []) miss :: linkN S miss m (t + 1)
def linksL (S : List (List Z3)) (miss : Int) : List (List Int) := linkN S miss (S.length - 1) 0
theorem encM_snoc (M : List (List Int)) (r : List Int) : encM (M ++ [r]) = encM M ++ [PV.list r.length (encI r)] := by simp [encM, rowI]
end Gv

/- The tracks of all scans. -/
namespace Gv
open Go
set_option maxRecDepth 100000
def startC (Ls : List (List Int)) (t k : Nat) : Bool := decide (t = 0) || !((Ls.getD (t - 1) []).contains (k : Int))
section
variable (Ls : List (List Int)) (hL : Ls.length ≤ 1000) (ok : LinksOK Ls) (hr : ∀ r ∈ Ls, r.length ≤ 1000) (n5 : Nat) (c6 : List PV) (i7 : Int) (t len : Nat) (ht : t ≤ Ls.length) (hk : t < Ls.length → len = (Ls.getD t []).length) (hl : len ≤ 1000)
include hL ok hr ht hk hl
end
end Gv

/- The tracks of two scans or more. -/
namespace Gv
open Go
set_option maxRecDepth 100000
section
variable (Ls : List (List Int)) (hL : Ls.length ≤ 1000) (ok : LinksOK Ls) (hr : ∀ r ∈ Ls, r.length ≤ 1000) (S : List (List Z3)) (hS : S.length = Ls.length + 1) (hk : ∀ t, t < Ls.length → (S.getD t []).length = (Ls.getD t []).length) (hl : ∀ t, (S.getD t []).length ≤ 5)
include hL ok hr hS hk hl
end
end Gv

/- TracksOf. -/
namespace Gv
open Go
set_option maxRecDepth 100000
theorem cosE_is (x : Int) : FcosE [.int .i64 x] = some (rangeE x 0 10000000) := by
 refine FcosE_of _ ?_
 unfold tcosE
 have h : Fn env 84 _ [.int .i64 x, .int .i64 0, .int .i64 10000000] = _ := rE_is x 0 10000000
 rw [h]
 rfl
end Gv

/- TracksOf: the tracks of all scans, by their links. -/
namespace Gv
open Go
set_option maxRecDepth 100000
end Gv

/- What links are: they lead to different places, and cost at most two misses. -/
namespace Gv
open Go
set_option maxRecDepth 100000
end Gv

/- A link costs at most two misses. -/
namespace Gv
open Go
set_option maxRecDepth 100000
end Gv

/- The entries of a track: what comes before and behind. -/
namespace Gv
open Go
set_option maxRecDepth 100000
def lnkAt (Ls : List (List Int)) (s x : Int) : Int := (Ls.getD s.toNat []).getD x.toNat 0
theorem trackR_ge (Ls : List (List Int)) : ∀ (m s : Nat) (i : Int) (z : ZZ), z ∈ trackR Ls m s i → (s : Int) + 1 ≤ z.1 ∧ 0 ≤ z.2
 | 0, _, _, z, h => by simp [trackR] at h
 | m + 1, s, i, z, h => by
  unfold trackR at h
  split at h
  ·rename_i hx
   rcases List.mem_cons.1 h with rfl | h
   ·exact ⟨Int.le_refl _, hx⟩
   ·have := trackR_ge Ls m (s + 1) _ z h
    exact ⟨by omega, this.2⟩
  ·cases h
end Gv

/- Each vortex is in one track. -/
namespace Gv
open Go
set_option maxRecDepth 100000
structure LinkSet (Ls : List (List Int)) : Prop where
 ok : LinksOK Ls
 inj : ∀ (s i j : Nat), s < Ls.length → i < (Ls.getD s []).length → j < (Ls.getD s []).length → (Ls.getD s []).getD i 0 = (Ls.getD s []).getD j 0 → 0 ≤ (Ls.getD s []).getD i 0 → i = j
theorem trackR_lt {Ls : List (List Int)} (ok : LinksOK Ls) : ∀ (m s : Nat) (i : Int) (z : ZZ), s + m = Ls.length → (s < Ls.length → 0 ≤ i ∧ i < ((Ls.getD s []).length : Int)) → z ∈ trackR Ls m s i → z.1 ≤ Ls.length ∧ (z.1 < Ls.length → z.2 < ((Ls.getD z.1.toNat []).length : Int))
 | 0, _, _, z, _, _, h => by simp [trackR] at h
 | m + 1, s, i, z, hm, hi, h => by
  unfold trackR at h
  split at h
  ·rename_i hx
   have hl : s + 1 < Ls.length → (Ls.getD s []).getD i.toNat 0 < ((Ls.getD (s + 1) []).length : Int) := fun h2 => ok s h2 _ (links_mem (hi (by omega)))
   rcases List.mem_cons.1 h with rfl | h
   ·refine ⟨by simp only; omega, fun h2 => ?_⟩
    simp only at h2 ⊢
    have := hl (by omega)
    rwa [show ((s : Int) + 1).toNat = s + 1 by omega]
   ·exact trackR_lt ok m (s + 1) _ z (by omega) (fun h2 => ⟨hx, hl h2⟩) h
  ·cases h
theorem trackV_mem {Ls : List (List Int)} {t : Nat} {k : Int} {z : ZZ} : z ∈ trackV Ls t k ↔ z ∈ ((t : Int), k) :: trackR Ls (Ls.length - t) t k := Iff.rfl
theorem track_in {Ls : List (List Int)} (ok : LinksOK Ls) {t : Nat} {k : Int} (ht : t ≤ Ls.length) (hk : 0 ≤ k) (hk2 : t < Ls.length → k < ((Ls.getD t []).length : Int)) {z : ZZ} (hz : z ∈ trackV Ls t k) : (t : Int) ≤ z.1 ∧ z.1 ≤ Ls.length ∧ 0 ≤ z.2 ∧ (z.1 < Ls.length → z.2 < ((Ls.getD z.1.toNat []).length : Int)) := by
 rcases List.mem_cons.1 (trackV_mem.1 hz) with rfl | h
 ·refine ⟨Int.le_refl _, by simp only; omega, hk, fun h => ?_⟩
  simp only at h ⊢
  rw [Int.toNat_natCast]
  exact hk2 (by omega)
 ·have h1 := trackR_ge Ls _ _ _ z h
  have h2 := trackR_lt ok _ _ _ z (by omega) (fun h => ⟨hk, hk2 h⟩) h
  exact ⟨by omega, h2.1, h1.2, h2.2⟩
structure Beg (Ls : List (List Int)) (t : Nat) (k : Int) : Prop where
 le : t ≤ Ls.length
 nn : 0 ≤ k
 lt : t < Ls.length → k < ((Ls.getD t []).length : Int)
 st : startC Ls t k.toNat = true
theorem Beg.first {Ls : List (List Int)} {t : Nat} {k : Int} (b : Beg Ls t k) (ok : LinksOK Ls) {t' : Nat} {k' : Int} (b' : Beg Ls t' k') {y : Int} (hy : ((t : Int) - 1, y) ∈ trackV Ls t' k') (hl : lnkAt Ls ((t : Int) - 1) y = k) : False := by
 have hin := track_in ok b'.le b'.nn b'.lt hy
 simp only at hin
 obtain ⟨s, rfl⟩ : ∃ s, t = s + 1 := ⟨t - 1, by omega⟩
 have hb := b.le
 have e : (((s + 1 : Nat) : Int) - 1) = (s : Int) := by omega
 rw [e] at hin hl
 have hlt := hin.2.2.2 (by omega)
 rw [Int.toNat_natCast] at hlt
 have hst := b.st
 unfold startC at hst
 have hc : (Ls.getD (s + 1 - 1) []).contains ((k.toNat : Nat) : Int) = true := by
  rw [List.contains_iff_mem, show ((k.toNat : Nat) : Int) = k by have := b.nn; omega, ← hl]
  unfold lnkAt
  rw [Int.toNat_natCast]
  exact links_mem ⟨hin.2.2.1, hlt⟩
 rw [hc] at hst
 simp at hst
end Gv

/- All entries of all tracks. -/
namespace Gv
open Go
set_option maxRecDepth 100000
section
variable {Ls : List (List Int)} (L : LinkSet Ls) {S : List (List Z3)} (hS : S.length ≤ Ls.length + 1) (hk : ∀ t, t < Ls.length → (S.getD t []).length = (Ls.getD t []).length)
include L hS hk
end
end Gv

/- The links of all scans: a set of links. -/
namespace Gv
open Go
set_option maxRecDepth 100000
end Gv

/- Each vortex is an entry of a track. -/
namespace Gv
open Go
set_option maxRecDepth 100000
end Gv

/- The entries of the tracks are the vortices, each once. -/
namespace Gv
open Go
set_option maxRecDepth 100000
end Gv

/- Copies of scans; how far two vortices are apart. -/
namespace Gv
open Go
set_option maxRecDepth 100000
theorem copV_is (l : List Z3) (hl : l.length ≤ 1000) : FrCopX [.list l.length (encT l)] = some (l.length, encT l) := by
 refine FrCopX_of _ _ ?_
 unfold trCopX
 by_cases h : l.length = 0
 ·rw [bif_pos h]
  have e := List.length_eq_zero_iff.1 h
  subst e
  rfl
 ·rw [bif_neg h, bif_pos (encT_len l), bif_pos (⟨rfl, by unfold big; omega⟩), bif_pos rfl, Nat.zero_add, List.nil_append]
theorem size_is (p : Int) : FrSize [.int .i64 p] = some (szZ p) := FrSize_of _ rfl
theorem off_is (v u : Z3) : FrOff [.agg (enc3 v), .agg (enc3 u)] = some (apZ v u) := by
 refine FrOff_of _ _ _ _ _ _ ?_
 unfold trOff
 have h : Fn env 96 _ [.int .i64 (w64 (v.2.2 - u.2.2))] = _ := size_is _
 rw [h]
 rfl
end Gv

/- The law of tracks: how many vortices there are. -/
namespace Gv
open Go
set_option maxRecDepth 100000
end Gv

/- The law of tracks: an entry that was not seen before. -/
namespace Gv
open Go
set_option maxRecDepth 100000
end Gv

/- The reference's errors of scans; which scans the law looks at; the links of two scans. -/
namespace Gv
open Go
set_option maxRecDepth 100000
theorem rPoiE_is (y z : Int) : FrPoiE [.agg [.int .i64 y, .int .i64 z]] = some (poiV y z) := by
 refine FrPoiE_of _ _ ?_
 unfold trPoiE poiV
 have h1 : Fn env 90 _ [.int .i64 y, .int .i64 (-1000), .int .i64 1000] = _ := bWi_is y (-1000) 1000
 have h2 : Fn env 90 _ [.int .i64 z, .int .i64 0, .int .i64 1000] = _ := bWi_is z 0 1000
 rw [h1, h2]
 simp only [bindO_val, bif_dec]
 by_cases a : -1000 ≤ y ∧ y ≤ 1000 <;> by_cases b : 0 ≤ z ∧ z ≤ 1000 <;> simp [a, b]
theorem rVorE_is (v : Z3) : FrVorE [encV v] = some (vorV v) := by
 refine FrVorE_of _ _ _ ?_
 unfold trVorE
 have h1 : Fn env 120 _ [.agg [.int .i64 v.1, .int .i64 v.2.1]] = _ := rPoiE_is v.1 v.2.1
 have h2 : Fn env 90 _ [.int .i64 v.2.2, .int .i64 (-10000), .int .i64 10000] = _ := bWi_is v.2.2 (-10000) 10000
 rw [h1, h2]
 simp only [bindO_val, bif_dec, bif_ne]
 unfold vorV poiV
 by_cases a : (-1000 ≤ v.1 ∧ v.1 ≤ 1000) ∧ (0 ≤ v.2.1 ∧ v.2.1 ≤ 1000) <;> by_cases b : -10000 ≤ v.2.2 ∧ v.2.2 ≤ 10000 <;> simp [a, b]
theorem rMisE_is (m : Int) : FrMisE [.int .i64 m] = some (rangeE m 0 10000000) := by
 refine FrMisE_of _ ?_
 unfold trMisE
 have h2 : Fn env 90 _ [.int .i64 m, .int .i64 0, .int .i64 10000000] = _ := bWi_is m 0 10000000
 rw [h2]
 simp only [bindO_val, bif_dec, rangeE_if]
 by_cases b : 0 ≤ m ∧ m ≤ 10000000 <;> simp [b]
theorem rScaE_loop (l : List Z3) (hl : l.length ≤ 1000) : ∀ (m k : Nat), k + m = l.length → RrScaE_0 (TrScaE_0a l.length (encT l) k) = if scaF (l.drop k) = 0 then exO (XrScaE_0b ()) else exO (XrScaE_0a (scaF (l.drop k)))
 | 0, k, h => by
  rw [List.drop_of_length_le (by omega)]
  refine RrScaE_0a_of _ _ _ ?_
  unfold BrScaE_0a
  rw [bif_neg (by omega)]
  rfl
 | m + 1, k, h => by
  have ih := rScaE_loop l hl m (k + 1) (by omega)
  have hk : k < l.length := by omega
  obtain ⟨v, hv, hd⟩ := drop_getZ hk
  have g0 := encT_0 l k
  have g1 := encT_1 l k
  have g2 := encT_2 l k
  rw [hv] at g0 g1 g2
  simp only [Option.map_some] at g0 g1 g2
  have h1 : Fn env 94 (RSh.one (CK.int .i64)) [.agg [.int .i64 v.1, .int .i64 v.2.1, .int .i64 v.2.2]] = _ := rVorE_is v
  have hs : BrScaE_0a (Fn env) RrScaE_0 exO LrScaE_0 l.length (encT l) k = if vorV v = 0 then RrScaE_0 (TrScaE_0a l.length (encT l) ((k + 1 : Nat) : Int)) else exO (XrScaE_0a (vorV v)) := by
   unfold BrScaE_0a
   rw [bif_pos (by omega), bif_pos (by omega)]
   simp only [Int.toNat_natCast, g0, g1, g2, intC_int, bindO_val]
   rw [h1]
   simp only [bindO_val, bif_ne]
   rw [w64_in (by omega)]
   rfl
  rw [hd]
  by_cases hz : vorV v = 0
  ·rw [if_pos hz, ih] at hs
   have e2 : scaF (v :: l.drop (k + 1)) = scaF (l.drop (k + 1)) := if_pos hz
   rw [e2]
   split at hs
   ·rename_i hn
    rw [if_pos hn]
    exact RrScaE_0a_of _ _ _ hs
   ·rename_i hn
    rw [if_neg hn]
    exact RrScaE_0a_of _ _ _ hs
  ·rw [if_neg hz] at hs
   have e2 : scaF (v :: l.drop (k + 1)) = vorV v := if_neg hz
   rw [e2, if_neg hz]
   exact RrScaE_0a_of _ _ _ hs
theorem rScaE_is (l : List Z3) : FrScaE [.list l.length (encT l)] = some (scaV l) := by
 refine FrScaE_of _ _ ?_
 unfold trScaE scaV
 by_cases h : 3 < l.length
 ·rw [bif_pos (by omega), if_pos h]
 ·rw [bif_neg (by omega), if_neg h]
  have h0 := rScaE_loop l (by omega) l.length 0 (by omega)
  have h0 : RrScaE_0 (TrScaE_0a l.length (encT l) 0) = _ := h0
  rw [List.drop_zero] at h0
  by_cases hz : scaF l = 0
  ·rw [if_pos hz] at h0
   rw [LrScaE_0b_of h0, hz]
   rfl
  ·rw [if_neg hz] at h0
   rw [LrScaE_0a_of h0]
   rfl
theorem brief_is (l : List Z3) : Fbrief [.list l.length (encT l)] = some (decide (l.length ≤ 5)) := by
 refine Fbrief_of _ _ ?_
 unfold tbrief
 by_cases h : l.length ≤ 5
 ·rw [bif_pos (by omega), decide_eq_true h]
 ·rw [bif_neg (by omega), decide_eq_false h]
theorem getD_memA {α : Type} {l : List α} {i : Nat} {d : α} (h : i < l.length) : l.getD i d ∈ l := by
 have e : l.getD i d = l[i] := by simp [List.getD, List.getElem?_eq_getElem h]
 rw [e]
 exact List.getElem_mem h
theorem linE_is (a b : List Z3) (miss : Int) : FlinE [.list a.length (encT a), .list b.length (encT b), .int .i64 miss] = some (first3 (scaV a) (scaV b) (rangeE miss 0 10000000)) := by
 refine FlinE_of _ _ _ _ _ ?_
 unfold tlinE
 have h1 : Fn env 70 _ [.list a.length (encT a)] = _ := scaE_is a
 have h2 : Fn env 70 _ [.list b.length (encT b)] = _ := scaE_is b
 have h3 : Fn env 71 _ [.int .i64 miss] = _ := cosE_is miss
 rw [h1, h2, h3]
 simp only [bindO_val, fE3_is]
theorem linO_is {a b : List Z3} {miss : Int} (ha : scaV a = 0) (hb : scaV b = 0) (hm : 0 ≤ miss ∧ miss ≤ 10000000) (h5 : a.length + b.length ≤ 5) : FlinO [.list a.length (encT a), .list b.length (encT b), .int .i64 miss] = some ((a.length, encI (lnk a b miss)), 0) := by
 refine FlinO_of _ _ _ _ _ ?_
 unfold tlinO
 have h1 : Fn env 64 _ [.list a.length (encT a), .list b.length (encT b), .int .i64 miss] = _ := linE_is a b miss
 rw [h1, f114 a b miss h5, ha, hb, rangeE_in hm]
 rfl
end Gv

/- What the tracks are, in plain words; how the law goes through their entries. -/
namespace Gv
open Go
set_option maxRecDepth 100000
structure TrOK (S : List (List Z3)) (miss : Int) (T : List (List ZZ)) : Prop where
 nd : T.flatten.Nodup
 pl : ∀ z ∈ T.flatten, ∃ t k : Nat, t < S.length ∧ k < (S.getD t []).length ∧ z = ((t : Int), (k : Int))
 ne : ∀ tr ∈ T, 0 < tr.length ∧ tr.length ≤ S.length
 st : ∀ tr ∈ T, ∀ q, q + 1 < tr.length → (tr.getD (q + 1) (0, 0)).1 = (tr.getD q (0, 0)).1 + 1 ∧ lnkAt (linksL S miss) (tr.getD q (0, 0)).1 (tr.getD q (0, 0)).2 = (tr.getD (q + 1) (0, 0)).2
def seen (T : List (List ZZ)) (p q : Nat) : List ZZ := (T.take p).flatten ++ (T.getD p []).take q
theorem getD_at {α : Type} {l : List α} {i : Nat} {d : α} (h : i < l.length) : l.getD i d = l[i] := by simp [List.getD, List.getElem?_eq_getElem h]
theorem encT_at {l : List Z3} {k : Nat} (h : k < l.length) : intC .i64 (encT l)[k * 3]? = some (vAt l k).1 ∧ intC .i64 (encT l)[k * 3 + 1]? = some (vAt l k).2.1 ∧ intC .i64 (encT l)[k * 3 + 1 + 1]? = some (vAt l k).2.2 := by
 rw [encT_0, encT_1, encT_2, List.getElem?_eq_getElem h]
 unfold vAt
 rw [getD_at h]
 exact ⟨rfl, rfl, rfl⟩
end Gv
