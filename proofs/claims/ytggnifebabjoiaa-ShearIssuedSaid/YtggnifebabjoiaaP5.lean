/- What the functions do, round by round: P5. -/
import Derived.Test.YtggnifebabjoiaaGvEnv
namespace Gv
open Go
set_option maxRecDepth 100000
def EbMod : List Entry := []
theorem EbMod_ok : ∀ e ∈ EbMod, EntOK env e := ent_nil
def tbMod (_F : FnT) (p0 p1 : Int) : Option (Int) :=
  bif (decide (p1 ≠ (0 : Int))) then
    bif (decide ((Int.tmod p0 p1) < (0 : Int))) then
      some (w64 ((Int.tmod p0 p1) + p1))
    else some (Int.tmod p0 p1)
  else none
theorem tbMod_eq (F : FnT) (p0 p1 : Int) : semF (callP F EbMod 20) s18 (loopT []) 400 a18 [PV.int .i64 p0, PV.int .i64 p1] (fun rv => decR (RSh.one (CK.int .i64)) rv.pv) = tbMod F p0 p1 := by kernel_rfl
noncomputable abbrev FbMod (args : List PV) := Fn env 18 (RSh.one (CK.int .i64)) args
theorem FbMod_of  (p0 p1 : Int) {res : (Int)} (h : tbMod (Fn env) p0 p1 = some res) : FbMod [PV.int .i64 p0, PV.int .i64 p1] = some res :=
  fn_of EbMod_ok rfl rfl lo_nil ((tbMod_eq _ _ _).trans h)
def EbWi : List Entry := []
theorem EbWi_ok : ∀ e ∈ EbWi, EntOK env e := ent_nil
def tbWi (_F : FnT) (p0 p1 p2 : Int) : Option (Bool) :=
  bif (decide (p1 ≤ p0)) then
    bif (decide (p0 ≤ p2)) then
      some true
    else some false
  else some false
theorem tbWi_eq (F : FnT) (p0 p1 p2 : Int) : semF (callP F EbWi 20) s29 (loopT []) 400 a29 [PV.int .i64 p0, PV.int .i64 p1, PV.int .i64 p2] (fun rv => decR (RSh.one CK.bool) rv.pv) = tbWi F p0 p1 p2 := by kernel_rfl
noncomputable abbrev FbWi (args : List PV) := Fn env 29 (RSh.one CK.bool) args
theorem FbWi_of  (p0 p1 p2 : Int) {res : (Bool)} (h : tbWi (Fn env) p0 p1 p2 = some res) : FbWi [PV.int .i64 p0, PV.int .i64 p1, PV.int .i64 p2] = some res :=
  fn_of EbWi_ok rfl rfl lo_nil ((tbWi_eq _ _ _ _).trans h)
def EbTick : List Entry := [.out 29 (RSh.one CK.bool)]
theorem EbTick_ok : ∀ e ∈ EbTick, EntOK env e := (ent_out ent_nil)
def tbTick (F : FnT) (p0 : Int) : Option (Bool) :=
  bindO (F 29 (RSh.one CK.bool) [(PV.int .i64 p0), (PV.int .i64 (0 : Int)), (PV.int .i64 (1000000000000 : Int))]) fun (y0 : (Bool)) =>
  bif y0 then
    some true
  else some false
theorem tbTick_eq (F : FnT) (p0 : Int) : semF (callP F EbTick 20) s61 (loopT []) 400 a61 [PV.int .i64 p0] (fun rv => decR (RSh.one CK.bool) rv.pv) = tbTick F p0 := by kernel_rfl
noncomputable abbrev FbTick (args : List PV) := Fn env 61 (RSh.one CK.bool) args
theorem FbTick_of  (p0 : Int) {res : (Bool)} (h : tbTick (Fn env) p0 = some res) : FbTick [PV.int .i64 p0] = some res :=
  fn_of EbTick_ok rfl rfl lo_nil ((tbTick_eq _ _).trans h)
def ErIsL : List Entry := [.out 29 (RSh.one CK.bool)]
theorem ErIsL_ok : ∀ e ∈ ErIsL, EntOK env e := (ent_out ent_nil)
def trIsL (F : FnT) (p0 : Int) : Option (Bool) :=
  bindO (F 29 (RSh.one CK.bool) [(PV.int .i64 p0), (PV.int .i64 (-20000 : Int)), (PV.int .i64 (20000 : Int))]) fun (y0 : (Bool)) =>
  bif y0 then
    some true
  else some false
theorem trIsL_eq (F : FnT) (p0 : Int) : semF (callP F ErIsL 20) s100 (loopT []) 400 a100 [PV.int .i64 p0] (fun rv => decR (RSh.one CK.bool) rv.pv) = trIsL F p0 := by kernel_rfl
noncomputable abbrev FrIsL (args : List PV) := Fn env 100 (RSh.one CK.bool) args
theorem FrIsL_of  (p0 : Int) {res : (Bool)} (h : trIsL (Fn env) p0 = some res) : FrIsL [PV.int .i64 p0] = some res :=
  fn_of ErIsL_ok rfl rfl lo_nil ((trIsL_eq _ _).trans h)
def ErRuE : List Entry := [.out 29 (RSh.one CK.bool)]
theorem ErRuE_ok : ∀ e ∈ ErRuE, EntOK env e := (ent_out ent_nil)
def trRuE (F : FnT) (p0_0 p0_1 p0_2 p0_3 : Int) : Option (Int) :=
  bindO (F 29 (RSh.one CK.bool) [(PV.int .i64 p0_0), (PV.int .i64 (1 : Int)), (PV.int .i64 (20000 : Int))]) fun (y0 : (Bool)) =>
  bif y0 then
    bindO (F 29 (RSh.one CK.bool) [(PV.int .i64 p0_1), (PV.int .i64 (0 : Int)), (PV.int .i64 (20000 : Int))]) fun (y1 : (Bool)) =>
    bif y1 then
      bindO (F 29 (RSh.one CK.bool) [(PV.int .i64 p0_2), (PV.int .i64 (0 : Int)), (PV.int .i64 (100000 : Int))]) fun (y2 : (Bool)) =>
      bif y2 then
        bindO (F 29 (RSh.one CK.bool) [(PV.int .i64 p0_3), (PV.int .i64 (1 : Int)), (PV.int .i64 (100000 : Int))]) fun (y3 : (Bool)) =>
        bif y3 then
          bif (decide (p0_1 > p0_0)) then
            some (9 : Int)
          else some (0 : Int)
        else some (2 : Int)
      else some (2 : Int)
    else some (2 : Int)
  else some (2 : Int)
theorem trRuE_eq (F : FnT) (p0_0 p0_1 p0_2 p0_3 : Int) : semF (callP F ErRuE 20) s48 (loopT []) 400 a48 [PV.agg [PV.int .i64 p0_0, PV.int .i64 p0_1, PV.int .i64 p0_2, PV.int .i64 p0_3]] (fun rv => decR (RSh.one (CK.int .i64)) rv.pv) = trRuE F p0_0 p0_1 p0_2 p0_3 := by kernel_rfl
noncomputable abbrev FrRuE (args : List PV) := Fn env 48 (RSh.one (CK.int .i64)) args
theorem FrRuE_of  (p0_0 p0_1 p0_2 p0_3 : Int) {res : (Int)} (h : trRuE (Fn env) p0_0 p0_1 p0_2 p0_3 = some res) : FrRuE [PV.agg [PV.int .i64 p0_0, PV.int .i64 p0_1, PV.int .i64 p0_2, PV.int .i64 p0_3]] = some res :=
  fn_of ErRuE_ok rfl rfl lo_nil ((trRuE_eq _ _ _ _ _).trans h)
def ErEvE : List Entry := [.out 61 (RSh.one CK.bool), .out 100 (RSh.one CK.bool)]
theorem ErEvE_ok : ∀ e ∈ ErEvE, EntOK env e := (ent_out (ent_out ent_nil))
def trEvE (F : FnT) (p0_0 p0_1 p0_2 : Int) : Option (Int) :=
  bindO (F 61 (RSh.one CK.bool) [(PV.int .i64 p0_0)]) fun (y0 : (Bool)) =>
  bif y0 then
    bindO (F 100 (RSh.one CK.bool) [(PV.int .i64 p0_1)]) fun (y1 : (Bool)) =>
    bif y1 then
      bindO (F 100 (RSh.one CK.bool) [(PV.int .i64 p0_2)]) fun (y2 : (Bool)) =>
      bif y2 then
        bif (decide (p0_1 > p0_2)) then
          some (9 : Int)
        else some (0 : Int)
      else some (2 : Int)
    else some (2 : Int)
  else some (2 : Int)
theorem trEvE_eq (F : FnT) (p0_0 p0_1 p0_2 : Int) : semF (callP F ErEvE 20) s51 (loopT []) 400 a51 [PV.agg [PV.int .i64 p0_0, PV.int .i64 p0_1, PV.int .i64 p0_2]] (fun rv => decR (RSh.one (CK.int .i64)) rv.pv) = trEvE F p0_0 p0_1 p0_2 := by kernel_rfl
noncomputable abbrev FrEvE (args : List PV) := Fn env 51 (RSh.one (CK.int .i64)) args
theorem FrEvE_of  (p0_0 p0_1 p0_2 : Int) {res : (Int)} (h : trEvE (Fn env) p0_0 p0_1 p0_2 = some res) : FrEvE [PV.agg [PV.int .i64 p0_0, PV.int .i64 p0_1, PV.int .i64 p0_2]] = some res :=
  fn_of ErEvE_ok rfl rfl lo_nil ((trEvE_eq _ _ _ _).trans h)
def ErCE : List Entry := [.out 51 (RSh.one (CK.int .i64))]
theorem ErCE_ok : ∀ e ∈ ErCE, EntOK env e := (ent_out ent_nil)
def TrCE_0a (n0 : Nat) (c1 : List PV) (i2 : Int) : Q := ⟨(tm 41 [(0, (AV.p (PV.list n0 c1))), (4, (AV.p (PV.int .i64 i2)))]), (mm 41 [])⟩
def XrCE_0a (y : Int × Int) : Ext × Q := (Ext.ret, ⟨(tm 41 [(2, (AV.p (PV.int .i64 y.1))), (3, (AV.p (PV.int .i64 y.2)))]), (mm 41 [])⟩)
def IrCE_0a (q : Ext × S) : Int × Int := ((pP_int1 (pA_p (avT q.2 2))), (pP_int1 (pA_p (avT q.2 3))))
def XrCE_0b (_y : Unit) : Ext × Q := (Ext.normal, ⟨(tm 41 []), (mm 41 [])⟩)
def IrCE_0b (_q : Ext × S) : Unit := ()
abbrev YrCE_0 : Type := (Int × Int) ⊕ ((Unit))
def XLrCE_0 : XL YrCE_0 := .more XrCE_0a (.one XrCE_0b)
def IrCE_0 (q : Ext × S) : YrCE_0 := bif (cE q.1 == 2) then (Sum.inl (IrCE_0a q)) else (Sum.inr (IrCE_0b q))
theorem XIrCE_0a (y : Int × Int) : IrCE_0 (xe (XrCE_0a y)) = (Sum.inl y) := by kernel_rfl
theorem XIrCE_0b (y : Unit) : IrCE_0 (xe (XrCE_0b y)) = (Sum.inr y) := by kernel_rfl
theorem XIrCE_0 (y : YrCE_0) : IrCE_0 (xe (XLrCE_0.fn y)) = y := (match y with | .inl y => XIrCE_0a y | .inr y => XIrCE_0b y)
noncomputable abbrev LrCE_0 : Q → Option YrCE_0 := lpO env a58.body 0 XLrCE_0
noncomputable abbrev RrCE_0 : Q → Option (Ext × S) := lpR env a58.body 0
theorem UrCE : uniq ((blocksOf a58.body).map (·.1)) = true := by kernel_rfl
def BrCE_0a (F : FnT) (N : QO) (E : EO) (_L0 : Q → Option YrCE_0) (n0 : Nat) (c1 : List PV) (i2 : Int) : Option (Ext × S) :=
  bif (decide (i2 < (n0 : Int))) then
    bif (decide (((0 : Int) ≤ i2) ∧ (i2 < (n0 : Int)))) then
      bindO (intC .i64 (c1[((Int.toNat i2) * 3)]?)) fun x0 =>
      bindO (intC .i64 (c1[(((Int.toNat i2) * 3) + 1)]?)) fun x1 =>
      bindO (intC .i64 (c1[((((Int.toNat i2) * 3) + 1) + 1)]?)) fun x2 =>
      bindO (F 51 (RSh.one (CK.int .i64)) [(PV.agg [(PV.int .i64 x0), (PV.int .i64 x1), (PV.int .i64 x2)])]) fun (y3 : (Int)) =>
      bif (y3 != (0 : Int)) then
        E (XrCE_0a (i2, y3))
      else bif (decide (i2 > (0 : Int))) then
        bif (decide (((0 : Int) ≤ i2) ∧ (i2 < (n0 : Int)))) then
          bindO (intC .i64 (c1[(((Int.toNat i2) * 3) + 0)]?)) fun x4 =>
          bif (decide (((0 : Int) ≤ (w64 (i2 - (1 : Int)))) ∧ ((w64 (i2 - (1 : Int))) < (n0 : Int)))) then
            bindO (intC .i64 (c1[(((Int.toNat (w64 (i2 - (1 : Int)))) * 3) + 0)]?)) fun x5 =>
            bif (decide (x4 ≤ x5)) then
              E (XrCE_0a (i2, (9 : Int)))
            else N (TrCE_0a n0 c1 (w64 (i2 + (1 : Int))))
          else none
        else none
      else N (TrCE_0a n0 c1 (w64 (i2 + (1 : Int))))
    else none
  else E (XrCE_0b ())
theorem BrCE_0a_eq (F : FnT) (N : QO) (E : EO) (L0 : Q → Option YrCE_0) (n0 : Nat) (c1 : List PV) (i2 : Int) : semB (callP F ErCE 20) s58 (loopT [⟨0, YrCE_0, L0, XLrCE_0⟩]) 400 (blkIn a58.body 0) N E (TrCE_0a n0 c1 i2) = BrCE_0a F N E L0 n0 c1 i2 := by kernel_rfl
theorem RrCE_0a_of  (n0 : Nat) (c1 : List PV) (i2 : Int) {r : Ext × S} (h : BrCE_0a (Fn env) RrCE_0 exO LrCE_0 n0 c1 i2 = some r) : RrCE_0 (TrCE_0a n0 c1 i2) = some r :=
  lp_of ErCE_ok (by kernel_rfl) (lo_cons (lpO_ok UrCE) lo_nil) (by kernel_rfl) ((BrCE_0a_eq _ _ _ _ _ _ _).trans h)
def trCE (_F : FnT) (L0 : Q → Option YrCE_0) (p0n : Nat) (p0c : List PV) : Option ((Int) × (Int)) :=
  bif (decide ((p0n : Int) > (40 : Int))) then
    some ((0 : Int), (8 : Int))
  else bindO (L0 (TrCE_0a p0n p0c (0 : Int))) fun z =>
  Sum.elim (fun y0 =>
    some (y0.1, y0.2)) (fun _y1 =>
    some ((0 : Int), (0 : Int))) z
theorem trCE_eq (F : FnT) (L0 : Q → Option YrCE_0) (p0n : Nat) (p0c : List PV) : semF (callP F ErCE 20) s58 (loopT [⟨0, YrCE_0, L0, XLrCE_0⟩]) 400 a58 [PV.list p0n p0c] (fun rv => decR (RSh.tup [(Prod.mk false [(CK.int .i64)]), (Prod.mk false [(CK.int .i64)])]) rv.pv) = trCE F L0 p0n p0c := by kernel_rfl
noncomputable abbrev FrCE (args : List PV) := Fn env 58 (RSh.tup [(Prod.mk false [(CK.int .i64)]), (Prod.mk false [(CK.int .i64)])]) args
theorem FrCE_of  (p0n : Nat) (p0c : List PV) {res : ((Int) × (Int))} (h : trCE (Fn env) LrCE_0 p0n p0c = some res) : FrCE [PV.list p0n p0c] = some res :=
  fn_of ErCE_ok rfl rfl (lo_cons (lpO_ok UrCE) lo_nil) ((trCE_eq _ _ _ _).trans h)
def ErEsE : List Entry := [.out 58 (RSh.tup [(Prod.mk false [(CK.int .i64)]), (Prod.mk false [(CK.int .i64)])])]
theorem ErEsE_ok : ∀ e ∈ ErEsE, EntOK env e := (ent_out ent_nil)
def trEsE (F : FnT) (p0n : Nat) (p0c : List PV) : Option (Int) :=
  bindO (F 58 (RSh.tup [(Prod.mk false [(CK.int .i64)]), (Prod.mk false [(CK.int .i64)])]) [(PV.list p0n p0c)]) fun (y0 : ((Int) × (Int))) =>
  some y0.2
theorem trEsE_eq (F : FnT) (p0n : Nat) (p0c : List PV) : semF (callP F ErEsE 20) s63 (loopT []) 400 a63 [PV.list p0n p0c] (fun rv => decR (RSh.one (CK.int .i64)) rv.pv) = trEsE F p0n p0c := by kernel_rfl
noncomputable abbrev FrEsE (args : List PV) := Fn env 63 (RSh.one (CK.int .i64)) args
theorem FrEsE_of  (p0n : Nat) (p0c : List PV) {res : (Int)} (h : trEsE (Fn env) p0n p0c = some res) : FrEsE [PV.list p0n p0c] = some res :=
  fn_of ErEsE_ok rfl rfl lo_nil ((trEsE_eq _ _ _).trans h)
end Gv
