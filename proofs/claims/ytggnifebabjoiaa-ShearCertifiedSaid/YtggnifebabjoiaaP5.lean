/- What the functions do, round by round: P5. -/
import Derived.Test.YtggnifebabjoiaaGvEnv
namespace Gv
open Go
set_option maxRecDepth 100000
def EbMod : List Entry := []
theorem EbMod_ok : ∀ e ∈ EbMod, EntOK env e := ent_nil
def tbMod (_F : FnT) (p0 p1 : Int) : Option (Int) :=
  bif (decide (p1 ≠ (0 : Int))) then
    bif (decide ((Int.tmod p0 p1) < (0 : Int))) then
      some (w64 ((Int.tmod p0 p1) + p1))
    else some (Int.tmod p0 p1)
  else none
theorem tbMod_eq (F : FnT) (p0 p1 : Int) : semF (callP F EbMod 20) s18 (loopT []) 400 a18 [PV.int .i64 p0, PV.int .i64 p1] (fun rv => decR (RSh.one (CK.int .i64)) rv.pv) = tbMod F p0 p1 := by kernel_rfl
noncomputable abbrev FbMod (args : List PV) := Fn env 18 (RSh.one (CK.int .i64)) args
theorem FbMod_of  (p0 p1 : Int) {res : (Int)} (h : tbMod (Fn env) p0 p1 = some res) : FbMod [PV.int .i64 p0, PV.int .i64 p1] = some res :=
  fn_of EbMod_ok rfl rfl lo_nil ((tbMod_eq _ _ _).trans h)
def EbWi : List Entry := []
theorem EbWi_ok : ∀ e ∈ EbWi, EntOK env e := ent_nil
def tbWi (_F : FnT) (p0 p1 p2 : Int) : Option (Bool) :=
  bif (decide (p1 ≤ p0)) then
    bif (decide (p0 ≤ p2)) then
      some true
    else some false
  else some false
theorem tbWi_eq (F : FnT) (p0 p1 p2 : Int) : semF (callP F EbWi 20) s29 (loopT []) 400 a29 [PV.int .i64 p0, PV.int .i64 p1, PV.int .i64 p2] (fun rv => decR (RSh.one CK.bool) rv.pv) = tbWi F p0 p1 p2 := by kernel_rfl
noncomputable abbrev FbWi (args : List PV) := Fn env 29 (RSh.one CK.bool) args
theorem FbWi_of  (p0 p1 p2 : Int) {res : (Bool)} (h : tbWi (Fn env) p0 p1 p2 = some res) : FbWi [PV.int .i64 p0, PV.int .i64 p1, PV.int .i64 p2] = some res :=
  fn_of EbWi_ok rfl rfl lo_nil ((tbWi_eq _ _ _ _).trans h)
def ErWind : List Entry := [.out 29 (RSh.one CK.bool)]
theorem ErWind_ok : ∀ e ∈ ErWind, EntOK env e := (ent_out ent_nil)
def trWind (F : FnT) (p0 : Int) : Option (Bool) :=
  bindO (F 29 (RSh.one CK.bool) [(PV.int .i64 p0), (PV.int .i64 (-10000 : Int)), (PV.int .i64 (10000 : Int))]) fun (y0 : (Bool)) =>
  bif y0 then
    some true
  else some false
theorem trWind_eq (F : FnT) (p0 : Int) : semF (callP F ErWind 20) s80 (loopT []) 400 a80 [PV.int .i64 p0] (fun rv => decR (RSh.one CK.bool) rv.pv) = trWind F p0 := by kernel_rfl
noncomputable abbrev FrWind (args : List PV) := Fn env 80 (RSh.one CK.bool) args
theorem FrWind_of  (p0 : Int) {res : (Bool)} (h : trWind (Fn env) p0 = some res) : FrWind [PV.int .i64 p0] = some res :=
  fn_of ErWind_ok rfl rfl lo_nil ((trWind_eq _ _).trans h)
def ErAtE : List Entry := [.out 29 (RSh.one CK.bool)]
theorem ErAtE_ok : ∀ e ∈ ErAtE, EntOK env e := (ent_out ent_nil)
def trAtE (F : FnT) (p0 : Int) : Option (Int) :=
  bindO (F 29 (RSh.one CK.bool) [(PV.int .i64 p0), (PV.int .i64 (0 : Int)), (PV.int .i64 (50000 : Int))]) fun (y0 : (Bool)) =>
  bif y0 then
    some (0 : Int)
  else some (2 : Int)
theorem trAtE_eq (F : FnT) (p0 : Int) : semF (callP F ErAtE 20) s34 (loopT []) 400 a34 [PV.int .i64 p0] (fun rv => decR (RSh.one (CK.int .i64)) rv.pv) = trAtE F p0 := by kernel_rfl
noncomputable abbrev FrAtE (args : List PV) := Fn env 34 (RSh.one (CK.int .i64)) args
theorem FrAtE_of  (p0 : Int) {res : (Int)} (h : trAtE (Fn env) p0 = some res) : FrAtE [PV.int .i64 p0] = some res :=
  fn_of ErAtE_ok rfl rfl lo_nil ((trAtE_eq _ _).trans h)
def ErCP : List Entry := [.out 34 (RSh.one (CK.int .i64)), .out 80 (RSh.one CK.bool)]
theorem ErCP_ok : ∀ e ∈ ErCP, EntOK env e := (ent_out (ent_out ent_nil))
def TrCP_0a (n0 : Nat) (c1 : List PV) (i2 : Int) : Q := ⟨(tm 74 [(0, (AV.p (PV.list n0 c1))), (4, (AV.p (PV.int .i64 i2)))]), (mm 74 [])⟩
def XrCP_0a (y : Int × Int) : Ext × Q := (Ext.ret, ⟨(tm 74 [(2, (AV.p (PV.int .i64 y.1))), (3, (AV.p (PV.int .i64 y.2)))]), (mm 74 [])⟩)
def IrCP_0a (q : Ext × S) : Int × Int := ((pP_int1 (pA_p (avT q.2 2))), (pP_int1 (pA_p (avT q.2 3))))
def XrCP_0b (_y : Unit) : Ext × Q := (Ext.normal, ⟨(tm 74 []), (mm 74 [])⟩)
def IrCP_0b (_q : Ext × S) : Unit := ()
abbrev YrCP_0 : Type := (Int × Int) ⊕ ((Unit))
def XLrCP_0 : XL YrCP_0 := .more XrCP_0a (.one XrCP_0b)
def IrCP_0 (q : Ext × S) : YrCP_0 := bif (cE q.1 == 2) then (Sum.inl (IrCP_0a q)) else (Sum.inr (IrCP_0b q))
theorem XIrCP_0a (y : Int × Int) : IrCP_0 (xe (XrCP_0a y)) = (Sum.inl y) := by kernel_rfl
theorem XIrCP_0b (y : Unit) : IrCP_0 (xe (XrCP_0b y)) = (Sum.inr y) := by kernel_rfl
theorem XIrCP_0 (y : YrCP_0) : IrCP_0 (xe (XLrCP_0.fn y)) = y := (match y with | .inl y => XIrCP_0a y | .inr y => XIrCP_0b y)
noncomputable abbrev LrCP_0 : Q → Option YrCP_0 := lpO env a28.body 0 XLrCP_0
noncomputable abbrev RrCP_0 : Q → Option (Ext × S) := lpR env a28.body 0
theorem UrCP : uniq ((blocksOf a28.body).map (·.1)) = true := by kernel_rfl
def BrCP_0a (F : FnT) (N : QO) (E : EO) (_L0 : Q → Option YrCP_0) (n0 : Nat) (c1 : List PV) (i2 : Int) : Option (Ext × S) :=
  bif (decide (i2 < (n0 : Int))) then
    bif (decide (((0 : Int) ≤ i2) ∧ (i2 < (n0 : Int)))) then
      bindO (intC .i64 (c1[(((Int.toNat i2) * 3) + 0)]?)) fun x0 =>
      bindO (F 34 (RSh.one (CK.int .i64)) [(PV.int .i64 x0)]) fun (y1 : (Int)) =>
      bif (y1 != (0 : Int)) then
        E (XrCP_0a (i2, (2 : Int)))
      else bif (decide (((0 : Int) ≤ i2) ∧ (i2 < (n0 : Int)))) then
        bindO (intC .i64 (c1[((((Int.toNat i2) * 3) + 1) + 0)]?)) fun x2 =>
        bindO (F 80 (RSh.one CK.bool) [(PV.int .i64 x2)]) fun (y3 : (Bool)) =>
        bif y3 then
          bif (decide (((0 : Int) ≤ i2) ∧ (i2 < (n0 : Int)))) then
            bindO (intC .i64 (c1[((((Int.toNat i2) * 3) + 1) + 1)]?)) fun x4 =>
            bindO (F 80 (RSh.one CK.bool) [(PV.int .i64 x4)]) fun (y5 : (Bool)) =>
            bif y5 then
              bif (decide (((0 : Int) ≤ i2) ∧ (i2 < (n0 : Int)))) then
                bindO (intC .i64 (c1[((((Int.toNat i2) * 3) + 1) + 0)]?)) fun x6 =>
                bif (decide (((0 : Int) ≤ i2) ∧ (i2 < (n0 : Int)))) then
                  bindO (intC .i64 (c1[((((Int.toNat i2) * 3) + 1) + 1)]?)) fun x7 =>
                  bif (decide (x6 > x7)) then
                    E (XrCP_0a (i2, (9 : Int)))
                  else bif (decide (i2 > (0 : Int))) then
                    bif (decide (((0 : Int) ≤ i2) ∧ (i2 < (n0 : Int)))) then
                      bindO (intC .i64 (c1[(((Int.toNat i2) * 3) + 0)]?)) fun x8 =>
                      bif (decide (((0 : Int) ≤ (w64 (i2 - (1 : Int)))) ∧ ((w64 (i2 - (1 : Int))) < (n0 : Int)))) then
                        bindO (intC .i64 (c1[(((Int.toNat (w64 (i2 - (1 : Int)))) * 3) + 0)]?)) fun x9 =>
                        bif (decide (x8 ≤ x9)) then
                          E (XrCP_0a (i2, (9 : Int)))
                        else N (TrCP_0a n0 c1 (w64 (i2 + (1 : Int))))
                      else none
                    else none
                  else N (TrCP_0a n0 c1 (w64 (i2 + (1 : Int))))
                else none
              else none
            else E (XrCP_0a (i2, (2 : Int)))
          else none
        else E (XrCP_0a (i2, (2 : Int)))
      else none
    else none
  else E (XrCP_0b ())
theorem BrCP_0a_eq (F : FnT) (N : QO) (E : EO) (L0 : Q → Option YrCP_0) (n0 : Nat) (c1 : List PV) (i2 : Int) : semB (callP F ErCP 20) s28 (loopT [⟨0, YrCP_0, L0, XLrCP_0⟩]) 400 (blkIn a28.body 0) N E (TrCP_0a n0 c1 i2) = BrCP_0a F N E L0 n0 c1 i2 := by kernel_rfl
theorem RrCP_0a_of  (n0 : Nat) (c1 : List PV) (i2 : Int) {r : Ext × S} (h : BrCP_0a (Fn env) RrCP_0 exO LrCP_0 n0 c1 i2 = some r) : RrCP_0 (TrCP_0a n0 c1 i2) = some r :=
  lp_of ErCP_ok (by kernel_rfl) (lo_cons (lpO_ok UrCP) lo_nil) (by kernel_rfl) ((BrCP_0a_eq _ _ _ _ _ _ _).trans h)
def trCP (_F : FnT) (L0 : Q → Option YrCP_0) (p0n : Nat) (p0c : List PV) : Option ((Int) × (Int)) :=
  bif (decide ((p0n : Int) > (20 : Int))) then
    some ((0 : Int), (8 : Int))
  else bindO (L0 (TrCP_0a p0n p0c (0 : Int))) fun z =>
  Sum.elim (fun y0 =>
    some (y0.1, y0.2)) (fun _y1 =>
    some ((0 : Int), (0 : Int))) z
theorem trCP_eq (F : FnT) (L0 : Q → Option YrCP_0) (p0n : Nat) (p0c : List PV) : semF (callP F ErCP 20) s28 (loopT [⟨0, YrCP_0, L0, XLrCP_0⟩]) 400 a28 [PV.list p0n p0c] (fun rv => decR (RSh.tup [(Prod.mk false [(CK.int .i64)]), (Prod.mk false [(CK.int .i64)])]) rv.pv) = trCP F L0 p0n p0c := by kernel_rfl
noncomputable abbrev FrCP (args : List PV) := Fn env 28 (RSh.tup [(Prod.mk false [(CK.int .i64)]), (Prod.mk false [(CK.int .i64)])]) args
theorem FrCP_of  (p0n : Nat) (p0c : List PV) {res : ((Int) × (Int))} (h : trCP (Fn env) LrCP_0 p0n p0c = some res) : FrCP [PV.list p0n p0c] = some res :=
  fn_of ErCP_ok rfl rfl (lo_cons (lpO_ok UrCP) lo_nil) ((trCP_eq _ _ _ _).trans h)
def ErPE : List Entry := [.out 28 (RSh.tup [(Prod.mk false [(CK.int .i64)]), (Prod.mk false [(CK.int .i64)])])]
theorem ErPE_ok : ∀ e ∈ ErPE, EntOK env e := (ent_out ent_nil)
def trPE (F : FnT) (p0n : Nat) (p0c : List PV) : Option (Int) :=
  bindO (F 28 (RSh.tup [(Prod.mk false [(CK.int .i64)]), (Prod.mk false [(CK.int .i64)])]) [(PV.list p0n p0c)]) fun (y0 : ((Int) × (Int))) =>
  some y0.2
theorem trPE_eq (F : FnT) (p0n : Nat) (p0c : List PV) : semF (callP F ErPE 20) s37 (loopT []) 400 a37 [PV.list p0n p0c] (fun rv => decR (RSh.one (CK.int .i64)) rv.pv) = trPE F p0n p0c := by kernel_rfl
noncomputable abbrev FrPE (args : List PV) := Fn env 37 (RSh.one (CK.int .i64)) args
theorem FrPE_of  (p0n : Nat) (p0c : List PV) {res : (Int)} (h : trPE (Fn env) p0n p0c = some res) : FrPE [PV.list p0n p0c] = some res :=
  fn_of ErPE_ok rfl rfl lo_nil ((trPE_eq _ _ _).trans h)
def ErRamE : List Entry := [.out 29 (RSh.one CK.bool)]
theorem ErRamE_ok : ∀ e ∈ ErRamE, EntOK env e := (ent_out ent_nil)
def trRamE (F : FnT) (p0 : Int) : Option (Int) :=
  bindO (F 29 (RSh.one CK.bool) [(PV.int .i64 p0), (PV.int .i64 (1 : Int)), (PV.int .i64 (20000 : Int))]) fun (y0 : (Bool)) =>
  bif y0 then
    some (0 : Int)
  else some (2 : Int)
theorem trRamE_eq (F : FnT) (p0 : Int) : semF (callP F ErRamE 20) s31 (loopT []) 400 a31 [PV.int .i64 p0] (fun rv => decR (RSh.one (CK.int .i64)) rv.pv) = trRamE F p0 := by kernel_rfl
noncomputable abbrev FrRamE (args : List PV) := Fn env 31 (RSh.one (CK.int .i64)) args
theorem FrRamE_of  (p0 : Int) {res : (Int)} (h : trRamE (Fn env) p0 = some res) : FrRamE [PV.int .i64 p0] = some res :=
  fn_of ErRamE_ok rfl rfl lo_nil ((trRamE_eq _ _).trans h)
end Gv
