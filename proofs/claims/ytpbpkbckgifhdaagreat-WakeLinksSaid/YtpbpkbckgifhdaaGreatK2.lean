import Derived.Test.YtpbpkbckgifhdaaGreatGvEnv
import Derived.Test.YtpbpkbckgifhdaaGreatGvYm

/- What the functions do, round by round: B1. -/
namespace Gv
open Go
set_option maxRecDepth 100000
def ErE : List Entry := [.inl 54 a54 s54]
theorem ErE_ok : ∀ e ∈ ErE, EntOK env e := (ent_inl rfl ent_nil)
def trE (F : FnT) (p0 p1 p2 : Int) : Option (Int) :=
 bif (decide (p0 < p1)) then
  some (2 : Int)
 else bif (decide (p0 > p2)) then
  some (2 : Int)
 else some (0 : Int)
theorem trE_eq (F p0 p1 p2) : semF (callP F ErE 20) s84 (loopT []) 400 a84 [PV.int .i64 p0, PV.int .i64 p1, PV.int .i64 p2] (fun rv => decR (RSh.one (CK.int .i64)) rv.pv) = trE F p0 p1 p2 := by kernel_rfl
noncomputable abbrev FrE (args : List PV) := Fn env 84 (RSh.one (CK.int .i64)) args
theorem FrE_of  (p0 p1 p2 : Int) {res : (Int)} (h : trE (Fn env) p0 p1 p2 = some res) : FrE [PV.int .i64 p0, PV.int .i64 p1, PV.int .i64 p2] = some res :=
 fn_of ErE_ok rfl rfl lo_nil ((trE_eq _ _ _ _).trans h)
def EfE2 : List Entry := []
theorem EfE2_ok : ∀ e ∈ EfE2, EntOK env e := ent_nil
def tfE2 (F : FnT)(e0 e1 : Int) : Option (Int) :=
 bif (e0 != (0 : Int)) then
  some e0
 else bif (e1 != (0 : Int)) then
  some e1
 else some (0 : Int)
theorem tfE2_eq (F e0 e1) : semF (callP F EfE2 20) s53 (loopT []) 400 a53 [.list 2 [.int .i64 e0, .int .i64 e1]] (fun rv => decR (RSh.one (CK.int .i64)) rv.pv) = tfE2 F e0 e1 := by kernel_rfl
noncomputable abbrev FfE2 (args : List PV) := Fn env 53 (RSh.one (CK.int .i64)) args
theorem FfE2_of (e0 e1 : Int) {res : (Int)} (h : tfE2 (Fn env) e0 e1 = some res) : FfE2 [.list 2 [.int .i64 e0, .int .i64 e1]] = some res :=
 fn_of EfE2_ok rfl rfl lo_nil ((tfE2_eq _ _ _).trans h)
def EfE3 : List Entry := []
theorem EfE3_ok : ∀ e ∈ EfE3, EntOK env e := ent_nil
def tfE3 (F : FnT)(e0 e1 e2 : Int) : Option (Int) :=
 bif (e0 != (0 : Int)) then
  some e0
 else bif (e1 != (0 : Int)) then
  some e1
 else bif (e2 != (0 : Int)) then
  some e2
 else some (0 : Int)
theorem tfE3_eq (F e0 e1 e2) : semF (callP F EfE3 20) s53 (loopT []) 400 a53 [.list 3 [.int .i64 e0, .int .i64 e1, .int .i64 e2]] (fun rv => decR (RSh.one (CK.int .i64)) rv.pv) = tfE3 F e0 e1 e2 := by kernel_rfl
noncomputable abbrev FfE3 (args : List PV) := Fn env 53 (RSh.one (CK.int .i64)) args
theorem FfE3_of (e0 e1 e2 : Int) {res : (Int)} (h : tfE3 (Fn env) e0 e1 e2 = some res) : FfE3 [.list 3 [.int .i64 e0, .int .i64 e1, .int .i64 e2]] = some res :=
 fn_of EfE3_ok rfl rfl lo_nil ((tfE3_eq _ _ _ _).trans h)
end Gv

/- What the functions do, round by round: B2. -/
namespace Gv
open Go
set_option maxRecDepth 100000
def EbWi : List Entry := []
theorem EbWi_ok : ∀ e ∈ EbWi, EntOK env e := ent_nil
def tbWi (F : FnT) (p0 p1 p2 : Int) : Option (Bool) :=
 bif (decide (p1 ≤ p0)) then
  bif (decide (p0 ≤ p2)) then
   some true
  else some false
 else some false
theorem tbWi_eq (F p0 p1 p2) : semF (callP F EbWi 20) s90 (loopT []) 400 a90 [PV.int .i64 p0, PV.int .i64 p1, PV.int .i64 p2] (fun rv => decR (RSh.one CK.bool) rv.pv) = tbWi F p0 p1 p2 := by kernel_rfl
noncomputable abbrev FbWi (args : List PV) := Fn env 90 (RSh.one CK.bool) args
theorem FbWi_of  (p0 p1 p2 : Int) {res : (Bool)} (h : tbWi (Fn env) p0 p1 p2 = some res) : FbWi [PV.int .i64 p0, PV.int .i64 p1, PV.int .i64 p2] = some res :=
 fn_of EbWi_ok rfl rfl lo_nil ((tbWi_eq _ _ _ _).trans h)
end Gv

/- What the functions do, round by round: B3. -/
namespace Gv
open Go
set_option maxRecDepth 100000
end Gv

/- Boxes: errors, the box after some ticks, what two boxes have in common. -/
namespace Gv
open Go
set_option maxRecDepth 100000
abbrev B6 := Int × Int × Int × Int × Int × Int
theorem rE_is (x lo hi : Int) : FrE [.int .i64 x, .int .i64 lo, .int .i64 hi] = some (rangeE x lo hi) :=
 FrE_of x lo hi (by
  unfold trE rangeE
  by_cases h1 : x < lo
  ·simp [h1]
  ·by_cases h2 : x > hi
   ·have : hi < x := h2
    simp [h1, this]
   ·have : ¬ hi < x := h2
    simp [h1, this])
theorem fE2_is (a b : Int) : FfE2 [.list 2 [.int .i64 a, .int .i64 b]] = some (both a b) :=
 FfE2_of a b (by
  unfold tfE2 both
  simp only [bif_ne]
  by_cases h1 : a = 0 <;> by_cases h2 : b = 0 <;> simp [h1, h2])
theorem fE3_is (a b c : Int) : FfE3 [.list 3 [.int .i64 a, .int .i64 b, .int .i64 c]] = some (first3 a b c) :=
 FfE3_of a b c (by
  unfold tfE3 first3
  simp only [bif_ne]
  by_cases h1 : a = 0 <;> by_cases h2 : b = 0 <;> by_cases h3 : c = 0 <;> simp [h1, h2, h3])
theorem rangeE_if (x a b : Int) : rangeE x a b = if a ≤ x ∧ x ≤ b then 0 else 2 := by unfold rangeE; split <;> split <;> omega
theorem bWi_is (x a b : Int) : FbWi [.int .i64 x, .int .i64 a, .int .i64 b] = some (decide (a ≤ x ∧ x ≤ b)) :=
 FbWi_of _ _ _ (by
  unfold tbWi
  by_cases h1 : a ≤ x <;> by_cases h2 : x ≤ b <;> simp [h1, h2])
def ord3 (a b c d e f : Int) : Int := if a ≤ b ∧ c ≤ d ∧ e ≤ f then 0 else 9
def driE (d : B6) : Int := if ((-100 ≤ d.1 ∧ d.1 ≤ 100) ∧ (-100 ≤ d.2.1 ∧ d.2.1 ≤ 100)) ∧ ((0 ≤ d.2.2.1 ∧ d.2.2.1 ≤ 100) ∧ (0 ≤ d.2.2.2.1 ∧ d.2.2.2.1 ≤ 100)) ∧ ((0 ≤ d.2.2.2.2.1 ∧ d.2.2.2.2.1 ≤ 100) ∧ (0 ≤ d.2.2.2.2.2 ∧ d.2.2.2.2.2 ≤ 100)) then ord3 d.1 d.2.1 d.2.2.1 d.2.2.2.1 d.2.2.2.2.1 d.2.2.2.2.2 else 2
def pos (x : Int) : Int := if x > 0 then x else 0
end Gv

/- Paths: what the program and the specification accept. -/
namespace Gv
open Go
set_option maxRecDepth 100000
abbrev Z3 := Int × Int × Int
def enc3 (z : Z3) : List PV := [.int .i64 z.1, .int .i64 z.2.1, .int .i64 z.2.2]
def encT (l : List Z3) : List PV := l.flatMap enc3
theorem enc3_len (z : Z3) : (enc3 z).length = 3 := rfl
theorem encT_len (l : List Z3) : (encT l).length = l.length * 3 := flat_len enc3 3 enc3_len l
theorem encT_0 (l : List Z3) (i : Nat) : (encT l)[i * 3]? = l[i]?.map fun z => PV.int .i64 z.1 := by
 have := flat_get enc3 3 enc3_len l i 0 (by omega)
 rw [Nat.add_zero] at this
 rw [encT, this]
 cases l[i]? <;> rfl
theorem encT_1 (l : List Z3) (i : Nat) : (encT l)[i * 3 + 1]? = l[i]?.map fun z => PV.int .i64 z.2.1 := by
 rw [encT, flat_get enc3 3 enc3_len l i 1 (by omega)]
 cases l[i]? <;> rfl
theorem encT_2 (l : List Z3) (i : Nat) : (encT l)[i * 3 + 1 + 1]? = l[i]?.map fun z => PV.int .i64 z.2.2 := by
 rw [encT, Nat.add_assoc, flat_get enc3 3 enc3_len l i 2 (by omega)]
 cases l[i]? <;> rfl
def Hd (b : B6) (v : Z3) : Prop := (b.1 ≤ v.1 ∧ v.1 ≤ b.2.1) ∧ (b.2.2.1 ≤ v.2.1 ∧ v.2.1 ≤ b.2.2.2.1) ∧ (b.2.2.2.2.1 ≤ v.2.2 ∧ v.2.2 ≤ b.2.2.2.2.2)
instance (b : B6) (v : Z3) : Decidable (Hd b v) := by unfold Hd; exact inferInstance
def encV (v : Z3) : PV := .agg [.int .i64 v.1, .int .i64 v.2.1, .int .i64 v.2.2]
def InB (a b : B6) : Prop := b.1 ≤ a.1 ∧ a.2.1 ≤ b.2.1 ∧ b.2.2.1 ≤ a.2.2.1 ∧ a.2.2.2.1 ≤ b.2.2.2.1 ∧ b.2.2.2.2.1 ≤ a.2.2.2.2.1 ∧ a.2.2.2.2.2 ≤ b.2.2.2.2.2
instance (a b : B6) : Decidable (InB a b) := by unfold InB; exact inferInstance
end Gv
