import Derived.Test.YtpbpkbckgifhdaaK2

/- What two boxes have in common. -/
namespace Gv
open Go
set_option maxRecDepth 100000
def mxV (x y : Int) : Int := if y > x then y else x
def mnV (x y : Int) : Int := if y < x then y else x
def meetV (a b : B6) : B6 := (mxV a.1 b.1, mnV a.2.1 b.2.1, mxV a.2.2.1 b.2.2.1, mnV a.2.2.2.1 b.2.2.2.1, mxV a.2.2.2.2.1 b.2.2.2.2.1, mnV a.2.2.2.2.2 b.2.2.2.2.2)
def Good (b : B6) : Prop := b.1 ≤ b.2.1 ∧ b.2.2.1 ≤ b.2.2.2.1 ∧ b.2.2.2.2.1 ≤ b.2.2.2.2.2
instance (b : B6) : Decidable (Good b) := by unfold Good; infer_instance
end Gv

/- Corridors: whether they are free, from which tick on. -/
namespace Gv
open Go
set_option maxRecDepth 100000
abbrev C7 := Int × Int × Int × Int × Int × Int × Int
def regV (c : C7) : B6 := (c.1, c.2.1, c.2.2.1, c.2.2.2.1, c.2.2.2.2.1, 10000)
theorem aft_good {b d : B6} (hb : boxE b = 0) (hd : driE d = 0) {t : Int} (ht : 0 ≤ t) : Good (aftV b d t) ∧ (aftV b d t).2.2.2.2.2 ≤ 10000 := by
  have h1 := boxE_ok hb
  have h2 := driE_ok hd
  have m1 := Int.mul_le_mul_of_nonneg_left (show d.1 ≤ d.2.1 by omega) ht
  have m2 := Int.mul_le_mul_of_nonneg_left (show d.2.2.1 ≤ d.2.2.2.1 by omega) ht
  have m3 := Int.mul_le_mul_of_nonneg_left (show d.2.2.2.2.1 ≤ d.2.2.2.2.2 by omega) ht
  have m4 := Int.mul_nonneg ht (show 0 ≤ d.2.2.2.2.1 by omega)
  unfold Good aftV pos
  simp only
  refine ⟨⟨by omega, ?_, ?_⟩, ?_⟩ <;> (repeat' split) <;> omega
end Gv

/- Corridors: the reference, and the earliest tick. -/
namespace Gv
open Go
set_option maxRecDepth 100000
def metAt (b d : B6) (c : C7) (t : Int) : Prop := Good (meetV (aftV b d t) (regV c))
instance (b d : B6) (c : C7) (t : Int) : Decidable (metAt b d c t) := by unfold metAt; infer_instance
end Gv

/- Paths and free corridors, in plain terms. -/
namespace Gv
open Go
set_option maxRecDepth 100000
theorem pos_mono {x y : Int} (h : x ≤ y) : pos x ≤ pos y := by unfold pos; split <;> split <;> omega
theorem aft_mono {a b d : B6} (h : InB a b) : InB (aftV a d 1) (aftV b d 1) := by
  unfold InB at *
  unfold aftV
  simp only [Int.one_mul]
  exact ⟨by omega, by omega, pos_mono (by omega), pos_mono (by omega), pos_mono (by omega), pos_mono (by omega)⟩
theorem badF_in {b d : B6} (hd : driE d = 0) : ∀ (l : List Z3) (w : B6) (i k : Nat), badF d w l i = none → InB w (aftV b d k) → ∀ (j : Nat) (v : Z3), l[j]? = some v → Hd (aftV b d ((k + j : Nat) : Int)) v
  | [], _, _, _, _, _, j, v, hv => by simp at hv
  | z :: l, w, i, k, h, hw, j, v, hv => by
    unfold badF at h
    split at h
    · rename_i hz
      have hz2 : InB (boxV z) (aftV b d k) := by
        rw [inB_hd]
        unfold Hd at *
        unfold InB at hw
        omega
      cases j with
      | zero =>
        simp at hv
        subst hv
        exact (inB_hd z _).1 hz2
      | succ j =>
        have hn := aft_mono (d := d) hz2
        rw [aft_succ hd (by omega)] at hn
        have := badF_in hd l _ _ (k + 1) h (by exact_mod_cast hn) j v (by simpa using hv)
        rw [show k + (j + 1) = k + 1 + j by omega]
        exact this
    · cases h
theorem path_in {b d : B6} (hb : boxE b = 0) (hd : driE d = 0) {l : List Z3} (h : (pathE b d l).2 = 0) {j : Nat} {v : Z3} (hv : l[j]? = some v) : Hd (aftV b d (j : Int)) v := by
  unfold pathE at h
  rw [if_neg (by simp [both, hb, hd])] at h
  have hl : l.length ≠ 0 := fun e => by
    have := (List.getElem?_eq_some_iff.1 hv).1
    omega
  rw [if_neg hl] at h
  split at h
  · cases h
  · unfold pathV at h
    split at h
    · cases h
    · rename_i hbad
      have h0 : InB b (aftV b d ((0 : Nat) : Int)) := by
        have := aft_zero (d := d) (box_sm hb).2
        have e : aftV b d ((0 : Nat) : Int) = b := this
        rw [e]
        unfold InB
        omega
      have := badF_in hd l b 0 0 hbad h0 j v hv
      rwa [Nat.zero_add] at this
end Gv
