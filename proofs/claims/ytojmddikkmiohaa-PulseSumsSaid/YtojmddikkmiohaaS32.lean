/- A stream that goes on: what is new of its correlations. -/
import Derived.Test.YtojmddikkmiohaaS31
namespace Gv
open Go
set_option maxRecDepth 100000

def subZ (a b : ZZ) : ZZ := (w64 (a.1 - b.1), w64 (a.2 - b.2))
def NZ (a : ZZ) : Prop := w64 a.1 = a.1 ∧ w64 a.2 = a.2
theorem w64_2 (x : Int) : w64 (w64 x) = w64 x := w64_w64 x
theorem addZ_nz (a b : ZZ) : NZ (addZ a b) := ⟨w64_2 _, w64_2 _⟩
theorem sumC_nz : ∀ (ps : List (ZZ × ZZ)) (acc : ZZ), NZ acc → NZ (sumC ps acc)
  | [], _, h => h
  | p :: ps, acc, _ => sumC_nz ps (addZ acc (cmul p.1 p.2)) (addZ_nz _ _)
theorem nz_zero : NZ (0, 0) := ⟨by decide, by decide⟩
theorem addZ_zero {a : ZZ} (h : NZ a) : addZ a (0, 0) = a := by
  unfold addZ
  simp only [Int.add_zero]
  rw [h.1, h.2]
theorem zero_addZ {a : ZZ} (h : NZ a) : addZ (0, 0) a = a := by
  unfold addZ
  simp only [Int.zero_add]
  rw [h.1, h.2]
theorem addZ_comm (a b : ZZ) : addZ a b = addZ b a := by
  unfold addZ
  rw [Int.add_comm, Int.add_comm a.2]
theorem addZ_assoc (a b c : ZZ) : addZ (addZ a b) c = addZ a (addZ b c) := by
  unfold addZ
  simp only [w64_add_l, w64_add_r, Int.add_assoc]
theorem sumC_acc : ∀ (ps : List (ZZ × ZZ)) (acc : ZZ), NZ acc → sumC ps acc = addZ acc (sumC ps (0, 0))
  | [], acc, h => (addZ_zero h).symm
  | p :: ps, acc, h => by
    show sumC ps (addZ acc (cmul p.1 p.2)) = addZ acc (sumC ps (addZ (0, 0) (cmul p.1 p.2)))
    rw [sumC_acc ps _ (addZ_nz _ _), sumC_acc ps (addZ (0, 0) (cmul p.1 p.2)) (addZ_nz _ _), addZ_assoc, addZ_assoc, ← addZ_assoc acc (0, 0), addZ_zero h]
theorem subZ_addZ (a : ZZ) {b : ZZ} (h : NZ b) : subZ (addZ a b) a = b := by
  unfold subZ addZ
  simp only [w64_sub_l]
  rw [show a.1 + b.1 - a.1 = b.1 by omega, show a.2 + b.2 - a.2 = b.2 by omega, h.1, h.2]

theorem zip_old (t p : List ZZ) (n : Nat) : ((t ++ p).zip ((t ++ p).drop n)).take (t.length - n) = t.zip (t.drop n) := by
  have e1 : ∀ (k : Nat) (a b : List ZZ), (a.zip b).take k = (a.take k).zip (b.take k) := fun k a b => by
    simp only [List.zip_eq_zipWith, List.take_zipWith]
  rw [e1, List.zip_eq_zip_take_min (l₁ := t) (l₂ := t.drop n), List.length_drop, show min t.length (t.length - n) = t.length - n by omega]
  congr 1
  · rw [List.take_append, show t.length - n - t.length = 0 by omega, List.take_zero, List.append_nil]
  · by_cases h : n ≤ t.length
    · rw [List.drop_append_of_le_length h, List.take_append, List.length_drop, Nat.sub_self, List.take_zero, List.append_nil]
    · rw [show t.length - n = 0 by omega, List.take_zero, List.take_zero]
/-- What a piece adds to a correlation. -/
theorem corr_new (t p : List ZZ) (n : Nat) : subZ (sumC ((t ++ p).zip ((t ++ p).drop n)) (0, 0)) (sumC (t.zip (t.drop n)) (0, 0)) = corrF (t ++ p) n t.length := by
  unfold corrF
  have e : (t ++ p).zip ((t ++ p).drop n) = t.zip (t.drop n) ++ ((t ++ p).zip ((t ++ p).drop n)).drop (t.length - n) := by
    rw [← zip_old t p n, List.take_append_drop]
  have s : sumC ((t ++ p).zip ((t ++ p).drop n)) (0, 0) = sumC (((t ++ p).zip ((t ++ p).drop n)).drop (t.length - n)) (sumC (t.zip (t.drop n)) (0, 0)) := by
    rw [e]
    unfold sumC
    rw [List.foldl_append]
    congr 1
    rw [← e]
  rw [s, sumC_acc _ _ (sumC_nz _ _ nz_zero)]
  exact subZ_addZ _ (sumC_nz _ _ nz_zero)

def tabZ (f : Nat → ZZ) (n : Nat) : List ZZ := (List.range n).map f
@[simp] theorem tabZ_len (f : Nat → ZZ) (n : Nat) : (tabZ f n).length = n := by simp [tabZ]
theorem tabZ_succ (f : Nat → ZZ) (n : Nat) : tabZ f (n + 1) = tabZ f n ++ [f n] := by simp [tabZ, List.range_succ]
theorem tabZ_get (f : Nat → ZZ) {n i : Nat} (h : i < n) : (tabZ f n)[i]? = some (f i) := by simp [tabZ, List.getElem?_range h]
theorem tabZ_mem {f : Nat → ZZ} {n : Nat} {z : ZZ} (h : z ∈ tabZ f n) : ∃ i, i < n ∧ z = f i := by
  unfold tabZ at h
  obtain ⟨i, hi, rfl⟩ := List.mem_map.1 h
  exact ⟨i, List.mem_range.1 hi, rfl⟩

/-- The sum after a piece. -/
def nwF (a t p : List ZZ) (n : Nat) : ZZ := addZ (a.getD n (0, 0)) (corrF (t ++ p) n t.length)
def nwL (a t p : List ZZ) : List ZZ := tabZ (nwF a t p) a.length
def kpN (a t p : List ZZ) : Nat := min (t ++ p).length (a.length - 1)
def nwT (a t p : List ZZ) : List ZZ := (t ++ p).drop ((t ++ p).length - kpN a t p)
theorem nwT_len (a t p : List ZZ) : (nwT a t p).length = kpN a t p := by
  unfold nwT
  rw [List.length_drop]
  unfold kpN
  omega
end Gv
