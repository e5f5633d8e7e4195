/- Numbers of a machine's word, and lists as rows of cells. -/
import Derived.IntWalk
import Derived.Test.YtfhgjanheaocaaaGvU
namespace Gv
open Go
theorem w64_eq (n : Int) : w64 n = (n + 9223372036854775808) % 18446744073709551616 - 9223372036854775808 := by
  unfold w64
  rw [IntKind.wrap_i64]
theorem w64_in {n : Int} (h : -9223372036854775808 ≤ n ∧ n ≤ 9223372036854775807) : w64 n = n := by rw [w64_eq]; omega
theorem w64_lo (n : Int) : -9223372036854775808 ≤ w64 n := by rw [w64_eq]; omega
theorem w64_hi (n : Int) : w64 n ≤ 9223372036854775807 := by rw [w64_eq]; omega
@[simp] theorem w64_w64 (n : Int) : w64 (w64 n) = w64 n := w64_in ⟨w64_lo n, w64_hi n⟩
theorem w64_sub (n : Int) : ∃ k : Int, w64 n = n + 18446744073709551616 * k := by
  refine ⟨-((n + 9223372036854775808) / 18446744073709551616), ?_⟩
  rw [w64_eq]; omega
theorem w64_cong {a b : Int} (h : ∃ k : Int, a = b + 18446744073709551616 * k) : w64 a = w64 b := by
  obtain ⟨k, rfl⟩ := h
  rw [w64_eq, w64_eq]; omega
theorem w64_add_l (a b : Int) : w64 (w64 a + b) = w64 (a + b) := by rw [w64_eq, w64_eq, w64_eq]; omega
theorem w64_add_r (a b : Int) : w64 (a + w64 b) = w64 (a + b) := by rw [w64_eq, w64_eq, w64_eq]; omega
theorem w64_sub_l (a b : Int) : w64 (w64 a - b) = w64 (a - b) := by rw [w64_eq, w64_eq, w64_eq]; omega
theorem w64_sub_r (a b : Int) : w64 (a - w64 b) = w64 (a - b) := by rw [w64_eq, w64_eq, w64_eq]; omega
theorem w64_mul_l (a b : Int) : w64 (w64 a * b) = w64 (a * b) := by
  obtain ⟨k, hk⟩ := w64_sub a
  refine w64_cong ⟨k * b, ?_⟩
  rw [hk, Int.add_mul, Int.mul_assoc]
theorem w64_mul_r (a b : Int) : w64 (a * w64 b) = w64 (a * b) := by rw [Int.mul_comm, w64_mul_l, Int.mul_comm]
@[simp] theorem intC_int (k : IntKind) (x : Int) : intC k (some (.int k x)) = some x := by simp [intC]
@[simp] theorem boolC_bool (x : Bool) : boolC (some (.bool x)) = some x := rfl
@[simp] theorem strC_str (x : ByteArray) : strC (some (.str x)) = some x := rfl
@[simp] theorem listC_list (n : Nat) (cs : List PV) : listC (some (.list n cs)) = some (n, cs) := rfl
@[simp] theorem anyC_some (x : PV) : anyC (some x) = some x := rfl
@[simp] theorem cellV_p (v : PV) : cellV (some (.p v)) = some v := rfl
@[simp] theorem cellV_none : cellV none = none := rfl
@[simp] theorem intC_none (k : IntKind) : intC k none = none := rfl
@[simp] theorem listC_none : listC none = none := rfl
theorem flat_get {β : Type} (f : β → List PV) (k : Nat) (hf : ∀ x, (f x).length = k) : ∀ (l : List β) (i j : Nat), j < k → (l.flatMap f)[i * k + j]? = l[i]?.bind fun x => (f x)[j]?
  | [], i, j, hj => by simp
  | x :: l, 0, j, hj => by
    simp only [List.flatMap_cons, Nat.zero_mul, Nat.zero_add, List.getElem?_cons_zero, Option.bind_some]
    rw [List.getElem?_append_left (by rw [hf]; exact hj)]
  | x :: l, i + 1, j, hj => by
    simp only [List.flatMap_cons, List.getElem?_cons_succ]
    rw [List.getElem?_append_right (by rw [hf, Nat.succ_mul]; omega), hf, ← flat_get f k hf l i j hj]
    congr 1
    rw [Nat.succ_mul]; omega
theorem flat_len {β : Type} (f : β → List PV) (k : Nat) (hf : ∀ x, (f x).length = k) : ∀ (l : List β), (l.flatMap f).length = l.length * k
  | [] => by simp
  | x :: l => by rw [List.flatMap_cons, List.length_append, hf, flat_len f k hf l, List.length_cons, Nat.succ_mul]; omega
theorem flat_drop {β : Type} (f : β → List PV) (k : Nat) (hf : ∀ x, (f x).length = k) : ∀ (l : List β) (i : Nat), (l.flatMap f).drop (i * k) = (l.drop i).flatMap f
  | [], i => by simp
  | x :: l, 0 => by simp
  | x :: l, i + 1 => by
    rw [List.flatMap_cons, List.drop_succ_cons, ← flat_drop f k hf l i, Nat.succ_mul, Nat.add_comm, ← List.drop_drop, List.drop_left' (hf x)]
theorem flat_take {β : Type} (f : β → List PV) (k : Nat) (hf : ∀ x, (f x).length = k) : ∀ (l : List β) (i : Nat), (l.flatMap f).take (i * k) = (l.take i).flatMap f
  | [], i => by simp
  | x :: l, 0 => by simp
  | x :: l, i + 1 => by
    rw [List.flatMap_cons, List.take_succ_cons, List.flatMap_cons, ← flat_take f k hf l i, Nat.succ_mul, Nat.add_comm, List.take_append, hf, Nat.add_sub_cancel_left, List.take_of_length_le (by rw [hf]; omega)]
def encI (l : List Int) : List PV := l.map (PV.int .i64)
@[simp] theorem encI_len (l : List Int) : (encI l).length = l.length := by simp [encI]
@[simp] theorem encI_get (l : List Int) (i : Nat) : (encI l)[i]? = l[i]?.map (PV.int .i64) := by simp [encI]
@[simp] theorem encI_nil : encI [] = [] := rfl
@[simp] theorem encI_app (a b : List Int) : encI (a ++ b) = encI a ++ encI b := by simp [encI]
theorem encI_one (x : Int) : [PV.int .i64 x] = encI [x] := rfl
abbrev ZZ := Int × Int
def enc2 (z : ZZ) : List PV := [.int .i64 z.1, .int .i64 z.2]
def encG (l : List ZZ) : List PV := l.flatMap enc2
theorem enc2_len (z : ZZ) : (enc2 z).length = 2 := rfl
@[simp] theorem encG_len (l : List ZZ) : (encG l).length = l.length * 2 := flat_len enc2 2 enc2_len l
theorem encG_0 (l : List ZZ) (i : Nat) : (encG l)[i * 2]? = l[i]?.map fun z => PV.int .i64 z.1 := by
  have := flat_get enc2 2 enc2_len l i 0 (by omega)
  rw [Nat.add_zero] at this
  unfold encG
  rw [this]
  cases l[i]? <;> rfl
theorem encG_1 (l : List ZZ) (i : Nat) : (encG l)[i * 2 + 1]? = l[i]?.map fun z => PV.int .i64 z.2 := by
  have := flat_get enc2 2 enc2_len l i 1 (by omega)
  unfold encG
  rw [this]
  cases l[i]? <;> rfl
@[simp] theorem encG_nil : encG [] = [] := rfl
@[simp] theorem encG_app (a b : List ZZ) : encG (a ++ b) = encG a ++ encG b := by simp [encG]
theorem encG_one (z : ZZ) : [PV.int .i64 z.1, PV.int .i64 z.2] = encG [z] := rfl
theorem encG_drop (l : List ZZ) (i : Nat) : (encG l).drop (i * 2) = encG (l.drop i) := flat_drop enc2 2 enc2_len l i
theorem encG_take (l : List ZZ) (i : Nat) : (encG l).take (i * 2) = encG (l.take i) := flat_take enc2 2 enc2_len l i
end Gv
