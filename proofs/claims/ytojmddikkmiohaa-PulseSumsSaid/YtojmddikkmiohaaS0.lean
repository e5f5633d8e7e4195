/- What the small functions give: errors, ranges, numbers with two parts. -/
import Derived.Test.YtojmddikkmiohaaGvY
import Derived.Test.YtojmddikkmiohaaP1
namespace Gv
open Go
set_option maxRecDepth 100000

theorem up_ind {P : Nat → Prop} (n : Nat) (hend : P n) (hstep : ∀ i, i < n → P (i + 1) → P i) : ∀ i, i ≤ n → P i := by
  intro i hi
  obtain ⟨k, hk⟩ : ∃ k, k = n - i := ⟨_, rfl⟩
  induction k generalizing i with
  | zero => rw [show i = n by omega]; exact hend
  | succ k ih => exact hstep i (by omega) (ih (i + 1) (by omega) (by omega))

theorem bif_pos {α : Type} {p : Prop} [Decidable p] {a b : α} (h : p) : (bif decide p then a else b) = a := by simp [h]
theorem bif_neg {α : Type} {p : Prop} [Decidable p] {a b : α} (h : ¬ p) : (bif decide p then a else b) = b := by simp [h]

theorem bif_eq {α : Type} (x y : Int) (a b : α) : (bif x == y then a else b) = if x = y then a else b := by
  by_cases h : x = y
  · simp [h]
  · rw [if_neg h, show (x == y) = false by simpa using h]; rfl
theorem bif_ne {α : Type} (x y : Int) (a b : α) : (bif x != y then a else b) = if x = y then b else a := by
  by_cases h : x = y
  · simp [h]
  · rw [if_neg h, show (x != y) = true by simpa using h]; rfl

def both (a b : Int) : Int := if a ≠ 0 then a else b
def rangeE (x a b : Int) : Int := if x < a ∨ b < x then 2 else 0

theorem rangeE_in {x a b : Int} (h : a ≤ x ∧ x ≤ b) : rangeE x a b = 0 := if_neg (by omega)
theorem rangeE_out {x a b : Int} (h : ¬ (a ≤ x ∧ x ≤ b)) : rangeE x a b = 2 := if_pos (by omega)

theorem errorIf_is (b : Bool) (x : Int) : Fpulse_errorIf [.bool b, .int .i64 x] = some (if b then x else 0) :=
  Fpulse_errorIf_of b x (by cases b <;> rfl)

theorem rangeError_is (x a b : Int) : Fpulse_rangeError [.int .i64 x, .int .i64 a, .int .i64 b] = some (rangeE x a b) :=
  Fpulse_rangeError_of x a b (by
    unfold tpulse_rangeError rangeE
    by_cases h1 : x < a <;> by_cases h2 : b < x <;> simp [h1, h2])

theorem firstError2_is (a b : Int) : Fpulse_firstError_2 [.list 2 [.int .i64 a, .int .i64 b]] = some (both a b) :=
  Fpulse_firstError_2_of a b (by
    unfold tpulse_firstError_2 both
    simp only [bif_ne]
    by_cases h1 : a = 0 <;> by_cases h2 : b = 0 <;> simp [h1, h2])

theorem within_is (x a b : Int) : Fglidepathbase_Within [.int .i64 x, .int .i64 a, .int .i64 b] = some (decide (a ≤ x ∧ x ≤ b)) :=
  Fglidepathbase_Within_of x a b (by
    unfold tglidepathbase_Within
    by_cases h1 : a ≤ x <;> by_cases h2 : x ≤ b <;> simp [h1, h2])

def gaussE (m : Int) (z : ZZ) : Int := both (rangeE z.1 (-m) m) (rangeE z.2 (-m) m)

theorem parts_is (z : ZZ) (m : Int) (hm : 0 ≤ m ∧ m ≤ 4611686018427387904) : Fpulse_partsError_1 [.agg [.int .i64 z.1, .int .i64 z.2], .imm [.int .i64 m] 0] = some (gaussE m z) :=
  Fpulse_partsError_1_of z.1 z.2 m (by
    unfold tpulse_partsError_1
    rw [w64_in (by omega), Int.zero_sub]
    simp only [rangeError_is, firstError2_is, bindO_val]
    rfl)

/-- The first one with an error, from an index on. -/
def findE {β : Type} (f : β → Int) : List β → Nat → Option (Int × Int)
  | [], _ => none
  | x :: l, i => if f x ≠ 0 then some ((i : Int), f x) else findE f l (i + 1)

def sumE (o : Option (Int × Int)) : (Int × Int) ⊕ Unit := match o with
  | some p => .inl p
  | none => .inr ()

theorem get_drop {β : Type} {l : List β} {i : Nat} (h : i < l.length) : ∃ x, l[i]? = some x ∧ l.drop i = x :: l.drop (i + 1) :=
  ⟨l[i], List.getElem?_eq_getElem h, List.drop_eq_getElem_cons h⟩

theorem itemG_loop (m : Int) (hm : 0 ≤ m ∧ m ≤ 4611686018427387904) (l : List ZZ) (hl : l.length < 4294967296) : ∀ i, i ≤ l.length →
    Rpulse_itemError_glidepath_api_Gauss__0 (Tpulse_itemError_glidepath_api_Gauss__0a m l.length (encG l) l.length i) = exO (XLpulse_itemError_glidepath_api_Gauss__0.fn (sumE (findE (gaussE m) (l.drop i) i))) := by
  refine up_ind _ ?_ ?_
  · refine Rpulse_itemError_glidepath_api_Gauss__0a_of _ _ _ _ _ ?_
    unfold Bpulse_itemError_glidepath_api_Gauss__0a
    rw [bif_neg (by omega), List.drop_length]
    rfl
  · intro i hi ih
    refine Rpulse_itemError_glidepath_api_Gauss__0a_of _ _ _ _ _ ?_
    unfold Bpulse_itemError_glidepath_api_Gauss__0a
    obtain ⟨x, hx, hd⟩ := get_drop hi
    rw [bif_pos (by omega), bif_pos (by omega)]
    simp only [Int.toNat_natCast, encG_0, encG_1, hx, Option.map_some, intC_int, bindO_val, parts_is x m hm]
    rw [hd, w64_in (by omega)]
    by_cases he : gaussE m x = 0
    · simp only [he, bne_self_eq_false, cond_false]
      have := ih
      simp only [findE, he, ne_eq, not_true_eq_false, if_false]
      exact this
    · have : (gaussE m x != 0) = true := by simpa using he
      rw [this]
      simp only [cond_true, findE, ne_eq, he, not_false_eq_true, if_true]
      rfl
end Gv
