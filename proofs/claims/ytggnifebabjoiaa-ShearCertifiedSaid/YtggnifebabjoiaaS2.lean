/- Telegrams: words, their sum, the last word; the program's and the specification's. -/
import Derived.Test.YtggnifebabjoiaaS0
import Derived.Test.YtggnifebabjoiaaP4
import Derived.Test.YtggnifebabjoiaaP5b
namespace Gv
open Go
set_option maxRecDepth 100000
def sumF : List Int → Int → Int → Int
  | [], _, a => a
  | x :: l, i, a => sumF l (i + 1) (w64 (a + w64 (w64 (i + 1) * x)))
theorem get7 (a b c d e f g : Int) (i : Nat) : ([PV.int .i64 a, .int .i64 b, .int .i64 c, .int .i64 d, .int .i64 e, .int .i64 f, .int .i64 g] : List PV)[i]? = ([a, b, c, d, e, f, g][i]?).map (PV.int .i64) :=
  encI_get [a, b, c, d, e, f, g] i
theorem isPrv_loop (a b c d e f g : Int) : ∀ i : Nat, i ≤ 7 → ∀ s : Int, RisPrv_0 (TisPrv_0b s a b c d e f g i) = exO (XisPrv_0a (sumF ([a, b, c, d, e, f, g].drop i) i s)) := by
  refine up_ind _ ?_ ?_
  · intro s
    refine RisPrv_0b_of _ _ _ _ _ _ _ _ _ ?_
    unfold BisPrv_0b
    rw [bif_neg (by omega)]
    rfl
  · intro i hi ih s
    obtain ⟨x, hx, hd⟩ := get_drop (l := [a, b, c, d, e, f, g]) hi
    refine RisPrv_0b_of _ _ _ _ _ _ _ _ _ ?_
    unfold BisPrv_0b
    rw [bif_pos (by omega), bif_pos (by omega)]
    simp only [Int.toNat_natCast, Nat.mul_one, get7, hx, Option.map_some, intC_int, bindO_val]
    rw [hd, w64_in (n := (i : Int) + 1) (by omega)]
    simp only [sumF]
    rw [w64_in (n := (i : Int) + 1) (by omega)]
    exact ih _
def sumW (a b c d e f g : Int) : Int := sumF [a, b, c, d, e, f, g] 0 0
def prv (a b c d e f g : Int) : Bool := decide ((sumW a b c d e f g).tmod 251 = 0)
theorem isPrv_is (a b c d e f g : Int) : FisPrv [.agg [.int .i64 a, .int .i64 b, .int .i64 c, .int .i64 d, .int .i64 e, .int .i64 f, .int .i64 g]] = some (prv a b c d e f g) := by
  refine FisPrv_of _ _ _ _ _ _ _ ?_
  unfold tisPrv
  have h := isPrv_loop a b c d e f g 1 (by omega) (w64 (0 + w64 (1 * a)))
  have h0 : RisPrv_0 (TisPrv_0a a b c d e f g a b c d e f g) = exO (XisPrv_0a (sumW a b c d e f g)) := by
    refine RisPrv_0a_of _ _ _ _ _ _ _ _ _ _ _ _ _ _ ?_
    unfold BisPrv_0a
    rw [show sumW a b c d e f g = sumF ([a, b, c, d, e, f, g].drop 1) 1 (w64 (0 + w64 (1 * a))) by
      unfold sumW; simp only [sumF, List.drop]; rw [show w64 (0 + 1) = 1 from w64_in (by omega)]; rfl]
    exact h
  rw [LisPrv_0a_of h0]
  simp only [bindO_val, bif_eq, prv]
  by_cases hp : (sumW a b c d e f g).tmod 251 = 0
  · simp [hp]
  · simp [hp]
def Wd (x : Int) : Prop := 0 ≤ x ∧ x ≤ 250
theorem sumW_small {a b c d e f g : Int} (h0 : Wd a) (h1 : Wd b) (h2 : Wd c) (h3 : Wd d) (h4 : Wd e) (h5 : Wd f) (h6 : Wd g) : sumW a b c d e f g = a + 2 * b + 3 * c + 4 * d + 5 * e + 6 * f + 7 * g := by
  unfold Wd at *
  simp only [sumW, sumF]
  have k (i : Int) (h : -100 ≤ i ∧ i ≤ 100) : w64 i = i := w64_in (by omega)
  rw [k (0 + 1) (by omega), k (0 + 1 + 1) (by omega), k (0 + 1 + 1 + 1) (by omega), k (0 + 1 + 1 + 1 + 1) (by omega), k (0 + 1 + 1 + 1 + 1 + 1) (by omega), k (0 + 1 + 1 + 1 + 1 + 1 + 1) (by omega), k (0 + 1 + 1 + 1 + 1 + 1 + 1 + 1) (by omega)]
  rw [w64_in (n := (0 + 1) * a) (by omega), w64_in (n := (0 + 1 + 1) * b) (by omega), w64_in (n := (0 + 1 + 1 + 1) * c) (by omega), w64_in (n := (0 + 1 + 1 + 1 + 1) * d) (by omega), w64_in (n := (0 + 1 + 1 + 1 + 1 + 1) * e) (by omega), w64_in (n := (0 + 1 + 1 + 1 + 1 + 1 + 1) * f) (by omega), w64_in (n := (0 + 1 + 1 + 1 + 1 + 1 + 1 + 1) * g) (by omega)]
  rw [w64_in (n := 0 + (0 + 1) * a) (by omega)]
  rw [w64_in (n := 0 + (0 + 1) * a + (0 + 1 + 1) * b) (by omega)]
  rw [w64_in (n := 0 + (0 + 1) * a + (0 + 1 + 1) * b + (0 + 1 + 1 + 1) * c) (by omega)]
  rw [w64_in (n := 0 + (0 + 1) * a + (0 + 1 + 1) * b + (0 + 1 + 1 + 1) * c + (0 + 1 + 1 + 1 + 1) * d) (by omega)]
  rw [w64_in (n := 0 + (0 + 1) * a + (0 + 1 + 1) * b + (0 + 1 + 1 + 1) * c + (0 + 1 + 1 + 1 + 1) * d + (0 + 1 + 1 + 1 + 1 + 1) * e) (by omega)]
  rw [w64_in (n := 0 + (0 + 1) * a + (0 + 1 + 1) * b + (0 + 1 + 1 + 1) * c + (0 + 1 + 1 + 1 + 1) * d + (0 + 1 + 1 + 1 + 1 + 1) * e + (0 + 1 + 1 + 1 + 1 + 1 + 1) * f) (by omega)]
  rw [w64_in (by omega)]
  omega
theorem prv_small {a b c d e f g : Int} (h0 : Wd a) (h1 : Wd b) (h2 : Wd c) (h3 : Wd d) (h4 : Wd e) (h5 : Wd f) (h6 : Wd g) : prv a b c d e f g = decide ((a + 2 * b + 3 * c + 4 * d + 5 * e + 6 * f + 7 * g) % 251 = 0) := by
  unfold prv
  rw [sumW_small h0 h1 h2 h3 h4 h5 h6]
  unfold Wd at *
  rw [Int.tmod_eq_emod_of_nonneg (by omega)]
def lastW (n : Int) : Int := (-n * 36) % 251
theorem lastW_rng (n : Int) : Wd (lastW n) := by unfold Wd lastW; omega
theorem lastW_ok (n : Int) : (n + 7 * lastW n) % 251 = 0 := by unfold lastW; omega
theorem lastW_first {n k : Int} (h : 0 ≤ k) (h2 : k < lastW n) : (n + 7 * k) % 251 ≠ 0 := by unfold lastW at h2; omega
def telE (r n k v : Int) : Int := if (0 ≤ r ∧ r ≤ 250) ∧ (0 ≤ n ∧ n ≤ 62500) ∧ (0 ≤ k ∧ k ≤ 2) ∧ (0 ≤ v ∧ v ≤ 62500) then 0 else 2
theorem rangeE_if (x a b : Int) : rangeE x a b = if a ≤ x ∧ x ≤ b then 0 else 2 := by unfold rangeE; split <;> split <;> omega
theorem telE_ok {r n k v : Int} (h : telE r n k v = 0) : 0 ≤ r ∧ r ≤ 250 ∧ 0 ≤ n ∧ n ≤ 62500 ∧ 0 ≤ k ∧ k ≤ 2 ∧ 0 ≤ v ∧ v ≤ 62500 := by
  unfold telE at h
  split at h
  · omega
  · omega
theorem tE_is (r n k v : Int) : FtE [.agg [.int .i64 r, .int .i64 n, .int .i64 k, .int .i64 v]] = some (telE r n k v) := by
  refine FtE_of _ _ _ _ ?_
  unfold ttE
  simp only [wE_is, rE_is, fE4_is, bindO_val, Option.some.injEq]
  unfold first4 telE
  simp only [rangeE_if]
  by_cases h1 : 0 ≤ r ∧ r ≤ 250 <;> by_cases h2 : 0 ≤ n ∧ n ≤ 62500 <;> by_cases h3 : 0 ≤ v ∧ v ≤ 62500 <;> by_cases h4 : 0 ≤ k ∧ k ≤ 2 <;> simp only [h1, h2, h3, h4, if_true, if_false, and_self, and_false, false_and, and_true, true_and, ne_eq, not_true_eq_false] <;> rfl
def baseW (r n k v : Int) : Int := r + 2 * (n / 251) + 3 * (n % 251) + 4 * k + 5 * (v / 251) + 6 * (v % 251)
section
variable {r n k v : Int} (ht : telE r n k v = 0)
include ht
theorem parts_ok : Wd r ∧ Wd (n / 251) ∧ Wd (n % 251) ∧ Wd k ∧ Wd (v / 251) ∧ Wd (v % 251) := by
  obtain ⟨h1, h2, h3, h4, h5, h6, h7, h8⟩ := telE_ok ht
  unfold Wd
  omega
theorem prv_at {g : Int} (hg : Wd g) : prv r (n / 251) (n % 251) k (v / 251) (v % 251) g = decide ((baseW r n k v + 7 * g) % 251 = 0) := by
  obtain ⟨h0, h1, h2, h3, h4, h5⟩ := parts_ok ht
  rw [prv_small h0 h1 h2 h3 h4 h5 hg]
  rfl
theorem enc_loop : ∀ i : Nat, i ≤ (lastW (baseW r n k v)).toNat → Renc_0 (Tenc_0b r (n / 251) (n % 251) k (v / 251) (v % 251) i) = exO (Xenc_0a (r, n / 251, n % 251, k, v / 251, v % 251, lastW (baseW r n k v))) := by
  have hw := lastW_rng (baseW r n k v)
  have hw' : 0 ≤ lastW (baseW r n k v) ∧ lastW (baseW r n k v) ≤ 250 := hw
  refine up_ind _ ?_ ?_
  · refine Renc_0b_of _ _ _ _ _ _ _ ?_
    unfold Benc_0b
    rw [show (((lastW (baseW r n k v)).toNat : Nat) : Int) = lastW (baseW r n k v) by omega]
    simp only [isPrv_is, bindO_val, prv_at ht hw]
    rw [bif_pos (lastW_ok _)]
    rfl
  · intro i hi ih
    refine Renc_0b_of _ _ _ _ _ _ _ ?_
    unfold Benc_0b
    have hg : Wd (i : Int) := by unfold Wd; omega
    simp only [isPrv_is, bindO_val, prv_at ht hg]
    rw [bif_neg (lastW_first (by omega) (by omega)), w64_in (by omega)]
    exact ih
theorem enc_start : Renc_0 (Tenc_0a r n k v r (n / 251) (n % 251) k (v / 251) (v % 251)) = exO (Xenc_0a (r, n / 251, n % 251, k, v / 251, v % 251, lastW (baseW r n k v))) := by
  have hw := lastW_rng (baseW r n k v)
  have hw' : 0 ≤ lastW (baseW r n k v) ∧ lastW (baseW r n k v) ≤ 250 := hw
  refine Renc_0a_of _ _ _ _ _ _ _ _ _ _ ?_
  unfold Benc_0a
  have hg : Wd 0 := by unfold Wd; omega
  simp only [isPrv_is, bindO_val, prv_at ht hg]
  by_cases h : (baseW r n k v + 7 * 0) % 251 = 0
  · rw [bif_pos h]
    have : lastW (baseW r n k v) = 0 := by
      by_cases hc : 0 < lastW (baseW r n k v)
      · exact absurd h (lastW_first (by omega) hc)
      · omega
    rw [this]
    rfl
  · rw [bif_neg h]
    have : lastW (baseW r n k v) ≠ 0 := by
      intro e
      have := lastW_ok (baseW r n k v)
      rw [e] at this
      exact h this
    exact enc_loop ht 1 (by omega)
end
def encV (r n k v : Int) : Int × Int × Int × Int × Int × Int × Int × Int :=
  if telE r n k v = 0 then (r, n / 251, n % 251, k, v / 251, v % 251, lastW (baseW r n k v), 0) else (0, 0, 0, 0, 0, 0, 0, telE r n k v)
theorem div_is {n : Int} (h : 0 ≤ n ∧ n ≤ 62500) : w64 (n.tdiv 251) = n / 251 ∧ n.tmod 251 = n % 251 := by
  rw [Int.tdiv_eq_ediv_of_nonneg h.1, Int.tmod_eq_emod_of_nonneg h.1]
  exact ⟨w64_in (by omega), rfl⟩
theorem enc_is (r n k v : Int) : Fenc [.agg [.int .i64 r, .int .i64 n, .int .i64 k, .int .i64 v]] = some (encV r n k v) := by
  refine Fenc_of _ _ _ _ ?_
  unfold tenc encV
  simp only [tE_is, bindO_val, bif_ne]
  by_cases h : telE r n k v = 0
  · rw [if_pos h, if_pos h]
    have hh := telE_ok h
    obtain ⟨a1, a2⟩ := div_is (n := n) (by omega)
    obtain ⟨a3, a4⟩ := div_is (n := v) (by omega)
    rw [a1, a2, a3, a4, Lenc_0a_of (enc_start h)]
    rfl
  · rw [if_neg h, if_neg h]
section
variable {r n k v : Int} (ht : telE r n k v = 0)
include ht
end
end Gv
