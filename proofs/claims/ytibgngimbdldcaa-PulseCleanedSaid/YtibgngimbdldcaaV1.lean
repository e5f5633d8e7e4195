/- The helpers of errors and ranges. -/
import Derived.Test.YtibgngimbdldcaaGvEnv
import Derived.Test.YtibgngimbdldcaaGvU
namespace Gv
open Go
set_option maxRecDepth 100000

/-! errorIf, rangeError -/
def m68 : List PV → Option RV
  | [.bool b, .int .i64 x] => some (.val (.int .i64 (bif b then x else 0)))
  | _ => none
theorem t68 (b : Bool) (x : Int) : semF (look []) noSh noLp 60 a68 [.bool b, .int .i64 x] = bif b then some (.val (.int .i64 x)) else some (.val (.int .i64 0)) := by kernel_rfl
theorem is68 : Is env 68 m68 := by
  intro args r h
  unfold m68 at h
  split at h <;> try (cases h; done)
  rename_i b x
  refine run_plain cle_nil rfl rfl ((t68 b x).trans ?_)
  cases b <;> exact h

def rangeE (x a b : Int) : Int := if x < a ∨ b < x then 2 else 0
def m54 : List PV → Option RV
  | [.int .i64 x, .int .i64 a, .int .i64 b] => some (.val (.int .i64 (rangeE x a b)))
  | _ => none
theorem t54 (x a b : Int) : semF (look [(68, m68)]) noSh noLp 60 a54 [.int .i64 x, .int .i64 a, .int .i64 b] =
   bif decide (x < a) then some (.val (.int .i64 2)) else bif decide (x > b) then some (.val (.int .i64 2)) else some (.val (.int .i64 0)) := by kernel_rfl
theorem is54 : Is env 54 m54 := by
  intro args r h
  unfold m54 at h
  split at h <;> try (cases h; done)
  rename_i x a b
  refine run_plain (cle_cons is68 cle_nil) rfl rfl ((t54 x a b).trans ?_)
  rw [← h]
  unfold rangeE
  by_cases h1 : x < a <;> by_cases h2 : b < x <;> simp [h1, h2]

/-! firstError -/
def m53 : List PV → Option RV
  | [.list 2 [.int .i64 a, .int .i64 b]] => some (.val (.int .i64 (if a ≠ 0 then a else b)))
  | _ => none
theorem t53 (a b : Int) : semF (look []) noSh noLp 60 a53 [.list 2 [.int .i64 a, .int .i64 b]] =
   bif a != 0 then some (.val (.int .i64 a)) else bif b != 0 then some (.val (.int .i64 b)) else some (.val (.int .i64 0)) := by kernel_rfl
theorem is53 : Is env 53 m53 := by
  intro args r h
  unfold m53 at h
  split at h <;> try (cases h; done)
  rename_i a b
  refine run_plain cle_nil rfl rfl ((t53 a b).trans ?_)
  rw [← h]
  simp only [cond_eq_ite, bne_iff_ne, ne_eq]
  by_cases h1 : a = 0 <;> by_cases h2 : b = 0 <;> simp [h1, h2]

/-! numberError -/
def m56 : List PV → Option RV
  | [.int .i64 lo, .int .i64 hi] => some (.val (.fn 89 [.imm [.int .i64 lo] 0, .imm [.int .i64 hi] 0]))
  | _ => none
theorem t56 (lo hi : Int) : semF (look []) noSh noLp 60 a56 [.int .i64 lo, .int .i64 hi] = some (.val (.fn 89 [.imm [.int .i64 lo] 0, .imm [.int .i64 hi] 0])) := by kernel_rfl
theorem is56 : Is env 56 m56 := by
  intro args r h
  unfold m56 at h
  split at h <;> try (cases h; done)
  exact run_plain cle_nil rfl rfl ((t56 _ _).trans h)
def m89 : List PV → Option RV
  | [.int .i64 x, .imm [.int .i64 lo] 0, .imm [.int .i64 hi] 0] => some (.val (.int .i64 (rangeE x lo hi)))
  | _ => none
theorem t89 (x lo hi : Int) : semF (look [(54, m54)]) noSh noLp 60 a89 [.int .i64 x, .imm [.int .i64 lo] 0, .imm [.int .i64 hi] 0] = some (.val (.int .i64 (rangeE x lo hi))) := by kernel_rfl
theorem is89 : Is env 89 m89 := by
  intro args r h
  unfold m89 at h
  split at h <;> try (cases h; done)
  exact run_plain (cle_cons is54 cle_nil) rfl rfl ((t89 _ _ _).trans h)

/-! itemError of four numbers, countError -/
def first4 (a b c d : Int) : Int := if a ≠ 0 then a else if b ≠ 0 then b else if c ≠ 0 then c else d
def index4 (a b c d : Int) : Int := if a ≠ 0 then 0 else if b ≠ 0 then 1 else if c ≠ 0 then 2 else if d ≠ 0 then 3 else 0
def m88 : List PV → Option RV
  | [.list 4 [.int .i64 a, .int .i64 b, .int .i64 c, .int .i64 d], .fn 89 [.imm [.int .i64 lo] 0, .imm [.int .i64 hi] 0]] =>
    some (.val (.tup [.int .i64 (index4 (rangeE a lo hi) (rangeE b lo hi) (rangeE c lo hi) (rangeE d lo hi)), .int .i64 (first4 (rangeE a lo hi) (rangeE b lo hi) (rangeE c lo hi) (rangeE d lo hi))]))
  | _ => none
theorem t88 (a b c d lo hi : Int) : semF (look [(89, m89)]) noSh noLp 200 a88 [.list 4 [.int .i64 a, .int .i64 b, .int .i64 c, .int .i64 d], .fn 89 [.imm [.int .i64 lo] 0, .imm [.int .i64 hi] 0]] =
    bif rangeE a lo hi != 0 then some (.val (.tup [.int .i64 0, .int .i64 (rangeE a lo hi)])) else
    bif rangeE b lo hi != 0 then some (.val (.tup [.int .i64 1, .int .i64 (rangeE b lo hi)])) else
    bif rangeE c lo hi != 0 then some (.val (.tup [.int .i64 2, .int .i64 (rangeE c lo hi)])) else
    bif rangeE d lo hi != 0 then some (.val (.tup [.int .i64 3, .int .i64 (rangeE d lo hi)])) else
    some (.val (.tup [.int .i64 0, .int .i64 0])) := by kernel_rfl

theorem is88 : Is env 88 m88 := by
  intro args r h
  unfold m88 at h
  split at h <;> try (cases h; done)
  refine run_plain (cle_cons is89 cle_nil) rfl rfl ((t88 _ _ _ _ _ _).trans ?_)
  rw [← h]
  simp only [cond_eq_ite, bne_iff_ne, first4, index4]
  split
  · simp_all
  · split
    · simp_all
    · split
      · simp_all
      · split <;> simp_all

def wide : Int := 1000000000000
def countE (p a b c d : Int) : Int := if rangeE p 1 1000 ≠ 0 then rangeE p 1 1000 else first4 (rangeE a 0 1000000000000) (rangeE b 0 1000000000000) (rangeE c 0 1000000000000) (rangeE d 0 1000000000000)
def m73 : List PV → Option RV
  | [.agg [.int .i64 p, .int .i64 a, .int .i64 b, .int .i64 c, .int .i64 d]] => some (.val (.int .i64 (countE p a b c d)))
  | _ => none
theorem t73 (p a b c d : Int) : semF (look [(56, m56), (88, m88), (54, m54), (53, m53)]) noSh noLp 60 a73 [.agg [.int .i64 p, .int .i64 a, .int .i64 b, .int .i64 c, .int .i64 d]] =
    some (.val (.int .i64 (countE p a b c d))) := by kernel_rfl
theorem is73 : Is env 73 m73 := by
  intro args r h
  unfold m73 at h
  split at h <;> try (cases h; done)
  exact run_plain (cle_cons is56 (cle_cons is88 (cle_cons is54 (cle_cons is53 cle_nil)))) rfl rfl ((t73 _ _ _ _ _).trans h)

/-! Cleaned -/
def w (x : Int) : Int := IntKind.i64.wrap x
def cl (a q b p : Int) : Int := w (w (a * q) - w (b * p))
def both (x y : Int) : Int := if x ≠ 0 then x else y
def ok (e x : Int) : Int := if e = 0 then x else 0
def m39 : List PV → Option RV
  | [.agg [.int .i64 p, .int .i64 a, .int .i64 b, .int .i64 c, .int .i64 d], .agg [.int .i64 p', .int .i64 a', .int .i64 b', .int .i64 c', .int .i64 d']] =>
    let e := both (countE p a b c d) (countE p' a' b' c' d')
    some (.val (.tup [.agg [.int .i64 (ok e (cl a p' a' p)), .int .i64 (ok e (cl b p' b' p)), .int .i64 (ok e (cl c p' c' p)), .int .i64 (ok e (cl d p' d' p))], .int .i64 e]))
  | _ => none
theorem t39 (p a b c d p' a' b' c' d' : Int) : semF (look [(73, m73), (53, m53)]) noSh noLp 200 a39 [.agg [.int .i64 p, .int .i64 a, .int .i64 b, .int .i64 c, .int .i64 d], .agg [.int .i64 p', .int .i64 a', .int .i64 b', .int .i64 c', .int .i64 d']] =
    bif (if countE p a b c d ≠ 0 then countE p a b c d else countE p' a' b' c' d') != 0 then some (.val (.tup [.agg [.int .i64 0, .int .i64 0, .int .i64 0, .int .i64 0], .int .i64 (if countE p a b c d ≠ 0 then countE p a b c d else countE p' a' b' c' d')]))
    else some (.val (.tup [.agg [.int .i64 (cl a p' a' p), .int .i64 (cl b p' b' p), .int .i64 (cl c p' c' p), .int .i64 (cl d p' d' p)], .int .i64 0])) := by kernel_rfl
theorem is39 : Is env 39 m39 := by
  intro args r h
  unfold m39 at h
  split at h <;> try (cases h; done)
  rename_i p a b c d p' a' b' c' d'
  refine run_plain (cle_cons is73 (cle_cons is53 cle_nil)) rfl rfl ((t39 _ _ _ _ _ _ _ _ _ _).trans ?_)
  rw [← h]
  generalize countE p a b c d = x
  generalize countE p' a' b' c' d' = y
  simp only [cond_eq_ite, bne_iff_ne, both, ok]
  by_cases hx : x = 0 <;> by_cases hy : y = 0 <;> simp [hx, hy]

/-! The references -/
def m20 : List PV → Option RV
  | [.int .i64 n, .int .i64 lo, .int .i64 hi] => some (.val (.bool (decide (lo ≤ n ∧ n ≤ hi))))
  | _ => none
theorem t20 (n lo hi : Int) : semF (look []) noSh noLp 60 a20 [.int .i64 n, .int .i64 lo, .int .i64 hi] =
    bif decide (lo ≤ n) then (bif decide (n ≤ hi) then some (.val (.bool true)) else some (.val (.bool false))) else some (.val (.bool false)) := by kernel_rfl
theorem is20 : Is env 20 m20 := by
  intro args r h
  unfold m20 at h
  split at h <;> try (cases h; done)
  rename_i n lo hi
  refine run_plain cle_nil rfl rfl ((t20 _ _ _).trans ?_)
  rw [← h]
  by_cases h1 : lo ≤ n <;> by_cases h2 : n ≤ hi <;> simp [h1, h2]
def m23 : List PV → Option RV
  | [.int .i64 a, .int .i64 b] => some (.val (.int .i64 (both a b)))
  | _ => none
theorem t23 (a b : Int) : semF (look []) noSh noLp 60 a23 [.int .i64 a, .int .i64 b] = bif a != 0 then some (.val (.int .i64 a)) else some (.val (.int .i64 b)) := by kernel_rfl
theorem is23 : Is env 23 m23 := by
  intro args r h
  unfold m23 at h
  split at h <;> try (cases h; done)
  refine run_plain cle_nil rfl rfl ((t23 _ _).trans ?_)
  rw [← h]
  simp only [cond_eq_ite, bne_iff_ne, both]
  split <;> simp_all
def m40 : List PV → Option RV
  | [.agg [.int .i64 p, .int .i64 a, .int .i64 b, .int .i64 c, .int .i64 d]] => some (.val (.int .i64 (countE p a b c d)))
  | _ => none
theorem t40 (p a b c d : Int) : semF (look [(20, m20)]) noSh noLp 200 a40 [.agg [.int .i64 p, .int .i64 a, .int .i64 b, .int .i64 c, .int .i64 d]] =
    bif decide (1 ≤ p ∧ p ≤ 1000) then bif decide (0 ≤ a ∧ a ≤ 1000000000000) then bif decide (0 ≤ b ∧ b ≤ 1000000000000) then bif decide (0 ≤ c ∧ c ≤ 1000000000000) then bif decide (0 ≤ d ∧ d ≤ 1000000000000) then
    some (.val (.int .i64 0)) else some (.val (.int .i64 2)) else some (.val (.int .i64 2)) else some (.val (.int .i64 2)) else some (.val (.int .i64 2)) else some (.val (.int .i64 2)) := by kernel_rfl
theorem rangeE_in {x a b : Int} (h : a ≤ x ∧ x ≤ b) : rangeE x a b = 0 := if_neg (by omega)
theorem rangeE_out {x a b : Int} (h : ¬ (a ≤ x ∧ x ≤ b)) : rangeE x a b = 2 := if_pos (by omega)
theorem is40 : Is env 40 m40 := by
  intro args r h
  unfold m40 at h
  split at h <;> try (cases h; done)
  rename_i p a b c d
  refine run_plain (cle_cons is20 cle_nil) rfl rfl ((t40 _ _ _ _ _).trans ?_)
  rw [← h]
  simp only [cond_eq_ite, decide_eq_true_eq, countE, first4]
  by_cases h1 : 1 ≤ p ∧ p ≤ 1000
  · rw [if_pos h1, rangeE_in h1]
    by_cases h2 : 0 ≤ a ∧ a ≤ 1000000000000
    · rw [if_pos h2, rangeE_in h2]
      by_cases h3 : 0 ≤ b ∧ b ≤ 1000000000000
      · rw [if_pos h3, rangeE_in h3]
        by_cases h4 : 0 ≤ c ∧ c ≤ 1000000000000
        · rw [if_pos h4, rangeE_in h4]
          by_cases h5 : 0 ≤ d ∧ d ≤ 1000000000000
          · rw [if_pos h5, rangeE_in h5]; rfl
          · rw [if_neg h5, rangeE_out h5]; rfl
        · rw [if_neg h4, rangeE_out h4]; rfl
      · rw [if_neg h3, rangeE_out h3]; rfl
    · rw [if_neg h2, rangeE_out h2]; rfl
  · rw [if_neg h1, rangeE_out h1]; rfl
def m41 : List PV → Option RV
  | [.agg [.int .i64 p, .int .i64 a, .int .i64 b, .int .i64 c, .int .i64 d], .agg [.int .i64 p', .int .i64 a', .int .i64 b', .int .i64 c', .int .i64 d']] =>
    some (.val (.agg [.int .i64 (cl a p' a' p), .int .i64 (cl b p' b' p), .int .i64 (cl c p' c' p), .int .i64 (cl d p' d' p)]))
  | _ => none
theorem t41 (p a b c d p' a' b' c' d' : Int) : semF (look []) noSh noLp 200 a41 [.agg [.int .i64 p, .int .i64 a, .int .i64 b, .int .i64 c, .int .i64 d], .agg [.int .i64 p', .int .i64 a', .int .i64 b', .int .i64 c', .int .i64 d']] =
    some (.val (.agg [.int .i64 (cl a p' a' p), .int .i64 (cl b p' b' p), .int .i64 (cl c p' c' p), .int .i64 (cl d p' d' p)])) := by kernel_rfl
theorem is41 : Is env 41 m41 := by
  intro args r h
  unfold m41 at h
  split at h <;> try (cases h; done)
  exact run_plain cle_nil rfl rfl ((t41 _ _ _ _ _ _ _ _ _ _).trans h)
end Gv
