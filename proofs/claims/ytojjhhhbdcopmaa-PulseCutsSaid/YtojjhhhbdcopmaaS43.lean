import Derived.Test.YtojjhhhbdcopmaaS2
import Derived.Test.YtojjhhhbdcopmaaP22
import Derived.Test.YtojjhhhbdcopmaaS37
import Derived.KernelRfl

/- Lines, and how they move when samples are mixed down. -/
namespace Gv
open Go
set_option maxRecDepth 100000

theorem mod4 (a : Int) : a % 4 = 0 ∨ a % 4 = 1 ∨ a % 4 = 2 ∨ a % 4 = 3 := by omega

theorem trn_0 {z : ZZ} {q : Int} (h : q % 4 = 0) : trn z q = z := by unfold trn; rw [if_neg (by omega), if_neg (by omega), if_neg (by omega)]
theorem trn_1 {z : ZZ} {q : Int} (h : q % 4 = 1) : trn z q = (z.2, -z.1) := by unfold trn; rw [if_pos h]
theorem trn_2 {z : ZZ} {q : Int} (h : q % 4 = 2) : trn z q = (-z.1, -z.2) := by unfold trn; rw [if_neg (by omega), if_pos h]
theorem trn_3 {z : ZZ} {q : Int} (h : q % 4 = 3) : trn z q = (-z.2, z.1) := by unfold trn; rw [if_neg (by omega), if_neg (by omega), if_pos h]

theorem trn_trn (z : ZZ) (a b : Int) : trn (trn z a) b = trn z (a + b) := by
  rcases mod4 a with h | h | h | h <;> rcases mod4 b with k | k | k | k
  · rw [trn_0 h, trn_0 k, trn_0 (by omega)]
  · rw [trn_0 h, trn_1 k, trn_1 (by omega)]
  · rw [trn_0 h, trn_2 k, trn_2 (by omega)]
  · rw [trn_0 h, trn_3 k, trn_3 (by omega)]
  · rw [trn_1 h, trn_0 k, trn_1 (by omega)]
  · rw [trn_1 h, trn_1 k, trn_2 (by omega)]
  · rw [trn_1 h, trn_2 k, trn_3 (by omega)]; simp
  · rw [trn_1 h, trn_3 k, trn_0 (by omega)]; simp
  · rw [trn_2 h, trn_0 k, trn_2 (by omega)]
  · rw [trn_2 h, trn_1 k, trn_3 (by omega)]; simp
  · rw [trn_2 h, trn_2 k, trn_0 (by omega)]; simp
  · rw [trn_2 h, trn_3 k, trn_1 (by omega)]; simp
  · rw [trn_3 h, trn_0 k, trn_3 (by omega)]
  · rw [trn_3 h, trn_1 k, trn_0 (by omega)]; simp
  · rw [trn_3 h, trn_2 k, trn_1 (by omega)]; simp
  · rw [trn_3 h, trn_3 k, trn_2 (by omega)]

theorem trn_mod {z : ZZ} {a b : Int} (h : a % 4 = b % 4) : trn z a = trn z b := by unfold trn; rw [h]

theorem mix_back (q : Int) (hq : 0 ≤ q ∧ q ≤ 3) : ∀ (l : List ZZ) (j : Nat), mixFrom ((4 - q) % 4) (mixFrom q l j) j = l
  | [], _ => rfl
  | z :: l, j => by
    simp only [mixFrom, mix_back q hq l (j + 1)]
    rw [trn_trn, ← Int.mul_add]
    have h : q + (4 - q) % 4 = 0 ∨ q + (4 - q) % 4 = 4 := by omega
    rw [trn_0]
    rcases h with h | h <;> rw [h] <;> omega

/-! Sums without overflow -/

def eadd (a b : ZZ) : ZZ := (a.1 + b.1, a.2 + b.2)
theorem eadd_assoc (a b c : ZZ) : eadd (eadd a b) c = eadd a (eadd b c) := by simp [eadd, Int.add_assoc]
theorem addZ_eq {a b : ZZ} {m n : Int} (ha : Small m a) (hb : Small n b) (h : m + n ≤ 4611686018427387904) : addZ a b = eadd a b := by
  obtain ⟨a1, a2⟩ := ha
  obtain ⟨b1, b2⟩ := hb
  unfold addZ eadd
  rw [w64_in (by omega), w64_in (by omega)]
theorem eadd_small {a b : ZZ} {m n : Int} (ha : Small m a) (hb : Small n b) : Small (m + n) (eadd a b) := by
  obtain ⟨a1, a2⟩ := ha
  obtain ⟨b1, b2⟩ := hb
  unfold eadd Small
  simp only
  omega
theorem Small.mono {a : ZZ} {m n : Int} (h : Small m a) (hm : m ≤ n) : Small n a := by
  obtain ⟨a1, a2⟩ := h
  unfold Small
  omega
theorem trn_eadd (a b : ZZ) (q : Int) : trn (eadd a b) q = eadd (trn a q) (trn b q) := by
  rcases mod4 q with h | h | h | h
  · rw [trn_0 h, trn_0 h, trn_0 h]
  · rw [trn_1 h, trn_1 h, trn_1 h]; simp only [eadd]; congr 1; omega
  · rw [trn_2 h, trn_2 h, trn_2 h]; simp only [eadd]; congr 1 <;> omega
  · rw [trn_3 h, trn_3 h, trn_3 h]; simp only [eadd]; congr 1; omega

def lineX (k : Int) : List ZZ → Nat → ZZ
  | [], _ => (0, 0)
  | z :: l, j => eadd (trn z (j * k)) (lineX k l (j + 1))

theorem lineX_mix (q k : Int) : ∀ (l : List ZZ) (j : Nat), lineX k (mixFrom q l j) j = lineX (k + q) l j
  | [], _ => rfl
  | z :: l, j => by
    simp only [mixFrom, lineX, lineX_mix q k l (j + 1)]
    rw [trn_trn, ← Int.mul_add, Int.add_comm q k]

theorem lineX_mod {k k' : Int} (h : k % 4 = k' % 4) : ∀ (l : List ZZ) (j : Nat), lineX k l j = lineX k' l j
  | [], _ => rfl
  | z :: l, j => by
    simp only [lineX, lineX_mod h l (j + 1)]
    rw [trn_mod (a := j * k) (b := j * k') (by rw [Int.mul_emod, h, ← Int.mul_emod])]

theorem turned_w (z : ZZ) (j : Nat) (k : Int) (hj : j ≤ 1000) (hk : 0 ≤ k ∧ k ≤ 3) (hz : Small 1000000 z) : Fpulse_turned [.agg [.int .i64 z.1, .int .i64 z.2], .int .i64 (w64 (j * k))] = some (trn z (j * k)) := by
  have h0 : 0 ≤ (j : Int) * k ∧ (j : Int) * k ≤ 3000 := by
    refine ⟨Int.mul_nonneg (by omega) hk.1, ?_⟩
    have h1 : (j : Int) * k ≤ j * 3 := Int.mul_le_mul_of_nonneg_left hk.2 (by omega)
    omega
  rw [w64_in (by omega)]
  exact turned_is z _ h0.1 (hz.mono (by omega))

/-! Correlations turn with the lag -/

def cmulX (a b : ZZ) : ZZ := (a.1 * b.1 + a.2 * b.2, a.1 * b.2 - a.2 * b.1)
def sumX : List (ZZ × ZZ) → ZZ
  | [] => (0, 0)
  | p :: ps => eadd (cmulX p.1 p.2) (sumX ps)

theorem cmulX_trn (a b : ZZ) (s t : Int) : cmulX (trn a s) (trn b t) = trn (cmulX a b) (t - s) := by
  rcases mod4 s with h | h | h | h <;> rcases mod4 t with k | k | k | k
  · rw [trn_0 h, trn_0 k, trn_0 (by omega)]
  · rw [trn_0 h, trn_1 k, trn_1 (by omega)]; simp only [cmulX, Int.mul_neg, Int.neg_mul, Int.neg_neg]; congr 1 <;> omega
  · rw [trn_0 h, trn_2 k, trn_2 (by omega)]; simp only [cmulX, Int.mul_neg, Int.neg_mul, Int.neg_neg]; congr 1 <;> omega
  · rw [trn_0 h, trn_3 k, trn_3 (by omega)]; simp only [cmulX, Int.mul_neg, Int.neg_mul, Int.neg_neg]; congr 1 <;> omega
  · rw [trn_1 h, trn_0 k, trn_3 (by omega)]; simp only [cmulX, Int.mul_neg, Int.neg_mul, Int.neg_neg]; congr 1 <;> omega
  · rw [trn_1 h, trn_1 k, trn_0 (by omega)]; simp only [cmulX, Int.mul_neg, Int.neg_mul, Int.neg_neg]; congr 1 <;> omega
  · rw [trn_1 h, trn_2 k, trn_1 (by omega)]; simp only [cmulX, Int.mul_neg, Int.neg_mul, Int.neg_neg]; congr 1 <;> omega
  · rw [trn_1 h, trn_3 k, trn_2 (by omega)]; simp only [cmulX, Int.mul_neg, Int.neg_mul, Int.neg_neg]; congr 1 <;> omega
  · rw [trn_2 h, trn_0 k, trn_2 (by omega)]; simp only [cmulX, Int.mul_neg, Int.neg_mul, Int.neg_neg]; congr 1 <;> omega
  · rw [trn_2 h, trn_1 k, trn_3 (by omega)]; simp only [cmulX, Int.mul_neg, Int.neg_mul, Int.neg_neg]; congr 1 <;> omega
  · rw [trn_2 h, trn_2 k, trn_0 (by omega)]; simp only [cmulX, Int.mul_neg, Int.neg_mul, Int.neg_neg]
  · rw [trn_2 h, trn_3 k, trn_1 (by omega)]; simp only [cmulX, Int.mul_neg, Int.neg_mul, Int.neg_neg]; congr 1 <;> omega
  · rw [trn_3 h, trn_0 k, trn_1 (by omega)]; simp only [cmulX, Int.mul_neg, Int.neg_mul, Int.neg_neg]; congr 1 <;> omega
  · rw [trn_3 h, trn_1 k, trn_2 (by omega)]; simp only [cmulX, Int.mul_neg, Int.neg_mul, Int.neg_neg]; congr 1 <;> omega
  · rw [trn_3 h, trn_2 k, trn_3 (by omega)]; simp only [cmulX, Int.mul_neg, Int.neg_mul, Int.neg_neg]; congr 1 <;> omega
  · rw [trn_3 h, trn_3 k, trn_0 (by omega)]; simp only [cmulX, Int.mul_neg, Int.neg_mul, Int.neg_neg]; congr 1 <;> omega

theorem mul_abs {x y m : Int} (hx : -m ≤ x ∧ x ≤ m) (hy : -m ≤ y ∧ y ≤ m) (hm : 0 ≤ m) : -(m * m) ≤ x * y ∧ x * y ≤ m * m := by
  have key : ∀ {u v : Int}, 0 ≤ u → u ≤ m → 0 ≤ v → v ≤ m → 0 ≤ u * v ∧ u * v ≤ m * m := fun h1 h2 h3 h4 => ⟨Int.mul_nonneg h1 h3, Int.mul_le_mul h2 h4 h3 hm⟩
  by_cases h1 : 0 ≤ x <;> by_cases h2 : 0 ≤ y
  · have := key h1 hx.2 h2 hy.2; omega
  · have := key (u := x) (v := -y) h1 hx.2 (by omega) (by omega); rw [Int.mul_neg] at this; omega
  · have := key (u := -x) (v := y) (by omega) (by omega) h2 hy.2; rw [Int.neg_mul] at this; omega
  · have := key (u := -x) (v := -y) (by omega) (by omega) (by omega) (by omega); rw [Int.neg_mul_neg] at this; omega

theorem cmulX_small {a b : ZZ} (ha : Small 1000 a) (hb : Small 1000 b) : Small 2000000 (cmulX a b) := by
  have h1 := mul_abs ha.1 hb.1 (by omega)
  have h2 := mul_abs ha.2 hb.2 (by omega)
  have h3 := mul_abs ha.1 hb.2 (by omega)
  have h4 := mul_abs ha.2 hb.1 (by omega)
  unfold cmulX Small
  simp only
  omega

theorem cmul_eq {a b : ZZ} (ha : Small 1000 a) (hb : Small 1000 b) : cmul a b = cmulX a b := by
  obtain ⟨h1, h2⟩ := cmulX_small ha hb
  unfold cmulX at h1 h2
  simp only at h1 h2
  unfold cmul cmulX
  rw [w64_in (by omega), w64_in (by omega)]

theorem sumX_small : ∀ (ps : List (ZZ × ZZ)), (∀ p ∈ ps, Small 1000 p.1 ∧ Small 1000 p.2) → Small (2000000 * ps.length) (sumX ps)
  | [], _ => by simp [sumX, Small]
  | p :: ps, h => by
    have h1 := cmulX_small (h p (by simp)).1 (h p (by simp)).2
    have h2 := sumX_small ps (fun q hq => h q (by simp [hq]))
    refine (eadd_small h1 h2).mono ?_
    rw [List.length_cons]
    omega

theorem sumC_eq : ∀ (ps : List (ZZ × ZZ)) (acc : ZZ) (m : Int), (∀ p ∈ ps, Small 1000 p.1 ∧ Small 1000 p.2) → Small m acc → m + 2000000 * ps.length ≤ 1000000000000 → sumC ps acc = eadd acc (sumX ps)
  | [], acc, m, _, _, _ => by simp [sumC, sumX, eadd]
  | p :: ps, acc, m, h, ha, hm => by
    have h1 := cmulX_small (h p (by simp)).1 (h p (by simp)).2
    rw [List.length_cons] at hm
    have e := addZ_eq ha h1 (by omega)
    have := sumC_eq ps (eadd acc (cmulX p.1 p.2)) (m + 2000000) (fun q hq => h q (by simp [hq])) (eadd_small ha h1) (by omega)
    unfold sumC at this ⊢
    rw [List.foldl_cons, cmul_eq (h p (by simp)).1 (h p (by simp)).2, e, this]
    simp only [sumX, eadd_assoc]

theorem mixFrom_get (q : Int) : ∀ (l : List ZZ) (j i : Nat), (mixFrom q l j)[i]? = l[i]?.map fun z => trn z (((j + i : Nat) : Int) * q)
  | [], _, _ => by simp [mixFrom]
  | z :: l, j, 0 => by simp [mixFrom]
  | z :: l, j, i + 1 => by
    simp only [mixFrom, List.getElem?_cons_succ, mixFrom_get q l (j + 1) i]
    rw [show j + 1 + i = j + (i + 1) by omega]

theorem sumX_turn (q : Int) (lag : Nat) : ∀ (ps : List (ZZ × ZZ)) (j : Nat), sumX (ps.zipIdx j |>.map fun p => (trn p.1.1 ((p.2 : Int) * q), trn p.1.2 (((p.2 + lag : Nat) : Int) * q))) = trn (sumX ps) (lag * q)
  | [], _ => by
    simp only [List.zipIdx_nil, List.map_nil, sumX]
    rcases mod4 (lag * q) with h | h | h | h
    · rw [trn_0 h]
    · rw [trn_1 h]; rfl
    · rw [trn_2 h]; rfl
    · rw [trn_3 h]; rfl
  | p :: ps, j => by
    simp only [List.zipIdx_cons, List.map_cons, sumX]
    rw [sumX_turn q lag ps (j + 1), cmulX_trn, trn_eadd]
    congr 2
    rw [Int.natCast_add, Int.add_mul]
    omega

theorem zip_mix (q : Int) (lag : Nat) (l : List ZZ) : (mixFrom q l 0).zip ((mixFrom q l 0).drop lag) = ((l.zip (l.drop lag)).zipIdx 0).map fun p => (trn p.1.1 ((p.2 : Int) * q), trn p.1.2 (((p.2 + lag : Nat) : Int) * q)) := by
  apply List.ext_getElem?
  intro i
  simp only [List.getElem?_map, List.getElem?_zipIdx, List.zip, List.getElem?_zipWith, List.getElem?_drop, mixFrom_get]
  cases h1 : l[i]? with
  | none => simp
  | some a =>
    cases h2 : l[lag + i]? with
    | none => simp
    | some b => simp [Nat.add_comm lag i]

theorem zip_mem {l : List ZZ} {lag : Nat} (h : ∀ z ∈ l, Small 1000 z) : ∀ p ∈ l.zip (l.drop lag), Small 1000 p.1 ∧ Small 1000 p.2 := fun p hp => by
  obtain ⟨p1, p2⟩ := p
  have := List.of_mem_zip hp
  exact ⟨h _ this.1, h _ (List.mem_of_mem_drop this.2)⟩

theorem block_zero {l : List ZZ} (h1 : 1 ≤ l.length) (h2 : l.length ≤ 48) (hs : ∀ z ∈ l, Small 1000 z) : blockE l = 0 := by
  have : ∀ (l : List ZZ) (i : Nat), (∀ z ∈ l, Small 1000 z) → findE (gaussE 1000) l i = none := by
    intro l
    induction l with
    | nil => intro i _; rfl
    | cons z l ih =>
      intro i h
      have hz := h z (by simp)
      have : gaussE 1000 z = 0 := by unfold gaussE; rw [rangeE_in hz.1, rangeE_in hz.2]; rfl
      simp only [findE, this, ne_eq, not_true_eq_false, if_false]
      exact ih (i + 1) fun y hy => h y (by simp [hy])
  unfold blockE listE
  rw [if_neg (by omega), if_neg (by omega), this l 0 hs]
  rfl

theorem mix_mem {q : Int} {l : List ZZ} (h : ∀ z ∈ l, Small 1000 z) : ∀ z ∈ mixFrom q l 0, Small 1000 z := fun z hz => by
  obtain ⟨i, hi⟩ := List.mem_iff_getElem?.1 hz
  rw [mixFrom_get] at hi
  cases hl : l[i]? with
  | none => simp [hl] at hi
  | some y =>
    simp [hl] at hi
    rw [← hi]
    exact trn_small _ (h y (List.mem_of_getElem? hl))
end Gv

/- However a stream is cut, the sum has the correlations, the newest samples and the number of the whole. -/
namespace Gv
open Go
set_option maxRecDepth 100000

def corr (u : List ZZ) (n : Nat) : ZZ := sumC (u.zip (u.drop n)) (0, 0)
/-- The sum of a stream with so many lags. -/
def suL (u : List ZZ) (g : Nat) : List ZZ := tabZ (corr u) g
def suT (u : List ZZ) (g : Nat) : List ZZ := u.drop (u.length - min u.length (g - 1))
theorem suT_len (u : List ZZ) (g : Nat) : (suT u g).length = min u.length (g - 1) := by
  unfold suT
  rw [List.length_drop]
  omega

theorem zip_drop (k : Nat) (a b : List ZZ) : (a.zip b).drop k = (a.drop k).zip (b.drop k) := by
  simp only [List.zip_eq_zipWith, List.drop_zipWith]
/-- What is new lies in the newest samples and the piece. -/
theorem corrF_tail (x t p : List ZZ) (n : Nat) (h : n ≤ t.length) : corrF (x ++ t ++ p) n (x ++ t).length = corrF (t ++ p) n t.length := by
  unfold corrF
  congr 1
  rw [zip_drop, zip_drop, List.drop_drop, List.drop_drop]
  have e1 : (x ++ t ++ p).drop ((x ++ t).length - n) = (t ++ p).drop (t.length - n) := by
    rw [List.append_assoc, List.drop_append, List.drop_eq_nil_of_le (by rw [List.length_append]; omega), List.nil_append]
    congr 1
    rw [List.length_append]
    omega
  have e2 : (x ++ t ++ p).drop (n + ((x ++ t).length - n)) = p := by
    rw [show n + ((x ++ t).length - n) = (x ++ t).length by rw [List.length_append]; omega]
    exact List.drop_left
  have e3 : (t ++ p).drop (n + (t.length - n)) = p := by
    rw [show n + (t.length - n) = t.length by omega]
    exact List.drop_left
  rw [e1, e2, e3]
theorem corr_app (u p : List ZZ) (n : Nat) : corr (u ++ p) n = addZ (corr u n) (corrF (u ++ p) n u.length) := by
  unfold corr corrF
  have e : (u ++ p).zip ((u ++ p).drop n) = u.zip (u.drop n) ++ ((u ++ p).zip ((u ++ p).drop n)).drop (u.length - n) := by
    rw [← zip_old u p n, List.take_append_drop]
  rw [← sumC_acc _ _ (sumC_nz _ _ nz_zero)]
  rw [e]
  unfold sumC
  rw [List.foldl_append]
  congr 1
  rw [← e]
theorem su_next (u p : List ZZ) (g : Nat) (hg : 1 ≤ g) : nwL (suL u g) (suT u g) p = suL (u ++ p) g ∧ nwT (suL u g) (suT u g) p = suT (u ++ p) g := by
  have hlen : (suL u g).length = g := tabZ_len _ _
  have hT := suT_len u g
  have hu : u.take (u.length - min u.length (g - 1)) ++ suT u g = u := List.take_append_drop _ _
  constructor
  · unfold nwL suL
    rw [tabZ_len]
    unfold tabZ
    refine List.map_congr_left fun n hn => ?_
    have hn : n < g := List.mem_range.1 hn
    unfold nwF
    have e1 : ((List.range g).map (corr u)).getD n (0, 0) = corr u n := by
      rw [List.getD_eq_getElem?_getD]
      have := tabZ_get (corr u) hn
      unfold tabZ at this
      rw [this]
      rfl
    rw [e1, corr_app]
    congr 1
    by_cases hs : n ≤ (suT u g).length
    · have := corrF_tail (u.take (u.length - min u.length (g - 1))) (suT u g) p n hs
      rw [hu] at this
      exact this.symm
    · have : suT u g = u := by
        unfold suT
        rw [show u.length - min u.length (g - 1) = 0 by omega, List.drop_zero]
      rw [this]
  · unfold nwT kpN
    rw [hlen, List.length_append, hT]
    unfold suT
    rw [List.length_append]
    rw [← List.drop_append_of_le_length (show u.length - min u.length (g - 1) ≤ u.length by omega), List.drop_drop]
    congr 1
    omega

/-! The sums of short streams are valid. -/
theorem mul_lim {a b : Int} (ha : -1000 ≤ a ∧ a ≤ 1000) (hb : -1000 ≤ b ∧ b ≤ 1000) : -1000000 ≤ a * b ∧ a * b ≤ 1000000 := by
  have h := Nat.mul_le_mul (show a.natAbs ≤ 1000 by omega) (show b.natAbs ≤ 1000 by omega)
  rw [← Int.natAbs_mul] at h
  omega
theorem sumC_small : ∀ (ps : List (ZZ × ZZ)) (acc : ZZ) (m : Int), (∀ p ∈ ps, Small 1000 p.1 ∧ Small 1000 p.2) → 0 ≤ m → Small m acc → m + 2000000 * ps.length ≤ 1000000000000 → Small (m + 2000000 * ps.length) (sumC ps acc)
  | [], acc, m, _, _, h, _ => by simpa [sumC] using h
  | p :: ps, acc, m, hp, h0, h, hm => by
    obtain ⟨⟨a1, a2⟩, b1, b2⟩ := hp p (by simp)
    simp only [List.length_cons] at hm ⊢
    have hm : m + 2000000 * ((ps.length : Int) + 1) ≤ 1000000000000 := by have : ((ps.length + 1 : Nat) : Int) = (ps.length : Int) + 1 := rfl; omega
    have q1 := mul_lim a1 b1
    have q2 := mul_lim a2 b2
    have q3 := mul_lim a1 b2
    have q4 := mul_lim a2 b1
    have hs : Small (m + 2000000) (addZ acc (cmul p.1 p.2)) := by
      unfold addZ cmul
      obtain ⟨h1, h2⟩ := h
      simp only
      rw [w64_in (n := p.1.1 * p.2.1 + p.1.2 * p.2.2) (by omega), w64_in (n := p.1.1 * p.2.2 - p.1.2 * p.2.1) (by omega), w64_in (by omega), w64_in (by omega)]
      unfold Small
      omega
    have := sumC_small ps _ (m + 2000000) (fun q hq => hp q (by simp [hq])) (by omega) hs (by omega)
    have e : m + 2000000 + 2000000 * (ps.length : Int) = m + 2000000 * ((ps.length + 1 : Nat) : Int) := by omega
    rw [e] at this
    exact this
theorem corr_small {u : List ZZ} (h : ∀ z ∈ u, Small 1000 z) (hl : u.length ≤ 1000) (n : Nat) : Small 2000000000 (corr u n) := by
  have hz : ∀ p ∈ u.zip (u.drop n), Small 1000 p.1 ∧ Small 1000 p.2 := fun p hp => by
    obtain ⟨a, b⟩ := p
    have := List.of_mem_zip hp
    exact ⟨h _ this.1, h _ (List.mem_of_mem_drop this.2)⟩
  have hlen := zip_len u n
  have := sumC_small (u.zip (u.drop n)) (0, 0) 0 hz (by omega) (by simp [Small]) (by omega)
  unfold corr
  unfold Small at this ⊢
  omega
theorem su_ok {u : List ZZ} {g : Nat} (hg : 1 ≤ g ∧ g ≤ 12) (h : ∀ z ∈ u, Small 1000 z) (hl : u.length ≤ 1000) : smE (suL u g) (suT u g) u.length = 0 := by
  have hlen : (suL u g).length = g := tabZ_len _ _
  refine sm_of (by omega) (fun z hz => ?_) (by omega) ?_ (fun z hz => ?_)
  · obtain ⟨i, _, rfl⟩ := tabZ_mem hz
    have := corr_small h hl i
    refine gauss_of ?_
    unfold Small at this
    omega
  · rw [suT_len]
    unfold mnC
    rw [hlen]
    split <;> omega
  · exact gauss_of (h z (List.mem_of_mem_drop hz))
/-- The sum after a piece, as the program gives it. -/
theorem su_added {u p : List ZZ} {g : Nat} (hg : 1 ≤ g ∧ g ≤ 12) (hu : ∀ z ∈ u, Small 1000 z) (hp : blockE p = 0) (hl : u.length ≤ 300) :
    Fpulse_Added [.agg [.list (suL u g).length (encG (suL u g)), .list (suT u g).length (encG (suT u g)), .int .i64 u.length], .list p.length (encG p)] =
      some (EG (suL (u ++ p) g), (EG (suT (u ++ p) g), ((((u ++ p).length : Nat) : Int), 0))) := by
  obtain ⟨p1, p2, p3⟩ := block_ok hp
  have hT := suT_len u g
  have hL : (suL u g).length = g := tabZ_len _ _
  have h0 := su_ok hg hu (by omega)
  obtain ⟨e1, e2⟩ := su_next u p g hg.1
  rw [added_is _ _ _ _ (by omega) (by omega) (by omega)]
  have ha : adE (suL u g) (suT u g) p u.length = 0 := by unfold adE; rw [h0, hp]; rfl
  have hw : w64 ((u.length : Int) + p.length) = ((u ++ p).length : Int) := by rw [w64_in (by omega), List.length_append]; rfl
  have hall : ∀ z ∈ u ++ p, Small 1000 z := fun z hz => by
    rcases List.mem_append.1 hz with h | h
    · exact hu z h
    · exact p3 z h
  have hn : smE (suL (u ++ p) g) (suT (u ++ p) g) ((u ++ p).length : Nat) = 0 := su_ok hg hall (by rw [List.length_append]; omega)
  unfold adR
  rw [ha, if_neg (by simp), e1, e2, hw, if_neg (by omega)]
end Gv

/- The powers of the lines of a stream are told by its correlations alone. -/
namespace Gv
open Go
set_option maxRecDepth 100000

def nrmX (z : ZZ) : Int := z.1 * z.1 + z.2 * z.2
theorem nrm_eadd (a b : ZZ) : nrmX (eadd a b) = nrmX a + nrmX b + 2 * (cmulX a b).1 := by
  unfold nrmX eadd cmulX
  grind
theorem nrm_self (a : ZZ) : (cmulX a a).1 = nrmX a := rfl
theorem nrm_trn (a : ZZ) (q : Int) : nrmX (trn a q) = nrmX a := by
  rw [← nrm_self, cmulX_trn, Int.sub_self, trn_0 (by rfl), nrm_self]
theorem cmulX_eadd (a b c : ZZ) : cmulX a (eadd b c) = eadd (cmulX a b) (cmulX a c) := by
  unfold cmulX eadd
  simp only [Prod.mk.injEq]
  constructor <;> grind
theorem cmulX_zero (a : ZZ) : cmulX a (0, 0) = (0, 0) := by unfold cmulX; simp
theorem trn_zero (q : Int) : trn (0, 0) q = (0, 0) := by
  rcases mod4 q with h | h | h | h
  · rw [trn_0 h]
  · rw [trn_1 h]; rfl
  · rw [trn_2 h]; rfl
  · rw [trn_3 h]; rfl
theorem eadd_1 (a b : ZZ) : (eadd a b).1 = a.1 + b.1 := rfl

/-- What the lags from one on, so many, add. -/
def dS (k : Int) (l : List ZZ) : Nat → Nat → Int
  | 0, _ => 0
  | m + 1, i => 2 * (trn (sumX (l.zip (l.drop i))) (i * k)).1 + dS k l m (i + 1)
def zS (k : Int) (x : ZZ) (l : List ZZ) : Nat → Nat → Int
  | 0, _ => 0
  | m + 1, i => 2 * (trn (cmulX x (l.getD i (0, 0))) (((i + 1 : Nat) : Int) * k)).1 + zS k x l m (i + 1)
def yS (k : Int) (x : ZZ) : List ZZ → Nat → Int
  | [], _ => 0
  | y :: l, i => 2 * (trn (cmulX x y) ((i : Int) * k)).1 + yS k x l (i + 1)

theorem zip_cons (x : ZZ) (l : List ZZ) (n : Nat) : sumX ((x :: l).zip ((x :: l).drop (n + 1))) = eadd (cmulX x (l.getD n (0, 0))) (sumX (l.zip (l.drop (n + 1)))) := by
  rw [List.drop_succ_cons]
  by_cases h : n < l.length
  · obtain ⟨y, hy, hd⟩ := get_drop h
    rw [hd, List.zip_cons_cons, sumX, List.getD_eq_getElem?_getD, hy]
    rfl
  · rw [List.drop_eq_nil_of_le (by omega), List.drop_eq_nil_of_le (by omega), List.zip_nil_right, List.zip_nil_right, List.getD_eq_getElem?_getD, List.getElem?_eq_none (by omega)]
    show sumX [] = eadd (cmulX x (0, 0)) (sumX [])
    rw [cmulX_zero]
    rfl
theorem dS_cons (k : Int) (x : ZZ) (l : List ZZ) : ∀ m i, dS k (x :: l) m (i + 1) = dS k l m (i + 1) + zS k x l m i
  | 0, _ => rfl
  | m + 1, i => by
    rw [dS, dS, zS, dS_cons k x l m (i + 1), zip_cons, trn_eadd, eadd_1]
    omega
theorem zS_yS (k : Int) (x : ZZ) (l : List ZZ) : ∀ m i, l.length ≤ m + i → zS k x l m i = yS k x (l.drop i) (i + 1)
  | 0, i, h => by
    rw [List.drop_eq_nil_of_le (by omega)]
    rfl
  | m + 1, i, h => by
    rw [zS, zS_yS k x l m (i + 1) (by omega)]
    by_cases hi : i < l.length
    · obtain ⟨y, hy, hd⟩ := get_drop hi
      rw [hd, yS, List.getD_eq_getElem?_getD, hy]
      rfl
    · rw [List.drop_eq_nil_of_le (show l.length ≤ i by omega), List.drop_eq_nil_of_le (by omega), List.getD_eq_getElem?_getD, List.getElem?_eq_none (by omega)]
      show 2 * (trn (cmulX x (0, 0)) _).1 + 0 = 0
      rw [cmulX_zero, trn_zero]
      rfl
theorem yS_line (k : Int) (x : ZZ) (j : Nat) : ∀ (l : List ZZ) (i : Nat), 2 * (cmulX (trn x (j * k)) (lineX k l (j + i))).1 = yS k x l i
  | [], i => by
    rw [lineX, cmulX_zero]
    rfl
  | y :: l, i => by
    rw [lineX, cmulX_eadd, eadd_1, cmulX_trn, yS, ← yS_line k x j l (i + 1)]
    rw [show ((j + i : Nat) : Int) * k - (j : Int) * k = (i : Int) * k by rw [Int.natCast_add, Int.add_mul]; omega, show j + i + 1 = j + (i + 1) by omega]
    omega
/-- The power of a line, by correlations. -/
theorem line_power (k : Int) : ∀ (l : List ZZ) (j m : Nat), l.length ≤ m + 1 → nrmX (lineX k l j) = (sumX (l.zip l)).1 + dS k l m 1
  | [], j, m, _ => by
    have h0 : ∀ m i, dS k [] m i = 0 := by
      intro m
      induction m with
      | zero => intro i; rfl
      | succ m ih =>
        intro i
        rw [dS, ih]
        show 2 * (trn (sumX []) _).1 + 0 = 0
        unfold sumX
        rw [trn_zero]
        rfl
    rw [h0]
    rfl
  | x :: l, j, m, h => by
    have hl : l.length ≤ m := by simp at h; omega
    rw [lineX, nrm_eadd, nrm_trn, line_power k l (j + 1) m (by omega), List.zip_cons_cons, sumX, eadd_1, nrm_self x]
    have e1 := dS_cons k x l m 0
    rw [zS_yS k x l m 0 (by omega), List.drop_zero] at e1
    have e2 := yS_line k x j l 1
    rw [Nat.zero_add] at e1
    rw [e1, ← e2]
    have e3 : (cmulX (x, x).1 (x, x).2).1 = nrmX x := rfl
    omega

/-! The energy of the stream folded by 4. -/
def foX : List ZZ → Nat → Nat → ZZ
  | [], _, _ => (0, 0)
  | z :: l, j, m => if j % 4 = m then eadd z (foX l (j + 1) m) else foX l (j + 1) m
theorem eadd_zero (a : ZZ) : eadd a (0, 0) = a := by unfold eadd; simp
theorem line_fold (k : Int) : ∀ (l : List ZZ) (j : Nat), lineX k l j = eadd (eadd (foX l j 0) (trn (foX l j 1) k)) (eadd (trn (foX l j 2) (2 * k)) (trn (foX l j 3) (3 * k)))
  | [], j => by
    unfold lineX foX
    rw [trn_zero, trn_zero, trn_zero]
    rfl
  | z :: l, j => by
    rw [lineX, line_fold k l (j + 1)]
    have hj : j % 4 = 0 ∨ j % 4 = 1 ∨ j % 4 = 2 ∨ j % 4 = 3 := by omega
    have hm : ∀ r : Nat, j % 4 = r → trn z ((j : Int) * k) = trn z ((r : Int) * k) := fun r hr => trn_mod (by
      have : (j : Int) % 4 = (r : Int) % 4 := by omega
      rw [Int.mul_emod, this, ← Int.mul_emod])
    rcases hj with h | h | h | h
    · rw [hm 0 h, foX, foX, foX, foX, if_pos h, if_neg (by omega), if_neg (by omega), if_neg (by omega)]
      rw [show ((0 : Nat) : Int) * k = 0 by simp, trn_0 (by rfl)]
      simp only [eadd_assoc]
    · rw [hm 1 h, foX, foX, foX, foX, if_neg (by omega), if_pos h, if_neg (by omega), if_neg (by omega), trn_eadd]
      rw [show ((1 : Nat) : Int) * k = k by simp]
      unfold eadd
      simp only [Prod.mk.injEq]
      constructor <;> omega
    · rw [hm 2 h, foX, foX, foX, foX, if_neg (by omega), if_neg (by omega), if_pos h, if_neg (by omega), trn_eadd]
      rw [show ((2 : Nat) : Int) * k = 2 * k by rfl]
      unfold eadd
      simp only [Prod.mk.injEq]
      constructor <;> omega
    · rw [hm 3 h, foX, foX, foX, foX, if_neg (by omega), if_neg (by omega), if_neg (by omega), if_pos h, trn_eadd]
      rw [show ((3 : Nat) : Int) * k = 3 * k by rfl]
      unfold eadd
      simp only [Prod.mk.injEq]
      constructor <;> omega
theorem energy_four (l : List ZZ) : nrmX (lineX 0 l 0) + nrmX (lineX 1 l 0) + nrmX (lineX 2 l 0) + nrmX (lineX 3 l 0) =
    4 * (nrmX (foX l 0 0) + nrmX (foX l 0 1) + nrmX (foX l 0 2) + nrmX (foX l 0 3)) := by
  rw [line_fold 0, line_fold 1, line_fold 2, line_fold 3]
  rw [trn_0 (q := 0) (by rfl), trn_0 (q := 2 * 0) (by rfl), trn_0 (q := 3 * 0) (by rfl), trn_1 (q := 1) (by rfl), trn_2 (q := 2 * 1) (by rfl), trn_3 (q := 3 * 1) (by rfl),
    trn_2 (q := 2) (by rfl), trn_0 (q := 2 * 2) (by rfl), trn_2 (q := 3 * 2) (by rfl), trn_3 (q := 3) (by rfl), trn_2 (q := 2 * 3) (by rfl), trn_1 (q := 3 * 3) (by rfl)]
  obtain ⟨a, b⟩ := foX l 0 0
  obtain ⟨c, d⟩ := foX l 0 1
  obtain ⟨e, f⟩ := foX l 0 2
  obtain ⟨g, h⟩ := foX l 0 3
  unfold nrmX eadd
  simp only
  grind
end Gv

/- Lines and powers of a stream, with arrays written by place. -/
namespace Gv
open Go
set_option maxRecDepth 100000

section
variable (F : FnT) (N : Q → Option (Ext × S)) (E : Ext × Q → Option (Ext × S)) (L0 : Q → Option Y_glidepath_pulse_lines__with_0) (j a1 a2 b1 b2 c1 c2 d1 d2 z1 z2 : Int)
theorem wr0 : B_glidepath_pulse_lines__with_0a F N E L0 j 0 [.int .i64 a1, .int .i64 a2, .int .i64 b1, .int .i64 b2, .int .i64 c1, .int .i64 c2, .int .i64 d1, .int .i64 d2] z1 z2 =
    bindO (F 109 (RSh.agg [CK.int .i64, CK.int .i64]) [.agg [.int .i64 z1, .int .i64 z2], .int .i64 (w64 (j * 0))]) fun (y2 : Int × Int) =>
    bindO (F 117 (RSh.agg [CK.int .i64, CK.int .i64]) [.agg [.int .i64 a1, .int .i64 a2], .agg [.int .i64 y2.1, .int .i64 y2.2]]) fun (y3 : Int × Int) =>
    N (T_glidepath_pulse_lines__with_0a j (w64 (0 + 1)) [.int .i64 y3.1, .int .i64 y3.2, .int .i64 b1, .int .i64 b2, .int .i64 c1, .int .i64 c2, .int .i64 d1, .int .i64 d2] z1 z2) := by kernel_rfl
theorem wr1 : B_glidepath_pulse_lines__with_0a F N E L0 j 1 [.int .i64 a1, .int .i64 a2, .int .i64 b1, .int .i64 b2, .int .i64 c1, .int .i64 c2, .int .i64 d1, .int .i64 d2] z1 z2 =
    bindO (F 109 (RSh.agg [CK.int .i64, CK.int .i64]) [.agg [.int .i64 z1, .int .i64 z2], .int .i64 (w64 (j * 1))]) fun (y2 : Int × Int) =>
    bindO (F 117 (RSh.agg [CK.int .i64, CK.int .i64]) [.agg [.int .i64 b1, .int .i64 b2], .agg [.int .i64 y2.1, .int .i64 y2.2]]) fun (y3 : Int × Int) =>
    N (T_glidepath_pulse_lines__with_0a j (w64 (1 + 1)) [.int .i64 a1, .int .i64 a2, .int .i64 y3.1, .int .i64 y3.2, .int .i64 c1, .int .i64 c2, .int .i64 d1, .int .i64 d2] z1 z2) := by kernel_rfl
theorem wr2 : B_glidepath_pulse_lines__with_0a F N E L0 j 2 [.int .i64 a1, .int .i64 a2, .int .i64 b1, .int .i64 b2, .int .i64 c1, .int .i64 c2, .int .i64 d1, .int .i64 d2] z1 z2 =
    bindO (F 109 (RSh.agg [CK.int .i64, CK.int .i64]) [.agg [.int .i64 z1, .int .i64 z2], .int .i64 (w64 (j * 2))]) fun (y2 : Int × Int) =>
    bindO (F 117 (RSh.agg [CK.int .i64, CK.int .i64]) [.agg [.int .i64 c1, .int .i64 c2], .agg [.int .i64 y2.1, .int .i64 y2.2]]) fun (y3 : Int × Int) =>
    N (T_glidepath_pulse_lines__with_0a j (w64 (2 + 1)) [.int .i64 a1, .int .i64 a2, .int .i64 b1, .int .i64 b2, .int .i64 y3.1, .int .i64 y3.2, .int .i64 d1, .int .i64 d2] z1 z2) := by kernel_rfl
theorem wr3 : B_glidepath_pulse_lines__with_0a F N E L0 j 3 [.int .i64 a1, .int .i64 a2, .int .i64 b1, .int .i64 b2, .int .i64 c1, .int .i64 c2, .int .i64 d1, .int .i64 d2] z1 z2 =
    bindO (F 109 (RSh.agg [CK.int .i64, CK.int .i64]) [.agg [.int .i64 z1, .int .i64 z2], .int .i64 (w64 (j * 3))]) fun (y2 : Int × Int) =>
    bindO (F 117 (RSh.agg [CK.int .i64, CK.int .i64]) [.agg [.int .i64 d1, .int .i64 d2], .agg [.int .i64 y2.1, .int .i64 y2.2]]) fun (y3 : Int × Int) =>
    N (T_glidepath_pulse_lines__with_0a j (w64 (3 + 1)) [.int .i64 a1, .int .i64 a2, .int .i64 b1, .int .i64 b2, .int .i64 c1, .int .i64 c2, .int .i64 y3.1, .int .i64 y3.2] z1 z2) := by kernel_rfl
theorem wr4 : B_glidepath_pulse_lines__with_0a F N E L0 j 4 [.int .i64 a1, .int .i64 a2, .int .i64 b1, .int .i64 b2, .int .i64 c1, .int .i64 c2, .int .i64 d1, .int .i64 d2] z1 z2 = E (X_glidepath_pulse_lines__with_0a ([.int .i64 a1, .int .i64 a2, .int .i64 b1, .int .i64 b2, .int .i64 c1, .int .i64 c2, .int .i64 d1, .int .i64 d2], z1, z2)) := by kernel_rfl
end
theorem with_is (a b c d z : ZZ) (j : Nat) (hj : j ≤ 1000) (hz : Small 1000000 z) :
    F_glidepath_pulse_lines__with [.agg [.int .i64 a.1, .int .i64 a.2, .int .i64 b.1, .int .i64 b.2, .int .i64 c.1, .int .i64 c.2, .int .i64 d.1, .int .i64 d.2], .int .i64 j, .agg [.int .i64 z.1, .int .i64 z.2]] =
    some ((addZ a (trn z (j * 0))).1, (addZ a (trn z (j * 0))).2, (addZ b (trn z (j * 1))).1, (addZ b (trn z (j * 1))).2, (addZ c (trn z (j * 2))).1, (addZ c (trn z (j * 2))).2, (addZ d (trn z (j * 3))).1, (addZ d (trn z (j * 3))).2) := by
  have r4 : R_glidepath_pulse_lines__with_0 (T_glidepath_pulse_lines__with_0a j 4 [.int .i64 (addZ a (trn z (j * 0))).1, .int .i64 (addZ a (trn z (j * 0))).2, .int .i64 (addZ b (trn z (j * 1))).1, .int .i64 (addZ b (trn z (j * 1))).2, .int .i64 (addZ c (trn z (j * 2))).1, .int .i64 (addZ c (trn z (j * 2))).2, .int .i64 (addZ d (trn z (j * 3))).1, .int .i64 (addZ d (trn z (j * 3))).2] z.1 z.2) =
      exO (X_glidepath_pulse_lines__with_0a ([.int .i64 (addZ a (trn z (j * 0))).1, .int .i64 (addZ a (trn z (j * 0))).2, .int .i64 (addZ b (trn z (j * 1))).1, .int .i64 (addZ b (trn z (j * 1))).2, .int .i64 (addZ c (trn z (j * 2))).1, .int .i64 (addZ c (trn z (j * 2))).2, .int .i64 (addZ d (trn z (j * 3))).1, .int .i64 (addZ d (trn z (j * 3))).2], z.1, z.2)) :=
    R_glidepath_pulse_lines__with_0a_of _ _ _ _ _ (wr4 _ _ _ _ _ _ _ _ _ _ _ _ _ _ _)
  have t0 := turned_w z j 0 hj (by omega) hz
  have t1 := turned_w z j 1 hj (by omega) hz
  have t2 := turned_w z j 2 hj (by omega) hz
  have t3 := turned_w z j 3 hj (by omega) hz
  have r3 : R_glidepath_pulse_lines__with_0 (T_glidepath_pulse_lines__with_0a j 3 [.int .i64 (addZ a (trn z (j * 0))).1, .int .i64 (addZ a (trn z (j * 0))).2, .int .i64 (addZ b (trn z (j * 1))).1, .int .i64 (addZ b (trn z (j * 1))).2, .int .i64 (addZ c (trn z (j * 2))).1, .int .i64 (addZ c (trn z (j * 2))).2, .int .i64 d.1, .int .i64 d.2] z.1 z.2) = _ :=
    R_glidepath_pulse_lines__with_0a_of _ _ _ _ _ ((wr3 _ _ _ _ _ _ _ _ _ _ _ _ _ _ _).trans (by simp only [t3, plus_is, bindO_val]; exact r4))
  have r2 : R_glidepath_pulse_lines__with_0 (T_glidepath_pulse_lines__with_0a j 2 [.int .i64 (addZ a (trn z (j * 0))).1, .int .i64 (addZ a (trn z (j * 0))).2, .int .i64 (addZ b (trn z (j * 1))).1, .int .i64 (addZ b (trn z (j * 1))).2, .int .i64 c.1, .int .i64 c.2, .int .i64 d.1, .int .i64 d.2] z.1 z.2) = _ :=
    R_glidepath_pulse_lines__with_0a_of _ _ _ _ _ ((wr2 _ _ _ _ _ _ _ _ _ _ _ _ _ _ _).trans (by simp only [t2, plus_is, bindO_val]; exact r3))
  have r1 : R_glidepath_pulse_lines__with_0 (T_glidepath_pulse_lines__with_0a j 1 [.int .i64 (addZ a (trn z (j * 0))).1, .int .i64 (addZ a (trn z (j * 0))).2, .int .i64 b.1, .int .i64 b.2, .int .i64 c.1, .int .i64 c.2, .int .i64 d.1, .int .i64 d.2] z.1 z.2) = _ :=
    R_glidepath_pulse_lines__with_0a_of _ _ _ _ _ ((wr1 _ _ _ _ _ _ _ _ _ _ _ _ _ _ _).trans (by simp only [t1, plus_is, bindO_val]; exact r2))
  have r0 : R_glidepath_pulse_lines__with_0 (T_glidepath_pulse_lines__with_0a j 0 [.int .i64 a.1, .int .i64 a.2, .int .i64 b.1, .int .i64 b.2, .int .i64 c.1, .int .i64 c.2, .int .i64 d.1, .int .i64 d.2] z.1 z.2) = _ :=
    R_glidepath_pulse_lines__with_0a_of _ _ _ _ _ ((wr0 _ _ _ _ _ _ _ _ _ _ _ _ _ _ _).trans (by simp only [t0, plus_is, bindO_val]; exact r1))
  refine F_glidepath_pulse_lines__with_of _ _ _ _ _ _ _ _ _ _ _ ?_
  unfold t_glidepath_pulse_lines__with
  rw [L_glidepath_pulse_lines__with_0a_of r0]
  rfl
theorem lines_loop (l : List ZZ) (hl : l.length ≤ 1000) (hs : ∀ z ∈ l, Small 1000000 z) : ∀ i, i ≤ l.length → ∀ a b c d : ZZ, Small (1000000 * i) a → Small (1000000 * i) b → Small (1000000 * i) c → Small (1000000 * i) d →
    Rpulse_linesOf_0 (Tpulse_linesOf_0a l.length (encG l) l.length i a.1 a.2 b.1 b.2 c.1 c.2 d.1 d.2) =
      exO (Xpulse_linesOf_0a ((eadd a (lineX 0 (l.drop i) i)).1, (eadd a (lineX 0 (l.drop i) i)).2, (eadd b (lineX 1 (l.drop i) i)).1, (eadd b (lineX 1 (l.drop i) i)).2, (eadd c (lineX 2 (l.drop i) i)).1, (eadd c (lineX 2 (l.drop i) i)).2, (eadd d (lineX 3 (l.drop i) i)).1, (eadd d (lineX 3 (l.drop i) i)).2)) := by
  refine up_ind _ ?_ ?_
  · intro a b c d _ _ _ _
    refine Rpulse_linesOf_0a_of _ _ _ _ _ _ _ _ _ _ _ _ ?_
    unfold Bpulse_linesOf_0a
    rw [bif_neg (by omega), List.drop_length]
    simp only [lineX, eadd, Int.add_zero]
    rfl
  · intro i hi ih a b c d ha hb hc hd'
    refine Rpulse_linesOf_0a_of _ _ _ _ _ _ _ _ _ _ _ _ ?_
    unfold Bpulse_linesOf_0a
    obtain ⟨x, hx, hd⟩ := get_drop hi
    have hxs : Small 1000000 x := hs x (List.mem_of_getElem? hx)
    rw [bif_pos (by omega), bif_pos (by omega)]
    simp only [Int.toNat_natCast, encG_0, encG_1, hx, Option.map_some, intC_int, bindO_val, with_is a b c d x i (by omega) hxs]
    rw [w64_in (by omega)]
    have e0 := addZ_eq ha (trn_small (i * 0) hxs) (by omega)
    have e1 := addZ_eq hb (trn_small (i * 1) hxs) (by omega)
    have e2 := addZ_eq hc (trn_small (i * 2) hxs) (by omega)
    have e3 := addZ_eq hd' (trn_small (i * 3) hxs) (by omega)
    rw [e0, e1, e2, e3]
    have := ih (eadd a (trn x (i * 0))) (eadd b (trn x (i * 1))) (eadd c (trn x (i * 2))) (eadd d (trn x (i * 3)))
      ((eadd_small ha (trn_small _ hxs)).mono (by omega)) ((eadd_small hb (trn_small _ hxs)).mono (by omega)) ((eadd_small hc (trn_small _ hxs)).mono (by omega)) ((eadd_small hd' (trn_small _ hxs)).mono (by omega))
    rw [eadd_assoc, eadd_assoc, eadd_assoc, eadd_assoc] at this
    rw [hd]
    exact this

theorem linesOf_is (l : List ZZ) (hl : l.length ≤ 1000) (hs : ∀ z ∈ l, Small 1000000 z) : Fpulse_linesOf [.list l.length (encG l)] =
    some ((lineX 0 l 0).1, (lineX 0 l 0).2, (lineX 1 l 0).1, (lineX 1 l 0).2, (lineX 2 l 0).1, (lineX 2 l 0).2, (lineX 3 l 0).1, (lineX 3 l 0).2) := by
  refine Fpulse_linesOf_of _ _ ?_
  unfold tpulse_linesOf
  have z0 : Small (1000000 * ((0 : Nat) : Int)) ((0, 0) : ZZ) := by unfold Small; simp
  have := Lpulse_linesOf_0a_of (lines_loop l hl hs 0 (by omega) (0, 0) (0, 0) (0, 0) (0, 0) z0 z0 z0 z0)
  simp only [eadd, Int.zero_add, List.drop_zero] at this
  have this : Lpulse_linesOf_0 (Tpulse_linesOf_0a l.length (encG l) l.length 0 0 0 0 0 0 0 0 0) = _ := this
  rw [this]
  rfl


def normZ (z : ZZ) : Int := w64 (w64 (z.1 * z.1) + w64 (z.2 * z.2))
theorem power_is (z : ZZ) : Fpulse_powerOf [.agg [.int .i64 z.1, .int .i64 z.2]] = some (normZ z) := Fpulse_powerOf_of _ _ rfl
theorem gnorm_is (z : ZZ) : Fglidepathbase_GNorm [.agg [.int .i64 z.1, .int .i64 z.2]] = some (normZ z) := Fglidepathbase_GNorm_of _ _ rfl

theorem power4_is (a b c d : ZZ) : F_glidepath_pulse_lines__powers [.agg [.int .i64 a.1, .int .i64 a.2, .int .i64 b.1, .int .i64 b.2, .int .i64 c.1, .int .i64 c.2, .int .i64 d.1, .int .i64 d.2]] = some (normZ a, normZ b, normZ c, normZ d) := by
  refine F_glidepath_pulse_lines__powers_of _ _ _ _ _ _ _ _ ?_
  unfold t_glidepath_pulse_lines__powers
  simp only [power_is a, power_is b, power_is c, power_is d, bindO_val]

/-- Powers of the four lines. -/
def powZ (l : List ZZ) : Int × Int × Int × Int := (normZ (lineX 0 l 0), normZ (lineX 1 l 0), normZ (lineX 2 l 0), normZ (lineX 3 l 0))

theorem powersOf_is (l : List ZZ) (hl : l.length < 4294967296) : Fpulse_PowersOf [.list l.length (encG l)] =
    some (if blockE l ≠ 0 then (0, 0, 0, 0, blockE l) else ((powZ l).1, (powZ l).2.1, (powZ l).2.2.1, (powZ l).2.2.2, 0)) := by
  refine Fpulse_PowersOf_of _ _ ?_
  unfold tpulse_PowersOf
  simp only [blockError_is l hl, bindO_val, bif_ne]
  by_cases h : blockE l = 0
  · obtain ⟨k1, k2, k3⟩ := block_ok h
    rw [if_pos h, if_neg (by simpa using h)]
    simp only [linesOf_is l (by omega) (fun z hz => Small.mono (k3 z hz) (by omega)), power4_is (lineX 0 l 0) (lineX 1 l 0) (lineX 2 l 0) (lineX 3 l 0), bindO_val]
    rfl
  · rw [if_neg h, if_pos h]

end Gv

/- The spectrum by the sum of a short stream has the powers of its lines, which add up to four times the energy of the stream folded by 4. -/
namespace Gv
open Go
set_option maxRecDepth 100000

theorem zero_eadd (a : ZZ) : eadd (0, 0) a = a := by unfold eadd; simp
theorem corr_eq {l : List ZZ} (h : ∀ z ∈ l, Small 1000 z) (hl : l.length ≤ 400) (n : Nat) : corr l n = sumX (l.zip (l.drop n)) := by
  unfold corr
  rw [sumC_eq _ _ 0 (zip_mem h) (by simp [Small]) (by have := zip_len l n; omega), zero_eadd]
theorem spG_is {l : List ZZ} (h : ∀ z ∈ l, Small 1000 z) (hl : l.length ≤ 400) {g : Nat} (hg : g ≤ 12) (k : Nat) : ∀ (m i : Nat) (s : Int), i + m ≤ g → -(4000000000 * (i : Int)) ≤ s ∧ s ≤ 4000000000 * (i : Int) →
    spG (suL l g) k m i s = s + dS k l m i
  | 0, i, s, _, _ => by simp [spG, dS]
  | m + 1, i, s, him, hs => by
    have e1 : (suL l g).getD i (0, 0) = sumX (l.zip (l.drop i)) := by
      rw [List.getD_eq_getElem?_getD]
      unfold suL
      rw [tabZ_get (corr l) (by omega)]
      exact corr_eq h hl i
    have hc := corr_small h (by omega) i
    rw [corr_eq h hl i] at hc
    have ht := trn_small ((i : Int) * k) hc
    unfold Small at ht
    have e2 : ((i * k : Nat) : Int) = (i : Int) * (k : Int) := Int.natCast_mul _ _
    rw [spG, dS, e1, e2]
    rw [w64_in (n := 2 * (trn (sumX (l.zip (l.drop i))) ((i : Int) * k)).1) (by omega), w64_in (by omega)]
    rw [spG_is h hl hg k m (i + 1) _ (by omega) (by omega)]
    omega
theorem spV_is {l : List ZZ} (h : ∀ z ∈ l, Small 1000 z) (hl : l.length ≤ 400) {g : Nat} (hg : 1 ≤ g ∧ g ≤ 12) (k : Nat) : spV (suL l g) k = (sumX (l.zip l)).1 + dS k l (g - 1) 1 := by
  have hlen : (suL l g).length = g := tabZ_len _ _
  have e0 : (suL l g).getD 0 (0, 0) = sumX (l.zip l) := by
    rw [List.getD_eq_getElem?_getD]
    unfold suL
    rw [tabZ_get (corr l) (by omega)]
    have := corr_eq h hl 0
    rw [List.drop_zero] at this
    exact this
  have hc := corr_small h (by omega) 0
  have e1 := corr_eq h hl 0
  rw [List.drop_zero] at e1
  rw [e1] at hc
  unfold Small at hc
  unfold spV
  rw [hlen, e0]
  exact spG_is h hl hg.2 k (g - 1) 1 _ (by omega) (by omega)
theorem line_small (k : Int) : ∀ (l : List ZZ) (j : Nat), (∀ z ∈ l, Small 1000 z) → Small (1000 * l.length) (lineX k l j)
  | [], _, _ => by simp [lineX, Small]
  | z :: l, j, h => by
    have h1 := trn_small ((j : Int) * k) (h z (by simp))
    have h2 := line_small k l (j + 1) (fun q hq => h q (by simp [hq]))
    rw [lineX]
    refine (eadd_small h1 h2).mono ?_
    rw [List.length_cons]
    omega
theorem norm_eq {z : ZZ} (h : Small 1000000 z) : normZ z = nrmX z := by
  obtain ⟨h1, h2⟩ := h
  have a := mul_abs h1 h1 (by omega)
  have b := mul_abs h2 h2 (by omega)
  unfold normZ nrmX
  rw [w64_in (n := z.1 * z.1) (by omega), w64_in (n := z.2 * z.2) (by omega), w64_in (by omega)]
theorem nrm_ge (z : ZZ) : 0 ≤ nrmX z := by
  have h : ∀ x : Int, 0 ≤ x * x := fun x => by
    rcases Int.le_total 0 x with h | h
    · exact Int.mul_nonneg h h
    · have := Int.mul_nonneg (show 0 ≤ -x by omega) (show 0 ≤ -x by omega)
      rw [Int.neg_mul_neg] at this
      exact this
  have := h z.1
  have := h z.2
  unfold nrmX
  omega
/-- The spectrum by the sum of a stream that is no longer than there are lags. -/
theorem spectrum_cut {l : List ZZ} (h : ∀ z ∈ l, Small 1000 z) (hl : l.length ≤ 400) {g : Nat} (hg : 1 ≤ g ∧ g ≤ 12) (hs : l.length ≤ g) :
    (spV (suL l g) 0, spV (suL l g) 1, spV (suL l g) 2, spV (suL l g) 3) = powZ l := by
  have e : ∀ k : Nat, spV (suL l g) k = normZ (lineX k l 0) := fun k => by
    rw [spV_is h hl hg k, norm_eq ((line_small k l 0 h).mono (by omega)), line_power k l 0 (g - 1) (by omega)]
  unfold powZ
  rw [e 0, e 1, e 2, e 3]
  rfl
theorem powers_energy {l : List ZZ} (h : ∀ z ∈ l, Small 1000 z) (hl : l.length ≤ 400) :
    (powZ l).1 + (powZ l).2.1 + (powZ l).2.2.1 + (powZ l).2.2.2 = 4 * (nrmX (foX l 0 0) + nrmX (foX l 0 1) + nrmX (foX l 0 2) + nrmX (foX l 0 3)) := by
  have e : ∀ k : Int, normZ (lineX k l 0) = nrmX (lineX k l 0) := fun k => norm_eq ((line_small k l 0 h).mono (by omega))
  unfold powZ
  simp only [e]
  exact energy_four l
end Gv
