/- Energy in windows: it grows evenly between turns. -/
import Derived.Test.YtkbahledgljaoaaCT18
namespace Gv

/-- The seconds of a shot in a window that ends before e. -/
def ovl (z : Sht) (w e : Int) : Int := max 0 (min z.2.1 e - max z.1 (e - w))
/-- The energy in a window that ends before e. -/
def enr : List Sht → Int → Int → Int
  | [], _, _ => 0
  | z :: l, w, e => z.2.2 * ovl z w e + enr l w e
structure OkS (z : Sht) : Prop where
  a : 0 ≤ z.1
  b : z.1 < z.2.1
  c : z.2.1 ≤ 1000000
  d : 0 ≤ z.2.2
  e : z.2.2 ≤ 10000
def Oks (l : List Sht) : Prop := ∀ z ∈ l, OkS z
def ptF (w : Int) (z : Sht) : List Int := [z.1, z.2.1, z.1 + w, z.2.1 + w]
def ptL (w : Int) (l : List Sht) : List Int := l.flatMap (ptF w)

theorem Oks.tail {z : Sht} {l : List Sht} (h : Oks (z :: l)) : Oks l := fun x hx => h x (List.mem_cons_of_mem _ hx)
theorem Oks.head {z : Sht} {l : List Sht} (h : Oks (z :: l)) : OkS z := h z List.mem_cons_self

theorem ovl_nn (z : Sht) (w e : Int) : 0 ≤ ovl z w e := by unfold ovl; omega
theorem ovl_low {z : Sht} {w e : Int} (he : e ≤ z.1) : ovl z w e = 0 := by unfold ovl; omega
theorem ovl_high {z : Sht} {w e : Int} (he : z.2.1 + w ≤ e) : ovl z w e = 0 := by unfold ovl; omega
theorem ovl_le {z : Sht} (h : OkS z) (w e : Int) : ovl z w e ≤ 1000000 := by
  have := h.a; have := h.b; have := h.c
  unfold ovl; omega
theorem ovl_mono (z : Sht) {v w : Int} (h : v ≤ w) (e : Int) : ovl z v e ≤ ovl z w e := by unfold ovl; omega
theorem ovl_lin {z : Sht} (h : OkS z) {w e : Int} (hw : 1 ≤ w) (he : e ∉ ptF w z) : ovl z w (e + 1) + ovl z w (e - 1) = 2 * ovl z w e := by
  have := h.b
  simp only [ptF, List.mem_cons, List.not_mem_nil, or_false, not_or] at he
  unfold ovl; omega

theorem enr_nn : ∀ {l : List Sht} (_ : Oks l) (w e : Int), 0 ≤ enr l w e
  | [], _, _, _ => Int.le_refl _
  | z :: l, h, w, e => by
    have h1 := enr_nn h.tail w e
    have h2 := Int.mul_nonneg h.head.d (ovl_nn z w e)
    unfold enr; omega
theorem enr_low : ∀ {l : List Sht} (w : Int) {e : Int} (_ : ∀ z ∈ l, e ≤ z.1), enr l w e = 0
  | [], _, _, _ => rfl
  | z :: l, w, e, h => by
    unfold enr
    rw [ovl_low (h z List.mem_cons_self), enr_low w fun x hx => h x (List.mem_cons_of_mem _ hx), Int.mul_zero]
    rfl
theorem enr_high : ∀ {l : List Sht} (w : Int) {e : Int} (_ : ∀ z ∈ l, z.2.1 + w ≤ e), enr l w e = 0
  | [], _, _, _ => rfl
  | z :: l, w, e, h => by
    unfold enr
    rw [ovl_high (h z List.mem_cons_self), enr_high w fun x hx => h x (List.mem_cons_of_mem _ hx), Int.mul_zero]
    rfl
theorem enr_zero {l : List Sht} (h : Oks l) (w : Int) {e : Int} (he : e ≤ 0) : enr l w e = 0 :=
  enr_low w fun z hz => by have := (h z hz).a; omega
theorem enr_top {l : List Sht} (h : Oks l) (w : Int) {e : Int} (he : 1000000 + w ≤ e) : enr l w e = 0 :=
  enr_high w fun z hz => by have := (h z hz).c; omega
theorem enr_le : ∀ {l : List Sht} (_ : Oks l) (w e : Int), enr l w e ≤ 10000000000 * l.length
  | [], _, _, _ => by simp [enr]
  | z :: l, h, w, e => by
    have h1 := enr_le h.tail w e
    have h2 : z.2.2 * ovl z w e ≤ 10000 * 1000000 := by
      calc z.2.2 * ovl z w e ≤ 10000 * ovl z w e := Int.mul_le_mul_of_nonneg_right h.head.e (ovl_nn z w e)
        _ ≤ 10000 * 1000000 := Int.mul_le_mul_of_nonneg_left (ovl_le h.head w e) (by omega)
    unfold enr
    simp only [List.length_cons]
    omega
theorem enr_mono : ∀ {l : List Sht} (_ : Oks l) {v w : Int} (_ : v ≤ w) (e : Int), enr l v e ≤ enr l w e
  | [], _, _, _, _, _ => Int.le_refl _
  | z :: l, h, v, w, hv, e => by
    have h1 := enr_mono h.tail hv e
    have h2 := Int.mul_le_mul_of_nonneg_left (ovl_mono z hv e) h.head.d
    unfold enr; omega
theorem enr_lin : ∀ {l : List Sht} (_ : Oks l) {w e : Int} (_ : 1 ≤ w) (_ : e ∉ ptL w l), enr l w (e + 1) + enr l w (e - 1) = 2 * enr l w e
  | [], _, _, _, _, _ => rfl
  | z :: l, h, w, e, hw, he => by
    simp only [ptL, List.flatMap_cons, List.mem_append, not_or] at he
    have h1 := enr_lin h.tail hw he.2
    have h2 := congrArg (z.2.2 * ·) (ovl_lin h.head hw he.1)
    simp only [Int.mul_add] at h2
    rw [show z.2.2 * (2 * ovl z w e) = 2 * (z.2.2 * ovl z w e) by rw [Int.mul_left_comm]] at h2
    unfold enr; omega

/-- No second is worse than the worst turn. -/
theorem enr_max {l : List Sht} (h : Oks l) {w M : Int} (hw : 1 ≤ w) (h0 : 0 ≤ M) (hp : ∀ p ∈ ptL w l, enr l w p ≤ M) (e : Int) : enr l w e ≤ M := by
  have up : ∀ (k : Nat) (e : Int), enr l w (e - 1) ≤ enr l w e → 1000000 + w ≤ e + k → enr l w e ≤ M := by
    intro k
    induction k with
    | zero => intro e _ he; rw [enr_top h w (by omega)]; exact h0
    | succ k ih =>
      intro e h1 he
      by_cases hm : e ∈ ptL w l
      · exact hp e hm
      · have h2 := enr_lin h hw hm
        have h3 := ih (e + 1) (by rw [show e + 1 - 1 = e by omega]; omega) (by omega)
        omega
  have down : ∀ (k : Nat) (e : Int), enr l w (e + 1) ≤ enr l w e → e ≤ k → enr l w e ≤ M := by
    intro k
    induction k with
    | zero => intro e _ he; rw [enr_zero h w (by omega)]; exact h0
    | succ k ih =>
      intro e h1 he
      by_cases hm : e ∈ ptL w l
      · exact hp e hm
      · have h2 := enr_lin h hw hm
        have h3 := ih (e - 1) (by rw [show e - 1 + 1 = e by omega]; omega) (by omega)
        omega
  by_cases hm : e ∈ ptL w l
  · exact hp e hm
  · have h2 := enr_lin h hw hm
    by_cases h1 : enr l w (e - 1) ≤ enr l w e
    · exact up (1000000 + w - e).toNat e h1 (by omega)
    · exact down e.toNat e (by omega) (by omega)

/-- Between two turns it grows by the same number each second. -/
theorem enr_even {l : List Sht} (h : Oks l) {w a c : Int} (hw : 1 ≤ w) (hn : ∀ p ∈ ptL w l, p < c → p ≤ a) :
    ∀ k : Nat, a + k ≤ c → enr l w (a + k) = enr l w a + k * (enr l w (a + 1) - enr l w a) := by
  have two : ∀ k : Nat, a + (k + 1 : Nat) ≤ c → enr l w (a + (k + 1 : Nat)) - enr l w (a + k) = enr l w (a + 1) - enr l w a := by
    intro k
    induction k with
    | zero => intro _; simp
    | succ k ih =>
      intro hk
      have h1 := ih (by omega)
      have hm : (a + ((k + 1 : Nat) : Int)) ∉ ptL w l := fun hm => by have := hn _ hm (by omega); omega
      have h2 := enr_lin h hw hm
      rw [show a + ((k + 1 : Nat) : Int) + 1 = a + ((k + 1 + 1 : Nat) : Int) by omega, show a + ((k + 1 : Nat) : Int) - 1 = a + (k : Int) by omega] at h2
      omega
  intro k
  induction k with
  | zero => intro _; simp
  | succ k ih =>
    intro hk
    have h1 := ih (by omega)
    have h2 := two k hk
    rw [show ((k + 1 : Nat) : Int) * (enr l w (a + 1) - enr l w a) = k * (enr l w (a + 1) - enr l w a) + (enr l w (a + 1) - enr l w a) by
      rw [show ((k + 1 : Nat) : Int) = (k : Int) + 1 by omega, Int.add_mul, Int.one_mul]]
    omega

/-! The greatest of all. -/
def mostF (f : Int → Int) (ts : List Int) (m : Int) : Int := ts.foldl (fun m t => max m (f t)) m
theorem mostF_ge (f : Int → Int) : ∀ (ts : List Int) (m : Int), m ≤ mostF f ts m ∧ ∀ t ∈ ts, f t ≤ mostF f ts m
  | [], m => ⟨Int.le_refl _, fun _ h => by cases h⟩
  | t :: ts, m => by
    have h := mostF_ge f ts (max m (f t))
    have e : mostF f (t :: ts) m = mostF f ts (max m (f t)) := rfl
    rw [e]
    refine ⟨by omega, fun u hu => ?_⟩
    rcases List.mem_cons.1 hu with rfl | hu
    · omega
    · exact h.2 u hu
theorem mostF_is (f : Int → Int) : ∀ (ts : List Int) (m : Int), mostF f ts m = m ∨ ∃ t ∈ ts, mostF f ts m = f t
  | [], _ => .inl rfl
  | t :: ts, m => by
    have e : mostF f (t :: ts) m = mostF f ts (max m (f t)) := rfl
    rw [e]
    rcases mostF_is f ts (max m (f t)) with h | ⟨u, hu, h⟩
    · by_cases hm : f t ≤ m
      · left; omega
      · right; exact ⟨t, List.mem_cons_self, by omega⟩
    · exact .inr ⟨u, List.mem_cons_of_mem _ hu, h⟩
/-- What the greatest energy is. -/
structure Most (l : List Sht) (w M : Int) : Prop where
  nn : 0 ≤ M
  ge : ∀ p ∈ ptL w l, enr l w p ≤ M
  is : M = 0 ∨ ∃ p ∈ ptL w l, M = enr l w p
theorem Most.uniq {l : List Sht} {w M N : Int} (h : Most l w M) (g : Most l w N) : M = N := by
  have one : ∀ {M N : Int}, Most l w M → Most l w N → M ≤ N := fun h g => by
    rcases h.is with e | ⟨p, hp, e⟩
    · rw [e]; exact g.nn
    · rw [e]; exact g.ge p hp
  exact Int.le_antisymm (one h g) (one g h)
theorem most_of {l : List Sht} {w : Int} {ts : List Int} (h : ∀ t, t ∈ ts ↔ t ∈ ptL w l) : Most l w (mostF (enr l w) ts 0) := by
  have h1 := mostF_ge (enr l w) ts 0
  refine ⟨h1.1, fun p hp => h1.2 p ((h p).2 hp), ?_⟩
  rcases mostF_is (enr l w) ts 0 with e | ⟨t, ht, e⟩
  · exact .inl e
  · exact .inr ⟨t, (h t).1 ht, e⟩
theorem most_ref {l : List Sht} (ho : Oks l) {w : Int} {ts : List Int} (h : ∀ t, t ∈ ts ↔ t = -1 ∨ t + 1 ∈ ptL w l) : Most l w (mostF (fun t => enr l w (t + 1)) ts 0) := by
  have h1 := mostF_ge (fun t => enr l w (t + 1)) ts 0
  refine ⟨h1.1, fun p hp => ?_, ?_⟩
  · have := h1.2 (p - 1) ((h _).2 (.inr (by rw [show p - 1 + 1 = p by omega]; exact hp)))
    simp only [show p - 1 + 1 = p by omega] at this
    exact this
  · rcases mostF_is (fun t => enr l w (t + 1)) ts 0 with e | ⟨t, ht, e⟩
    · exact .inl e
    · rcases (h t).1 ht with rfl | hm
      · left; rw [e]; exact enr_zero ho w (by omega)
      · exact .inr ⟨_, hm, e⟩
theorem most_less {l : List Sht} (ho : Oks l) {v w M N : Int} (hw : 1 ≤ w) (hv : v ≤ w) (h : Most l v M) (g : Most l w N) : M ≤ N := by
  rcases h.is with e | ⟨p, _, e⟩
  · rw [e]; exact g.nn
  · rw [e]
    exact Int.le_trans (enr_mono ho hv p) (enr_max ho hw g.nn g.ge p)

/-! The first turn that is too great. -/
structure First (l : List Sht) (w en a c : Int) : Prop where
  mem : c ∈ ptL w l
  big : en < enr l w c
  low : ∀ p ∈ ptL w l, p < c → enr l w p ≤ en
  lt : a < c
  is : a = 0 ∨ a ∈ ptL w l
  gr : ∀ p ∈ ptL w l, p < c → p ≤ a
  nn : 0 ≤ a
theorem ptL_nn {l : List Sht} (h : Oks l) {w : Int} (hw : 1 ≤ w) : ∀ p ∈ ptL w l, 0 ≤ p := by
  intro p hp
  obtain ⟨z, hz, hp⟩ := List.mem_flatMap.1 hp
  have := (h z hz).a; have := (h z hz).b
  simp only [ptF, List.mem_cons, List.not_mem_nil, or_false] at hp
  omega
theorem First.uniq {l : List Sht} {w en a c a' c' : Int} (h : First l w en a c) (g : First l w en a' c') : a = a' ∧ c = c' := by
  have hc : c = c' := by
    rcases Int.lt_trichotomy c c' with hl | hl | hl
    · have := g.low c h.mem hl; have := h.big; omega
    · exact hl
    · have := h.low c' g.mem hl; have := g.big; omega
  subst hc
  have one : ∀ {a a' : Int}, First l w en a c → First l w en a' c → a ≤ a' := fun h g => by
    rcases h.is with e | hm
    · rw [e]; exact g.nn
    · exact g.gr _ hm h.lt
  exact ⟨Int.le_antisymm (one h g) (one g h), rfl⟩
theorem First.most {l : List Sht} {w en a c M : Int} (h : First l w en a c) (g : Most l w M) : en < M := by
  have := g.ge c h.mem; have := h.big; omega

theorem fstI_spec (P : Int → Bool) : ∀ (ts : List Int) (k : Int), (fstI P ts k = -1 ∧ ∀ t ∈ ts, P t = false) ∨ ∃ (m : Nat) (c : Int), fstI P ts k = k + m ∧ ts[m]? = some c ∧ P c = true ∧ ∀ j < m, ∀ t, ts[j]? = some t → P t = false
  | [], _ => .inl ⟨rfl, fun _ h => by cases h⟩
  | t :: r, k => by
    by_cases hp : P t = true
    · right
      refine ⟨0, t, ?_, rfl, hp, fun j hj => by omega⟩
      unfold fstI; rw [if_pos hp]; simp
    · have e : fstI P (t :: r) k = fstI P r (k + 1) := by rw [fstI, if_neg hp]
      have hf : P t = false := by simpa using hp
      rw [e]
      rcases fstI_spec P r (k + 1) with ⟨h1, h2⟩ | ⟨m, c, h1, h2, h3, h4⟩
      · refine .inl ⟨h1, fun u hu => ?_⟩
        rcases List.mem_cons.1 hu with rfl | hu
        · exact hf
        · exact h2 u hu
      · refine .inr ⟨m + 1, c, by rw [h1]; omega, by simpa using h2, h3, fun j hj u hu => ?_⟩
        rcases j with _ | j
        · simp at hu; subst hu; exact hf
        · exact h4 j (by omega) u (by simpa using hu)

theorem asc_at {ts : List Int} (h : ts.Pairwise (· ≤ ·)) {i j : Nat} {x y : Int} (hij : i ≤ j) (hx : ts[i]? = some x) (hy : ts[j]? = some y) : x ≤ y := by
  obtain ⟨h1, rfl⟩ := List.getElem?_eq_some_iff.1 hx
  obtain ⟨h2, rfl⟩ := List.getElem?_eq_some_iff.1 hy
  rcases Nat.lt_or_ge i j with hl | hl
  · exact List.pairwise_iff_getElem.1 h i j h1 h2 hl
  · have : i = j := by omega
    subst this
    exact Int.le_refl _

/-- The first turn in a list that ascends. -/
theorem first_of {l : List Sht} (ho : Oks l) {w en : Int} (hw : 1 ≤ w) (he : 0 ≤ en) {ts : List Int} (ha : ts.Pairwise (· ≤ ·)) (h : ∀ t, t ∈ ts ↔ t ∈ ptL w l) :
    (fstI (fun t => decide (enr l w t > en)) ts 0 < 1 ∧ ∀ p ∈ ptL w l, enr l w p ≤ en) ∨
    ∃ (m : Nat) (a c : Int), fstI (fun t => decide (enr l w t > en)) ts 0 = (m : Int) + 1 ∧ ts[m]? = some a ∧ ts[m + 1]? = some c ∧ First l w en a c := by
  rcases fstI_spec (fun t => decide (enr l w t > en)) ts 0 with ⟨h1, h2⟩ | ⟨m, c, h1, h2, h3, h4⟩
  · refine .inl ⟨by omega, fun p hp => ?_⟩
    have := h2 p ((h p).2 hp)
    simp only [decide_eq_false_iff_not] at this
    omega
  · simp only [decide_eq_true_eq] at h3
    rcases m with _ | m
    · exfalso
      have : enr l w c = 0 := enr_low w fun z hz => by
        have hm : z.1 ∈ ts := (h _).2 (List.mem_flatMap.2 ⟨z, hz, by simp [ptF]⟩)
        obtain ⟨j, hj⟩ := List.mem_iff_getElem?.1 hm
        exact asc_at ha (Nat.zero_le _) h2 hj
      omega
    · obtain ⟨a, hA⟩ : ∃ a, ts[m]? = some a := by
        have := (List.getElem?_eq_some_iff.1 h2).1
        exact ⟨ts[m]'(by omega), List.getElem?_eq_getElem _⟩
      have hle : enr l w a ≤ en := by
        have := h4 m (by omega) a hA
        simp only [decide_eq_false_iff_not] at this
        omega
      have hac := asc_at ha (Nat.le_succ m) hA h2
      have before : ∀ p ∈ ptL w l, p < c → p ≤ a ∧ enr l w p ≤ en := fun p hp hlt => by
        obtain ⟨j, hj⟩ := List.mem_iff_getElem?.1 ((h p).2 hp)
        have hjm : j < m + 1 := by
          rcases Nat.lt_or_ge j (m + 1) with hl | hl
          · exact hl
          · have := asc_at ha hl h2 hj; omega
        refine ⟨asc_at ha (by omega) hj hA, ?_⟩
        have := h4 j hjm p hj
        simp only [decide_eq_false_iff_not] at this
        omega
      have hmA : a ∈ ptL w l := (h a).1 (List.mem_iff_getElem?.2 ⟨m, hA⟩)
      refine .inr ⟨m, a, c, by rw [h1]; omega, hA, h2, ⟨(h c).1 (List.mem_iff_getElem?.2 ⟨_, h2⟩), h3, fun p hp hl => (before p hp hl).2, ?_, .inr hmA, fun p hp hl => (before p hp hl).1, ptL_nn ho hw a hmA⟩⟩
      rcases Int.lt_or_le a c with hl | hl
      · exact hl
      · have : a = c := by omega
        subst this
        omega

/-- Halving finds the first. -/
theorem srchI_spec (P : Int → Bool) : ∀ (f : Nat) (i j : Int), i ≤ j → j - i ≤ f → (∀ x y, i ≤ x → x ≤ y → y < j → P x = true → P y = true) →
    i ≤ srchI P f i j ∧ srchI P f i j ≤ j ∧ (∀ x, i ≤ x → x < srchI P f i j → P x = false) ∧ (srchI P f i j < j → P (srchI P f i j) = true)
  | 0, i, j, h1, h2, _ => by
    have : i = j := by omega
    subst this
    refine ⟨Int.le_refl _, Int.le_refl _, fun x hx hl => ?_, fun hl => ?_⟩
    · have : srchI P 0 i i = i := rfl
      omega
    · have : srchI P 0 i i = i := rfl
      omega
  | f + 1, i, j, h1, h2, hm => by
    rw [srchI]
    by_cases hl : i < j
    · rw [if_pos hl]
      have hb : i ≤ (i + j) / 2 ∧ (i + j) / 2 < j := by omega
      generalize (i + j) / 2 = k at hb ⊢
      cases hk : P k
      · rw [cond_false]
        obtain ⟨g1, g2, g3, g4⟩ := srchI_spec P f (k + 1) j (by omega) (by omega) fun x y hx hxy hy => hm x y (by omega) hxy hy
        refine ⟨by omega, g2, fun x hx hxl => ?_, g4⟩
        rcases Int.lt_or_le k x with hkx | hkx
        · exact g3 x (by omega) hxl
        · cases hpx : P x
          · rfl
          · have := hm x k hx hkx hb.2 hpx
            rw [hk] at this; cases this
      · rw [cond_true]
        obtain ⟨g1, g2, g3, g4⟩ := srchI_spec P f i k hb.1 (by omega) fun x y hx hxy hy => hm x y hx hxy (by omega)
        refine ⟨g1, by omega, g3, fun _ => ?_⟩
        rcases Int.lt_or_le (srchI P f i k) k with h | h
        · exact g4 h
        · rw [show srchI P f i k = k by omega]; exact hk
    · rw [if_neg hl]
      exact ⟨Int.le_refl _, h1, fun x hx hxl => by omega, fun h => absurd h hl⟩

/-- Where it is not safe, by halving and by division. -/
theorem unsafe_at {l : List Sht} (ho : Oks l) {w en a c : Int} (hw : 1 ≤ w) (he : enr l w a ≤ en) (hf : First l w en a c) :
    ∃ r s : Int, srchI (fun n => decide (enr l w (a + n + 1) > en)) (c - a).toNat 0 (c - a) = r ∧ 0 ≤ r ∧ r < c - a ∧ enr l w c - enr l w a = (c - a) * s ∧ 0 < s ∧ r = (en - enr l w a) / s ∧ enr l w (a + r) ≤ en ∧ en < enr l w (a + r + 1) := by
  obtain ⟨s, hs⟩ : ∃ s, s = enr l w (a + 1) - enr l w a := ⟨_, rfl⟩
  have ev : ∀ k : Int, 0 ≤ k → k ≤ c - a → enr l w (a + k) = enr l w a + k * s := fun k h0 h1 => by
    have := enr_even ho hw hf.gr k.toNat (by omega)
    rw [show ((k.toNat : Nat) : Int) = k by omega, ← hs] at this
    exact this
  have hlt := hf.lt
  have hc := ev (c - a) (by omega) (Int.le_refl _)
  rw [show a + (c - a) = c by omega] at hc
  have hbig := hf.big
  have hs0 : 0 < s := by
    rcases Int.lt_or_le 0 s with h | h
    · exact h
    · have : (c - a) * s ≤ 0 := Int.mul_nonpos_of_nonneg_of_nonpos (by omega) h
      omega
  have mono : ∀ x y : Int, 0 ≤ x → x ≤ y → y < c - a → decide (enr l w (a + x + 1) > en) = true → decide (enr l w (a + y + 1) > en) = true := fun x y h0 hxy hy hx => by
    simp only [decide_eq_true_eq] at hx ⊢
    rw [show a + x + 1 = a + (x + 1) by omega, ev (x + 1) (by omega) (by omega)] at hx
    rw [show a + y + 1 = a + (y + 1) by omega, ev (y + 1) (by omega) (by omega)]
    have : (x + 1) * s ≤ (y + 1) * s := Int.mul_le_mul_of_nonneg_right (by omega) (by omega)
    omega
  obtain ⟨g1, g2, g3, g4⟩ := srchI_spec (fun n => decide (enr l w (a + n + 1) > en)) (c - a).toNat 0 (c - a) (by omega) (by omega) mono
  generalize srchI (fun n => decide (enr l w (a + n + 1) > en)) (c - a).toNat 0 (c - a) = r at g1 g2 g3 g4
  have hr : r < c - a := by
    rcases Int.lt_or_le r (c - a) with h | h
    · exact h
    · have := g3 (c - a - 1) (by omega) (by omega)
      simp only [decide_eq_false_iff_not] at this
      rw [show a + (c - a - 1) + 1 = c by omega] at this
      omega
  have h1 := g4 hr
  simp only [decide_eq_true_eq] at h1
  have h0 : enr l w (a + r) ≤ en := by
    rcases Int.lt_or_le 0 r with h | h
    · have := g3 (r - 1) (by omega) (by omega)
      simp only [decide_eq_false_iff_not] at this
      rw [show a + (r - 1) + 1 = a + r by omega] at this
      omega
    · rw [show r = 0 by omega, Int.add_zero]; exact he
  refine ⟨r, s, rfl, g1, hr, by omega, hs0, ?_, h0, h1⟩
  rw [ev r g1 (by omega)] at h0
  rw [show a + r + 1 = a + (r + 1) by omega, ev (r + 1) (by omega) (by omega), Int.add_mul, Int.one_mul] at h1
  refine (Int.ediv_eq_iff_of_pos hs0).2 ?_ |>.symm
  constructor <;> omega
end Gv
