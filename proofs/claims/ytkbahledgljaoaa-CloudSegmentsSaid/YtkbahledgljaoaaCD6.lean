import Derived.Test.YtkbahledgljaoaaCQ7
import Derived.Test.YtkbahledgljaoaaCD5

/- Divisions of a profile: the best one costs least, and as little with no fewer segments. -/
namespace Gv
open Go

inductive Dv (l : List Int) (pen : Int) : Nat → List Int → Int → Prop
  | none : Dv l pen 0 [] 0
  | more {i k : Nat} {s : List Int} {c : Int} (h : Dv l pen i s c) (hi : i < k) (hk : k ≤ l.length) : Dv l pen k (s ++ [(i : Int)]) (c + (costM (segL l i k) + pen))

abbrev Dn : Type := List Int × Int
def leD (a b : Dn) : Prop := a.2 < b.2 ∨ a.2 = b.2 ∧ a.1.length ≤ b.1.length
theorem leD_refl (a : Dn) : leD a a := .inr ⟨rfl, Nat.le_refl _⟩
theorem leD_trans {a b c : Dn} (h1 : leD a b) (h2 : leD b c) : leD a c := by
  unfold leD at *
  omega

def cmpZ (x y : Int) : Int := if x < y then -1 else if x > y then 1 else 0
def cmpL : List Int → List Int → Int
  | [], [] => 0
  | [], _ :: _ => -1
  | _ :: _, [] => 1
  | x :: r, y :: t => if cmpZ x y ≠ 0 then cmpZ x y else cmpL r t
def cmpD (a b : Dn) : Int := first3 (cmpZ a.2 b.2) (cmpZ a.1.length b.1.length) (cmpL a.1 b.1)
theorem cmpD_lt {a b : Dn} (h : cmpD a b < 0) : leD a b := by
  unfold cmpD first3 cmpZ at h
  unfold leD
  by_cases h1 : a.2 < b.2
  · exact .inl h1
  · rw [if_neg h1] at h
    by_cases h2 : a.2 > b.2
    · rw [if_pos h2, if_pos (by decide)] at h
      omega
    · rw [if_neg h2, if_neg (by decide)] at h
      by_cases h3 : (a.1.length : Int) < b.1.length
      · right
        omega
      · right
        rw [if_neg h3] at h
        by_cases h4 : (a.1.length : Int) > b.1.length
        · rw [if_pos h4, if_pos (by decide)] at h
          omega
        · omega
theorem cmpD_ge {a b : Dn} (h : ¬ cmpD a b < 0) : leD b a := by
  unfold cmpD first3 cmpZ at h
  unfold leD
  by_cases h1 : a.2 < b.2
  · rw [if_pos h1, if_pos (by decide)] at h
    omega
  · by_cases h2 : a.2 > b.2
    · left
      omega
    · rw [if_neg h1, if_neg h2, if_neg (by decide)] at h
      right
      by_cases h3 : (a.1.length : Int) < b.1.length
      · rw [if_pos h3, if_pos (by decide)] at h
        omega
      · omega

def minD (m : Dn) : List Dn → Dn
  | [] => m
  | x :: r => minD (if cmpD x m < 0 then x else m) r
theorem minD_ok : ∀ (r : List Dn) (m : Dn), leD (minD m r) m ∧ (∀ x ∈ r, leD (minD m r) x) ∧ (minD m r = m ∨ minD m r ∈ r)
  | [], m => ⟨leD_refl _, fun x hx => (by cases hx), .inl rfl⟩
  | x :: r, m => by
    show leD (minD (if cmpD x m < 0 then x else m) r) m ∧ (∀ y ∈ x :: r, leD (minD (if cmpD x m < 0 then x else m) r) y) ∧ _
    by_cases h : cmpD x m < 0
    · obtain ⟨h1, h2, h3⟩ := minD_ok r x
      have he : minD m (x :: r) = minD x r := by
        show minD (if cmpD x m < 0 then x else m) r = _
        rw [if_pos h]
      rw [if_pos h]
      refine ⟨leD_trans h1 (cmpD_lt h), fun y hy => ?_, .inr ?_⟩
      · rcases List.mem_cons.1 hy with rfl | hy
        · exact h1
        · exact h2 y hy
      · rw [he]
        rcases h3 with h3 | h3
        · rw [h3]
          exact List.mem_cons_self
        · exact List.mem_cons_of_mem _ h3
    · obtain ⟨h1, h2, h3⟩ := minD_ok r m
      have he : minD m (x :: r) = minD m r := by
        show minD (if cmpD x m < 0 then x else m) r = _
        rw [if_neg h]
      rw [if_neg h]
      refine ⟨h1, fun y hy => ?_, ?_⟩
      · rcases List.mem_cons.1 hy with rfl | hy
        · exact leD_trans h1 (cmpD_ge h)
        · exact h2 y hy
      · rw [he]
        rcases h3 with h3 | h3
        · exact .inl h3
        · exact .inr (List.mem_cons_of_mem _ h3)

def candD (l : List Int) (pen : Int) (k : Nat) : List Dn → Nat → List Dn
  | [], _ => []
  | d :: r, i => (d.1 ++ [(i : Int)], d.2 + (costM (segL l i k) + pen)) :: candD l pen k r (i + 1)
theorem candD_cost (l : List Int) (pen : Int) (k : Nat) : ∀ (ds : List Dn) (i : Nat), (candD l pen k ds i).map (·.2) = cands l pen k (ds.map (·.2)) i
  | [], _ => rfl
  | d :: r, i => by
    show (d.2 + (costM (segL l i k) + pen)) :: (candD l pen k r (i + 1)).map (·.2) = (d.2 + costM (segL l i k) + pen) :: cands l pen k (r.map (·.2)) (i + 1)
    rw [candD_cost l pen k r (i + 1), Int.add_assoc]
theorem candD_mem (l : List Int) (pen : Int) (k : Nat) : ∀ (ds : List Dn) (i : Nat) (x : Dn), x ∈ candD l pen k ds i → ∃ (j : Nat) (d : Dn), ds[j]? = some d ∧ x = (d.1 ++ [((i + j : Nat) : Int)], d.2 + (costM (segL l (i + j) k) + pen))
  | [], _, x, h => by cases h
  | d :: r, i, x, h => by
    rcases List.mem_cons.1 h with rfl | h
    · exact ⟨0, d, rfl, rfl⟩
    · obtain ⟨j, c, hj, hx⟩ := candD_mem l pen k r (i + 1) x h
      exact ⟨j + 1, c, hj, by rw [hx, show i + (j + 1) = i + 1 + j by omega]⟩
theorem candD_of (l : List Int) (pen : Int) (k : Nat) : ∀ (ds : List Dn) (i j : Nat) (d : Dn), ds[j]? = some d → (d.1 ++ [((i + j : Nat) : Int)], d.2 + (costM (segL l (i + j) k) + pen)) ∈ candD l pen k ds i
  | [], _, j, d, h => by simp at h
  | e :: r, i, 0, d, h => by
    simp only [List.getElem?_cons_zero, Option.some.injEq] at h
    subst h
    exact List.mem_cons_self
  | e :: r, i, j + 1, d, h => by
    have := candD_of l pen k r (i + 1) j d (by simpa using h)
    rw [show i + 1 + j = i + (j + 1) by omega] at this
    exact List.mem_cons_of_mem _ this

def nextD (l : List Int) (pen : Int) (ds : List Dn) : Dn :=
  match candD l pen ds.length ds 0 with
  | [] => ([], 0)
  | d :: r => minD d r
theorem nextD_ok {l : List Int} {pen : Int} {ds : List Dn} (h : ds ≠ []) : nextD l pen ds ∈ candD l pen ds.length ds 0 ∧ ∀ x ∈ candD l pen ds.length ds 0, leD (nextD l pen ds) x := by
  unfold nextD
  cases hc : candD l pen ds.length ds 0 with
  | nil =>
    cases ds with
    | nil => exact absurd rfl h
    | cons d r => cases hc
  | cons d r =>
    obtain ⟨h1, h2, h3⟩ := minD_ok r d
    refine ⟨?_, fun x hx => ?_⟩
    · rcases h3 with h3 | h3
      · show minD d r ∈ _
        rw [h3]
        exact List.mem_cons_self
      · exact List.mem_cons_of_mem _ h3
    · rcases List.mem_cons.1 hx with rfl | hx
      · exact h1
      · exact h2 x hx

/-- The best divisions of 0 to k gates. -/
def bestD (l : List Int) (pen : Int) : Nat → List Dn
  | 0 => [([], 0)]
  | k + 1 => bestD l pen k ++ [nextD l pen (bestD l pen k)]
theorem bestD_len (l : List Int) (pen : Int) : ∀ k, (bestD l pen k).length = k + 1
  | 0 => rfl
  | k + 1 => by
    show (bestD l pen k ++ [nextD l pen (bestD l pen k)]).length = _
    rw [List.length_append, bestD_len l pen k]
    rfl
theorem bestD_ne (l : List Int) (pen : Int) (k : Nat) : bestD l pen k ≠ [] := fun h => by
  have := bestD_len l pen k
  rw [h] at this
  cases this

def Good (l : List Int) (pen : Int) (j : Nat) (d : Dn) : Prop := Dv l pen j d.1 d.2 ∧ ∀ s c, Dv l pen j s c → leD d (s, c)
theorem bestD_good (l : List Int) (pen : Int) : ∀ k, k ≤ l.length → ∀ j d, (bestD l pen k)[j]? = some d → Good l pen j d
  | 0, _, j, d, h => by
    cases j with
    | zero =>
      simp only [bestD, List.getElem?_cons_zero, Option.some.injEq] at h
      subst h
      refine ⟨.none, fun s c hd => ?_⟩
      cases hd with
      | none => exact leD_refl _
      | more h hi hk => omega
    | succ j => simp [bestD] at h
  | k + 1, hk, j, d, h => by
    have hlen := bestD_len l pen k
    have h : (bestD l pen k ++ [nextD l pen (bestD l pen k)])[j]? = some d := h
    by_cases hj : j < k + 1
    · rw [List.getElem?_append_left (by omega)] at h
      exact bestD_good l pen k (by omega) j d h
    · rw [List.getElem?_append_right (by omega), hlen] at h
      obtain rfl : j = k + 1 := by
        have := (List.getElem?_eq_some_iff.1 h).1
        simp at this
        omega
      rw [Nat.sub_self] at h
      simp only [List.getElem?_cons_zero, Option.some.injEq] at h
      subst h
      obtain ⟨h1, h2⟩ := nextD_ok (l := l) (pen := pen) (bestD_ne l pen k)
      rw [hlen] at h1 h2
      constructor
      · obtain ⟨i, e, hi, hx⟩ := candD_mem l pen (k + 1) _ 0 _ h1
        rw [Nat.zero_add] at hx
        rw [hx]
        have hil : i < k + 1 := by
          have := (List.getElem?_eq_some_iff.1 hi).1
          omega
        exact .more (bestD_good l pen k (by omega) i e hi).1 hil hk
      · intro s c hd
        cases hd with
        | more h hi hk =>
          rename_i i s c
          obtain ⟨e, he⟩ : ∃ e, (bestD l pen k)[i]? = some e := ⟨(bestD l pen k)[i]'(by omega), List.getElem?_eq_getElem _⟩
          have hg := (bestD_good l pen k (by omega) i e he).2 s c h
          have hm := h2 _ (candD_of l pen (k + 1) (bestD l pen k) 0 i e he)
          rw [Nat.zero_add] at hm
          refine leD_trans hm ?_
          unfold leD at hg ⊢
          simp only [List.length_append, List.length_cons, List.length_nil] at hg ⊢
          omega

/-- The costs of the best divisions are the potentials. -/
theorem bestD_cost {l : List Int} (hl : l.length ≤ 1000) (hv : okP l) {pen : Int} (hp : 0 ≤ pen ∧ pen ≤ 1000000) : ∀ k, k ≤ l.length → (bestD l pen k).map (·.2) = potsR l pen k
  | 0, _ => rfl
  | k + 1, hk => by
    have ih := bestD_cost hl hv hp k (by omega)
    show (bestD l pen k ++ [nextD l pen (bestD l pen k)]).map (·.2) = potsR l pen k ++ [nextP l pen (potsR l pen k)]
    rw [List.map_append, ih, List.map_cons, List.map_nil]
    have hlen := potsR_len l pen k
    have hpn : potsR l pen k ≠ [] := fun h => by rw [h] at hlen; cases hlen
    obtain ⟨h1, h2⟩ := nextD_ok (l := l) (pen := pen) (bestD_ne l pen k)
    rw [bestD_len] at h1 h2
    have hc := candD_cost l pen (k + 1) (bestD l pen k) 0
    rw [ih] at hc
    have ho := cands_ok hl hv hp (pots_ok hl hv hp (j := k) (by omega)) (by omega)
    rw [hlen] at ho
    obtain ⟨h3, h4⟩ := leastF_start (cands_ne (l := l) (pen := pen) (k := k + 1) hpn) fun x hx => (ho x hx).1
    have hm : (nextD l pen (bestD l pen k)).2 ∈ cands l pen (k + 1) (potsR l pen k) 0 := by
      rw [← hc]
      exact List.mem_map.2 ⟨_, h1, rfl⟩
    have h5 := h3 _ hm
    rw [← hc] at h4
    obtain ⟨x, hx, hx2⟩ := List.mem_map.1 h4
    have h6 := h2 x hx
    rw [hc] at hx2
    have he : (nextD l pen (bestD l pen k)).2 = nextP l pen (potsR l pen k) := by
      unfold nextP
      rw [if_neg hpn, hlen]
      unfold leD at h6
      omega
    rw [he]

theorem Dv_seven {l : List Int} {pen : Int} {k : Nat} {s : List Int} {c : Int} (h : Dv l pen k s c) : Dv l (pen + 7) k s (c + 7 * (s.length : Int)) := by
  induction h with
  | none => exact .none
  | more h hi hk ih =>
    rename_i i k s c
    have := Dv.more ih hi hk
    rw [show c + 7 * (s.length : Int) + (costM (segL l i k) + (pen + 7)) = c + (costM (segL l i k) + pen) + 7 * ((s ++ [(i : Int)]).length : Int) by rw [List.length_append, List.length_cons, List.length_nil]; omega] at this
    exact this
theorem Dv_less {l : List Int} {pen : Int} {k : Nat} {s : List Int} {c : Int} (h : Dv l (pen + 7) k s c) : Dv l pen k s (c - 7 * (s.length : Int)) := by
  induction h with
  | none => exact .none
  | more h hi hk ih =>
    rename_i i k s c
    have := Dv.more ih hi hk
    rw [show c - 7 * (s.length : Int) + (costM (segL l i k) + pen) = c + (costM (segL l i k) + (pen + 7)) - 7 * ((s ++ [(i : Int)]).length : Int) by rw [List.length_append, List.length_cons, List.length_nil]; omega] at this
    exact this
/-- With a greater penalty there are no more segments. -/
theorem more_pen {l : List Int} {pen : Int} {k : Nat} {d e : Dn} (h1 : Good l pen k d) (h2 : Good l (pen + 7) k e) : e.1.length ≤ d.1.length := by
  have a := h1.2 _ _ (Dv_less h2.1)
  have b := h2.2 _ _ (Dv_seven h1.1)
  unfold leD at a b
  simp only at a b
  omega

/-- A division, segment after segment from a gate on: its cost, if it is one. -/
def dvG (l : List Int) (pen : Int) (k : Nat) : Nat → List Int → Int → Option Int
  | x, [], a => if x < k then some (a + (costM (segL l x k) + pen)) else none
  | x, y :: r, a => if (x : Int) + 1 ≤ y ∧ y ≤ (k : Int) - 1 then dvG l pen k y.toNat r (a + (costM (segL l x y.toNat) + pen)) else none
theorem dvG_sound {l : List Int} {pen : Int} {k : Nat} (hk : k ≤ l.length) : ∀ (r : List Int) (x : Nat) (a c : Int) (s : List Int), Dv l pen x s a → dvG l pen k x r a = some c → Dv l pen k (s ++ (x : Int) :: r) c
  | [], x, a, c, s, hd, h => by
    unfold dvG at h
    by_cases hx : x < k
    · rw [if_pos hx] at h
      cases h
      exact .more hd hx hk
    · rw [if_neg hx] at h
      cases h
  | y :: r, x, a, c, s, hd, h => by
    unfold dvG at h
    by_cases hx : (x : Int) + 1 ≤ y ∧ y ≤ (k : Int) - 1
    · rw [if_pos hx] at h
      have := dvG_sound hk r y.toNat _ c (s ++ [(x : Int)]) (.more hd (by omega) (by omega)) h
      rw [List.append_assoc] at this
      have hy : ((y.toNat : Nat) : Int) = y := by omega
      rw [hy] at this
      exact this
    · rw [if_neg hx] at h
      cases h
theorem dvG_snoc {l : List Int} {pen : Int} {i k : Nat} (hi : i < k) : ∀ (r : List Int) (x : Nat) (a c : Int), dvG l pen i x r a = some c → dvG l pen k x (r ++ [(i : Int)]) a = some (c + (costM (segL l i k) + pen))
  | [], x, a, c, h => by
    unfold dvG at h
    by_cases hx : x < i
    · rw [if_pos hx] at h
      cases h
      show (if (x : Int) + 1 ≤ (i : Int) ∧ (i : Int) ≤ (k : Int) - 1 then dvG l pen k ((i : Int)).toNat [] (a + (costM (segL l x ((i : Int)).toNat) + pen)) else none) = _
      rw [if_pos ⟨by omega, by omega⟩, Int.toNat_natCast]
      unfold dvG
      rw [if_pos hi]
    · rw [if_neg hx] at h
      cases h
  | y :: r, x, a, c, h => by
    unfold dvG at h
    by_cases hx : (x : Int) + 1 ≤ y ∧ y ≤ (i : Int) - 1
    · rw [if_pos hx] at h
      show (if (x : Int) + 1 ≤ y ∧ y ≤ (k : Int) - 1 then dvG l pen k y.toNat (r ++ [(i : Int)]) (a + (costM (segL l x y.toNat) + pen)) else none) = _
      rw [if_pos ⟨hx.1, by omega⟩]
      exact dvG_snoc hi r y.toNat _ c h
    · rw [if_neg hx] at h
      cases h
theorem dvG_complete {l : List Int} {pen : Int} {k : Nat} {s : List Int} {c : Int} (h : Dv l pen k s c) : (k = 0 ∧ s = [] ∧ c = 0) ∨ ∃ r, s = 0 :: r ∧ dvG l pen k 0 r 0 = some c := by
  induction h with
  | none => exact .inl ⟨rfl, rfl, rfl⟩
  | more h hi hk ih =>
    rename_i i k s c
    right
    rcases ih with ⟨rfl, rfl, rfl⟩ | ⟨r, rfl, hr⟩
    · refine ⟨[], rfl, ?_⟩
      unfold dvG
      rw [if_pos hi]
    · exact ⟨r ++ [(i : Int)], rfl, dvG_snoc hi r 0 0 c hr⟩
end Gv

/- Divisions: what the functions give. -/
namespace Gv
open Go
set_option maxRecDepth 100000

def encDn (d : Dn) : List PV := [.list d.1.length (encI d.1), .int .i64 d.2]
def encD (ds : List Dn) : List PV := ds.flatMap encDn
theorem encD_len : ∀ l : List Dn, (encD l).length = l.length * 2
  | [] => rfl
  | z :: l => by
    show (encDn z ++ encD l).length = _
    rw [List.length_append, encD_len l, List.length_cons]
    show 2 + _ = _
    omega
theorem encD_get : ∀ (l : List Dn) (j k : Nat), k < 2 → (encD l)[j * 2 + k]? = l[j]?.bind fun z => (encDn z)[k]?
  | [], j, k, _ => by simp [encD]
  | x :: l, 0, k, hk => by
    show (encDn x ++ encD l)[0 * 2 + k]? = _
    rw [Nat.zero_mul, Nat.zero_add, List.getElem?_append_left (by simpa [encDn] using hk)]
    rfl
  | x :: l, j + 1, k, hk => by
    show (encDn x ++ encD l)[(j + 1) * 2 + k]? = _
    rw [List.getElem?_append_right (by simp [encDn]; omega), List.getElem?_cons_succ, ← encD_get l j k hk]
    congr 1
    simp [encDn]
    omega
theorem getD0 {l : List Dn} {i : Nat} {z : Dn} (h : l[i]? = some z) : (encD l)[i * 2]? = some (.list z.1.length (encI z.1)) := by
  have := encD_get l i 0 (by omega)
  rw [h] at this
  exact this
theorem getD1 {l : List Dn} {i : Nat} {z : Dn} (h : l[i]? = some z) : (encD l)[i * 2 + 1]? = some (.int .i64 z.2) := by
  have := encD_get l i 1 (by omega)
  rw [h] at this
  exact this
theorem encD_snoc (l : List Dn) (d : Dn) : encD l ++ [.list d.1.length (encI d.1), .int .i64 d.2] = encD (l ++ [d]) := by
  unfold encD
  rw [List.flatMap_append]
  rfl

theorem isNaN_is (x : Int) : Fcmp_isNaN_int_ [.int .i64 x] = some false :=
  Fcmp_isNaN_int__of x (by unfold tcmp_isNaN_int_; rw [bne_self_eq_false]; rfl)
theorem cmpC_is (x y : Int) : Fcmp_Compare_int_ [.int .i64 x, .int .i64 y] = some (cmpZ x y) := by
  refine Fcmp_Compare_int__of _ _ ?_
  unfold tcmp_Compare_int_ cmpZ
  simp only [isNaN_is, bindO_val, cond_false, bif_dec]
  by_cases h : x < y
  · rw [if_pos h, if_pos h]
  · rw [if_neg h, if_neg h]
    by_cases h2 : x > y
    · rw [if_pos h2, if_pos h2]
    · rw [if_neg h2, if_neg h2]

def stepC : List Int → List Int → Int ⊕ Unit
  | [], _ => .inr ()
  | _ :: _, [] => .inl 1
  | x :: r, y :: t => if cmpZ x y ≠ 0 then .inl (cmpZ x y) else stepC r t
theorem cmpL_step : ∀ a b : List Int, cmpL a b = (match stepC a b with | .inl v => v | .inr _ => if (a.length : Int) < b.length then -1 else 0)
  | [], [] => rfl
  | [], y :: t => by
    show (-1 : Int) = if ((0 : Nat) : Int) < ((y :: t).length : Int) then -1 else 0
    rw [if_pos (by rw [List.length_cons]; omega)]
  | x :: r, [] => rfl
  | x :: r, y :: t => by
    unfold cmpL stepC
    by_cases h : cmpZ x y = 0
    · rw [if_neg (by simp [h]), if_neg (by simp [h]), cmpL_step r t]
      cases stepC r t with
      | inl v => rfl
      | inr u =>
        show (if (r.length : Int) < t.length then (-1 : Int) else 0) = if ((x :: r).length : Int) < ((y :: t).length : Int) then -1 else 0
        rw [List.length_cons, List.length_cons]
        by_cases h2 : (r.length : Int) < t.length
        · rw [if_pos h2, if_pos (by omega)]
        · rw [if_neg h2, if_neg (by omega)]
    · rw [if_pos h, if_pos h]
def endC (a b : List Int) : Int ⊕ Unit → Option (Ext × S)
  | .inl v => exO (Xslices_Compare___int_int__0a v)
  | .inr _ => exO (Xslices_Compare___int_int__0b (a.length, encI a, b.length, encI b))
theorem cmpL_loop (a b : List Int) (ha : a.length ≤ 1000000) : ∀ i, i ≤ a.length →
    Rslices_Compare___int_int__0 (Tslices_Compare___int_int__0a a.length (encI a) b.length (encI b) a.length (encI a) a.length i) = endC a b (stepC (a.drop i) (b.drop i)) := by
  refine up_ind _ ?_ ?_
  · rw [List.drop_length]
    show _ = exO (Xslices_Compare___int_int__0b (a.length, encI a, b.length, encI b))
    refine Rslices_Compare___int_int__0a_of _ _ _ _ _ _ _ _ ?_
    unfold Bslices_Compare___int_int__0a
    rw [bif_neg (by omega)]
    rfl
  · intro i hi ih
    obtain ⟨x, hx, hd⟩ := get_drop hi
    rw [hd]
    have wk : w64 ((i : Int) + 1) = ((i + 1 : Nat) : Int) := by rw [w64_in (by omega)]; omega
    by_cases hb : i < b.length
    · obtain ⟨y, hy, hd2⟩ := get_drop hb
      rw [hd2]
      have hbody : Bslices_Compare___int_int__0a (Fn env) Rslices_Compare___int_int__0 exO Lslices_Compare___int_int__0 a.length (encI a) b.length (encI b) a.length (encI a) a.length i =
          (if cmpZ x y = 0 then Rslices_Compare___int_int__0 (Tslices_Compare___int_int__0a a.length (encI a) b.length (encI b) a.length (encI a) a.length (i + 1 : Nat)) else exO (Xslices_Compare___int_int__0a (cmpZ x y))) := by
        unfold Bslices_Compare___int_int__0a
        rw [bif_pos (by omega), bif_pos (by omega)]
        simp only [Int.toNat_natCast, Nat.mul_one, encI_get, hx, Option.map_some, intC_int, bindO_val]
        rw [bif_neg (by omega), bif_pos (by omega)]
        simp only [hy, Option.map_some, intC_int, bindO_val, cmpC_is, wk, bif_ne]
      unfold stepC
      by_cases h : cmpZ x y = 0
      · rw [if_neg (by simp [h])]
        rw [if_pos h] at hbody
        cases hs : stepC (a.drop (i + 1)) (b.drop (i + 1)) with
        | inl v =>
          rw [hs] at ih
          exact Rslices_Compare___int_int__0a_of _ _ _ _ _ _ _ _ (hbody.trans ih)
        | inr u =>
          rw [hs] at ih
          exact Rslices_Compare___int_int__0a_of _ _ _ _ _ _ _ _ (hbody.trans ih)
      · rw [if_pos h]
        rw [if_neg h] at hbody
        exact Rslices_Compare___int_int__0a_of _ _ _ _ _ _ _ _ hbody
    · rw [List.drop_eq_nil_of_le (show b.length ≤ i by omega)]
      show _ = exO (Xslices_Compare___int_int__0a 1)
      refine Rslices_Compare___int_int__0a_of _ _ _ _ _ _ _ _ ?_
      unfold Bslices_Compare___int_int__0a
      rw [bif_pos (by omega), bif_pos (by omega)]
      simp only [Int.toNat_natCast, Nat.mul_one, encI_get, hx, Option.map_some, intC_int, bindO_val]
      rw [bif_pos (by omega)]
      rfl
theorem cmpL_is (a b : List Int) (ha : a.length ≤ 1000000) : Fslices_Compare___int_int_ [.list a.length (encI a), .list b.length (encI b)] = some (cmpL a b) := by
  refine Fslices_Compare___int_int__of _ _ _ _ ?_
  unfold tslices_Compare___int_int_
  have hq := cmpL_loop a b ha 0 (by omega)
  rw [List.drop_zero, List.drop_zero] at hq
  rw [cmpL_step]
  cases hs : stepC a b with
  | inl v =>
    rw [hs] at hq
    have hL := Lslices_Compare___int_int__0a_of hq
    have hL : Lslices_Compare___int_int__0 (Tslices_Compare___int_int__0a a.length (encI a) b.length (encI b) a.length (encI a) a.length 0) = _ := hL
    simp only [hL, bindO_val, Sum.elim_inl]
  | inr u =>
    rw [hs] at hq
    have hL := Lslices_Compare___int_int__0b_of hq
    have hL : Lslices_Compare___int_int__0 (Tslices_Compare___int_int__0a a.length (encI a) b.length (encI b) a.length (encI a) a.length 0) = _ := hL
    simp only [hL, bindO_val, Sum.elim_inr, bif_dec]
    split <;> rfl
theorem or3_is (a b c : Int) : Fcmp_Or_3 [.list 3 [.int .i64 a, .int .i64 b, .int .i64 c]] = some (first3 a b c) :=
  Fcmp_Or_3_of a b c (by
    unfold tcmp_Or_3 first3
    simp only [bif_ne]
    by_cases h1 : a = 0 <;> by_cases h2 : b = 0 <;> by_cases h3 : c = 0 <;> simp [h1, h2, h3])
theorem compare_is (a b : Dn) (ha : a.1.length ≤ 1000000) : F_glidepath_cloud_division__compare [.agg [.list a.1.length (encI a.1), .int .i64 a.2], .agg [.list b.1.length (encI b.1), .int .i64 b.2]] = some (cmpD a b) := by
  refine F_glidepath_cloud_division__compare_of _ _ _ _ _ _ ?_
  unfold t_glidepath_cloud_division__compare
  have h := cmpL_is a.1 b.1 ha
  simp only [cmpC_is, bindO_val, h, or3_is]
  rfl

/-- Divisions that are not too large. -/
def okD (ds : List Dn) : Prop := ∀ d ∈ ds, d.1.length ≤ 1000 ∧ 0 ≤ d.2 ∧ d.2 ≤ 2000000011000000
theorem min_loop (ds : List Dn) (h : ∀ d ∈ ds, d.1.length ≤ 1000000) (hl : ds.length ≤ 1000000) : ∀ i, i ≤ ds.length → ∀ m : Dn,
    Rslices_MinFunc_divisions_0 (Tslices_MinFunc_divisions_0a ds.length (encD ds) i m.1.length (encI m.1) m.2) = exO (Xslices_MinFunc_divisions_0a ((minD m (ds.drop i)).1.length, encI (minD m (ds.drop i)).1, (minD m (ds.drop i)).2)) := by
  refine up_ind (P := fun i => ∀ m : Dn, Rslices_MinFunc_divisions_0 (Tslices_MinFunc_divisions_0a ds.length (encD ds) i m.1.length (encI m.1) m.2) = exO (Xslices_MinFunc_divisions_0a ((minD m (ds.drop i)).1.length, encI (minD m (ds.drop i)).1, (minD m (ds.drop i)).2))) _ ?_ ?_
  · intro m
    refine Rslices_MinFunc_divisions_0a_of _ _ _ _ _ _ ?_
    unfold Bslices_MinFunc_divisions_0a
    rw [bif_neg (by omega), List.drop_length]
    rfl
  · intro i hi ih m
    obtain ⟨x, hx, hd⟩ := get_drop hi
    refine Rslices_MinFunc_divisions_0a_of _ _ _ _ _ _ ?_
    unfold Bslices_MinFunc_divisions_0a
    have hc := compare_is x m (h x (List.mem_of_getElem? hx))
    have wk : w64 ((i : Int) + 1) = ((i + 1 : Nat) : Int) := by rw [w64_in (by omega)]; omega
    have hb1 : (decide (((0 : Int) ≤ (i : Int)) ∧ ((i : Int) < (ds.length : Int)))) = true := decide_eq_true ⟨by omega, by omega⟩
    rw [bif_pos (by omega)]
    simp only [hb1, cond_true, Int.toNat_natCast, getD0 hx, getD1 hx, listC_list, intC_int, bindO_val, hc, wk]
    rw [hd, bif_dec]
    show _ = exO (Xslices_MinFunc_divisions_0a ((minD (if cmpD x m < 0 then x else m) (ds.drop (i + 1))).1.length, encI (minD (if cmpD x m < 0 then x else m) (ds.drop (i + 1))).1, (minD (if cmpD x m < 0 then x else m) (ds.drop (i + 1))).2))
    by_cases hm : cmpD x m < 0
    · rw [if_pos hm, if_pos hm]
      exact ih x
    · rw [if_neg hm, if_neg hm]
      exact ih m
theorem minFunc_is (d : Dn) (r : List Dn) (h : ∀ x ∈ d :: r, x.1.length ≤ 1000000) (hl : (d :: r).length ≤ 1000000) :
    Fslices_MinFunc_divisions [.list (d :: r).length (encD (d :: r)), .fn 100 []] = some (((minD d r).1.length, encI (minD d r).1), (minD d r).2) := by
  refine Fslices_MinFunc_divisions_of _ _ ?_
  unfold tslices_MinFunc_divisions
  have hn : (d :: r).length = r.length + 1 := List.length_cons
  rw [bif_neg (by omega), bif_pos ⟨by omega, by omega⟩]
  have g0 : (encD (d :: r))[0]? = some (.list d.1.length (encI d.1)) := rfl
  have g1 : (encD (d :: r))[1]? = some (.int .i64 d.2) := rfl
  have hq := min_loop (d :: r) h hl 1 (by omega) d
  rw [show (d :: r).drop 1 = r from rfl] at hq
  have hL := Lslices_MinFunc_divisions_0a_of hq
  have hL : Lslices_MinFunc_divisions_0 (Tslices_MinFunc_divisions_0a (d :: r).length (encD (d :: r)) 1 d.1.length (encI d.1) d.2) = _ := hL
  simp only [g0, g1, listC_list, intC_int, bindO_val, hL]

theorem grown_is (d : Dn) (hd : d.1.length ≤ 1000) (i k : Int) (hk : -9223372036854775808 ≤ d.2 + k ∧ d.2 + k ≤ 9223372036854775807) :
    Fn env 98 (RSh.agg [CK.list, CK.int IntKind.i64]) [.agg [.list d.1.length (encI d.1), .int .i64 d.2], .int .i64 i, .int .i64 k] = some (((d.1 ++ [i]).length, encI (d.1 ++ [i])), d.2 + k) := by
  have hw : IntKind.i64.wrap (d.2 + k) = d.2 + k := by
    rw [IntKind.wrap_i64]
    omega
  have hg : grownG [.agg [.list d.1.length (encI d.1), .int .i64 d.2], .int .i64 i, .int .i64 k] = some (.agg [.list (d.1.length + 1) (encI d.1 ++ [.int .i64 i]), .int .i64 (d.2 + k)]) := by
    show (if (encI d.1).length = d.1.length ∧ d.1.length ≤ 1000 then some (PV.agg [.list (d.1.length + 1) (encI d.1 ++ [.int .i64 i]), .int .i64 (IntKind.i64.wrap (d.2 + k))]) else none) = _
    rw [if_pos ⟨by simp, hd⟩, hw]
  have hr : run env 98 [.agg [.list d.1.length (encI d.1), .int .i64 d.2], .int .i64 i, .int .i64 k] = some (.val (.agg [.list (d.1.length + 1) (encI d.1 ++ [.int .i64 i]), .int .i64 (d.2 + k)])) := by
    refine (run_iff env).2 ⟨2, ?_⟩
    have hf : env 98 = some (primA 3 grownG) := rfl
    generalize (PV.agg [.list (d.1.length + 1) (encI d.1 ++ [.int .i64 i]), .int .i64 (d.2 + k)]) = b at hg ⊢
    have e : exN (callN env 1) 1 (primA 3 grownG).body (start (primA 3 grownG) [.agg [.list d.1.length (encI d.1), .int .i64 d.2], .int .i64 i, .int .i64 k]) = some (.normal, ⟨[.p (.agg [.list d.1.length (encI d.1), .int .i64 d.2]), .p (.int .i64 i), .p (.int .i64 k), .p b], [Blk.none, Blk.none, Blk.none, Blk.none]⟩) := by
      show exN (callN env 1) 1 (.ops [{ dst := some 3, grd := none, args := [.tmp 0, .tmp 1, .tmp 2], k := .l (.prim grownG) }]) ⟨[.p (.agg [.list d.1.length (encI d.1), .int .i64 d.2]), .p (.int .i64 i), .p (.int .i64 k), .undef], [Blk.none, Blk.none, Blk.none, Blk.none]⟩ = _
      simp only [exN, exOps, exOp, grd]
      have hk : runK (callN env 1) (.l (.prim grownG)) [.p (.agg [.list d.1.length (encI d.1), .int .i64 d.2]), .p (.int .i64 i), .p (.int .i64 k)] [Blk.none, Blk.none, Blk.none, Blk.none] = some (.p b, [Blk.none, Blk.none, Blk.none, Blk.none]) := by
        simp only [runK, runL, pureAs, pureA, hg, Option.map_some]
      have ha : ([Arg.tmp 0, Arg.tmp 1, Arg.tmp 2].map (Arg.get [AV.p (.agg [.list d.1.length (encI d.1), .int .i64 d.2]), .p (.int .i64 i), .p (.int .i64 k), .undef])) = [.p (.agg [.list d.1.length (encI d.1), .int .i64 d.2]), .p (.int .i64 i), .p (.int .i64 k)] := rfl
      simp only [ha, hk]
      rfl
    simp only [callN, hf]
    rw [if_pos ⟨rfl, rfl⟩, e]
    rfl
  unfold Fn
  rw [hr, encI_snoc, List.length_append]
  rfl
end Gv

/- Segments, potentials and divisions: what the functions give. -/
namespace Gv
open Go
set_option maxRecDepth 100000

theorem divAfter_loop (l : List Int) (ds : List Dn) (hl : l.length ≤ 1000) (hv : okP l) (pen : Int) (hp : 0 ≤ pen ∧ pen ≤ 1000000) (hd : okD ds) (hk : ds.length ≤ l.length) : ∀ i, i ≤ ds.length → ∀ acc : List Dn, acc.length = i →
    R_glidepath_cloud_profile__divisionAfter_0 (T_glidepath_cloud_profile__divisionAfter_0b l.length (encI l) ds.length (encD ds) pen acc.length (encD acc) ds.length (encD ds) ds.length i acc.length) = exO (X_glidepath_cloud_profile__divisionAfter_0b ((acc ++ candD l pen ds.length (ds.drop i) i).length, encD (acc ++ candD l pen ds.length (ds.drop i) i), (acc ++ candD l pen ds.length (ds.drop i) i).length)) := by
  refine up_ind (P := fun i => ∀ acc : List Dn, acc.length = i → R_glidepath_cloud_profile__divisionAfter_0 (T_glidepath_cloud_profile__divisionAfter_0b l.length (encI l) ds.length (encD ds) pen acc.length (encD acc) ds.length (encD ds) ds.length i acc.length) = exO (X_glidepath_cloud_profile__divisionAfter_0b ((acc ++ candD l pen ds.length (ds.drop i) i).length, encD (acc ++ candD l pen ds.length (ds.drop i) i), (acc ++ candD l pen ds.length (ds.drop i) i).length))) _ ?_ ?_
  · intro acc ha
    refine R_glidepath_cloud_profile__divisionAfter_0b_of _ _ _ _ _ _ _ _ _ _ _ _ ?_
    unfold B_glidepath_cloud_profile__divisionAfter_0b
    rw [bif_neg (by omega), List.drop_length]
    show exO _ = exO (X_glidepath_cloud_profile__divisionAfter_0b ((acc ++ []).length, encD (acc ++ []), (acc ++ []).length))
    rw [List.append_nil]
  · intro i hi ih acc ha
    obtain ⟨d, hd0, hdr⟩ := get_drop hi
    have ho := hd d (List.mem_of_getElem? hd0)
    have hc := cost_is hl hv hi hk
    have hc2 := cand_ok hl hv hp hi hk (b := 0) (by omega)
    have hg := grown_is d ho.1 i (costM (segL l i ds.length) + pen) (by omega)
    have wc : w64 (costM (segL l i ds.length) + pen) = costM (segL l i ds.length) + pen := w64_in (by omega)
    have wk : w64 ((i : Int) + 1) = ((i + 1 : Nat) : Int) := by rw [w64_in (by omega)]; omega
    refine R_glidepath_cloud_profile__divisionAfter_0b_of _ _ _ _ _ _ _ _ _ _ _ _ ?_
    unfold B_glidepath_cloud_profile__divisionAfter_0b
    rw [bif_pos (by omega), bif_pos (by omega)]
    simp only [Int.toNat_natCast, getD0 hd0, getD1 hd0, listC_list, intC_int, bindO_val, hc, wc, hg, wk]
    rw [bif_pos (by unfold big; first | exact ⟨rfl, by omega⟩ | exact ⟨trivial, by omega⟩)]
    rw [encD_snoc acc (d.1 ++ [(i : Int)], d.2 + (costM (segL l i ds.length) + pen)), hdr]
    have h2 := ih (acc ++ [(d.1 ++ [(i : Int)], d.2 + (costM (segL l i ds.length) + pen))]) (by rw [List.length_append, ha]; rfl)
    rw [List.length_append, List.length_cons, List.length_nil, List.append_assoc] at h2
    exact h2

theorem candD_small {l : List Int} {pen : Int} {k : Nat} {ds : List Dn} (hd : okD ds) : ∀ x ∈ candD l pen k ds 0, x.1.length ≤ 1000000 := fun x hx => by
  obtain ⟨j, d, hj, rfl⟩ := candD_mem l pen k ds 0 x hx
  have := hd d (List.mem_of_getElem? hj)
  rw [List.length_append, List.length_cons, List.length_nil]
  omega
theorem candD_len (l : List Int) (pen : Int) (k : Nat) : ∀ (ds : List Dn) (i : Nat), (candD l pen k ds i).length = ds.length
  | [], _ => rfl
  | d :: r, i => by
    show ((d.1 ++ [(i : Int)], d.2 + (costM (segL l i k) + pen)) :: candD l pen k r (i + 1)).length = _
    rw [List.length_cons, candD_len l pen k r (i + 1), List.length_cons]
theorem divAfter_is {l : List Int} {ds : List Dn} (hl : l.length ≤ 1000) (hv : okP l) {pen : Int} (hp : 0 ≤ pen ∧ pen ≤ 1000000) (hd : okD ds) (h1 : ds ≠ []) (hk : ds.length ≤ l.length) :
    F_glidepath_cloud_profile__divisionAfter [.list l.length (encI l), .list ds.length (encD ds), .int .i64 pen] = some (((nextD l pen ds).1.length, encI (nextD l pen ds).1), (nextD l pen ds).2) := by
  refine F_glidepath_cloud_profile__divisionAfter_of _ _ _ _ _ ?_
  unfold t_glidepath_cloud_profile__divisionAfter
  obtain ⟨d, r, hdr⟩ : ∃ d r, ds = d :: r := by
    cases ds with
    | nil => exact absurd rfl h1
    | cons d r => exact ⟨d, r, rfl⟩
  have hpos : 0 < ds.length := by rw [hdr, List.length_cons]; omega
  have hd0 : ds[0]? = some d := by rw [hdr]; rfl
  have ho := hd d (List.mem_of_getElem? hd0)
  have hc := cost_is (i := 0) (k := ds.length) hl hv hpos hk
  have hc : F_glidepath_cloud_profile__cost [.list l.length (encI l), .int .i64 (0 : Int), .int .i64 ds.length] = _ := hc
  have hc2 := cand_ok (i := 0) (k := ds.length) hl hv hp hpos hk (b := 0) (by omega)
  have hg := grown_is d ho.1 0 (costM (segL l 0 ds.length) + pen) (by omega)
  have wc : w64 (costM (segL l 0 ds.length) + pen) = costM (segL l 0 ds.length) + pen := w64_in (by omega)
  have g0 : (encD ds)[0]? = some (.list d.1.length (encI d.1)) := by rw [hdr]; rfl
  have g1 : (encD ds)[1]? = some (.int .i64 d.2) := by rw [hdr]; rfl
  have hR : R_glidepath_cloud_profile__divisionAfter_0 (T_glidepath_cloud_profile__divisionAfter_0a l.length (encI l) ds.length (encD ds) pen ds.length (encD ds) ds.length) = exO (X_glidepath_cloud_profile__divisionAfter_0b ((candD l pen ds.length ds 0).length, encD (candD l pen ds.length ds 0), (candD l pen ds.length ds 0).length)) := by
    refine R_glidepath_cloud_profile__divisionAfter_0a_of _ _ _ _ _ _ _ _ ?_
    unfold B_glidepath_cloud_profile__divisionAfter_0a
    rw [bif_pos (by omega), bif_pos (by omega)]
    simp only [g0, g1, listC_list, intC_int, bindO_val, hc, wc, hg]
    have h2 := divAfter_loop l ds hl hv pen hp hd hk 1 hpos [(d.1 ++ [(0 : Int)], d.2 + (costM (segL l 0 ds.length) + pen))] rfl
    have h3 : [(d.1 ++ [(0 : Int)], d.2 + (costM (segL l 0 ds.length) + pen))] ++ candD l pen ds.length (ds.drop 1) 1 = candD l pen ds.length ds 0 := by
      rw [show candD l pen ds.length ds 0 = candD l pen ds.length (d :: r) 0 by rw [← hdr], show ds.drop 1 = r by rw [hdr]; rfl]
      rfl
    rw [h3] at h2
    exact h2
  have hL := L_glidepath_cloud_profile__divisionAfter_0b_of hR
  simp only [hL, bindO_val, Sum.elim_inr]
  unfold nextD
  cases hcd : candD l pen ds.length ds 0 with
  | nil =>
    have := candD_len l pen ds.length ds 0
    rw [hcd] at this
    simp at this
    omega
  | cons e t =>
    have hm := minFunc_is e t (fun x hx => candD_small (l := l) (pen := pen) (k := ds.length) hd x (by rw [hcd]; exact hx)) (by have := candD_len l pen ds.length ds 0; rw [hcd] at this; omega)
    simp only [hm, bindO_val]

theorem Dv_len {l : List Int} {pen : Int} {k : Nat} {s : List Int} {c : Int} (h : Dv l pen k s c) : s.length ≤ k := by
  induction h with
  | none => exact Nat.le_refl _
  | more h hi hk ih =>
    rw [List.length_append, List.length_cons, List.length_nil]
    omega
theorem bestD_ok {l : List Int} (hl : l.length ≤ 1000) (hv : okP l) {pen : Int} (hp : 0 ≤ pen ∧ pen ≤ 1000000) {k : Nat} (hk : k ≤ l.length) : okD (bestD l pen k) := fun d hd => by
  obtain ⟨j, hj⟩ := List.getElem?_of_mem hd
  have hjk : j < k + 1 := by
    have h1 := (List.getElem?_eq_some_iff.1 hj).1
    rw [bestD_len] at h1
    exact h1
  have h2 := Dv_len (bestD_good l pen k hk j d hj).1
  have h3 : d.2 ∈ potsR l pen k := by
    rw [← bestD_cost hl hv hp k hk]
    exact List.mem_map.2 ⟨d, hd, rfl⟩
  have h4 := pots_ok hl hv hp hk _ h3
  exact ⟨by omega, by omega, by omega⟩

theorem firstError2_is (a b : Int) : Fcloud_firstError_2 [.list 2 [.int .i64 a, .int .i64 b]] = some (both a b) :=
  Fcloud_firstError_2_of a b (by
    unfold tcloud_firstError_2 both
    simp only [bif_ne]
    by_cases h1 : a = 0 <;> by_cases h2 : b = 0 <;> simp [h1, h2])

theorem segs_loop (l : List Int) (hl : l.length ≤ 1000) (hv : okP l) (pen : Int) (hp : 0 ≤ pen ∧ pen ≤ 1000000) : ∀ j, j ≤ l.length →
    Rcloud_SegmentsOf_0 (Tcloud_SegmentsOf_0b l.length (encI l) pen (j + 1) (encD (bestD l pen j)) l.length j (j + 1)) = exO (Xcloud_SegmentsOf_0b (l.length, encI l, l.length + 1, encD (bestD l pen l.length), l.length + 1)) := by
  refine up_ind _ ?_ ?_
  · refine Rcloud_SegmentsOf_0b_of _ _ _ _ _ _ _ _ ?_
    unfold Bcloud_SegmentsOf_0b
    rw [bif_neg (by omega)]
    rfl
  · intro j hj ih
    have hlen := bestD_len l pen j
    have ha := divAfter_is hl hv hp (bestD_ok hl hv hp (k := j) (by omega)) (bestD_ne l pen j) (by omega)
    rw [hlen] at ha
    have wk : w64 ((j : Int) + 1) = ((j + 1 : Nat) : Int) := by rw [w64_in (by omega)]; omega
    refine Rcloud_SegmentsOf_0b_of _ _ _ _ _ _ _ _ ?_
    unfold Bcloud_SegmentsOf_0b
    rw [bif_pos (by omega)]
    simp only [ha, bindO_val, wk]
    rw [bif_pos (by unfold big; first | exact ⟨rfl, by omega⟩ | exact ⟨trivial, by omega⟩), encD_snoc]
    exact ih
theorem segmentsOf_is {l : List Int} (hl : l.length ≤ 1000) (h0 : profE l = 0) {pen : Int} (hp : 0 ≤ pen ∧ pen ≤ 1000000) {d : Dn} (hd : (bestD l pen l.length)[l.length]? = some d) :
    Fcloud_SegmentsOf [.list l.length (encI l), .int .i64 pen] = some ((d.1.length, encI d.1), (d.2, 0)) := by
  obtain ⟨h1, h2, hv⟩ := prof_ok h0
  refine Fcloud_SegmentsOf_of _ _ _ ?_
  unfold tcloud_SegmentsOf
  have c55 := profileError_is l (by omega)
  have hb : both (profE l) (rangeE pen 0 1000000) = 0 := by rw [h0, rangeE_in hp]; rfl
  simp only [c55, penaltyError_is, firstError2_is, bindO_val, hb, bne_self_eq_false, cond_false]
  have hR : Rcloud_SegmentsOf_0 (Tcloud_SegmentsOf_0a l.length (encI l) pen l.length) = exO (Xcloud_SegmentsOf_0b (l.length, encI l, l.length + 1, encD (bestD l pen l.length), l.length + 1)) := by
    refine Rcloud_SegmentsOf_0a_of _ _ _ _ ?_
    unfold Bcloud_SegmentsOf_0a
    have ha := divAfter_is hl hv hp (bestD_ok hl hv hp (k := 0) (by omega)) (bestD_ne l pen 0) (by simp [bestD]; omega)
    have ha : F_glidepath_cloud_profile__divisionAfter [.list l.length (encI l), .list 1 [.list 0 [], .int .i64 (0 : Int)], .int .i64 pen] = _ := ha
    rw [bif_pos (by omega)]
    simp only [ha, bindO_val]
    exact segs_loop l hl hv pen hp 1 h1
  have hL := Lcloud_SegmentsOf_0b_of hR
  have hb1 : (decide (((0 : Int) ≤ (l.length : Int)) ∧ ((l.length : Int) < ((l.length + 1 : Nat) : Int)))) = true := decide_eq_true ⟨by omega, by omega⟩
  simp only [hL, bindO_val, Sum.elim_inr, hb1, cond_true, Int.toNat_natCast, getD0 hd, getD1 hd, listC_list, intC_int]

theorem potsOf_loop (l : List Int) (hl : l.length ≤ 1000) (hv : okP l) (pen : Int) (hp : 0 ≤ pen ∧ pen ≤ 1000000) : ∀ j, j ≤ l.length →
    Rcloud_PotentialsOf_0 (Tcloud_PotentialsOf_0b l.length (encI l) pen (j + 1) (encI (potsR l pen j)) ((l.length : Int) + 1) ((j + 1 : Nat) : Int) (j + 1)) = exO (Xcloud_PotentialsOf_0b (l.length + 1, encI (potsR l pen l.length), l.length + 1)) := by
  refine up_ind _ ?_ ?_
  · refine Rcloud_PotentialsOf_0b_of _ _ _ _ _ _ _ _ ?_
    unfold Bcloud_PotentialsOf_0b
    rw [bif_neg (by omega)]
    rfl
  · intro j hj ih
    have hlen := potsR_len l pen j
    have ha := after_is hl hv hp (pots_ok hl hv hp (j := j) (by omega)) (by omega)
    rw [hlen] at ha
    have wk : w64 (((j + 1 : Nat) : Int) + 1) = ((j + 1 + 1 : Nat) : Int) := by rw [w64_in (by omega)]; omega
    refine Rcloud_PotentialsOf_0b_of _ _ _ _ _ _ _ _ ?_
    unfold Bcloud_PotentialsOf_0b
    rw [bif_pos (by omega)]
    simp only [ha, bindO_val, wk]
    rw [bif_pos (by unfold big; first | exact ⟨rfl, by omega⟩ | exact ⟨trivial, by omega⟩), encI_snoc]
    exact ih
theorem potentialsOf_is {l : List Int} (hl : l.length ≤ 1000) (h0 : profE l = 0) {pen : Int} (hp : 0 ≤ pen ∧ pen ≤ 1000000) :
    Fcloud_PotentialsOf [.list l.length (encI l), .int .i64 pen] = some ((l.length + 1, encI (potsR l pen l.length)), 0) := by
  obtain ⟨h1, h2, hv⟩ := prof_ok h0
  refine Fcloud_PotentialsOf_of _ _ _ ?_
  unfold tcloud_PotentialsOf
  have c55 := profileError_is l (by omega)
  have hb : both (profE l) (rangeE pen 0 1000000) = 0 := by rw [h0, rangeE_in hp]; rfl
  have wl : w64 ((l.length : Int) + 1) = (l.length : Int) + 1 := w64_in (by omega)
  simp only [c55, penaltyError_is, firstError2_is, bindO_val, hb, bne_self_eq_false, cond_false, wl]
  have hR : Rcloud_PotentialsOf_0 (Tcloud_PotentialsOf_0a l.length (encI l) pen ((l.length : Int) + 1)) = exO (Xcloud_PotentialsOf_0b (l.length + 1, encI (potsR l pen l.length), l.length + 1)) := by
    refine Rcloud_PotentialsOf_0a_of _ _ _ _ ?_
    unfold Bcloud_PotentialsOf_0a
    have ha := after_is (bs := []) hl hv hp (fun x hx => by cases hx) (by simp)
    have ha : F_glidepath_cloud_profile__potentialAfter [.list l.length (encI l), .list 0 [], .int .i64 pen] = some 0 := ha
    rw [bif_pos (by omega)]
    simp only [ha, bindO_val]
    exact potsOf_loop l hl hv pen hp 0 (by omega)
  have hL := Lcloud_PotentialsOf_0b_of hR
  simp only [hL, bindO_val, Sum.elim_inr]

theorem missing_is {x : Nat} {n : Nat} (h : x < n) : Fcloud_missingError [.int .i64 x, .int .i64 n] = some 0 := by
  refine Fcloud_missingError_of _ _ ?_
  unfold tcloud_missingError
  rw [bif_neg (by omega), bif_neg (by omega)]
  simp only [errorIf_is, bindO_val]
  rfl
theorem segCost_is {l : List Int} (hl : l.length ≤ 1000) (h0 : profE l = 0) {i k : Nat} (h : i < k) (hk : k ≤ l.length) :
    Fcloud_SegmentCost [.list l.length (encI l), .agg [.int .i64 i, .int .i64 ((k : Int) - 1)]] = some (costM (segL l i k), 0) := by
  obtain ⟨h1, h2, hv⟩ := prof_ok h0
  refine Fcloud_SegmentCost_of _ _ _ _ ?_
  unfold tcloud_SegmentCost
  have c55 := profileError_is l (by omega)
  have m1 := missing_is (x := i) (n := l.length) (by omega)
  have m2 := missing_is (x := k - 1) (n := l.length) (by omega)
  rw [show ((k - 1 : Nat) : Int) = (k : Int) - 1 by omega] at m2
  have wk : w64 ((k : Int) - 1 + 1) = (k : Int) := by rw [w64_in (by omega)]; omega
  have hc := cost_is hl hv h hk
  simp only [c55, h0, m1, m2, bindO_val]
  rw [bif_neg (by omega)]
  simp only [errorIf_is, bindO_val, Bool.false_eq_true, if_false, firstError4_is, wk, hc]
  rfl
end Gv
