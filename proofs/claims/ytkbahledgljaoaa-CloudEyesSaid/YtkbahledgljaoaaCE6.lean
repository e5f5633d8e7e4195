/- The reference's turns: a list that ascends, without repeats. -/
import Derived.Test.YtkbahledgljaoaaCE2
import Derived.Test.YtkbahledgljaoaaCE5
namespace Gv
open Go
set_option maxRecDepth 100000

/-- Where a number belongs; put in there, unless it is there. -/
def atP (t : Int) : List Int → Nat
  | [] => 0
  | x :: r => if x < t then atP t r + 1 else 0
def insT (t : Int) (l : List Int) : List Int := if l[atP t l]? = some t then l else l.take (atP t l) ++ t :: l.drop (atP t l)
theorem atP_le (t : Int) : ∀ l : List Int, atP t l ≤ l.length
  | [] => Nat.le_refl _
  | x :: r => by
    unfold atP
    have := atP_le t r
    rw [List.length_cons]
    split <;> omega
theorem insT_cons_lt {t x : Int} (h : x < t) (r : List Int) : insT t (x :: r) = x :: insT t r := by
  have e : atP t (x :: r) = atP t r + 1 := by rw [atP, if_pos h]
  unfold insT
  rw [e]
  simp only [List.getElem?_cons_succ, List.take_succ_cons, List.drop_succ_cons, List.cons_append]
  split <;> rfl
theorem insT_cons_eq (t : Int) (r : List Int) : insT t (t :: r) = t :: r := by
  have e : atP t (t :: r) = 0 := by rw [atP, if_neg (by omega)]
  unfold insT
  rw [e]
  exact if_pos rfl
theorem insT_cons_gt {t x : Int} (h : t < x) (r : List Int) : insT t (x :: r) = t :: x :: r := by
  have e : atP t (x :: r) = 0 := by rw [atP, if_neg (by omega)]
  unfold insT
  rw [e, if_neg (by simp; omega)]
  rfl
theorem insT_mem (t : Int) : ∀ (l : List Int) (x : Int), x ∈ insT t l ↔ x = t ∨ x ∈ l
  | [], x => by simp [insT, atP]
  | y :: r, x => by
    rcases Int.lt_trichotomy y t with h | h | h
    · rw [insT_cons_lt h, List.mem_cons, insT_mem t r x, List.mem_cons]
      constructor
      · rintro (h | h | h)
        · exact .inr (.inl h)
        · exact .inl h
        · exact .inr (.inr h)
      · rintro (h | h | h)
        · exact .inr (.inl h)
        · exact .inl h
        · exact .inr (.inr h)
    · subst h
      rw [insT_cons_eq, List.mem_cons]
      constructor
      · exact .inr
      · rintro (h | h)
        · exact .inl h
        · exact h
    · rw [insT_cons_gt h, List.mem_cons]
theorem insT_asc (t : Int) : ∀ (l : List Int), l.Pairwise (· < ·) → (insT t l).Pairwise (· < ·)
  | [], _ => by simp [insT, atP]
  | y :: r, h => by
    obtain ⟨h1, h2⟩ := List.pairwise_cons.1 h
    rcases Int.lt_trichotomy y t with g | g | g
    · rw [insT_cons_lt g]
      refine List.pairwise_cons.2 ⟨fun x hx => ?_, insT_asc t r h2⟩
      rcases (insT_mem t r x).1 hx with rfl | hx
      · exact g
      · exact h1 x hx
    · subst g
      rw [insT_cons_eq]
      exact h
    · rw [insT_cons_gt g]
      refine List.pairwise_cons.2 ⟨fun x hx => ?_, h⟩
      rcases List.mem_cons.1 hx with rfl | hx
      · exact g
      · have := h1 x hx; omega
theorem insT_head {t : Int} (ht : -1 ≤ t) (r : List Int) : ∃ q, insT t (-1 :: r) = -1 :: q := by
  rcases Int.lt_trichotomy (-1) t with h | h | h
  · exact ⟨_, insT_cons_lt h r⟩
  · subst h; exact ⟨_, insT_cons_eq _ r⟩
  · omega
theorem insT_len (t : Int) (l : List Int) : (insT t l).length ≤ l.length + 1 := by
  unfold insT
  split
  · omega
  · have := atP_le t l
    simp only [List.length_append, List.length_take, List.length_cons, List.length_drop]
    omega
theorem insT_ne {t : Int} {l : List Int} (h : l.length ≠ 1) (ht : 1 ≤ l.length) : insT t l ≠ [-1] := by
  intro e
  have hl := congrArg List.length e
  unfold insT at hl
  split at hl
  · simp at hl; omega
  · have := atP_le t l
    simp only [List.length_append, List.length_take, List.length_cons, List.length_drop, List.length_nil] at hl
    omega

/-- The four turns of a shot, as the reference writes them; all of all shots. -/
def fourT (w : Int) (z : Sht) : List Int := [z.1 - 1, z.2.1 - 1, z.1 + w - 1, z.2.1 + w - 1]
def insA (ts l : List Int) : List Int := ts.foldl (fun l t => insT t l) l
def refT (w : Int) (l : List Sht) : List Int := l.foldl (fun T z => insA (fourT w z) T) [-1]
theorem insA_cons (t : Int) (ts l : List Int) : insA (t :: ts) l = insA ts (insT t l) := rfl
theorem insA_mem : ∀ (ts l : List Int) (x : Int), x ∈ insA ts l ↔ x ∈ ts ∨ x ∈ l
  | [], l, x => by simp [insA]
  | t :: ts, l, x => by
    rw [insA_cons, insA_mem ts, insT_mem, List.mem_cons]
    constructor
    · rintro (h | h | h)
      · exact .inl (.inr h)
      · exact .inl (.inl h)
      · exact .inr h
    · rintro ((h | h) | h)
      · exact .inr (.inl h)
      · exact .inl h
      · exact .inr (.inr h)
theorem insA_asc : ∀ (ts l : List Int), l.Pairwise (· < ·) → (insA ts l).Pairwise (· < ·)
  | [], _, h => h
  | t :: ts, l, h => insA_asc ts _ (insT_asc t l h)
theorem insA_len : ∀ (ts l : List Int), (insA ts l).length ≤ l.length + ts.length
  | [], _ => Nat.le_refl _
  | t :: ts, l => by
    have h1 := insA_len ts (insT t l)
    have h2 := insT_len t l
    rw [insA_cons, List.length_cons]
    omega
theorem insA_head : ∀ (ts : List Int) (_ : ∀ t ∈ ts, -1 ≤ t) (r : List Int), ∃ q, insA ts (-1 :: r) = -1 :: q
  | [], _, r => ⟨r, rfl⟩
  | t :: ts, h, r => by
    obtain ⟨q, hq⟩ := insT_head (h t List.mem_cons_self) r
    rw [insA_cons, hq]
    exact insA_head ts (fun x hx => h x (List.mem_cons_of_mem _ hx)) q

/-- A list of turns that is under way. -/
structure TurnL (T : List Int) : Prop where
  hd : ∃ r, T = -1 :: r
  asc : T.Pairwise (· < ·)
theorem four_ge {z : Sht} (h : OkS z) {w : Int} (hw : 1 ≤ w ∧ w ≤ 1000000) : ∀ t ∈ fourT w z, -1 ≤ t ∧ t ≤ 2000000 := by
  intro t ht
  have := h.a
  have := h.b
  have := h.c
  simp only [fourT, List.mem_cons, List.not_mem_nil, or_false] at ht
  omega
theorem TurnL.ins {T : List Int} (h : TurnL T) {t : Int} (ht : -1 ≤ t) : TurnL (insT t T) := by
  obtain ⟨r, rfl⟩ := h.hd
  obtain ⟨q, hq⟩ := insT_head ht r
  exact ⟨⟨q, hq⟩, insT_asc t _ h.asc⟩
theorem TurnL.insA {T : List Int} (h : TurnL T) {ts : List Int} (ht : ∀ t ∈ ts, -1 ≤ t) : TurnL (insA ts T) := by
  obtain ⟨r, rfl⟩ := h.hd
  obtain ⟨q, hq⟩ := insA_head ts ht r
  exact ⟨⟨q, hq⟩, insA_asc ts _ h.asc⟩
theorem turnL_start : TurnL [-1] := ⟨⟨[], rfl⟩, List.pairwise_singleton _ _⟩
theorem from_mem (w : Int) : ∀ (l : List Sht) (T : List Int) (x : Int), x ∈ l.foldl (fun T z => insA (fourT w z) T) T ↔ x + 1 ∈ ptL w l ∨ x ∈ T
  | [], T, x => by simp [ptL]
  | z :: l, T, x => by
    rw [List.foldl_cons, from_mem w l, insA_mem]
    have e : ptL w (z :: l) = ptF w z ++ ptL w l := rfl
    have f : x ∈ fourT w z ↔ x + 1 ∈ ptF w z := by
      simp only [fourT, ptF, List.mem_cons, List.not_mem_nil, or_false]
      omega
    rw [e, List.mem_append, f]
    constructor
    · rintro (h | h | h)
      · exact .inl (.inr h)
      · exact .inl (.inl h)
      · exact .inr h
    · rintro ((h | h) | h)
      · exact .inr (.inl h)
      · exact .inl h
      · exact .inr (.inr h)
theorem from_ok {w : Int} (hw : 1 ≤ w ∧ w ≤ 1000000) : ∀ (l : List Sht) (_ : Oks l) (T : List Int), TurnL T → TurnL (l.foldl (fun T z => insA (fourT w z) T) T) ∧ (l.foldl (fun T z => insA (fourT w z) T) T).length ≤ T.length + 4 * l.length
  | [], _, T, h => ⟨h, by simp⟩
  | z :: l, ho, T, h => by
    obtain ⟨h1, h2⟩ := from_ok hw l ho.tail (insA (fourT w z) T) (h.insA fun t ht => (four_ge ho.head hw t ht).1)
    have h3 := insA_len (fourT w z) T
    have h4 : (fourT w z).length = 4 := rfl
    rw [List.foldl_cons, List.length_cons]
    exact ⟨h1, by omega⟩
theorem refT_mem (w : Int) (l : List Sht) (x : Int) : x ∈ refT w l ↔ x = -1 ∨ x + 1 ∈ ptL w l := by
  unfold refT
  rw [from_mem, List.mem_singleton]
  exact Or.comm
theorem refT_ok {w : Int} (hw : 1 ≤ w ∧ w ≤ 1000000) {l : List Sht} (ho : Oks l) : TurnL (refT w l) ∧ (refT w l).length ≤ 1 + 4 * l.length := from_ok hw l ho [-1] turnL_start

/-! The loops. -/
theorem encI_takeN (l : List Int) (n : Nat) : (encI l).take n = encI (l.take n) := by simp [encI, List.map_take]
theorem encI_dropN (l : List Int) (n : Nat) : (encI l).drop n = encI (l.drop n) := by simp [encI, List.map_drop]

theorem at4 (n : Nat) (cs : List PV) (w : Int) {T : List Int} (hn : T.length ≤ 100000) (i t a b c d : Int) (k : Int) : ∀ j, j ≤ T.length →
    RrT_4 (TrT_4b n cs w T.length (encI T) i t j a b c d k) = exO (XrT_4b (n, cs, w, T.length, encI T, i, t, ((j + atP t (T.drop j) : Nat) : Int), a, b, c, d, k)) := by
  refine up_ind _ ?_ ?_
  · refine RrT_4b_of _ _ _ _ _ _ _ _ _ _ _ _ _ ?_
    unfold BrT_4b
    rw [bif_neg (by omega), List.drop_length]
    rfl
  · intro j hj ih
    obtain ⟨x, hx, hd⟩ := get_drop hj
    refine RrT_4b_of _ _ _ _ _ _ _ _ _ _ _ _ _ ?_
    unfold BrT_4b
    rw [bif_pos (by omega), bif_pos (by omega)]
    have wk : w64 ((j : Int) + 1) = ((j + 1 : Nat) : Int) := by rw [w64_in (by omega)]; omega
    simp only [Int.toNat_natCast, Nat.mul_one, encI_get, hx, Option.map_some, intC_int, bindO_val, wk]
    rw [hd]
    by_cases h : x < t
    · rw [bif_pos h, ih, atP, if_pos h, show j + 1 + atP t (T.drop (j + 1)) = j + (atP t (T.drop (j + 1)) + 1) by omega]
      rfl
    · rw [bif_neg h, atP, if_neg h]
      rfl
theorem at4a (n : Nat) (cs : List PV) (w : Int) (i t a b c d : Int) (k : Int) :
    RrT_4 (TrT_4a n cs w i t 0 a b c d k) = exO (XrT_4a (n, cs, w, i, t, (if -1 < t then 1 else 0), a, b, c, d, k)) := by
  refine RrT_4a_of _ _ _ _ _ _ _ _ _ _ _ ?_
  show (bif decide (-1 < t) then RrT_4 (TrT_4a n cs w i t (w64 (0 + 1)) a b c d k) else exO (XrT_4a (n, cs, w, i, t, 0, a, b, c, d, k))) = _
  by_cases h : -1 < t
  · rw [if_pos h, bif_pos h, show w64 (0 + 1) = 1 from w64_in (n := 0 + 1) (by omega)]
    refine RrT_4a_of _ _ _ _ _ _ _ _ _ _ _ ?_
    unfold BrT_4a
    exact bif_neg (by omega)
  · rw [if_neg h, bif_neg h]
    rfl

theorem step2b (n : Nat) (cs : List PV) (w i a b c d : Int) {T : List Int} (hT : TurnL T) (hl : T.length ≤ 1000) {k : Nat} {t : Int} (hk : [a, b, c, d][k]? = some t) (ht : -1 ≤ t) {r : Ext × S}
    (hr : RrT_2 (TrT_2b n cs w (insT t T).length (encI (insT t T)) i a b c d (k + 1 : Nat)) = some r) : RrT_2 (TrT_2b n cs w T.length (encI T) i a b c d k) = some r := by
  have hk4 : k < 4 := by simpa using (List.getElem?_eq_some_iff.1 hk).1
  have hread : ([PV.int .i64 a, .int .i64 b, .int .i64 c, .int .i64 d] : List PV)[k]? = some (.int .i64 t) := by
    rw [show ([PV.int .i64 a, .int .i64 b, .int .i64 c, .int .i64 d] : List PV) = encI [a, b, c, d] from rfl, encI_get, hk]
    rfl
  have hq := at4 n cs w (T := T) (by omega) i t a b c d k 0 (by omega)
  rw [List.drop_zero, Nat.zero_add] at hq
  have hL := LrT_4b_of hq
  have hL : LrT_4 (TrT_4b n cs w T.length (encI T) i t 0 a b c d k) = _ := hL
  have wk : w64 ((k : Int) + 1) = ((k + 1 : Nat) : Int) := by rw [w64_in (by omega)]; omega
  refine RrT_2b_of _ _ _ _ _ _ _ _ _ _ _ ?_
  unfold BrT_2b
  rw [bif_pos (by omega), bif_pos (by omega)]
  simp only [Int.toNat_natCast, Nat.mul_one, hread, intC_int, bindO_val, hL, Sum.elim_inr, wk, Nat.sub_zero, Nat.zero_add, Nat.zero_mul, List.drop_zero, List.nil_append]
  have hm := atP_le t T
  generalize hmm : atP t T = m at hm ⊢
  by_cases hin : T[m]? = some t
  · have hlt : m < T.length := (List.getElem?_eq_some_iff.1 hin).1
    rw [bif_pos (by omega), bif_pos (by omega)]
    simp only [encI_get, hin, Option.map_some, intC_int, bindO_val, beq_self_eq_true, cond_true]
    have e : insT t T = T := by unfold insT; rw [hmm, if_pos hin]
    rw [e] at hr
    exact hr
  · have hm1 : 1 ≤ m := by
      obtain ⟨q, rfl⟩ := hT.hd
      rcases Int.lt_or_le (-1) t with h | h
      · rw [atP, if_pos h] at hmm; omega
      · have : t = -1 := by omega
        subst this
        exfalso
        have h0 : atP (-1) (-1 :: q) = 0 := by rw [atP, if_neg (by omega)]
        rw [h0] at hmm
        subst hmm
        exact hin rfl
    have e : insT t T = T.take m ++ t :: T.drop m := by unfold insT; rw [hmm, if_neg hin]
    rw [e] at hr
    by_cases hlt : m < T.length
    · obtain ⟨x, hx⟩ : ∃ x, T[m]? = some x := ⟨T[m], List.getElem?_eq_getElem hlt⟩
      have hxt : x ≠ t := fun h => hin (by rw [hx, h])
      have e1 : (T.take m ++ t :: T.drop m).length = m + 1 + (T.length - m) := by simp; omega
      have e2 : encI (T.take m ++ t :: T.drop m) = (List.take m (encI T) ++ [PV.int .i64 t]) ++ List.take (T.length - m) (List.drop m (encI T)) := by
        rw [encI_takeN, encI_dropN, encI_takeN, List.take_of_length_le (l := T.drop m) (by simp)]
        simp [encI]
      rw [e1, e2] at hr
      rw [bif_pos (by omega), bif_pos (by omega)]
      simp only [encI_get, hx, Option.map_some, intC_int, bindO_val, bif_eq]
      rw [if_neg hxt]
      rw [bif_pos (by first | omega | trivial | (refine ⟨?_, ?_⟩ <;> first | trivial | omega | (unfold big; omega)) | (right; rw [encI_len]; omega) | (simp only [List.length_take, List.length_drop, encI_len]; omega)), bif_pos (by first | omega | trivial | (refine ⟨?_, ?_⟩ <;> first | trivial | omega | (unfold big; omega)) | (right; rw [encI_len]; omega) | (simp only [List.length_take, List.length_drop, encI_len]; omega)), bif_neg (by first | omega | trivial | (refine ⟨?_, ?_⟩ <;> first | trivial | omega | (unfold big; omega)) | (right; rw [encI_len]; omega) | (simp only [List.length_take, List.length_drop, encI_len]; omega)), bif_pos (by first | omega | trivial | (refine ⟨?_, ?_⟩ <;> first | trivial | omega | (unfold big; omega)) | (right; rw [encI_len]; omega) | (simp only [List.length_take, List.length_drop, encI_len]; omega)), bif_pos (by first | omega | trivial | (refine ⟨?_, ?_⟩ <;> first | trivial | omega | (unfold big; omega)) | (right; rw [encI_len]; omega) | (simp only [List.length_take, List.length_drop, encI_len]; omega)), bif_pos (by first | omega | trivial | (refine ⟨?_, ?_⟩ <;> first | trivial | omega | (unfold big; omega)) | (right; rw [encI_len]; omega) | (simp only [List.length_take, List.length_drop, encI_len]; omega)), bif_pos (by first | omega | trivial | (refine ⟨?_, ?_⟩ <;> first | trivial | omega | (unfold big; omega)) | (right; rw [encI_len]; omega) | (simp only [List.length_take, List.length_drop, encI_len]; omega)), bif_pos (by first | omega | trivial | (refine ⟨?_, ?_⟩ <;> first | trivial | omega | (unfold big; omega)) | (right; rw [encI_len]; omega) | (simp only [List.length_take, List.length_drop, encI_len]; omega)), bif_pos (by first | omega | trivial | (refine ⟨?_, ?_⟩ <;> first | trivial | omega | (unfold big; omega)) | (right; rw [encI_len]; omega) | (simp only [List.length_take, List.length_drop, encI_len]; omega)), bif_neg (by first | omega | trivial | (refine ⟨?_, ?_⟩ <;> first | trivial | omega | (unfold big; omega)) | (right; rw [encI_len]; omega) | (simp only [List.length_take, List.length_drop, encI_len]; omega)), bif_pos (by first | omega | trivial | (refine ⟨?_, ?_⟩ <;> first | trivial | omega | (unfold big; omega)) | (right; rw [encI_len]; omega) | (simp only [List.length_take, List.length_drop, encI_len]; omega)), bif_pos (by first | omega | trivial | (refine ⟨?_, ?_⟩ <;> first | trivial | omega | (unfold big; omega)) | (right; rw [encI_len]; omega) | (simp only [List.length_take, List.length_drop, encI_len]; omega))]
      exact hr
    · obtain rfl : m = T.length := by omega
      have e1 : (T.take T.length ++ t :: T.drop T.length).length = T.length + 1 := by simp
      have e2 : encI (T.take T.length ++ t :: T.drop T.length) = List.take T.length (encI T) ++ [PV.int .i64 t] := by
        rw [encI_takeN]
        simp [encI]
      rw [e1, e2] at hr
      rw [bif_neg (by omega)]
      rw [bif_pos (by first | omega | trivial | (refine ⟨?_, ?_⟩ <;> first | trivial | omega | (unfold big; omega)) | (right; rw [encI_len]; omega) | (simp only [List.length_take, List.length_drop, encI_len]; omega)), bif_pos (by first | omega | trivial | (refine ⟨?_, ?_⟩ <;> first | trivial | omega | (unfold big; omega)) | (right; rw [encI_len]; omega) | (simp only [List.length_take, List.length_drop, encI_len]; omega)), bif_neg (by first | omega | trivial | (refine ⟨?_, ?_⟩ <;> first | trivial | omega | (unfold big; omega)) | (right; rw [encI_len]; omega) | (simp only [List.length_take, List.length_drop, encI_len]; omega)), bif_pos (by first | omega | trivial | (refine ⟨?_, ?_⟩ <;> first | trivial | omega | (unfold big; omega)) | (right; rw [encI_len]; omega) | (simp only [List.length_take, List.length_drop, encI_len]; omega)), bif_pos (by first | omega | trivial | (refine ⟨?_, ?_⟩ <;> first | trivial | omega | (unfold big; omega)) | (right; rw [encI_len]; omega) | (simp only [List.length_take, List.length_drop, encI_len]; omega)), bif_pos (by first | omega | trivial | (refine ⟨?_, ?_⟩ <;> first | trivial | omega | (unfold big; omega)) | (right; rw [encI_len]; omega) | (simp only [List.length_take, List.length_drop, encI_len]; omega)), bif_pos (by first | omega | trivial | (refine ⟨?_, ?_⟩ <;> first | trivial | omega | (unfold big; omega)) | (right; rw [encI_len]; omega) | (simp only [List.length_take, List.length_drop, encI_len]; omega)), bif_pos (by first | omega | trivial | (refine ⟨?_, ?_⟩ <;> first | trivial | omega | (unfold big; omega)) | (right; rw [encI_len]; omega) | (simp only [List.length_take, List.length_drop, encI_len]; omega)), bif_pos (by first | omega | trivial | (refine ⟨?_, ?_⟩ <;> first | trivial | omega | (unfold big; omega)) | (right; rw [encI_len]; omega) | (simp only [List.length_take, List.length_drop, encI_len]; omega)), bif_pos (by first | omega | trivial | (refine ⟨?_, ?_⟩ <;> first | trivial | omega | (unfold big; omega)) | (right; rw [encI_len]; omega) | (simp only [List.length_take, List.length_drop, encI_len]; omega))]
      exact hr

def T2 (n : Nat) (cs : List PV) (w i a b c d : Int) (T : List Int) (k : Nat) : Q :=
  if T = [-1] then TrT_2a n cs w i a b c d k else TrT_2b n cs w T.length (encI T) i a b c d k
theorem step2a (n : Nat) (cs : List PV) (w i a b c d : Int) {k : Nat} {t : Int} (hk : [a, b, c, d][k]? = some t) (ht : -1 ≤ t) {r : Ext × S}
    (hr : RrT_2 (T2 n cs w i a b c d (insT t [-1]) (k + 1)) = some r) : RrT_2 (TrT_2a n cs w i a b c d k) = some r := by
  have hk4 : k < 4 := by simpa using (List.getElem?_eq_some_iff.1 hk).1
  have hread : ([PV.int .i64 a, .int .i64 b, .int .i64 c, .int .i64 d] : List PV)[k]? = some (.int .i64 t) := by
    rw [show ([PV.int .i64 a, .int .i64 b, .int .i64 c, .int .i64 d] : List PV) = encI [a, b, c, d] from rfl, encI_get, hk]
    rfl
  have hL := LrT_4a_of (at4a n cs w i t a b c d k)
  have wk : w64 ((k : Int) + 1) = ((k + 1 : Nat) : Int) := by rw [w64_in (by omega)]; omega
  refine RrT_2a_of _ _ _ _ _ _ _ _ _ ?_
  unfold BrT_2a
  rw [bif_pos (by omega), bif_pos (by omega)]
  simp only [Int.toNat_natCast, Nat.mul_one, hread, intC_int, bindO_val, hL, Sum.elim_inl, wk]
  rcases Int.lt_or_le (-1) t with h | h
  · rw [insT_cons_lt h] at hr
    simp only [if_pos h]
    have e : T2 n cs w i a b c d (-1 :: insT t []) (k + 1) = TrT_2b n cs w 2 [PV.int .i64 (-1), .int .i64 t] i a b c d (k + 1 : Nat) := by
      unfold T2
      rw [if_neg (by simp [insT, atP])]
      rfl
    rw [e] at hr
    exact hr
  · have : t = -1 := by omega
    subst this
    rw [insT_cons_eq] at hr
    have e : T2 n cs w i a b c d [-1] (k + 1) = TrT_2a n cs w i a b c d (k + 1 : Nat) := by
      unfold T2
      rw [if_pos rfl]
    rw [e] at hr
    exact hr
theorem step2 (n : Nat) (cs : List PV) (w i a b c d : Int) {T : List Int} (hT : TurnL T) (hl : T.length ≤ 1000) {k : Nat} {t : Int} (hk : [a, b, c, d][k]? = some t) (ht : -1 ≤ t) {r : Ext × S}
    (hr : RrT_2 (T2 n cs w i a b c d (insT t T) (k + 1)) = some r) : RrT_2 (T2 n cs w i a b c d T k) = some r := by
  by_cases h : T = [-1]
  · subst h
    have e : T2 n cs w i a b c d [-1] k = TrT_2a n cs w i a b c d k := by
      unfold T2
      rw [if_pos rfl]
    rw [e]
    exact step2a n cs w i a b c d hk ht hr
  · have e : T2 n cs w i a b c d T k = TrT_2b n cs w T.length (encI T) i a b c d k := by
      unfold T2
      rw [if_neg h]
    have hlen : 1 ≤ T.length := by
      obtain ⟨q, rfl⟩ := hT.hd
      simp
    have hlen2 : T.length ≠ 1 := by
      obtain ⟨q, rfl⟩ := hT.hd
      intro h1
      apply h
      cases q with
      | nil => rfl
      | cons x q => simp at h1
    have e2 : T2 n cs w i a b c d (insT t T) (k + 1) = TrT_2b n cs w (insT t T).length (encI (insT t T)) i a b c d (k + 1 : Nat) := by
      unfold T2
      rw [if_neg (insT_ne hlen2 hlen)]
    rw [e]
    rw [e2] at hr
    exact step2b n cs w i a b c d hT hl hk ht hr
def E2 (n : Nat) (cs : List PV) (w i : Int) (T : List Int) : Ext × Q := if T = [-1] then XrT_2a (n, cs, w, i) else XrT_2b (n, cs, w, T.length, encI T, i)
theorem end2 (n : Nat) (cs : List PV) (w i a b c d : Int) (T : List Int) : RrT_2 (T2 n cs w i a b c d T 4) = exO (E2 n cs w i T) := by
  unfold T2 E2
  by_cases h : T = [-1]
  · rw [if_pos h, if_pos h]
    refine RrT_2a_of _ _ _ _ _ _ _ _ _ ?_
    unfold BrT_2a
    rw [bif_neg (by omega)]
    rfl
  · rw [if_neg h, if_neg h]
    refine RrT_2b_of _ _ _ _ _ _ _ _ _ _ _ ?_
    unfold BrT_2b
    rw [bif_neg (by omega)]
    rfl
theorem four2 (n : Nat) (cs : List PV) (w i a b c d : Int) {T : List Int} (hT : TurnL T) (hl : T.length ≤ 900) (ha : -1 ≤ a) (hb : -1 ≤ b) (hc : -1 ≤ c) (hd : -1 ≤ d) :
    RrT_2 (T2 n cs w i a b c d T 0) = exO (E2 n cs w i (insA [a, b, c, d] T)) := by
  have h1 := insT_len a T
  have h2 := insT_len b (insT a T)
  have h3 := insT_len c (insT b (insT a T))
  have e4 := end2 n cs w i a b c d (insA [a, b, c, d] T)
  have e3 := step2 n cs w i a b c d (k := 3) (t := d) (((hT.ins ha).ins hb).ins hc) (by omega) rfl hd e4
  have e2 := step2 n cs w i a b c d (k := 2) (t := c) ((hT.ins ha).ins hb) (by omega) rfl hc e3
  have e1 := step2 n cs w i a b c d (k := 1) (t := b) (hT.ins ha) (by omega) rfl hb e2
  exact step2 n cs w i a b c d (k := 0) (t := a) hT (by omega) rfl ha e1

def T0 (n : Nat) (cs : List PV) (w : Int) (T : List Int) (i : Nat) : Q := if T = [-1] then TrT_0a n cs w i else TrT_0b n cs w T.length (encI T) i
def E0 (T : List Int) : Ext × Q := if T = [-1] then XrT_0a () else XrT_0b (T.length, encI T)
theorem loop0 {l : List Sht} (ho : Oks l) (hl : l.length ≤ 100) {w : Int} (hw : 1 ≤ w ∧ w ≤ 1000000) : ∀ i, i ≤ l.length → ∀ T : List Int, TurnL T → T.length + 4 * (l.length - i) ≤ 800 →
    RrT_0 (T0 l.length (encL3 l) w T i) = exO (E0 ((l.drop i).foldl (fun T z => insA (fourT w z) T) T)) := by
  refine up_ind (P := fun i => ∀ T : List Int, TurnL T → T.length + 4 * (l.length - i) ≤ 800 → RrT_0 (T0 l.length (encL3 l) w T i) = exO (E0 ((l.drop i).foldl (fun T z => insA (fourT w z) T) T))) _ ?_ ?_
  · intro T _ _
    rw [List.drop_length]
    show _ = exO (E0 T)
    unfold T0 E0
    by_cases h : T = [-1]
    · rw [if_pos h, if_pos h]
      refine RrT_0a_of _ _ _ _ ?_
      unfold BrT_0a
      rw [bif_neg (by omega)]
      rfl
    · rw [if_neg h, if_neg h]
      refine RrT_0b_of _ _ _ _ _ _ ?_
      unfold BrT_0b
      rw [bif_neg (by omega)]
      rfl
  · intro i hi ih T hT hlen
    obtain ⟨z, hz, hd⟩ := get_drop hi
    have hz' := ho z (List.mem_of_getElem? hz)
    have a := hz'.a
    have b := hz'.b
    have c := hz'.c
    have hf := insA_len (fourT w z) T
    have hf4 : (fourT w z).length = 4 := rfl
    have hT' := hT.insA fun t ht => (four_ge hz' hw t ht).1
    have next := ih (insA (fourT w z) T) hT' (by omega)
    have hq := four2 l.length (encL3 l) w i (z.1 - 1) (z.2.1 - 1) (z.1 + w - 1) (z.2.1 + w - 1) hT (by omega) (by omega) (by omega) (by omega) (by omega)
    rw [show [z.1 - 1, z.2.1 - 1, z.1 + w - 1, z.2.1 + w - 1] = fourT w z from rfl] at hq
    rw [hd, List.foldl_cons]
    generalize (l.drop (i + 1)).foldl (fun T z => insA (fourT w z) T) (insA (fourT w z) T) = U at next ⊢
    generalize insA (fourT w z) T = V at next hq
    have hb' : (decide (((0 : Int) ≤ (i : Int)) ∧ ((i : Int) < (l.length : Int)))) = true := decide_eq_true ⟨by omega, by omega⟩
    have w1 : w64 (z.1 - 1) = z.1 - 1 := w64_in (by omega)
    have w2 : w64 (z.2.1 - 1) = z.2.1 - 1 := w64_in (by omega)
    have w3 : w64 (z.1 + w) = z.1 + w := w64_in (by omega)
    have w4 : w64 (z.2.1 + w) = z.2.1 + w := w64_in (by omega)
    have w5 : w64 (z.1 + w - 1) = z.1 + w - 1 := w64_in (by omega)
    have w6 : w64 (z.2.1 + w - 1) = z.2.1 + w - 1 := w64_in (by omega)
    have wk : w64 ((i : Int) + 1) = ((i + 1 : Nat) : Int) := by rw [w64_in (by omega)]; omega
    unfold T0 at next ⊢
    unfold T2 E2 at hq
    by_cases h : T = [-1]
    · rw [if_pos h] at hq ⊢
      refine RrT_0a_of _ _ _ _ ?_
      unfold BrT_0a
      rw [bif_pos (by omega)]
      by_cases h2 : V = [-1]
      · rw [if_pos h2] at hq next
        have hL := LrT_2a_of hq
        have hL : LrT_2 (TrT_2a l.length (encL3 l) w i (z.1 - 1) (z.2.1 - 1) (z.1 + w - 1) (z.2.1 + w - 1) 0) = _ := hL
        simp only [hb', cond_true, Int.toNat_natCast, Nat.add_zero, get0 hz, get1 hz, intC_int, bindO_val, w1, w2, w3, w4, w5, w6, hL, Sum.elim_inl, wk]
        exact next
      · rw [if_neg h2] at hq next
        have hL := LrT_2b_of hq
        have hL : LrT_2 (TrT_2a l.length (encL3 l) w i (z.1 - 1) (z.2.1 - 1) (z.1 + w - 1) (z.2.1 + w - 1) 0) = _ := hL
        simp only [hb', cond_true, Int.toNat_natCast, Nat.add_zero, get0 hz, get1 hz, intC_int, bindO_val, w1, w2, w3, w4, w5, w6, hL, Sum.elim_inr, wk]
        exact next
    · rw [if_neg h] at hq ⊢
      refine RrT_0b_of _ _ _ _ _ _ ?_
      unfold BrT_0b
      rw [bif_pos (by omega)]
      by_cases h2 : V = [-1]
      · rw [if_pos h2] at hq next
        have hL := LrT_2a_of hq
        have hL : LrT_2 (TrT_2b l.length (encL3 l) w T.length (encI T) i (z.1 - 1) (z.2.1 - 1) (z.1 + w - 1) (z.2.1 + w - 1) 0) = _ := hL
        simp only [hb', cond_true, Int.toNat_natCast, Nat.add_zero, get0 hz, get1 hz, intC_int, bindO_val, w1, w2, w3, w4, w5, w6, hL, Sum.elim_inl, wk]
        exact next
      · rw [if_neg h2] at hq next
        have hL := LrT_2b_of hq
        have hL : LrT_2 (TrT_2b l.length (encL3 l) w T.length (encI T) i (z.1 - 1) (z.2.1 - 1) (z.1 + w - 1) (z.2.1 + w - 1) 0) = _ := hL
        simp only [hb', cond_true, Int.toNat_natCast, Nat.add_zero, get0 hz, get1 hz, intC_int, bindO_val, w1, w2, w3, w4, w5, w6, hL, Sum.elim_inr, wk]
        exact next
theorem refTurns_is {l : List Sht} (ho : Oks l) (hl : l.length ≤ 100) {w : Int} (hw : 1 ≤ w ∧ w ≤ 1000000) : FrT [.list l.length (encL3 l), .int .i64 w] = some ((refT w l).length, encI (refT w l)) := by
  refine FrT_of _ _ _ ?_
  unfold trT
  have hq := loop0 ho hl hw 0 (by omega) [-1] turnL_start (by simp; omega)
  rw [List.drop_zero] at hq
  have e : l.foldl (fun T z => insA (fourT w z) T) [-1] = refT w l := rfl
  rw [e] at hq
  unfold T0 E0 at hq
  rw [if_pos rfl] at hq
  by_cases h : refT w l = [-1]
  · rw [if_pos h] at hq
    have hL := LrT_0a_of hq
    have hL : LrT_0 (TrT_0a l.length (encL3 l) w 0) = _ := hL
    simp only [hL, bindO_val, Sum.elim_inl]
    rw [h]
    rfl
  · rw [if_neg h] at hq
    have hL := LrT_0b_of hq
    have hL : LrT_0 (TrT_0a l.length (encL3 l) w 0) = _ := hL
    simp only [hL, bindO_val, Sum.elim_inr]
end Gv
