import Derived.Test.YtkbahledgljaoaaGreatGvYm
import Derived.Test.YtkbahledgljaoaaGreatWD1

/- Numbers of any size by their digits: plain facts. -/
namespace Gv
def vl : List Int → Int
  | [] => 0
  | d :: l => d + 1000000000 * vl l
def Dg (l : List Int) : Prop := ∀ d ∈ l, 0 ≤ d ∧ d < 1000000000
theorem Dg.nil : Dg [] := fun _ h => by cases h
theorem Dg.cons {d : Int} {l : List Int} (h0 : 0 ≤ d) (h1 : d < 1000000000) (h : Dg l) : Dg (d :: l) := fun x hx => by
  rcases List.mem_cons.1 hx with rfl | hx
  · exact ⟨h0, h1⟩
  · exact h x hx
theorem Dg.tail {d : Int} {l : List Int} (h : Dg (d :: l)) : Dg l := fun x hx => h x (List.mem_cons_of_mem _ hx)
theorem Dg.head {d : Int} {l : List Int} (h : Dg (d :: l)) : 0 ≤ d ∧ d < 1000000000 := h d (List.mem_cons_self ..)
theorem Dg.app {a b : List Int} (h : Dg a) (k : Dg b) : Dg (a ++ b) := fun x hx => (List.mem_append.1 hx).elim (h x) (k x)
theorem Dg.take {a : List Int} (h : Dg a) (n : Nat) : Dg (a.take n) := fun x hx => h x (List.mem_of_mem_take hx)
theorem Dg.drop {a : List Int} (h : Dg a) (n : Nat) : Dg (a.drop n) := fun x hx => h x (List.mem_of_mem_drop hx)
theorem Dg.get {a : List Int} (h : Dg a) {i : Nat} {x : Int} (hx : a[i]? = some x) : 0 ≤ x ∧ x < 1000000000 := h x (List.mem_of_getElem? hx)
theorem Dg.set {a : List Int} (h : Dg a) {i : Nat} {v : Int} (h0 : 0 ≤ v) (h1 : v < 1000000000) : Dg (a.set i v) := fun x hx => by
  rcases List.mem_or_eq_of_mem_set hx with hx | rfl
  · exact h x hx
  · exact ⟨h0, h1⟩
theorem vl_nonneg : ∀ {l : List Int}, Dg l → 0 ≤ vl l
  | [], _ => by simp [vl]
  | d :: l, h => by
    have := vl_nonneg h.tail
    have := h.head
    simp only [vl]; omega
def wpw : Nat → Int
  | 0 => 1
  | n + 1 => 1000000000 * wpw n
theorem wpw_pos : ∀ n, 0 < wpw n
  | 0 => by simp [wpw]
  | n + 1 => by have := wpw_pos n; simp only [wpw]; omega
theorem wpw_add (m : Nat) : ∀ n, wpw (m + n) = wpw m * wpw n
  | 0 => by simp [wpw]
  | n + 1 => by
    rw [← Nat.add_assoc]
    simp only [wpw, wpw_add m n]
    grind
theorem vl_lt : ∀ {l : List Int}, Dg l → vl l < wpw l.length
  | [], _ => by simp [vl, wpw]
  | d :: l, h => by
    have := vl_lt h.tail
    have := h.head
    simp only [vl, List.length_cons, wpw]; omega
theorem vl_app : ∀ (a b : List Int), vl (a ++ b) = vl a + wpw a.length * vl b
  | [], b => by simp [vl, wpw]
  | d :: a, b => by
    simp only [List.cons_append, vl, vl_app a b, List.length_cons, wpw]
    grind
theorem vl_zeros : ∀ {l : List Int}, (∀ d ∈ l, d = 0) → vl l = 0
  | [], _ => rfl
  | d :: l, h => by
    simp only [vl, vl_zeros (l := l) fun x hx => h x (List.mem_cons_of_mem _ hx), h d (List.mem_cons_self ..)]
    rfl
theorem vl_set : ∀ {l : List Int} {i : Nat} {v x : Int}, l[i]? = some x → vl (l.set i v) = vl l + wpw i * (v - x)
  | [], _, _, _, h => by simp at h
  | d :: l, 0, v, x, h => by
    simp at h; subst h
    simp only [List.set_cons_zero, vl, wpw]; omega
  | d :: l, i + 1, v, x, h => by
    simp only [List.set_cons_succ, vl, vl_set (l := l) (i := i) (v := v) (x := x) (by simpa using h), wpw]
    grind
def dg (n : Nat) : List Int := if h : n = 0 then [] else ((n % 1000000000 : Nat) : Int) :: dg (n / 1000000000)
termination_by n
decreasing_by exact Nat.div_lt_self (Nat.pos_of_ne_zero h) (by decide)
theorem dg_zero : dg 0 = [] := by rw [dg]; simp
theorem dg_pos {n : Nat} (h : n ≠ 0) : dg n = ((n % 1000000000 : Nat) : Int) :: dg (n / 1000000000) := by rw [dg]; simp [h]
theorem dg_ind {P : Nat → Prop} (h0 : P 0) (h1 : ∀ n, n ≠ 0 → P (n / 1000000000) → P n) : ∀ n, P n := by
  intro n
  induction n using Nat.strongRecOn with
  | _ n ih =>
    by_cases hn : n = 0
    · subst hn; exact h0
    · exact h1 n hn (ih _ (Nat.div_lt_self (Nat.pos_of_ne_zero hn) (by decide)))
theorem vl_dg (n : Nat) : vl (dg n) = n := by
  induction n using dg_ind with
  | h0 => simp [dg_zero, vl]
  | h1 n hn ih =>
    rw [dg_pos hn]
    simp only [vl, ih]
    omega
theorem dg_Dg (n : Nat) : Dg (dg n) := by
  induction n using dg_ind with
  | h0 => rw [dg_zero]; exact Dg.nil
  | h1 n hn ih =>
    rw [dg_pos hn]
    exact Dg.cons (by omega) (by omega) ih
def Top (l : List Int) : Prop := ∀ x, l.getLast? = some x → x ≠ 0
theorem dg_Top (n : Nat) : Top (dg n) := by
  induction n using dg_ind with
  | h0 => rw [dg_zero]; intro x h; simp at h
  | h1 n hn ih =>
    rw [dg_pos hn]
    intro x hx
    rw [List.getLast?_cons] at hx
    cases hd : (dg (n / 1000000000)).getLast? with
    | none =>
      rw [hd] at hx
      simp at hx
      have h0 : dg (n / 1000000000) = [] := List.getLast?_eq_none_iff.1 hd
      by_cases hz : n / 1000000000 = 0
      · omega
      · rw [dg_pos hz] at h0; cases h0
    | some y =>
      rw [hd] at hx
      simp at hx
      subst hx
      exact ih y hd
theorem vl_pos_of_top : ∀ {l : List Int}, Dg l → Top l → l ≠ [] → 0 < vl l
  | [], _, _, h => absurd rfl h
  | [d], hd, ht, _ => by
    have := hd.head
    have := ht d (by simp)
    simp only [vl]; omega
  | d :: e :: l, hd, ht, _ => by
    have h1 := vl_pos_of_top (l := e :: l) hd.tail (fun x hx => ht x (by rw [List.getLast?_cons_cons]; exact hx)) (by simp)
    have h2 := hd.head
    have : vl (d :: e :: l) = d + 1000000000 * vl (e :: l) := rfl
    omega
theorem dg_vl : ∀ {l : List Int}, Dg l → Top l → dg (vl l).toNat = l
  | [], _, _ => by simp [vl, dg_zero]
  | d :: l, hd, ht => by
    have h0 := hd.head
    have hp := vl_pos_of_top hd ht (by simp)
    have ht' : Top l := fun x hx => ht x (by
      rw [List.getLast?_cons, hx]; rfl)
    have hn := vl_nonneg hd.tail
    have ih := dg_vl hd.tail ht'
    have hv : vl (d :: l) = d + 1000000000 * vl l := rfl
    rw [dg_pos (by omega)]
    have e1 : (vl (d :: l)).toNat / 1000000000 = (vl l).toNat := by omega
    have e2 : (((vl (d :: l)).toNat % 1000000000 : Nat) : Int) = d := by omega
    rw [e1, e2, ih]
def trim (l : List Int) : List Int := (l.reverse.dropWhile (· == 0)).reverse
theorem trim_app0 (l : List Int) : trim (l ++ [0]) = trim l := by
  simp [trim]
theorem trim_top {l : List Int} {x : Int} (h : x ≠ 0) : trim (l ++ [x]) = l ++ [x] := by
  simp [trim, h]
theorem trim_nil : trim [] = [] := rfl
theorem list_rev_ind {α : Type} {P : List α → Prop} (h0 : P []) (h1 : ∀ l x, P l → P (l ++ [x])) : ∀ l, P l := by
  intro l
  rw [← List.reverse_reverse l]
  induction l.reverse with
  | nil => exact h0
  | cons x l ih => rw [List.reverse_cons]; exact h1 _ _ ih
theorem trim_spec (l : List Int) (hd : Dg l) : Dg (trim l) ∧ Top (trim l) ∧ vl (trim l) = vl l := by
  induction l using list_rev_ind with
  | h0 => exact ⟨hd, fun x h => by simp [trim_nil] at h, rfl⟩
  | h1 l x ih =>
    by_cases hx : x = 0
    · subst hx
      rw [trim_app0]
      obtain ⟨a, b, c⟩ := ih fun d h => hd d (List.mem_append_left _ h)
      exact ⟨a, b, by rw [c, vl_app]; simp [vl]⟩
    · rw [trim_top hx]
      exact ⟨hd, fun y hy => by simp at hy; omega, rfl⟩
theorem trim_dg {l : List Int} (hd : Dg l) : trim l = dg (vl l).toNat := by
  obtain ⟨a, b, c⟩ := trim_spec l hd
  rw [← dg_vl a b, c]
theorem dg_len_lt {n k : Nat} (h : (n : Int) < wpw k) : (dg n).length ≤ k := by
  induction k generalizing n with
  | zero =>
    simp only [wpw] at h
    have : n = 0 := by omega
    subst this
    simp [dg_zero]
  | succ k ih =>
    by_cases hn : n = 0
    · subst hn; simp [dg_zero]
    · rw [dg_pos hn]
      simp only [wpw] at h
      have := ih (n := n / 1000000000) (by omega)
      simp only [List.length_cons]; omega
theorem dg_ge {n : Nat} (h : n ≠ 0) : wpw ((dg n).length - 1) ≤ n := by
  induction n using dg_ind with
  | h0 => exact absurd rfl h
  | h1 n hn ih =>
    rw [dg_pos hn]
    simp only [List.length_cons, Nat.add_sub_cancel]
    by_cases hz : n / 1000000000 = 0
    · rw [hz, dg_zero]; simp [wpw]; omega
    · have := ih hz
      have hl : (dg (n / 1000000000)).length ≠ 0 := by rw [dg_pos hz]; simp
      obtain ⟨k, hk⟩ : ∃ k, (dg (n / 1000000000)).length = k + 1 := ⟨_, (Nat.succ_pred_eq_of_ne_zero hl).symm⟩
      rw [hk] at this ⊢
      simp only [Nat.add_sub_cancel, wpw] at this ⊢
      omega
theorem dg_len_mono {m n : Nat} (h : (dg m).length < (dg n).length) : m < n := by
  have h1 := vl_lt (dg_Dg m)
  rw [vl_dg] at h1
  have hn : n ≠ 0 := fun e => by rw [e, dg_zero] at h; simp at h
  have h2 := dg_ge hn
  have h3 : ∀ a b, a ≤ b → wpw a ≤ wpw b := fun a b hab => by
    obtain ⟨c, rfl⟩ := Nat.exists_eq_add_of_le hab
    rw [wpw_add]
    have := wpw_pos a
    have := wpw_pos c
    have : wpw a * 1 ≤ wpw a * wpw c := Int.mul_le_mul_of_nonneg_left (by omega) (by omega)
    omega
  have := h3 _ ((dg n).length - 1) (show (dg m).length ≤ _ by omega)
  omega
end Gv

/- Numbers of any size: sums, differences, what compares. -/
namespace Gv
open Go
set_option maxRecDepth 100000
theorem over_set (l : List Int) {i : Nat} (h : i < l.length) (v : Int) : over (encI l) i [.int .i64 v] = encI (l.set i v) := by
  rw [List.set_eq_take_append_cons_drop, if_pos h]
  simp [over, encI, List.map_take, List.map_drop]
theorem overO_set (l : List Int) {i : Nat} (h : i < l.length) (v : Int) : overO (encI l) i [.int .i64 v] = some (encI (l.set i v)) := by
  rw [overO_of (by rw [encI_len]; simp; omega), over_set l h]
theorem take_succ_get {l : List Int} {k : Nat} {x : Int} (h : l[k]? = some x) : l.take (k + 1) = l.take k ++ [x] := by
  rw [List.take_add_one, h]; rfl
theorem trim_len (l : List Int) : (trim l).length ≤ l.length := by
  have : (l.reverse.dropWhile (· == 0)).length ≤ l.reverse.length := (List.dropWhile_sublist _).length_le
  simpa [trim] using this
theorem trim_pre (l : List Int) : l.take (trim l).length = trim l := by
  induction l using list_rev_ind with
  | h0 => rfl
  | h1 l x ih =>
    by_cases hx : x = 0
    · subst hx
      rw [trim_app0, List.take_append_of_le_length (trim_len l), ih]
    · rw [trim_top hx, List.take_length]
theorem trimmed_loop {l : List Int} (hl : l.length ≤ 1000000) : ∀ k, k ≤ l.length →
    Rb_trimmed_0 (Tb_trimmed_0a l.length (encI l) k) = exO (Xb_trimmed_0a (l.length, encI l, ((trim (l.take k)).length : Nat)))
  | 0, _ => by
    refine Rb_trimmed_0a_of _ _ _ ?_
    unfold Bb_trimmed_0a
    rw [bif_neg (by omega)]
    rfl
  | k + 1, hk => by
    obtain ⟨x, hx, _⟩ := get_drop (l := l) (i := k) (by omega)
    have wk : w64 (((k + 1 : Nat) : Int) - 1) = k := by rw [w64_in (by omega)]; omega
    have ih := trimmed_loop hl k (by omega)
    refine Rb_trimmed_0a_of _ _ _ ?_
    unfold Bb_trimmed_0a
    rw [bif_pos (by omega)]
    simp only [wk]
    rw [bif_pos (by omega)]
    simp only [Int.toNat_natCast, Nat.mul_one, encI_get, hx, Option.map_some, intC_int, bindO_val]
    rw [bif_eq, take_succ_get hx]
    by_cases h : x = 0
    · subst h
      rw [if_pos rfl, trim_app0]
      exact ih
    · rw [if_neg h, trim_top h, ← take_succ_get hx, List.length_take, Nat.min_eq_left hk]
      rfl
theorem trimmed_is {l : List Int} (hl : l.length ≤ 1000000) : Fb_trimmed [.list l.length (encI l)] = some ((trim l).length, encI (trim l)) := by
  refine Fb_trimmed_of _ _ ?_
  unfold tb_trimmed
  have hq := trimmed_loop hl l.length (by omega)
  rw [List.take_length] at hq
  have hL := Lb_trimmed_0a_of hq
  have ht := trim_len l
  simp only [hL, bindO_val, Int.toNat_natCast]
  rw [bif_pos (by omega), bif_pos (by right; rw [encI_len]; omega)]
  have : (encI l).take (trim l).length = encI (trim l) := by
    have := trim_pre l
    conv => rhs; rw [← this]
    simp [encI, List.map_take]
  simp [this]
def dgs (v : Int) : List Int := dg v.natAbs
abbrev WR := Int × (Nat × List PV)
def wR (v : Int) : WR := (v.sign, ((dgs v).length, encI (dgs v)))
def wP (v : Int) : PV := .agg [.int .i64 v.sign, .list (dgs v).length (encI (dgs v))]
theorem wP_fold (v : Int) : PV.agg [.int .i64 (wR v).1, .list (wR v).2.1 (wR v).2.2] = wP v := rfl
theorem wR_eta (v : Int) : (((wR v).1, ((wR v).2.1, (wR v).2.2)) : WR) = wR v := rfl
theorem wR_zero : wR 0 = (0, (0, [])) := by simp [wR, dgs, dg_zero]
theorem dgs_vl (v : Int) : vl (dgs v) = v.natAbs := vl_dg _
theorem dgs_Dg (v : Int) : Dg (dgs v) := dg_Dg _
theorem dgs_neg (v : Int) : dgs (-v) = dgs v := by simp [dgs]
theorem dgs_of {l : List Int} (h : Dg l) (ht : Top l) {v : Int} (hv : (v.natAbs : Int) = vl l) : dgs v = l := by
  rw [← dg_vl h ht, ← hv]
  simp [dgs]
theorem dgs_nil {v : Int} : dgs v = [] ↔ v = 0 := by
  constructor
  · intro h
    have := dgs_vl v
    rw [h] at this
    simp [vl] at this
    omega
  · rintro rfl
    simp [dgs, dg_zero]
theorem dgs_top (v : Int) : Top (dgs v) := dg_Top _
theorem wideOf_is {s : Int} {l : List Int} (hl : l.length ≤ 1000000) (hd : Dg l) (hs : s = 1 ∨ s = -1 ∨ vl l = 0) :
    Fb_wideOf [.int .i64 s, .list l.length (encI l)] = some (wR (s * vl l)) := by
  refine Fb_wideOf_of _ _ _ ?_
  unfold tb_wideOf
  have ht := trimmed_is hl
  obtain ⟨t1, t2, t3⟩ := trim_spec l hd
  have hv := vl_nonneg hd
  simp only [ht, bindO_val]
  have hD : dgs (s * vl l) = trim l := by
    refine dgs_of t1 t2 ?_
    rw [t3]
    rcases hs with rfl | rfl | h0
    · omega
    · omega
    · rw [h0, Int.mul_zero]; rfl
  unfold wR
  rw [hD, bif_eq]
  by_cases h : (trim l).length = 0
  · have h' := List.eq_nil_of_length_eq_zero h
    have h0 : vl l = 0 := by rw [← t3, h']; rfl
    rw [if_pos (by omega), h0]
    simp
  · have hp := vl_pos_of_top t1 t2 (fun e => h (by rw [e]; rfl))
    rw [if_neg (by omega)]
    have : (s * vl l).sign = s := by
      rcases hs with rfl | rfl | h0
      · rw [Int.one_mul]; exact Int.sign_eq_one_of_pos (by omega)
      · rw [Int.neg_one_mul]; exact Int.sign_eq_neg_one_of_neg (by omega)
      · omega
    rw [this]
theorem Size_is {c : Int} (h : -9223372036854775807 ≤ c ∧ c ≤ 9223372036854775807) : Fb_Size [.int .i64 c] = some (c.natAbs : Int) := by
  refine Fb_Size_of _ ?_
  unfold tb_Size
  rw [w64_in (by omega)]
  split <;> congr 1 <;> omega
theorem WideOf_loop (s : Int) : ∀ (k : Nat) (n : Int), n.natAbs < k → -9223372036854775808 ≤ n ∧ n ≤ 9223372036854775807 → ∀ acc : List Int, acc.length + (dg n.natAbs).length ≤ 1000000 →
    Rb_WideOf_0 (Tb_WideOf_0b n s acc.length (encI acc) acc.length) = exO (Xb_WideOf_0b (s, (acc ++ dg n.natAbs).length, encI (acc ++ dg n.natAbs), (acc ++ dg n.natAbs).length))
  | 0, n, h, _, _, _ => by omega
  | k + 1, n, h, hn, acc, ha => by
    refine Rb_WideOf_0b_of _ _ _ _ _ ?_
    unfold Bb_WideOf_0b
    rw [bif_ne]
    by_cases h0 : n = 0
    · subst h0
      rw [if_pos rfl]
      have : dg (0 : Int).natAbs = [] := dg_zero
      rw [this, List.append_nil]
      rfl
    · rw [if_neg h0]
      have hz : n.natAbs ≠ 0 := by omega
      have hm : (n.tmod 1000000000).natAbs = n.natAbs % 1000000000 := Int.natAbs_tmod _ _
      have hq : (n.tdiv 1000000000).natAbs = n.natAbs / 1000000000 := Int.natAbs_tdiv _ _
      have hlt : n.natAbs / 1000000000 < n.natAbs := Nat.div_lt_self (by omega) (by decide)
      have wq : w64 (n.tdiv 1000000000) = n.tdiv 1000000000 := w64_in (by omega)
      have hS := Size_is (c := n.tmod 1000000000) (by omega)
      have hdg := dg_pos hz
      rw [hdg, List.length_cons] at ha
      have ih := WideOf_loop s k (n.tdiv 1000000000) (by omega) (by omega) (acc ++ [((n.natAbs % 1000000000 : Nat) : Int)]) (by rw [hq]; simp; omega)
      simp only [hS, bindO_val, wq, hm]
      have hbg : acc.length + 1 ≤ big := by unfold big; omega
      rw [bif_pos (by first | exact ⟨rfl, hbg⟩ | exact ⟨trivial, hbg⟩)]
      rw [hq] at ih
      simp only [List.append_assoc, List.singleton_append] at ih
      rw [hdg]
      simp only [List.length_append, List.length_cons, List.length_nil, Nat.zero_add, encI_app] at ih ⊢
      exact ih
theorem len3 {n : Int} (hn : -9223372036854775808 ≤ n ∧ n ≤ 9223372036854775807) : (dg n.natAbs).length ≤ 3 := dg_len_lt (by simp only [wpw]; omega)
theorem WideOf_is {n : Int} (hn : -9223372036854775808 ≤ n ∧ n ≤ 9223372036854775807) : Fb_WideOf [.int .i64 n] = some (wR n) := by
  refine Fb_WideOf_of _ ?_
  unfold tb_WideOf
  have key : ∀ s : Int, s = 1 ∨ s = -1 → n = s * (n.natAbs : Int) → (bindO (Lb_WideOf_0 (Tb_WideOf_0a n s)) fun z =>
      Sum.elim (fun y0 =>
        bindO (Fn env 144 (RSh.agg [(CK.int .i64), CK.list]) [(PV.int .i64 y0), (PV.list 0 [])]) fun (y1 : ((Int) × ((Nat) × (List PV)))) =>
        some (y1.1, (y1.2.1, y1.2.2))) (fun y2 =>
        bindO (Fn env 144 (RSh.agg [(CK.int .i64), CK.list]) [(PV.int .i64 y2.1), (PV.list y2.2.1 y2.2.2.1)]) fun (y3 : ((Int) × ((Nat) × (List PV)))) =>
        some (y3.1, (y3.2.1, y3.2.2))) z) = some (wR n) := by
    intro s hs hns
    by_cases h0 : n = 0
    · have hq : Rb_WideOf_0 (Tb_WideOf_0a n s) = exO (Xb_WideOf_0a s) := by
        refine Rb_WideOf_0a_of _ _ ?_
        unfold Bb_WideOf_0a
        rw [bif_ne, if_pos h0]
        rfl
      have hw := wideOf_is (s := s) (l := []) (by simp) Dg.nil (.inr (.inr rfl))
      have hw : Fb_wideOf [.int .i64 s, .list 0 []] = _ := hw
      rw [Lb_WideOf_0a_of hq]
      simp only [bindO_val, Sum.elim_inl, hw, wR_eta]
      rw [h0]
      simp [vl]
    · have hz : n.natAbs ≠ 0 := by omega
      have hm : (n.tmod 1000000000).natAbs = n.natAbs % 1000000000 := Int.natAbs_tmod _ _
      have hq' : (n.tdiv 1000000000).natAbs = n.natAbs / 1000000000 := Int.natAbs_tdiv _ _
      have wq : w64 (n.tdiv 1000000000) = n.tdiv 1000000000 := w64_in (by omega)
      have hS := Size_is (c := n.tmod 1000000000) (by omega)
      have hdg := dg_pos hz
      have h3 := len3 hn
      have hq : Rb_WideOf_0 (Tb_WideOf_0a n s) = exO (Xb_WideOf_0b (s, (dgs n).length, encI (dgs n), (dgs n).length)) := by
        refine Rb_WideOf_0a_of _ _ ?_
        unfold Bb_WideOf_0a
        rw [bif_ne, if_neg h0]
        simp only [hS, bindO_val, wq, hm]
        have ih := WideOf_loop s ((n.tdiv 1000000000).natAbs + 1) (n.tdiv 1000000000) (by omega) (by omega) [((n.natAbs % 1000000000 : Nat) : Int)] (by
          rw [hq']; rw [hdg, List.length_cons] at h3; simp; omega)
        rw [hq', List.singleton_append, ← hdg] at ih
        exact ih
      have hw := wideOf_is (s := s) (l := dgs n) (by unfold dgs; omega) (dgs_Dg n) (by omega)
      rw [Lb_WideOf_0b_of hq]
      simp only [bindO_val, Sum.elim_inr, hw, wR_eta]
      rw [dgs_vl, ← hns]
  rw [bif_dec]
  split
  · exact key (-1) (.inr rfl) (by omega)
  · exact key 1 (.inl rfl) (by omega)
theorem vl_take_succ {l : List Int} {k : Nat} {x : Int} (h : l[k]? = some x) : vl (l.take (k + 1)) = vl (l.take k) + wpw k * x := by
  have hlt := (List.getElem?_eq_some_iff.1 h).1
  rw [take_succ_get h, vl_app, List.length_take, Nat.min_eq_left (by omega)]
  simp [vl]
def cmpV (u v : Int) : Int := if u < v then -1 else if v < u then 1 else 0
theorem cmp_loop {a b : List Int} (ha : a.length ≤ 1000000) (hl : a.length = b.length) (da : Dg a) (db : Dg b) : ∀ k, k ≤ a.length →
    Rb_cmpDigits_0 (Tb_cmpDigits_0a a.length (encI a) b.length (encI b) ((k : Int) - 1)) =
      (if vl (a.take k) = vl (b.take k) then exO (Xb_cmpDigits_0b ()) else exO (Xb_cmpDigits_0a (cmpV (vl (a.take k)) (vl (b.take k)))))
  | 0, _ => by
    refine Rb_cmpDigits_0a_of _ _ _ _ _ ?_
    unfold Bb_cmpDigits_0a
    rw [bif_neg (by omega)]
    rfl
  | k + 1, hk => by
    obtain ⟨x, hx, _⟩ := get_drop (l := a) (i := k) (by omega)
    obtain ⟨y, hy, _⟩ := get_drop (l := b) (i := k) (by omega)
    have ih := cmp_loop ha hl da db k (by omega)
    have e : ((k + 1 : Nat) : Int) - 1 = k := by omega
    have wk : w64 ((k : Int) - 1) = (k : Int) - 1 := w64_in (by omega)
    have v1 := vl_take_succ hx
    have v2 := vl_take_succ hy
    have b1 := vl_lt (da.take k)
    have b2 := vl_lt (db.take k)
    have n1 := vl_nonneg (da.take k)
    have n2 := vl_nonneg (db.take k)
    rw [List.length_take, Nat.min_eq_left (by omega)] at b1 b2
    have hp := wpw_pos k
    rw [v1, v2, e]
    have c1 : (0 : Int) ≤ (k : Int) ∧ (k : Int) < (a.length : Int) := by omega
    have c2 : (0 : Int) ≤ (k : Int) ∧ (k : Int) < (b.length : Int) := by omega
    have step : ∀ r, (if x < y then exO (Xb_cmpDigits_0a (-1)) else if x > y then exO (Xb_cmpDigits_0a 1) else Rb_cmpDigits_0 (Tb_cmpDigits_0a a.length (encI a) b.length (encI b) ((k : Int) - 1))) = some r → Rb_cmpDigits_0 (Tb_cmpDigits_0a a.length (encI a) b.length (encI b) k) = some r := by
      intro r hr
      refine Rb_cmpDigits_0a_of _ _ _ _ _ ?_
      unfold Bb_cmpDigits_0a
      rw [bif_pos (by omega), bif_pos c1]
      simp only [Int.toNat_natCast, Nat.mul_one, encI_get, hx, hy, Option.map_some, intC_int, bindO_val, wk]
      rw [bif_pos c2, bif_pos c1, bif_pos c2, bif_dec, bif_dec]
      exact hr
    rcases Int.lt_trichotomy x y with h | h | h
    · have : wpw k * (x + 1) ≤ wpw k * y := Int.mul_le_mul_of_nonneg_left (by omega) (by omega)
      rw [Int.mul_add, Int.mul_one] at this
      rw [if_neg (by omega)]
      unfold cmpV
      rw [if_pos (by omega)]
      refine step _ ?_
      rw [if_pos h]
      rfl
    · subst h
      have e1 : (vl (a.take k) + wpw k * x = vl (b.take k) + wpw k * x) ↔ vl (a.take k) = vl (b.take k) := by omega
      have e2 : cmpV (vl (a.take k) + wpw k * x) (vl (b.take k) + wpw k * x) = cmpV (vl (a.take k)) (vl (b.take k)) := by
        unfold cmpV
        by_cases h1 : vl (a.take k) < vl (b.take k)
        · rw [if_pos (by omega), if_pos h1]
        · rw [if_neg (by omega), if_neg h1]
          by_cases h2 : vl (b.take k) < vl (a.take k)
          · rw [if_pos (by omega), if_pos h2]
          · rw [if_neg (by omega), if_neg h2]
      rw [if_neg (Int.lt_irrefl x), if_neg (Int.lt_irrefl x)] at step
      simp only [e1, e2]
      split
      · rename_i hv
        rw [if_pos hv] at ih
        exact step _ ih
      · rename_i hv
        rw [if_neg hv] at ih
        exact step _ ih
    · have : wpw k * (y + 1) ≤ wpw k * x := Int.mul_le_mul_of_nonneg_left (by omega) (by omega)
      rw [Int.mul_add, Int.mul_one] at this
      rw [if_neg (by omega)]
      unfold cmpV
      rw [if_neg (by omega), if_pos (by omega)]
      refine step _ ?_
      rw [if_neg (by omega), if_pos h]
      rfl
theorem cmpDigits_is {a b : List Int} (ha : a.length ≤ 1000000) (hb : b.length ≤ 1000000) (da : Dg a) (db : Dg b) (ta : Top a) (tb : Top b) :
    Fb_cmpDigits [.list a.length (encI a), .list b.length (encI b)] = some (cmpV (vl a) (vl b)) := by
  refine Fb_cmpDigits_of _ _ _ _ ?_
  unfold tb_cmpDigits
  have na := vl_nonneg da
  have nb := vl_nonneg db
  have ea := dg_vl da ta
  have eb := dg_vl db tb
  rw [bif_ne, bif_dec]
  by_cases h : a.length = b.length
  · rw [if_pos (by omega), w64_in (by omega)]
    have hq := cmp_loop ha h da db a.length (Nat.le_refl _)
    have hb' : b.take a.length = b := by rw [h, List.take_length]
    rw [List.take_length, hb'] at hq
    by_cases hv : vl a = vl b
    · rw [if_pos hv] at hq
      have := Lb_cmpDigits_0b_of (y := ()) hq
      rw [this]
      simp [cmpV, hv]
    · rw [if_neg hv] at hq
      have := Lb_cmpDigits_0a_of hq
      rw [this]
      rfl
  · rw [if_neg (by omega)]
    unfold cmpV
    by_cases hlt : a.length < b.length
    · have := dg_len_mono (m := (vl a).toNat) (n := (vl b).toNat) (by rw [ea, eb]; exact hlt)
      rw [if_pos (by omega), if_pos (by omega)]
    · have := dg_len_mono (m := (vl b).toNat) (n := (vl a).toNat) (by rw [ea, eb]; omega)
      rw [if_neg (by omega), if_neg (by omega), if_pos (by omega)]
def dAt (l : List Int) (i : Nat) : Int := l[i]?.getD 0
theorem dAt_bd {l : List Int} (h : Dg l) (i : Nat) : 0 ≤ dAt l i ∧ dAt l i < 1000000000 := by
  unfold dAt
  cases hx : l[i]? with
  | none => simp
  | some x => simpa using h.get hx
theorem vl_drop (l : List Int) (i : Nat) : vl (l.drop i) = dAt l i + 1000000000 * vl (l.drop (i + 1)) := by
  unfold dAt
  by_cases h : i < l.length
  · obtain ⟨x, hx, hd⟩ := get_drop h
    rw [hd, hx]; rfl
  · rw [List.drop_eq_nil_of_le (by omega), List.drop_eq_nil_of_le (by omega), List.getElem?_eq_none (by omega)]
    rfl
theorem digit_is (l : List Int) (i : Nat) : Fb_digit [.list l.length (encI l), .int .i64 i] = some (dAt l i) := by
  refine Fb_digit_of _ _ _ ?_
  unfold tb_digit dAt
  by_cases h : i < l.length
  · obtain ⟨x, hx, _⟩ := get_drop h
    rw [bif_pos (by omega), bif_pos (by omega)]
    simp only [Int.toNat_natCast, Nat.mul_one, encI_get, hx, Option.map_some, intC_int, bindO_val]
    rfl
  · rw [bif_neg (by omega), List.getElem?_eq_none (by omega)]
    rfl
theorem add_loop {a b : List Int} (ha : a.length ≤ 100000) (hb : b.length ≤ 100000) (da : Dg a) (db : Dg b) : ∀ (n i : Nat) (c : Int) (acc : List Int), (0 ≤ c ∧ c ≤ 1) → acc.length = i →
    max a.length b.length + 1 ≤ i + n → (c = 0 ∨ i ≤ max a.length b.length) → ∃ out : List Int,
    Rb_addDigits_0 (Tb_addDigits_0b a.length (encI a) b.length (encI b) acc.length (encI acc) c i acc.length) = exO (Xb_addDigits_0b ((acc ++ out).length, encI (acc ++ out), (acc ++ out).length)) ∧
      Dg out ∧ vl out = vl (a.drop i) + vl (b.drop i) + c ∧ out.length ≤ n
  | 0, i, c, acc, hc, hi, hn, hm => by
    refine ⟨[], ?_, Dg.nil, ?_, Nat.le_refl _⟩
    · refine Rb_addDigits_0b_of _ _ _ _ _ _ _ _ _ ?_
      unfold Bb_addDigits_0b
      rw [bif_neg (by omega), bif_neg (by omega), bif_neg (by omega), List.append_nil]
      rfl
    · rw [List.drop_eq_nil_of_le (by omega), List.drop_eq_nil_of_le (by omega)]
      simp only [vl]; omega
  | n + 1, i, c, acc, hc, hi, hn, hm => by
    by_cases hs : i < a.length ∨ i < b.length ∨ c > 0
    · have ba := dAt_bd da i
      have bb := dAt_bd db i
      have w1 : w64 (dAt a i + dAt b i) = dAt a i + dAt b i := w64_in (by omega)
      have w2 : w64 (dAt a i + dAt b i + c) = dAt a i + dAt b i + c := w64_in (by omega)
      have wi : w64 ((i : Int) + 1) = ((i + 1 : Nat) : Int) := by rw [w64_in (by omega)]; omega
      have wd : w64 ((dAt a i + dAt b i + c).tdiv 1000000000) = (dAt a i + dAt b i + c) / 1000000000 := by
        rw [Int.tdiv_eq_ediv_of_nonneg (by omega), w64_in (by omega)]
      have wm : (dAt a i + dAt b i + c).tmod 1000000000 = (dAt a i + dAt b i + c) % 1000000000 := Int.tmod_eq_emod_of_nonneg (by omega)
      obtain ⟨out, h1, h2, h3, h4⟩ := add_loop ha hb da db n (i + 1) ((dAt a i + dAt b i + c) / 1000000000) (acc ++ [(dAt a i + dAt b i + c) % 1000000000]) (by omega) (by simp; omega) (by omega) (by
        by_cases hh : i < a.length ∨ i < b.length
        · right; omega
        · left
          have e1 : dAt a i = 0 := by unfold dAt; rw [List.getElem?_eq_none (by omega)]; rfl
          have e2 : dAt b i = 0 := by unfold dAt; rw [List.getElem?_eq_none (by omega)]; rfl
          omega)
      refine ⟨(dAt a i + dAt b i + c) % 1000000000 :: out, ?_, Dg.cons (by omega) (by omega) h2, ?_, by simp; omega⟩
      · refine Rb_addDigits_0b_of _ _ _ _ _ _ _ _ _ ?_
        unfold Bb_addDigits_0b
        simp only [digit_is, bindO_val, w1, w2, wi, wd, wm]
        have hbg : acc.length + 1 ≤ big := by unfold big; omega
        simp only [List.append_assoc, List.singleton_append, List.length_append, List.length_cons, List.length_nil, Nat.zero_add, encI_app] at h1 ⊢
        have hx : ∀ {β : Type} (u v : β), (bif decide (True ∧ acc.length + 1 ≤ big) then u else v) = u := fun u v => bif_pos ⟨trivial, hbg⟩
        by_cases k1 : i < a.length
        · rw [bif_pos (by omega), hx]
          exact h1
        · rw [bif_neg (by omega)]
          by_cases k2 : i < b.length
          · rw [bif_pos (by omega), hx]
            exact h1
          · rw [bif_neg (by omega), bif_pos (by omega), hx]
            exact h1
      · have q1 := vl_drop a i
        have q2 := vl_drop b i
        simp only [vl, h3]
        omega
    · refine ⟨[], ?_, Dg.nil, ?_, by simp⟩
      · refine Rb_addDigits_0b_of _ _ _ _ _ _ _ _ _ ?_
        unfold Bb_addDigits_0b
        rw [bif_neg (by omega), bif_neg (by omega), bif_neg (by omega), List.append_nil]
        rfl
      · rw [List.drop_eq_nil_of_le (by omega), List.drop_eq_nil_of_le (by omega)]
        simp only [vl]; omega
end Gv

/- Numbers of any size: sums, differences, products. -/
namespace Gv
open Go
set_option maxRecDepth 100000
theorem addDigits_is {a b : List Int} (ha : a.length ≤ 100000) (hb : b.length ≤ 100000) (da : Dg a) (db : Dg b) :
    ∃ out : List Int, Fb_addDigits [.list a.length (encI a), .list b.length (encI b)] = some (out.length, encI out) ∧ Dg out ∧ vl out = vl a + vl b ∧ out.length ≤ max a.length b.length + 1 := by
  by_cases h0 : a.length = 0 ∧ b.length = 0
  · have ea := List.eq_nil_of_length_eq_zero h0.1
    have eb := List.eq_nil_of_length_eq_zero h0.2
    subst ea
    subst eb
    refine ⟨[], ?_, Dg.nil, rfl, by simp⟩
    refine Fb_addDigits_of _ _ _ _ ?_
    unfold tb_addDigits
    have hq : Rb_addDigits_0 (Tb_addDigits_0a 0 [] 0 []) = exO (Xb_addDigits_0a ()) := by
      refine Rb_addDigits_0a_of _ _ _ _ ?_
      unfold Bb_addDigits_0a
      rfl
    have := Lb_addDigits_0a_of (y := ()) hq
    have this : Lb_addDigits_0 (Tb_addDigits_0a ([] : List Int).length (encI []) ([] : List Int).length (encI [])) = _ := this
    rw [this]
    rfl
  · have ba := dAt_bd da 0
    have bb := dAt_bd db 0
    have w1 : w64 (dAt a 0 + dAt b 0) = dAt a 0 + dAt b 0 := w64_in (by omega)
    have w2 : w64 (dAt a 0 + dAt b 0 + 0) = dAt a 0 + dAt b 0 := by rw [Int.add_zero, w1]
    have wd : w64 ((dAt a 0 + dAt b 0).tdiv 1000000000) = (dAt a 0 + dAt b 0) / 1000000000 := by
      rw [Int.tdiv_eq_ediv_of_nonneg (by omega), w64_in (by omega)]
    have wm : (dAt a 0 + dAt b 0).tmod 1000000000 = (dAt a 0 + dAt b 0) % 1000000000 := Int.tmod_eq_emod_of_nonneg (by omega)
    have ga := digit_is a 0
    have gb := digit_is b 0
    obtain ⟨out, h1, h2, h3, h4⟩ := add_loop ha hb da db (max a.length b.length) 1 ((dAt a 0 + dAt b 0) / 1000000000) [(dAt a 0 + dAt b 0) % 1000000000] (by omega) (by simp) (by omega) (by right; omega)
    have q1 : vl (a.drop 0) = dAt a 0 + 1000000000 * vl (a.drop 1) := vl_drop a 0
    have q2 : vl (b.drop 0) = dAt b 0 + 1000000000 * vl (b.drop 1) := vl_drop b 0
    rw [List.drop_zero] at q1 q2
    refine ⟨(dAt a 0 + dAt b 0) % 1000000000 :: out, ?_, Dg.cons (by omega) (by omega) h2, ?_, by simp; omega⟩
    · refine Fb_addDigits_of _ _ _ _ ?_
      unfold tb_addDigits
      have hq : Rb_addDigits_0 (Tb_addDigits_0a a.length (encI a) b.length (encI b)) = exO (Xb_addDigits_0b (((dAt a 0 + dAt b 0) % 1000000000 :: out).length, encI ((dAt a 0 + dAt b 0) % 1000000000 :: out), ((dAt a 0 + dAt b 0) % 1000000000 :: out).length)) := by
        refine Rb_addDigits_0a_of _ _ _ _ ?_
        unfold Bb_addDigits_0a
        have ga : Fn env _ _ [.list a.length (encI a), .int .i64 0] = _ := ga
        have gb : Fn env _ _ [.list b.length (encI b), .int .i64 0] = _ := gb
        simp only [ga, gb, bindO_val, w1, w2, wd, wm]
        by_cases k1 : 0 < a.length
        · rw [bif_pos (by omega)]
          exact h1
        · rw [bif_neg (by omega), bif_pos (by omega)]
          exact h1
      have := Lb_addDigits_0b_of hq
      rw [this]
      simp only [bindO_val, Sum.elim_inr]
      rw [bif_pos (by first | rfl | trivial)]
    · simp only [vl, h3]
      omega
theorem sub_loop {a b : List Int} (ha : a.length ≤ 100000) (hb : b.length ≤ a.length) (da : Dg a) (db : Dg b) : ∀ (n i : Nat) (c : Int) (acc : List Int), (0 ≤ c ∧ c ≤ 1) → acc.length = i →
    i + n = a.length → ∃ (out : List Int) (c' : Int),
    Rb_subDigits_0 (Tb_subDigits_0b a.length (encI a) b.length (encI b) acc.length (encI acc) c i acc.length) = exO (Xb_subDigits_0b ((acc ++ out).length, encI (acc ++ out), (acc ++ out).length)) ∧
      Dg out ∧ (0 ≤ c' ∧ c' ≤ 1) ∧ vl out + vl (b.drop i) + c = vl (a.drop i) + c' * wpw n ∧ out.length = n
  | 0, i, c, acc, hc, hi, hn => by
    refine ⟨[], c, ?_, Dg.nil, hc, ?_, rfl⟩
    · refine Rb_subDigits_0b_of _ _ _ _ _ _ _ _ _ ?_
      unfold Bb_subDigits_0b
      rw [bif_neg (by omega), List.append_nil]
      rfl
    · rw [List.drop_eq_nil_of_le (by omega), List.drop_eq_nil_of_le (by omega)]
      simp only [vl, wpw]; omega
  | n + 1, i, c, acc, hc, hi, hn => by
    obtain ⟨x, hx, _⟩ := get_drop (l := a) (i := i) (by omega)
    have ex : dAt a i = x := by unfold dAt; rw [hx]; rfl
    have ba := dAt_bd da i
    have bb := dAt_bd db i
    rw [ex] at ba
    have w1 : w64 (x - dAt b i) = x - dAt b i := w64_in (by omega)
    have w2 : w64 (x - dAt b i - c) = x - dAt b i - c := w64_in (by omega)
    have w3 : w64 (x - dAt b i - c + 1000000000) = x - dAt b i - c + 1000000000 := w64_in (by omega)
    have wi : w64 ((i : Int) + 1) = ((i + 1 : Nat) : Int) := by rw [w64_in (by omega)]; omega
    have q1 := vl_drop a i
    have q2 := vl_drop b i
    rw [ex] at q1
    have hbg : acc.length + 1 ≤ big := by unfold big; omega
    have hxx : ∀ {β : Type} (u v : β), (bif decide (True ∧ acc.length + 1 ≤ big) then u else v) = u := fun u v => bif_pos ⟨trivial, hbg⟩
    by_cases hs : x - dAt b i - c < 0
    · obtain ⟨out, c', h1, h2, h3, h4, h5⟩ := sub_loop ha hb da db n (i + 1) 1 (acc ++ [x - dAt b i - c + 1000000000]) (by omega) (by simp; omega) (by omega)
      refine ⟨(x - dAt b i - c + 1000000000) :: out, c', ?_, Dg.cons (by omega) (by omega) h2, h3, ?_, by simp; omega⟩
      · refine Rb_subDigits_0b_of _ _ _ _ _ _ _ _ _ ?_
        unfold Bb_subDigits_0b
        simp only [List.append_assoc, List.singleton_append, List.length_append, List.length_cons, List.length_nil, Nat.zero_add, encI_app] at h1 ⊢
        rw [bif_pos (by omega), bif_pos (by omega)]
        simp only [Int.toNat_natCast, Nat.mul_one, encI_get, hx, Option.map_some, intC_int, digit_is, bindO_val, w1, w2, w3, wi]
        rw [bif_pos hs, hxx]
        exact h1
      · simp only [vl, wpw]
        have : c' * (1000000000 * wpw n) = 1000000000 * (c' * wpw n) := by grind
        omega
    · obtain ⟨out, c', h1, h2, h3, h4, h5⟩ := sub_loop ha hb da db n (i + 1) 0 (acc ++ [x - dAt b i - c]) (by omega) (by simp; omega) (by omega)
      refine ⟨(x - dAt b i - c) :: out, c', ?_, Dg.cons (by omega) (by omega) h2, h3, ?_, by simp; omega⟩
      · refine Rb_subDigits_0b_of _ _ _ _ _ _ _ _ _ ?_
        unfold Bb_subDigits_0b
        simp only [List.append_assoc, List.singleton_append, List.length_append, List.length_cons, List.length_nil, Nat.zero_add, encI_app] at h1 ⊢
        rw [bif_pos (by omega), bif_pos (by omega)]
        simp only [Int.toNat_natCast, Nat.mul_one, encI_get, hx, Option.map_some, intC_int, digit_is, bindO_val, w1, w2, w3, wi]
        rw [bif_neg hs, hxx]
        exact h1
      · simp only [vl, wpw]
        have : c' * (1000000000 * wpw n) = 1000000000 * (c' * wpw n) := by grind
        omega
theorem subDigits_is {a b : List Int} (ha : a.length ≤ 100000) (hb : b.length ≤ a.length) (da : Dg a) (db : Dg b) (hv : vl b ≤ vl a) :
    Fb_subDigits [.list a.length (encI a), .list b.length (encI b)] = some ((dg (vl a - vl b).toNat).length, encI (dg (vl a - vl b).toNat)) := by
  refine Fb_subDigits_of _ _ _ _ ?_
  unfold tb_subDigits
  by_cases h0 : a.length = 0
  · have ea := List.eq_nil_of_length_eq_zero h0
    have eb := List.eq_nil_of_length_eq_zero (l := b) (by omega)
    subst ea
    subst eb
    have hq : Rb_subDigits_0 (Tb_subDigits_0a 0 [] 0 []) = exO (Xb_subDigits_0a ()) := by
      refine Rb_subDigits_0a_of _ _ _ _ ?_
      unfold Bb_subDigits_0a
      rfl
    have := Lb_subDigits_0a_of (y := ()) hq
    have this : Lb_subDigits_0 (Tb_subDigits_0a ([] : List Int).length (encI []) ([] : List Int).length (encI [])) = _ := this
    have ht := trimmed_is (l := []) (by simp)
    have ht : Fb_trimmed [.list 0 []] = _ := ht
    rw [this]
    simp only [bindO_val, Sum.elim_inl, ht]
    have : (vl [] - vl []).toNat = 0 := rfl
    rw [this, dg_zero, trim_nil]
  · obtain ⟨x, hx, _⟩ := get_drop (l := a) (i := 0) (by omega)
    have ex : dAt a 0 = x := by unfold dAt; rw [hx]; rfl
    have ba := dAt_bd da 0
    have bb := dAt_bd db 0
    rw [ex] at ba
    have w1 : w64 (x - dAt b 0) = x - dAt b 0 := w64_in (by omega)
    have w2 : w64 (x - dAt b 0 - 0) = x - dAt b 0 := by rw [Int.sub_zero, w1]
    have w3 : w64 (x - dAt b 0 + 1000000000) = x - dAt b 0 + 1000000000 := w64_in (by omega)
    have q1 : vl (a.drop 0) = dAt a 0 + 1000000000 * vl (a.drop 1) := vl_drop a 0
    have q2 : vl (b.drop 0) = dAt b 0 + 1000000000 * vl (b.drop 1) := vl_drop b 0
    rw [ex, List.drop_zero] at q1
    rw [List.drop_zero] at q2
    have gb := digit_is b 0
    have gb : Fn env _ _ [.list b.length (encI b), .int .i64 0] = _ := gb
    have key : ∃ (out : List Int) (c' : Int), Rb_subDigits_0 (Tb_subDigits_0a a.length (encI a) b.length (encI b)) = exO (Xb_subDigits_0b (out.length, encI out, out.length)) ∧
        Dg out ∧ (0 ≤ c' ∧ c' ≤ 1) ∧ vl out + vl b = vl a + c' * wpw a.length ∧ out.length = a.length := by
      by_cases hs : x - dAt b 0 < 0
      · obtain ⟨out, c', h1, h2, h3, h4, h5⟩ := sub_loop ha hb da db (a.length - 1) 1 1 [x - dAt b 0 + 1000000000] (by omega) (by simp) (by omega)
        refine ⟨(x - dAt b 0 + 1000000000) :: out, c', ?_, Dg.cons (by omega) (by omega) h2, h3, ?_, by simp; omega⟩
        · refine Rb_subDigits_0a_of _ _ _ _ ?_
          unfold Bb_subDigits_0a
          rw [bif_pos (by omega), bif_pos (by omega)]
          simp only [encI_get, hx, Option.map_some, intC_int, gb, bindO_val, w1, w2, w3]
          rw [bif_pos hs]
          exact h1
        · rw [show a.length = (a.length - 1) + 1 by omega]
          simp only [vl, wpw]
          have : c' * (1000000000 * wpw (a.length - 1)) = 1000000000 * (c' * wpw (a.length - 1)) := by grind
          omega
      · obtain ⟨out, c', h1, h2, h3, h4, h5⟩ := sub_loop ha hb da db (a.length - 1) 1 0 [x - dAt b 0] (by omega) (by simp) (by omega)
        refine ⟨(x - dAt b 0) :: out, c', ?_, Dg.cons (by omega) (by omega) h2, h3, ?_, by simp; omega⟩
        · refine Rb_subDigits_0a_of _ _ _ _ ?_
          unfold Bb_subDigits_0a
          rw [bif_pos (by omega), bif_pos (by omega)]
          simp only [encI_get, hx, Option.map_some, intC_int, gb, bindO_val, w1, w2, w3]
          rw [bif_neg hs]
          exact h1
        · rw [show a.length = (a.length - 1) + 1 by omega]
          simp only [vl, wpw]
          have : c' * (1000000000 * wpw (a.length - 1)) = 1000000000 * (c' * wpw (a.length - 1)) := by grind
          omega
    obtain ⟨out, c', h1, h2, h3, h4, h5⟩ := key
    have := Lb_subDigits_0b_of h1
    have ht := trimmed_is (l := out) (by omega)
    rw [this]
    simp only [bindO_val, Sum.elim_inr, ht]
    have hlt := vl_lt h2
    rw [h5] at hlt
    have hc : c' = 0 := by
      rcases (by omega : c' = 0 ∨ c' = 1) with h | h
      · exact h
      · subst h; omega
    subst hc
    rw [trim_dg h2, show vl out = vl a - vl b by omega]
theorem WideNeg_is (v : Int) : Fb_WideNeg [wP v] = some (wR (-v)) := by
  refine Fb_WideNeg_of _ _ _ ?_
  unfold tb_WideNeg wR
  have : v.sign = -1 ∨ v.sign = 0 ∨ v.sign = 1 := by
    rcases Int.lt_trichotomy v 0 with h | h | h
    · left; exact Int.sign_eq_neg_one_of_neg h
    · right; left; rw [h]; rfl
    · right; right; exact Int.sign_eq_one_of_pos h
  rw [w64_in (by omega), dgs_neg, Int.sign_neg]
  simp
def Wl (k : Nat) (v : Int) : Prop := (dgs v).length ≤ k
theorem Wl.lt {k : Nat} {v : Int} (h : v.natAbs < wpw k) : Wl k v := dg_len_lt h
theorem wpw_mono {a b : Nat} (h : a ≤ b) : wpw a ≤ wpw b := by
  obtain ⟨c, rfl⟩ := Nat.exists_eq_add_of_le h
  rw [wpw_add]
  have := wpw_pos a
  have := wpw_pos c
  have : wpw a * 1 ≤ wpw a * wpw c := Int.mul_le_mul_of_nonneg_left (by omega) (by omega)
  omega
theorem Wl.abs {k : Nat} {v : Int} (h : Wl k v) : v.natAbs < wpw k := by
  have h1 := vl_lt (dgs_Dg v)
  have h2 := wpw_mono h
  rw [dgs_vl] at h1
  omega
theorem Wl.mono {k m : Nat} {v : Int} (h : Wl k v) (hk : k ≤ m) : Wl m v := Nat.le_trans h hk
theorem Wl.neg {k : Nat} {v : Int} (h : Wl k v) : Wl k (-v) := by unfold Wl; rw [dgs_neg]; exact h
theorem Wl.add {k : Nat} {u v : Int} (h : Wl k u) (h' : Wl k v) : Wl (k + 1) (u + v) := by
  have a := h.abs
  have b := h'.abs
  refine Wl.lt ?_
  simp only [wpw]
  omega
theorem Wl.sub {k : Nat} {u v : Int} (h : Wl k u) (h' : Wl k v) : Wl (k + 1) (u - v) := by
  rw [Int.sub_eq_add_neg]; exact h.add h'.neg
theorem Wl.mul {k m : Nat} {u v : Int} (h : Wl k u) (h' : Wl m v) : Wl (k + m) (u * v) := by
  have a := h.abs
  have b := h'.abs
  refine Wl.lt ?_
  rw [Int.natAbs_mul, wpw_add]
  have := wpw_pos k
  have := wpw_pos m
  rw [Int.natCast_mul]
  have : (u.natAbs : Int) * v.natAbs ≤ u.natAbs * wpw m := Int.mul_le_mul_of_nonneg_left (by omega) (by omega)
  have : (u.natAbs : Int) * wpw m < wpw k * wpw m := Int.mul_lt_mul_of_pos_right a (by omega)
  omega
theorem Wl.small {v : Int} (h : -9223372036854775808 ≤ v ∧ v ≤ 9223372036854775807) : Wl 3 v := len3 h
theorem WideAdd_is {u v : Int} (hu : Wl 100000 u) (hv : Wl 100000 v) : Fb_WideAdd [wP u, wP v] = some (wR (u + v)) := by
  refine Fb_WideAdd_of u.sign (dgs u).length (encI (dgs u)) v.sign (dgs v).length (encI (dgs v)) ?_
  unfold tb_WideAdd
  unfold Wl at hu hv
  have au := dgs_vl u
  have av := dgs_vl v
  rw [bif_eq, bif_eq, bif_eq]
  by_cases u0 : u = 0
  · subst u0
    rw [if_pos (show Int.sign 0 = 0 from rfl), Int.zero_add]
    rfl
  · have su : u.sign = 1 ∧ 0 < u ∨ u.sign = -1 ∧ u < 0 := by
      rcases Int.lt_trichotomy u 0 with h | h | h
      · right; exact ⟨Int.sign_eq_neg_one_of_neg h, h⟩
      · omega
      · left; exact ⟨Int.sign_eq_one_of_pos h, h⟩
    rw [if_neg (by omega)]
    by_cases v0 : v = 0
    · subst v0
      rw [if_pos (show Int.sign 0 = 0 from rfl), Int.add_zero]
      rfl
    · have sv : v.sign = 1 ∧ 0 < v ∨ v.sign = -1 ∧ v < 0 := by
        rcases Int.lt_trichotomy v 0 with h | h | h
        · right; exact ⟨Int.sign_eq_neg_one_of_neg h, h⟩
        · omega
        · left; exact ⟨Int.sign_eq_one_of_pos h, h⟩
      rw [if_neg (by omega)]
      by_cases hs : u.sign = v.sign
      · rw [if_pos hs]
        obtain ⟨out, h1, h2, h3, h4⟩ := addDigits_is hu hv (dgs_Dg u) (dgs_Dg v)
        have hw := wideOf_is (s := u.sign) (l := out) (by omega) h2 (by omega)
        simp only [h1, bindO_val, hw, wR_eta]
        congr 2
        rw [h3, au, av]
        rcases su with ⟨s, _⟩ | ⟨s, _⟩ <;> rw [s] <;> omega
      · rw [if_neg hs]
        have hc := cmpDigits_is (a := dgs u) (b := dgs v) (by omega) (by omega) (dgs_Dg u) (dgs_Dg v) (dgs_top u) (dgs_top v)
        simp only [hc, bindO_val]
        rw [bif_eq, bif_dec, au, av]
        unfold cmpV
        by_cases c1 : (u.natAbs : Int) < v.natAbs
        · have hl : (dgs u).length ≤ (dgs v).length := by
            rcases Nat.lt_or_ge (dgs v).length (dgs u).length with h | h
            · have := dg_len_mono h; omega
            · exact h
          have hsub := subDigits_is hv hl (dgs_Dg v) (dgs_Dg u) (by omega)
          have hD : dg (vl (dgs v) - vl (dgs u)).toNat = dgs ((v.natAbs : Int) - u.natAbs) := by
            unfold dgs; rw [vl_dg, vl_dg]; congr 1; omega
          rw [hD] at hsub
          have hln : (dgs ((v.natAbs : Int) - u.natAbs)).length ≤ 1000000 := by
            rw [← hD]
            have := dg_len_mono (m := (dgs v).length) (n := (dgs v).length)
            refine Nat.le_trans (dg_len_lt (k := 100000) ?_) (by omega)
            have := Wl.abs (v := v) (k := 100000) hv
            omega
          have hw := wideOf_is (s := v.sign) (l := dgs ((v.natAbs : Int) - u.natAbs)) hln (dgs_Dg _) (by omega)
          rw [if_pos c1, if_neg (by omega), if_neg (by omega)]
          simp only [hsub, bindO_val, hw, wR_eta]
          congr 2
          rw [dgs_vl]
          rcases sv with ⟨s, _⟩ | ⟨s, _⟩ <;> rw [s] <;> omega
        · by_cases c2 : (v.natAbs : Int) < u.natAbs
          · have hl : (dgs v).length ≤ (dgs u).length := by
              rcases Nat.lt_or_ge (dgs u).length (dgs v).length with h | h
              · have := dg_len_mono h; omega
              · exact h
            have hsub := subDigits_is hu hl (dgs_Dg u) (dgs_Dg v) (by omega)
            have hD : dg (vl (dgs u) - vl (dgs v)).toNat = dgs ((u.natAbs : Int) - v.natAbs) := by
              unfold dgs; rw [vl_dg, vl_dg]; congr 1; omega
            rw [hD] at hsub
            have hln : (dgs ((u.natAbs : Int) - v.natAbs)).length ≤ 1000000 := by
              rw [← hD]
              refine Nat.le_trans (dg_len_lt (k := 100000) ?_) (by omega)
              have := Wl.abs (v := u) (k := 100000) hu
              omega
            have hw := wideOf_is (s := u.sign) (l := dgs ((u.natAbs : Int) - v.natAbs)) hln (dgs_Dg _) (by omega)
            rw [if_neg c1, if_pos c2, if_neg (by omega), if_pos (by omega)]
            simp only [hsub, bindO_val, hw, wR_eta]
            congr 2
            rw [dgs_vl]
            rcases su with ⟨s, _⟩ | ⟨s, _⟩ <;> rw [s] <;> omega
          · rw [if_neg c1, if_neg c2, if_pos rfl, show u + v = 0 by omega, wR_zero]
theorem WideSub_is {u v : Int} (hu : Wl 100000 u) (hv : Wl 100000 v) : Fb_WideSub [wP u, wP v] = some (wR (u - v)) := by
  refine Fb_WideSub_of u.sign (dgs u).length (encI (dgs u)) v.sign (dgs v).length (encI (dgs v)) ?_
  unfold tb_WideSub
  have hn := WideNeg_is v
  have ha := WideAdd_is hu hv.neg
  unfold wP at hn
  simp only [hn, bindO_val, wP_fold]
  have ha : Fn env _ _ [.agg [.int .i64 u.sign, .list (dgs u).length (encI (dgs u))], wP (-v)] = _ := ha
  simp only [ha, bindO_val, wR_eta]
  rfl
theorem WideCmp_is {u v : Int} (hu : Wl 100000 u) (hv : Wl 100000 v) : Fb_WideCmp [wP u, wP v] = some (u - v).sign := by
  refine Fb_WideCmp_of u.sign (dgs u).length (encI (dgs u)) v.sign (dgs v).length (encI (dgs v)) ?_
  unfold tb_WideCmp
  have hs := WideSub_is hu hv
  unfold wP at hs
  simp only [hs, bindO_val]
  rfl
theorem WideSign_is (v : Int) : Fb_WideSign [wP v] = some v.sign := by
  refine Fb_WideSign_of v.sign (dgs v).length (encI (dgs v)) ?_
  rfl
theorem wideSize_is (v : Int) : Fb_wideSize [wP v] = some (wR v.natAbs) := by
  refine Fb_wideSize_of v.sign (dgs v).length (encI (dgs v)) ?_
  unfold tb_wideSize
  have hn := WideNeg_is v
  unfold wP at hn
  by_cases h : v < 0
  · rw [bif_pos (by rw [Int.sign_eq_neg_one_of_neg h]; decide)]
    simp only [hn, bindO_val, wR_eta]
    rw [show (v.natAbs : Int) = -v by omega]
  · rw [bif_neg (by
      rcases Int.lt_or_eq_of_le (show 0 ≤ v by omega) with h | h
      · rw [Int.sign_eq_one_of_pos h]; decide
      · rw [← h]; decide), show (v.natAbs : Int) = v by omega]
    rfl
end Gv

/- Numbers of any size: products. -/
namespace Gv
open Go
set_option maxRecDepth 100000
theorem dAt_get {l : List Int} {i : Nat} (h : i < l.length) : l[i]? = some (dAt l i) := by
  unfold dAt
  rw [List.getElem?_eq_getElem h]; rfl
theorem dAt_set_ne {l : List Int} {i j : Nat} (h : i ≠ j) (v : Int) : dAt (l.set i v) j = dAt l j := by
  unfold dAt
  rw [List.getElem?_set_ne h]
theorem digit_prod {x y : Int} (hx : 0 ≤ x ∧ x < 1000000000) (hy : 0 ≤ y ∧ y < 1000000000) : 0 ≤ x * y ∧ x * y ≤ 999999998000000001 := by
  have h1 : x * y ≤ 999999999 * y := Int.mul_le_mul_of_nonneg_right (by omega) hy.1
  exact ⟨Int.mul_nonneg hx.1 hy.1, by omega⟩
theorem mul_in {a b : List Int} (ha : a.length ≤ 40000) (hb : b.length ≤ 40000) (da : Dg a) (db : Dg b) (su sv : Int) {i : Nat} (hi : i < a.length) : ∀ (n k : Nat), k + n = b.length → ∀ (c : Int) (o : List Int), 0 ≤ c ∧ c < 1000000000 → Dg o → o.length = a.length + b.length + 1 →
    ∃ (o' : List Int) (c' : Int), Rb_WideMul_2 (Tb_WideMul_2a o.length i c k su a.length (encI a) sv b.length (encI b) (encI o)) =
        exO (Xb_WideMul_2a (o.length, i, c', su, a.length, encI a, sv, b.length, encI b, encI o')) ∧
      Dg o' ∧ o'.length = a.length + b.length + 1 ∧ (0 ≤ c' ∧ c' < 1000000000) ∧ (∀ j, i + b.length ≤ j → dAt o' j = dAt o j) ∧
      vl o' + c' * wpw (i + b.length) = vl o + c * wpw (i + k) + dAt a i * wpw (i + k) * vl (b.drop k)
  | 0, k, hk, c, o, hc, ho, hl => by
    refine ⟨o, c, ?_, ho, hl, hc, fun j _ => rfl, ?_⟩
    · refine Rb_WideMul_2a_of _ _ _ _ _ _ _ _ _ _ _ ?_
      unfold Bb_WideMul_2a
      rw [bif_neg (by omega)]
      rfl
    · have e : k = b.length := by omega
      subst e
      rw [List.drop_eq_nil_of_le (Nat.le_refl _)]
      simp [vl]
  | n + 1, k, hk, c, o, hc, ho, hl => by
    have gx := dAt_get (l := a) hi
    have gy := dAt_get (l := b) (i := k) (by omega)
    have go := dAt_get (l := o) (i := i + k) (by omega)
    have bx := dAt_bd da i
    have by' := dAt_bd db k
    have bo := dAt_bd ho (i + k)
    have hp := digit_prod bx by'
    have wik : w64 ((i : Int) + k) = ((i + k : Nat) : Int) := by rw [w64_in (by omega)]; omega
    have wk : w64 ((k : Int) + 1) = ((k + 1 : Nat) : Int) := by rw [w64_in (by omega)]; omega
    have w1 : w64 (dAt a i * dAt b k) = dAt a i * dAt b k := w64_in (by omega)
    have w2 : w64 (dAt o (i + k) + dAt a i * dAt b k) = dAt o (i + k) + dAt a i * dAt b k := w64_in (by omega)
    have w3 : w64 (dAt o (i + k) + dAt a i * dAt b k + c) = dAt o (i + k) + dAt a i * dAt b k + c := w64_in (by omega)
    have wd : w64 ((dAt o (i + k) + dAt a i * dAt b k + c).tdiv 1000000000) = (dAt o (i + k) + dAt a i * dAt b k + c) / 1000000000 := by
      rw [Int.tdiv_eq_ediv_of_nonneg (by omega), w64_in (by omega)]
    have wm : (dAt o (i + k) + dAt a i * dAt b k + c).tmod 1000000000 = (dAt o (i + k) + dAt a i * dAt b k + c) % 1000000000 := Int.tmod_eq_emod_of_nonneg (by omega)
    have hdrop := vl_drop b k
    generalize hs : dAt o (i + k) + dAt a i * dAt b k + c = s at *
    have hset : (o.set (i + k) (s % 1000000000)).length = o.length := List.length_set
    obtain ⟨o', c', h1, h2, h3, h4, h5, h6⟩ := mul_in ha hb da db su sv hi n (k + 1) (by omega) (s / 1000000000) (o.set (i + k) (s % 1000000000)) (by omega) (ho.set (by omega) (by omega)) (by omega)
    refine ⟨o', c', ?_, h2, h3, h4, fun j hj => ?_, ?_⟩
    · refine Rb_WideMul_2a_of _ _ _ _ _ _ _ _ _ _ _ ?_
      unfold Bb_WideMul_2a
      rw [hset] at h1
      have hov := overO_set o (i := i + k) (by omega) (s % 1000000000)
      rw [bif_pos (by omega)]
      simp only [wik]
      rw [bif_pos (by omega)]
      simp only [Int.toNat_natCast, Nat.mul_one, Nat.zero_add, encI_get, gx, gy, go, Option.map_some, intC_int, bindO_val, w1, w2, hs, w3, wd, wm, wk, hov]
      rw [bif_pos (by omega), bif_pos (by omega), bif_pos (by omega)]
      exact h1
    · rw [h5 j hj, dAt_set_ne (by omega)]
    · rw [h6, vl_set go, hdrop]
      have e1 : wpw (i + (k + 1)) = 1000000000 * wpw (i + k) := rfl
      have e2 : s = s % 1000000000 + 1000000000 * (s / 1000000000) := by omega
      rw [e1]
      generalize hr : s % 1000000000 = r at *
      generalize hq : s / 1000000000 = q at *
      clear h1 h5 h6 gx gy go wm wd w1 w2 w3
      grind
theorem mul_out {a b : List Int} (ha : a.length ≤ 40000) (hb : b.length ≤ 40000) (da : Dg a) (db : Dg b) (su sv : Int) : ∀ (n i : Nat), i + n = a.length → ∀ (o : List Int), Dg o → o.length = a.length + b.length + 1 → (∀ j, i + b.length ≤ j → dAt o j = 0) →
    ∃ (o' : List Int), Rb_WideMul_0 (Tb_WideMul_0a o.length i su a.length (encI a) sv b.length (encI b) (encI o)) =
        exO (Xb_WideMul_0a (o.length, su, a.length, encI a, sv, b.length, encI b, encI o')) ∧
      Dg o' ∧ o'.length = a.length + b.length + 1 ∧ vl o' = vl o + wpw i * vl (a.drop i) * vl b
  | 0, i, hi, o, ho, hl, hz => by
    refine ⟨o, ?_, ho, hl, ?_⟩
    · refine Rb_WideMul_0a_of _ _ _ _ _ _ _ _ _ ?_
      unfold Bb_WideMul_0a
      rw [bif_neg (by omega)]
      rfl
    · rw [List.drop_eq_nil_of_le (by omega)]
      simp [vl]
  | n + 1, i, hi, o, ho, hl, hz => by
    obtain ⟨o1, c', h1, h2, h3, h4, h5, h6⟩ := mul_in ha hb da db su sv (i := i) (by omega) b.length 0 (by omega) 0 o (by omega) ho hl
    have hL := Lb_WideMul_2a_of h1
    have hL : Lb_WideMul_2 (Tb_WideMul_2a o.length i 0 0 su a.length (encI a) sv b.length (encI b) (encI o)) = _ := hL
    have go := dAt_get (l := o1) (i := i + b.length) (by omega)
    have e0 : dAt o1 (i + b.length) = 0 := by rw [h5 _ (Nat.le_refl _), hz _ (Nat.le_refl _)]
    have wik : w64 ((i : Int) + b.length) = ((i + b.length : Nat) : Int) := by rw [w64_in (by omega)]; omega
    have wk : w64 ((i : Int) + 1) = ((i + 1 : Nat) : Int) := by rw [w64_in (by omega)]; omega
    rw [e0] at go
    have wc : w64 (0 + c') = c' := by rw [Int.zero_add]; exact w64_in (by omega)
    have hset : (o1.set (i + b.length) c').length = o1.length := List.length_set
    obtain ⟨o', k1, k2, k3, k4⟩ := mul_out ha hb da db su sv n (i + 1) (by omega) (o1.set (i + b.length) c') (h2.set h4.1 h4.2) (by omega) (fun j hj => by
      rw [dAt_set_ne (by omega), h5 j (by omega), hz j (by omega)])
    refine ⟨o', ?_, k2, k3, ?_⟩
    · refine Rb_WideMul_0a_of _ _ _ _ _ _ _ _ _ ?_
      unfold Bb_WideMul_0a
      have hov := overO_set o1 (i := i + b.length) (by omega) c'
      rw [hset, h3, ← hl] at k1
      rw [bif_pos (by omega)]
      simp only [hL, bindO_val, wik]
      rw [bif_pos (by omega)]
      simp only [Int.toNat_natCast, Nat.mul_one, Nat.zero_add, encI_get, go, Option.map_some, intC_int, bindO_val, wc, hov, wk]
      rw [bif_pos (by omega)]
      exact k1
    · rw [k4, vl_set go, vl_drop a i]
      have e1 : wpw (i + 1) = 1000000000 * wpw i := rfl
      rw [e1]
      rw [List.drop_zero, Nat.add_zero, Int.zero_mul, Int.add_zero] at h6
      clear k1 h5 hL h1 wc hset wik wk
      grind
theorem WideMul_is {u v : Int} (hu : Wl 40000 u) (hv : Wl 40000 v) : Fb_WideMul [wP u, wP v] = some (wR (u * v)) := by
  refine Fb_WideMul_of u.sign (dgs u).length (encI (dgs u)) v.sign (dgs v).length (encI (dgs v)) ?_
  unfold tb_WideMul
  unfold Wl at hu hv
  have w1 : w64 (((dgs u).length : Int) + (dgs v).length) = (((dgs u).length + (dgs v).length : Nat) : Int) := by rw [w64_in (by omega)]; omega
  have w2 : w64 ((((dgs u).length + (dgs v).length : Nat) : Int) + 1) = (((dgs u).length + (dgs v).length + 1 : Nat) : Int) := by rw [w64_in (by omega)]; omega
  simp only [w1, w2, Int.toNat_natCast]
  rw [bif_pos (by first | exact ⟨rfl, by omega, by unfold big; omega⟩ | exact ⟨trivial, by omega, by unfold big; omega⟩)]
  obtain ⟨o', h1, h2, h3, h4⟩ := mul_out hu hv (dgs_Dg u) (dgs_Dg v) u.sign v.sign (dgs u).length 0 (by omega) (List.replicate ((dgs u).length + (dgs v).length + 1) 0) (fun d hd => by
    have := List.eq_of_mem_replicate hd
    omega) (by simp) (fun j _ => by
    unfold dAt
    rw [List.getElem?_replicate]
    split <;> rfl)
  have hL := Lb_WideMul_0a_of h1
  rw [List.length_replicate, ← rep_I] at hL
  have hL : Lb_WideMul_0 (Tb_WideMul_0a ((dgs u).length + (dgs v).length + 1) 0 u.sign (dgs u).length (encI (dgs u)) v.sign (dgs v).length (encI (dgs v)) (rep [(PV.int .i64 (0 : Int))] ((dgs u).length + (dgs v).length + 1))) = _ := hL
  simp only [hL, bindO_val]
  rw [bif_pos (by rw [encI_len]; omega)]
  have ht : (encI o').take (((dgs u).length + (dgs v).length + 1) * 1) = encI o' := List.take_of_length_le (by rw [encI_len]; omega)
  have hval : vl o' = vl (dgs u) * vl (dgs v) := by
    rw [h4, vl_zeros fun d hd => List.eq_of_mem_replicate hd, List.drop_zero]
    simp [wpw]
  have hws : w64 (u.sign * v.sign) = u.sign * v.sign := by
    have := Int.sign_mul u v
    have h3 : (u * v).sign = -1 ∨ (u * v).sign = 0 ∨ (u * v).sign = 1 := by
      rcases Int.lt_trichotomy (u * v) 0 with h | h | h
      · left; exact Int.sign_eq_neg_one_of_neg h
      · right; left; rw [h]; rfl
      · right; right; exact Int.sign_eq_one_of_pos h
    rw [← this]
    exact w64_in (by omega)
  have hw := wideOf_is (s := (u * v).sign) (l := o') (by omega) h2 (by
    rcases Int.lt_trichotomy (u * v) 0 with h | h | h
    · right; left; exact Int.sign_eq_neg_one_of_neg h
    · right; right
      rw [hval, dgs_vl, dgs_vl, ← Int.natCast_mul, ← Int.natAbs_mul, h]; rfl
    · left; exact Int.sign_eq_one_of_pos h)
  rw [h3] at hw
  rw [List.drop_zero, ht, hws, ← Int.sign_mul]
  simp only [hw, bindO_val, wR_eta]
  congr 2
  rw [hval, dgs_vl, dgs_vl, ← Int.natCast_mul, ← Int.natAbs_mul, Int.sign_mul_natAbs]
end Gv

/- Numbers of any size: quotients, rounded down. -/
namespace Gv
open Go
set_option maxRecDepth 100000
theorem ediv_unique {a b q r : Int} (hb : 0 < b) (h : b * q + r = a) (h0 : 0 ≤ r) (h1 : r < b) : a / b = q ∧ a % b = r :=
  (Int.ediv_emod_unique hb).2 ⟨by omega, h0, h1⟩
theorem bound_is {b : Int} (hb : 0 < b) (hbl : Wl 30000 b) : Fb_wideOf [.int .i64 1, .list (dgs b).length (encI (dgs b))] = some (wR b) := by
  unfold Wl at hbl
  have := wideOf_is (s := 1) (l := dgs b) (by omega) (dgs_Dg b) (.inl rfl)
  rw [this, dgs_vl]
  congr 2
  omega
theorem find_loop {b : Int} (hb : 0 < b) (hbl : Wl 30000 b) {L : Nat} (hL : (dg L).length ≤ 30001) (n0 : Nat) (i su : Int) (n7 : Nat) (c8 : List PV) (sv : Int) (c12 : List PV) : ∀ (n : Nat) (lo hi : Int), hi - lo < n → 0 ≤ lo → hi < 1000000000 → lo ≤ (L : Int) / b → (L : Int) / b ≤ hi →
    Rb_WideFloor_2 (Tb_WideFloor_2a n0 (dg L).length (encI (dg L)) i lo hi su n7 c8 sv (dgs b).length (encI (dgs b)) c12) =
      exO (Xb_WideFloor_2a (n0, (dg L).length, encI (dg L), i, (L : Int) / b, su, n7, c8, sv, (dgs b).length, encI (dgs b), c12))
  | 0, lo, hi, hn, h0, h1, h2, h3 => by omega
  | n + 1, lo, hi, hn, h0, h1, h2, h3 => by
    refine Rb_WideFloor_2a_of _ _ _ _ _ _ _ _ _ _ _ _ _ ?_
    unfold Bb_WideFloor_2a
    by_cases hlt : lo < hi
    · have wm : w64 ((w64 (w64 (lo + hi) + 1)).tdiv 2) = (lo + hi + 1) / 2 := by
        rw [w64_in (n := lo + hi) (by omega), w64_in (n := lo + hi + 1) (by omega), Int.tdiv_eq_ediv_of_nonneg (by omega), w64_in (by omega)]
      generalize hm : (lo + hi + 1) / 2 = m at *
      have wm1 : w64 (m - 1) = m - 1 := w64_in (by omega)
      have hw := WideOf_is (n := m) (by omega)
      have hml : Wl 3 m := Wl.small (by omega)
      have hmul := WideMul_is (u := b) (v := m) (hbl.mono (by omega)) (hml.mono (by omega))
      have hpl : Wl (30000 + 3) (b * m) := hbl.mul hml
      have hpos : 0 ≤ b * m := Int.mul_nonneg (by omega) (by omega)
      have hc := cmpDigits_is (a := dgs (b * m)) (b := dg L) (by unfold Wl at hpl; omega) (by omega) (dgs_Dg _) (dg_Dg _) (dgs_top _) (dg_Top _)
      rw [dgs_vl, vl_dg] at hc
      have hc : Fn env _ _ [.list (wR (b * m)).2.1 (wR (b * m)).2.2, .list (dg L).length (encI (dg L))] = _ := hc
      have hk : (b * m ≤ L) ↔ m ≤ (L : Int) / b := by
        rw [Int.le_ediv_iff_mul_le hb, Int.mul_comm]
      rw [bif_pos (by omega)]
      simp only [bound_is hb hbl, bindO_val, wm, hw, wP_fold, hmul, hc, wm1]
      unfold cmpV
      by_cases hle : b * m ≤ L
      · rw [bif_pos (by split <;> (try split) <;> omega)]
        exact find_loop hb hbl hL n0 i su n7 c8 sv c12 n m hi (by omega) (by omega) h1 (hk.1 hle) h3
      · rw [bif_neg (by rw [if_neg (by omega), if_pos (by omega)]; decide)]
        have : ¬ m ≤ (L : Int) / b := fun h => hle (hk.2 h)
        exact find_loop hb hbl hL n0 i su n7 c8 sv c12 n lo (m - 1) (by omega) h0 (by omega) h2 (by omega)
    · rw [bif_neg (by omega), show lo = (L : Int) / b by omega]
      rfl
theorem find_b {b : Int} (hb : 0 < b) (hbl : Wl 30000 b) {L : Nat} (hL : (dg L).length ≤ 30001) (n0 : Nat) (i su : Int) (n7 : Nat) (c8 : List PV) (sv : Int) (c12 : List PV) (n11 : Nat) (hq : (L : Int) / b < 1000000000) :
    Rb_WideFloor_2 (Tb_WideFloor_2b n0 (dg L).length (encI (dg L)) i su n7 c8 sv (dgs b).length (encI (dgs b)) c12 n11) =
      exO (Xb_WideFloor_2a (n0, (dg L).length, encI (dg L), i, (L : Int) / b, su, n7, c8, sv, (dgs b).length, encI (dgs b), c12)) := by
  refine Rb_WideFloor_2b_of _ _ _ _ _ _ _ _ _ _ _ _ ?_
  unfold Bb_WideFloor_2b
  have h0 : 0 ≤ (L : Int) / b := Int.ediv_nonneg (by omega) (by omega)
  have hw := WideOf_is (n := 500000000) (by omega)
  have hml : Wl 3 500000000 := Wl.small (by omega)
  have hmul := WideMul_is (u := b) (v := 500000000) (hbl.mono (by omega)) (hml.mono (by omega))
  have hpl : Wl (30000 + 3) (b * 500000000) := hbl.mul hml
  have hc := cmpDigits_is (a := dgs (b * 500000000)) (b := dg L) (by unfold Wl at hpl; omega) (by omega) (dgs_Dg _) (dg_Dg _) (dgs_top _) (dg_Top _)
  rw [dgs_vl, vl_dg] at hc
  have hc : Fn env _ _ [.list (wR (b * 500000000)).2.1 (wR (b * 500000000)).2.2, .list (dg L).length (encI (dg L))] = _ := hc
  have hk : (b * 500000000 ≤ L) ↔ 500000000 ≤ (L : Int) / b := by
    rw [Int.le_ediv_iff_mul_le hb, Int.mul_comm]
  simp only [bound_is hb hbl, bindO_val, hw, wP_fold, hmul, hc]
  unfold cmpV
  by_cases hle : b * 500000000 ≤ L
  · rw [bif_pos (by split <;> (try split) <;> omega)]
    exact find_loop hb hbl hL n0 i su n7 c8 sv c12 1000000000 _ _ (by omega) (by omega) (by omega) (hk.1 hle) (by omega)
  · rw [bif_neg (by rw [if_neg (by omega), if_pos (by omega)]; decide)]
    have : ¬ 500000000 ≤ (L : Int) / b := fun h => hle (hk.2 h)
    exact find_loop hb hbl hL n0 i su n7 c8 sv c12 1000000000 _ _ (by omega) (by omega) (by omega) h0 (by omega)
theorem shift_dg {r : Nat} {x : Int} (hx : 0 ≤ x ∧ x < 1000000000) : trim (x :: dg r) = dg (x.toNat + 1000000000 * r) := by
  rw [trim_dg (Dg.cons hx.1 hx.2 (dg_Dg r))]
  simp only [vl, vl_dg]
  congr 1
  omega
theorem take_off {b : Int} (hb : 0 < b) (hbl : Wl 30000 b) {L : Nat} (hL : (dg L).length ≤ 30001) (hq : (L : Int) / b < 1000000000) :
    Fb_WideOf [.int .i64 ((L : Int) / b)] = some (wR ((L : Int) / b)) ∧
    Fb_WideMul [wP b, wP ((L : Int) / b)] = some (wR (b * ((L : Int) / b))) ∧
    Fb_subDigits [.list (dg L).length (encI (dg L)), .list (wR (b * ((L : Int) / b))).2.1 (wR (b * ((L : Int) / b))).2.2] = some ((dg ((L : Int) % b).toNat).length, encI (dg ((L : Int) % b).toNat)) := by
  have h0 : 0 ≤ (L : Int) / b := Int.ediv_nonneg (by omega) (by omega)
  have hw := WideOf_is (n := (L : Int) / b) (by omega)
  have hml : Wl 3 ((L : Int) / b) := Wl.small (by omega)
  have hmul := WideMul_is (u := b) (v := (L : Int) / b) (hbl.mono (by omega)) (hml.mono (by omega))
  have hpos : 0 ≤ b * ((L : Int) / b) := Int.mul_nonneg (by omega) h0
  have hE : b * ((L : Int) / b) + (L : Int) % b = L := Int.mul_ediv_add_emod _ _
  have hm0 := Int.emod_nonneg (L : Int) (show b ≠ 0 by omega)
  have hle : (dgs (b * ((L : Int) / b))).length ≤ (dg L).length := by
    rcases Nat.lt_or_ge (dg L).length (dgs (b * ((L : Int) / b))).length with h | h
    · have := dg_len_mono h; omega
    · exact h
  have hs := subDigits_is (a := dg L) (b := dgs (b * ((L : Int) / b))) (by omega) hle (dg_Dg _) (dgs_Dg _) (by rw [dgs_vl, vl_dg]; omega)
  refine ⟨hw, hmul, ?_⟩
  have e : (vl (dg L) - vl (dgs (b * ((L : Int) / b)))).toNat = ((L : Int) % b).toNat := by
    rw [dgs_vl, vl_dg]; omega
  rw [e] at hs
  exact hs
theorem floor_loop {b : Int} (hb : 0 < b) (hbl : Wl 30000 b) {a : List Int} (ha : a.length ≤ 30000) (da : Dg a) (su sv : Int) : ∀ (k : Nat), k ≤ a.length → ∀ (r : Nat) (q : List Int), (r : Int) < b → Dg q → q.length = a.length → (∀ j, j < k → dAt q j = 0) →
    ∃ q' : List Int, Rb_WideFloor_0 (Tb_WideFloor_0b q.length (dg r).length (encI (dg r)) ((k : Int) - 1) su a.length (encI a) sv (dgs b).length (encI (dgs b)) (encI q)) =
        exO (Xb_WideFloor_0b (q.length, (dg (((r : Int) * wpw k + vl (a.take k)) % b).toNat).length, encI (dg (((r : Int) * wpw k + vl (a.take k)) % b).toNat), su, a.length, encI a, sv, (dgs b).length, encI (dgs b), encI q')) ∧
      Dg q' ∧ q'.length = a.length ∧ vl q' = vl q + ((r : Int) * wpw k + vl (a.take k)) / b
  | 0, hk, r, q, hr, hd, hl, hz => by
    have e1 : ((r : Int) * wpw 0 + vl (a.take 0)) = r := by simp [wpw, vl]
    have e2 : (r : Int) % b = r := Int.emod_eq_of_lt (by omega) hr
    have e3 : (r : Int) / b = 0 := Int.ediv_eq_zero_of_lt (by omega) hr
    rw [e1, e2, e3]
    refine ⟨q, ?_, hd, hl, by omega⟩
    refine Rb_WideFloor_0b_of _ _ _ _ _ _ _ _ _ _ _ ?_
    unfold Bb_WideFloor_0b
    rw [bif_neg (by omega)]
    rfl
  | k + 1, hk, r, q, hr, hd, hl, hz => by
    have gx := dAt_get (l := a) (i := k) (by omega)
    have bx := dAt_bd da k
    generalize hx : dAt a k = x at *
    have hLx : ((x.toNat + 1000000000 * r : Nat) : Int) = x + 1000000000 * r := by omega
    have hlr : (dg r).length ≤ 30000 := dg_len_lt (by have := hbl.abs; omega)
    have hsh := shift_dg (r := r) bx
    have hlen : (dg (x.toNat + 1000000000 * r)).length ≤ 30001 := by
      have := trim_len (x :: dg r)
      rw [hsh, List.length_cons] at this
      omega
    have hqd : ((x.toNat + 1000000000 * r : Nat) : Int) / b < 1000000000 := by
      rw [hLx]
      refine Int.ediv_lt_of_lt_mul hb ?_
      omega
    have htr := trimmed_is (l := x :: dg r) (by simp; omega)
    rw [hsh] at htr
    obtain ⟨t1, t2, t3⟩ := take_off hb hbl hlen hqd
    have hE := Int.mul_ediv_add_emod ((x.toNat + 1000000000 * r : Nat) : Int) b
    have hm0 := Int.emod_nonneg ((x.toNat + 1000000000 * r : Nat) : Int) (show b ≠ 0 by omega)
    have hm1 := Int.emod_lt_of_pos ((x.toNat + 1000000000 * r : Nat) : Int) hb
    have hq0 : 0 ≤ ((x.toNat + 1000000000 * r : Nat) : Int) / b := Int.ediv_nonneg (by omega) (by omega)
    have f1 := find_loop hb hbl hlen q.length k su a.length (encI a) sv (encI q) 1000000000 0 999999999 (by omega) (by omega) (by omega) hq0 (by omega)
    have f2 := fun n11 => find_b hb hbl hlen q.length k su a.length (encI a) sv (encI q) n11 hqd
    have g1 := Lb_WideFloor_2a_of f1
    have g2 := fun n11 => Lb_WideFloor_2a_of (f2 n11)
    have go := dAt_get (l := q) (i := k) (by omega)
    rw [hz k (by omega)] at go
    have hT : (r : Int) * wpw (k + 1) + vl (a.take (k + 1)) = b * ((((x.toNat + 1000000000 * r : Nat) : Int) / b) * wpw k) + ((((x.toNat + 1000000000 * r : Nat) : Int) % b) * wpw k + vl (a.take k)) := by
      rw [vl_take_succ gx]
      simp only [wpw]
      rw [hLx] at hE ⊢
      generalize (x + 1000000000 * (r : Int)) / b = q1 at *
      generalize (x + 1000000000 * (r : Int)) % b = r1 at *
      clear g1 g2 f1 f2 t1 t2 t3 htr go
      grind
    have wk : w64 ((k : Int) - 1) = (k : Int) - 1 := w64_in (by omega)
    have ek : ((k + 1 : Nat) : Int) - 1 = k := by omega
    rw [hT, ek, Int.mul_add_emod_self_left, Int.add_ediv_of_dvd_left (Int.dvd_mul_right b _), Int.mul_ediv_cancel_left _ (by omega)]
    generalize hQ : ((x.toNat + 1000000000 * r : Nat) : Int) / b = Q at *
    generalize hR : ((x.toNat + 1000000000 * r : Nat) : Int) % b = R at *
    have hset : (q.set k Q).length = q.length := List.length_set
    obtain ⟨q', k1, k2, k3, k4⟩ := floor_loop hb hbl ha da su sv k (by omega) R.toNat (q.set k Q) (by omega) (hd.set (by omega) (by omega)) (by omega) (fun j hj => by
      rw [dAt_set_ne (by omega), hz j (by omega)])
    have eR : ((R.toNat : Nat) : Int) = R := by omega
    rw [eR, hset] at k1
    rw [eR] at k4
    refine ⟨q', ?_, k2, k3, ?_⟩
    · refine Rb_WideFloor_0b_of _ _ _ _ _ _ _ _ _ _ _ ?_
      unfold Bb_WideFloor_0b
      have hov := overO_set q (i := k) (by omega) Q
      rw [bif_pos (by omega), bif_pos (by omega)]
      simp only [Int.toNat_natCast, Nat.mul_one, encI_get, gx, Option.map_some, intC_int, bindO_val]
      by_cases hr0 : (dg r).length = 0
      · have e0 := List.eq_nil_of_length_eq_zero hr0
        rw [e0] at htr
        have htr : Fb_trimmed [.list 1 [.int .i64 x]] = _ := htr
        rw [bif_pos hr0]
        simp only [htr, bindO_val, g1]
        rw [bif_pos (by omega)]
        simp only [Int.toNat_natCast, Nat.mul_one, Nat.zero_add, hov, bindO_val, bound_is hb hbl, t1, t2, t3, wP_fold, wk]
        exact k1
      · have htr : Fb_trimmed [.list (1 + (dg r).length) ([.int .i64 x] ++ encI (dg r))] = some ((dg (x.toNat + 1000000000 * r)).length, encI (dg (x.toNat + 1000000000 * r))) := by
          rw [Nat.add_comm]; exact htr
        rw [bif_neg hr0, bif_pos (encI_len _), bif_pos (by unfold big; omega)]
        simp only [htr, bindO_val, g2]
        rw [bif_pos (by omega)]
        simp only [Int.toNat_natCast, Nat.mul_one, Nat.zero_add, hov, bindO_val, bound_is hb hbl, t1, t2, t3, wP_fold, wk]
        exact k1
    · rw [k4, vl_set go]
      have : wpw k * (Q - 0) = Q * wpw k := by grind
      omega
theorem floor_first {b : Int} (hb : 0 < b) (hbl : Wl 30000 b) {a : List Int} (ha : a.length ≤ 30000) (da : Dg a) (su sv : Int) (k : Nat) (hk : k + 1 = a.length) (q : List Int) (hd : Dg q) (hl : q.length = a.length) (hz : ∀ j, j < k + 1 → dAt q j = 0) :
    ∃ q' : List Int, Rb_WideFloor_0 (Tb_WideFloor_0a q.length k su a.length (encI a) sv (dgs b).length (encI (dgs b)) (encI q)) =
        exO (Xb_WideFloor_0b (q.length, (dg (vl a % b).toNat).length, encI (dg (vl a % b).toNat), su, a.length, encI a, sv, (dgs b).length, encI (dgs b), encI q')) ∧
      Dg q' ∧ q'.length = a.length ∧ vl q' = vl q + vl a / b := by
    have gx := dAt_get (l := a) (i := k) (by omega)
    have bx := dAt_bd da k
    generalize hx : dAt a k = x at *
    have hLx : ((x.toNat : Nat) : Int) = x := by omega
    have htr := trimmed_is (l := [x]) (by simp)
    have hsh := shift_dg (r := 0) bx
    rw [dg_zero, Nat.mul_zero, Nat.add_zero] at hsh
    rw [hsh] at htr
    have htr : Fb_trimmed [.list 1 [.int .i64 x]] = _ := htr
    have hlen : (dg x.toNat).length ≤ 30001 := by
      have := trim_len [x]
      rw [hsh] at this
      simp at this
      omega
    have hqd : ((x.toNat : Nat) : Int) / b < 1000000000 := by
      rw [hLx]
      have := Int.ediv_le_self b bx.1
      omega
    obtain ⟨t1, t2, t3⟩ := take_off hb hbl hlen hqd
    have hE := Int.mul_ediv_add_emod ((x.toNat : Nat) : Int) b
    have hm0 := Int.emod_nonneg ((x.toNat : Nat) : Int) (show b ≠ 0 by omega)
    have hm1 := Int.emod_lt_of_pos ((x.toNat : Nat) : Int) hb
    have hq0 : 0 ≤ ((x.toNat : Nat) : Int) / b := Int.ediv_nonneg (by omega) (by omega)
    have f1 := find_loop hb hbl hlen q.length k su a.length (encI a) sv (encI q) 1000000000 0 999999999 (by omega) (by omega) (by omega) hq0 (by omega)
    have g1 := Lb_WideFloor_2a_of f1
    have go := dAt_get (l := q) (i := k) (by omega)
    rw [hz k (by omega)] at go
    have hT : vl a = b * ((((x.toNat : Nat) : Int) / b) * wpw k) + ((((x.toNat : Nat) : Int) % b) * wpw k + vl (a.take k)) := by
      have hv := vl_take_succ gx
      rw [hk, List.take_length] at hv
      rw [hv]
      rw [hLx] at hE ⊢
      generalize x / b = q1 at *
      generalize x % b = r1 at *
      clear g1 f1 t1 t2 t3 htr go hv
      grind
    have wk : w64 ((k : Int) - 1) = (k : Int) - 1 := w64_in (by omega)
    rw [hT, Int.mul_add_emod_self_left, Int.add_ediv_of_dvd_left (Int.dvd_mul_right b _), Int.mul_ediv_cancel_left _ (by omega)]
    generalize hQ : ((x.toNat : Nat) : Int) / b = Q at *
    generalize hR : ((x.toNat : Nat) : Int) % b = R at *
    have hset : (q.set k Q).length = q.length := List.length_set
    obtain ⟨q', k1, k2, k3, k4⟩ := floor_loop hb hbl ha da su sv k (by omega) R.toNat (q.set k Q) (by omega) (hd.set (by omega) (by omega)) (by omega) (fun j hj => by
      rw [dAt_set_ne (by omega), hz j (by omega)])
    have eR : ((R.toNat : Nat) : Int) = R := by omega
    rw [eR, hset] at k1
    rw [eR] at k4
    refine ⟨q', ?_, k2, k3, ?_⟩
    · refine Rb_WideFloor_0a_of _ _ _ _ _ _ _ _ _ ?_
      unfold Bb_WideFloor_0a
      have hov := overO_set q (i := k) (by omega) Q
      rw [bif_pos (by omega), bif_pos (by omega)]
      simp only [Int.toNat_natCast, Nat.mul_one, encI_get, gx, Option.map_some, intC_int, bindO_val, htr, g1]
      rw [bif_pos (by omega)]
      simp only [Int.toNat_natCast, Nat.mul_one, Nat.zero_add, hov, bindO_val, bound_is hb hbl, t1, t2, t3, wP_fold, wk]
      exact k1
    · rw [k4, vl_set go]
      have : wpw k * (Q - 0) = Q * wpw k := by grind
      omega
theorem WideFloor_is {u b : Int} (hu : Wl 30000 u) (hb : 0 < b) (hbl : Wl 30000 b) : Fb_WideFloor [wP u, wP b] = some (wR (u / b)) := by
  refine Fb_WideFloor_of u.sign (dgs u).length (encI (dgs u)) b.sign (dgs b).length (encI (dgs b)) ?_
  unfold tb_WideFloor
  rw [bif_eq]
  by_cases u0 : u = 0
  · subst u0
    rw [if_pos (show Int.sign 0 = 0 from rfl), Int.zero_ediv, wR_zero]
  · have su : u.sign = 1 ∧ 0 < u ∨ u.sign = -1 ∧ u < 0 := by
      rcases Int.lt_trichotomy u 0 with h | h | h
      · right; exact ⟨Int.sign_eq_neg_one_of_neg h, h⟩
      · omega
      · left; exact ⟨Int.sign_eq_one_of_pos h, h⟩
    rw [if_neg (by omega)]
    have hul := hu
    unfold Wl at hu
    have hn0 : (dgs u).length ≠ 0 := fun h => u0 (dgs_nil.1 (List.eq_nil_of_length_eq_zero h))
    have wl : w64 (((dgs u).length : Int) - 1) = (((dgs u).length - 1 : Nat) : Int) := by rw [w64_in (by omega)]; omega
    rw [bif_pos (by first | exact ⟨rfl, by omega, by unfold big; omega⟩ | exact ⟨trivial, by omega, by unfold big; omega⟩)]
    simp only [wl, Int.toNat_natCast]
    obtain ⟨q', k1, k2, k3, k4⟩ := floor_first hb hbl hu (dgs_Dg u) u.sign b.sign ((dgs u).length - 1) (by omega) (List.replicate (dgs u).length 0) (fun d hd => by
      have := List.eq_of_mem_replicate hd
      omega) (by simp) (fun j _ => by
      unfold dAt
      rw [List.getElem?_replicate]
      split <;> rfl)
    have hL := Lb_WideFloor_0b_of k1
    rw [List.length_replicate, ← rep_I] at hL
    rw [vl_zeros fun d hd => List.eq_of_mem_replicate hd, Int.zero_add, dgs_vl] at k4
    have ht : (encI q').take ((dgs u).length * 1) = encI q' := List.take_of_length_le (by rw [encI_len]; omega)
    have hq0 : 0 ≤ (u.natAbs : Int) / b := Int.ediv_nonneg (by omega) (by omega)
    have hw := wideOf_is (s := u.sign) (l := q') (by omega) k2 (by omega)
    rw [k3, k4] at hw
    rw [hL]
    simp only [bindO_val, Sum.elim_inr]
    rw [bif_pos (by rw [encI_len]; omega), List.drop_zero, ht]
    simp only [hw, bindO_val]
    rw [dgs_vl]
    have hE := Int.mul_ediv_add_emod (u.natAbs : Int) b
    have hm0 := Int.emod_nonneg (u.natAbs : Int) (show b ≠ 0 by omega)
    have hm1 := Int.emod_lt_of_pos (u.natAbs : Int) hb
    rcases su with ⟨s, h⟩ | ⟨s, h⟩
    · rw [s, bif_neg (by decide), Int.one_mul, wR_eta, show (u.natAbs : Int) = u by omega]
    · rw [s, bif_pos (by decide)]
      by_cases hr : (u.natAbs : Int) % b = 0
      · rw [hr]
        have e0 : dg (0 : Int).toNat = [] := dg_zero
        rw [e0, bif_neg (by simp), wR_eta]
        congr 2
        have := (ediv_unique hb (a := u) (q := -1 * ((u.natAbs : Int) / b)) (r := 0) (by
          have : b * (-1 * ((u.natAbs : Int) / b)) = -(b * ((u.natAbs : Int) / b)) := by grind
          omega) (by omega) hb).1
        exact this.symm
      · have hne : (dg ((u.natAbs : Int) % b).toNat).length ≠ 0 := by rw [dg_pos (by omega)]; simp
        rw [bif_pos (by omega)]
        have h1 := WideOf_is (n := 1) (by omega)
        have hql : Wl 30000 (-1 * ((u.natAbs : Int) / b)) := by
          unfold Wl
          have e1 : dgs (-1 * ((u.natAbs : Int) / b)) = dg ((u.natAbs : Int) / b).toNat := by
            unfold dgs
            congr 1
            omega
          rw [e1]
          refine Nat.le_trans ?_ hu
          rcases Nat.lt_or_ge (dgs u).length (dg ((u.natAbs : Int) / b).toNat).length with hh | hh
          · have := dg_len_mono hh
            have := Int.ediv_le_self b (show (0 : Int) ≤ u.natAbs by omega)
            omega
          · exact hh
        have hs := WideSub_is (u := -1 * ((u.natAbs : Int) / b)) (v := 1) (hql.mono (by omega)) ((Wl.small (by omega)).mono (by omega))
        simp only [h1, bindO_val, wP_fold, hs, wR_eta]
        congr 2
        have := (ediv_unique hb (a := u) (q := -1 * ((u.natAbs : Int) / b) - 1) (r := b - (u.natAbs : Int) % b) (by
          have : b * (-1 * ((u.natAbs : Int) / b) - 1) = -(b * ((u.natAbs : Int) / b)) - b := by grind
          omega) (by omega) (by omega)).1
        exact this.symm
end Gv

/- Numbers of any size: as an int, greatest common divisors, fractions. -/
namespace Gv
open Go
set_option maxRecDepth 100000
theorem wide_int {a : List Int} (ha : a.length ≤ 2) (da : Dg a) (su : Int) : ∀ k, k ≤ a.length →
    Rb_WideInt_0 (Tb_WideInt_0a (vl (a.drop k)) ((k : Int) - 1) su a.length (encI a)) = exO (Xb_WideInt_0a (vl a, su, a.length, encI a))
  | 0, _ => by
    refine Rb_WideInt_0a_of _ _ _ _ _ ?_
    unfold Bb_WideInt_0a
    rw [bif_neg (by omega), List.drop_zero]
    rfl
  | k + 1, hk => by
    have gx := dAt_get (l := a) (i := k) (by omega)
    have bx := dAt_bd da k
    have hv := vl_drop a k
    have h0 := vl_nonneg (da.drop (k + 1))
    have h1 := vl_lt (da.drop (k + 1))
    have h2 := wpw_mono (show (a.drop (k + 1)).length ≤ 1 by rw [List.length_drop]; omega)
    simp only [wpw] at h2
    have ih := wide_int ha da su k (by omega)
    have w1 : w64 (vl (a.drop (k + 1)) * 1000000000) = vl (a.drop (k + 1)) * 1000000000 := w64_in (by omega)
    have w2 : w64 (vl (a.drop (k + 1)) * 1000000000 + dAt a k) = vl (a.drop k) := by rw [w64_in (by omega)]; omega
    have wk : w64 ((k : Int) - 1) = (k : Int) - 1 := w64_in (by omega)
    have ek : ((k + 1 : Nat) : Int) - 1 = k := by omega
    rw [ek]
    refine Rb_WideInt_0a_of _ _ _ _ _ ?_
    unfold Bb_WideInt_0a
    rw [bif_pos (by omega), bif_pos (by omega)]
    simp only [Int.toNat_natCast, Nat.mul_one, encI_get, gx, Option.map_some, intC_int, bindO_val, w1, w2, wk]
    exact ih
theorem WideInt_is {v : Int} (hv : Wl 40000 v) : Fb_WideInt [wP v] = some (if v.natAbs < 1000000000000000000 then (v, true) else (0, false)) := by
  refine Fb_WideInt_of v.sign (dgs v).length (encI (dgs v)) ?_
  unfold tb_WideInt
  unfold Wl at hv
  by_cases h : v.natAbs < 1000000000000000000
  · have hl : (dgs v).length ≤ 2 := Wl.lt (by simp only [wpw]; omega)
    have hq := wide_int hl (dgs_Dg v) v.sign (dgs v).length (Nat.le_refl _)
    rw [List.drop_length] at hq
    have hL := Lb_WideInt_0a_of hq
    have hL : Lb_WideInt_0 (Tb_WideInt_0a 0 (((dgs v).length : Int) - 1) v.sign (dgs v).length (encI (dgs v))) = _ := hL
    have wl : w64 (((dgs v).length : Int) - 1) = ((dgs v).length : Int) - 1 := w64_in (by omega)
    rw [bif_neg (by omega), if_pos h, wl]
    simp only [hL, bindO_val]
    rw [dgs_vl, Int.sign_mul_natAbs, w64_in (by omega)]
  · have hl : ¬ (dgs v).length ≤ 2 := fun hh => by
      have := Wl.abs (k := 2) (v := v) hh
      simp only [wpw] at this
      omega
    rw [bif_pos (by omega), if_neg h]
theorem wgcd_loop : ∀ (n : Nat) (a b : Int), b.natAbs < n → 0 ≤ a → 0 ≤ b → Wl 20000 a → Wl 20000 b →
    Rb_wideGcd_0 (Tb_wideGcd_0a (wR a).1 (wR a).2.1 (wR a).2.2 (wR b).1 (wR b).2.1 (wR b).2.2) =
      exO (Xb_wideGcd_0a ((wR (Int.gcd a b)).1, (wR (Int.gcd a b)).2.1, (wR (Int.gcd a b)).2.2, (wR 0).1, (wR 0).2.1, (wR 0).2.2))
  | 0, a, b, h, _, _, _, _ => by omega
  | n + 1, a, b, h, ha, hb, la, lb => by
    refine Rb_wideGcd_0a_of _ _ _ _ _ _ ?_
    unfold Bb_wideGcd_0a
    have hs := WideSign_is b
    simp only [wP_fold, hs, bindO_val]
    rw [bif_ne]
    by_cases h0 : b = 0
    · subst h0
      rw [if_pos (show Int.sign 0 = 0 from rfl), Int.gcd_zero_right, show ((a.natAbs : Nat) : Int) = a by omega]
      rfl
    · rw [if_neg (by rw [Int.sign_eq_one_of_pos (by omega)]; decide)]
      have hf := WideFloor_is (la.mono (by omega)) (show 0 < b by omega) (lb.mono (by omega))
      have hE := Int.mul_ediv_add_emod a b
      have hm0 := Int.emod_nonneg a h0
      have hm1 := Int.emod_lt_of_pos a (show 0 < b by omega)
      have hq0 : 0 ≤ a / b := Int.ediv_nonneg ha hb
      have lq : Wl 20000 (a / b) := by
        refine Wl.lt ?_
        have := Int.ediv_le_self b ha
        have := la.abs
        omega
      have hm := WideMul_is (u := a / b) (v := b) (lq.mono (by omega)) (lb.mono (by omega))
      have lr : Wl 20000 (a % b) := by
        refine Wl.lt ?_
        have := lb.abs
        omega
      have hsub := WideSub_is (u := a) (v := a / b * b) (la.mono (by omega)) ((lq.mul lb).mono (by omega))
      have er : a - a / b * b = a % b := by rw [Int.mul_comm]; omega
      rw [er] at hsub
      simp only [hf, bindO_val, wP_fold, hm, hsub]
      have hg : Int.gcd b (a % b) = Int.gcd a b := by
        rw [← Int.tmod_eq_emod_of_nonneg ha]
        exact gcd_step a b
      have ih := wgcd_loop n b (a % b) (by omega) hb hm0 lb lr
      rw [hg] at ih
      exact ih
theorem wideGcd_is {u v : Int} (hu : Wl 20000 u) (hv : Wl 20000 v) : Fb_wideGcd [wP u, wP v] = some (wR (Int.gcd u v)) := by
  refine Fb_wideGcd_of u.sign (dgs u).length (encI (dgs u)) v.sign (dgs v).length (encI (dgs v)) ?_
  unfold tb_wideGcd
  have h1 := wideSize_is u
  have h2 := wideSize_is v
  unfold wP at h1 h2
  have la : Wl 20000 (u.natAbs : Int) := by
    unfold Wl dgs
    rw [Int.natAbs_natCast]
    exact hu
  have lb : Wl 20000 (v.natAbs : Int) := by
    unfold Wl dgs
    rw [Int.natAbs_natCast]
    exact hv
  have hq := wgcd_loop (v.natAbs + 1) u.natAbs v.natAbs (by omega) (by omega) (by omega) la lb
  have hg : Int.gcd (u.natAbs : Int) (v.natAbs : Int) = Int.gcd u v := by simp [Int.gcd]
  rw [hg] at hq
  have hL := Lb_wideGcd_0a_of hq
  simp only [h1, h2, bindO_val, hL, wR_eta]
def rP (z : Int × Int) : PV := .agg [.int .i64 z.1.sign, .list (dgs z.1).length (encI (dgs z.1)), .int .i64 z.2.sign, .list (dgs z.2).length (encI (dgs z.2))]
abbrev QR := Int × ((Nat × List PV) × (Int × (Nat × List PV)))
def rR (z : Int × Int) : QR := ((wR z.1).1, (((wR z.1).2.1, (wR z.1).2.2), ((wR z.2).1, ((wR z.2).2.1, (wR z.2).2.2))))
theorem rP_fold (z : Int × Int) : PV.agg [.int .i64 (rR z).1, .list (rR z).2.1.1 (rR z).2.1.2, .int .i64 (rR z).2.2.1, .list (rR z).2.2.2.1 (rR z).2.2.2.2] = rP z := rfl
theorem rR_eta (z : Int × Int) : (((rR z).1, (((rR z).2.1.1, (rR z).2.1.2), ((rR z).2.2.1, ((rR z).2.2.2.1, (rR z).2.2.2.2)))) : QR) = rR z := rfl
theorem rR_pair (n d : Int) : (((wR n).1, (((wR n).2.1, (wR n).2.2), ((wR d).1, ((wR d).2.1, (wR d).2.2)))) : QR) = rR (n, d) := rfl
def lowR (n d : Int) : Int × Int := (n / (Int.gcd n d : Int), d / (Int.gcd n d : Int))
def Rl (k : Nat) (z : Int × Int) : Prop := Wl k z.1 ∧ Wl k z.2 ∧ 0 < z.2
theorem Rl.mono {k m : Nat} {z : Int × Int} (h : Rl k z) (hk : k ≤ m) : Rl m z := ⟨h.1.mono hk, h.2.1.mono hk, h.2.2⟩
theorem gcd_pos' {n d : Int} (hd : 0 < d) : (0 : Int) < Int.gcd n d := by
  have h : Int.gcd n d ≠ 0 := fun e => by
    have := (Int.gcd_eq_zero_iff.1 e).2
    omega
  omega
theorem Wl.ediv {k : Nat} {u g : Int} (h : Wl k u) (hg : 0 < g) (hd : g ∣ u) : Wl k (u / g) := by
  refine Wl.lt ?_
  obtain ⟨c, rfl⟩ := hd
  rw [Int.mul_ediv_cancel_left _ (by omega)]
  have := h.abs
  rw [Int.natAbs_mul] at this
  have h1 : c.natAbs ≤ g.natAbs * c.natAbs := Nat.le_mul_of_pos_left _ (by omega)
  omega
theorem lowR_l {k : Nat} {n d : Int} (hn : Wl k n) (hd : Wl k d) (h0 : 0 < d) : Rl k (lowR n d) := by
  have hg := gcd_pos' (n := n) h0
  refine ⟨hn.ediv hg (Int.gcd_dvd_left ..), hd.ediv hg (Int.gcd_dvd_right ..), ?_⟩
  exact Int.ediv_pos_of_pos_of_dvd h0 (by omega) (Int.gcd_dvd_right ..)
theorem RatioMake_is {n d : Int} (hn : Wl 20000 n) (hd : Wl 20000 d) (h0 : 0 < d) : Fb_RatioMake [wP n, wP d] = some (rR (lowR n d)) := by
  refine Fb_RatioMake_of (wR n).1 (wR n).2.1 (wR n).2.2 (wR d).1 (wR d).2.1 (wR d).2.2 ?_
  unfold tb_RatioMake
  have hg := gcd_pos' (n := n) h0
  have hs := WideSign_is d
  have hG := wideGcd_is hn hd
  have hgl : Wl 20000 (Int.gcd n d : Int) := by
    refine Wl.lt ?_
    have := hd.abs
    have := Int.gcd_le_right n h0
    omega
  have h1 := WideOf_is (n := 1) (by omega)
  have hc := WideCmp_is (u := Int.gcd n d) (v := 1) (hgl.mono (by omega)) ((Wl.small (by omega)).mono (by omega))
  have f1 := WideFloor_is (hn.mono (by omega)) hg (hgl.mono (by omega))
  have f2 := WideFloor_is (hd.mono (by omega)) hg (hgl.mono (by omega))
  simp only [wP_fold, hs, bindO_val]
  rw [bif_neg (by rw [Int.sign_eq_one_of_pos h0]; decide)]
  simp only [hG, h1, bindO_val, wP_fold, hc]
  rw [bif_eq]
  by_cases h : (Int.gcd n d : Int) = 1
  · rw [if_pos (by rw [h]; rfl), rR_pair]
    unfold lowR
    rw [h, Int.ediv_one, Int.ediv_one]
  · rw [if_neg (by rw [Int.sign_eq_one_of_pos (by omega)]; decide)]
    simp only [f1, f2, bindO_val, rR_pair]
    rfl
theorem RatioOf_is {n d : Int} (hn : -9223372036854775808 ≤ n ∧ n ≤ 9223372036854775807) (hd : 0 < d ∧ d ≤ 9223372036854775807) : Fb_RatioOf [.int .i64 n, .int .i64 d] = some (rR (lowR n d)) := by
  refine Fb_RatioOf_of _ _ ?_
  unfold tb_RatioOf
  have h1 := WideOf_is hn
  have h2 := WideOf_is (n := d) (by omega)
  have h3 := RatioMake_is (n := n) (d := d) ((Wl.small (by omega)).mono (by omega)) ((Wl.small (by omega)).mono (by omega)) hd.1
  simp only [h1, h2, bindO_val, wP_fold, h3, rR_eta]
theorem RatioInt_is {n : Int} (hn : -9223372036854775808 ≤ n ∧ n ≤ 9223372036854775807) : Fb_RatioInt [.int .i64 n] = some (rR (n, 1)) := by
  refine Fb_RatioInt_of _ ?_
  unfold tb_RatioInt
  have h1 := WideOf_is hn
  have h2 := WideOf_is (n := 1) (by omega)
  simp only [h1, h2, bindO_val, rR_pair]
theorem RatioFrom_is {n d : Int} (hn : -9223372036854775808 ≤ n ∧ n ≤ 9223372036854775807) (hd : 0 < d ∧ d ≤ 9223372036854775807) : Fb_RatioFrom [.agg [.int .i64 n, .int .i64 d]] = some (rR (lowR n d)) := by
  refine Fb_RatioFrom_of _ _ ?_
  unfold tb_RatioFrom
  have h1 := RatioOf_is hn hd
  simp only [h1, bindO_val, rR_eta]
theorem RatioNeg_is (z : Int × Int) : Fb_RatioNeg [rP z] = some (rR (-z.1, z.2)) := by
  refine Fb_RatioNeg_of (wR z.1).1 (wR z.1).2.1 (wR z.1).2.2 (wR z.2).1 (wR z.2).2.1 (wR z.2).2.2 ?_
  unfold tb_RatioNeg
  have h1 := WideNeg_is z.1
  simp only [wP_fold, h1, bindO_val, rR_pair]
theorem RatioMul_is {x y : Int × Int} (hx : Rl 10000 x) (hy : Rl 10000 y) : Fb_RatioMul [rP x, rP y] = some (rR (lowR (x.1 * y.1) (x.2 * y.2))) := by
  refine Fb_RatioMul_of (wR x.1).1 (wR x.1).2.1 (wR x.1).2.2 (wR x.2).1 (wR x.2).2.1 (wR x.2).2.2 (wR y.1).1 (wR y.1).2.1 (wR y.1).2.2 (wR y.2).1 (wR y.2).2.1 (wR y.2).2.2 ?_
  unfold tb_RatioMul
  obtain ⟨x1, x2, x3⟩ := hx
  obtain ⟨y1, y2, y3⟩ := hy
  have h1 := WideMul_is (x1.mono (m := 40000) (by omega)) (y1.mono (m := 40000) (by omega))
  have h2 := WideMul_is (x2.mono (m := 40000) (by omega)) (y2.mono (m := 40000) (by omega))
  have h3 := RatioMake_is ((x1.mul y1).mono (m := 20000) (by omega)) ((x2.mul y2).mono (m := 20000) (by omega)) (Int.mul_pos x3 y3)
  simp only [wP_fold, h1, h2, bindO_val, h3, rR_eta]
theorem RatioAdd_is {x y : Int × Int} (hx : Rl 9000 x) (hy : Rl 9000 y) : Fb_RatioAdd [rP x, rP y] = some (rR (lowR (x.1 * y.2 + y.1 * x.2) (x.2 * y.2))) := by
  refine Fb_RatioAdd_of (wR x.1).1 (wR x.1).2.1 (wR x.1).2.2 (wR x.2).1 (wR x.2).2.1 (wR x.2).2.2 (wR y.1).1 (wR y.1).2.1 (wR y.1).2.2 (wR y.2).1 (wR y.2).2.1 (wR y.2).2.2 ?_
  unfold tb_RatioAdd
  obtain ⟨x1, x2, x3⟩ := hx
  obtain ⟨y1, y2, y3⟩ := hy
  have h1 := WideMul_is (x1.mono (m := 40000) (by omega)) (y2.mono (m := 40000) (by omega))
  have h2 := WideMul_is (y1.mono (m := 40000) (by omega)) (x2.mono (m := 40000) (by omega))
  have h4 := WideMul_is (x2.mono (m := 40000) (by omega)) (y2.mono (m := 40000) (by omega))
  have h5 := WideAdd_is ((x1.mul y2).mono (m := 100000) (by omega)) ((y1.mul x2).mono (m := 100000) (by omega))
  have h3 := RatioMake_is (((x1.mul y2).add (y1.mul x2)).mono (m := 20000) (by omega)) ((x2.mul y2).mono (m := 20000) (by omega)) (Int.mul_pos x3 y3)
  simp only [wP_fold, h1, h2, h4, h5, bindO_val, h3, rR_eta]
theorem RatioSub_is {x y : Int × Int} (hx : Rl 9000 x) (hy : Rl 9000 y) : Fb_RatioSub [rP x, rP y] = some (rR (lowR (x.1 * y.2 - y.1 * x.2) (x.2 * y.2))) := by
  refine Fb_RatioSub_of (rR x).1 (rR x).2.1.1 (rR x).2.1.2 (rR x).2.2.1 (rR x).2.2.2.1 (rR x).2.2.2.2 (rR y).1 (rR y).2.1.1 (rR y).2.1.2 (rR y).2.2.1 (rR y).2.2.2.1 (rR y).2.2.2.2 ?_
  unfold tb_RatioSub
  have h1 := RatioNeg_is y
  have h2 := RatioAdd_is (x := x) (y := (-y.1, y.2)) hx ⟨hy.1.neg, hy.2.1, hy.2.2⟩
  simp only [rP_fold, h1, h2, bindO_val, rR_eta]
  congr 3
  show x.1 * y.2 + -y.1 * x.2 = _
  rw [Int.neg_mul]; omega
end Gv
