/- Ranges, layers and visibility: what the program gives. -/
import Derived.Test.YtkbahledgljaoaaCA1
namespace Gv
open Go
set_option maxRecDepth 100000
def askF (l : List Int) (floor : Int) (i : Nat) : Bool := decide (l.getD i 0 ≥ floor)
theorem getD_of {l : List Int} {i : Nat} {x : Int} (h : l[i]? = some x) : l.getD i 0 = x := by simp [List.getD_eq_getElem?_getD, h]
theorem ask_is (l : List Int) (a b c : Int) {i : Nat} (hi : i < l.length) : Fcloud_LayersIn_1 [.int .i64 i, .imm [.list l.length (encI l)] 0, .imm [.int .i64 a, .int .i64 b, .int .i64 c] 0] = some (askF l a i) := by
  refine Fcloud_LayersIn_1_of _ _ _ _ _ _ ?_
  unfold tcloud_LayersIn_1
  obtain ⟨x, hx⟩ : ∃ x, l[i]? = some x := ⟨_, List.getElem?_eq_getElem hi⟩
  rw [bif_pos ⟨by omega, by show (i : Int) < (l.length : Int); omega⟩]
  simp only [Int.toNat_natCast, Nat.mul_one, encI_get, hx, Option.map_some, intC_int, bindO_val]
  unfold askF
  rw [getD_of hx]
  by_cases h : x ≥ a
  · rw [bif_pos h, decide_eq_true h]
  · rw [bif_neg h, decide_eq_false h]
theorem encG_last (a : List ZZ) (r : ZZ) : (encG (a ++ [r]))[a.length * 2 + 1]? = some (.int .i64 r.2) := by
  rw [encG_1]; simp
theorem over_two (u : List PV) (p q x : PV) : over (u ++ [p, q]) (u.length + 1) [x] = u ++ [p, x] := by
  simp [over, List.take_append, List.drop_append, List.take_of_length_le, List.drop_eq_nil_of_le]
theorem overO_last (a : List ZZ) (r : ZZ) (x : Int) : overO (encG (a ++ [r])) (a.length * 2 + 1) [.int .i64 x] = some (encG (a ++ [(r.1, x)])) := by
  rw [overO_of (by rw [encG_len]; simp; omega), encG_app, encG_app]
  congr 1
  have := over_two (encG a) (.int .i64 r.1) (.int .i64 r.2) (.int .i64 x)
  rw [encG_len] at this
  exact this
def rgT (g p : Int) (l : List Int) (a b c : Int) (acc : List ZZ) (i : Nat) : Q :=
  if acc = [] then Tcloud_rangesOf_layers_0a p l.length (encI l) a b c g i else Tcloud_rangesOf_layers_0b p l.length (encI l) a b c acc.length g i acc.length (encG acc)
def rgX (acc : List ZZ) : Ext × Q := if acc = [] then Xcloud_rangesOf_layers_0a () else Xcloud_rangesOf_layers_0b (acc.length, acc.length, encG acc)
theorem rngs_len (p : Int) (q : Nat → Bool) : ∀ n, (rngs p q n).length ≤ n
  | 0 => by simp [rngs]
  | n + 1 => by
    have ih := rngs_len p q n
    simp only [rngs]
    split
    · rcases list_last (rngs p q n) with h | ⟨a, r, h⟩
      · rw [h, stepR_nil]; simp
      · rw [h] at ih ⊢
        by_cases hc : (n : Int) - r.2 - 1 ≤ p
        · rw [stepR_in hc]; simp at ih ⊢; omega
        · rw [stepR_out hc]; simp at ih ⊢; omega
    · omega
theorem rg_loop (p : Int) (hp : 0 ≤ p) (l : List Int) (hl : l.length ≤ 100000) (a b c : Int) : ∀ i, i ≤ l.length →
    Rcloud_rangesOf_layers_0 (rgT l.length p l a b c (rngs p (askF l a) i) i) = exO (rgX (rngs p (askF l a) l.length)) := by
  refine up_ind _ ?_ ?_
  · unfold rgT rgX
    by_cases h : rngs p (askF l a) l.length = []
    · rw [if_pos h, if_pos h]
      refine Rcloud_rangesOf_layers_0a_of _ _ _ _ _ _ _ _ ?_
      unfold Bcloud_rangesOf_layers_0a
      rw [bif_neg (by omega)]
      rfl
    · rw [if_neg h, if_neg h]
      refine Rcloud_rangesOf_layers_0b_of _ _ _ _ _ _ _ _ _ _ _ ?_
      unfold Bcloud_rangesOf_layers_0b
      rw [bif_neg (by omega)]
      rfl
  · intro i hi ih
    have wi : w64 ((i : Int) + 1) = ((i + 1 : Nat) : Int) := by rw [w64_in (by omega)]; omega
    have hsp := rngs_spec p hp (askF l a) i
    have hlen := rngs_len p (askF l a) i
    have hq : rngs p (askF l a) (i + 1) = if askF l a i = true then stepR p (rngs p (askF l a) i) i else rngs p (askF l a) i := rfl
    rw [hq] at ih
    generalize rngs p (askF l a) i = acc at *
    have ha := ask_is l a b c hi
    rcases list_last acc with h0 | ⟨acc', r, h0⟩
    · subst h0
      unfold rgT
      rw [if_pos rfl]
      refine Rcloud_rangesOf_layers_0a_of _ _ _ _ _ _ _ _ ?_
      unfold Bcloud_rangesOf_layers_0a
      rw [bif_pos (by omega)]
      simp only [ha, bindO_val, wi]
      by_cases hk : askF l a i = true
      · rw [hk, cond_true]
        rw [hk, if_pos rfl, stepR_nil] at ih
        unfold rgT at ih
        rw [if_neg (by simp)] at ih
        exact ih
      · have hk' : askF l a i = false := by simpa using hk
        rw [hk', cond_false]
        rw [if_neg hk] at ih
        unfold rgT at ih
        rw [if_pos rfl] at ih
        exact ih
    · subst h0
      have hr := hsp.ends r (by simp)
      have hln : (acc' ++ [r]).length = acc'.length + 1 := by simp
      unfold rgT
      rw [if_neg (by simp)]
      refine Rcloud_rangesOf_layers_0b_of _ _ _ _ _ _ _ _ _ _ _ ?_
      unfold Bcloud_rangesOf_layers_0b
      have wl : w64 (((acc' ++ [r]).length : Int) - 1) = (acc'.length : Int) := by rw [w64_in (by rw [hln] at hlen ⊢; omega), hln]; omega
      rw [bif_pos (by omega)]
      simp only [ha, bindO_val, wi, wl, Int.toNat_natCast, encG_last, intC_int, overO_last]
      by_cases hk : askF l a i = true
      · rw [hk, cond_true]
        rw [hk, if_pos rfl] at ih
        rw [bif_pos (by omega), bif_pos (by rw [hln]; omega), bif_pos (by first | rfl | trivial)]
        have wg : w64 (w64 ((i : Int) - r.2) - 1) = (i : Int) - r.2 - 1 := by
          rw [w64_in (n := (i : Int) - r.2) (by omega), w64_in (by omega)]
        rw [wg]
        by_cases hc : (i : Int) - r.2 - 1 ≤ p
        · rw [stepR_in hc] at ih
          rw [bif_pos hc, bif_pos (by rw [hln]; omega), bif_pos (by first | rfl | trivial)]
          unfold rgT at ih
          rw [if_neg (by simp)] at ih
          have e : (acc' ++ [(r.1, (i : Int))]).length = (acc' ++ [r]).length := by simp
          rw [e] at ih
          exact ih
        · rw [stepR_out hc] at ih
          rw [bif_neg hc, bif_pos (by rw [hln] at hlen ⊢; unfold big; first | exact ⟨rfl, by omega⟩ | exact ⟨trivial, by omega⟩)]
          unfold rgT at ih
          rw [if_neg (by simp)] at ih
          have e : (acc' ++ [r] ++ [((i : Int), (i : Int))]).length = (acc' ++ [r]).length + 1 := by simp
          rw [e, encG_app (acc' ++ [r])] at ih
          exact ih
      · have hk' : askF l a i = false := by simpa using hk
        rw [hk', cond_false]
        rw [if_neg hk] at ih
        unfold rgT at ih
        rw [if_neg (by simp)] at ih
        exact ih
theorem ranges_is {p : Int} (hp : 0 ≤ p) {l : List Int} (hl : l.length ≤ 100000) (a b c : Int) :
    Fcloud_rangesOf_layers [.int .i64 l.length, .int .i64 p, .fn 58 [.imm [.list l.length (encI l)] 0, .imm [.int .i64 a, .int .i64 b, .int .i64 c] 0]] =
      some ((rngs p (askF l a) l.length).length, encG (rngs p (askF l a) l.length)) := by
  refine Fcloud_rangesOf_layers_of _ _ _ _ _ _ _ ?_
  unfold tcloud_rangesOf_layers
  have hq := rg_loop p hp l hl a b c 0 (by omega)
  have h0 : rgT l.length p l a b c (rngs p (askF l a) 0) 0 = Tcloud_rangesOf_layers_0a p l.length (encI l) a b c l.length 0 := by
    rfl
  rw [h0] at hq
  generalize rngs p (askF l a) l.length = R at *
  unfold rgX at hq
  by_cases hR : R = []
  · rw [if_pos hR] at hq
    have hL := Lcloud_rangesOf_layers_0a_of hq
    rw [hL, bindO_val, hR]
    rfl
  · rw [if_neg hR] at hq
    have hL := Lcloud_rangesOf_layers_0b_of hq
    rw [hL, bindO_val]
    simp only [Sum.elim_inr]
    rw [bif_pos (by first | rfl | trivial)]
def isLay (c : Int) (r : ZZ) : Bool := decide (r.2 - r.1 + 1 ≥ c)
def layL (l : List Int) (a b c : Int) : List ZZ := (rngs b (askF l a) l.length).filter (isLay c)
def lyT (R acc : List ZZ) (a b c : Int) (i : Nat) : Q :=
  if acc = [] then Tcloud_LayersIn_0c R.length (encG R) R.length i a b c else Tcloud_LayersIn_0b acc.length (encG acc) R.length (encG R) R.length i a b c acc.length
def lyX (acc : List ZZ) (a b c : Int) : Ext × Q := if acc = [] then Xcloud_LayersIn_0a (a, b, c) else Xcloud_LayersIn_0b (acc.length, encG acc, a, b, c, acc.length)
theorem filter_take_succ {R : List ZZ} {i : Nat} {r : ZZ} (q : ZZ → Bool) (h : R[i]? = some r) : (R.take (i + 1)).filter q = if q r = true then (R.take i).filter q ++ [r] else (R.take i).filter q := by
  rw [List.take_add_one, h, List.filter_append]
  by_cases hq : q r = true <;> simp [hq]
theorem ly_loop (R : List ZZ) (hR : R.length ≤ 100000) (hb : ∀ r ∈ R, 0 ≤ r.1 ∧ r.1 ≤ r.2 ∧ r.2 ≤ 1000000) (a b c : Int) : ∀ i, i ≤ R.length →
    Rcloud_LayersIn_0 (lyT R ((R.take i).filter (isLay c)) a b c i) = exO (lyX (R.filter (isLay c)) a b c) := by
  refine up_ind _ ?_ ?_
  · rw [List.take_length]
    unfold lyT lyX
    by_cases h : R.filter (isLay c) = []
    · rw [if_pos h, if_pos h]
      refine Rcloud_LayersIn_0c_of _ _ _ _ _ _ _ ?_
      unfold Bcloud_LayersIn_0c
      rw [bif_neg (by omega)]
      rfl
    · rw [if_neg h, if_neg h]
      refine Rcloud_LayersIn_0b_of _ _ _ _ _ _ _ _ _ _ ?_
      unfold Bcloud_LayersIn_0b
      rw [bif_neg (by omega)]
      rfl
  · intro i hi ih
    obtain ⟨r, hr, _⟩ := get_drop hi
    have hbr := hb r (List.mem_of_getElem? hr)
    have wi : w64 ((i : Int) + 1) = ((i + 1 : Nat) : Int) := by rw [w64_in (by omega)]; omega
    have wr : w64 (w64 (r.2 - r.1) + 1) = r.2 - r.1 + 1 := by rw [w64_in (n := r.2 - r.1) (by omega), w64_in (by omega)]
    rw [filter_take_succ (isLay c) hr] at ih
    have hal : ((R.take i).filter (isLay c)).length ≤ 100000 := by
      have := List.length_filter_le (isLay c) (R.take i)
      rw [List.length_take] at this
      omega
    generalize (R.take i).filter (isLay c) = acc at *
    unfold lyT
    by_cases h : acc = []
    · subst h
      rw [if_pos rfl]
      refine Rcloud_LayersIn_0c_of _ _ _ _ _ _ _ ?_
      unfold Bcloud_LayersIn_0c
      rw [bif_pos (by omega), bif_pos (by omega)]
      simp only [Int.toNat_natCast, encG_0, encG_1, hr, Option.map_some, intC_int, bindO_val, wi, wr]
      by_cases hk : r.2 - r.1 + 1 ≥ c
      · rw [bif_pos hk]
        rw [if_pos (by simpa [isLay] using hk)] at ih
        unfold lyT at ih
        rw [if_neg (by simp)] at ih
        exact ih
      · rw [bif_neg hk]
        rw [if_neg (by simpa [isLay] using hk)] at ih
        unfold lyT at ih
        rw [if_pos rfl] at ih
        exact ih
    · rw [if_neg h]
      refine Rcloud_LayersIn_0b_of _ _ _ _ _ _ _ _ _ _ ?_
      unfold Bcloud_LayersIn_0b
      rw [bif_pos (by omega), bif_pos (by omega)]
      simp only [Int.toNat_natCast, encG_0, encG_1, hr, Option.map_some, intC_int, bindO_val, wi, wr]
      by_cases hk : r.2 - r.1 + 1 ≥ c
      · rw [bif_pos hk, bif_pos (by unfold big; first | exact ⟨rfl, by omega⟩ | exact ⟨trivial, by omega⟩)]
        rw [if_pos (by simpa [isLay] using hk)] at ih
        unfold lyT at ih
        rw [if_neg (by simp), encG_app] at ih
        rw [List.length_append] at ih
        exact ih
      · rw [bif_neg hk]
        rw [if_neg (by simpa [isLay] using hk)] at ih
        unfold lyT at ih
        rw [if_neg h] at ih
        exact ih
def ruleE (a b c : Int) : Int := if 1 ≤ a ∧ a ≤ 10000 then (if 0 ≤ b ∧ b ≤ 24 then (if 1 ≤ c ∧ c ≤ 24 then 0 else 2) else 2) else 2
theorem ruleE_ok {a b c : Int} (h : ruleE a b c = 0) : (1 ≤ a ∧ a ≤ 10000) ∧ (0 ≤ b ∧ b ≤ 24) ∧ 1 ≤ c ∧ c ≤ 24 := by
  unfold ruleE at h
  split at h <;> try (cases h; done)
  split at h <;> try (cases h; done)
  split at h <;> try (cases h; done)
  rename_i h1 h2 h3
  exact ⟨h1, h2, h3⟩
theorem rngs_ends {b : Int} (hb : 0 ≤ b) {q : Nat → Bool} {n : Nat} (hn : n ≤ 1000000) : ∀ r ∈ rngs b q n, 0 ≤ r.1 ∧ r.1 ≤ r.2 ∧ r.2 ≤ 1000000 := fun r hr => by
  have := (rngs_spec b hb q n).ends r hr
  omega
theorem lyLoop_is {R : List ZZ} (hR : R.length ≤ 100000) (hb : ∀ r ∈ R, 0 ≤ r.1 ∧ r.1 ≤ r.2 ∧ r.2 ≤ 1000000) (a b c : Int) (n : Nat) (cs : List PV) :
    Rcloud_LayersIn_0 (Tcloud_LayersIn_0a R.length (encG R) R.length n cs a b c) = exO (lyX (R.filter (isLay c)) a b c) := by
  refine Rcloud_LayersIn_0a_of _ _ _ _ _ _ _ _ ?_
  unfold Bcloud_LayersIn_0a
  by_cases h0 : R.length = 0
  · have := List.eq_nil_of_length_eq_zero h0
    subst this
    rw [bif_neg (by simp)]
    rfl
  · have hi : 0 < R.length := by omega
    obtain ⟨r, hr, _⟩ := get_drop hi
    have hbr := hb r (List.mem_of_getElem? hr)
    have wr : w64 (w64 (r.2 - r.1) + 1) = r.2 - r.1 + 1 := by rw [w64_in (n := r.2 - r.1) (by omega), w64_in (by omega)]
    have g0 : (encG R)[0]? = some (.int .i64 r.1) := by have := encG_0 R 0; rw [hr] at this; exact this
    have g1 : (encG R)[1]? = some (.int .i64 r.2) := by have := encG_1 R 0; rw [hr] at this; exact this
    have ih := ly_loop R hR hb a b c 1 (by omega)
    rw [filter_take_succ (i := 0) (isLay c) hr, List.take_zero, List.filter_nil, List.nil_append] at ih
    rw [bif_pos (by omega), bif_pos ⟨by omega, by omega⟩]
    simp only [g0, g1, intC_int, bindO_val, wr]
    by_cases hk : r.2 - r.1 + 1 ≥ c
    · rw [bif_pos hk]
      rw [if_pos (by simpa [isLay] using hk)] at ih
      unfold lyT at ih
      rw [if_neg (by simp)] at ih
      exact ih
    · rw [bif_neg hk]
      rw [if_neg (by simpa [isLay] using hk)] at ih
      unfold lyT at ih
      rw [if_pos rfl] at ih
      exact ih
theorem firstError4_is (a b c d : Int) : Fcloud_firstError_4 [.list 4 [.int .i64 a, .int .i64 b, .int .i64 c, .int .i64 d]] = some (first4 a b c d) :=
  Fcloud_firstError_4_of a b c d (by
    unfold tcloud_firstError_4 first4
    simp only [bif_ne]
    by_cases h1 : a = 0 <;> by_cases h2 : b = 0 <;> by_cases h3 : c = 0 <;> by_cases h4 : d = 0 <;> simp [h1, h2, h3, h4])
theorem layers_is {l : List Int} (h0 : profE l = 0) {a b c : Int} (hr : ruleE a b c = 0) :
    Fcloud_LayersIn [.list l.length (encI l), .agg [.int .i64 a, .int .i64 b, .int .i64 c]] = some (((layL l a b c).length, encG (layL l a b c)), 0) := by
  obtain ⟨h1, h2, h3⟩ := prof_ok h0
  obtain ⟨ra, rb, rc⟩ := ruleE_ok hr
  refine Fcloud_LayersIn_of _ _ _ _ _ ?_
  unfold tcloud_LayersIn
  have f4 : Fn env 54 (RSh.one (CK.int .i64)) [.list 4 [.int .i64 0, .int .i64 0, .int .i64 0, .int .i64 0]] = some 0 := by
    have := firstError4_is 0 0 0 0
    exact this
  have hp := profileError_is l (by omega)
  rw [h0] at hp
  have hrg := ranges_is (p := b) rb.1 (l := l) (by omega) a b c
  have hRl : (rngs b (askF l a) l.length).length ≤ 100000 := by have := rngs_len b (askF l a) l.length; omega
  simp only [hp, rangeError_is, rangeE_in ra, rangeE_in rb, rangeE_in rc, bindO_val, f4, hrg]
  rw [show ((0 : Int) != 0) = false from rfl, cond_false]
  have hq := lyLoop_is hRl (rngs_ends rb.1 (by omega)) a b c l.length (encI l)
  unfold layL
  generalize rngs b (askF l a) l.length = R at *
  unfold lyX at hq
  by_cases hA : R.filter (isLay c) = []
  · rw [if_pos hA] at hq
    have hL := Lcloud_LayersIn_0a_of (y := (a, b, c)) hq
    rw [hL, bindO_val, hA]
    rfl
  · rw [if_neg hA] at hq
    have hL := Lcloud_LayersIn_0b_of (y := ((R.filter (isLay c)).length, encG (R.filter (isLay c)), a, b, c, (R.filter (isLay c)).length)) hq
    rw [hL, bindO_val]
    rfl
end Gv
