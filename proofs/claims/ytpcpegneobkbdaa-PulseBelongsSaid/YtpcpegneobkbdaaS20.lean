/- PulseBelongs: each sample in its gates. -/
import Derived.Test.YtpcpegneobkbdaaS3
import Derived.Test.YtpcpegneobkbdaaS18
import Derived.Test.YtpcpegneobkbdaaP10
namespace Gv
open Go
set_option maxRecDepth 100000

theorem has_loop (l : List Int) (x : Int) (hl : l.length < 4294967296) : ∀ i, i ≤ l.length →
    Rglidepathbase_Has_0 (Tglidepathbase_Has_0a l.length (encI l) x i) = if x ∈ l.drop i then exO (Xglidepathbase_Has_0a ()) else exO (Xglidepathbase_Has_0b ()) := by
  refine up_ind _ ?_ ?_
  · rw [List.drop_length, if_neg (by simp)]
    refine Rglidepathbase_Has_0a_of _ _ _ _ ?_
    unfold Bglidepathbase_Has_0a
    rw [bif_neg (by omega)]
    rfl
  · intro i hi ih
    obtain ⟨y, hx, hd⟩ := get_drop hi
    rw [hd]
    have step : ∀ r, (if y = x then exO (Xglidepathbase_Has_0a ()) else Rglidepathbase_Has_0 (Tglidepathbase_Has_0a l.length (encI l) x (i + 1 : Nat))) = some r → Rglidepathbase_Has_0 (Tglidepathbase_Has_0a l.length (encI l) x i) = some r := by
      intro r hr
      refine Rglidepathbase_Has_0a_of _ _ _ _ ?_
      unfold Bglidepathbase_Has_0a
      rw [bif_pos (by omega), bif_pos (by omega)]
      simp only [Int.toNat_natCast, Nat.mul_one, encI_get, hx, Option.map_some, intC_int, bindO_val, bif_eq]
      rw [w64_in (by omega)]
      exact hr
    by_cases he : y = x
    · rw [if_pos he] at step
      rw [if_pos (by simp [he])]
      exact step _ rfl
    · rw [if_neg he] at step
      by_cases hm : x ∈ l.drop (i + 1)
      · rw [if_pos hm] at ih
        rw [if_pos (List.mem_cons_of_mem _ hm)]
        exact step _ ih
      · rw [if_neg hm] at ih
        rw [if_neg (by simp only [List.mem_cons, not_or]; exact ⟨fun h => he h.symm, hm⟩)]
        exact step _ ih

theorem has_is (l : List Int) (x : Int) (hl : l.length < 4294967296) : Fglidepathbase_Has [.list l.length (encI l), .int .i64 x] = some (decide (x ∈ l)) := by
  refine Fglidepathbase_Has_of _ _ _ ?_
  unfold tglidepathbase_Has
  have h := has_loop l x hl 0 (by omega)
  rw [List.drop_zero, show ((0 : Nat) : Int) = 0 from rfl] at h
  by_cases hm : x ∈ l
  · rw [if_pos hm] at h
    have l := Lglidepathbase_Has_0a_of h
    simp only [l, bindO_val, Sum.elim_inl, hm, decide_true]
  · rw [if_neg hm] at h
    have l := Lglidepathbase_Has_0b_of h
    simp only [l, bindO_val, Sum.elim_inr, hm, decide_false]

theorem mem_withZ (g : Gt) (x c : Int) : ∀ n k : Nat, c ∈ withZ g x n k ↔ ((k : Int) ≤ c ∧ c < k + n) ∧ inG g x c
  | 0, k => by simp only [withZ, List.not_mem_nil, false_iff]; omega
  | n + 1, k => by
    have ih := mem_withZ g x c n (k + 1)
    unfold withZ
    by_cases h : inG g x k
    · rw [if_pos h, List.mem_cons, ih]
      constructor
      · rintro (h1 | ⟨h1, h2⟩)
        · subst h1
          exact ⟨⟨by omega, by omega⟩, h⟩
        · exact ⟨⟨by omega, by omega⟩, h2⟩
      · rintro ⟨h1, h2⟩
        by_cases hc : c = k
        · exact .inl hc
        · exact .inr ⟨⟨by omega, by omega⟩, h2⟩
    · rw [if_neg h, ih]
      constructor
      · rintro ⟨h1, h2⟩
        exact ⟨⟨by omega, by omega⟩, h2⟩
      · rintro ⟨h1, h2⟩
        by_cases hc : c = k
        · subst hc
          exact absurd h2 h
        · exact ⟨⟨by omega, by omega⟩, h2⟩

theorem withZ_asc (g : Gt) (x : Int) : ∀ n k : Nat, (withZ g x n k).Pairwise (· < ·)
  | 0, _ => List.Pairwise.nil
  | n + 1, k => by
    have ih := withZ_asc g x n (k + 1)
    unfold withZ
    split
    · refine List.Pairwise.cons (fun a ha => ?_) ih
      have := ((mem_withZ g x a n (k + 1)).1 ha).1
      omega
    · exact ih

theorem wtd_get (l : List ZZ) (first : Int) : ∀ (ws : List Int) (i j : Nat), (wtd l first ws i)[j]? = ws[j]?.map fun w => wz l (w64 (first + ((i + j : Nat) : Int))) w
  | [], _, _ => by simp [wtd]
  | w :: ws, i, 0 => by simp [wtd]
  | w :: ws, i, j + 1 => by
    have := wtd_get l first ws (i + 1) j
    simp only [wtd, List.getElem?_cons_succ, this]
    rw [show i + 1 + j = i + (j + 1) by omega]

/-- Each one is above the one before. -/
def asc (W : List Int) : Prop := ∀ i, i + 1 < W.length → ∃ a b, W[i]? = some a ∧ W[i + 1]? = some b ∧ a < b
theorem asc_withZ (g : Gt) (x : Int) (n k : Nat) : asc (withZ g x n k) := by
  intro i hi
  exact ⟨_, _, List.getElem?_eq_getElem (by omega), List.getElem?_eq_getElem hi, List.pairwise_iff_getElem.1 (withZ_asc g x n k) i (i + 1) (by omega) hi (by omega)⟩

theorem asc_loop (W : List Int) (h : asc W) (hl : W.length < 4294967296) : ∀ i, i ≤ W.length → 1 ≤ i → Rglidepathlaw01_PulseBelongs_2 (Tglidepathlaw01_PulseBelongs_2b W.length (encI W) i) = exO (Xglidepathlaw01_PulseBelongs_2b ()) := by
  refine up_ind _ ?_ ?_
  · intro _
    refine Rglidepathlaw01_PulseBelongs_2b_of _ _ _ ?_
    unfold Bglidepathlaw01_PulseBelongs_2b
    rw [bif_neg (by omega)]
    rfl
  · intro i hi ih h1
    refine Rglidepathlaw01_PulseBelongs_2b_of _ _ _ ?_
    unfold Bglidepathlaw01_PulseBelongs_2b
    obtain ⟨m, rfl⟩ : ∃ m, i = m + 1 := ⟨i - 1, by omega⟩
    obtain ⟨a, b, ha, hb, hab⟩ := h m hi
    have hw : w64 (((m + 1 : Nat) : Int) - 1) = (m : Int) := by rw [w64_in (by omega)]; omega
    rw [hw, bif_pos (by omega), bif_pos (by omega), w64_in (by omega)]
    simp only [Int.toNat_natCast, Nat.mul_one, encI_get, hb, Option.map_some, intC_int, bindO_val]
    rw [bif_pos (by omega)]
    simp only [ha, Option.map_some, intC_int, bindO_val]
    rw [bif_neg (by omega)]
    exact ih (by omega)

theorem asc_start (W : List Int) (h : asc W) (hl : W.length < 4294967296) (a b c : Int) (n : Nat) (cs : List PV) : Rglidepathlaw01_PulseBelongs_2 (Tglidepathlaw01_PulseBelongs_2a W.length (encI W) a b c n cs) = exO (Xglidepathlaw01_PulseBelongs_2b ()) := by
  refine Rglidepathlaw01_PulseBelongs_2a_of _ _ _ _ _ _ _ ?_
  unfold Bglidepathlaw01_PulseBelongs_2a
  by_cases hn : 1 < W.length
  · obtain ⟨a, b, ha, hb, hab⟩ := h 0 hn
    rw [show w64 ((1 : Int) - 1) = 0 from by rw [w64_in (by omega)]; rfl, bif_pos (by omega), bif_pos (by omega)]
    rw [Nat.zero_add] at hb
    simp only [encI_get, hb, Option.map_some, intC_int, bindO_val]
    rw [bif_pos (by omega)]
    simp only [ha, Option.map_some, intC_int, bindO_val]
    rw [bif_neg (by omega)]
    exact asc_loop W h hl 2 (by omega) (by omega)
  · rw [bif_neg (by omega)]
    rfl

theorem bel31 (n0 : Nat) (c1 : List PV) (x : Int) (n3 : Nat) (c4 : List PV) (k j : Int) (n7 : Nat) (c8 : List PV) (f h c : Int) (c14 : List PV) :
    Rglidepathlaw01_PulseBelongs_1000031 (Tglidepathlaw01_PulseBelongs_1000031a n0 c1 x n3 c4 k j n7 c8 0 f h c n7 c14) = exO (Xglidepathlaw01_PulseBelongs_1000031b (n0, c1, x, n3, c4, k, j, n7, c8, f, h, c, n7, c14)) := by
  refine Rglidepathlaw01_PulseBelongs_1000031a_of _ _ _ _ _ _ _ _ _ _ _ _ _ _ _ ?_
  unfold Bglidepathlaw01_PulseBelongs_1000031a
  rw [bif_ne, if_pos rfl, bif_ne, if_pos rfl]
  rfl

theorem bel66 (n0 : Nat) (c1 : List PV) (x : Int) (n3 : Nat) (c4 : List PV) (f h c : Int) (n9 : Nat) (c10 : List PV) (hc : (n3 : Int) ≤ c) :
    Rglidepathlaw01_PulseBelongs_1000066 (Tglidepathlaw01_PulseBelongs_1000066a n0 c1 x n3 c4 0 f h c n9 c10) = exO (Xglidepathlaw01_PulseBelongs_1000066b (n0, c1, x, n3, c4, f, h, c, n9, c10)) := by
  refine Rglidepathlaw01_PulseBelongs_1000066a_of _ _ _ _ _ _ _ _ _ _ _ ?_
  unfold Bglidepathlaw01_PulseBelongs_1000066a
  rw [bif_ne, if_pos rfl, bif_neg (by omega)]
  rfl

section
variable (g : Gt) (l : List ZZ) (x : Int)

theorem bel75 : Rglidepathlaw01_PulseBelongs_1000075 (Tglidepathlaw01_PulseBelongs_1000075a l.length (encG l) x g.first g.hop g.count g.ws.length (encI g.ws)) =
    if gatesE g = 0 ∧ blockE l = 0 ∧ 0 ≤ x ∧ x < l.length then exO (Xglidepathlaw01_PulseBelongs_1000075b (l.length, encG l, x, g.first, g.hop, g.count, g.ws.length, encI g.ws)) else exO (Xglidepathlaw01_PulseBelongs_1000075a ()) := by
  obtain ⟨r, hr⟩ : ∃ r, (if gatesE g = 0 ∧ blockE l = 0 ∧ 0 ≤ x ∧ x < l.length then exO (Xglidepathlaw01_PulseBelongs_1000075b (l.length, encG l, x, g.first, g.hop, g.count, g.ws.length, encI g.ws)) else exO (Xglidepathlaw01_PulseBelongs_1000075a ())) = some r := by
    split <;> exact ⟨_, rfl⟩
  rw [hr]
  refine Rglidepathlaw01_PulseBelongs_1000075a_of _ _ _ _ _ _ _ _ ?_
  unfold Bglidepathlaw01_PulseBelongs_1000075a
  have f1 := fewGt_is g
  unfold encGt at f1
  simp only [f1, bindO_val]
  by_cases hf : g.ws.length ≤ 18
  · have f2 := refGatesErr_is g (by omega)
    have f3 := refBlockErr_is l
    unfold encGt at f2
    rw [bif_pos hf]
    simp only [f2, f3, within_is, bindO_val, bif_ne]
    by_cases h1 : gatesE g = 0
    · by_cases h2 : blockE l = 0
      · obtain ⟨l1, l2, _⟩ := block_ok h2
        rw [if_pos h1, if_pos h2, w64_in (by omega)]
        by_cases h3 : 0 ≤ x ∧ x < l.length
        · rw [if_pos ⟨h1, h2, h3⟩] at hr
          rw [bif_pos (by omega)]
          exact hr
        · rw [if_neg (fun h => h3 h.2.2)] at hr
          rw [bif_neg (by omega)]
          exact hr
      · rw [if_neg (fun h => h2 h.2.1)] at hr
        rw [if_pos h1, if_neg h2]
        exact hr
    · rw [if_neg (fun h => h1 h.1)] at hr
      rw [if_neg h1]
      exact hr
  · rw [if_neg (fun h => by have := (gate_nums h.1).2.2.2; omega)] at hr
    rw [bif_neg hf]
    exact hr

theorem bel49 (hg : gatesE g = 0) (hb : blockE l = 0) (hx : 0 ≤ x ∧ x < l.length) (k : Nat) (hk : (k : Int) < g.count) :
    Rglidepathlaw01_PulseBelongs_1000049 (Tglidepathlaw01_PulseBelongs_1000049a l.length (encG l) x (withZ g x g.count.toNat 0).length (encI (withZ g x g.count.toNat 0)) k g.first g.hop g.count g.ws.length (encI g.ws)) =
    exO (Xglidepathlaw01_PulseBelongs_1000049a (l.length, encG l, x, (withZ g x g.count.toNat 0).length, encI (withZ g x g.count.toNat 0), k, g.first, g.hop, g.count, g.ws.length, encI g.ws)) := by
  obtain ⟨⟨n1, n2⟩, ⟨n3, n4⟩, ⟨n5, n6⟩, n7, n8⟩ := gate_nums hg
  obtain ⟨m1, m2⟩ := hop_small hg hk
  obtain ⟨l1, l2, _⟩ := block_ok hb
  refine Rglidepathlaw01_PulseBelongs_1000049a_of _ _ _ _ _ _ _ _ _ _ _ ?_
  unfold Bglidepathlaw01_PulseBelongs_1000049a
  have hlen := withZ_len g x g.count.toNat 0
  have c2 := copyGt_is g (by omega)
  have c1 := copyG_is l (by omega)
  have c3 := gateOf_is l g k (by omega) (by omega)
  unfold encGt at c2 c3
  have hj : w64 (w64 (x - g.first) - w64 ((k : Int) * g.hop)) = x - g.first - k * g.hop := by
    rw [w64_in (n := (k : Int) * g.hop) (by omega), w64_in (n := x - g.first) (by omega), w64_in (by omega)]
  have hmem : decide ((k : Int) ∈ withZ g x g.count.toNat 0) = decide (inG g x k) := by
    have := mem_withZ g x k g.count.toNat 0
    apply decide_eq_decide.2
    rw [this]
    constructor
    · exact fun h => h.2
    · exact fun h => ⟨⟨by omega, by omega⟩, h⟩
  have hgo : goE l g k = openE g l.length k := by
    unfold goE first4
    rw [hg, hb, show gateE g k = 0 from if_neg (by omega)]
    simp
  have hwl : w64 ((g.ws.length : Int) - 1) = (g.ws.length : Int) - 1 := w64_in (by omega)
  have q31 : ∀ (j : Int) (cc : List PV), Lglidepathlaw01_PulseBelongs_1000031 (Tglidepathlaw01_PulseBelongs_1000031a l.length (encG l) x (withZ g x g.count.toNat 0).length (encI (withZ g x g.count.toNat 0)) k j g.ws.length cc 0 g.first g.hop g.count g.ws.length (encI g.ws)) = _ := fun j cc => Lglidepathlaw01_PulseBelongs_1000031b_of (bel31 _ _ _ _ _ _ _ _ _ _ _ _ _)
  simp only [has_is _ (k : Int) (show (withZ g x g.count.toNat 0).length < 4294967296 by omega), hmem, within_is, bindO_val, hj, hwl, c2, c1, c3, hgo]
  by_cases hi : inG g x k
  · have hi' : 0 ≤ x - g.first - k * g.hop ∧ x - g.first - k * g.hop ≤ g.ws.length - 1 := by unfold inG at hi; omega
    rw [bif_pos hi, bif_pos hi']
    by_cases ho : openE g l.length k = 0
    · simp only [ho, ne_eq, not_true_eq_false, if_false, bif_eq, show ¬ ((0 : Int) = 19) by omega, q31, bindO_val, Sum.elim_inr, within_is, hwl]
      have hbase : baseG g k = g.first + k * g.hop := by
        unfold baseG
        rw [w64_in (n := (k : Int) * g.hop) (by omega), w64_in (by omega)]
      obtain ⟨jn, hjn⟩ : ∃ jn : Nat, x - g.first - k * g.hop = jn := ⟨(x - g.first - k * g.hop).toNat, by omega⟩
      obtain ⟨xn, rfl⟩ : ∃ xn : Nat, x = xn := ⟨x.toNat, by omega⟩
      rw [hjn] at hi'
      simp only [hjn]
      have hA : 0 ≤ (jn : Int) ∧ (jn : Int) < g.ws.length := by omega
      have hB : 0 ≤ (xn : Int) ∧ (xn : Int) < l.length := by omega
      obtain ⟨w, hw, _⟩ := get_drop (l := g.ws) (i := jn) (by omega)
      obtain ⟨z, hz, _⟩ := get_drop (l := l) (i := xn) (by omega)
      have hat : w64 (baseG g k + ((0 + jn : Nat) : Int)) = (xn : Int) := by rw [hbase, w64_in (by omega)]; omega
      have hwz : wz l (xn : Int) w = (w64 (w * z.1), w64 (w * z.2)) := by
        unfold wz
        rw [if_pos hB]
        simp only [Int.toNat_natCast, hz, Option.map_some, Option.getD_some]
      simp only [hA, hB, hi', and_self, decide_true, cond_true, Int.toNat_natCast, Nat.mul_one, Nat.add_zero, encG_0, encG_1, encI_get, wtd_get, hw, hz, hat, hwz, Option.map_some, intC_int, bindO_val, beq_self_eq_true, Bool.and_true, Bool.not_true, cond_false]
      rfl
    · have h19 : openE g l.length k = 19 := by
        unfold openE at ho ⊢
        split at ho
        · rw [if_pos (by assumption)]
        · exact absurd rfl ho
      simp only [h19, ne_eq, bif_eq, if_true, show ¬ ((19 : Int) = 0) by omega, not_false_eq_true]
      rfl
  · have hi' : ¬ (0 ≤ x - g.first - k * g.hop ∧ x - g.first - k * g.hop ≤ g.ws.length - 1) := by unfold inG at hi; omega
    rw [bif_neg hi, bif_neg hi']
    by_cases ho : openE g l.length k = 0
    · simp only [ho, ne_eq, not_true_eq_false, if_false, bif_eq, show ¬ ((0 : Int) = 19) by omega, q31, bindO_val, Sum.elim_inr, within_is, hwl]
      rw [bif_neg hi']
      rfl
    · have h19 : openE g l.length k = 19 := by
        unfold openE at ho ⊢
        split at ho
        · rw [if_pos (by assumption)]
        · exact absurd rfl ho
      simp only [h19, ne_eq, bif_eq, if_true, show ¬ ((19 : Int) = 0) by omega, not_false_eq_true]
      rfl

theorem bel0 (hg : gatesE g = 0) (hb : blockE l = 0) (hx : 0 ≤ x ∧ x < l.length) : ∀ k, k ≤ g.count.toNat →
    Rglidepathlaw01_PulseBelongs_0 (Tglidepathlaw01_PulseBelongs_0a l.length (encG l) x (withZ g x g.count.toNat 0).length (encI (withZ g x g.count.toNat 0)) k g.first g.hop g.count g.ws.length (encI g.ws)) =
    exO (Xglidepathlaw01_PulseBelongs_0a ((withZ g x g.count.toNat 0).length, encI (withZ g x g.count.toNat 0), g.first, g.hop, g.count, g.ws.length, encI g.ws)) := by
  obtain ⟨_, _, ⟨n5, n6⟩, _⟩ := gate_nums hg
  refine up_ind _ ?_ ?_
  · refine Rglidepathlaw01_PulseBelongs_0a_of _ _ _ _ _ _ _ _ _ _ _ ?_
    unfold Bglidepathlaw01_PulseBelongs_0a
    rw [bif_neg (by omega)]
    rfl
  · intro k hk ih
    refine Rglidepathlaw01_PulseBelongs_0a_of _ _ _ _ _ _ _ _ _ _ _ ?_
    unfold Bglidepathlaw01_PulseBelongs_0a
    have q := Lglidepathlaw01_PulseBelongs_1000049a_of (bel49 g l x hg hb hx k (by omega))
    rw [bif_pos (by omega)]
    simp only [q, bindO_val, Sum.elim_inl]
    rw [w64_in (by omega)]
    exact ih

theorem belongs : Fglidepathlaw01_PulseBelongs [encGt g, .list l.length (encG l), .int .i64 x] = some true := by
  refine Fglidepathlaw01_PulseBelongs_of _ _ _ _ _ _ _ _ ?_
  unfold tglidepathlaw01_PulseBelongs
  simp only [awake_is, bindO_val, cond_true]
  have p := bel75 g l x
  by_cases hv : gatesE g = 0 ∧ blockE l = 0 ∧ 0 ≤ x ∧ x < l.length
  · rw [if_pos hv] at p
    have L75 := Lglidepathlaw01_PulseBelongs_1000075b_of p
    obtain ⟨hg, hb, hx⟩ := hv
    obtain ⟨_, _, ⟨n5, n6⟩, n7, n8⟩ := gate_nums hg
    obtain ⟨l1, l2, _⟩ := block_ok hb
    have hlen := withZ_len g x g.count.toNat 0
    have c2 := copyGt_is g (by omega)
    have c3 := gatesWith_is g x (by omega)
    have hr : both (gatesE g) (rangeE x 0 47) = 0 := by
      rw [hg, rangeE_in (by omega)]
      rfl
    rw [hr, if_neg (by omega)] at c3
    unfold encGt at c2 c3
    have L66 := Lglidepathlaw01_PulseBelongs_1000066b_of (bel66 l.length (encG l) x (withZ g x g.count.toNat 0).length (encI (withZ g x g.count.toNat 0)) g.first g.hop g.count g.ws.length (encI g.ws) (by omega))
    have L0 := Lglidepathlaw01_PulseBelongs_0a_of (bel0 g l x hg hb hx 0 (by omega))
    rw [show ((0 : Nat) : Int) = 0 from rfl] at L0
    have L2 := Lglidepathlaw01_PulseBelongs_2b_of (asc_start (withZ g x g.count.toNat 0) (asc_withZ g x _ _) (by omega) g.first g.hop g.count g.ws.length (encI g.ws))
    simp only [L75, bindO_val, Sum.elim_inr, c2, c3, L66, L0, Sum.elim_inl, L2]
  · rw [if_neg hv] at p
    have L75 := Lglidepathlaw01_PulseBelongs_1000075a_of p
    simp only [L75, bindO_val, Sum.elim_inl]
end
end Gv
