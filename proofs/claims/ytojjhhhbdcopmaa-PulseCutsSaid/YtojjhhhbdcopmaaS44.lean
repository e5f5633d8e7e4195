/- The law PulseCuts, its first half: the sum of the pieces is the sum of the stream; its parts are as they should be. -/
import Derived.Test.YtojjhhhbdcopmaaS43
import Derived.Test.YtojjhhhbdcopmaaP30
namespace Gv
open Go
set_option maxRecDepth 100000

theorem mod_any (a b : Int) (hb : 1 ≤ b ∧ b ≤ 4611686018427387904) : Fglidepathbase_Mod [.int .i64 a, .int .i64 b] = some (a % b) := by
  refine Fglidepathbase_Mod_of _ _ ?_
  unfold tglidepathbase_Mod
  rw [bif_pos (by omega)]
  have h0 : a.tmod b = if 0 ≤ a then a % b else -((-a) % b) := by
    split
    · rw [Int.tmod_eq_emod_of_nonneg (by assumption)]
    · have := Int.neg_tmod (a := -a) (b := b)
      rw [Int.neg_neg] at this
      rw [this, Int.tmod_eq_emod_of_nonneg (by omega)]
  have h1 := Int.emod_nonneg a (by omega : b ≠ 0)
  have h2 := Int.emod_lt_of_pos a (by omega : 0 < b)
  have h3 := Int.emod_nonneg (-a) (by omega : b ≠ 0)
  have h4 := Int.emod_lt_of_pos (-a) (by omega : 0 < b)
  by_cases hs : 0 ≤ a
  · rw [h0, if_pos hs, bif_neg (by omega)]
  · rw [h0, if_neg hs]
    have e : a % b = if (-a) % b = 0 then 0 else b - (-a) % b := by
      rw [Int.neg_emod]
      by_cases hd : b ∣ a
      · have : a % b = 0 := Int.emod_eq_zero_of_dvd hd
        simp [hd, this]
      · have hn : a % b ≠ 0 := fun h => hd (Int.dvd_of_emod_eq_zero h)
        have hb' : (b.natAbs : Int) = b := by omega
        simp only [if_neg hd, hb']
        split <;> omega
    by_cases hz : (-a) % b = 0
    · rw [hz, bif_neg (by omega), e, if_pos hz]; rfl
    · rw [bif_pos (by omega), w64_in (by omega), e, if_neg hz]
      congr 1
      omega

theorem block_of {l : List ZZ} (h1 : 1 ≤ l.length ∧ l.length ≤ 48) (h2 : ∀ z ∈ l, Small 1000 z) : blockE l = 0 := by
  unfold blockE listE
  rw [if_neg (by omega), if_neg (by omega), findE_all 0 (fun z hz => gauss_of (h2 z hz))]
  rfl

/-! The sum of nothing -/
def zsC (g : Nat) : List PV := rep [PV.int .i64 0, PV.int .i64 0] g
theorem rep_zero : ∀ g : Nat, rep [PV.int .i64 0, PV.int .i64 0] g = encG (List.replicate g (0, 0))
  | 0 => rfl
  | g + 1 => by
    rw [rep, rep_zero g, List.replicate_succ, show encG ((0, 0) :: List.replicate g (0, 0)) = encG ([(0, 0)] ++ List.replicate g (0, 0)) from rfl, encG_app]
    rfl
theorem suL_len (u : List ZZ) (g : Nat) : (suL u g).length = g := tabZ_len _ _
theorem zs_enc (g : Nat) : zsC g = encG (suL [] g) := by
  unfold zsC
  rw [rep_zero]
  congr 1
  symm
  refine List.eq_replicate_iff.2 ⟨suL_len _ _, fun z hz => ?_⟩
  obtain ⟨i, _, rfl⟩ := tabZ_mem hz
  unfold corr
  rw [List.drop_nil]
  rfl
theorem zs_len (g : Nat) : (zsC g).length = g * 2 := by rw [zs_enc, encG_len, suL_len]

/-! The pieces -/
def cutP (l : List ZZ) (a b : Nat) : Nat → List ZZ
  | 0 => l.take a
  | 1 => (l.drop a).take (b - a)
  | _ => l.drop b
def cutU (l : List ZZ) (a b : Nat) : Nat → List ZZ
  | 0 => []
  | 1 => l.take a
  | 2 => l.take b
  | _ => l

structure Cut (l : List ZZ) (a b g : Nat) : Prop where
  hab : a ≤ b
  hb : b ≤ l.length
  hl : l.length ≤ 30
  he : blockE l = 0
  hg : 1 ≤ g ∧ g ≤ 12

section
variable {l : List ZZ} {a b g : Nat}

theorem Cut.small (h : Cut l a b g) : ∀ z ∈ l, Small 1000 z := (block_ok h.he).2.2
theorem Cut.ne (h : Cut l a b g) : l ≠ [] := fun e => by
  have := (block_ok h.he).1
  rw [e] at this
  simp at this
theorem cut_next (h : Cut l a b g) : ∀ k, k < 3 → cutU l a b (k + 1) = cutU l a b k ++ cutP l a b k
  | 0, _ => rfl
  | 1, _ => by
    have h1 := h.hab
    have : l.take b = l.take (a + (b - a)) := by rw [show a + (b - a) = b by omega]
    show l.take b = l.take a ++ (l.drop a).take (b - a)
    rw [this, List.take_add]
  | 2, _ => (List.take_append_drop b l).symm
  | _ + 3, hk => by omega
theorem cutU_le (l : List ZZ) (a b : Nat) : ∀ k, (cutU l a b k).length ≤ l.length ∧ ∀ z ∈ cutU l a b k, z ∈ l
  | 0 => ⟨by simp [cutU], fun z hz => by simp [cutU] at hz⟩
  | 1 => ⟨by simp only [cutU, List.length_take]; omega, fun z hz => List.mem_of_mem_take hz⟩
  | 2 => ⟨by simp only [cutU, List.length_take]; omega, fun z hz => List.mem_of_mem_take hz⟩
  | _ + 3 => ⟨Nat.le_refl _, fun z hz => hz⟩
theorem cutP_le (l : List ZZ) (a b : Nat) : ∀ k, (cutP l a b k).length ≤ l.length ∧ ∀ z ∈ cutP l a b k, z ∈ l
  | 0 => ⟨by simp only [cutP, List.length_take]; omega, fun z hz => List.mem_of_mem_take hz⟩
  | 1 => ⟨by simp only [cutP, List.length_take, List.length_drop]; omega, fun z hz => List.mem_of_mem_drop (List.mem_of_mem_take hz)⟩
  | _ + 2 => ⟨by simp only [cutP, List.length_drop]; omega, fun z hz => List.mem_of_mem_drop hz⟩
theorem Cut.piece (h : Cut l a b g) (k : Nat) (hp : cutP l a b k ≠ []) : blockE (cutP l a b k) = 0 := by
  obtain ⟨h1, h2⟩ := cutP_le l a b k
  have h3 := List.length_pos_iff.2 hp
  have h4 := h.hl
  exact block_of ⟨by omega, by omega⟩ fun z hz => h.small z (h2 z hz)
theorem cut_read (h : Cut l a b g) (k : Nat) (hk : k < 3) :
    [PV.list a (List.take (a * 2) (encG l)), PV.list (b - a) (List.take ((b - a) * 2) (List.drop (a * 2) (encG l))), PV.list (l.length - b) (List.take ((l.length - b) * 2) (List.drop (b * 2) (encG l)))][k * 1]? =
      some (PV.list (cutP l a b k).length (encG (cutP l a b k))) := by
  have h1 := h.hab
  have h2 := h.hb
  rw [encG_take, encG_drop, encG_take, encG_drop, encG_take, List.take_of_length_le (l := l.drop b) (by simp)]
  have hk' : k = 0 ∨ k = 1 ∨ k = 2 := by omega
  rcases hk' with rfl | rfl | rfl
  · show some (PV.list a (encG (l.take a))) = some (PV.list (l.take a).length (encG (l.take a)))
    rw [List.length_take, Nat.min_eq_left (by omega)]
  · show some (PV.list (b - a) (encG ((l.drop a).take (b - a)))) = some (PV.list ((l.drop a).take (b - a)).length (encG ((l.drop a).take (b - a))))
    rw [List.length_take, List.length_drop, Nat.min_eq_left (by omega)]
  · show some (PV.list (l.length - b) (encG (l.drop b))) = some (PV.list (l.drop b).length (encG (l.drop b)))
    rw [List.length_drop]
end

section
variable {l : List ZZ} {a b g : Nat}
theorem st83a {u : List ZZ} (n0 : Nat) (c1 : List PV) (i2 i3 i4 i5 : Int) (n7 : Nat) (c13 : List PV) (hg : 1 ≤ g ∧ g ≤ 12) (hu : ∀ z ∈ u, Small 1000 z) (hl : u.length ≤ 300) :
    LCuts_1000083 (TCuts_1000083a n0 c1 i2 i3 i4 i5 0 n7 (suL u g).length (encG (suL u g)) (suT u g).length (encG (suT u g)) ((u.length : Nat) : Int) c13) =
      some (.inr (.inl (n0, c1, i2, i3, i4, i5, n7, (suL u g).length, encG (suL u g), (suT u g).length, encG (suT u g), ((u.length : Nat) : Int), c13))) := by
  have hT := suT_len u g
  refine LCuts_1000083b_of (RCuts_1000083a_of _ _ _ _ _ _ _ _ _ _ _ _ _ _ ?_)
  unfold BCuts_1000083a
  simp only [refSumErr_is (suL u g) (suT u g) ((u.length : Nat) : Int) (by omega), su_ok hg hu (by omega), bindO_val, bne_self_eq_false, cond_false]
  rfl
theorem st83b {u : List ZZ} (n0 : Nat) (c1 : List PV) (i2 i3 i4 i5 : Int) (n7 : Nat) (c8 : List PV) (n9 : Nat) (c10 : List PV) (i11 : Int) (c17 : List PV) (hg : 1 ≤ g ∧ g ≤ 12) (hu : ∀ z ∈ u, Small 1000 z) (hl : u.length ≤ 300) :
    LCuts_1000083 (TCuts_1000083b n0 c1 i2 i3 i4 i5 0 n7 c8 n9 c10 i11 (suL u g).length (encG (suL u g)) (suT u g).length (encG (suT u g)) ((u.length : Nat) : Int) c17) =
      some (.inr (.inr (n0, c1, i2, i3, i4, i5, n7, c8, n9, c10, i11, (suL u g).length, encG (suL u g), (suT u g).length, encG (suT u g), ((u.length : Nat) : Int), c17))) := by
  have hT := suT_len u g
  refine LCuts_1000083c_of (RCuts_1000083b_of _ _ _ _ _ _ _ _ _ _ _ _ _ _ _ _ _ _ ?_)
  unfold BCuts_1000083b
  simp only [refSumErr_is (suL u g) (suT u g) ((u.length : Nat) : Int) (by omega), su_ok hg hu (by omega), bindO_val, bne_self_eq_false, cond_false]
  rfl

/-- What a piece makes of the sum: still nothing, or the sum of what has come. -/
def RY (l : List ZZ) (a b g k : Nat) (u : List ZZ) : YCuts_1000094 :=
  if u = [] then .inl (l.length, encG l, (g : Int), (a : Int), (b : Int), (k : Int), g, zsC g)
  else .inr (.inr (l.length, encG l, (g : Int), (a : Int), (b : Int), (k : Int), (suL u g).length, encG (suL u g), (suT u g).length, encG (suT u g), ((u.length : Nat) : Int), zsC g))

theorem len_ne {p : List ZZ} (hp : p ≠ []) : (((p.length : Nat) : Int) == (0 : Int)) = false := by simpa using hp

theorem st94a (h : Cut l a b g) (k : Nat) (hk : k < 3) :
    LCuts_1000094 (TCuts_1000094a l.length (encG l) (g : Int) (a : Int) (b : Int) (k : Int) g (zsC g)) = some (RY l a b g k (cutP l a b k)) := by
  have hr := cut_read h k hk
  have hs := h.small
  have hpc := h.piece k
  have hpl := cutP_le l a b k
  obtain ⟨hab, hb, hl, he, hg⟩ := h
  have hz := zs_len g
  unfold RY
  by_cases hp : cutP l a b k = []
  · rw [if_pos hp]
    refine LCuts_1000094a_of (RCuts_1000094a_of _ _ _ _ _ _ _ _ ?_)
    unfold BCuts_1000094a
    simp only [Int.toNat_natCast, Nat.sub_zero, Nat.zero_mul, Nat.zero_add, List.drop_zero, encG_len]
    rw [bif_pos (by omega), bif_pos (by omega), bif_pos (by omega), bif_pos (by omega), bif_pos (by omega), bif_pos (by omega), bif_pos (by omega), hr, hp]
    simp only [listC_list, bindO_val]
    rfl
  · rw [if_neg hp]
    refine LCuts_1000094c_of (RCuts_1000094a_of _ _ _ _ _ _ _ _ ?_)
    unfold BCuts_1000094a
    simp only [Int.toNat_natCast, Nat.sub_zero, Nat.zero_mul, Nat.zero_add, List.drop_zero, encG_len]
    rw [bif_pos (by omega), bif_pos (by omega), bif_pos (by omega), bif_pos (by omega), bif_pos (by omega), bif_pos (by omega), bif_pos (by omega), hr]
    simp only [listC_list, bindO_val]
    rw [len_ne hp, cond_false, bif_pos (by omega), List.take_of_length_le (by omega)]
    have e1 : PV.agg [.list g (zsC g), .list 0 [], .int .i64 0] = PV.agg [.list (suL [] g).length (encG (suL [] g)), .list (suT [] g).length (encG (suT [] g)), .int .i64 ((([] : List ZZ).length : Nat) : Int)] := by
      rw [← zs_enc, suL_len]; rfl
    have e2 := su_added (u := []) (p := cutP l a b k) hg (fun z hz => by cases hz) (hpc hp) (by simp)
    have hcs := copySum_is (suL [] g) (suT [] g) ((([] : List ZZ).length : Nat) : Int) (by rw [suL_len]; omega) (by rw [suT_len]; simp)
    rw [e1]
    simp only [hcs, bindO_val, copyG_is (cutP l a b k) (by omega), e2, EG]
    rw [List.nil_append, st83a _ _ _ _ _ _ _ _ hg (fun z hz => hs z (hpl.2 z hz)) (by omega)]
    rfl

theorem st94b (h : Cut l a b g) (k : Nat) (hk : k < 3) (hu : cutU l a b k ≠ []) :
    LCuts_1000094 (TCuts_1000094b l.length (encG l) (g : Int) (a : Int) (b : Int) (k : Int) (suL (cutU l a b k) g).length (encG (suL (cutU l a b k) g)) (suT (cutU l a b k) g).length (encG (suT (cutU l a b k) g)) (((cutU l a b k).length : Nat) : Int) (zsC g)) =
      some (RY l a b g k (cutU l a b (k + 1))) := by
  have hr := cut_read h k hk
  have hs := h.small
  have hpc := h.piece k
  have hpl := cutP_le l a b k
  have hul := cutU_le l a b k
  have hnx := cut_next h k hk
  have hnl := cutU_le l a b (k + 1)
  obtain ⟨hab, hb, hl, he, hg⟩ := h
  have hz := zs_len g
  have hn : cutU l a b (k + 1) ≠ [] := by rw [hnx]; simp [hu]
  unfold RY
  rw [if_neg hn]
  refine LCuts_1000094c_of (RCuts_1000094b_of _ _ _ _ _ _ _ _ _ _ _ _ ?_)
  unfold BCuts_1000094b
  simp only [Int.toNat_natCast, Nat.sub_zero, Nat.zero_mul, Nat.zero_add, List.drop_zero, encG_len]
  rw [bif_pos (by omega), bif_pos (by omega), bif_pos (by omega), bif_pos (by omega), bif_pos (by omega), bif_pos (by omega), bif_pos (by omega), hr]
  by_cases hp : cutP l a b k = []
  · rw [hp]
    rw [hp, List.append_nil] at hnx
    rw [hnx]
    simp only [listC_list, bindO_val]
    rfl
  · simp only [listC_list, bindO_val]
    rw [len_ne hp, cond_false]
    have e2 := su_added (u := cutU l a b k) (p := cutP l a b k) hg (fun z hz => hs z (hul.2 z hz)) (hpc hp) (by omega)
    have hcs := copySum_is (suL (cutU l a b k) g) (suT (cutU l a b k) g) (((cutU l a b k).length : Nat) : Int) (by rw [suL_len]; omega) (by rw [suT_len]; omega)
    simp only [hcs, bindO_val, copyG_is (cutP l a b k) (by omega), e2, EG]
    rw [← hnx, st83b _ _ _ _ _ _ _ _ _ _ _ _ hg (fun z hz => hs z (hnl.2 z hz)) (by omega)]
    rfl

/-- Before a piece: nothing has come yet, or something has. -/
def TW0 (l : List ZZ) (a b g k : Nat) (u : List ZZ) : Q :=
  if u = [] then TCuts_0b l.length (encG l) (g : Int) (a : Int) (b : Int) (k : Int) g (zsC g)
  else TCuts_0c l.length (encG l) (g : Int) (a : Int) (b : Int) (k : Int) (suL u g).length (encG (suL u g)) (suT u g).length (encG (suT u g)) ((u.length : Nat) : Int) (zsC g)

theorem st0_next (h : Cut l a b g) (k : Nat) (hk : k < 3) {r : Ext × S} (hr : RCuts_0 (TW0 l a b g (k + 1) (cutU l a b (k + 1))) = some r) : RCuts_0 (TW0 l a b g k (cutU l a b k)) = some r := by
  have hw : w64 ((k : Int) + 1) = ((k + 1 : Nat) : Int) := by rw [w64_in (by omega)]; omega
  have hnx := cut_next h k hk
  unfold TW0 at hr ⊢
  by_cases hu : cutU l a b k = []
  · rw [if_pos hu]
    rw [hu, List.nil_append] at hnx
    refine RCuts_0b_of _ _ _ _ _ _ _ _ ?_
    unfold BCuts_0b
    rw [bif_pos (by omega), st94a h k hk, bindO_val, ← hnx]
    unfold RY
    by_cases hp : cutU l a b (k + 1) = []
    · rw [if_pos hp] at hr ⊢
      simp only [Sum.elim_inl, hw]
      exact hr
    · rw [if_neg hp] at hr ⊢
      simp only [Sum.elim_inr, hw]
      exact hr
  · rw [if_neg hu]
    have hp : cutU l a b (k + 1) ≠ [] := by rw [hnx]; simp [hu]
    refine RCuts_0c_of _ _ _ _ _ _ _ _ _ _ _ _ ?_
    unfold BCuts_0c
    rw [bif_pos (by omega), st94b h k hk hu, bindO_val]
    unfold RY
    rw [if_neg hp] at hr ⊢
    simp only [Sum.elim_inr, hw]
    exact hr

theorem loop0 (h : Cut l a b g) (i5 i6 : Int) : LCuts_0 (TCuts_0a l.length (encG l) (g : Int) (a : Int) (b : Int) i5 i6 g (zsC g)) =
    some (.inr (.inr (l.length, encG l, (g : Int), (suL l g).length, encG (suL l g), (suT l g).length, encG (suT l g), ((l.length : Nat) : Int), zsC g))) := by
  refine LCuts_0c_of ?_
  have h3 : RCuts_0 (TW0 l a b g 3 (cutU l a b 3)) = exO (XCuts_0c (l.length, encG l, (g : Int), (suL l g).length, encG (suL l g), (suT l g).length, encG (suT l g), ((l.length : Nat) : Int), zsC g)) := by
    unfold TW0
    rw [show cutU l a b 3 = l from rfl, if_neg h.ne]
    refine RCuts_0c_of _ _ _ _ _ _ _ _ _ _ _ _ ?_
    unfold BCuts_0c
    rw [bif_neg (by omega)]
    rfl
  have h1 := st0_next h 1 (by omega) (st0_next h 2 (by omega) h3)
  refine RCuts_0a_of _ _ _ _ _ _ _ _ _ ?_
  unfold BCuts_0a
  have hs := st94a h 0 (by omega)
  have hs : LCuts_1000094 (TCuts_1000094a l.length (encG l) (g : Int) (a : Int) (b : Int) 0 g (zsC g)) = some (RY l a b g 0 (cutU l a b 1)) := hs
  have hw : w64 (((0 : Nat) : Int) + 1) = ((1 : Nat) : Int) := by rw [w64_in (by omega)]; rfl
  rw [hs, bindO_val]
  unfold TW0 at h1
  unfold RY
  by_cases hp : cutU l a b 1 = []
  · rw [if_pos hp] at h1 ⊢
    simp only [Sum.elim_inl, hw]
    exact h1
  · rw [if_neg hp] at h1 ⊢
    simp only [Sum.elim_inr, hw]
    exact h1

theorem st76 (h : Cut l a b g) : LCuts_1000076 (TCuts_1000076b l.length (encG l) (g : Int) (suL l g).length (encG (suL l g)) (suT l g).length (encG (suT l g)) ((l.length : Nat) : Int) (zsC g)) =
    some (.inr (.inr (l.length, encG l, (g : Int), (suL l g).length, encG (suL l g), (suT l g).length, encG (suT l g), ((l.length : Nat) : Int), zsC g))) := by
  obtain ⟨hab, hb, hl, he, hg⟩ := h
  have hm : w64 ((l.length : Int) - (if w64 ((g : Int) - 1) < (l.length : Int) then w64 ((g : Int) - 1) else (l.length : Int))) = ((l.length - min l.length (g - 1) : Nat) : Int) := by
    rw [w64_in (n := (g : Int) - 1) (by omega)]
    split
    · rw [w64_in (by omega)]; omega
    · rw [w64_in (by omega)]; omega
  have hT := suT_len l g
  refine LCuts_1000076c_of (RCuts_1000076b_of _ _ _ _ _ _ _ _ _ ?_)
  unfold BCuts_1000076b
  rw [suL_len]
  simp only [hm, bne_self_eq_false, cond_false, Int.toNat_natCast, encG_len]
  rw [bif_pos (by omega), bif_pos (by omega), encG_drop, encG_take]
  have e1 : (l.drop (l.length - min l.length (g - 1))).take (l.length - (l.length - min l.length (g - 1))) = suT l g := by
    unfold suT
    exact List.take_of_length_le (by simp)
  have e2 : l.length - (l.length - min l.length (g - 1)) = (suT l g).length := by omega
  rw [e1, e2]
  simp only [gausses_same (suT l g) (by omega), bindO_val, cond_true]
  rfl

theorem corr_at (h : Cut l a b g) (n : Nat) (hn : n < g) : Fpulse_CorrelationOf [.list l.length (encG l), .int .i64 (n : Int)] = some ((corr l n).1, (corr l n).2, 0) := by
  have hg := h.hg
  have hl := h.hl
  rw [corrOf_is l n (by omega), h.he, rangeE_in (by omega), if_neg (by simp [both])]
  rw [Int.toNat_natCast]
  rfl

theorem loop2_at (h : Cut l a b g) : ∀ n, n ≤ g →
    RCuts_2 (TCuts_2b l.length (encG l) (g : Int) (n : Int) (suL l g).length (encG (suL l g)) (suT l g).length (encG (suT l g)) ((l.length : Nat) : Int) (zsC g)) =
      exO (XCuts_2c (l.length, encG l, (g : Int), (suL l g).length, encG (suL l g), (suT l g).length, encG (suT l g), ((l.length : Nat) : Int), zsC g)) := by
  have hg := h.hg
  have hl := h.hl
  refine up_ind _ ?_ ?_
  · refine RCuts_2b_of _ _ _ _ _ _ _ _ _ _ ?_
    unfold BCuts_2b
    rw [bif_neg (by omega)]
    rfl
  · intro n hn ih
    have hw : w64 ((n : Int) + 1) = ((n + 1 : Nat) : Int) := by rw [w64_in (by omega)]; omega
    have h59 : LCuts_1000059 (TCuts_1000059b l.length (encG l) (g : Int) (n : Int) (suL l g).length (encG (suL l g)) (suT l g).length (encG (suT l g)) ((l.length : Nat) : Int) (zsC g)) =
        some (.inr (.inr (l.length, encG l, (g : Int), (n : Int), (suL l g).length, encG (suL l g), (suT l g).length, encG (suT l g), ((l.length : Nat) : Int), zsC g))) := by
      refine LCuts_1000059c_of (RCuts_1000059b_of _ _ _ _ _ _ _ _ _ _ ?_)
      unfold BCuts_1000059b
      simp only [copyG_is l (by omega), corr_at h n hn, bindO_val, bne_self_eq_false, cond_false, Int.toNat_natCast]
      have hz : (suL l g)[n]? = some (corr l n) := tabZ_get _ hn
      rw [bif_pos (by rw [suL_len]; omega), encG_0, encG_1, hz]
      simp only [Option.map_some, intC_int, bindO_val, beq_self_eq_true, Bool.and_self, Bool.not_true, cond_false]
      rfl
    refine RCuts_2b_of _ _ _ _ _ _ _ _ _ _ ?_
    unfold BCuts_2b
    rw [bif_pos (by omega), h59, bindO_val]
    simp only [Sum.elim_inr, hw]
    exact ih
theorem loop2 (h : Cut l a b g) : LCuts_2 (TCuts_2b l.length (encG l) (g : Int) 0 (suL l g).length (encG (suL l g)) (suT l g).length (encG (suT l g)) ((l.length : Nat) : Int) (zsC g)) =
    some (.inr (.inr (l.length, encG l, (g : Int), (suL l g).length, encG (suL l g), (suT l g).length, encG (suT l g), ((l.length : Nat) : Int), zsC g))) :=
  LCuts_2c_of (loop2_at h 0 (Nat.zero_le _))
end
end Gv
