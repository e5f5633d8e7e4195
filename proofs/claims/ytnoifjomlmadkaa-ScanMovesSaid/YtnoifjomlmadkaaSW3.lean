/- ScanMoves: whatever the head and the directions, the law answers true. -/
import Derived.Test.YtnoifjomlmadkaaSW2
import Derived.Test.YtnoifjomlmadkaaSM5
import Derived.Test.YtnoifjomlmadkaaSM4
import Derived.Test.YtnoifjomlmadkaaSA
namespace Gv
open Go
set_option maxRecDepth 100000

theorem firstError3_is (a b c : Int) : Fn env 59 (RSh.one (CK.int IntKind.i64)) [.list 3 [.int .i64 a, .int .i64 b, .int .i64 c]] = some (first3 a b c) := by
  refine Fscan_firstError_3_of _ _ _ ?_
  unfold tscan_firstError_3 first3
  simp only [bif_ne, ne_eq, ite_not]
  by_cases h0 : a = 0 <;> by_cases h1 : b = 0 <;> by_cases h2 : c = 0 <;> simp [h0, h1, h2]
abbrev encD (a : ZZ) : PV := .agg [.int .i64 a.1, .int .i64 a.2]
section
variable (h : Hd) (hl : h.l.length < 4294967296) (a b : ZZ)
include hl
theorem moveError_is : Fscan_moveError [encH h, encD a, encD b] = some (mvE h a b) := by
  refine Fscan_moveError_of _ _ _ _ _ _ _ _ _ _ _ _ ?_
  unfold tscan_moveError
  simp only [headError_is h hl, directionError_is, firstError3_is, bindO_val]
  rfl
theorem moveTicks_is (M : Int) (hM : mvE h a b = 0 → Fscan_moveTicks [encH h, encD a, encD b] = some M) : Fscan_MoveTicks [encH h, encD a, encD b] = some (if mvE h a b = 0 then (M, 0) else (0, mvE h a b)) := by
  refine Fscan_MoveTicks_of _ _ _ _ _ _ _ _ _ _ _ _ ?_
  unfold tscan_MoveTicks
  simp only [moveError_is h hl, bindO_val, bif_ne]
  by_cases h0 : mvE h a b = 0
  · rw [if_pos h0, if_pos h0]
    simp only [hM h0, bindO_val]
  · rw [if_neg h0, if_neg h0]
theorem isDark_is : Fscan_IsDark [encH h, encD a, encD b] = some (if mvE h a b = 0 then (darkB h a b, 0) else (false, mvE h a b)) := by
  refine Fscan_IsDark_of _ _ _ _ _ _ _ _ _ _ _ _ ?_
  unfold tscan_IsDark
  simp only [moveError_is h hl, bindO_val, bif_ne]
  by_cases h0 : mvE h a b = 0
  · rw [if_pos h0, if_pos h0]
    obtain ⟨_, h2, h3⟩ := mvE_ok h0
    simp only [isDarkP_is h hl h2 h3, bindO_val]
    cases darkB h a b <;> rfl
  · rw [if_neg h0, if_neg h0]
omit hl
theorem mv25 (n : Nat) (cs : List PV) (e t f g c : Int) (is : Bool) : LL3_ScanMoves_1000025 (TL3_ScanMoves_1000025a n cs e t f is g c h.x h.y h.r1 h.a1 h.r2 h.a2 h.l.length (encS h.l) a.1 a.2 b.1 b.2) =
    some (n, cs, e, t, f, is, g, both c (dirE b.1 b.2), h.x, h.y, h.r1, h.a1, h.r2, h.a2, h.l.length, encS h.l, a.1, a.2, b.1, b.2) := by
  refine LL3_ScanMoves_1000025a_of (RL3_ScanMoves_1000025a_of _ _ _ _ _ _ _ _ _ _ _ _ _ _ _ _ _ _ _ _ ?_)
  unfold BL3_ScanMoves_1000025a both
  rw [bif_eq]
  by_cases h0 : c = 0
  · subst h0
    rw [if_pos rfl, if_neg (by simp)]
    simp only [refDirection_is, bindO_val]
    rfl
  · rw [if_neg h0, if_pos h0]
    rfl
theorem mv21_bad (t f g c : Int) (is : Bool) (hc : c ≠ 0) : LL3_ScanMoves_1000021 (TL3_ScanMoves_1000021a 0 [] c t f is g c h.x h.y h.r1 h.a1 h.r2 h.a2 h.l.length (encS h.l) a.1 a.2 b.1 b.2) =
    some (.inr (t, f, is, g, c, h.x, h.y, h.r1, h.a1, h.r2, h.a2, h.l.length, encS h.l, a.1, a.2, b.1, b.2)) := by
  refine LL3_ScanMoves_1000021b_of (RL3_ScanMoves_1000021a_of _ _ _ _ _ _ _ _ _ _ _ _ _ _ _ _ _ _ _ _ ?_)
  unfold BL3_ScanMoves_1000021a
  have h1 : (c != 0) = true := by simpa using hc
  have h2 : (c == 0) = false := by simpa using hc
  simp only [h1, h2, bne_self_eq_false, cond_true, cond_false]
  rfl
theorem mv21_ok (ha : Vd a) (hb : Vd b) (t f g : Int) (is : Bool) : LL3_ScanMoves_1000021 (TL3_ScanMoves_1000021a (ds a b + 1) (encG (wayL a b)) 0 t f is g 0 h.x h.y h.r1 h.a1 h.r2 h.a2 h.l.length (encS h.l) a.1 a.2 b.1 b.2) =
    some (.inr (t, f, is, g, 0, h.x, h.y, h.r1, h.a1, h.r2, h.a2, h.l.length, encS h.l, a.1, a.2, b.1, b.2)) := by
  have hdl := ds_le ha hb
  have hs := sameWays_is (wayL a b) (by rw [wayL_len]; omega)
  rw [wayL_len] at hs
  refine LL3_ScanMoves_1000021b_of (RL3_ScanMoves_1000021a_of _ _ _ _ _ _ _ _ _ _ _ _ _ _ _ _ _ _ _ _ ?_)
  unfold BL3_ScanMoves_1000021a
  simp only [bne_self_eq_false, beq_self_eq_true, cond_true, cond_false, refWay_is ha hb, bindO_val, hs]
  rfl
include hl
theorem mv14 (t f g c : Int) (is : Bool) : LL3_ScanMoves_1000014 (TL3_ScanMoves_1000014a t f is g c h.x h.y h.r1 h.a1 h.r2 h.a2 h.l.length (encS h.l) a.1 a.2 b.1 b.2) =
    some (t, f, is, g, (if (headIE h).2 = 0 then c else (headIE h).2), h.x, h.y, h.r1, h.a1, h.r2, h.a2, h.l.length, encS h.l, a.1, a.2, b.1, b.2) := by
  refine LL3_ScanMoves_1000014a_of (RL3_ScanMoves_1000014a_of _ _ _ _ _ _ _ _ _ _ _ _ _ _ _ _ _ ?_)
  unfold BL3_ScanMoves_1000014a
  simp only [headErr_is h hl, bindO_val, bif_ne]
  split <;> rfl
end
theorem mvE_eq (h : Hd) (a b : ZZ) : (if (headIE h).2 = 0 then both (dirE a.1 a.2) (dirE b.1 b.2) else (headIE h).2) = mvE h a b := by
  unfold mvE first3 both
  by_cases h0 : (headIE h).2 = 0
  · simp [h0]
  · simp [h0]

theorem movesLaw (h : Hd) (a b : ZZ) : FL3_ScanMoves [encH h, encD a, encD b] = some true := by
  refine FL3_ScanMoves_of _ _ _ _ _ _ _ _ _ _ _ _ ?_
  unfold tL3_ScanMoves
  simp only [awake_is, few_is h, bindO_val, cond_true]
  by_cases hf : (h.l.length : Int) ≤ 8
  · rw [bif_pos hf]
    have hl8 : h.l.length ≤ 8 := by omega
    have hl : h.l.length < 4294967296 := by omega
    have hM : ∃ M : Int, mvE h a b = 0 → (Fscan_moveTicks [encH h, encD a, encD b] = some M ∧ FR3_Move [encH h, encD a, encD b] = some M) := by
      by_cases h0 : mvE h a b = 0
      · obtain ⟨h1, h2, h3⟩ := mvE_ok h0
        obtain ⟨T1, T2, _, _, _, _, f1, f2⟩ := moves_are (hdD_of h1) h2 h3
        exact ⟨_, fun _ => ⟨f1, f2⟩⟩
      · exact ⟨0, fun hh => absurd hh h0⟩
    obtain ⟨M, hM⟩ := hM
    have ht := moveTicks_is h hl a b M fun h0 => (hM h0).1
    have hi := isDark_is h hl a b
    obtain ⟨n, cs, e, hw, h21⟩ : ∃ n cs e, Fscan_WayOf [encD a, encD b] = some ((n, cs), e) ∧ ∀ (t f g : Int) (is : Bool), LL3_ScanMoves_1000021 (TL3_ScanMoves_1000021a n cs e t f is g (both (dirE a.1 a.2) (dirE b.1 b.2)) h.x h.y h.r1 h.a1 h.r2 h.a2 h.l.length (encS h.l) a.1 a.2 b.1 b.2) =
        some (.inr (t, f, is, g, both (dirE a.1 a.2) (dirE b.1 b.2), h.x, h.y, h.r1, h.a1, h.r2, h.a2, h.l.length, encS h.l, a.1, a.2, b.1, b.2)) := by
      have hw := wayOf_is a b
      by_cases h0 : both (dirE a.1 a.2) (dirE b.1 b.2) = 0
      · rw [if_pos h0] at hw
        obtain ⟨h1, h2⟩ := both_nil h0
        rw [h0]
        exact ⟨_, _, _, hw, fun t f g is => mv21_ok h a b (dirE_v h1) (dirE_v h2) t f g is⟩
      · rw [if_neg h0] at hw
        exact ⟨_, _, _, hw, fun t f g is => mv21_bad h a b t f g _ is h0⟩
    have fin : ∀ (is : Bool) (t f g : Int), (if mvE h a b = 0 then (M, (0 : Int)) else (0, mvE h a b)) = (t, f) → (if mvE h a b = 0 then (darkB h a b, (0 : Int)) else (false, mvE h a b)) = (is, g) →
        (bindO (LL3_ScanMoves_1000014 (TL3_ScanMoves_1000014a t f is g (both (dirE a.1 a.2) (dirE b.1 b.2)) h.x h.y h.r1 h.a1 h.r2 h.a2 h.l.length (encS h.l) a.1 a.2 b.1 b.2)) fun y11 =>
          bif (y11.2.2.2.2.1 != (0 : Int)) then
            bif (y11.2.1 == y11.2.2.2.2.1) then
              bif (y11.2.2.2.1 == y11.2.2.2.2.1) then
                bif (y11.1 == (0 : Int)) then
                  bif y11.2.2.1 then some false else some true
                else some false
              else some false
            else some false
          else bif (y11.2.1 == (0 : Int)) then
            bindO (FR3_Move [(PV.agg [(PV.int IntKind.i64 y11.2.2.2.2.2.1), (PV.int IntKind.i64 y11.2.2.2.2.2.2.1), (PV.int IntKind.i64 y11.2.2.2.2.2.2.2.1), (PV.int IntKind.i64 y11.2.2.2.2.2.2.2.2.1), (PV.int IntKind.i64 y11.2.2.2.2.2.2.2.2.2.1), (PV.int IntKind.i64 y11.2.2.2.2.2.2.2.2.2.2.1), (PV.list y11.2.2.2.2.2.2.2.2.2.2.2.1 y11.2.2.2.2.2.2.2.2.2.2.2.2.1)]), (PV.agg [(PV.int IntKind.i64 y11.2.2.2.2.2.2.2.2.2.2.2.2.2.1), (PV.int IntKind.i64 y11.2.2.2.2.2.2.2.2.2.2.2.2.2.2.1)]), (PV.agg [(PV.int IntKind.i64 y11.2.2.2.2.2.2.2.2.2.2.2.2.2.2.2.1), (PV.int IntKind.i64 y11.2.2.2.2.2.2.2.2.2.2.2.2.2.2.2.2)])]) fun (y12 : (Int)) =>
            bif (y11.1 == y12) then
              bif (y11.2.2.2.1 == (0 : Int)) then
                bif y11.2.2.1 then
                  bindO (FR3_IsDark [(PV.agg [(PV.int IntKind.i64 y11.2.2.2.2.2.1), (PV.int IntKind.i64 y11.2.2.2.2.2.2.1), (PV.int IntKind.i64 y11.2.2.2.2.2.2.2.1), (PV.int IntKind.i64 y11.2.2.2.2.2.2.2.2.1), (PV.int IntKind.i64 y11.2.2.2.2.2.2.2.2.2.1), (PV.int IntKind.i64 y11.2.2.2.2.2.2.2.2.2.2.1), (PV.list y11.2.2.2.2.2.2.2.2.2.2.2.1 y11.2.2.2.2.2.2.2.2.2.2.2.2.1)]), (PV.agg [(PV.int IntKind.i64 y11.2.2.2.2.2.2.2.2.2.2.2.2.2.1), (PV.int IntKind.i64 y11.2.2.2.2.2.2.2.2.2.2.2.2.2.2.1)]), (PV.agg [(PV.int IntKind.i64 y11.2.2.2.2.2.2.2.2.2.2.2.2.2.2.2.1), (PV.int IntKind.i64 y11.2.2.2.2.2.2.2.2.2.2.2.2.2.2.2.2)])]) fun (y13 : (Bool)) =>
                  bif y13 then some true else some false
                else bindO (FR3_IsDark [(PV.agg [(PV.int IntKind.i64 y11.2.2.2.2.2.1), (PV.int IntKind.i64 y11.2.2.2.2.2.2.1), (PV.int IntKind.i64 y11.2.2.2.2.2.2.2.1), (PV.int IntKind.i64 y11.2.2.2.2.2.2.2.2.1), (PV.int IntKind.i64 y11.2.2.2.2.2.2.2.2.2.1), (PV.int IntKind.i64 y11.2.2.2.2.2.2.2.2.2.2.1), (PV.list y11.2.2.2.2.2.2.2.2.2.2.2.1 y11.2.2.2.2.2.2.2.2.2.2.2.2.1)]), (PV.agg [(PV.int IntKind.i64 y11.2.2.2.2.2.2.2.2.2.2.2.2.2.1), (PV.int IntKind.i64 y11.2.2.2.2.2.2.2.2.2.2.2.2.2.2.1)]), (PV.agg [(PV.int IntKind.i64 y11.2.2.2.2.2.2.2.2.2.2.2.2.2.2.2.1), (PV.int IntKind.i64 y11.2.2.2.2.2.2.2.2.2.2.2.2.2.2.2.2)])]) fun (y14 : (Bool)) =>
                bif y14 then some false else some true
              else some false
            else some false
          else some false) = some true := by
      intro is t f g h1 h2
      simp only [mv14 h hl, bindO_val, mvE_eq]
      by_cases h0 : mvE h a b = 0
      · rw [if_pos h0] at h1 h2
        obtain ⟨k1, k2, k3⟩ := mvE_ok h0
        have hd := refDark_is h hl (headIE_ok k1).2.2.2.2.1 k2 k3
        have hm := (hM h0).2
        simp only [Prod.mk.injEq] at h1 h2
        obtain ⟨rfl, rfl⟩ := h1
        obtain ⟨rfl, rfl⟩ := h2
        rw [h0]
        simp only [hd, hm, bindO_val, bne_self_eq_false, beq_self_eq_true, cond_true, cond_false]
        cases darkB h a b <;> rfl
      · rw [if_neg h0] at h1 h2
        simp only [Prod.mk.injEq] at h1 h2
        obtain ⟨rfl, rfl⟩ := h1
        obtain ⟨rfl, rfl⟩ := h2
        rw [bif_ne, if_neg h0]
        simp only [beq_self_eq_true, cond_true, cond_false]
    have hdir := refDirection_is a.1 a.2
    obtain ⟨is, g, hig⟩ : ∃ is g, (if mvE h a b = 0 then (darkB h a b, (0 : Int)) else (false, mvE h a b)) = (is, g) := ⟨_, _, rfl⟩
    obtain ⟨t, f, htf⟩ : ∃ t f, (if mvE h a b = 0 then (M, (0 : Int)) else (0, mvE h a b)) = (t, f) := ⟨_, _, rfl⟩
    have hfin := fin is t f g htf hig
    rw [hig] at hi
    rw [htf] at ht
    simp only [copyHead_is h hl8, bindO_val, hw, ht, hi, hdir, mv25, h21, Sum.elim_inr]
    cases is <;> exact hfin
  · rw [bif_neg hf]
end Gv
