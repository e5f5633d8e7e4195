/- ScanHeads: whatever the head and the direction, the law answers true. -/
import Derived.Test.YtnoifjomlmadkaaSH2
import Derived.Test.YtnoifjomlmadkaaSA
namespace Gv
open Go
set_option maxRecDepth 100000

section
variable (h : Hd) (x y : Int)
theorem hd19 (a e f : Int) (b : Bool) : Lglidepathlaw03_ScanHeads_1000019 (Tglidepathlaw03_ScanHeads_1000019a a e b f a e h.x h.y h.r1 h.a1 h.r2 h.a2 h.l.length (encS h.l) x y) = some (.inr (b, f, e, h.x, h.y, h.r1, h.a1, h.r2, h.a2, h.l.length, encS h.l, x, y)) := by
  refine Lglidepathlaw03_ScanHeads_1000019b_of (Rglidepathlaw03_ScanHeads_1000019a_of _ _ _ _ _ _ _ _ _ _ _ _ _ _ _ _ ?_)
  unfold Bglidepathlaw03_ScanHeads_1000019a
  simp only [bne_self_eq_false, cond_false]
  rfl
theorem hd12 (f e : Int) (b : Bool) : Lglidepathlaw03_ScanHeads_1000012 (Tglidepathlaw03_ScanHeads_1000012a b f e h.x h.y h.r1 h.a1 h.r2 h.a2 h.l.length (encS h.l) x y) = some (b, f, both e (dirE x y), h.x, h.y, h.r1, h.a1, h.r2, h.a2, h.l.length, encS h.l, x, y) := by
  refine Lglidepathlaw03_ScanHeads_1000012a_of (Rglidepathlaw03_ScanHeads_1000012a_of _ _ _ _ _ _ _ _ _ _ _ _ _ ?_)
  unfold Bglidepathlaw03_ScanHeads_1000012a both
  rw [bif_eq]
  by_cases h0 : e = 0
  · subst h0
    rw [if_pos rfl, if_neg (by simp)]
    simp only [refDirection_is, bindO_val]
    rfl
  · rw [if_neg h0, if_pos h0]
    rfl
theorem headsLaw : Fglidepathlaw03_ScanHeads [encH h, .agg [.int .i64 x, .int .i64 y]] = some true := by
  refine Fglidepathlaw03_ScanHeads_of _ _ _ _ _ _ _ _ _ _ ?_
  unfold tglidepathlaw03_ScanHeads
  simp only [awake_is, few_is h, bindO_val, cond_true]
  by_cases hf : (h.l.length : Int) ≤ 8
  · rw [bif_pos hf]
    have hl : h.l.length ≤ 8 := by omega
    have hl2 : h.l.length < 4294967296 := by omega
    obtain ⟨a, e, hae⟩ : ∃ a e, headIE h = (a, e) := ⟨_, _, rfl⟩
    have hr := isReserved_is h x y hl2
    rw [hae] at hr
    simp only [copyHead_is h hl, bindO_val, checkHead_is h hl2, refCheckHead_is h hl2, hae]
    by_cases h0 : both e (dirE x y) = 0
    · rw [if_pos h0] at hr
      have hd := (both_nil h0).2
      have he : (headIE h).2 = 0 := by rw [hae]; exact (both_nil h0).1
      have hrr := refReserved_is h x y hl2 (headIE_ok he).2.2.2.2.1 (dirE_ok hd).1
      simp only [hr, bindO_val, hd19, hd12, Sum.elim_inr, h0, bne_self_eq_false, cond_false, beq_self_eq_true, cond_true, hrr]
      cases anyR h x y <;> rfl
    · rw [if_neg h0] at hr
      simp only [hr, bindO_val, hd19, hd12, Sum.elim_inr, bif_ne, if_neg h0, beq_self_eq_true, cond_true, cond_false]
  · rw [bif_neg hf]
end
end Gv
