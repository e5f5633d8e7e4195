/- LineSpectra: spectra, their peaks and what is left without a background are as specified. -/
import Derived.Test.YtpfdbblfpmebcaaA2
import Derived.Test.YtpfdbblfpmebcaaLS1
import Derived.Test.YtpfdbblfpmebcaaL2
namespace Gv
open Go
set_option maxRecDepth 100000

section
variable (l b : List Int)

theorem sp41 : Rglidepathlaw02_LineSpectra_1000041 (Tglidepathlaw02_LineSpectra_1000041a l.length (encI l) b.length (encI b)) =
    if l.length ≤ 20 ∧ b.length ≤ 20 then exO (Xglidepathlaw02_LineSpectra_1000041a (l.length, encI l, b.length, encI b)) else exO (Xglidepathlaw02_LineSpectra_1000041b ()) := by
  by_cases h1 : l.length ≤ 20
  · by_cases h2 : b.length ≤ 20
    · rw [if_pos ⟨h1, h2⟩]
      refine Rglidepathlaw02_LineSpectra_1000041a_of _ _ _ _ ?_
      unfold Bglidepathlaw02_LineSpectra_1000041a
      simp only [short_is, bindO_val]
      rw [bif_pos h1, bif_pos h2]
      rfl
    · rw [if_neg (fun h => h2 h.2)]
      refine Rglidepathlaw02_LineSpectra_1000041a_of _ _ _ _ ?_
      unfold Bglidepathlaw02_LineSpectra_1000041a
      simp only [short_is, bindO_val]
      rw [bif_pos h1, bif_neg h2]
      rfl
  · rw [if_neg (fun h => h1 h.1)]
    refine Rglidepathlaw02_LineSpectra_1000041a_of _ _ _ _ ?_
    unfold Bglidepathlaw02_LineSpectra_1000041a
    simp only [short_is, bindO_val]
    rw [bif_neg h1]
    rfl

theorem sp24 (i6 i7 : Int) (n8 : Nat) (c9 : List PV) (i10 : Int) (n11 : Nat) (c12 : List PV) (i13 : Int) :
    Rglidepathlaw02_LineSpectra_1000024 (Tglidepathlaw02_LineSpectra_1000024a l.length (encI l) b.length (encI b) (spP l).1 (spP l).2 i6 i7 n8 c9 i10 n11 c12 i13 (spP l).1 (spP l).2) =
    exO (Xglidepathlaw02_LineSpectra_1000024b (l.length, encI l, b.length, encI b, i6, i7, n8, c9, i10, n11, c12, i13, (spP l).2)) := by
  refine Rglidepathlaw02_LineSpectra_1000024a_of _ _ _ _ _ _ _ _ _ _ _ _ _ _ _ _ ?_
  unfold Bglidepathlaw02_LineSpectra_1000024a
  simp only [bif_ne, if_true]
  rfl

theorem sp17 (n9 : Nat) (c10 : List PV) (i11 : Int) :
    Rglidepathlaw02_LineSpectra_1000017 (Tglidepathlaw02_LineSpectra_1000017a l.length (encI l) b.length (encI b) (pkR l).1 (pkR l).2 (pksR l).1.1 (pksR l).1.2 (pksR l).2 n9 c10 i11 (spE l)) =
    exO (Xglidepathlaw02_LineSpectra_1000017b (l.length, encI l, b.length, encI b, n9, c10, i11)) := by
  refine Rglidepathlaw02_LineSpectra_1000017a_of _ _ _ _ _ _ _ _ _ _ _ _ _ ?_
  unfold Bglidepathlaw02_LineSpectra_1000017a pkR pksR
  simp only [bif_ne, bif_eq]
  by_cases h : spE l = 0
  · obtain ⟨k1, k2, _⟩ := spE_ok h
    have hlen : (pksL l).length ≤ l.length := colI_len _ _ _
    simp only [h, ne_eq, not_true_eq_false, if_false, if_true, refPeak_is l k1 (by omega), refPeaks_is l (by omega), lints_refl (pksL l) (by omega), bindO_val, cond_true]
    rfl
  · simp only [h, ne_eq, not_false_eq_true, if_false, if_true]
    rw [show ((0 : Nat) : Int) = 0 from rfl, if_pos rfl]
    rfl

theorem spectraLaw : Fglidepathlaw02_LineSpectra [.list l.length (encI l), .list b.length (encI b)] = some true := by
  refine Fglidepathlaw02_LineSpectra_of _ _ _ _ ?_
  unfold tglidepathlaw02_LineSpectra
  simp only [awakeL_is, bindO_val, cond_true]
  have p41 := sp41 l b
  by_cases hf : l.length ≤ 20 ∧ b.length ≤ 20
  · rw [if_pos hf] at p41
    have L41 := Lglidepathlaw02_LineSpectra_1000041a_of p41
    have q24 : ∀ i6 i7 n8 c9 i10 n11 c12 i13, _ := fun i6 i7 n8 c9 i10 n11 c12 i13 => Lglidepathlaw02_LineSpectra_1000024b_of (sp24 l b i6 i7 n8 c9 i10 n11 c12 i13)
    have q17 : ∀ n9 c10 i11, _ := fun n9 c10 i11 => Lglidepathlaw02_LineSpectra_1000017b_of (sp17 l b n9 c10 i11)
    rw [show spE l = (spP l).2 from rfl] at q17
    simp only [L41, bindO_val, Sum.elim_inl, Sum.elim_inr, lcopyI_is l (by omega), lcopyI_is b (by omega), checkSp_is l (by omega), peakOf_is l (by omega), peaksOf_is l (by omega), whitened_is l b (by omega) (by omega), refCheckSp_is l, q24, q17, refBoth_is l b, bif_ne, bif_eq]
    unfold whR
    by_cases he : whE l b = 0
    · obtain ⟨p1, p2, p3⟩ := first3_nil he
      obtain ⟨k1, k2, _⟩ := spE_ok p1
      have hl : l.length = b.length := by
        split at p3
        · assumption
        · cases p3
      have f := lints_refl (whL l b) (by simp [whL]; omega)
      rw [show (whL l b).length = l.length by simp [whL]] at f
      simp only [he, ne_eq, not_true_eq_false, if_false, if_true, refWh_is l b k1 (by omega) hl, f, bindO_val, cond_true]
    · simp only [he, ne_eq, not_false_eq_true, if_false, if_true]
      rw [show ((0 : Nat) : Int) = 0 from rfl, if_pos rfl]
  · rw [if_neg hf] at p41
    have L41 := Lglidepathlaw02_LineSpectra_1000041b_of p41
    simp only [L41, bindO_val, Sum.elim_inr]
end
end Gv
