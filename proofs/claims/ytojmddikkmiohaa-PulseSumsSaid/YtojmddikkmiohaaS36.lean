/- The sum after a piece is valid by the program where it is so by the specification. -/
import Derived.Test.YtojmddikkmiohaaS35
import Derived.Test.YtojmddikkmiohaaP21
import Derived.Test.YtojmddikkmiohaaFW0
namespace Gv
open Go
set_option maxRecDepth 100000

theorem gauss_of {m : Int} {z : ZZ} (h : (-m ≤ z.1 ∧ z.1 ≤ m) ∧ -m ≤ z.2 ∧ z.2 ≤ m) : gaussE m z = 0 := by
  unfold gaussE
  rw [rangeE_in h.1, rangeE_in h.2]
  rfl
theorem okS_iff {a t p : List ZZ} {c : Int} (hs : smE a t c = 0) (hb : blockE p = 0) : okS a t p c ↔ smE (nwL a t p) (nwT a t p) (w64 (c + p.length)) = 0 := by
  obtain ⟨h1, h2, h3, h4, h5⟩ := sm_ok hs
  obtain ⟨k1, k2, k3⟩ := block_ok hb
  have hl : (t ++ p).length = t.length + p.length := List.length_append
  have hw : w64 (c + p.length) = c + p.length := w64_in (by omega)
  have hwl : (nwL a t p).length = a.length := tabZ_len _ _
  constructor
  · intro h
    have h0 := h.2
    rw [hw] at h0 ⊢
    refine sm_of (by omega) (fun z hz => ?_) (by omega) ?_ (fun z hz => ?_)
    · obtain ⟨i, hi, rfl⟩ := tabZ_mem hz
      exact h.1 i hi
    · rw [nwT_len]
      unfold mnC at h4 ⊢
      unfold kpN
      rw [hwl]
      split at h4 <;> split <;> omega
    · have := List.mem_of_mem_drop hz
      rcases List.mem_append.1 this with q | q
      · exact h5 z q
      · exact gauss_of (k3 z q)
  · intro h
    obtain ⟨_, q2, q3, _⟩ := sm_ok h
    exact ⟨fun j hj => q2 _ (List.mem_of_getElem? (tabZ_get (nwF a t p) hj)), by omega⟩

def spE (a t : List ZZ) (c : Int) : Int := if smE a t c = 0 then (if c > a.length then 19 else 0) else smE a t c

theorem ps54 (s p t : List ZZ) (c : Int) : ∃ z, Lglidepathlaw01_PulseSums_1000054 (Tglidepathlaw01_PulseSums_1000054a p.length (encG p) s.length (encG s) t.length (encG t) c) = some z ∧
    (z = .inl () ∨ (p.length ≤ 50 ∧ s.length ≤ 14 ∧ t.length ≤ 14 ∧ z = .inr (p.length, encG p, s.length, encG s, t.length, encG t, c))) := by
  have key : ∃ z : Yglidepathlaw01_PulseSums_1000054, Rglidepathlaw01_PulseSums_1000054 (Tglidepathlaw01_PulseSums_1000054a p.length (encG p) s.length (encG s) t.length (encG t) c) = exO (XLglidepathlaw01_PulseSums_1000054.fn z) ∧
      (z = .inl () ∨ (p.length ≤ 50 ∧ s.length ≤ 14 ∧ t.length ≤ 14 ∧ z = .inr (p.length, encG p, s.length, encG s, t.length, encG t, c))) := by
    by_cases h1 : p.length ≤ 50
    · by_cases h2 : s.length ≤ 14
      · by_cases h3 : t.length ≤ 14
        · refine ⟨.inr _, Rglidepathlaw01_PulseSums_1000054a_of _ _ _ _ _ _ _ ?_, .inr ⟨h1, h2, h3, rfl⟩⟩
          unfold Bglidepathlaw01_PulseSums_1000054a
          simp only [few_is, bindO_val]
          rw [bif_pos h1, bif_neg (by omega), bif_neg (by omega)]
          rfl
        · refine ⟨.inl (), Rglidepathlaw01_PulseSums_1000054a_of _ _ _ _ _ _ _ ?_, .inl rfl⟩
          unfold Bglidepathlaw01_PulseSums_1000054a
          simp only [few_is, bindO_val]
          rw [bif_pos h1, bif_neg (by omega), bif_pos (by omega)]
          rfl
      · refine ⟨.inl (), Rglidepathlaw01_PulseSums_1000054a_of _ _ _ _ _ _ _ ?_, .inl rfl⟩
        unfold Bglidepathlaw01_PulseSums_1000054a
        simp only [few_is, bindO_val]
        rw [bif_pos h1, bif_pos (by omega)]
        rfl
    · refine ⟨.inl (), Rglidepathlaw01_PulseSums_1000054a_of _ _ _ _ _ _ _ ?_, .inl rfl⟩
      unfold Bglidepathlaw01_PulseSums_1000054a
      simp only [few_is, bindO_val]
      rw [bif_neg h1]
      rfl
  obtain ⟨z, h, hz⟩ := key
  exact ⟨z, lpO_of Iglidepathlaw01_PulseSums_1000054 XIglidepathlaw01_PulseSums_1000054 h, hz⟩
theorem lawBoth_is (x y : Int) : Fglidepathlaw01_both [.int .i64 x, .int .i64 y] = some (both x y) := Fglidepathlaw01_both_of x y (by
  unfold tglidepathlaw01_both both
  simp only [bif_ne]
  by_cases h1 : x = 0 <;> simp [h1])
end Gv
