/- The sum after a piece, by the specification, whole. -/
import Derived.Test.YtojmddikkmiohaaS34
namespace Gv
open Go
set_option maxRecDepth 100000

theorem bool_w64 (x : Int) (h : ∃ n : Nat, x = n ∧ n ≤ 1000000) : w64 x = x := by
  obtain ⟨n, rfl, h⟩ := h
  exact w64_in (by omega)

/-- Where the sum after a piece is valid. -/
def okS (a t p : List ZZ) (c : Int) : Prop := (∀ j, j < a.length → okN a t p j) ∧ w64 (c + p.length) ≤ 1000000000000
def raR (a t p : List ZZ) (c : Int) : (Nat × List PV) × ((Nat × List PV) × (Int × Bool)) → Prop := fun r =>
  (okS a t p c ∧ r = (EG (nwL a t p), (EG (nwT a t p), (w64 (c + p.length), true)))) ∨ (¬ okS a t p c ∧ r = ((0, []), ((0, []), (0, false))))

theorem refAdded_is (a t p : List ZZ) (c : Int) (ha : 1 ≤ a.length ∧ a.length ≤ 1000) (ht : t.length ≤ 400) (hp : 1 ≤ p.length ∧ p.length ≤ 400) :
    ∃ r, Fglidepathref01_Added [.agg [.list a.length (encG a), .list t.length (encG t), .int .i64 c], .list p.length (encG p)] = some r ∧ raR a t p c r := by
  obtain ⟨z, hz, hend⟩ := refAdd_ends a t p c (w64 (c + p.length)) ha ht hp.2
  have hl : (t ++ p).length = t.length + p.length := List.length_append
  have ek : (if w64 ((a.length : Int) - 1) < ((t ++ p).length : Int) then w64 ((a.length : Int) - 1) else ((t ++ p).length : Int)) = (kpN a t p : Int) := by
    rw [w64_in (by omega)]
    unfold kpN
    split <;> omega
  have ed : w64 (((t ++ p).length : Int) - (kpN a t p : Int)) = (((t ++ p).length - kpN a t p : Nat) : Int) := by
    rw [w64_in (by unfold kpN; omega)]
    unfold kpN
    omega
  have et : (List.drop (((t ++ p).length - kpN a t p) * 2) (encG (t ++ p))).take (((t ++ p).length - ((t ++ p).length - kpN a t p)) * 2) = encG (nwT a t p) := by
    rw [encG_drop, List.take_of_length_le (by rw [encG_len, List.length_drop]; omega)]
    rfl
  have en : (t ++ p).length - ((t ++ p).length - kpN a t p) = (nwT a t p).length := by
    rw [nwT_len]
    unfold kpN
    omega
  have hkp : kpN a t p ≤ (t ++ p).length := by unfold kpN; omega
  have hwl : (nwL a t p).length = a.length := tabZ_len _ _
  have hwt : (nwT a t p).length ≤ 1000 := by rw [nwT_len]; unfold kpN; omega
  by_cases h0 : t.length = 0
  · have ht0 : t = [] := List.length_eq_zero_iff.1 h0
    have e1 : 0 + p.length = (t ++ p).length := by omega
    have e2 : [] ++ encG p = encG (t ++ p) := by rw [ht0]; rfl
    rcases hend with ⟨hok, rfl⟩ | ⟨hbad, hz2⟩
    · by_cases hc : w64 (c + p.length) > 1000000000000
      · refine ⟨_, Fglidepathref01_Added_of _ _ _ _ _ _ _ ?_, .inr ⟨fun q => by have := q.2; omega, rfl⟩⟩
        unfold tglidepathref01_Added
        rw [bif_pos h0, bif_neg (by omega), bif_pos (encG_len p), bif_pos ⟨rfl, by unfold big; omega⟩, e1, e2, hz]
        simp only [bindO_val, Sum.elim_inr]
        rw [bif_pos hc]
      · refine ⟨_, Fglidepathref01_Added_of _ _ _ _ _ _ _ ?_, .inl ⟨⟨hok, by omega⟩, rfl⟩⟩
        unfold tglidepathref01_Added
        rw [bif_pos h0, bif_neg (by omega), bif_pos (encG_len p), bif_pos ⟨rfl, by unfold big; omega⟩, e1, e2, hz]
        simp only [bindO_val, Sum.elim_inr]
        rw [bif_neg hc, ek, ed, bif_pos (by omega)]
        simp only [Int.toNat_natCast]
        rw [bif_pos (by rw [encG_len]; omega)]
        unfold EG
        rw [hwl]
        by_cases hn : (t ++ p).length - ((t ++ p).length - kpN a t p) = 0
        · rw [bif_pos hn]
          have : nwT a t p = [] := List.length_eq_zero_iff.1 (by omega)
          rw [this]
          rfl
        · rw [bif_neg hn, bif_pos (by rw [List.length_take, List.length_drop, encG_len]; omega), bif_pos ⟨trivial, by unfold big; omega⟩, bif_pos trivial, et, en, Nat.zero_add, List.nil_append]
    · refine ⟨_, Fglidepathref01_Added_of _ _ _ _ _ _ _ ?_, .inr ⟨fun q => by obtain ⟨j, h1, h2⟩ := hbad; exact h2 (q.1 j h1), rfl⟩⟩
      unfold tglidepathref01_Added
      rw [bif_pos h0, bif_neg (by omega), bif_pos (encG_len p), bif_pos ⟨rfl, by unfold big; omega⟩, e1, e2, hz]
      rcases hz2 with rfl | ⟨n', rfl⟩ <;> rfl
  · have e1 : 0 + t.length + p.length = (t ++ p).length := by omega
    have e2 : [] ++ encG t ++ encG p = encG (t ++ p) := by rw [encG_app]; rfl
    rcases hend with ⟨hok, rfl⟩ | ⟨hbad, hz2⟩
    · by_cases hc : w64 (c + p.length) > 1000000000000
      · refine ⟨_, Fglidepathref01_Added_of _ _ _ _ _ _ _ ?_, .inr ⟨fun q => by have := q.2; omega, rfl⟩⟩
        unfold tglidepathref01_Added
        rw [bif_neg h0, bif_pos (encG_len t), bif_pos ⟨rfl, by unfold big; omega⟩, bif_pos rfl, bif_neg (by omega), bif_pos (encG_len p), bif_pos ⟨rfl, by unfold big; omega⟩, e1, e2, hz]
        simp only [bindO_val, Sum.elim_inr]
        rw [bif_pos hc]
      · refine ⟨_, Fglidepathref01_Added_of _ _ _ _ _ _ _ ?_, .inl ⟨⟨hok, by omega⟩, rfl⟩⟩
        unfold tglidepathref01_Added
        rw [bif_neg h0, bif_pos (encG_len t), bif_pos ⟨rfl, by unfold big; omega⟩, bif_pos rfl, bif_neg (by omega), bif_pos (encG_len p), bif_pos ⟨rfl, by unfold big; omega⟩, e1, e2, hz]
        simp only [bindO_val, Sum.elim_inr]
        rw [bif_neg hc, ek, ed, bif_pos (by omega)]
        simp only [Int.toNat_natCast]
        rw [bif_pos (by rw [encG_len]; omega)]
        unfold EG
        rw [hwl]
        by_cases hn : (t ++ p).length - ((t ++ p).length - kpN a t p) = 0
        · rw [bif_pos hn]
          have : nwT a t p = [] := List.length_eq_zero_iff.1 (by omega)
          rw [this]
          rfl
        · rw [bif_neg hn, bif_pos (by rw [List.length_take, List.length_drop, encG_len]; omega), bif_pos ⟨trivial, by unfold big; omega⟩, bif_pos trivial, et, en, Nat.zero_add, List.nil_append]
    · refine ⟨_, Fglidepathref01_Added_of _ _ _ _ _ _ _ ?_, .inr ⟨fun q => by obtain ⟨j, h1, h2⟩ := hbad; exact h2 (q.1 j h1), rfl⟩⟩
      unfold tglidepathref01_Added
      rw [bif_neg h0, bif_pos (encG_len t), bif_pos ⟨rfl, by unfold big; omega⟩, bif_pos rfl, bif_neg (by omega), bif_pos (encG_len p), bif_pos ⟨rfl, by unfold big; omega⟩, e1, e2, hz]
      rcases hz2 with rfl | ⟨n', rfl⟩ <;> rfl
end Gv
