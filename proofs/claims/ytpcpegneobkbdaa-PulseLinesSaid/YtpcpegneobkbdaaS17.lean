/- The gates of a sample, as the specification tells them; when a gate is open. -/
import Derived.Test.YtpcpegneobkbdaaS15
import Derived.Test.YtpcpegneobkbdaaP8
namespace Gv
open Go
set_option maxRecDepth 100000

theorem gate_nums {g : Gt} (h : gatesE g = 0) : (0 ≤ g.first ∧ g.first ≤ 48) ∧ (1 ≤ g.hop ∧ g.hop ≤ 48) ∧ (1 ≤ g.count ∧ g.count ≤ 20) ∧ 1 ≤ g.ws.length ∧ g.ws.length ≤ 16 := by
  unfold gatesE gatesP at h
  split at h
  · rename_i h1
    exact absurd h h1
  · rename_i h1
    have h3 : rangeE g.first 0 48 = 0 ∧ rangeE g.hop 1 48 = 0 ∧ rangeE g.count 1 20 = 0 := by
      unfold first3 at h1
      by_cases a1 : rangeE g.first 0 48 = 0 <;> by_cases a2 : rangeE g.hop 1 48 = 0 <;> simp_all
    obtain ⟨ha, hb, hc⟩ := h3
    have ha' : 0 ≤ g.first ∧ g.first ≤ 48 := by
      unfold rangeE at ha
      split at ha
      · cases ha
      · omega
    have hb' : 1 ≤ g.hop ∧ g.hop ≤ 48 := by
      unfold rangeE at hb
      split at hb
      · cases hb
      · omega
    have hc' : 1 ≤ g.count ∧ g.count ≤ 20 := by
      unfold rangeE at hc
      split at hc
      · cases hc
      · omega
    unfold listIE at h
    split at h
    · cases h
    · split at h
      · cases h
      · exact ⟨ha', hb', hc', by omega, by omega⟩

def openE (g : Gt) (n : Nat) (k : Int) : Int := if (n : Int) < w64 (baseG g k + g.ws.length) then 19 else 0
theorem openError_is (g : Gt) (l : List ZZ) (k : Int) : Fpulse_openError [encGt g, .list l.length (encG l), .int .i64 k] = some (openE g l.length k) := by
  refine Fpulse_openError_of _ _ _ _ _ _ _ _ ?_
  unfold tpulse_openError openE
  have f1 := firstIndex_is g k
  unfold encGt at f1
  simp only [f1, bindO_val, errorIf_is]
  rw [show w64 (g.first + w64 (k * g.hop)) = baseG g k from rfl]
  by_cases h : (l.length : Int) < w64 (baseG g k + g.ws.length)
  · rw [bif_pos h, if_pos h]; rfl
  · rw [bif_neg h, if_neg h]; rfl
theorem refOpenErr_is (g : Gt) (l : List ZZ) (k : Int) : Fglidepathref01_OpenErr [encGt g, .list l.length (encG l), .int .i64 k] = some (openE g l.length k) := by
  refine Fglidepathref01_OpenErr_of _ _ _ _ _ _ _ _ ?_
  unfold tglidepathref01_OpenErr openE
  rw [show w64 (g.first + w64 (k * g.hop)) = baseG g k from rfl]
  by_cases h : (l.length : Int) < w64 (baseG g k + g.ws.length)
  · rw [bif_pos h, if_pos h]
  · rw [bif_neg h, if_neg h]

def goE (l : List ZZ) (g : Gt) (k : Int) : Int := first4 (gatesE g) (blockE l) (gateE g k) (openE g l.length k)
theorem gateOf_is (l : List ZZ) (g : Gt) (k : Int) (hl : l.length ≤ 1000) (hw : g.ws.length ≤ 1000) : Fpulse_GateOf [encGt g, .list l.length (encG l), .int .i64 k] =
    some (if goE l g k ≠ 0 then ((0, []), goE l g k) else ((g.ws.length, encG (wtd l (baseG g k) g.ws 0)), 0)) := by
  refine Fpulse_GateOf_of _ _ _ _ _ _ _ _ ?_
  unfold tpulse_GateOf
  have f1 := gatesError_is g (by omega)
  have f2 := blockError_is l (by omega)
  have f3 := gateError_is g k
  have f4 := openError_is g l k
  have f5 := firstIndex_is g k
  have f6 := weighted_is l (baseG g k) g.ws hw
  unfold encGt at f1 f3 f4 f5
  rw [show w64 (g.first + w64 (k * g.hop)) = baseG g k from rfl] at f5
  simp only [f1, f2, f3, f4, f5, f6, firstError4_is, bindO_val, bif_ne]
  rw [show first4 (gatesE g) (blockE l) (gateE g k) (openE g l.length k) = goE l g k from rfl]
  by_cases h : goE l g k = 0
  · rw [if_pos h, if_neg (by simpa using h)]
  · rw [if_neg h, if_pos h]

/-! ### The gates of a sample -/

def inG (g : Gt) (x k : Int) : Prop := g.first + k * g.hop ≤ x ∧ x < g.first + k * g.hop + g.ws.length
instance (g : Gt) (x k : Int) : Decidable (inG g x k) := by unfold inG; infer_instance
def withZ (g : Gt) (x : Int) : Nat → Nat → List Int
  | 0, _ => []
  | n + 1, k => if inG g x k then (k : Int) :: withZ g x n (k + 1) else withZ g x n (k + 1)
theorem withZ_len (g : Gt) (x : Int) : ∀ n k, (withZ g x n k).length ≤ n
  | 0, _ => Nat.le_refl 0
  | n + 1, k => by
    have := withZ_len g x n (k + 1)
    unfold withZ
    split
    · simpa using this
    · omega

def tW2 (g : Gt) (x : Int) (acc : List Int) (k j : Int) : Q :=
  if acc = [] then Tglidepathref01_With_2a x k j g.first g.hop g.count g.ws.length (encI g.ws)
  else Tglidepathref01_With_2b x acc.length (encI acc) k j g.first g.hop g.count g.ws.length (encI g.ws) acc.length
def xW2 (g : Gt) (x : Int) (acc : List Int) (k : Int) : Ext × Q :=
  if acc = [] then Xglidepathref01_With_2a (x, k, g.first, g.hop, g.count, g.ws.length, encI g.ws)
  else Xglidepathref01_With_2b (x, acc.length, encI acc, k, g.first, g.hop, g.count, g.ws.length, encI g.ws, acc.length)
def tW0 (g : Gt) (x : Int) (acc : List Int) (k : Int) : Q :=
  if acc = [] then Tglidepathref01_With_0a x k g.first g.hop g.count g.ws.length (encI g.ws)
  else Tglidepathref01_With_0b x acc.length (encI acc) k g.first g.hop g.count g.ws.length (encI g.ws) acc.length
def xW0 (g : Gt) (acc : List Int) : Ext × Q :=
  if acc = [] then Xglidepathref01_With_0a (g.first, g.hop, g.count, g.ws.length, encI g.ws)
  else Xglidepathref01_With_0b (acc.length, encI acc, g.first, g.hop, g.count, g.ws.length, encI g.ws, acc.length)

theorem hop_small {g : Gt} (h : gatesE g = 0) {k : Nat} (hk : (k : Int) < g.count) : 0 ≤ (k : Int) * g.hop ∧ (k : Int) * g.hop ≤ 960 := by
  obtain ⟨_, ⟨h1, h2⟩, ⟨_, h3⟩, _⟩ := gate_nums h
  constructor
  · exact Int.mul_nonneg (by omega) (by omega)
  · have a1 : (k : Int) * g.hop ≤ (k : Int) * 48 := Int.mul_le_mul_of_nonneg_left h2 (by omega)
    omega

theorem with2_loop (g : Gt) (x : Int) (hg : gatesE g = 0) (k : Nat) (hk : (k : Int) < g.count) : ∀ j, j ≤ g.ws.length → ∀ acc : List Int, acc.length ≤ 20 + j →
    Rglidepathref01_With_2 (tW2 g x acc k j) = exO (xW2 g x (acc ++ (if g.first + k * g.hop + j ≤ x ∧ x < g.first + k * g.hop + g.ws.length then [(k : Int)] else [])) k) := by
  obtain ⟨⟨n1, n2⟩, ⟨n3, n4⟩, ⟨n5, n6⟩, n7, n8⟩ := gate_nums hg
  obtain ⟨m1, m2⟩ := hop_small hg hk
  have key : ∀ j : Nat, j ≤ 16 → w64 (w64 (g.first + w64 ((k : Int) * g.hop)) + j) = g.first + k * g.hop + j := fun j hj => by
    rw [w64_in (n := (k : Int) * g.hop) (by omega), w64_in (n := g.first + (k : Int) * g.hop) (by omega), w64_in (by omega)]
  refine up_ind _ ?_ ?_
  · intro acc ha
    rw [if_neg (by omega), List.append_nil]
    unfold tW2 xW2
    by_cases hn : acc = []
    · rw [if_pos hn, if_pos hn]
      refine Rglidepathref01_With_2a_of _ _ _ _ _ _ _ _ ?_
      unfold Bglidepathref01_With_2a
      rw [bif_neg (by omega)]
      rfl
    · rw [if_neg hn, if_neg hn]
      refine Rglidepathref01_With_2b_of _ _ _ _ _ _ _ _ _ _ _ ?_
      unfold Bglidepathref01_With_2b
      rw [bif_neg (by omega)]
      rfl
  · intro j hj ih acc ha
    have step : ∀ r, Rglidepathref01_With_2 (tW2 g x (if g.first + k * g.hop + j = x then acc ++ [(k : Int)] else acc) k (j + 1 : Nat)) = some r → Rglidepathref01_With_2 (tW2 g x acc k j) = some r := by
      intro r hr
      by_cases hn : acc = []
      · subst hn
        rw [show tW2 g x [] k j = _ from if_pos rfl]
        refine Rglidepathref01_With_2a_of _ _ _ _ _ _ _ _ ?_
        unfold Bglidepathref01_With_2a
        rw [bif_pos (by omega), key j (by omega), bif_eq, w64_in (n := (j : Int) + 1) (by omega)]
        by_cases he : g.first + k * g.hop + j = x
        · rw [if_pos he] at hr ⊢
          exact hr
        · rw [if_neg he] at hr ⊢
          exact hr
      · rw [show tW2 g x acc k j = _ from if_neg hn]
        refine Rglidepathref01_With_2b_of _ _ _ _ _ _ _ _ _ _ _ ?_
        unfold Bglidepathref01_With_2b
        rw [bif_pos (by omega), key j (by omega), bif_eq, w64_in (n := (j : Int) + 1) (by omega)]
        by_cases he : g.first + k * g.hop + j = x
        · rw [if_pos he] at hr ⊢
          rw [bif_pos ⟨rfl, by simp only [big]; omega⟩, encI_snoc]
          unfold tW2 at hr
          rw [if_neg (by simp), List.length_append] at hr
          exact hr
        · rw [if_neg he] at hr ⊢
          unfold tW2 at hr
          rw [if_neg hn] at hr
          exact hr
    by_cases he : g.first + k * g.hop + j = x
    · rw [if_pos he] at step
      have := ih (acc ++ [(k : Int)]) (by simp; omega)
      rw [if_neg (by omega), List.append_nil] at this
      rw [if_pos (by omega)]
      exact step _ this
    · rw [if_neg he] at step
      have := ih acc (by omega)
      by_cases hr : g.first + k * g.hop + (j + 1 : Nat) ≤ x ∧ x < g.first + k * g.hop + g.ws.length
      · rw [if_pos hr] at this
        rw [if_pos (by omega)]
        exact step _ this
      · rw [if_neg hr] at this
        rw [if_neg (by omega)]
        exact step _ this

theorem with0_loop (g : Gt) (x : Int) (hg : gatesE g = 0) : ∀ k, k ≤ g.count.toNat → ∀ acc : List Int, acc.length ≤ k →
    Rglidepathref01_With_0 (tW0 g x acc k) = exO (xW0 g (acc ++ withZ g x (g.count.toNat - k) k)) := by
  obtain ⟨⟨n1, n2⟩, ⟨n3, n4⟩, ⟨n5, n6⟩, n7, n8⟩ := gate_nums hg
  refine up_ind _ ?_ ?_
  · intro acc ha
    rw [Nat.sub_self]
    unfold withZ tW0 xW0
    rw [List.append_nil]
    by_cases hn : acc = []
    · rw [if_pos hn, if_pos hn]
      refine Rglidepathref01_With_0a_of _ _ _ _ _ _ _ ?_
      unfold Bglidepathref01_With_0a
      rw [bif_neg (by omega)]
      rfl
    · rw [if_neg hn, if_neg hn]
      refine Rglidepathref01_With_0b_of _ _ _ _ _ _ _ _ _ _ ?_
      unfold Bglidepathref01_With_0b
      rw [bif_neg (by omega)]
      rfl
  · intro k hk ih acc ha
    have h2 := with2_loop g x hg k (by omega) 0 (by omega) acc (by omega)
    obtain ⟨m, hm⟩ : ∃ m, g.count.toNat - k = m + 1 := ⟨g.count.toNat - k - 1, by omega⟩
    have step : ∀ r, Rglidepathref01_With_0 (tW0 g x (acc ++ (if g.first + k * g.hop + (0 : Nat) ≤ x ∧ x < g.first + k * g.hop + g.ws.length then [(k : Int)] else [])) (k + 1 : Nat)) = some r →
        Rglidepathref01_With_0 (tW0 g x acc k) = some r := by
      generalize (acc ++ (if g.first + k * g.hop + (0 : Nat) ≤ x ∧ x < g.first + k * g.hop + g.ws.length then [(k : Int)] else [])) = acc' at h2
      intro r hr
      unfold xW2 tW2 at h2
      unfold tW0 at hr ⊢
      by_cases hn' : acc' = []
      · rw [if_pos hn'] at h2 hr
        have l2 := Lglidepathref01_With_2a_of h2
        by_cases hn : acc = []
        · rw [if_pos hn] at l2 ⊢
          refine Rglidepathref01_With_0a_of _ _ _ _ _ _ _ ?_
          unfold Bglidepathref01_With_0a
          rw [bif_pos (by omega)]
          rw [show ((0 : Nat) : Int) = 0 from rfl] at l2
          simp only [l2, bindO_val, Sum.elim_inl]
          rw [w64_in (by omega)]
          exact hr
        · rw [if_neg hn] at l2 ⊢
          refine Rglidepathref01_With_0b_of _ _ _ _ _ _ _ _ _ _ ?_
          unfold Bglidepathref01_With_0b
          rw [bif_pos (by omega)]
          rw [show ((0 : Nat) : Int) = 0 from rfl] at l2
          simp only [l2, bindO_val, Sum.elim_inl]
          rw [w64_in (by omega)]
          exact hr
      · rw [if_neg hn'] at h2 hr
        have l2 := Lglidepathref01_With_2b_of h2
        by_cases hn : acc = []
        · rw [if_pos hn] at l2 ⊢
          refine Rglidepathref01_With_0a_of _ _ _ _ _ _ _ ?_
          unfold Bglidepathref01_With_0a
          rw [bif_pos (by omega)]
          rw [show ((0 : Nat) : Int) = 0 from rfl] at l2
          simp only [l2, bindO_val, Sum.elim_inr]
          rw [w64_in (by omega)]
          exact hr
        · rw [if_neg hn] at l2 ⊢
          refine Rglidepathref01_With_0b_of _ _ _ _ _ _ _ _ _ _ ?_
          unfold Bglidepathref01_With_0b
          rw [bif_pos (by omega)]
          rw [show ((0 : Nat) : Int) = 0 from rfl] at l2
          simp only [l2, bindO_val, Sum.elim_inr]
          rw [w64_in (by omega)]
          exact hr
    have hm2 : g.count.toNat - (k + 1) = m := by omega
    rw [hm2] at ih
    rw [hm]
    unfold withZ
    by_cases hi : inG g x k
    · have hi' : g.first + k * g.hop + (0 : Nat) ≤ x ∧ x < g.first + k * g.hop + g.ws.length := by unfold inG at hi; omega
      rw [if_pos hi'] at step
      rw [if_pos hi]
      have := ih (acc ++ [(k : Int)]) (by simp; omega)
      rw [List.append_assoc] at this
      exact step _ this
    · have hi' : ¬ (g.first + k * g.hop + (0 : Nat) ≤ x ∧ x < g.first + k * g.hop + g.ws.length) := by unfold inG at hi; omega
      rw [if_neg hi', List.append_nil] at step
      rw [if_neg hi]
      exact step _ (ih acc (by omega))

theorem refWith_is (g : Gt) (x : Int) (hg : gatesE g = 0) : Fglidepathref01_With [encGt g, .int .i64 x] = some ((withZ g x g.count.toNat 0).length, encI (withZ g x g.count.toNat 0)) := by
  refine Fglidepathref01_With_of _ _ _ _ _ _ ?_
  unfold tglidepathref01_With
  have h := with0_loop g x hg 0 (by omega) [] (by simp)
  rw [Nat.sub_zero, List.nil_append] at h
  unfold tW0 xW0 at h
  rw [if_pos rfl] at h
  by_cases hn : withZ g x g.count.toNat 0 = []
  · rw [if_pos hn] at h
    have l := Lglidepathref01_With_0a_of h
    rw [show ((0 : Nat) : Int) = 0 from rfl] at l
    simp only [l, bindO_val, Sum.elim_inl, hn]
    rfl
  · rw [if_neg hn] at h
    have l := Lglidepathref01_With_0b_of h
    rw [show ((0 : Nat) : Int) = 0 from rfl] at l
    simp only [l, bindO_val, Sum.elim_inr]
    rw [bif_pos trivial]
end Gv
