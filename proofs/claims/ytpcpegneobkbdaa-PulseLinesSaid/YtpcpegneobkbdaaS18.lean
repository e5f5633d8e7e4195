/- The gates of a sample, as the program finds them. -/
import Derived.Test.YtpcpegneobkbdaaGvYc
import Derived.Test.YtpcpegneobkbdaaS17
namespace Gv
open Go
set_option maxRecDepth 100000

def gatesL (g : Gt) : List ZZ := (List.range g.count.toNat).map fun (j : Nat) => ((j : Int), baseG g (j : Int))
theorem gatesL_len (g : Gt) : (gatesL g).length = g.count.toNat := by simp [gatesL]
theorem gatesL_get (g : Gt) {i : Nat} (h : i < g.count.toNat) : (gatesL g)[i]? = some ((i : Int), baseG g i) := by
  simp [gatesL, List.getElem?_range, h]
theorem gatesL_take (g : Gt) {i : Nat} (h : i < g.count.toNat) : encG ((gatesL g).take i) ++ [.int .i64 (i : Int), .int .i64 (baseG g i)] = encG ((gatesL g).take (i + 1)) := by
  rw [List.take_add_one, gatesL_get g h, encG_app]
  rfl

theorem gates_loop (g : Gt) (hg : gatesE g = 0) (k : Nat) : ∀ i, i ≤ g.count.toNat → i ≤ k →
    Rpulse_gatesOf_1_0 (Tpulse_gatesOf_1_0a g.first g.hop g.count g.ws.length (encI g.ws) g.count i [none, none] k i (encG ((gatesL g).take i))) =
      if k < g.count.toNat then exO (Xpulse_gatesOf_1_0a ([none, none], k, k + 1, encG ((gatesL g).take (k + 1)))) else exO (Xpulse_gatesOf_1_0b ([none, none], k, g.count.toNat, encG (gatesL g))) := by
  obtain ⟨_, _, ⟨n5, n6⟩, _⟩ := gate_nums hg
  refine up_ind _ ?_ ?_
  · intro hk
    rw [if_neg (by omega)]
    refine Rpulse_gatesOf_1_0a_of _ _ _ _ _ _ _ _ _ _ _ ?_
    unfold Bpulse_gatesOf_1_0a
    rw [bif_neg (by omega), List.take_of_length_le (by rw [gatesL_len]; omega)]
    rfl
  · intro i hi ih hk
    obtain ⟨r, hr⟩ : ∃ r, (if k < g.count.toNat then exO (Xpulse_gatesOf_1_0a ([none, none], k, k + 1, encG ((gatesL g).take (k + 1)))) else exO (Xpulse_gatesOf_1_0b ([none, none], k, g.count.toNat, encG (gatesL g)))) = some r := by
      split <;> exact ⟨_, rfl⟩
    rw [hr]
    refine Rpulse_gatesOf_1_0a_of _ _ _ _ _ _ _ _ _ _ _ ?_
    unfold Bpulse_gatesOf_1_0a
    have f1 := firstIndex_is g i
    unfold encGt at f1
    rw [show w64 (g.first + w64 ((i : Int) * g.hop)) = baseG g i from rfl] at f1
    rw [bif_pos (by omega)]
    simp only [f1, bindO_val]
    rw [bif_pos hk, show shapeOK [none, none] [PV.int IntKind.i64 (i : Int), encR (RSh.one (CK.int IntKind.i64)) (baseG g i)] = true from rfl, cond_true, gatesL_take g hi]
    by_cases he : i = k
    · subst he
      rw [show (i != i) = false from by simp, cond_false]
      rw [if_pos hi] at hr
      exact hr
    · rw [show (i != k) = true from by simp [he], cond_true, w64_in (by omega)]
      rw [← hr]
      exact ih (by omega)

theorem gatesIt_is (g : Gt) (hg : gatesE g = 0) : Fn env 141 (.one .list) [.it [none, none] 0, .imm [.int .i64 g.first, .int .i64 g.hop, .int .i64 g.count, .list g.ws.length (encI g.ws)] 0] = some (g.count.toNat, encG (gatesL g)) := by
  obtain ⟨_, _, ⟨n5, n6⟩, _⟩ := gate_nums hg
  refine it_of (by simp only [big]; omega) (by rw [encG_len, gatesL_len]; rfl) fun k hk => ?_
  refine Fpulse_gatesOf_1_of _ _ _ _ _ _ ?_
  unfold tpulse_gatesOf_1
  have h := gates_loop g hg k 0 (by omega) (by omega)
  rw [List.take_zero, show ((0 : Nat) : Int) = 0 from rfl, encG_nil] at h
  rw [show min (k + 1) g.count.toNat * shSize [none, none] = min (k + 1) g.count.toNat * 2 from rfl, encG_take]
  by_cases hc : k < g.count.toNat
  · rw [if_pos hc] at h
    have l := Lpulse_gatesOf_1_0a_of h
    simp only [l, bindO_val, Sum.elim_inl]
    rw [Nat.min_eq_left (by omega)]
  · rw [if_neg hc] at h
    have l := Lpulse_gatesOf_1_0b_of h
    simp only [l, bindO_val, Sum.elim_inr]
    rw [Nat.min_eq_right (by omega), List.take_of_length_le (by rw [gatesL_len]; omega)]

def tGW (g : Gt) (x : Int) (acc : List Int) (i : Int) : Q :=
  if acc = [] then Tpulse_GatesWith_3000040a g.count.toNat (encG (gatesL g)) i g.first g.hop g.count g.ws.length (encI g.ws) x
  else Tpulse_GatesWith_3000040b g.count.toNat (encG (gatesL g)) i g.first g.hop g.count g.ws.length (encI g.ws) x acc.length (encI acc) acc.length
def xGW (g : Gt) (x : Int) (acc : List Int) : Ext × Q :=
  if acc = [] then Xpulse_GatesWith_3000040a (g.first, g.hop, g.count, g.ws.length, encI g.ws, x)
  else Xpulse_GatesWith_3000040b (g.first, g.hop, g.count, g.ws.length, encI g.ws, x, acc.length, encI acc, acc.length)

theorem gw_loop (g : Gt) (x : Int) (hg : gatesE g = 0) : ∀ i, i ≤ g.count.toNat → ∀ acc : List Int, acc.length ≤ i →
    Rpulse_GatesWith_3000040 (tGW g x acc i) = exO (xGW g x (acc ++ withZ g x (g.count.toNat - i) i)) := by
  obtain ⟨⟨n1, n2⟩, ⟨n3, n4⟩, ⟨n5, n6⟩, n7, n8⟩ := gate_nums hg
  refine up_ind _ ?_ ?_
  · intro acc ha
    rw [Nat.sub_self]
    unfold withZ tGW xGW
    rw [List.append_nil]
    by_cases hn : acc = []
    · rw [if_pos hn, if_pos hn]
      refine Rpulse_GatesWith_3000040a_of _ _ _ _ _ _ _ _ _ ?_
      unfold Bpulse_GatesWith_3000040a
      rw [bif_neg (by omega)]
      rfl
    · rw [if_neg hn, if_neg hn]
      refine Rpulse_GatesWith_3000040b_of _ _ _ _ _ _ _ _ _ _ _ _ ?_
      unfold Bpulse_GatesWith_3000040b
      rw [bif_neg (by omega)]
      rfl
  · intro i hi ih acc ha
    obtain ⟨m1, m2⟩ := hop_small hg (k := i) (by omega)
    have hb : baseG g i = g.first + i * g.hop := by
      unfold baseG
      rw [w64_in (n := (i : Int) * g.hop) (by omega), w64_in (by omega)]
    have step : ∀ r, Rpulse_GatesWith_3000040 (tGW g x (if inG g x i then acc ++ [(i : Int)] else acc) (i + 1 : Nat)) = some r → Rpulse_GatesWith_3000040 (tGW g x acc i) = some r := by
      intro r hr
      unfold tGW at hr ⊢
      by_cases hn : acc = []
      · rw [if_pos hn]
        refine Rpulse_GatesWith_3000040a_of _ _ _ _ _ _ _ _ _ ?_
        unfold Bpulse_GatesWith_3000040a
        rw [bif_pos (by omega), bif_pos (by omega)]
        simp only [Int.toNat_natCast, Nat.add_zero, encG_0, encG_1, gatesL_get g hi, Option.map_some, intC_int, bindO_val, hb]
        rw [w64_in (n := (i : Int) + 1) (by omega), w64_in (by omega)]
        by_cases hh : inG g x i
        · rw [if_pos hh, if_neg (by simp)] at hr
          subst hn
          rw [bif_pos hh.1, bif_pos hh.2]
          exact hr
        · rw [if_neg hh, if_pos hn] at hr
          by_cases h1 : g.first + i * g.hop ≤ x
          · rw [bif_pos h1, bif_neg (fun h2 => hh ⟨h1, h2⟩)]
            exact hr
          · rw [bif_neg h1]
            exact hr
      · rw [if_neg hn]
        refine Rpulse_GatesWith_3000040b_of _ _ _ _ _ _ _ _ _ _ _ _ ?_
        unfold Bpulse_GatesWith_3000040b
        rw [bif_pos (by omega), bif_pos (by omega)]
        simp only [Int.toNat_natCast, Nat.add_zero, encG_0, encG_1, gatesL_get g hi, Option.map_some, intC_int, bindO_val, hb]
        rw [w64_in (n := (i : Int) + 1) (by omega), w64_in (by omega)]
        by_cases hh : inG g x i
        · rw [if_pos hh, if_neg (by simp), List.length_append] at hr
          rw [bif_pos hh.1, bif_pos hh.2, bif_pos ⟨trivial, by simp only [big]; omega⟩, encI_snoc]
          exact hr
        · rw [if_neg hh, if_neg hn] at hr
          by_cases h1 : g.first + i * g.hop ≤ x
          · rw [bif_pos h1, bif_neg (fun h2 => hh ⟨h1, h2⟩)]
            exact hr
          · rw [bif_neg h1]
            exact hr
    obtain ⟨m, hm⟩ : ∃ m, g.count.toNat - i = m + 1 := ⟨g.count.toNat - i - 1, by omega⟩
    have hm2 : g.count.toNat - (i + 1) = m := by omega
    rw [hm2] at ih
    rw [hm]
    unfold withZ
    by_cases hh : inG g x i
    · rw [if_pos hh] at step ⊢
      have := ih (acc ++ [(i : Int)]) (by simp; omega)
      rw [List.append_assoc] at this
      exact step _ this
    · rw [if_neg hh] at step ⊢
      exact step _ (ih acc (by omega))

theorem gatesWith_is (g : Gt) (x : Int) (hl : g.ws.length < 4294967296) : Fpulse_GatesWith [encGt g, .int .i64 x] =
    some (if both (gatesE g) (rangeE x 0 47) ≠ 0 then ((0, []), both (gatesE g) (rangeE x 0 47)) else (((withZ g x g.count.toNat 0).length, encI (withZ g x g.count.toNat 0)), 0)) := by
  refine Fpulse_GatesWith_of _ _ _ _ _ _ ?_
  unfold tpulse_GatesWith
  have f1 := gatesError_is g hl
  unfold encGt at f1
  simp only [f1, rangeError_is, firstError2_is, bindO_val, bif_ne]
  by_cases h : both (gatesE g) (rangeE x 0 47) = 0
  · rw [if_pos h, if_neg (by simpa using h)]
    have hg : gatesE g = 0 := by
      unfold both at h
      split at h
      · contradiction
      · omega
    simp only [gatesIt_is g hg, bindO_val]
    have w := gw_loop g x hg 0 (by omega) [] (by simp)
    rw [Nat.sub_zero, List.nil_append, show ((0 : Nat) : Int) = 0 from rfl] at w
    unfold tGW xGW at w
    rw [if_pos rfl] at w
    by_cases hn : withZ g x g.count.toNat 0 = []
    · rw [if_pos hn] at w
      have l := Lpulse_GatesWith_3000040a_of w
      simp only [l, bindO_val, Sum.elim_inl, hn]
      rfl
    · rw [if_neg hn] at w
      have l := Lpulse_GatesWith_3000040b_of w
      simp only [l, bindO_val, Sum.elim_inr]
  · rw [if_neg h, if_pos h]
end Gv
