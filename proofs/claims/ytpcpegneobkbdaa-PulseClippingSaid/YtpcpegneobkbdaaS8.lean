/- Gates of the specification, energies under jitter, clipped samples. -/
import Derived.Test.YtpcpegneobkbdaaS7
import Derived.Test.YtpcpegneobkbdaaP5
namespace Gv
open Go
set_option maxRecDepth 100000

theorem refGate_loop (l : List ZZ) (g : Gt) (k s : Int) (hl : 1 ≤ l.length ∧ l.length < 4294967296) (hw : g.ws.length ≤ 1000) : ∀ i, i ≤ g.ws.length → ∀ pre : List ZZ, pre.length = i →
    Rglidepathref01_Gate_0 (Tglidepathref01_Gate_0b l.length (encG l) k s i (encG pre) i g.first g.hop g.count g.ws.length (encI g.ws) i) =
      exO (Xglidepathref01_Gate_0b (g.ws.length, encG (pre ++ wtd l (w64 (w64 (g.first + w64 (k * g.hop)) + s)) (g.ws.drop i) i), g.first, g.hop, g.count, g.ws.length, encI g.ws, g.ws.length)) := by
  refine up_ind _ ?_ ?_
  · intro pre hp
    refine Rglidepathref01_Gate_0b_of _ _ _ _ _ _ _ _ _ _ _ _ _ ?_
    unfold Bglidepathref01_Gate_0b
    rw [bif_neg (by omega), List.drop_length]
    simp only [wtd, List.append_nil]
    rfl
  · intro i hi ih pre hp
    refine Rglidepathref01_Gate_0b_of _ _ _ _ _ _ _ _ _ _ _ _ _ ?_
    unfold Bglidepathref01_Gate_0b
    obtain ⟨x, hx, hd⟩ := get_drop hi
    have next := ih (pre ++ [wz l (w64 (w64 (w64 (g.first + w64 (k * g.hop)) + s) + i)) x]) (by simp [hp])
    rw [List.append_assoc, List.singleton_append, encG_app, ← encG_one] at next
    rw [bif_pos (by omega), hd]
    simp only [wtd]
    have hat : w64 (w64 (w64 (g.first + w64 (k * g.hop)) + i) + s) = w64 (w64 (w64 (g.first + w64 (k * g.hop)) + s) + i) := at_eq _ _ _
    rw [hat]
    generalize hq : w64 (w64 (w64 (g.first + w64 (k * g.hop)) + s) + i) = q at next ⊢
    simp only [within_is, bindO_val, Int.toNat_natCast, Nat.mul_one, encI_get, hx, Option.map_some, intC_int]
    rw [w64_in (n := (l.length : Int) - 1) (by omega), w64_in (n := (i : Int) + 1) (by omega)]
    by_cases h : 0 ≤ q ∧ q < l.length
    · obtain ⟨n, rfl⟩ : ∃ n : Nat, q = n := ⟨q.toNat, by omega⟩
      obtain ⟨z, hz, _⟩ := get_drop (l := l) (i := n) (by omega)
      have e : wz l n x = (w64 (x * z.1), w64 (x * z.2)) := by
        unfold wz
        rw [if_pos h, Int.toNat_natCast, hz]
        rfl
      rw [bif_pos (by omega), bif_pos (by omega), bif_pos h]
      simp only [Int.toNat_natCast, Nat.add_zero, encG_0, encG_1, hz, Option.map_some, intC_int, bindO_val]
      rw [bif_pos (by omega), bif_pos h, bif_pos ⟨trivial, by simp only [big]; omega⟩]
      rw [e] at next ⊢
      exact next
    · have e : wz l q x = (0, 0) := by unfold wz; rw [if_neg h]
      rw [bif_neg (by omega), bif_pos ⟨trivial, by simp only [big]; omega⟩]
      rw [e] at next ⊢
      exact next

/-! Sizes of samples -/
theorem size_is (x : Int) (h : -4611686018427387904 ≤ x ∧ x ≤ 4611686018427387904) : Fglidepathbase_Size [.int .i64 x] = some (if x < 0 then -x else x) := by
  refine Fglidepathbase_Size_of _ ?_
  unfold tglidepathbase_Size
  rw [w64_in (by omega), Int.zero_sub]
  congr 1
  split <;> split <;> omega
def absI (x : Int) : Int := if x < 0 then -x else x
def partZ (z : ZZ) : Int := if absI z.2 > absI z.1 then absI z.2 else absI z.1
theorem gpart_is (z : ZZ) (hz : Small 4611686018427387904 z) : Fglidepathbase_GPart [.agg [.int .i64 z.1, .int .i64 z.2]] = some (partZ z) := by
  refine Fglidepathbase_GPart_of _ _ ?_
  unfold tglidepathbase_GPart
  simp only [size_is z.1 hz.1, size_is z.2 hz.2, bindO_val]
  rfl
end Gv
