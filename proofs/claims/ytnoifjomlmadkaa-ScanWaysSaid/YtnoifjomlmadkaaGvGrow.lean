/- slices.Grow, by the library's own contract. -/
import Derived.Shelf.Spec.SlicesGrow
import Derived.Test.YtnoifjomlmadkaaGvR
namespace Gv
open Go Go.Proofs Go.RowKit Go.Lib
variable {P : Program} {ρ : Go.Shelf.Ren}

theorem growOK (L : Lays8.n4 P ρ) {i0 : TypeInfo} {z : Value} (hi0 : P.info? (ρ.t 25) = some i0) (hz0 : i0.zero = some z) (hs0 : 0 < i0.size) (hb : i0.bytes ≤ 4096) (hzs : z.cells.size = i0.size) (hent : Enters P (ρ.f 4)) : GrowOK P (ρ.f 4) i0.size where
  ent := hent
  zero w St hlt := (Any8.slices_Grow_room L none 0 0 0 w (by omega) (by omega) (by omega) (by omega)).mono fun e w' h => by
    obtain ⟨rfl, rfl⟩ := h
    exact ⟨_, St, rfl, by simp [RR, PR], Below.refl _ _, fun _ _ h => h, hlt, fun _ _ h => .inl h⟩
  more n h1 h2 w St hlt := by
    obtain ⟨k, rfl⟩ : ∃ k : Nat, n = k := ⟨n.toNat, by omega⟩
    have hk : 0 < k := by omega
    have hkb : k ≤ 1073741824 := by unfold big at h2; omega
    refine (Any8.slices_Grow_grow L i0 z hi0 hz0 hs0 none 0 0 k [] w (by omega) (by omega) ?_ (by omega) (by simp) (by simp) (fun a h => by cases h)).mono fun e w' h => ?_
    · have : (0 + k) * i0.bytes ≤ 1073741824 * 4096 := Nat.mul_le_mul (by omega) hb
      omega
    · obtain ⟨rfl, rfl⟩ := h
      obtain ⟨r1, e1, l1⟩ := zero_list z.cells (0 + k - 0)
      obtain ⟨r2, e2, l2⟩ := zero_list z.cells (grownCap w (0 + k) 0 (ρ.t 25) - (0 + k))
      have hge := grownCap_ge w (0 + k) 0 (ρ.t 25)
      have hge' : k ≤ grownCap w k 0 (ρ.t 25) := by simpa using hge
      have hcm : grownCap w (0 + k) 0 (ρ.t 25) ≤ maxLen := grownCap_le_maxLen w (0 + k) 0 (ρ.t 25) (by unfold maxLen; omega)
      refine ⟨_, St, rfl, ?_, below_da w _, fun _ _ h => h, fun b o h => ?_, fun b o h => .inl h⟩
      · refine ⟨w.heap.size, grownCap w (0 + k) 0 (ρ.t 25), [], _, _, rfl, Nat.le_refl _, heap_alloc_new w.drew _, ?_, Nat.zero_le _, hcm, ?_, ?_, ?_, fun j _ hs => by have := hlt _ _ hs; omega⟩
        · rw [e1, e2]
          simp [l1, l2, hzs]
          rw [← Nat.add_mul]
          congr 1
          omega
        · simp [PRs]
        · simp
        · intro j u hj
          simp at hj
      · have := hlt b o h
        simp
        omega

def growB (P : Program) (t : TypeId) (sz : Nat) : Bool := match P.info? t with
  | some i => match i.zero with
    | some z => decide (0 < i.size ∧ i.bytes ≤ 4096 ∧ z.cells.size = i.size ∧ i.size = sz)
    | none => false
  | none => false

theorem growOK_of (L : Lays8.n4 P ρ) {sz : Nat} (h : growB P (ρ.t 25) sz = true) (hent : Enters P (ρ.f 4)) : GrowOK P (ρ.f 4) sz := by
  unfold growB at h
  split at h <;> try (cases h; done)
  rename_i i hi
  split at h <;> try (cases h; done)
  rename_i z hz
  obtain ⟨h1, h2, h3, rfl⟩ := of_decide_eq_true h
  exact growOK L hi hz h1 h2 h3 hent
end Gv
