/- Operations on memory: loads, stores, new blocks, appends. -/
import Derived.Test.YtfhgjanheaocaaaGvH
import Derived.Great.BuildSlice
namespace Gv
open Go Go.RowKit
variable {P : Program} {X : Nat → Prop} {J : Nat → JT} {g : G} {St : Nat → Nat → Prop} {m : List Blk} {w : World} {call : CallT}
def Step (_X : Nat → Prop) (J : Nat → JT) (g : G) (St : Nat → Nat → Prop) (m : List Blk) (w : World) (v : AV) (m' : List Blk) (u : Value) (w' : World) : Prop :=
  ∃ X' g' St', MemOK X' J g' St' m' w' ∧ Evo St w St' w' ∧ MExt g m g' m' ∧ VR g' m' St' w' v u
theorem Step.same (h : MemOK X J g St m w) {v : AV} {u : Value} (hv : VR g m St w v u) : Step X J g St m w v m u w :=
  ⟨X, g, St, h, Evo.refl _ _, MExt.refl _ _, hv⟩
theorem new_cell (w : World) (c : Array Value) (t : TypeId) (j : Nat) : (w.alloc (.cells c t)).cell? ⟨w.heap.size, j, none⟩ = c[j]? := World.cell?_alloc_new w c t j
theorem MemOK.stable (h : MemOK X J g St m w) (c : Array Value) (t : TypeId) :
    ∃ St', MemOK X J g St' m (w.alloc (.cells c t)) ∧ Evo St w St' (w.alloc (.cells c t)) ∧ ∀ j, St' w.heap.size j := by
  have hb : Below w.heap.size w (w.alloc (.cells c t)) := (Below.refl _ _).alloc (Nat.le_refl _) _
  obtain ⟨h1, h2⟩ := h.grow (St' := fun b o => St b o ∨ b = w.heap.size) hb (fun _ _ => .inl) (fun b o hs => by
    rcases hs with hs | rfl
    · have := h.stLt b o hs; simp; omega
    · simp) (fun b o hs => by rcases hs with hs | rfl; exact .inl hs; exact .inr (Nat.le_refl _))
  exact ⟨_, h1, h2, fun _ => .inr rfl⟩
theorem at_new {St' : Nat → Nat → Prop} {c : Array Value} {t : TypeId} (h : ∀ j, St' w.heap.size j) (hone : ∀ x ∈ c.toList, x.oneCell' = true) :
    At St' (w.alloc (.cells c t)) ⟨w.heap.size, 0, none⟩ c.toList := by
  intro j x hj
  refine ⟨by simpa using h (0 + j), ?_, hone x (List.mem_of_getElem? hj)⟩
  rw [addr_add, Nat.zero_add, new_cell]
  simpa using hj
theorem bslP_sound (h : MemOK X J g St m w) {ρ : Operand → Value} {t e : TypeId} {n k : Nat} {z : List PV} {parts : Array (Nat × Operand)} {ps cs : List PV} (ht : P.underlying t = some (.slice e)) (hk : szT P e = some k) (hz : zeroP P e = some z)
    (hc : z.length = k ∧ k ≠ 0 ∧ n * k ≤ 16777216) (hl : layP k (rep z n) (parts.toList.map fun p => p.1 * k) ps = some cs) (hpv : PRs St w ps (parts.toList.map fun x => ρ x.2)) :
    ∃ u w', (Instr.buildSlice t n (parts.map fun (i, x) => (i, ρ x))).run P w = .ok u w' ∧ Step X J g St m w (.lit n k cs) m u w' := by
  obtain ⟨rfl, hk0, hbig⟩ := hc
  obtain ⟨i, zv, hi, hzv, hzs, hzo⟩ := zeroP_info (St := St) (w := w) hz
  have his : i.size = z.length := by
    obtain ⟨i', hi', hs'⟩ := szT_info hk
    rw [hi] at hi'
    simp at hi'
    rw [hi']
    exact hs'
  have hzl : zv.cells.size = z.length := by have := hzs.length; simpa using this
  obtain ⟨uz', f1, f2, hone, f4⟩ := layP_sound (St := St) (w := w) parts.toList _ cs ps (madeCells zv.cells (n * z.length)) hl (rep_sound hzs (by omega) n) hpv (made_one (by omega) hzo)
  have hlist : (parts.map fun (i, x) => (i, ρ x)).toList = parts.toList.map fun x => (x.1, ρ x.2) := by simp
  have hlen : uz'.toList.length = n * z.length := by
    rw [Array.length_toList, f4, size_madeCells]
  obtain ⟨St', s1, s2, s3⟩ := h.stable uz' e
  have hv' : VR g m St' (w.alloc (.cells uz' e)) (.lit n z.length cs) (.slice (some ⟨w.heap.size, 0, none⟩) n n) := by
    simp only [VR]
    exact ⟨_, uz'.toList, rfl, PRs.mono s2 _ _ f2, hlen, at_new s3 hone⟩
  refine ⟨_, w.alloc (.cells uz' e), ?_, _, g, St', s1, s2, MExt.refl _ _, hv'⟩
  by_cases hn : n * i.size = 0
  · have hn0 : n = 0 := by
      rcases Nat.mul_eq_zero.1 hn with h0 | h0
      · exact h0
      · omega
    subst hn0
    have : (madeCells zv.cells (0 * z.length)) = #[] := by simp [madeCells]
    rw [this] at f1
    simp only [Instr.buildSlice, Sem.run_bind, run_underlying ht, Result.andThen_ok, run_size hk, Nat.zero_mul]
    have hr0 : (Array.range 0) = #[] := rfl
    simp [hr0, f1, newRow]
  · have := run_buildSlice (P := P) w t e n (parts.map fun (i, x) => (i, ρ x)) uz' i zv ht hi hzv (by rw [his]; omega) hn (by rw [his, hlist]; exact f1)
    exact this
theorem bsl_sound (h : MemOK X J g St m w) {ρ : Operand → Value} {t e : TypeId} {n k : Nat} {z : List PV} {parts : Array (Nat × Operand)} {vs : List AV} {v : AV} (ht : P.underlying t = some (.slice e)) (hk : szT P e = some k) (hz : zeroP P e = some z)
    (hc : z.length = k ∧ k ≠ 0 ∧ n * k ≤ 16777216) (hr : runL call (.bsl n k z (parts.toList.map fun p => p.1 * k)) vs = some v) (hv : VRs g m St w vs (parts.toList.map fun x => ρ x.2)) :
    ∃ u w', (Instr.buildSlice t n (parts.map fun (i, x) => (i, ρ x))).run P w = .ok u w' ∧ Step X J g St m w v m u w' := by
  have hr : (match pureAs vs with
    | some ps => (layP k (rep z n) (parts.toList.map fun p => p.1 * k) ps).map (AV.lit n k)
    | none => none) = some v := by unfold runL at hr; exact hr
  split at hr
  · rename_i ps hps
    cases hl : layP k (rep z n) (parts.toList.map fun p => p.1 * k) ps with
    | none => simp [hl] at hr
    | some cs =>
      simp [hl] at hr
      subst hr
      exact bslP_sound h ht hk hz hc hl (pureAs_spec vs ps _ hps hv)
  · cases hr
end Gv
