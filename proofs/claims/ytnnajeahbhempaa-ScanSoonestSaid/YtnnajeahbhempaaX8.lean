/- slices.Repeat of one stop, twice, told by what it gives. -/
import Derived.Test.YtnnajeahbhempaaX7
import Derived.Test.YtnnajeahbhempaaGvClone
namespace Gv
open Go Go.Proofs Go.RowKit Go.Lib

def repG : List PV → Option PV
  | [.list 1 [a, b, c], .int .i64 2] => some (.list 2 [a, b, c, a, b, c])
  | _ => none

theorem rep124 : PrimOK Try.prog 124 repG := by
  refine ⟨⟨Try.f124, Try.func124, by kernel_rfl, by decide⟩, fun args v hg w St vals hlt hargs => ?_⟩
  unfold repG at hg
  split at hg
  · rename_i a b c
    simp only [Option.some.injEq] at hg
    subst hg
    simp only [PRs] at hargs
    obtain ⟨x, _, rfl, hx, y, _, rfl, hy, rfl⟩ := hargs
    simp only [PR] at hy
    subst hy
    obtain ⟨ad0, cap, us, rfl, hus, hcap, hat⟩ := hx
    rcases hat with ⟨h, _⟩ | ⟨ad, rfl, hat⟩
    · omega
    · have hus0 := hus
      simp only [PRs] at hus
      obtain ⟨u0, _, rfl, _, u1, _, rfl, _, u2, _, rfl, _, rfl⟩ := hus
      obtain ⟨_, c0, k0⟩ := hat 0 u0 rfl
      obtain ⟨_, c1, k1⟩ := hat 1 u1 rfl
      obtain ⟨_, c2, k2⟩ := hat 2 u2 rfl
      have e0 := add_form ad 0 (cell_spot c0)
      have e1 := add_form ad 1 (cell_spot c1)
      have e2 := add_form ad 2 (cell_spot c2)
      have e : ad = ⟨ad.block, ad.off, none⟩ := e0
      rw [e0] at c0
      rw [e1] at c1
      rw [e2] at c2
      rw [e]
      refine (repeat_two w ad.block ad.off cap u0 u1 u2 c0 c1 c2 k0 k1 k2).mono ?_
      rintro e w' ⟨rfl, hh, hb⟩
      have ev : Evo St w (fun q o => St q o ∨ (q = w.heap.size ∧ o < 6)) w' := evo_below hlt hb fun _ _ h => .inl h
      have hp := PRs.mono ev _ _ hus0
      refine ⟨_, fun q o => St q o ∨ (q = w.heap.size ∧ o < 6), rfl, ?_, hb, fun _ _ h => .inl h, fun q o hs => ?_, fun q o hs => hs.imp id fun h => Nat.le_of_eq h.1.symm⟩
      · refine ⟨_, 2, [u0, u1, u2, u0, u1, u2], rfl, hp.append hp, by omega, .inr ⟨_, rfl, fun j x hj => ?_⟩⟩
        have hjl := (List.getElem?_eq_some_iff.1 hj).1
        refine ⟨.inr ⟨rfl, by simpa using hjl⟩, ?_, ?_⟩
        · rw [addr_add, Nat.zero_add, cell_of_row w' w.heap.size j _ 77 (0, 0) hh]
          simpa using hj
        · have hm := List.mem_of_getElem? hj
          simp at hm
          rcases hm with h | h | h | h | h | h <;> subst h <;> assumption
      · rcases hs with hs | ⟨rfl, _⟩
        · exact Nat.lt_of_lt_of_le (hlt q o hs) hb.size
        · exact heap_lt hh
  · cases hg
end Gv
