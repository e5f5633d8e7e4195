/- slices.Clone, told by what it gives: a list. -/
import Derived.Test.YtfhgjanheaocaaaGvU
namespace Gv
open Go Go.RowKit
def cloneG (sz : Nat) (args : List PV) : Option PV := match args with
  | [.list n cs] => if cs.length = n * sz ∧ n ≤ big then some (.list n cs) else none
  | _ => none
theorem own_list {B n sz : Nat} {cs : List PV} {St : Nat → Nat → Prop} {w : World} {u : Value} (h : RR B St w (.own n sz cs) u) : RR B St w (.val (.list n cs)) u := by
  simp only [RR] at h ⊢
  obtain ⟨q, cap, us, cur, e, rfl, _, _, _, hc, _, hp, _, hat, _⟩ := h
  simp only [PR]
  exact ⟨some ⟨q, 0, none⟩, cap, us, rfl, hp, hc, .inr ⟨_, rfl, hat⟩⟩
theorem clonePrim {P : Program} (hm : P.follows .mixedOrders = true) {f sz : Nat} {env1 : Nat → Option AFn} (hE : EnvOK P env1) (ent : Enters P f)
    (hrun : ∀ n cs, n ≠ 0 → cs.length = n * sz → n ≤ big → Fn env1 f (.one .list) [.list n cs] = some (n, cs))
    (hnil : ∀ (n c : Nat) (w : World), Calls P f #[.slice none n c] w fun e w' => e = .returned (.slice none 0 0) ∧ w' = w)
    (hzero : ∀ (a : Addr) (c : Nat) (w : World), Calls P f #[.slice (some a) 0 c] w fun e w' => ∃ a' c', e = .returned (.slice a' 0 c') ∧ Below w.heap.size w w') : PrimOK P f (cloneG sz) where
  ent := ent
  ok args v hg w St vals hlt hargs := by
    unfold cloneG at hg
    split at hg <;> try (cases hg; done)
    rename_i n cs
    split at hg <;> try (cases hg; done)
    rename_i hcs
    simp only [Option.some.injEq] at hg
    subst hg
    have hargs0 := hargs
    simp only [PRs] at hargs
    obtain ⟨u, xs, rfl, hu, rfl⟩ := hargs
    by_cases h0 : n = 0
    · subst h0
      have hc0 : cs = [] := List.length_eq_zero_iff.1 (by omega)
      subst hc0
      simp only [PR] at hu
      obtain ⟨a, cap, us, rfl, _, _, _⟩ := hu
      have fin : ∀ (a' : Option Addr) (c' : Nat) (w' : World), Below w.heap.size w w' → CallPost St w (.val (.list 0 [])) (.returned (.slice a' 0 c')) w' := fun a' c' w' hb =>
        ⟨_, St, rfl, by simp [RR, PR, PRs], hb, fun _ _ h => h, fun b o h => by have := hlt b o h; have := hb.size; omega, fun _ _ h => .inl h⟩
      cases a with
      | none =>
        refine (hnil 0 cap w).mono fun e w' h => ?_
        obtain ⟨rfl, rfl⟩ := h
        exact fin _ _ _ (Below.refl _ _)
      | some a =>
        refine (hzero a cap w).mono fun e w' h => ?_
        obtain ⟨a', c', rfl, hb⟩ := h
        exact fin _ _ _ hb
    · obtain ⟨rv, hr, hpv⟩ := Fn_some (hrun n cs h0 hcs.1 hcs.2)
      obtain ⟨k, hk⟩ := (run_iff env1).1 hr
      refine ((calls_sound hm hE k).fn f _ rv hk).2 w St _ hlt hargs0 |>.mono fun e w' h => ?_
      obtain ⟨u', St', rfl, h1, h2⟩ := h
      refine ⟨u', St', rfl, ?_, h2⟩
      cases rv with
      | val v =>
        have : v = .list n cs := hpv
        subst this
        exact h1
      | own n' sz' cs' =>
        have : PV.list n' cs' = .list n cs := hpv
        simp only [PV.list.injEq] at this
        obtain ⟨rfl, rfl⟩ := this
        exact own_list h1
theorem prim_fn {env : Nat → Option AFn} {f sz n : Nat} {cs : List PV} (hf : env f = some (primA 1 (cloneG sz))) (h : cs.length = n * sz ∧ n ≤ big) : Fn env f (.one .list) [.list n cs] = some (n, cs) := by
  have hr : run env f [.list n cs] = some (.val (.list n cs)) := by
    refine (run_iff env).2 ⟨2, ?_⟩
    have hg : cloneG sz [.list n cs] = some (.list n cs) := if_pos h
    have e : exN (callN env 1) 1 (primA 1 (cloneG sz)).body (start (primA 1 (cloneG sz)) [.list n cs]) = some (.normal, ⟨[.p (.list n cs), .p (.list n cs)], [Blk.none, Blk.none]⟩) := by
      show exN (callN env 1) 1 (.ops [{ dst := some 1, grd := none, args := [.tmp 0], k := .l (.prim (cloneG sz)) }]) ⟨[.p (.list n cs), .undef], [Blk.none, Blk.none]⟩ = _
      simp only [exN, exOps, exOp, grd]
      have hk : runK (callN env 1) (.l (.prim (cloneG sz))) [.p (.list n cs)] [Blk.none, Blk.none] = some (.p (.list n cs), [Blk.none, Blk.none]) := by
        simp only [runK, runL, pureAs, pureA, hg, Option.map_some]
      have ha : ([Arg.tmp 0].map (Arg.get [AV.p (.list n cs), .undef])) = [.p (.list n cs)] := rfl
      simp only [ha, hk]
      rfl
    rw [callN_fn env 1 f _ (fun sh caps e => by cases e)]
    simp only [hf]
    rw [if_pos ⟨rfl, rfl⟩, e]
    rfl
  unfold Fn
  rw [hr]
  rfl
end Gv
