/- The middle of numbers, as the program finds it: told by what it gives. -/
import Derived.Test.YtdabeaggjgkkdaaCT1
import Derived.Test.YtdabeaggjgkkdaaGvClone
import Derived.Lib.Walk
import Derived.Lib.SliceRun
namespace Gv
open Go Go.Proofs Go.RowKit Go.Shelf Go.Sort Go.ChangeShapes Go.WideShapes
set_option maxRecDepth 100000

theorem cell_own {B : Nat} {w : World} {g n cap : Nat} {zs : List Int} (h : w.ownsRow B 3 1 (.slice (some ⟨g, 0, none⟩) n cap) n (zs.map (Value.int .i64))) {i : Nat} (hi : i < n) : w.cell? ⟨g, i, none⟩ = some (.int .i64 (zs.getD i 0)) := by
  have hl : zs.length = n := by simpa using h.1
  have := h.cellAt i (by omega)
  rw [this]
  simp [List.getD, show i < zs.length by omega]

set_option maxHeartbeats 1000000 in
theorem middle_at (b off c : Nat) (zs : List Int) (w : World) (h1 : 1 ≤ zs.length) (hn : zs.length ≤ 1000) (hc : ∀ j, j < zs.length → w.cell? ⟨b, off + j, none⟩ = some (.int .i64 (zs.getD j 0))) :
    Calls Try.prog 82 #[.slice (some ⟨b, off, none⟩) zs.length c] w fun e w' => e = .returned (.int .i64 ((isort zs).getD ((zs.length - 1) / 2) 0)) ∧ Below w.heap.size w w' := by
  have hclone := Any.slices_Clone_int Try.laysClone b off zs.length c zs w (Nat.le_refl _) (by omega) hc
  rw [List.take_length] at hclone
  clear hc
  obtain ⟨n, hnl⟩ : ∃ n, n = zs.length := ⟨_, rfl⟩
  rw [← hnl] at hclone h1 hn ⊢
  clear hnl
  have hclone : Calls Try.prog 106 #[.slice (some ⟨b, off, none⟩) n c] w fun e w' => ∃ v', e = .returned v' ∧ w'.ownsRow w.heap.size 3 1 v' n (zs.map (Value.int .i64)) ∧ v' ≠ .slice none 0 0 ∧ Below w.heap.size w w' := hclone
  go_enter Try.func82, Try.ntmps82
  go_wp2_with (first
    | (go_at_call 106; refine hclone.mono ?_; rintro e w1 ⟨v1, rfl, hown, hnn, hbel⟩
       obtain ⟨g, cap, rfl, hbg, hgl, hncap, hcm, hlen, hH⟩ := Lib.holds_of_ownsRow hown hnn
       have hs := sort_own hown (by omega)
       have X : Aside (Below w.heap.size w w1 ∧ w.heap.size ≤ g) := ⟨hbel, hbg⟩
       clear hown hnn hbel hH hlen)
    | (go_at_call 107; refine hs.mono ?_; rintro e w2 ⟨rfl, ho2, hg2⟩
       have Y : Aside (w1.grownBy w2 (some g)) := hg2
       have hcell := cell_own ho2 (i := (n - 1) / 2) (by omega)
       clear ho2 hg2))
  go_ret
  refine ⟨by simp [List.getD], ?_⟩
  exact X.out.1.grown Y.out X.out.1.size (fun j hj => by cases hj; exact X.out.2)

/-- Cells that are whole numbers. -/
def intsOf : List PV → Option (List Int)
  | [] => some []
  | .int .i64 x :: r => (intsOf r).map (x :: ·)
  | _ => none
theorem intsOf_some : ∀ {cs : List PV} {l : List Int}, intsOf cs = some l → cs = l.map (PV.int .i64)
  | [], l, h => by simp [intsOf] at h; subst h; rfl
  | c :: r, l, h => by
    unfold intsOf at h
    split at h
    · rename_i e; cases e
    · rename_i x r' e
      simp only [List.cons.injEq] at e
      obtain ⟨rfl, rfl⟩ := e
      cases hr : intsOf r with
      | none => rw [hr] at h; cases h
      | some l' =>
        rw [hr] at h
        simp only [Option.map_some, Option.some.injEq] at h
        subst h
        rw [intsOf_some hr]
        rfl
    · cases h
theorem prs_ints {St : Nat → Nat → Prop} {w : World} : ∀ {l : List Int} {us : List Value}, PRs St w (l.map (PV.int .i64)) us → us = l.map (Value.int .i64)
  | [], us, h => by simpa [PRs] using h
  | x :: l, us, h => by
    simp only [List.map_cons, PRs, PR] at h
    obtain ⟨u, us', rfl, rfl, h2⟩ := h
    rw [prs_ints h2]
    rfl
/-- A list of whole numbers in memory. -/
theorem list_ints {St : Nat → Nat → Prop} {w : World} {l : List Int} {u : Value} (h : PR St w (.list l.length (l.map (PV.int .i64))) u) (h1 : 1 ≤ l.length) :
    ∃ b off cap, u = .slice (some ⟨b, off, none⟩) l.length cap ∧ l.length ≤ cap ∧ ∀ j, j < l.length → w.cell? ⟨b, off + j, none⟩ = some (.int .i64 (l.getD j 0)) := by
  simp only [PR] at h
  obtain ⟨a, cap, us, rfl, hus, hcap, hat⟩ := h
  have := prs_ints hus
  subst this
  rcases hat with ⟨h, _⟩ | ⟨ad, rfl, hat⟩
  · omega
  · have hg : ∀ j, j < l.length → (l.map (Value.int .i64))[j]? = some (.int .i64 (l.getD j 0)) := fun j hj => by
      rw [List.getElem?_map, List.getElem?_eq_getElem hj]
      simp [List.getD, hj]
    have h0 := (hat 0 _ (hg 0 (by omega))).2.1
    have e : ad = ⟨ad.block, ad.off, none⟩ := add_form ad 0 (cell_spot h0)
    refine ⟨ad.block, ad.off, cap, by rw [← e], hcap, fun j hj => ?_⟩
    have hc := (hat j _ (hg j hj)).2.1
    rw [add_form ad j (cell_spot hc)] at hc
    exact hc

def midV (l : List Int) : Int := (isort l).getD ((l.length - 1) / 2) 0
def midG : List PV → Option PV
  | [.list n cs] => match intsOf cs with
    | some l => if l.length = n ∧ 1 ≤ n ∧ n ≤ 1000 then some (.int .i64 (midV l)) else none
    | none => none
  | _ => none
theorem mid82 : PrimOK Try.prog 82 midG := by
  refine ⟨⟨Try.f82, Try.func82, by kernel_rfl, by decide⟩, fun args v hg w St vals hlt hargs => ?_⟩
  unfold midG at hg
  split at hg <;> try (cases hg; done)
  rename_i n cs
  split at hg <;> try (cases hg; done)
  rename_i l hl
  split at hg <;> try (cases hg; done)
  rename_i hn
  simp only [Option.some.injEq] at hg
  subst hg
  obtain ⟨rfl, h1, h2⟩ := hn
  have hcs := intsOf_some hl
  subst hcs
  simp only [PRs] at hargs
  obtain ⟨u, _, rfl, hu, rfl⟩ := hargs
  obtain ⟨b, off, cap, rfl, _, hc⟩ := list_ints hu h1
  refine (middle_at b off cap l w h1 h2 hc).mono ?_
  rintro e w' ⟨rfl, hb⟩
  exact ⟨_, St, rfl, by simp [RR, PR, midV], hb, fun _ _ h => h, fun b o h => by have := hlt b o h; have := hb.size; omega, fun _ _ h => .inl h⟩
end Gv
