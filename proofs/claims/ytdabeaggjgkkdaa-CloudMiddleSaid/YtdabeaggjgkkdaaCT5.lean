/- The turns of shots: what they are told by. -/
import Derived.Test.YtdabeaggjgkkdaaCT4
namespace Gv
open Go Go.Proofs Go.RowKit Go.Shelf Go.Sort Go.ChangeShapes Go.WideShapes
set_option maxRecDepth 100000

/-- A list of the call's own is handed back. -/
theorem own_post {St : Nat → Nat → Prop} {w w' : World} {v : Value} {n : Nat} {l : List Int} (hlt : ∀ b o, St b o → b < w.heap.size) (ho : w'.ownsRow w.heap.size 3 1 v n (l.map (Value.int .i64))) (hb : Below w.heap.size w w') :
    CallPost St w (.val (.list n (l.map (PV.int .i64)))) (.returned v) w' := by
  have hl : l.length = n := by simpa using ho.1
  have hpr : ∀ (St : Nat → Nat → Prop) (w : World), ∀ l : List Int, PRs St w (l.map (PV.int .i64)) (l.map (Value.int .i64)) := by
    intro St w l
    induction l with
    | nil => simp [PRs]
    | cons x l ih =>
      simp only [List.map_cons, PRs, PR]
      exact ⟨_, _, rfl, rfl, ih⟩
  rcases ho.2 with ⟨rfl, h0⟩ | ⟨g, cap, cur, rfl, hbase, hg, h1, h2, h3, h4⟩
  · subst h0
    have : l = [] := List.length_eq_zero_iff.1 hl
    subst this
    exact ⟨_, St, rfl, by simp [RR, PR, PRs], hb, fun _ _ h => h, fun b o h => by have := hlt b o h; have := hb.size; omega, fun _ _ h => .inl h⟩
  · refine ⟨_, fun q o => St q o ∨ (q = g ∧ o < n), rfl, ?_, hb, fun _ _ h => .inl h, fun q o hs => ?_, fun q o hs => hs.imp id fun h => by omega⟩
    · simp only [RR, PR]
      refine ⟨_, cap, l.map (Value.int .i64), rfl, hpr _ _ l, h1, .inr ⟨_, rfl, fun j x hj => ?_⟩⟩
      have hjl : j < n := by
        have := (List.getElem?_eq_some_iff.1 hj).1
        simpa [hl] using this
      refine ⟨.inr ⟨rfl, by simpa using hjl⟩, ?_, ?_⟩
      · rw [addr_add, Nat.zero_add, cell_of_row w' _ j _ 3 (0, 0) hg]
        rw [← h4, List.getElem?_take_of_lt (by omega)] at hj
        simpa using hj
      · have hm := List.mem_of_getElem? hj
        rw [List.mem_map] at hm
        obtain ⟨y, _, rfl⟩ := hm
        rfl
    · rcases hs with hs | ⟨rfl, _⟩
      · exact Nat.lt_of_lt_of_le (hlt q o hs) hb.size
      · exact heap_lt hg

set_option maxHeartbeats 1000000 in
theorem turns_zero (a : Option Addr) (cap : Nat) (win : Int) (w : World) :
    Calls Try.prog 85 #[.slice a 0 cap, .int .i64 win] w fun e w' => e = .returned (.slice none 0 0) ∧ Below w.heap.size w w' := by
  have hmix : Try.prog.follows .mixedOrders = true := by kernel_rfl
  have hs := sort_own (World.ownsRow_nil w w.heap.size 3 1) (zs := []) (by omega)
  go_enter Try.func85, Try.ntmps85
  go_wp2
  go_loopw [5, 10] (fun v i wr => i = .int .i64 0 ∧ v = .slice none 0 0 ∧ wr = w) (fun _ _ _ => 0)
  case atStart => exact ⟨rfl, rfl, rfl⟩
  case round =>
    obtain ⟨rfl, rfl, rfl⟩ := hrel
    go_wp2_with (go_at_call 107; refine hs.mono ?_; rintro e w2 ⟨rfl, ho2, hg2⟩)
    go_ret
    exact ⟨rfl, (Below.refl _ _).grown hg2 (Nat.le_refl _) (fun q hq => by simp [Value.ownBlock] at hq)⟩

/-- Cells that are shots. -/
def shtsOf : List PV → Option (List Sht)
  | [] => some []
  | .int .i64 x :: .int .i64 y :: .int .i64 z :: r => (shtsOf r).map ((x, y, z) :: ·)
  | _ => none
def encT (z : Sht) : List PV := [.int .i64 z.1, .int .i64 z.2.1, .int .i64 z.2.2]
theorem shtsOf_some : ∀ {n : Nat} {cs : List PV} {l : List Sht}, cs.length ≤ n → shtsOf cs = some l → cs = l.flatMap encT
  | _, [], l, _, h => by simp [shtsOf] at h; subst h; rfl
  | 0, c :: r, l, hn, h => by simp at hn
  | n + 1, c :: r, l, hn, h => by
    unfold shtsOf at h
    split at h
    · rename_i e; cases e
    · rename_i x y z r' e
      simp only [List.cons.injEq] at e
      obtain ⟨rfl, rfl⟩ := e
      cases hr : shtsOf r' with
      | none => rw [hr] at h; cases h
      | some l' =>
        rw [hr] at h
        simp only [Option.map_some, Option.some.injEq] at h
        subst h
        rw [shtsOf_some (n := n) (by simp at hn; omega) hr]
        rfl
    · cases h
def valT (z : Sht) : List Value := [.int .i64 z.1, .int .i64 z.2.1, .int .i64 z.2.2]
theorem prs_shts {St : Nat → Nat → Prop} {w : World} : ∀ {l : List Sht} {us : List Value}, PRs St w (l.flatMap encT) us → us = l.flatMap valT
  | [], us, h => by simpa [PRs] using h
  | x :: l, us, h => by
    simp only [List.flatMap_cons, encT, List.cons_append, List.nil_append, PRs, PR] at h
    obtain ⟨u1, us1, rfl, rfl, u2, us2, rfl, rfl, u3, us3, rfl, rfl, h2⟩ := h
    rw [prs_shts h2]
    rfl
theorem valT_get : ∀ (l : List Sht) (j k : Nat), k < 3 → (l.flatMap valT)[j * 3 + k]? = l[j]?.bind fun z => (valT z)[k]?
  | [], j, k, _ => by simp
  | x :: l, 0, k, hk => by
    simp only [List.flatMap_cons, Nat.zero_mul, Nat.zero_add, List.getElem?_cons_zero, Option.bind_some]
    rw [List.getElem?_append_left (by simpa [valT] using hk)]
  | x :: l, j + 1, k, hk => by
    simp only [List.flatMap_cons, List.getElem?_cons_succ]
    rw [List.getElem?_append_right (by simp [valT]; omega), ← valT_get l j k hk]
    congr 1
    simp [valT]
    omega

def turnsG : List PV → Option PV
  | [.list n cs, .int .i64 win] => match shtsOf cs with
    | some l => if l.length = n ∧ n ≤ 1000 then some (.list (4 * n) ((isort (trnL win l)).map (PV.int .i64))) else none
    | none => none
  | _ => none
theorem turns85 : PrimOK Try.prog 85 turnsG := by
  refine ⟨⟨Try.f85, Try.func85, by kernel_rfl, by decide⟩, fun args v hg w St vals hlt hargs => ?_⟩
  unfold turnsG at hg
  split at hg <;> try (cases hg; done)
  rename_i n cs win
  split at hg <;> try (cases hg; done)
  rename_i l hl
  split at hg <;> try (cases hg; done)
  rename_i hn
  simp only [Option.some.injEq] at hg
  subst hg
  obtain ⟨rfl, h2⟩ := hn
  have hcs := shtsOf_some (Nat.le_refl _) hl
  subst hcs
  simp only [PRs, PR] at hargs
  obtain ⟨u, _, rfl, ⟨a, cap, us, rfl, hus, hcap, hat⟩, u2, _, rfl, rfl, rfl⟩ := hargs
  have := prs_shts hus
  subst this
  by_cases h0 : l.length = 0
  · have he : l = [] := List.length_eq_zero_iff.1 h0
    subst he
    refine (turns_zero a cap win w).mono ?_
    rintro e w' ⟨rfl, hb⟩
    exact own_post hlt (World.ownsRow_nil _ _ _ _) hb
  · rcases hat with ⟨h, _⟩ | ⟨ad, rfl, hat⟩
    · exact absurd h h0
    · have cellv : ∀ j z k x, l[j]? = some z → k < 3 → (valT z)[k]? = some x → w.cell? (ad.add (j * 3 + k)) = some x := fun j z k x hj hk hx =>
        (hat (j * 3 + k) x (by rw [valT_get l j k hk, hj]; exact hx)).2.1
      obtain ⟨z0, hz0⟩ : ∃ z, l[0]? = some z := ⟨l[0]'(by omega), List.getElem?_eq_getElem _⟩
      have hc0 := cellv 0 z0 0 (.int .i64 z0.1) hz0 (by omega) rfl
      have e : ad = ⟨ad.block, ad.off, none⟩ := add_form ad 0 (cell_spot hc0)
      rw [e]
      refine (turns_at ad.block ad.off cap l win w h2 fun j z hj => ?_).mono ?_
      · have a0 := cellv j z 0 (.int .i64 z.1) hj (by omega) rfl
        have a1 := cellv j z 1 (.int .i64 z.2.1) hj (by omega) rfl
        have a2 := cellv j z 2 (.int .i64 z.2.2) hj (by omega) rfl
        rw [add_form ad _ (cell_spot a0)] at a0
        rw [add_form ad _ (cell_spot a1)] at a1
        rw [add_form ad _ (cell_spot a2)] at a2
        exact ⟨a0, a1, a2⟩
      · rintro e w' ⟨v, rfl, ho, hb⟩
        exact own_post hlt ho hb
end Gv
