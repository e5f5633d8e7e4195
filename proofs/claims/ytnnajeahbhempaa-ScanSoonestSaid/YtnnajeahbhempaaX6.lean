/- Scan's iterator over all orders, told by what it yields. -/
import Derived.Test.YtnnajeahbhempaaX5
namespace Gv
open Go Go.Proofs Go.RowKit Go.Lib Go.Shelf
attribute [local go_sem] Oper.semAt_some
set_option maxRecDepth 100000

/-- All orders of so many numbers. -/
def ordersG (caps : List PV) : Option (Nat × List PV) := match caps with
  | [.imm [.int .i64 n] 0] => if 0 ≤ n ∧ n ≤ 8 then some ((ext n.toNat n.toNat []).length, (ext n.toNat n.toNat []).map rowP) else none
  | _ => none

theorem ext_all {J : Nat → JT} {ac : Addr} {c by' bx l : Nat} {xv : Value} {rows : List (List Nat)} {K : Nat} (hab : ∀ i, Abides (J i)) (hY : YRow J l rows K) (hxv : xv = .func (.func 116) #[] #[.pointer (some ac), .pointer (some ⟨by', 0, none⟩), .pointer (some ⟨bx, 0, none⟩)]) (hc : c ≤ 100) :
    ∀ (m : Nat) (b : List Nat) (i : Nat) (X : Nat → Prop) (St : Nat → Nat → Prop) (w : World) (v : Value), b.length + m = c → (∀ j r, (ext c m b)[j]? = some r → rows[i + j]? = some r) → i ≤ K → Bed J ac c by' bx l xv i X St w → Row by' bx X St w v b.length (valN b) →
      Calls Try.prog 116 #[v, .pointer (some ac), .pointer (some ⟨by', 0, none⟩), .pointer (some ⟨bx, 0, none⟩)] w (ExtPost J ac c by' bx l xv K i (ext c m b).length v b.length X St w)
  | 0, b, i, X, St, w, v, hbc, hR, hi, bed, row => ext_zero hab hY b (by omega) (by omega) i X St w v (hR 0 b rfl) hi bed row
  | m + 1, b, i, X, St, w, v, hbc, hR, hi, bed, row => ext_succ hab hxv hc m b hbc (fun b i X St w v h1 h2 h3 h4 h5 => ext_all hab hY hxv hc m b i X St w v h1 h2 h3 h4 h5) i X St w v hR hi bed row

theorem row_at {rows : List (List Nat)} {n i : Nat} {b : List Nat} (hi : i < n) (h : rows[i]? = some b) : [rowP b].flatMap pcells = ((((rows.map rowP).take (n * shSize [none])).drop (i * shSize [none])).take (shSize [none])) := by
  have e : shSize [none] = 1 := rfl
  rw [e, Nat.mul_one, Nat.mul_one]
  have h1 : ((rows.map rowP).take n)[i]? = some (rowP b) := by
    rw [List.getElem?_take, if_pos hi, List.getElem?_map, h]
    rfl
  have hlt := (List.getElem?_eq_some_iff.1 h1).1
  rw [List.drop_eq_getElem_cons hlt, List.take_succ_cons, List.take_zero]
  have h2 := (List.getElem?_eq_some_iff.1 h1).2
  rw [h2]
  rfl

theorem cbox {W : World} {B : Nat} {v : Value} {t : TypeId} (h : W.heap[B]? = some (.cells #[v] t (0, 0))) : W.cell? ⟨B, 0, none⟩ = some v ∧ W.frozen? ⟨B, 0, none⟩ = false := by
  constructor <;> simp [World.cell?, World.frozen?, h]
theorem cnew (W : World) (v : Value) (t : TypeId) : (W.alloc (.cells #[v] t)).cell? ⟨W.heap.size, 0, none⟩ = some v ∧ (W.alloc (.cells #[v] t)).frozen? ⟨W.heap.size, 0, none⟩ = false := cbox (World.alloc_heap_new W _)

theorem bed_zero {J : Nat → JT} {ac : Addr} {c l : Nat} {xv : Value} (hab : ∀ i, Abides (J i)) {X : Nat → Prop} {St : Nat → Nat → Prop} {w W : World} (hX : ∀ q, X q ↔ q < w.heap.size) (hlt : ∀ b o, St b o → b < w.heap.size) (hJ0 : J 0 X St w)
    (hs : St ac.block ac.off) (hf : ac = ⟨ac.block, ac.off, none⟩) (hc : w.cell? ac = some (.int .i64 c)) (hb : Below w.heap.size w W) (h2 : W.cell? ⟨w.heap.size, 0, none⟩ = some (.func (.yield l) #[] #[])) (h3 : W.cell? ⟨w.heap.size + 1, 0, none⟩ = some xv) :
    Bed J ac c w.heap.size (w.heap.size + 1) l xv 0 X St W := by
  refine ⟨hab 0 X St St w W none hJ0 (grownBy_below hb) (by simp) (evo_below hlt hb fun _ _ h => h) (fun b o hs => Nat.lt_of_lt_of_le (hlt b o hs) hb.size) (fun b o hs => .inl hs), fun q hq => Nat.lt_of_lt_of_le ((hX q).1 hq) hb.size, fun b o hs => Nat.lt_of_lt_of_le (hlt b o hs) hb.size, ⟨hs, hf⟩, ?_, h2, h3, fun h => ?_, fun h => ?_⟩
  · exact (hb.cell (p := ac) (hlt _ _ hs)).trans hc
  · have := (hX _).1 h; omega
  · have := (hX _).1 h; omega

set_option maxHeartbeats 4000000 in
theorem told115 : ToldOK Try.prog 115 [none] ordersG := by
  refine ⟨⟨Try.f115, Try.func115, by kernel_rfl, by decide⟩, fun caps N cs hg hN hcs k l J X St w vals hab hX hlt hargs hyok hJ0 => ?_⟩
  unfold ordersG at hg
  split at hg
  · rename_i n
    split at hg
    · rename_i hn
      simp only [Option.some.injEq, Prod.mk.injEq] at hg
      obtain ⟨rfl, rfl⟩ := hg
      obtain ⟨c, rfl⟩ : ∃ c : Nat, n = c := ⟨n.toNat, by omega⟩
      simp only [Int.toNat_natCast] at hyok ⊢
      simp only [PRs, PR] at hargs
      obtain ⟨_, _, rfl, ⟨ad, us, rfl, ⟨_, _, rfl, rfl, rfl⟩, hat⟩, rfl⟩ := hargs
      obtain ⟨rows, hrows⟩ : ∃ rows, rows = ext c c [] := ⟨_, rfl⟩
      rw [← hrows] at hyok ⊢
      obtain ⟨hs1, hc1, _⟩ := hat 0 _ rfl
      have hform := add_form ad 0 (cell_spot hc1)
      have had : ad.add 0 = ad := rfl
      rw [had] at hc1 hform
      have hY : YRow J l rows k := fun i X St w b v hi hr hj hx hs hp => by
        have hlen := (List.getElem?_eq_some_iff.1 hr).1
        exact hyok i X St w [rowP b] [v] (by omega) hj hx hs rfl (row_at (by omega) hr) ⟨_, _, rfl, hp, rfl⟩
      have hbed : ∀ W : World, Below w.heap.size w W → W.cell? ⟨w.heap.size, 0, none⟩ = some (.func (.yield l) #[] #[]) → W.cell? ⟨w.heap.size + 1, 0, none⟩ = some (.func (.func 116) #[] #[.pointer (some ad), .pointer (some ⟨w.heap.size, 0, none⟩), .pointer (some ⟨w.heap.size + 1, 0, none⟩)]) →
          Bed J ad c w.heap.size (w.heap.size + 1) l (.func (.func 116) #[] #[.pointer (some ad), .pointer (some ⟨w.heap.size, 0, none⟩), .pointer (some ⟨w.heap.size + 1, 0, none⟩)]) 0 X St W := fun W hb h2 h3 => bed_zero hab hX hlt hJ0 hs1 hform hc1 hb h2 h3
      have hrow : ∀ W : World, Row w.heap.size (w.heap.size + 1) X St W (.slice none 0 0) 0 (valN []) := fun W => ⟨World.ownsRow_nil _ _ _ _, fun q hq => by cases hq⟩
      have q0 := cnew w (.func (.yield l) #[] #[]) 160
      have q1 := cnew (w.alloc (.cells #[.func (.yield l) #[] #[]] 160)) .nilFunc 160
      rw [World.size_alloc] at q1
      obtain ⟨q1c, q1f⟩ := q1
      have hst : (store ⟨w.heap.size + 1, 0, none⟩ (.func (.func 116) #[] #[.pointer (some ad), .pointer (some ⟨w.heap.size, 0, none⟩), .pointer (some ⟨w.heap.size + 1, 0, none⟩)])).run Try.prog ((w.alloc (.cells #[.func (.yield l) #[] #[]] 160)).alloc (.cells #[.nilFunc] 160)) =
          .ok () (((w.alloc (.cells #[.func (.yield l) #[] #[]] 160)).alloc (.cells #[.nilFunc] 160)).setCell ⟨w.heap.size + 1, 0, none⟩ (.func (.func 116) #[] #[.pointer (some ad), .pointer (some ⟨w.heap.size, 0, none⟩), .pointer (some ⟨w.heap.size + 1, 0, none⟩)])) := by
        rw [run_store Try.prog _ _ _ _ rfl, q1c, q1f]
        rfl
      have q2 := cnew (w.alloc (.cells #[.func (.yield l) #[] #[]] 160)) (.func (.func 116) #[] #[.pointer (some ad), .pointer (some ⟨w.heap.size, 0, none⟩), .pointer (some ⟨w.heap.size + 1, 0, none⟩)]) 160
      rw [World.size_alloc] at q2
      have hW : Below w.heap.size w ((w.alloc (.cells #[.func (.yield l) #[] #[]] 160)).alloc (.cells #[.func (.func 116) #[] #[.pointer (some ad), .pointer (some ⟨w.heap.size, 0, none⟩), .pointer (some ⟨w.heap.size + 1, 0, none⟩)]] 160)) :=
        ((Below.refl _ w).alloc (Nat.le_refl _) _).alloc (by simp) _
      have hb1 := hbed _ hW ((World.cell?_alloc_lt _ _ _ (by simp)).trans q0.1) q2.1
      have hcall := ext_all hab hY rfl (by omega) c [] 0 X St _ _ (by simp) (fun j r hj => by rw [hrows, Nat.zero_add]; exact hj) (Nat.zero_le _) hb1 (hrow _)
      clear hform hX hat hyok hlt had hbed hrow hb1 hW q0 q2 hc1
      show Calls Try.prog 115 #[.func (.yield l) #[] #[], .pointer (some ad)] w _
      go_enter Try.func115, Try.ntmps115
      go_wp2_with (go_at_call 116; refine hcall.mono ?_; rintro e w2 ⟨ok, X3, St3, rfl, hw3, hok, hno⟩)
      go_end0
      cases ok with
      | true =>
        obtain ⟨h1, h2⟩ := hok rfl
        rw [Nat.zero_add, ← hrows] at h1 h2
        refine ⟨_, X3, St3, rfl, ?_, h2.xlt⟩
        rw [Nat.min_eq_right (by omega)]
        exact h2.j
      | false =>
        obtain ⟨h1, h2⟩ := hno rfl
        rw [Nat.zero_add, ← hrows] at h1
        refine ⟨_, X3, St3, rfl, ?_, h2.xlt⟩
        rw [Nat.min_eq_left (by omega)]
        exact h2.j
    · cases hg
  · cases hg
end Gv
