/- Arguments of any shape, opened to cells. -/
import Derived.ChangeArms
import Derived.OpenShut
import Derived.DataReads
import Derived.Test.YtfhgjanheaocaaaGvU
namespace Gv
open Go Go.RowKit
inductive Shp where
  | int (k : IntKind) | bool | str
  | arr (n : Nat) (e : Shp)
  | sl (e : Shp)
  | nil
  | cons (a r : Shp)
def Shp.size : Shp → Nat
  | .int _ | .bool | .str | .sl _ => 1
  | .arr n e => n * e.size
  | .nil => 0
  | .cons a r => a.size + r.size
def Fits : Shp → List PV → Prop
  | .int k, ps => ∃ n, ps = [.int k n] ∧ (Lit.int k n).wf = true
  | .bool, ps => ∃ b, ps = [.bool b]
  | .str, ps => ∃ s : ByteArray, ps = [.str s] ∧ s.size ≤ maxLen
  | .arr n e, ps => ∃ l : List (List PV), l.length = n ∧ ps = l.flatten ∧ ∀ x ∈ l, Fits e x
  | .sl e, ps => ∃ l : List (List PV), ps = [.list l.length l.flatten] ∧ l.length ≤ maxLen ∧ ∀ x ∈ l, Fits e x
  | .nil, ps => ps = []
  | .cons a r, ps => ∃ x y, ps = x ++ y ∧ Fits a x ∧ Fits r y
mutual
def okT (P : Program) : Nat → Shp → TypeId → Bool
  | 0, _, _ => false
  | d + 1, s, t => P.cellsOf t == s.size && (match s, P.underlying t with
    | .int k, some (.int k') => k == k'
    | .bool, some .bool => true
    | .str, some .string => true
    | .arr n e, some (.array m u) => n == m && okT P d e u
    | .sl e, some (.slice u) => okT P d e u
    | .nil, some (.struct fs) => okFs P d .nil 0 fs.toList
    | .cons a r, some (.struct fs) => okFs P d (.cons a r) 0 fs.toList
    | _, _ => false)
def okFs (P : Program) : Nat → Shp → Nat → List Field → Bool
  | 0, _, _, _ => false
  | _ + 1, .nil, _, [] => true
  | d + 1, .cons a r, off, f :: fs => f.offset == off && okT P d a f.type && okFs P d r (off + a.size) fs
  | _ + 1, _, _, _ => false
end
section
variable {P : Program} {St : Nat → Nat → Prop} {w : World}
theorem PRs.append_inv : ∀ {x y : List PV} {us : List Value}, PRs St w (x ++ y) us → ∃ a b, us = a ++ b ∧ PRs St w x a ∧ PRs St w y b
  | [], y, us, h => ⟨[], us, rfl, by simp [PRs], h⟩
  | c :: x, y, us, h => by
    simp only [List.cons_append, PRs] at h
    obtain ⟨u, xs, rfl, h1, h2⟩ := h
    obtain ⟨a, b, rfl, h3, h4⟩ := PRs.append_inv h2
    exact ⟨u :: a, b, rfl, by simp only [PRs]; exact ⟨u, a, rfl, h1, h3⟩, h4⟩
theorem flat_one {e : Shp} (ih : ∀ (ps : List PV) (us : List Value), Fits e ps → PRs St w ps us → ∀ x ∈ us, x.oneCell' = true) : ∀ (l : List (List PV)) (us : List Value), (∀ x ∈ l, Fits e x) → PRs St w l.flatten us → ∀ x ∈ us, x.oneCell' = true
  | [], us, _, h => by simp only [List.flatten_nil, PRs] at h; subst h; simp
  | p :: l, us, hl, h => by
    rw [List.flatten_cons] at h
    obtain ⟨a, b, rfl, h1, h2⟩ := PRs.append_inv h
    intro x hx
    rcases List.mem_append.1 hx with hx | hx
    · exact ih p a (hl p (by simp)) h1 x hx
    · exact flat_one ih l b (fun y hy => hl y (by simp [hy])) h2 x hx
theorem fits_one : ∀ (s : Shp) (ps : List PV) (us : List Value), Fits s ps → PRs St w ps us → ∀ x ∈ us, x.oneCell' = true
  | .int k, ps, us, hf, h => by
    obtain ⟨n, rfl, _⟩ := hf
    simp only [PRs, PR] at h
    obtain ⟨x, xs, rfl, rfl, rfl⟩ := h
    simp [Value.oneCell']
  | .bool, ps, us, hf, h => by
    obtain ⟨n, rfl⟩ := hf
    simp only [PRs, PR] at h
    obtain ⟨x, xs, rfl, rfl, rfl⟩ := h
    simp [Value.oneCell']
  | .str, ps, us, hf, h => by
    obtain ⟨n, rfl, _⟩ := hf
    simp only [PRs, PR] at h
    obtain ⟨x, xs, rfl, rfl, rfl⟩ := h
    simp [Value.oneCell']
  | .arr n e, ps, us, hf, h => by
    obtain ⟨l, _, rfl, hl⟩ := hf
    exact flat_one (fits_one e) l us hl h
  | .sl e, ps, us, hf, h => by
    obtain ⟨l, rfl, _, _⟩ := hf
    simp only [PRs, PR] at h
    obtain ⟨x, xs, rfl, ⟨_, _, _, rfl, _⟩, rfl⟩ := h
    simp [Value.oneCell']
  | .nil, ps, us, hf, h => by
    simp only [Fits] at hf
    subst hf
    simp only [PRs] at h
    subst h
    simp
  | .cons a r, ps, us, hf, h => by
    obtain ⟨x, y, rfl, h1, h2⟩ := hf
    obtain ⟨u, v, rfl, h3, h4⟩ := PRs.append_inv h
    intro z hz
    rcases List.mem_append.1 hz with hz | hz
    · exact fits_one a x u h1 h3 z hz
    · exact fits_one r y v h2 h4 z hz
theorem pieces {e : Shp} {k : Nat} : ∀ (n : Nat) (cs : List Value), cs.length = n * k → (∀ i, i < n → ∃ ps, Fits e ps ∧ PRs St w ps ((cs.drop (i * k)).take k)) →
    ∃ l : List (List PV), l.length = n ∧ (∀ x ∈ l, Fits e x) ∧ PRs St w l.flatten cs
  | 0, cs, hl, _ => by
    have : cs = [] := List.eq_nil_of_length_eq_zero (by simpa using hl)
    subst this
    exact ⟨[], rfl, by simp, by simp [PRs]⟩
  | n + 1, cs, hl, h => by
    obtain ⟨ps, h1, h2⟩ := h 0 (by omega)
    have hk : (n + 1) * k = n * k + k := Nat.succ_mul n k
    obtain ⟨l, l1, l2, l3⟩ := pieces (e := e) (k := k) n (cs.drop k) (by simp; omega) fun i hi => by
      obtain ⟨ps, k1, k2⟩ := h (i + 1) (by omega)
      refine ⟨ps, k1, ?_⟩
      rw [List.drop_drop]
      rw [Nat.succ_mul, Nat.add_comm] at k2
      exact k2
    refine ⟨ps :: l, by simp [l1], fun x hx => ?_, ?_⟩
    · rcases List.mem_cons.1 hx with rfl | hx
      · exact h1
      · exact l2 x hx
    · rw [List.flatten_cons]
      have := (show PRs St w ps (cs.take k) by simpa using h2).append l3
      rwa [List.take_append_drop] at this
end
section
variable {H : Type} {enc : TypeId × Value → H} {P : Program} {w : World} {base : Nat} {spare : Nat → Bool} {held : Bool}
def StAll (w : World) (b _ : Nat) : Prop := b < w.heap.size
theorem cell_lt {w : World} {a : Addr} {x : Value} (h : w.cell? a = some x) : a.block < w.heap.size := by
  unfold World.cell? at h
  split at h
  · rename_i hb
    exact (Array.getElem?_eq_some_iff.1 hb).1
  · cases h
theorem add_block (a : Addr) (n : Nat) : (a.add n).block = a.block := by
  unfold Addr.add
  split <;> rfl
theorem rows {e : Shp} {k : Nat} : ∀ (n : Nat) (a : Addr), (∀ i, i < n → ∃ cs', w.cells? base (a.add (i * k)) k = some cs' ∧ ∃ ps, Fits e ps ∧ PRs (StAll w) w ps cs') →
    ∃ (l : List (List PV)) (us : List Value), l.length = n ∧ (∀ x ∈ l, Fits e x) ∧ PRs (StAll w) w l.flatten us ∧ At (StAll w) w a us
  | 0, a, _ => ⟨[], [], rfl, by simp, by simp [PRs], fun j x h => by simp at h⟩
  | n + 1, a, h => by
    obtain ⟨cs, h1, ps, h2, h3⟩ := h 0 (by omega)
    obtain ⟨_, hcl, hat⟩ := World.cells?_some h1
    have h0 : a.add (0 * k) = a := by simp [Addr.add]
    rw [h0] at hat
    obtain ⟨l, us, l1, l2, l3, l4⟩ := rows n (a.add k) fun i hi => by
      obtain ⟨cs', k1, k2⟩ := h (i + 1) (by omega)
      refine ⟨cs', ?_, k2⟩
      rw [add_of_add]
      rw [Nat.succ_mul, Nat.add_comm] at k1
      exact k1
    refine ⟨ps :: l, cs ++ us, by simp [l1], fun x hx => ?_, ?_, fun j x hj => ?_⟩
    · rcases List.mem_cons.1 hx with rfl | hx
      · exact h2
      · exact l2 x hx
    · rw [List.flatten_cons]
      exact h3.append l3
    · by_cases hjk : j < k
      · rw [List.getElem?_append_left (by omega)] at hj
        have hc := hat j hjk
        rw [hj] at hc
        have := cell_lt hc
        rw [add_block] at this
        exact ⟨this, hc, fits_one e ps cs h2 h3 x (List.mem_of_getElem? hj)⟩
      · rw [List.getElem?_append_right (by omega), hcl] at hj
        obtain ⟨r1, r2, r3⟩ := l4 _ _ hj
        rw [add_of_add, show k + (j - k) = j by omega] at r2
        have := cell_lt r2
        rw [add_block] at this
        exact ⟨this, r2, r3⟩
theorem ok_size {d : Nat} {s : Shp} {t : TypeId} (h : okT P d s t = true) : P.cellsOf t = s.size := by
  cases d with
  | zero => simp [okT] at h
  | succ d =>
    simp only [okT, Bool.and_eq_true] at h
    simpa using h.1
mutual
theorem open_fits : ∀ (d : Nat) (s : Shp) (t : TypeId) (fuel : Nat) (cs : List Value) (x : DataW H × List MemPlace), okT P d s t = true → DataW.trod enc P w base spare held fuel t cs = some x → ∃ ps, Fits s ps ∧ PRs (StAll w) w ps cs
  | 0, _, _, _, _, _, h, _ => by simp [okT] at h
  | d + 1, s, t, fuel, cs, x, h, ht => by
    have hsz := ok_size h
    simp only [okT, Bool.and_eq_true] at h
    replace h := h.2
    split at h
    · rename_i k k' hu
      have : k = k' := by simpa using h
      subst this
      obtain ⟨n, rfl, _, hw⟩ := DataW.trod_int hu ht
      exact ⟨_, ⟨n, rfl, hw⟩, by simp [PRs, PR]⟩
    · rename_i hu
      obtain ⟨b, rfl, _⟩ := DataW.trod_bool hu ht
      exact ⟨_, ⟨b, rfl⟩, by simp [PRs, PR]⟩
    · rename_i hu
      obtain ⟨b, rfl, _, hs⟩ := DataW.trod_string hu ht
      exact ⟨_, ⟨b, rfl, hs⟩, by simp [PRs, PR]⟩
    · rename_i n e m u hu
      simp only [Bool.and_eq_true, beq_iff_eq] at h
      obtain ⟨rfl, he⟩ := h
      obtain ⟨xs, fu, _, _, hl, hxl, hi⟩ := DataW.trod_array hu ht
      have hk := ok_size he
      have hlen : cs.length = n * e.size := by rw [hl, hsz]; rfl
      obtain ⟨l, l1, l2, l3⟩ := pieces (St := StAll w) (w := w) (e := e) (k := e.size) n cs hlen fun i hin => by
        have h1 := hi i hin
        rw [hk, List.getElem?_eq_getElem (by omega)] at h1
        exact open_fits d e u fu _ _ he h1
      exact ⟨_, ⟨l, l1, rfl, l2⟩, l3⟩
    · rename_i e u hu
      have hk := ok_size h
      rcases DataW.trod_slice hu ht with ⟨rfl, _⟩ | ⟨a, len, cap, elems, rest, fu, _, rfl, _, hb, hlc, hm, hel, hi, _⟩
      · exact ⟨[.list 0 []], ⟨[], rfl, Nat.zero_le _, by simp⟩, by simp only [PRs, PR]; exact ⟨_, _, rfl, ⟨none, 0, [], rfl, rfl, Nat.le_refl _, .inl ⟨trivial, rfl⟩⟩, rfl⟩⟩
      · obtain ⟨l, us, l1, l2, l3, l4⟩ := rows (w := w) (base := base) (e := e) (k := e.size) len a fun i hin => by
          have h1 := hi i hin
          rw [hk, List.getElem?_eq_getElem (by omega)] at h1
          cases hc : w.cells? base (a.add (i * e.size)) e.size with
          | none => simp [hc] at h1
          | some cs' =>
            rw [hc] at h1
            exact ⟨cs', rfl, open_fits d e u fu _ _ h h1⟩
        refine ⟨[.list l.length l.flatten], ⟨l, rfl, by omega, l2⟩, ?_⟩
        simp only [PRs, PR]
        exact ⟨_, _, rfl, ⟨some a, cap, us, by rw [l1], l3, by omega, .inr ⟨a, rfl, l4⟩⟩, rfl⟩
    · rename_i fs hu
      obtain ⟨xs, fu, _, _, hl, hxl, hf⟩ := DataW.trod_struct hu ht
      have := open_fields d .nil 0 fs.toList fu cs h (fun i f hif => by
        have h1 := hf i f (by simpa using hif)
        have hlt : i < fs.size := (Array.getElem?_eq_some_iff.1 (show fs[i]? = some f by simpa using hif)).1
        rw [List.getElem?_eq_getElem (by omega)] at h1
        exact ⟨_, h1⟩)
      rw [List.drop_zero, ← hsz, ← hl, List.take_length] at this
      exact this
    · rename_i a r fs hu
      obtain ⟨xs, fu, _, _, hl, hxl, hf⟩ := DataW.trod_struct hu ht
      have := open_fields d (.cons a r) 0 fs.toList fu cs h (fun i f hif => by
        have h1 := hf i f (by simpa using hif)
        have hlt : i < fs.size := (Array.getElem?_eq_some_iff.1 (show fs[i]? = some f by simpa using hif)).1
        rw [List.getElem?_eq_getElem (by omega)] at h1
        exact ⟨_, h1⟩)
      rw [List.drop_zero, ← hsz, ← hl, List.take_length] at this
      exact this
    · cases h
theorem open_fields : ∀ (d : Nat) (s : Shp) (off : Nat) (fs : List Field) (fuel : Nat) (cs : List Value), okFs P d s off fs = true →
    (∀ (i : Nat) (f : Field), fs[i]? = some f → ∃ x, DataW.trod enc P w base spare held fuel f.type ((cs.drop f.offset).take (P.cellsOf f.type)) = some x) → ∃ ps, Fits s ps ∧ PRs (StAll w) w ps ((cs.drop off).take s.size)
  | 0, _, _, _, _, _, h, _ => by simp [okFs] at h
  | d + 1, s, off, fs, fuel, cs, h, hf => by
    match s, fs, h, hf with
    | .nil, [], _, _ => exact ⟨[], rfl, by simp [Shp.size, PRs]⟩
    | .cons a r, f :: fs, h, hf =>
      simp only [okFs, Bool.and_eq_true, beq_iff_eq] at h
      obtain ⟨⟨ho, ha⟩, hr⟩ := h
      obtain ⟨x, hx⟩ := hf 0 f rfl
      rw [ho, ok_size ha] at hx
      obtain ⟨p, p1, p2⟩ := open_fits d a f.type fuel _ _ ha hx
      obtain ⟨q, q1, q2⟩ := open_fields d r (off + a.size) fs fuel cs hr fun i f' hi => hf (i + 1) f' (by simpa using hi)
      refine ⟨p ++ q, ⟨p, q, rfl, p1, q1⟩, ?_⟩
      have := p2.append q2
      rw [show (cs.drop (off + a.size)).take r.size = ((cs.drop off).drop a.size).take r.size by rw [List.drop_drop], ← List.take_add] at this
      exact this
end
end
end Gv
