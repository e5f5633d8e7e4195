/- Operations without memory: what the abstract machine computes is what the model computes. -/
import Derived.Test.YtkbahledgljaoaaGreatGvD
namespace Gv
open Go Go.RowKit
variable {P : Program} {g : G} {m : List Blk} {St : Nat → Nat → Prop} {w : World}
theorem VRs.two {x y : AV} {us : List Value} (h : VRs g m St w [x, y] us) : ∃ a b, us = [a, b] ∧ VR g m St w x a ∧ VR g m St w y b := by
  simp only [VRs] at h
  obtain ⟨a, xs, rfl, h1, b, ys, rfl, h2, rfl⟩ := h
  exact ⟨a, b, rfl, h1, h2⟩
theorem VRs.one {x : AV} {us : List Value} (h : VRs g m St w [x] us) : ∃ a, us = [a] ∧ VR g m St w x a := by
  simp only [VRs] at h
  obtain ⟨a, xs, rfl, h1, rfl⟩ := h
  exact ⟨a, rfl, h1⟩
theorem VR.int {k : IntKind} {n : Int} {u : Value} (h : VR g m St w (.p (.int k n)) u) : u = .int k n := by simpa [VR, PR] using h
theorem VR.bool {b : Bool} {u : Value} (h : VR g m St w (.p (.bool b)) u) : u = .bool b := by simpa [VR, PR] using h
theorem VR.int_mk {k : IntKind} {n : Int} : VR g m St w (.p (.int k n)) (.int k n) := by simp [VR, PR]
theorem VR.bool_mk {b : Bool} : VR g m St w (.p (.bool b)) (.bool b) := by simp [VR, PR]
theorem guard_int {op : BinOp} {t : TypeId} {x y : Operand} {k k' : IntKind} {a b : Int} : (eqGuard op t x y (.int k a) (.int k' b)).run P w = .ok () w := by
  cases op <;> simp [eqGuard]
theorem guard_bool {op : BinOp} {t : TypeId} {x y : Operand} {a b : Bool} : (eqGuard op t x y (.bool a) (.bool b)).run P w = .ok () w := by
  cases op <;> simp [eqGuard]
theorem guard_slice {op : BinOp} {t : TypeId} {x y : Operand} {a : Option Addr} {n c : Nat} {b : Value} : (eqGuard op t x y (.slice a n c) b).run P w = .ok () w := by
  cases op <;> simp [eqGuard]
theorem class_bool {op : BinOp} {t : TypeId} (h : classT P op t = some 1) (ho : op = .eql ∨ op = .neq) : P.underlying t = some .bool := by
  have : ∀ d, P.underlying t = d → d = some .bool := by
    intro d hd
    rcases ho with rfl | rfl
    all_goals
      simp only [classT, hd] at h
      split at h <;> first
        | (simp at h; done)
        | rfl
        | (split at h <;> first | (simp at h; done) | (split at h <;> (simp at h; try omega)))
  exact this _ rfl
theorem class_slice {op : BinOp} {t : TypeId} (h : classT P op t = some 3) (ho : op = .eql ∨ op = .neq) : ∃ e, P.underlying t = some (.slice e) := by
  have : ∀ d, P.underlying t = d → ∃ e, d = some (.slice e) := by
    intro d hd
    rcases ho with rfl | rfl
    all_goals
      simp only [classT, hd] at h
      split at h <;> first
        | (simp at h; done)
        | exact ⟨_, rfl⟩
        | (split at h <;> first | (simp at h; done) | (split at h <;> (simp at h; try omega)))
  exact this _ rfl
theorem bin_int {op : BinOp} {t : TypeId} {x y : Operand} {k k' : IntKind} {a b : Int} {c : Nat} {v : AV} (h : binA op c (.p (.int k a)) (.p (.int k' b)) = some v) :
    ∃ u, (do eqGuard op t x y (.int k a) (.int k' b); binOp op t (.int k a) (.int k' b)).run P w = .ok u w ∧ VR g m St w v u := by
  cases op
  case shl =>
    simp only [binA, shop] at h
    split at h
    · simp at h
    · rename_i hb
      simp at h
      subst h
      refine ⟨_, ?_, VR.int_mk⟩
      simp only [Sem.run_bind, guard_int, Result.andThen_ok, binOp, Op.shift, if_neg hb, Sem.run_pure]
  case shr =>
    simp only [binA, shop] at h
    split at h
    · simp at h
    · rename_i hb
      simp at h
      subst h
      refine ⟨_, ?_, VR.int_mk⟩
      simp only [Sem.run_bind, guard_int, Result.andThen_ok, binOp, Op.shift, if_neg hb, Sem.run_pure]
  case quo =>
    simp only [binA, iop] at h
    split at h
    · rename_i hk
      split at h
      · simp at h
      · rename_i hb
        simp at h
        subst h
        subst hk
        refine ⟨_, ?_, VR.int_mk⟩
        simp [Sem.run_bind, guard_int, binOp, Op.intDiv, hb]
    · simp at h
  case rem =>
    simp only [binA, iop] at h
    split at h
    · rename_i hk
      split at h
      · simp at h
      · rename_i hb
        simp at h
        subst h
        subst hk
        refine ⟨_, ?_, VR.int_mk⟩
        simp [Sem.run_bind, guard_int, binOp, Op.intDiv, hb]
    · simp at h
  all_goals
    simp only [binA, iop] at h
    split at h
    · rename_i hk
      simp at h
      subst h
      subst hk
      first
        | (refine ⟨_, ?_, VR.int_mk⟩; simp [Sem.run_bind, guard_int, binOp, Op.intArith, Op.intBits])
        | (refine ⟨_, ?_, VR.bool_mk⟩; simp [Sem.run_bind, guard_int, binOp, Op.intCmp])
    · simp at h
theorem run_equal_bool {t : TypeId} {a b : Bool} (h : P.underlying t = some .bool) : (Op.equal t (.bool a) (.bool b)).run P w = .ok (a == b) w := by
  have h1 : ∀ d, (Op.equalIn (d + 1) t (.bool a) (.bool b)).run P w = .ok (a == b) w := fun d => by simp [Op.equalIn, run_underlying h]
  exact h1 9999
theorem bin_bool {op : BinOp} {t : TypeId} {x y : Operand} {a b : Bool} {c : Nat} {v : AV} (hc : classT P op t = some c) (h : binA op c (.p (.bool a)) (.p (.bool b)) = some v) :
    ∃ u, (do eqGuard op t x y (.bool a) (.bool b); binOp op t (.bool a) (.bool b)).run P w = .ok u w ∧ VR g m St w v u := by
  simp only [binA] at h
  split at h
  · have hu := class_bool hc (.inl rfl)
    simp at h
    subst h
    refine ⟨_, ?_, VR.bool_mk⟩
    simp [Sem.run_bind, guard_bool, binOp, run_equal_bool hu]
  · have hu := class_bool hc (.inr rfl)
    simp at h
    subst h
    refine ⟨_, ?_, VR.bool_mk⟩
    simp [Sem.run_bind, guard_bool, binOp, run_equal_bool hu, bne]
  · cases h
theorem eqNil_spec {x : AV} {u : Value} {r : Bool} (h : eqNil x = some r) (hv : VR g m St w x u) : ∃ a n c, u = .slice a n c ∧ a.isNone = r := by
  cases x <;> simp only [eqNil] at h <;> try (cases h; done)
  · rename_i pv
    cases pv <;> simp only [eqNil] at h <;> try (cases h; done)
    rename_i n cs
    split at h
    · cases h
    · rename_i hn
      simp at h
      subst h
      simp only [VR, PR] at hv
      obtain ⟨a, cap, us, rfl, _, _, hh⟩ := hv
      rcases hh with ⟨h0, _⟩ | ⟨ad, rfl, _⟩
      · exact absurd h0 hn
      · exact ⟨_, _, _, rfl, rfl⟩
  · simp at h
    subst h
    simp only [VR] at hv
    exact ⟨none, 0, 0, hv, rfl⟩
  · simp at h
    subst h
    simp only [VR] at hv
    obtain ⟨q, us, rfl, _⟩ := hv
    exact ⟨_, _, _, rfl, rfl⟩
  · simp at h
    subst h
    simp only [VR] at hv
    obtain ⟨q, cap, us, rfl, _⟩ := hv
    exact ⟨_, _, _, rfl, rfl⟩
  · simp at h
    subst h
    simp only [VR] at hv
    obtain ⟨q, cap, rfl, _⟩ := hv
    exact ⟨_, _, _, rfl, rfl⟩
theorem run_equal_nil {t e : TypeId} {a : Option Addr} {n c : Nat} (h : P.underlying t = some (.slice e)) : (Op.equal t (.slice a n c) (.slice none 0 0)).run P w = .ok a.isNone w := by
  have h1 : ∀ d, (Op.equalIn (d + 1) t (.slice a n c) (.slice none 0 0)).run P w = .ok a.isNone w := fun d => by cases a <;> simp [Op.equalIn, run_underlying h]
  exact h1 9999
theorem bin_nil {op : BinOp} {t : TypeId} {x y : Operand} {ux : Value} {vx : AV} {r : Bool} {c : Nat} (hc : classT P op t = some c) (h3 : c = 3) (he : eqNil vx = some r) (hv : VR g m St w vx ux)
    (ho : op = .eql ∨ op = .neq) :
    (do eqGuard op t x y ux (.slice none 0 0); binOp op t ux (.slice none 0 0)).run P w = .ok (.bool (if op = .eql then r else !r)) w := by
  obtain ⟨a, n, cc, rfl, hr⟩ := eqNil_spec he hv
  subst h3
  obtain ⟨e, hu⟩ := class_slice hc ho
  rcases ho with rfl | rfl
  · simp [Sem.run_bind, guard_slice, binOp, run_equal_nil hu, hr]
  · simp [Sem.run_bind, guard_slice, binOp, run_equal_nil hu, hr]
theorem eqInts_spec : ∀ {xs ys : List PV} {us vs : List Value} {r : Bool}, eqInts xs ys = some r → PRs St w xs us → PRs St w ys vs →
    us.length = vs.length ∧ (∀ (i : Nat) (a b : Value), us[i]? = some a → vs[i]? = some b → ∃ (k : IntKind) (n n' : Int), a = Value.int k n ∧ b = Value.int k n') ∧
    (r = true ↔ ∀ (i : Nat) (a b : Value), us[i]? = some a → vs[i]? = some b → a = b)
  | [], [], us, vs, r, h, hu, hv => by
    simp only [PRs] at hu hv
    subst hu
    subst hv
    simp [eqInts] at h
    subst h
    simp
  | [], y :: ys, _, _, _, h, _, _ => by simp [eqInts] at h
  | x :: xs, [], _, _, _, h, _, _ => by cases x <;> simp [eqInts] at h
  | x :: xs, y :: ys, us, vs, r, h, hu, hv => by
    cases x <;> cases y <;> simp only [eqInts] at h <;> try (cases h; done)
    rename_i k a k' b
    split at h
    · rename_i hk
      subst hk
      split at h
      · rename_i r' hr'
        simp at h
        simp only [PRs, PR] at hu hv
        obtain ⟨u, us, rfl, rfl, hu⟩ := hu
        obtain ⟨v, vs, rfl, rfl, hv⟩ := hv
        obtain ⟨h1, h2, h3⟩ := eqInts_spec hr' hu hv
        refine ⟨by simp [h1], fun i x y hx hy => ?_, ?_⟩
        · cases i with
          | zero => simp at hx hy; exact ⟨k, a, b, hx.symm, hy.symm⟩
          | succ i => exact h2 i x y (by simpa using hx) (by simpa using hy)
        · subst h
          simp only [Bool.and_eq_true, beq_iff_eq, h3]
          constructor
          · rintro ⟨rfl, hr⟩ i x y hx hy
            cases i with
            | zero => simp at hx hy; rw [← hx, ← hy]
            | succ i => exact hr i x y (by simpa using hx) (by simpa using hy)
          · intro hh
            refine ⟨?_, fun i x y hx hy => hh (i + 1) x y (by simpa using hx) (by simpa using hy)⟩
            have := hh 0 _ _ rfl rfl
            simpa using this
      · cases h
    · cases h
theorem same_all : ∀ {us vs : List Value}, us.length = vs.length → ((∀ (i : Nat) (a b : Value), us[i]? = some a → vs[i]? = some b → a = b) ↔ us = vs)
  | [], [], _ => by simp
  | [], _ :: _, h => by simp at h
  | _ :: _, [], h => by simp at h
  | a :: us, b :: vs, h => by
    rw [List.cons.injEq, ← same_all (us := us) (vs := vs) (by simpa using h)]
    constructor
    · intro hh
      exact ⟨hh 0 a b rfl rfl, fun i x y hx hy => hh (i + 1) x y (by simpa using hx) (by simpa using hy)⟩
    · rintro ⟨rfl, hh⟩ i x y hx hy
      cases i with
      | zero => simp at hx hy; rw [← hx, ← hy]
      | succ i => exact hh i x y (by simpa using hx) (by simpa using hy)
def Ints (us vs : List Value) : Prop := us.length = vs.length ∧ ∀ (i : Nat) (a b : Value), us[i]? = some a → vs[i]? = some b → ∃ (k : IntKind) (n n' : Int), a = Value.int k n ∧ b = Value.int k n'
theorem Ints.part {us vs : List Value} (h : Ints us vs) (o k : Nat) : Ints ((us.drop o).take k) ((vs.drop o).take k) := by
  refine ⟨by simp [h.1], fun i a b ha hb => ?_⟩
  rw [List.getElem?_take] at ha hb
  split at ha
  · rename_i hi
    rw [if_pos hi] at hb
    rw [List.getElem?_drop] at ha hb
    exact h.2 _ _ _ ha hb
  · cases ha
def wrapV (P : Program) (t : TypeId) (us : List Value) : Value := match P.underlying t with
  | some (.int _) => us.headD undef
  | _ => .agg us.toArray
def isAggD : TypeDesc → Bool
  | .struct _ => true
  | .array _ _ => true
  | _ => false
theorem run_isAgg {t : TypeId} {d : TypeDesc} (h : P.underlying t = some d) : (isAgg t).run P w = .ok (isAggD d) w := by
  simp only [isAgg, Sem.run_bind, run_underlying h, Result.andThen_ok]
  cases d <;> rfl
theorem run_size {t : TypeId} {n : Nat} (h : szT P t = some n) : (Go.sizeOf t).run P w = .ok n w := by
  unfold szT at h
  split at h
  · rename_i i hi
    simp at h
    subst h
    simp [Go.sizeOf, typeInfo, hi]
  · cases h
theorem run_part_agg {t : TypeId} {d : TypeDesc} {n off : Nat} {cs : Array Value} (h : P.underlying t = some d) (ha : isAggD d = true) (hs : szT P t = some n) :
    (part t cs off).run P w = .ok (.agg (cs.extract off (off + n))) w := by
  simp only [part, Sem.run_bind, run_isAgg h, ha, Result.andThen_ok, if_true, run_size hs, Sem.run_pure]
theorem run_part_cell {t : TypeId} {d : TypeDesc} {off : Nat} {cs : Array Value} {v : Value} (h : P.underlying t = some d) (ha : isAggD d = false) (hv : cs[off]? = some v) :
    (part t cs off).run P w = .ok v w := by
  simp only [part, Sem.run_bind, run_isAgg h, ha, Result.andThen_ok, Bool.false_eq_true, if_false, hv, Sem.run_pure]
theorem flat_part {d : Nat} {t : TypeId} {k off : Nat} {xs : List Value} (h : flatT P d t = some k) (hs : szT P t = some k) (hx : off + k ≤ xs.length) :
    (part t xs.toArray off).run P w = .ok (wrapV P t ((xs.drop off).take k)) w := by
  cases d with
  | zero => simp [flatT] at h
  | succ d =>
    simp only [flatT] at h
    split at h
    · rename_i q hu
      simp at h
      subst h
      have : ∃ v, xs[off]? = some v := ⟨xs[off], List.getElem?_eq_getElem (by omega)⟩
      obtain ⟨v, hv⟩ := this
      rw [run_part_cell hu rfl (v := v) (by simpa using hv)]
      simp [wrapV, hu, List.take_one, hv]
    · rename_i fs hu
      rw [run_part_agg hu rfl hs]
      simp [wrapV, hu, List.extract_eq_take_drop]
    · rename_i n e hu
      rw [run_part_agg hu rfl hs]
      simp [wrapV, hu, List.extract_eq_take_drop]
    · cases h
theorem fields_eq {d D : Nat} {us vs : List Value} (hI : Ints us vs)
    (he : ∀ (e : TypeId) (k : Nat), flatT P d e = some k → ∀ us vs : List Value, us.length = k → Ints us vs → ∃ r : Bool, (Op.equalIn D e (wrapV P e us) (wrapV P e vs)).run P w = .ok r w ∧ (r = true ↔ us = vs)) :
    ∀ (fs : List Field) (i j : Nat), flatFs P (flatT P d) i fs = some j → j ≤ us.length →
    i ≤ j ∧ ∃ r : Bool, (Op.eqFields D us.toArray vs.toArray fs).run P w = .ok r w ∧ (r = true ↔ (us.drop i).take (j - i) = (vs.drop i).take (j - i))
  | [], i, j, h, _ => by
    simp only [flatFs, Option.some.injEq] at h
    subst h
    exact ⟨Nat.le_refl _, true, by simp [Op.eqFields], by simp⟩
  | f :: fs, i, j, h, hl => by
    simp only [flatFs] at h
    split at h <;> try (cases h; done)
    rename_i hf
    obtain ⟨ho, hn⟩ := hf
    split at h <;> try (cases h; done)
    rename_i k hk
    split at h <;> try (cases h; done)
    rename_i hs
    obtain ⟨hij, r, hr1, hr2⟩ := fields_eq hI he fs (i + k) j h hl
    have pa := flat_part (w := w) (off := i) (xs := us) hk hs (by omega)
    have pb := flat_part (w := w) (off := i) (xs := vs) hk hs (by rw [← hI.1]; omega)
    rw [← ho] at pa pb
    obtain ⟨r1, h1, h2⟩ := he f.type k hk _ _ (by simp; omega) (hI.part f.offset k)
    refine ⟨by omega, ?_⟩
    simp only [Op.eqFields, hn, ne_eq, not_false_eq_true, if_true, Sem.run_bind, pa, pb, h1, Result.andThen_ok, Sem.run_ite, Sem.run_pure, hr1]
    rw [ho] at h2
    have du : (us.drop i).take (j - i) = (us.drop i).take k ++ (us.drop (i + k)).take (j - (i + k)) := by
      rw [show j - i = k + (j - (i + k)) by omega, List.take_add, List.drop_drop]
    have dv : (vs.drop i).take (j - i) = (vs.drop i).take k ++ (vs.drop (i + k)).take (j - (i + k)) := by
      rw [show j - i = k + (j - (i + k)) by omega, List.take_add, List.drop_drop]
    rw [du, dv]
    have hlen : ((us.drop i).take k).length = ((vs.drop i).take k).length := by simp [hI.1]
    by_cases hq : (us.drop i).take k = (vs.drop i).take k
    · refine ⟨r, by simp [h2.2 hq], ?_⟩
      rw [hr2, hq]
      simp
    · have : r1 = false := by cases r1 with | false => rfl | true => exact absurd (h2.1 rfl) hq
      subst this
      refine ⟨false, by simp, ?_⟩
      constructor
      · intro h; cases h
      · intro h
        exact absurd (List.append_inj h hlen).1 hq
theorem items_eq (D : Nat) {e : TypeId} {k d : Nat} {us vs : List Value} (hf : flatT P d e = some k) (hs : szT P e = some k) (hc : P.cellsOf e = k)
    (he : ∀ us vs : List Value, us.length = k → Ints us vs → ∃ r : Bool, (Op.equalIn D e (wrapV P e us) (wrapV P e vs)).run P w = .ok r w ∧ (r = true ↔ us = vs)) (hI : Ints us vs) :
    ∀ (n i : Nat), (i + n) * k ≤ us.length → ∃ r : Bool, (Op.eqItems D e (P.cellsOf e) us.toArray vs.toArray (List.range' i n)).run P w = .ok r w ∧ (r = true ↔ (us.drop (i * k)).take (n * k) = (vs.drop (i * k)).take (n * k))
  | 0, i, _ => ⟨true, by simp [Op.eqItems], by simp⟩
  | n + 1, i, hl => by
    have hl2 : i * k + k + n * k ≤ us.length := by
      have : (i + (n + 1)) * k = i * k + (n * k + k) := by rw [Nat.add_mul, Nat.add_mul, Nat.one_mul]
      omega
    have hl3 : (i + 1 + n) * k ≤ us.length := by
      have : (i + 1 + n) * k = i * k + k + n * k := by rw [Nat.add_mul, Nat.add_mul, Nat.one_mul]
      omega
    have pa := flat_part (w := w) (off := i * k) (xs := us) hf hs (by omega)
    have pb := flat_part (w := w) (off := i * k) (xs := vs) hf hs (by rw [← hI.1]; omega)
    obtain ⟨r1, h1, h2⟩ := he _ _ (by simp; omega) (hI.part (i * k) k)
    obtain ⟨r, hr1, hr2⟩ := items_eq D hf hs hc he hI n (i + 1) hl3
    have du : (us.drop (i * k)).take ((n + 1) * k) = (us.drop (i * k)).take k ++ (us.drop ((i + 1) * k)).take (n * k) := by
      rw [Nat.add_mul, Nat.one_mul, Nat.add_comm, List.take_add, List.drop_drop, Nat.add_mul, Nat.one_mul]
    have dv : (vs.drop (i * k)).take ((n + 1) * k) = (vs.drop (i * k)).take k ++ (vs.drop ((i + 1) * k)).take (n * k) := by
      rw [Nat.add_mul, Nat.one_mul, Nat.add_comm, List.take_add, List.drop_drop, Nat.add_mul, Nat.one_mul]
    rw [hc] at hr1 ⊢
    simp only [List.range'_succ, Op.eqItems, Sem.run_bind, pa, pb, h1, Result.andThen_ok, Sem.run_ite, Sem.run_pure, hr1]
    rw [du, dv]
    have hlen : ((us.drop (i * k)).take k).length = ((vs.drop (i * k)).take k).length := by simp [hI.1]
    by_cases hq : (us.drop (i * k)).take k = (vs.drop (i * k)).take k
    · refine ⟨r, by simp [h2.2 hq], ?_⟩
      rw [hr2, hq]
      simp
    · have : r1 = false := by cases r1 with | false => rfl | true => exact absurd (h2.1 rfl) hq
      subst this
      refine ⟨false, by simp, ?_⟩
      constructor
      · intro h; cases h
      · intro h
        exact absurd (List.append_inj h hlen).1 hq
theorem flat_eq : ∀ (d D : Nat) (t : TypeId) (k : Nat), flatT P d t = some k → ∀ us vs : List Value, us.length = k → Ints us vs →
    ∃ r : Bool, (Op.equalIn (D + 1 + d) t (wrapV P t us) (wrapV P t vs)).run P w = .ok r w ∧ (r = true ↔ us = vs)
  | 0, _, _, _, h, _, _, _, _ => by simp [flatT] at h
  | d + 1, D, t, k, h, us, vs, hl, hI => by
    simp only [flatT] at h
    split at h
    · rename_i q hu
      simp at h
      subst h
      obtain ⟨a, rfl⟩ : ∃ a, us = [a] := by
        match us, hl with
        | [a], _ => exact ⟨a, rfl⟩
      obtain ⟨b, rfl⟩ : ∃ b, vs = [b] := by
        match vs, hI.1 with
        | [b], _ => exact ⟨b, rfl⟩
      obtain ⟨kk, n, n', rfl, rfl⟩ := hI.2 0 a b rfl rfl
      refine ⟨n == n', ?_, by simp⟩
      simp only [wrapV, hu, List.headD_cons]
      rw [show D + 1 + (d + 1) = (D + 1 + d) + 1 by omega]
      simp [Op.equalIn, run_underlying hu]
    · rename_i fs hu
      split at h <;> try (cases h; done)
      rename_i k' hk'
      split at h <;> try (cases h; done)
      rename_i hc
      obtain ⟨h1, h3⟩ := hc
      simp only [Option.some.injEq] at h
      subst h
      have hfo : P.fieldsOf t = fs := by simp [Program.fieldsOf, hu]
      obtain ⟨_, r, hr1, hr2⟩ := fields_eq (P := P) (w := w) (d := d) (D := D + 1 + d) hI (fun e k hk us vs q1 q2 => flat_eq d D e k hk us vs q1 q2) fs.toList 0 k' hk' (by omega)
      refine ⟨r, ?_, ?_⟩
      · rw [show D + 1 + (d + 1) = (D + 1 + d) + 1 by omega]
        simp only [wrapV, hu]
        rw [run_equalIn_struct w (D + 1 + d) t us.toArray vs.toArray (by rw [hfo]; exact hu) h1, hfo]
        exact hr1
      · rw [hr2]
        have e1 : (us.drop 0).take (k' - 0) = us := by rw [List.drop_zero, Nat.sub_zero, ← hl, List.take_length]
        have e2 : (vs.drop 0).take (k' - 0) = vs := by rw [List.drop_zero, Nat.sub_zero, ← hl, hI.1, List.take_length]
        rw [e1, e2]
    · rename_i n e hu
      split at h
      · rename_i k' hk'
        split at h
        · rename_i hc
          simp only [Option.some.injEq] at h
          subst h
          have hce : P.cellsOf e = k' := by
            have := hc.1
            unfold szT at this
            split at this
            · rename_i i hi
              simp at this
              simp [Program.cellsOf, hi, this]
            · cases this
          obtain ⟨i, hi⟩ : ∃ i, P.info? e = some i := by
            have := hc.1
            unfold szT at this
            split at this
            · rename_i i hi
              exact ⟨i, hi⟩
            · cases this
          obtain ⟨r, hr1, hr2⟩ := items_eq (P := P) (w := w) (D + 1 + d) hk' hc.1 hce (fun us vs h1 h2 => flat_eq d D e k' hk' us vs h1 h2) hI n 0 (by simp; omega)
          refine ⟨r, ?_, ?_⟩
          · simp only [wrapV, hu]
            rw [show D + 1 + (d + 1) = (D + 1 + d) + 1 by omega, run_equalIn_array w (D + 1 + d) us.toArray vs.toArray hu hi, List.range_eq_range']
            exact hr1
          · rw [hr2]
            have e1 : (us.drop (0 * k')).take (n * k') = us := by rw [Nat.zero_mul, List.drop_zero, ← hl, List.take_length]
            have e2 : (vs.drop (0 * k')).take (n * k') = vs := by rw [Nat.zero_mul, List.drop_zero, ← hl, hI.1, List.take_length]
            rw [e1, e2]
        · cases h
      · cases h
    · cases h
end Gv
