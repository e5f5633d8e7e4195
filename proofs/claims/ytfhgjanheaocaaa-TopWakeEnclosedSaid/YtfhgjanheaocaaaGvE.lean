/- Operations without memory: what the abstract machine computes is what the model computes. -/
import Derived.Test.YtfhgjanheaocaaaGvD
namespace Gv
open Go Go.RowKit
variable {P : Program} {g : G} {m : List Blk} {St : Nat → Nat → Prop} {w : World}
theorem VRs.two {x y : AV} {us : List Value} (h : VRs g m St w [x, y] us) : ∃ a b, us = [a, b] ∧ VR g m St w x a ∧ VR g m St w y b := by
  simp only [VRs] at h
  obtain ⟨a, xs, rfl, h1, b, ys, rfl, h2, rfl⟩ := h
  exact ⟨a, b, rfl, h1, h2⟩
theorem VRs.one {x : AV} {us : List Value} (h : VRs g m St w [x] us) : ∃ a, us = [a] ∧ VR g m St w x a := by
  simp only [VRs] at h
  obtain ⟨a, xs, rfl, h1, rfl⟩ := h
  exact ⟨a, rfl, h1⟩
theorem VRs.three {x y z : AV} {us : List Value} (h : VRs g m St w [x, y, z] us) : ∃ a b c, us = [a, b, c] ∧ VR g m St w x a ∧ VR g m St w y b ∧ VR g m St w z c := by
  simp only [VRs] at h
  obtain ⟨a, xs, rfl, h1, b, ys, rfl, h2, c, zs, rfl, h3, rfl⟩ := h
  exact ⟨a, b, c, rfl, h1, h2, h3⟩
theorem VR.int {k : IntKind} {n : Int} {u : Value} (h : VR g m St w (.p (.int k n)) u) : u = .int k n := by simpa [VR, PR] using h
theorem VR.bool {b : Bool} {u : Value} (h : VR g m St w (.p (.bool b)) u) : u = .bool b := by simpa [VR, PR] using h
theorem VR.int_mk {k : IntKind} {n : Int} : VR g m St w (.p (.int k n)) (.int k n) := by simp [VR, PR]
theorem VR.bool_mk {b : Bool} : VR g m St w (.p (.bool b)) (.bool b) := by simp [VR, PR]
theorem guard_int {op : BinOp} {t : TypeId} {x y : Operand} {k k' : IntKind} {a b : Int} : (eqGuard op t x y (.int k a) (.int k' b)).run P w = .ok () w := by
  cases op <;> simp [eqGuard]
theorem guard_bool {op : BinOp} {t : TypeId} {x y : Operand} {a b : Bool} : (eqGuard op t x y (.bool a) (.bool b)).run P w = .ok () w := by
  cases op <;> simp [eqGuard]
theorem guard_slice {op : BinOp} {t : TypeId} {x y : Operand} {a : Option Addr} {n c : Nat} {b : Value} : (eqGuard op t x y (.slice a n c) b).run P w = .ok () w := by
  cases op <;> simp [eqGuard]
theorem class_bool {op : BinOp} {t : TypeId} (h : classT P op t = some 1) (ho : op = .eql ∨ op = .neq) : P.underlying t = some .bool := by
  have : ∀ d, P.underlying t = d → d = some .bool := by
    intro d hd
    rcases ho with rfl | rfl
    all_goals
      simp only [classT, hd] at h
      split at h <;> first
        | (simp at h; done)
        | rfl
        | (split at h <;> first | (simp at h; done) | (split at h <;> (simp at h; try omega)))
  exact this _ rfl
theorem class_slice {op : BinOp} {t : TypeId} (h : classT P op t = some 3) (ho : op = .eql ∨ op = .neq) : ∃ e, P.underlying t = some (.slice e) := by
  have : ∀ d, P.underlying t = d → ∃ e, d = some (.slice e) := by
    intro d hd
    rcases ho with rfl | rfl
    all_goals
      simp only [classT, hd] at h
      split at h <;> first
        | (simp at h; done)
        | exact ⟨_, rfl⟩
        | (split at h <;> first | (simp at h; done) | (split at h <;> (simp at h; try omega)))
  exact this _ rfl
theorem bin_int {op : BinOp} {t : TypeId} {x y : Operand} {k k' : IntKind} {a b : Int} {c : Nat} {v : AV} (h : binA op c (.p (.int k a)) (.p (.int k' b)) = some v) :
    ∃ u, (do eqGuard op t x y (.int k a) (.int k' b); binOp op t (.int k a) (.int k' b)).run P w = .ok u w ∧ VR g m St w v u := by
  cases op
  case shl =>
    simp only [binA, shop] at h
    split at h
    · simp at h
    · rename_i hb
      simp at h
      subst h
      refine ⟨_, ?_, VR.int_mk⟩
      simp only [Sem.run_bind, guard_int, Result.andThen_ok, binOp, Op.shift, if_neg hb, Sem.run_pure]
  case shr =>
    simp only [binA, shop] at h
    split at h
    · simp at h
    · rename_i hb
      simp at h
      subst h
      refine ⟨_, ?_, VR.int_mk⟩
      simp only [Sem.run_bind, guard_int, Result.andThen_ok, binOp, Op.shift, if_neg hb, Sem.run_pure]
  case quo =>
    simp only [binA, iop] at h
    split at h
    · rename_i hk
      split at h
      · simp at h
      · rename_i hb
        simp at h
        subst h
        subst hk
        refine ⟨_, ?_, VR.int_mk⟩
        simp [guard_int, binOp, Op.intDiv, hb]
    · simp at h
  case rem =>
    simp only [binA, iop] at h
    split at h
    · rename_i hk
      split at h
      · simp at h
      · rename_i hb
        simp at h
        subst h
        subst hk
        refine ⟨_, ?_, VR.int_mk⟩
        simp [guard_int, binOp, Op.intDiv, hb]
    · simp at h
  all_goals
    simp only [binA, iop] at h
    split at h
    · rename_i hk
      simp at h
      subst h
      subst hk
      first
        | (refine ⟨_, ?_, VR.int_mk⟩; simp [guard_int, binOp, Op.intArith, Op.intBits])
        | (refine ⟨_, ?_, VR.bool_mk⟩; simp [guard_int, binOp, Op.intCmp])
    · simp at h
theorem run_equal_bool {t : TypeId} {a b : Bool} (h : P.underlying t = some .bool) : (Op.equal t (.bool a) (.bool b)).run P w = .ok (a == b) w := by
  have h1 : ∀ d, (Op.equalIn (d + 1) t (.bool a) (.bool b)).run P w = .ok (a == b) w := fun d => by simp [Op.equalIn, run_underlying h]
  exact h1 9999
theorem bin_bool {op : BinOp} {t : TypeId} {x y : Operand} {a b : Bool} {c : Nat} {v : AV} (hc : classT P op t = some c) (h : binA op c (.p (.bool a)) (.p (.bool b)) = some v) :
    ∃ u, (do eqGuard op t x y (.bool a) (.bool b); binOp op t (.bool a) (.bool b)).run P w = .ok u w ∧ VR g m St w v u := by
  simp only [binA] at h
  split at h
  · have hu := class_bool hc (.inl rfl)
    simp at h
    subst h
    refine ⟨_, ?_, VR.bool_mk⟩
    simp [Sem.run_bind, guard_bool, binOp, run_equal_bool hu]
  · have hu := class_bool hc (.inr rfl)
    simp at h
    subst h
    refine ⟨_, ?_, VR.bool_mk⟩
    simp [Sem.run_bind, guard_bool, binOp, run_equal_bool hu, bne]
  · cases h
theorem eqNil_spec {x : AV} {u : Value} {r : Bool} (h : eqNil x = some r) (hv : VR g m St w x u) : ∃ a n c, u = .slice a n c ∧ a.isNone = r := by
  cases x <;> simp only [eqNil] at h <;> try (cases h; done)
  · rename_i pv
    cases pv <;> simp only at h <;> try (cases h; done)
    rename_i n cs
    split at h
    · cases h
    · rename_i hn
      simp at h
      subst h
      simp only [VR, PR] at hv
      obtain ⟨a, cap, us, rfl, _, _, hh⟩ := hv
      rcases hh with ⟨h0, _⟩ | ⟨ad, rfl, _⟩
      · exact absurd h0 hn
      · exact ⟨_, _, _, rfl, rfl⟩
  · simp at h
    subst h
    simp only [VR] at hv
    exact ⟨none, 0, 0, hv, rfl⟩
  · simp at h
    subst h
    simp only [VR] at hv
    obtain ⟨q, us, rfl, _⟩ := hv
    exact ⟨_, _, _, rfl, rfl⟩
  · simp at h
    subst h
    simp only [VR] at hv
    obtain ⟨q, cap, us, rfl, _⟩ := hv
    exact ⟨_, _, _, rfl, rfl⟩
  · simp at h
    subst h
    simp only [VR] at hv
    obtain ⟨q, cap, rfl, _⟩ := hv
    exact ⟨_, _, _, rfl, rfl⟩
theorem run_equal_nil {t e : TypeId} {a : Option Addr} {n c : Nat} (h : P.underlying t = some (.slice e)) : (Op.equal t (.slice a n c) (.slice none 0 0)).run P w = .ok a.isNone w := by
  have h1 : ∀ d, (Op.equalIn (d + 1) t (.slice a n c) (.slice none 0 0)).run P w = .ok a.isNone w := fun d => by cases a <;> simp [Op.equalIn, run_underlying h]
  exact h1 9999
theorem bin_nil {op : BinOp} {t : TypeId} {x y : Operand} {ux : Value} {vx : AV} {r : Bool} {c : Nat} (hc : classT P op t = some c) (h3 : c = 3) (he : eqNil vx = some r) (hv : VR g m St w vx ux)
    (ho : op = .eql ∨ op = .neq) :
    (do eqGuard op t x y ux (.slice none 0 0); binOp op t ux (.slice none 0 0)).run P w = .ok (.bool (if op = .eql then r else !r)) w := by
  obtain ⟨a, n, cc, rfl, hr⟩ := eqNil_spec he hv
  subst h3
  obtain ⟨e, hu⟩ := class_slice hc ho
  rcases ho with rfl | rfl
  · simp [Sem.run_bind, guard_slice, binOp, run_equal_nil hu, hr]
  · simp [Sem.run_bind, guard_slice, binOp, run_equal_nil hu, hr]
theorem codeB_pos : ∀ l : List Bool, 0 < codeB l
  | [] => by simp [codeB]
  | b :: r => by have := codeB_pos r; simp only [codeB]; omega
theorem codeB_inj : ∀ {a b : List Bool}, codeB a = codeB b → a = b
  | [], [], _ => rfl
  | [], b :: r, h => by have := codeB_pos r; simp only [codeB] at h; omega
  | a :: r, [], h => by have := codeB_pos r; simp only [codeB] at h; omega
  | a :: r, b :: s, h => by
    have : a = b ∧ codeB r = codeB s := by cases a <;> cases b <;> simp [codeB] at h ⊢ <;> omega
    rw [this.1, codeB_inj this.2]
def Kd (b : Bool) (x y : Value) : Prop := match b with
  | true => ∃ p q : Bool, x = .bool p ∧ y = .bool q
  | false => ∃ (k : IntKind) (n n' : Int), x = .int k n ∧ y = .int k n'
def Flat : List Bool → List Value → List Value → Prop
  | [], us, vs => us = [] ∧ vs = []
  | b :: ks, us, vs => ∃ x y us' vs', us = x :: us' ∧ vs = y :: vs' ∧ Kd b x y ∧ Flat ks us' vs'
theorem Flat.len : ∀ {ks : List Bool} {us vs : List Value}, Flat ks us vs → us.length = ks.length ∧ vs.length = ks.length
  | [], us, vs, h => by obtain ⟨rfl, rfl⟩ := h; exact ⟨rfl, rfl⟩
  | b :: ks, us, vs, h => by
    obtain ⟨x, y, us', vs', rfl, rfl, _, h⟩ := h
    have := h.len
    simp [this.1, this.2]
theorem Flat.drop : ∀ (n : Nat) {ks : List Bool} {us vs : List Value}, Flat ks us vs → Flat (ks.drop n) (us.drop n) (vs.drop n)
  | 0, _, _, _, h => h
  | n + 1, [], us, vs, h => by obtain ⟨rfl, rfl⟩ := h; exact ⟨rfl, rfl⟩
  | n + 1, b :: ks, us, vs, h => by
    obtain ⟨x, y, us', vs', rfl, rfl, _, h⟩ := h
    exact h.drop n
theorem Flat.take : ∀ (n : Nat) {ks : List Bool} {us vs : List Value}, Flat ks us vs → Flat (ks.take n) (us.take n) (vs.take n)
  | 0, _, _, _, _ => ⟨rfl, rfl⟩
  | n + 1, [], us, vs, h => by obtain ⟨rfl, rfl⟩ := h; exact ⟨rfl, rfl⟩
  | n + 1, b :: ks, us, vs, h => by
    obtain ⟨x, y, us', vs', rfl, rfl, hk, h⟩ := h
    exact ⟨x, y, _, _, rfl, rfl, hk, h.take n⟩
theorem eqInts_spec : ∀ {xs ys : List PV} {us vs : List Value} {r : Bool}, eqInts xs ys = some r → PRs St w xs us → PRs St w ys vs →
    Flat (xs.map isB) us vs ∧ (r = true ↔ us = vs)
  | [], [], us, vs, r, h, hu, hv => by
    simp only [PRs] at hu hv
    subst hu
    subst hv
    simp [eqInts] at h
    subst h
    exact ⟨⟨rfl, rfl⟩, by simp⟩
  | [], y :: ys, _, _, _, h, _, _ => by simp [eqInts] at h
  | x :: xs, [], _, _, _, h, _, _ => by cases x <;> simp [eqInts] at h
  | x :: xs, y :: ys, us, vs, r, h, hu, hv => by
    cases x <;> cases y <;> simp only [eqInts] at h <;> try (cases h; done)
    · rename_i k a k' b
      split at h
      · rename_i hk
        subst hk
        split at h
        · rename_i r' hr'
          simp at h
          simp only [PRs, PR] at hu hv
          obtain ⟨u, us, rfl, rfl, hu⟩ := hu
          obtain ⟨v, vs, rfl, rfl, hv⟩ := hv
          obtain ⟨h1, h3⟩ := eqInts_spec hr' hu hv
          refine ⟨⟨_, _, _, _, rfl, rfl, ⟨k, a, b, rfl, rfl⟩, h1⟩, ?_⟩
          subst h
          simp only [Bool.and_eq_true, beq_iff_eq, h3, List.cons.injEq, Value.int.injEq, true_and]
        · cases h
      · cases h
    · rename_i a b
      split at h
      · rename_i r' hr'
        simp at h
        simp only [PRs, PR] at hu hv
        obtain ⟨u, us, rfl, rfl, hu⟩ := hu
        obtain ⟨v, vs, rfl, rfl, hv⟩ := hv
        obtain ⟨h1, h3⟩ := eqInts_spec hr' hu hv
        refine ⟨⟨_, _, _, _, rfl, rfl, ⟨a, b, rfl, rfl⟩, h1⟩, ?_⟩
        subst h
        simp only [Bool.and_eq_true, beq_iff_eq, h3, List.cons.injEq, Value.bool.injEq]
      · cases h
def wrapV (P : Program) (t : TypeId) (us : List Value) : Value := match P.underlying t with
  | some (.int _) => us.headD undef
  | some .bool => us.headD undef
  | _ => .agg us.toArray
def isAggD : TypeDesc → Bool
  | .struct _ => true
  | .array _ _ => true
  | _ => false
theorem run_isAgg {t : TypeId} {d : TypeDesc} (h : P.underlying t = some d) : (isAgg t).run P w = .ok (isAggD d) w := by
  simp only [isAgg, Sem.run_bind, run_underlying h, Result.andThen_ok]
  cases d <;> rfl
theorem run_size {t : TypeId} {n : Nat} (h : szT P t = some n) : (Go.sizeOf t).run P w = .ok n w := by
  unfold szT at h
  split at h
  · rename_i i hi
    simp at h
    subst h
    simp [Go.sizeOf, typeInfo, hi]
  · cases h
theorem run_part_agg {t : TypeId} {d : TypeDesc} {n off : Nat} {cs : Array Value} (h : P.underlying t = some d) (ha : isAggD d = true) (hs : szT P t = some n) :
    (part t cs off).run P w = .ok (.agg (cs.extract off (off + n))) w := by
  simp only [part, Sem.run_bind, run_isAgg h, ha, Result.andThen_ok, if_true, run_size hs, Sem.run_pure]
theorem run_part_cell {t : TypeId} {d : TypeDesc} {off : Nat} {cs : Array Value} {v : Value} (h : P.underlying t = some d) (ha : isAggD d = false) (hv : cs[off]? = some v) :
    (part t cs off).run P w = .ok v w := by
  simp only [part, Sem.run_bind, run_isAgg h, ha, Result.andThen_ok, Bool.false_eq_true, if_false, hv, Sem.run_pure]
theorem flat_part {d : Nat} {t : TypeId} {ks : List Bool} {off : Nat} {xs : List Value} (h : flatT P d t = some ks) (hs : szT P t = some ks.length) (hx : off + ks.length ≤ xs.length) :
    (part t xs.toArray off).run P w = .ok (wrapV P t ((xs.drop off).take ks.length)) w := by
  cases d with
  | zero => simp [flatT] at h
  | succ d =>
    simp only [flatT] at h
    split at h
    · rename_i q hu
      simp at h
      subst h
      simp only [List.length_cons, List.length_nil] at hx
      have : ∃ v, xs[off]? = some v := ⟨xs[off], List.getElem?_eq_getElem (by omega)⟩
      obtain ⟨v, hv⟩ := this
      rw [run_part_cell hu rfl (v := v) (by simpa using hv)]
      simp [wrapV, hu, List.take_one, hv]
    · rename_i hu
      simp at h
      subst h
      simp only [List.length_cons, List.length_nil] at hx
      have : ∃ v, xs[off]? = some v := ⟨xs[off], List.getElem?_eq_getElem (by omega)⟩
      obtain ⟨v, hv⟩ := this
      rw [run_part_cell hu rfl (v := v) (by simpa using hv)]
      simp [wrapV, hu, List.take_one, hv]
    · rename_i fs hu
      rw [run_part_agg hu rfl hs]
      simp [wrapV, hu, List.extract_eq_take_drop]
    · rename_i n e hu
      rw [run_part_agg hu rfl hs]
      simp [wrapV, hu, List.extract_eq_take_drop]
    · cases h
theorem fields_eq {d D : Nat} {K : List Bool} {us vs : List Value} (hI : Flat K us vs)
    (he : ∀ (e : TypeId) (ks : List Bool), flatT P d e = some ks → ∀ us vs : List Value, Flat ks us vs → ∃ r : Bool, (Op.equalIn D e (wrapV P e us) (wrapV P e vs)).run P w = .ok r w ∧ (r = true ↔ us = vs)) :
    ∀ (fs : List Field) (i : Nat) (l : List Bool), flatFs P (flatT P d) i fs = some l → i ≤ K.length → K.drop i = l →
    ∃ r : Bool, (Op.eqFields D us.toArray vs.toArray fs).run P w = .ok r w ∧ (r = true ↔ us.drop i = vs.drop i)
  | [], i, l, h, _, hd => by
    simp only [flatFs, Option.some.injEq] at h
    subst h
    have hh := hI.drop i
    rw [hd] at hh
    obtain ⟨h1, h2⟩ := hh
    exact ⟨true, by simp [Op.eqFields], by simp [h1, h2]⟩
  | f :: fs, i, l, h, hl, hd => by
    simp only [flatFs] at h
    split at h <;> try (cases h; done)
    rename_i hf
    obtain ⟨ho, hn⟩ := hf
    split at h <;> try (cases h; done)
    rename_i ks hk
    split at h <;> try (cases h; done)
    rename_i hs
    split at h <;> try (cases h; done)
    rename_i l' hl'
    simp only [Option.some.injEq] at h
    subst h
    have hlen : K.length - i = ks.length + l'.length := by
      have := congrArg List.length hd
      simpa using this
    have ht : (K.drop i).take ks.length = ks := by rw [hd]; simp
    have hd' : K.drop (i + ks.length) = l' := by
      rw [← List.drop_drop, hd]; simp
    obtain ⟨hu, hv⟩ := hI.len
    obtain ⟨r, hr1, hr2⟩ := fields_eq hI he fs (i + ks.length) l' hl' (by omega) hd'
    have pa := flat_part (w := w) (off := i) (xs := us) hk hs (by omega)
    have pb := flat_part (w := w) (off := i) (xs := vs) hk hs (by omega)
    rw [← ho] at pa pb
    have hp := (hI.drop i).take ks.length
    rw [ht] at hp
    obtain ⟨r1, h1, h2⟩ := he f.type ks hk _ _ hp
    rw [← ho] at h1 h2
    simp only [Op.eqFields, hn, ne_eq, not_false_eq_true, if_true, Sem.run_bind, pa, pb, h1, Result.andThen_ok, Sem.run_ite, Sem.run_pure, hr1]
    rw [ho] at h2
    have du : us.drop i = (us.drop i).take ks.length ++ us.drop (i + ks.length) := by rw [← List.drop_drop, List.take_append_drop]
    have dv : vs.drop i = (vs.drop i).take ks.length ++ vs.drop (i + ks.length) := by rw [← List.drop_drop, List.take_append_drop]
    rw [du, dv]
    have hlen : ((us.drop i).take ks.length).length = ((vs.drop i).take ks.length).length := by simp [hu, hv]
    by_cases hq : (us.drop i).take ks.length = (vs.drop i).take ks.length
    · refine ⟨r, by simp [h2.2 hq], ?_⟩
      rw [hr2, hq]
      simp
    · have : r1 = false := by cases r1 with | false => rfl | true => exact absurd (h2.1 rfl) hq
      subst this
      refine ⟨false, by simp, ?_⟩
      constructor
      · intro h; cases h
      · intro h
        exact absurd (List.append_inj h hlen).1 hq
theorem items_eq (D : Nat) {e : TypeId} {ks : List Bool} {d : Nat} {K : List Bool} {us vs : List Value} (hf : flatT P d e = some ks) (hs : szT P e = some ks.length) (hc : P.cellsOf e = ks.length)
    (he : ∀ us vs : List Value, Flat ks us vs → ∃ r : Bool, (Op.equalIn D e (wrapV P e us) (wrapV P e vs)).run P w = .ok r w ∧ (r = true ↔ us = vs)) (hI : Flat K us vs) :
    ∀ (n i : Nat), i * ks.length ≤ K.length → K.drop (i * ks.length) = rep ks n → ∃ r : Bool, (Op.eqItems D e (P.cellsOf e) us.toArray vs.toArray (List.range' i n)).run P w = .ok r w ∧ (r = true ↔ us.drop (i * ks.length) = vs.drop (i * ks.length))
  | 0, i, _, hd => by
    have hh := hI.drop (i * ks.length)
    rw [hd] at hh
    obtain ⟨h1, h2⟩ := hh
    exact ⟨true, by simp [Op.eqItems], by simp [h1, h2]⟩
  | n + 1, i, hl, hd => by
    simp only [rep] at hd
    have hlen : K.length - i * ks.length = ks.length + (rep ks n).length := by
      have := congrArg List.length hd
      simpa using this
    have hmul : (i + 1) * ks.length = i * ks.length + ks.length := by rw [Nat.add_mul, Nat.one_mul]
    have ht : (K.drop (i * ks.length)).take ks.length = ks := by rw [hd]; simp
    have hd' : K.drop ((i + 1) * ks.length) = rep ks n := by
      rw [hmul, ← List.drop_drop, hd]; simp
    obtain ⟨hu, hv⟩ := hI.len
    have pa := flat_part (w := w) (off := i * ks.length) (xs := us) hf hs (by omega)
    have pb := flat_part (w := w) (off := i * ks.length) (xs := vs) hf hs (by omega)
    have hp := (hI.drop (i * ks.length)).take ks.length
    rw [ht] at hp
    obtain ⟨r1, h1, h2⟩ := he _ _ hp
    obtain ⟨r, hr1, hr2⟩ := items_eq D hf hs hc he hI n (i + 1) (by omega) hd'
    have du : us.drop (i * ks.length) = (us.drop (i * ks.length)).take ks.length ++ us.drop ((i + 1) * ks.length) := by rw [hmul, ← List.drop_drop, List.take_append_drop]
    have dv : vs.drop (i * ks.length) = (vs.drop (i * ks.length)).take ks.length ++ vs.drop ((i + 1) * ks.length) := by rw [hmul, ← List.drop_drop, List.take_append_drop]
    rw [hc] at hr1 ⊢
    simp only [List.range'_succ, Op.eqItems, Sem.run_bind, pa, pb, h1, Result.andThen_ok, Sem.run_ite, Sem.run_pure, hr1]
    rw [du, dv]
    have hlen : ((us.drop (i * ks.length)).take ks.length).length = ((vs.drop (i * ks.length)).take ks.length).length := by simp [hu, hv]
    by_cases hq : (us.drop (i * ks.length)).take ks.length = (vs.drop (i * ks.length)).take ks.length
    · refine ⟨r, by simp [h2.2 hq], ?_⟩
      rw [hr2, hq]
      simp
    · have : r1 = false := by cases r1 with | false => rfl | true => exact absurd (h2.1 rfl) hq
      subst this
      refine ⟨false, by simp, ?_⟩
      constructor
      · intro h; cases h
      · intro h
        exact absurd (List.append_inj h hlen).1 hq
theorem flat_eq : ∀ (d D : Nat) (t : TypeId) (ks : List Bool), flatT P d t = some ks → ∀ us vs : List Value, Flat ks us vs →
    ∃ r : Bool, (Op.equalIn (D + 1 + d) t (wrapV P t us) (wrapV P t vs)).run P w = .ok r w ∧ (r = true ↔ us = vs)
  | 0, _, _, _, h, _, _, _ => by simp [flatT] at h
  | d + 1, D, t, ks, h, us, vs, hI => by
    simp only [flatT] at h
    split at h
    · rename_i q hu
      simp at h
      subst h
      obtain ⟨a, b, us', vs', rfl, rfl, ⟨kk, n, n', rfl, rfl⟩, rfl, rfl⟩ := hI
      refine ⟨n == n', ?_, by simp⟩
      simp only [wrapV, hu, List.headD_cons]
      rw [show D + 1 + (d + 1) = (D + 1 + d) + 1 by omega]
      simp [Op.equalIn, run_underlying hu]
    · rename_i hu
      simp at h
      subst h
      obtain ⟨a, b, us', vs', rfl, rfl, ⟨n, n', rfl, rfl⟩, rfl, rfl⟩ := hI
      refine ⟨n == n', ?_, by simp⟩
      simp only [wrapV, hu, List.headD_cons]
      rw [show D + 1 + (d + 1) = (D + 1 + d) + 1 by omega]
      simp [Op.equalIn, run_underlying hu]
    · rename_i fs hu
      split at h <;> try (cases h; done)
      rename_i k' hk'
      split at h <;> try (cases h; done)
      rename_i hc
      obtain ⟨h1, h3⟩ := hc
      simp only [Option.some.injEq] at h
      subst h
      have hfo : P.fieldsOf t = fs := by simp [Program.fieldsOf, hu]
      obtain ⟨r, hr1, hr2⟩ := fields_eq (P := P) (w := w) (d := d) (D := D + 1 + d) hI (fun e k hk us vs q => flat_eq d D e k hk us vs q) fs.toList 0 k' hk' (by omega) rfl
      refine ⟨r, ?_, ?_⟩
      · rw [show D + 1 + (d + 1) = (D + 1 + d) + 1 by omega]
        simp only [wrapV, hu]
        rw [run_equalIn_struct w (D + 1 + d) t us.toArray vs.toArray (by rw [hfo]; exact hu) h1, hfo]
        exact hr1
      · rw [hr2]; simp
    · rename_i n e hu
      split at h
      · rename_i k' hk'
        split at h
        · rename_i hc
          simp only [Option.some.injEq] at h
          subst h
          have hce : P.cellsOf e = k'.length := by
            have := hc.1
            unfold szT at this
            split at this
            · rename_i i hi
              simp at this
              simp [Program.cellsOf, hi, this]
            · cases this
          obtain ⟨i, hi⟩ : ∃ i, P.info? e = some i := by
            have := hc.1
            unfold szT at this
            split at this
            · rename_i i hi
              exact ⟨i, hi⟩
            · cases this
          obtain ⟨r, hr1, hr2⟩ := items_eq (P := P) (w := w) (D + 1 + d) hk' hc.1 hce (fun us vs q => flat_eq d D e k' hk' us vs q) hI n 0 (by simp) (by simp)
          refine ⟨r, ?_, ?_⟩
          · simp only [wrapV, hu]
            rw [show D + 1 + (d + 1) = (D + 1 + d) + 1 by omega, run_equalIn_array w (D + 1 + d) us.toArray vs.toArray hu hi, List.range_eq_range']
            exact hr1
          · rw [hr2]; simp
        · cases h
      · cases h
    · cases h
end Gv
