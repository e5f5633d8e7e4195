/- Operations without memory, all of them. -/
import Derived.Test.YtfhgjanheaocaaaGvE
namespace Gv
open Go Go.RowKit
variable {P : Program} {g : G} {m : List Blk} {St : Nat → Nat → Prop} {w : World} {call : CallT}
theorem class_agg {op : BinOp} {t : TypeId} {k : List Bool} (h : classT P op t = some (4 + codeB k)) (ho : op = .eql ∨ op = .neq) :
    flatT P 3 t = some k ∧ P.eqGuardType P.depth t = false ∧ ((∃ fs, P.underlying t = some (.struct fs)) ∨ ∃ n e, P.underlying t = some (.array n e)) := by
  have : ∀ d, P.underlying t = d → flatT P 3 t = some k ∧ P.eqGuardType P.depth t = false ∧ ((∃ fs, d = some (.struct fs)) ∨ ∃ n e, d = some (.array n e)) := by
    intro d hd
    rcases ho with rfl | rfl
    all_goals
      simp only [classT, hd] at h
      split at h
      · simp at h; omega
      · simp at h; omega
      · simp at h; omega
      · split at h
        · rename_i ks hks
          split at h
          · simp at h
          · rename_i hg
            have he : codeB ks = codeB k := by simp only [Option.some.injEq] at h; omega
            have := codeB_inj he
            subst this
            exact ⟨hks, by simpa using hg, .inl ⟨_, rfl⟩⟩
        · simp at h
      · split at h
        · rename_i ks hks
          split at h
          · simp at h
          · rename_i hg
            have he : codeB ks = codeB k := by simp only [Option.some.injEq] at h; omega
            have := codeB_inj he
            subst this
            exact ⟨hks, by simpa using hg, .inr ⟨_, _, rfl⟩⟩
        · simp at h
      · simp at h
  exact this _ rfl
theorem bin_agg {op : BinOp} {t : TypeId} {x y : Operand} {xs ys : List PV} {us vs : List Value} {r : Bool} {c : Nat} (hc : classT P op t = some c) (h4 : c = 4 + codeB (xs.map isB)) (he : eqInts xs ys = some r)
    (hu : PRs St w xs us) (hv : PRs St w ys vs) (ho : op = .eql ∨ op = .neq) :
    (do eqGuard op t x y (.agg us.toArray) (.agg vs.toArray); binOp op t (.agg us.toArray) (.agg vs.toArray)).run P w = .ok (.bool (if op = .eql then r else !r)) w := by
  subst h4
  obtain ⟨hf, hg, ht⟩ := class_agg hc ho
  obtain ⟨h1, h3⟩ := eqInts_spec he hu hv
  obtain ⟨r', hr1, hr2⟩ := flat_eq (P := P) (w := w) 3 9996 t _ hf us vs h1
  have hw : ∀ us : List Value, wrapV P t us = .agg us.toArray := by
    intro us
    unfold wrapV
    rcases ht with ⟨fs, ht⟩ | ⟨n, e, ht⟩ <;> rw [ht]
  rw [hw, hw] at hr1
  have hr : r' = r := by
    rw [Bool.eq_iff_iff, hr2, h3]
  subst hr
  rcases ho with rfl | rfl
  · simp only [Sem.run_bind, run_eqGuard_agg w _ t x y _ _ hg, Result.andThen_ok, run_eql_struct, if_true]
    rw [show (10000 : Nat) = 9996 + 1 + 3 from rfl, hr1]
    rfl
  · simp only [Sem.run_bind, run_eqGuard_agg w _ t x y _ _ hg, Result.andThen_ok, run_neq_struct]
    rw [show (10000 : Nat) = 9996 + 1 + 3 from rfl, hr1]
    rfl
theorem bin_sound {op : BinOp} {t : TypeId} {x y : Operand} {a b v : AV} {ua ub : Value} {c : Nat} (hc : classT P op t = some c) (h : binA op c a b = some v) (ha : VR g m St w a ua) (hb : VR g m St w b ub) :
    ∃ u, (do eqGuard op t x y ua ub; binOp op t ua ub).run P w = .ok u w ∧ VR g m St w v u := by
  unfold binA at h
  split at h
  · rename_i k n k' n'
    have := ha.int; subst this
    have := hb.int; subst this
    exact bin_int (c := c) (by unfold binA; exact h)
  · rename_i p q
    have := ha.bool; subst this
    have := hb.bool; subst this
    exact bin_bool hc (by unfold binA; exact h)
  · rename_i xs ys
    split at h
    · rename_i h4
      simp only [VR, PR] at ha hb
      obtain ⟨us, rfl, ha⟩ := ha
      obtain ⟨vs, rfl, hb⟩ := hb
      split at h
      · cases he : eqInts xs ys with
        | none => simp [he] at h
        | some r =>
          simp [he] at h
          subst h
          exact ⟨_, bin_agg hc h4 he ha hb (.inl rfl), VR.bool_mk⟩
      · cases he : eqInts xs ys with
        | none => simp [he] at h
        | some r =>
          simp [he] at h
          subst h
          exact ⟨_, bin_agg hc h4 he ha hb (.inr rfl), VR.bool_mk⟩
      · cases h
    · cases h
  · have : ub = .slice none 0 0 := by simpa [VR] using hb
    subst this
    split at h
    · cases he : eqNil a with
      | none => simp [he] at h
      | some r =>
        simp [he] at h
        subst h
        exact ⟨_, bin_nil hc rfl he ha (.inl rfl), VR.bool_mk⟩
    · cases he : eqNil a with
      | none => simp [he] at h
      | some r =>
        simp [he] at h
        subst h
        exact ⟨_, bin_nil hc rfl he ha (.inr rfl), VR.bool_mk⟩
    · cases h
  · cases h
theorem un_sound {op : UnOp} {a v : AV} {ua : Value} (h : unA op a = some v) (ha : VR g m St w a ua) : ∃ u, (Op.unary op ua).run P w = .ok u w ∧ VR g m St w v u := by
  unfold unA at h
  split at h
  · have := ha.bool; subst this
    simp at h; subst h
    exact ⟨_, rfl, VR.bool_mk⟩
  · have := ha.int; subst this
    simp at h; subst h
    refine ⟨_, ?_, VR.int_mk⟩
    simp [Op.unary, Op.intArith]
  · cases h
theorem asList_spec {x : AV} {n : Nat} {cs : List PV} {u : Value} (h : asList x = some (n, cs)) (hv : VR g m St w x u) :
    ∃ (a : Option Addr) (cap : Nat) (us : List Value), u = .slice a n cap ∧ PRs St w cs us ∧ n ≤ cap ∧ ((n = 0 ∧ us = []) ∨ ∃ ad, a = some ad ∧ At St w ad us) := by
  unfold asList at h
  split at h
  · simp at h
    obtain ⟨rfl, rfl⟩ := h
    simpa only [VR, PR] using hv
  · simp at h
    obtain ⟨rfl, rfl⟩ := h
    simp only [VR] at hv
    subst hv
    exact ⟨none, 0, [], rfl, by simp [PRs], Nat.le_refl _, .inl ⟨rfl, rfl⟩⟩
  · simp at h
    obtain ⟨rfl, rfl⟩ := h
    simp only [VR] at hv
    obtain ⟨q, us, rfl, h1, _, h3⟩ := hv
    exact ⟨_, _, us, rfl, h1, Nat.le_refl _, .inr ⟨_, rfl, h3⟩⟩
  · simp at h
    obtain ⟨rfl, rfl⟩ := h
    simp only [VR] at hv
    obtain ⟨q, cap, us, rfl, hc, h1, _, h3, _⟩ := hv
    exact ⟨_, _, us, rfl, h1, hc, .inr ⟨_, rfl, h3⟩⟩
  · cases h
theorem fold_sound {f : AV → AV → Option AV} {F : Value → Value → Sem Value} (hf : ∀ a b v ua ub, f a b = some v → VR g m St w a ua → VR g m St w b ub → ∃ u, (F ua ub).run P w = .ok u w ∧ VR g m St w v u) :
    ∀ (l : List AV) (x v : AV) (ux : Value) (us : List Value), fold2 f x l = some v → VR g m St w x ux → VRs g m St w l us → ∃ u, (us.foldlM F ux).run P w = .ok u w ∧ VR g m St w v u
  | [], x, v, ux, us, h, hx, hl => by
    simp [fold2] at h
    subst h
    simp only [VRs] at hl
    subst hl
    exact ⟨ux, by simp, hx⟩
  | y :: l, x, v, ux, us, h, hx, hl => by
    simp only [fold2] at h
    split at h
    · rename_i z hz
      simp only [VRs] at hl
      obtain ⟨uy, us, rfl, hy, hl⟩ := hl
      obtain ⟨u, h1, h2⟩ := hf x y z ux uy hz hx hy
      obtain ⟨u', h3, h4⟩ := fold_sound hf l z v u us h h2 hl
      exact ⟨u', by simp [List.foldlM_cons, h1, h3], h4⟩
    · cases h
theorem min_sound {a b v : AV} {ua ub : Value} (h : min2 a b = some v) (ha : VR g m St w a ua) (hb : VR g m St w b ub) : ∃ u, (Builtin.min2 ua ub).run P w = .ok u w ∧ VR g m St w v u := by
  unfold min2 at h
  split at h
  · have := ha.int; subst this
    have := hb.int; subst this
    simp at h; subst h
    exact ⟨_, rfl, VR.int_mk⟩
  · cases h
theorem max_sound {a b v : AV} {ua ub : Value} (h : max2 a b = some v) (ha : VR g m St w a ua) (hb : VR g m St w b ub) : ∃ u, (Builtin.max2 ua ub).run P w = .ok u w ∧ VR g m St w v u := by
  unfold max2 at h
  split at h
  · have := ha.int; subst this
    have := hb.int; subst this
    simp at h; subst h
    exact ⟨_, rfl, VR.int_mk⟩
  · cases h
theorem addr_add (b o n : Nat) : (⟨b, o, none⟩ : Addr).add n = ⟨b, o + n, none⟩ := by
  unfold Addr.add
  split
  · rename_i h; subst h; rfl
  · rfl
theorem fadr_sound {s : TypeId} {fs : Array Field} {f : Nat} {fd : Field} {n : Nat} {x v : AV} {ux : Value} (hs : P.underlying s = some (.struct fs)) (hf : fs[f]? = some fd) (hn : szT P fd.type = some n) (h0 : n ≠ 0)
    (h : runL call (.fadr fd.offset) [x] = some v) (hx : VR g m St w x ux) : ∃ u, (Instr.fieldAt s ux f).run P w = .ok u w ∧ VR g m St w v u := by
  simp only [runL] at h
  split at h
  · rename_i b o
    simp at h; subst h
    simp only [VR] at hx
    obtain ⟨hl, rfl⟩ := hx
    refine ⟨.pointer (some ⟨g.ρ b, o + fd.offset, none⟩), ?_, by simp only [VR]; exact ⟨hl, trivial⟩⟩
    simp [Instr.fieldAt, run_underlying hs, hf, Instr.sureAddr, fieldPlace, run_size hn, h0, addr_add]
  · rename_i cs o
    simp at h; subst h
    simp only [VR, PR] at hx
    obtain ⟨ad, us, rfl, h1, h2⟩ := hx
    refine ⟨.pointer (some (ad.add (o + fd.offset))), ?_, by simp only [VR, PR]; exact ⟨ad, us, rfl, h1, h2⟩⟩
    simp [Instr.fieldAt, run_underlying hs, hf, Instr.sureAddr, fieldPlace, run_size hn, h0, add_of_add]
  · rename_i b i o
    simp at h; subst h
    simp only [VR] at hx
    obtain ⟨q, rfl, hl⟩ := hx
    refine ⟨.pointer (some ⟨q, o + fd.offset, none⟩), ?_, by simp only [VR]; exact ⟨q, rfl, hl⟩⟩
    simp [Instr.fieldAt, run_underlying hs, hf, Instr.sureAddr, fieldPlace, run_size hn, h0, addr_add]
  · cases h
theorem nck_sound {x v : AV} {ux : Value} (h : runL call .nck [x] = some v) (hx : VR g m St w x ux) : (∃ ad, ux = .pointer (some ad)) ∧ VR g m St w v ux := by
  simp only [runL] at h
  split at h
  · rename_i b o
    simp at h; subst h
    refine ⟨?_, hx⟩
    simp only [VR] at hx
    exact ⟨_, hx.2⟩
  · rename_i cs o
    simp at h; subst h
    refine ⟨?_, hx⟩
    simp only [VR, PR] at hx
    obtain ⟨ad, us, rfl, _⟩ := hx
    exact ⟨_, rfl⟩
  · rename_i b i o
    simp at h; subst h
    refine ⟨?_, hx⟩
    simp only [VR] at hx
    obtain ⟨q, rfl, _⟩ := hx
    exact ⟨_, rfl⟩
  · cases h
theorem sub_spec {α : Type} {cs ws : List α} {o n : Nat} (h : sub cs o n = some ws) : o + n ≤ cs.length ∧ ws = (cs.drop o).take n := by
  unfold sub at h
  split at h
  · rename_i hl
    simp at h
    exact ⟨hl, h.symm⟩
  · cases h
theorem extract_toArray (us : List Value) (o n : Nat) : us.toArray.extract o (o + n) = ((us.drop o).take n).toArray := by
  simp [List.extract_eq_take_drop]
theorem fval_sound {s : TypeId} {fs : Array Field} {f : Nat} {fd : Field} {n : Nat} {ag : Bool} {x v : AV} {ux : Value} (hs : P.underlying s = some (.struct fs)) (hf : fs[f]? = some fd) (hn : szT P fd.type = some n) (ha : aggT P fd.type = some ag)
    (h : runL call (.fval fd.offset n ag) [x] = some v) (hx : VR g m St w x ux) : ∃ u, (Instr.field s ux f).run P w = .ok u w ∧ VR g m St w v u := by
  simp only [runL] at h
  split at h
  · rename_i cs
    simp only [VR, PR] at hx
    obtain ⟨us, rfl, h1⟩ := hx
    have hd : ∃ d, P.underlying fd.type = some d ∧ isAggD d = ag := by
      unfold aggT at ha
      split at ha <;> rename_i hu <;> simp at ha <;> subst ha
      · exact ⟨_, hu, rfl⟩
      · exact ⟨_, hu, rfl⟩
      · rename_i d h1 h2
        refine ⟨_, hu, ?_⟩
        cases d <;> first | rfl | exact absurd rfl (h1 _) | exact absurd rfl (h2 _ _)
    obtain ⟨d, hu, hag⟩ := hd
    split at h
    · rename_i hagt
      subst hagt
      split at h
      · rename_i ws hws
        simp at h; subst h
        obtain ⟨_, rfl⟩ := sub_spec hws
        refine ⟨.agg ((us.drop fd.offset).take n).toArray, ?_, by simp only [VR, PR]; exact ⟨_, rfl, h1.drop_take _ _⟩⟩
        simp only [Instr.field, Sem.run_bind, run_underlying hs, Result.andThen_ok, hf, asAgg, Sem.run_pure]
        rw [run_part_agg hu hag hn, extract_toArray]
      · cases h
    · rename_i hagf
      have hagf : isAggD d = false := by rw [hag]; simpa using hagf
      split at h
      · rename_i x hx
        simp at h; subst h
        obtain ⟨u, k1, k2⟩ := h1.get hx
        refine ⟨u, ?_, by simpa [VR] using k2⟩
        simp only [Instr.field, Sem.run_bind, run_underlying hs, Result.andThen_ok, hf, asAgg, Sem.run_pure]
        exact run_part_cell hu hagf (by simpa using k1)
      · cases h
  · cases h
theorem idx_sound {t e : TypeId} {k n : Nat} {ag : Bool} {x i v : AV} {ux ui : Value} (ht : P.underlying t = some (.array n e)) (hk : szT P e = some k) (ha : aggT P e = some ag)
    (h : runL call (.idx k n ag) [x, i] = some v) (hx : VR g m St w x ux) (hi : VR g m St w i ui) : ∃ u, (Instr.index t ux ui).run P w = .ok u w ∧ VR g m St w v u := by
  cases i <;> simp only [runL] at h <;> try (cases h; done)
  rename_i pv
  cases pv <;> simp only at h <;> try (cases h; done)
  rename_i kk i
  have := hi.int; subst this
  split at h <;> try (cases h; done)
  rename_i hin
  have hd : ∃ d, P.underlying e = some d ∧ isAggD d = ag := by
    unfold aggT at ha
    split at ha <;> rename_i hu <;> simp at ha <;> subst ha
    · exact ⟨_, hu, rfl⟩
    · exact ⟨_, hu, rfl⟩
    · rename_i d h1 h2
      refine ⟨_, hu, ?_⟩
      cases d <;> first | rfl | exact absurd rfl (h1 _) | exact absurd rfl (h2 _ _)
  obtain ⟨d, hu, hag⟩ := hd
  split at h <;> try (cases h; done)
  · rename_i cs
    simp only [VR, PR] at hx
    obtain ⟨us, rfl, h1⟩ := hx
    have hrun : (Instr.index t (.agg us.toArray) (.int kk i)).run P w = (Go.part e us.toArray (i.toNat * k)).run P w := by
      simp [Instr.index, asIntOf, run_underlying ht, hin.1, hin.2, run_size hk]
    split at h
    · rename_i hagt
      subst hagt
      cases hs : sub cs (i.toNat * k) k with
      | none => simp [hs] at h
      | some ws =>
        simp [hs] at h; subst h
        obtain ⟨_, rfl⟩ := sub_spec hs
        refine ⟨.agg ((us.drop (i.toNat * k)).take k).toArray, ?_, by simp only [VR, PR]; exact ⟨_, rfl, h1.drop_take _ _⟩⟩
        rw [hrun, run_part_agg hu hag hk, extract_toArray]
    · rename_i hagf
      have hagf : isAggD d = false := by rw [hag]; simpa using hagf
      cases hs : cs[i.toNat * k]? with
      | none => simp [hs] at h
      | some y =>
        simp [hs] at h; subst h
        obtain ⟨u, k1, k2⟩ := h1.get hs
        refine ⟨u, ?_, by simpa [VR] using k2⟩
        rw [hrun]
        exact run_part_cell hu hagf (by simpa using k1)
  · rename_i cs
    simp only [VR] at hx
    obtain ⟨us, rfl, h1⟩ := hx
    have hrun : (Instr.index t (.agg us.toArray) (.int kk i)).run P w = (Go.part e us.toArray (i.toNat * k)).run P w := by
      simp [Instr.index, asIntOf, run_underlying ht, hin.1, hin.2, run_size hk]
    split at h
    · cases h
    · rename_i hagf
      have hagf : isAggD d = false := by rw [hag]; simpa using hagf
      obtain ⟨u, k1, k2⟩ := h1.get h
      exact ⟨u, hrun.trans (run_part_cell hu hagf (by simpa using k1)), k2⟩
theorem sidx_sound {t : TypeId} {x i v : AV} {ux ui : Value} (ht : P.underlying t = some .string)
    (h : runL call .sidx [x, i] = some v) (hx : VR g m St w x ux) (hi : VR g m St w i ui) : ∃ u, (Instr.index t ux ui).run P w = .ok u w ∧ VR g m St w v u := by
  cases x <;> simp only [runL] at h <;> try (cases h; done)
  rename_i px
  cases px <;> (try simp only at h) <;> try (cases h; done)
  rename_i s
  cases i <;> (try simp only at h) <;> try (cases h; done)
  rename_i pv
  cases pv <;> (try simp only at h) <;> try (cases h; done)
  rename_i kk i
  have := hi.int; subst this
  simp only [VR, PR] at hx
  subst hx
  split at h <;> try (cases h; done)
  rename_i h0
  cases hb : s[i.toNat]? with
  | none => simp [hb] at h
  | some b =>
    simp [hb] at h; subst h
    refine ⟨.int .u8 b.toNat, ?_, VR.int_mk⟩
    simp [Instr.index, asIntOf, run_underlying ht, h0, hb]
theorem VR.int_of {k : IntKind} {n : Int} {u : Value} (h : VR g m St w (.p (.int k n)) u) : u = .int k n := h.int
theorem bnds_sound {isS : Bool} {len cap l h : Nat} {lo hi : Option Value} {bs : List AV} (hb : bnds lo.isSome hi.isSome bs len = some (l, h)) (hc : len ≤ cap) (hv : VRs g m St w bs (lo.toList ++ hi.toList)) :
    (Instr.sliceBounds isS len cap lo hi none).run P w = .ok (l, h, cap) w ∧ l ≤ h ∧ h ≤ len := by
  cases lo with
  | none =>
    cases hi with
    | none =>
      simp only [Option.isSome_none] at hb
      cases bs with
      | nil => simp [bnds] at hb; obtain ⟨rfl, rfl⟩ := hb; simp [Instr.sliceBounds]
      | cons _ _ => simp [bnds] at hb
    | some vh =>
      obtain ⟨x, rfl, hx⟩ : ∃ x, bs = [x] ∧ VR g m St w x vh := by
        cases bs with
        | nil => simp [VRs] at hv
        | cons x bs =>
          simp only [VRs, Option.toList, List.nil_append] at hv
          obtain ⟨y, ys, he, h1, h2⟩ := hv
          simp at he
          obtain ⟨rfl, rfl⟩ := he
          cases bs with
          | nil => exact ⟨x, rfl, h1⟩
          | cons _ _ => simp only [VRs] at h2; obtain ⟨_, _, h3, _⟩ := h2; cases h3
      simp only [Option.isSome_none, Option.isSome_some] at hb
      cases x <;> simp only [bnds] at hb <;> try (cases hb; done)
      rename_i px
      cases px <;> (try simp only at hb) <;> try (cases hb; done)
      rename_i k n
      split at hb <;> try (cases hb; done)
      rename_i hn
      simp at hb; obtain ⟨rfl, rfl⟩ := hb
      have := hx.int; subst this
      have h2 : n ≤ (cap : Int) := by omega
      refine ⟨?_, Nat.zero_le _, by omega⟩
      simp [Instr.sliceBounds, Instr.sliceBound, asIntOf, hn.1, h2]
  | some vl =>
    cases hi with
    | none =>
      obtain ⟨x, rfl, hx⟩ : ∃ x, bs = [x] ∧ VR g m St w x vl := by
        cases bs with
        | nil => simp [VRs] at hv
        | cons x bs =>
          simp only [VRs, Option.toList, List.append_nil] at hv
          obtain ⟨y, ys, he, h1, h2⟩ := hv
          simp at he
          obtain ⟨rfl, rfl⟩ := he
          cases bs with
          | nil => exact ⟨x, rfl, h1⟩
          | cons _ _ => simp only [VRs] at h2; obtain ⟨_, _, h3, _⟩ := h2; cases h3
      simp only [Option.isSome_none, Option.isSome_some] at hb
      cases x <;> simp only [bnds] at hb <;> try (cases hb; done)
      rename_i px
      cases px <;> (try simp only at hb) <;> try (cases hb; done)
      rename_i k n
      split at hb <;> try (cases hb; done)
      rename_i hn
      simp at hb; obtain ⟨rfl, rfl⟩ := hb
      have := hx.int; subst this
      refine ⟨?_, by omega, Nat.le_refl _⟩
      simp [Instr.sliceBounds, Instr.sliceBound, asIntOf, hn.1, hn.2]
    | some vh =>
      obtain ⟨x, y, rfl, hx, hy⟩ : ∃ x y, bs = [x, y] ∧ VR g m St w x vl ∧ VR g m St w y vh := by
        cases bs with
        | nil => simp [VRs] at hv
        | cons x bs =>
          simp only [VRs, Option.toList, List.cons_append, List.nil_append] at hv
          obtain ⟨y, ys, he, h1, h2⟩ := hv
          simp at he
          obtain ⟨rfl, rfl⟩ := he
          cases bs with
          | nil => simp only [VRs] at h2; cases h2
          | cons z bs =>
            simp only [VRs] at h2
            obtain ⟨y, ys, he, h2, h3⟩ := h2
            simp at he
            obtain ⟨rfl, rfl⟩ := he
            cases bs with
            | nil => exact ⟨x, z, rfl, h1, h2⟩
            | cons _ _ => simp only [VRs] at h3; obtain ⟨_, _, h3, _⟩ := h3; cases h3
      simp only [Option.isSome_some] at hb
      cases x <;> simp only [bnds] at hb <;> try (cases hb; done)
      rename_i px
      cases px <;> (try simp only at hb) <;> try (cases hb; done)
      rename_i k n
      cases y <;> (try simp only at hb) <;> try (cases hb; done)
      rename_i py
      cases py <;> (try simp only at hb) <;> try (cases hb; done)
      rename_i k2 n2
      split at hb <;> try (cases hb; done)
      rename_i hn
      simp at hb; obtain ⟨rfl, rfl⟩ := hb
      have := hx.int; subst this
      have := hy.int; subst this
      have h0 : 0 ≤ n2 := by omega
      have h2 : n2 ≤ (cap : Int) := by omega
      refine ⟨?_, by omega, by omega⟩
      simp [Instr.sliceBounds, Instr.sliceBound, asIntOf, hn.1, hn.2.1, h0, h2, Int.toNat_of_nonneg h0]
theorem at_sub {St : Nat → Nat → Prop} {w : World} {ad : Addr} {us : List Value} (h : At St w ad us) (o n : Nat) : At St w (ad.add o) ((us.drop o).take n) := by
  intro j x hx
  rw [List.getElem?_take] at hx
  split at hx
  · rw [List.getElem?_drop] at hx
    obtain ⟨h1, h2, h3⟩ := h _ _ hx
    rw [add_of_add]
    refine ⟨?_, h2, h3⟩
    have hs := cell_spot h2
    by_cases ho : o = 0
    · subst ho; simpa [Addr.add] using h1
    · have := add_form ad (o + j) hs
      have e : ad.add o = ⟨ad.block, ad.off + o, none⟩ := by
        unfold Addr.add
        simp [ho]
      rw [e]
      simpa [Nat.add_assoc] using h1
  · cases hx
theorem slc_list {n h l k cap : Nat} {cs ws : List PV} {a : Option Addr} {us : List Value} (hs : sub cs (l * k) ((h - l) * k) = some ws) (hlh : l < h) (hn : h ≤ n) (hc : n ≤ cap) (h1 : PRs St w cs us) (h3 : (n = 0 ∧ us = []) ∨ ∃ ad, a = some ad ∧ At St w ad us) :
    PR St w (.list (h - l) ws) (.slice (if cap = l then a else a.map (·.add (l * k))) (h - l) (cap - l)) := by
  obtain ⟨_, rfl⟩ := sub_spec hs
  rw [if_neg (by omega)]
  rcases h3 with ⟨rfl, _⟩ | ⟨ad, rfl, hat⟩
  · omega
  · simp only [PR]
    exact ⟨_, _, (us.drop (l * k)).take ((h - l) * k), rfl, h1.drop_take _ _, by omega, .inr ⟨_, rfl, at_sub hat _ _⟩⟩
theorem slc_slice {t e : TypeId} {k : Nat} {x v : AV} {bs : List AV} {ux : Value} {lo hi : Option Value} (ht : P.underlying t = some (.slice e)) (hk : szT P e = some k)
    (h : runL call (.slc k none lo.isSome hi.isSome) (x :: bs) = some v) (hx : VR g m St w x ux) (hv : VRs g m St w bs (lo.toList ++ hi.toList)) : ∃ u, (Instr.sliceAt t ux lo hi none).run P w = .ok u w ∧ VR g m St w v u := by
  simp only [runL] at h
  split at h <;> try (cases h; done)
  rename_i n hn
  split at h <;> try (cases h; done)
  rename_i l h' hb
  have fin : ∀ (a : Option Addr) (cap : Nat), ux = .slice a n cap → n ≤ cap → l ≤ h' ∧ h' ≤ n ∧ (Instr.sliceAt t ux lo hi none).run P w = .ok (.slice (if cap = l then a else a.map (·.add (l * k))) (h' - l) (cap - l)) w := by
    rintro a cap rfl hc
    obtain ⟨b1, b2, b3⟩ := bnds_sound (P := P) (isS := true) hb hc hv
    refine ⟨b2, b3, ?_⟩
    simp [Instr.sliceAt, Instr.slice, run_underlying ht, b1, run_size hk]
  have empty : ∀ (a : Option Addr) (cap : Nat), l = h' → VR g m St w (.p (.list 0 [])) (.slice a (h' - l) cap) := by
    rintro a cap rfl
    simp only [VR, PR, PRs, Nat.sub_self]
    exact ⟨a, cap, [], rfl, rfl, Nat.zero_le _, .inl ⟨trivial, rfl⟩⟩
  unfold slcA at h
  split at h
  · rename_i hlh
    simp at h; subst h
    have : ∃ a cap, ux = .slice a n cap ∧ n ≤ cap := by
      cases x <;> simp only [lenA, asList, Option.map] at hn <;> try (cases hn; done)
      all_goals simp only [VR] at hx
      · rename_i px
        cases px <;> simp at hn <;> try (cases hn; done)
        subst hn
        simp only [PR] at hx
        obtain ⟨a, cap, us, rfl, _, hc, _⟩ := hx
        exact ⟨a, cap, rfl, hc⟩
      · simp at hn; subst hn; subst hx; exact ⟨_, _, rfl, Nat.le_refl _⟩
      · simp at hn; subst hn; obtain ⟨_, cap, rfl, hc⟩ := hx; exact ⟨_, _, rfl, hc⟩
      · simp at hn; subst hn; obtain ⟨_, _, rfl, _⟩ := hx; exact ⟨_, _, rfl, Nat.le_refl _⟩
      · simp at hn; subst hn; obtain ⟨_, _, _, rfl, hc, _⟩ := hx; exact ⟨_, _, rfl, hc⟩
    obtain ⟨a, cap, rfl, hc⟩ := this
    obtain ⟨_, _, f3⟩ := fin a cap rfl hc
    exact ⟨_, f3, empty _ _ hlh⟩
  · rename_i hlh
    have list : ∀ cs, asList x = some (n, cs) → ((sub cs (l * k) ((h' - l) * k)).map fun ws => AV.p (.list (h' - l) ws)) = some v → ∃ u, (Instr.sliceAt t ux lo hi none).run P w = .ok u w ∧ VR g m St w v u := by
      intro cs hl hs
      obtain ⟨a, cap, us, rfl, h1, hc, h3⟩ := asList_spec hl hx
      obtain ⟨f1, f2, f3⟩ := fin a cap rfl hc
      cases hss : sub cs (l * k) ((h' - l) * k) with
      | none => simp [hss] at hs
      | some ws =>
        simp [hss] at hs; subst hs
        exact ⟨_, f3, by simp only [VR]; exact slc_list hss (by omega) f2 hc h1 h3⟩
    split at h
    · simp [lenA, asList] at hn
    · simp [lenA, asList] at hn
    · rename_i b o n' sz'
      split at h <;> try (cases h; done)
      rename_i hsz
      subst hsz
      simp at h; subst h
      simp [lenA] at hn; subst hn
      simp only [VR] at hx
      obtain ⟨hl, cap, rfl, hc⟩ := hx
      obtain ⟨f1, f2, f3⟩ := fin _ cap rfl hc
      refine ⟨_, f3, ?_⟩
      rw [if_neg (by omega)]
      simp only [VR]
      exact ⟨hl, cap - l, by simp [addr_add], by omega⟩
    · split at h <;> try (cases h; done)
      rename_i n2 cs hl
      have : n2 = n := by
        cases x <;> simp only [lenA] at hn <;> simp [hl] at hn <;> first | exact hn | (simp [asList] at hl)
      subst this
      exact list cs hl h
theorem slc_array {t e : TypeId} {k n : Nat} {x v : AV} {bs : List AV} {ux : Value} {lo hi : Option Value} (ht : P.underlying t = some (.array n e)) (hk : szT P e = some k)
    (h : runL call (.slc k (some n) lo.isSome hi.isSome) (x :: bs) = some v) (hx : VR g m St w x ux) (hv : VRs g m St w bs (lo.toList ++ hi.toList)) : ∃ u, (Instr.sliceAt t ux lo hi none).run P w = .ok u w ∧ VR g m St w v u := by
  simp only [runL] at h
  split at h <;> try (cases h; done)
  rename_i n0 hn
  split at h <;> try (cases h; done)
  rename_i l h' hb
  have hn0 : n0 = n := by
    cases x <;> simp only [lenA] at hn <;> try (cases hn; done)
    · rename_i px
      cases px <;> simp at hn <;> first | exact hn.symm | cases hn
    · simp at hn; exact hn.symm
  subst hn0
  obtain ⟨b1, b2, b3⟩ := bnds_sound (P := P) (isS := false) hb (Nat.le_refl _) hv
  have fin : ∀ (a : Addr), ux = .pointer (some a) → (Instr.sliceAt t ux lo hi none).run P w = .ok (.slice (some (if n0 = l then a else a.add (l * k))) (h' - l) (n0 - l)) w := by
    rintro a rfl
    simp [Instr.sliceAt, Instr.sureAddr, run_underlying ht, b1, run_size hk]
  have isP : ∃ a, ux = .pointer (some a) := by
    cases x <;> simp only [lenA] at hn <;> try (cases hn; done)
    · rename_i px
      cases px <;> simp at hn <;> try (cases hn; done)
      simp only [VR, PR] at hx
      obtain ⟨ad, us, rfl, _⟩ := hx
      exact ⟨_, rfl⟩
    · simp only [VR] at hx
      exact ⟨_, hx.2⟩
  unfold slcA at h
  split at h
  · rename_i hlh
    subst hlh
    simp at h; subst h
    obtain ⟨a, rfl⟩ := isP
    refine ⟨_, fin a rfl, ?_⟩
    simp only [VR, PR, PRs, Nat.sub_self]
    exact ⟨_, _, [], rfl, rfl, Nat.zero_le _, .inl ⟨trivial, rfl⟩⟩
  · rename_i hlh
    split at h
    · rename_i b o
      simp at h; subst h
      simp only [VR] at hx
      obtain ⟨hl, rfl⟩ := hx
      refine ⟨_, fin _ rfl, ?_⟩
      rw [if_neg (by omega)]
      simp only [VR]
      exact ⟨hl, n0 - l, by rw [addr_add], by omega⟩
    · rename_i cs o
      cases hs : sub cs (o + l * k) ((h' - l) * k) with
      | none => simp [hs] at h
      | some ws =>
        simp [hs] at h; subst h
        obtain ⟨_, rfl⟩ := sub_spec hs
        simp only [VR, PR] at hx
        obtain ⟨ad, us, rfl, h1, hat⟩ := hx
        refine ⟨_, fin _ rfl, ?_⟩
        rw [if_neg (by omega), add_of_add]
        simp only [VR, PR]
        exact ⟨_, _, (us.drop (o + l * k)).take ((h' - l) * k), rfl, h1.drop_take _ _, by omega, .inr ⟨_, rfl, at_sub hat _ _⟩⟩
    · simp [lenA] at hn
    · rename_i h1 h2 h3
      cases x <;> simp only [lenA] at hn <;> try (cases hn; done)
      · rename_i px
        cases px <;> simp at hn <;> try (cases hn; done)
        exact absurd rfl (h2 _ _)
      · exact absurd rfl (h1 _ _)
theorem slc_string {t : TypeId} {x v : AV} {bs : List AV} {ux : Value} {lo hi : Option Value} (ht : P.underlying t = some .string)
    (h : runL call (.sslc lo.isSome hi.isSome) (x :: bs) = some v) (hx : VR g m St w x ux) (hv : VRs g m St w bs (lo.toList ++ hi.toList)) : ∃ u, (Instr.sliceAt t ux lo hi none).run P w = .ok u w ∧ VR g m St w v u := by
  cases x <;> simp only [runL] at h <;> try (cases h; done)
  rename_i px
  cases px <;> (try simp only at h) <;> try (cases h; done)
  rename_i s
  simp only [VR, PR] at hx
  subst hx
  split at h <;> try (cases h; done)
  rename_i l h' hb
  simp at h; subst h
  obtain ⟨b1, b2, b3⟩ := bnds_sound (P := P) (isS := false) hb (Nat.le_refl _) hv
  refine ⟨.string (s.extract l h'), ?_, by simp [VR, PR]⟩
  simp [Instr.sliceAt, Instr.slice, run_underlying ht, b1]
theorem iadr_slice {t e : TypeId} {k : Nat} {x v : AV} {i : AV} {ux ui : Value} (ht : P.underlying t = some (.slice e)) (hk : szT P e = some k)
    (h : runL call (.iadr k none) [x, i] = some v) (hx : VR g m St w x ux) (hi : VR g m St w i ui) : ∃ u, (Instr.indexAt t ux ui).run P w = .ok u w ∧ VR g m St w v u := by
  cases i <;> simp only [runL] at h <;> try (cases h; done)
  rename_i pv
  cases pv <;> simp only at h <;> try (cases h; done)
  rename_i kk i
  have := hi.int; subst this
  split at h
  · rename_i h0
    split at h <;> rename_i heq <;> try (simp at heq; done)
    ·
      rename_i b o n sz'
      split at h
      · rename_i hc
        simp at h; subst h
        obtain ⟨h2, rfl⟩ := hc
        simp only [VR] at hx
        obtain ⟨hl, cap, rfl, _⟩ := hx
        refine ⟨.pointer (some ⟨g.ρ b, o + i.toNat * sz', none⟩), ?_, by simp only [VR]; exact ⟨hl, trivial⟩⟩
        simp [Instr.indexAt, asIntOf, run_underlying ht, h0, h2, run_size hk, addr_add]
      · cases h
    ·
      rename_i b n sz'
      split at h
      · rename_i hc
        simp at h; subst h
        obtain ⟨h2, rfl⟩ := hc
        simp only [VR] at hx
        obtain ⟨q, cap, rfl, hcap, wr, n', s, cs, hm, hn, hq⟩ := hx
        refine ⟨.pointer (some ⟨q, i.toNat * sz', none⟩), ?_, by simp only [VR]; exact ⟨q, rfl, wr, n', s, cs, hm, hn, fun e => (hq e).1⟩⟩
        simp [Instr.indexAt, asIntOf, run_underlying ht, h0, h2, run_size hk, addr_add]
      · cases h
    · split at h
      · rename_i n cs hl
        split at h
        · rename_i hin
          simp at h; subst h
          obtain ⟨a, cap, us, rfl, h1, _, h3⟩ := asList_spec hl hx
          rcases h3 with ⟨rfl, _⟩ | ⟨ad, rfl, hat⟩
          · omega
          · refine ⟨.pointer (some (ad.add (i.toNat * k))), ?_, by simp only [VR, PR]; exact ⟨ad, us, rfl, h1, hat⟩⟩
            simp [Instr.indexAt, asIntOf, run_underlying ht, h0, hin, run_size hk]
        · cases h
      · cases h
    · cases h
  · cases h
end Gv
