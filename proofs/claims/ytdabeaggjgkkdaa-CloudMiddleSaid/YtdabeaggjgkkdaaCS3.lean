/- CloudMiddle: whatever the numbers, the law answers true. -/
import Derived.Test.YtdabeaggjgkkdaaCS1
import Derived.Test.YtdabeaggjgkkdaaCS2
import Derived.Test.YtdabeaggjgkkdaaCP2
import Derived.Test.YtdabeaggjgkkdaaA0
namespace Gv
open Go
set_option maxRecDepth 100000

theorem intsOf_enc : ∀ l : List Int, intsOf (encI l) = some l
  | [] => rfl
  | x :: l => by
    show (intsOf (encI l)).map (x :: ·) = _
    rw [intsOf_enc l]
    rfl
theorem findE_all {β : Type} {f : β → Int} : ∀ {l : List β} {i : Nat}, (∀ z ∈ l, f z = 0) → findE f l i = none
  | [], _, _ => rfl
  | z :: l, i, h => by
    unfold findE
    rw [if_neg (by rw [h z (List.mem_cons_self)]; simp)]
    exact findE_all fun y hy => h y (List.mem_cons_of_mem _ hy)
theorem hE_of {l : List Int} (h1 : 1 ≤ l.length) (h2 : l.length ≤ 15) (h3 : ∀ x ∈ l, 0 ≤ x ∧ x ≤ 20000) : hE l = 0 := by
  unfold hE listIE
  rw [if_neg (by omega), if_neg (by omega), findE_all fun x hx => rangeE_in (h3 x hx)]
  rfl
theorem hE_perm {l m : List Int} (h : l.Perm m) (hl : hE l = 0) : hE m = 0 := by
  have hb := listIE_ok hl
  refine hE_of (by rw [← h.length_eq]; exact hb.1) (by rw [← h.length_eq]; omega) fun x hx => hb.2.2 x (h.mem_iff.2 hx)

theorem mid_is {l : List Int} (h1 : 1 ≤ l.length) (h2 : l.length ≤ 1000) : Fn env 82 (RSh.one (CK.int IntKind.i64)) [.list l.length (encI l)] = some (midL l) := by
  have hg : midG [.list l.length (encI l)] = some (.int .i64 (midL l)) := by
    unfold midG
    simp only [intsOf_enc]
    rw [if_pos ⟨trivial, h1, h2⟩]
    rfl
  have hr : run env 82 [.list l.length (encI l)] = some (.val (.int .i64 (midL l))) := by
    refine (run_iff env).2 ⟨2, ?_⟩
    have hf : env 82 = some (primA 1 midG) := rfl
    have e : exN (callN env 1) 1 (primA 1 midG).body (start (primA 1 midG) [.list l.length (encI l)]) = some (.normal, ⟨[.p (.list l.length (encI l)), .p (.int .i64 (midL l))], [Blk.none, Blk.none]⟩) := by
      show exN (callN env 1) 1 (.ops [{ dst := some 1, grd := none, args := [.tmp 0], k := .l (.prim midG) }]) ⟨[.p (.list l.length (encI l)), .undef], [Blk.none, Blk.none]⟩ = _
      simp only [exN, exOps, exOp, grd]
      have hk : runK (callN env 1) (.l (.prim midG)) [.p (.list l.length (encI l))] [Blk.none, Blk.none] = some (.p (.int .i64 (midL l)), [Blk.none, Blk.none]) := by
        simp only [runK, runL, pureAs, pureA, hg, Option.map_some]
      have ha : ([Arg.tmp 0].map (Arg.get [AV.p (.list l.length (encI l)), .undef])) = [.p (.list l.length (encI l))] := rfl
      simp only [ha, hk]
      rfl
    simp only [callN, hf]
    rw [if_pos ⟨rfl, rfl⟩, e]
    rfl
  unfold Fn
  rw [hr]
  rfl

theorem middleOf_is (l : List Int) (hl : l.length < 4294967296) : Fcloud_MiddleOf [.list l.length (encI l)] = some (if hE l = 0 then (midL l, 0) else (0, hE l)) := by
  refine Fcloud_MiddleOf_of _ _ ?_
  unfold tcloud_MiddleOf
  have hf := filled_is 15 0 20000 l hl
  simp only [hf, bindO_val, bif_ne]
  have he : (listIE 15 0 20000 l).2 = hE l := rfl
  rw [he]
  by_cases h0 : hE l = 0
  · have hb := listIE_ok (he.trans h0)
    rw [if_pos h0, if_pos h0]
    have := mid_is hb.1 (by omega)
    simp only [this, bindO_val]
  · rw [if_neg h0, if_neg h0]

def loF (a : Int) (l : List Int) : Int := l.foldl (fun m x => if x < m then x else m) a
def hiF (a : Int) (l : List Int) : Int := l.foldl (fun m x => if x > m then x else m) a
theorem loF_le : ∀ (l : List Int) (a : Int), loF a l ≤ a ∧ ∀ x ∈ l, loF a l ≤ x
  | [], a => ⟨Int.le_refl _, fun x hx => by cases hx⟩
  | y :: l, a => by
    have ih := loF_le l (if y < a then y else a)
    show loF (if y < a then y else a) l ≤ a ∧ ∀ x ∈ y :: l, loF (if y < a then y else a) l ≤ x
    have h1 : (if y < a then y else a) ≤ a ∧ (if y < a then y else a) ≤ y := by split <;> omega
    refine ⟨by omega, fun x hx => ?_⟩
    rcases List.mem_cons.1 hx with rfl | hx
    · omega
    · exact ih.2 x hx
theorem hiF_ge : ∀ (l : List Int) (a : Int), a ≤ hiF a l ∧ ∀ x ∈ l, x ≤ hiF a l
  | [], a => ⟨Int.le_refl _, fun x hx => by cases hx⟩
  | y :: l, a => by
    have ih := hiF_ge l (if y > a then y else a)
    show a ≤ hiF (if y > a then y else a) l ∧ ∀ x ∈ y :: l, x ≤ hiF (if y > a then y else a) l
    have h1 : a ≤ (if y > a then y else a) ∧ y ≤ (if y > a then y else a) := by split <;> omega
    refine ⟨by omega, fun x hx => ?_⟩
    rcases List.mem_cons.1 hx with rfl | hx
    · omega
    · exact ih.2 x hx

theorem bounds_loop (s : List Int) (hs : s.length < 4294967296) (n2 : Nat) (c3 : List PV) (n4 : Nat) (c5 : List PV) (n9 : Nat) : ∀ i, i ≤ s.length → ∀ a b : Int,
    Rglidepathlaw08_CloudMiddle_0 (Tglidepathlaw08_CloudMiddle_0a s.length (encI s) n2 c3 n4 c5 a b i n9) = exO (Xglidepathlaw08_CloudMiddle_0a (s.length, encI s, n2, c3, n4, c5, loF a (s.drop i), hiF b (s.drop i), n9)) := by
  refine up_ind (P := fun i => ∀ a b : Int, Rglidepathlaw08_CloudMiddle_0 (Tglidepathlaw08_CloudMiddle_0a s.length (encI s) n2 c3 n4 c5 a b i n9) = exO (Xglidepathlaw08_CloudMiddle_0a (s.length, encI s, n2, c3, n4, c5, loF a (s.drop i), hiF b (s.drop i), n9))) _ ?_ ?_
  · intro a b
    refine Rglidepathlaw08_CloudMiddle_0a_of _ _ _ _ _ _ _ _ _ _ ?_
    unfold Bglidepathlaw08_CloudMiddle_0a
    rw [bif_neg (by omega), List.drop_length]
    rfl
  · intro i hi ih a b
    refine Rglidepathlaw08_CloudMiddle_0a_of _ _ _ _ _ _ _ _ _ _ ?_
    unfold Bglidepathlaw08_CloudMiddle_0a
    obtain ⟨x, hx, hd⟩ := get_drop hi
    rw [bif_pos (by omega), bif_pos (by omega)]
    simp only [Int.toNat_natCast, Nat.mul_one, encI_get, hx, Option.map_some, intC_int, bindO_val]
    rw [bif_pos (by omega), w64_in (by omega), hd]
    exact ih (if x < a then x else a) (if x > b then x else b)
theorem bounds_is {s : List Int} {x : Int} {r : List Int} (hx : s = x :: r) (hs : s.length < 4294967296) (n2 : Nat) (c3 : List PV) (n4 : Nat) (c5 : List PV) (n9 : Nat) :
    Lglidepathlaw08_CloudMiddle_0 (Tglidepathlaw08_CloudMiddle_0a s.length (encI s) n2 c3 n4 c5 x x (1 : Int) n9) = some (s.length, encI s, n2, c3, n4, c5, loF x r, hiF x r, n9) := by
  have h := bounds_loop s hs n2 c3 n4 c5 n9 1 (by rw [hx]; simp) x x
  have hd : s.drop 1 = r := by rw [hx]; rfl
  rw [hd] at h
  exact Lglidepathlaw08_CloudMiddle_0a_of h

theorem bail_is {s o : List Int} (h : s.length = 0 ∨ 7 < s.length ∨ s.length ≤ o.length ∨ (s.length + o.length) % 2 = 0) :
    Lglidepathlaw08_CloudMiddle_1000036 (Tglidepathlaw08_CloudMiddle_1000036a s.length (encI s) o.length (encI o)) = some (.inl ()) := by
  refine Lglidepathlaw08_CloudMiddle_1000036a_of (Rglidepathlaw08_CloudMiddle_1000036a_of _ _ _ _ ?_)
  unfold Bglidepathlaw08_CloudMiddle_1000036a
  simp only [bif_eq, bif_dec]
  by_cases h1 : s.length = 0
  · rw [if_pos (by omega)]
    rfl
  · rw [if_neg (by omega)]
    by_cases h2 : 7 < s.length
    · rw [if_pos (by omega)]
      rfl
    · rw [if_neg (by omega)]
      by_cases h3 : s.length ≤ o.length
      · rw [if_pos (by omega)]
        rfl
      · rw [if_neg (by omega), w64_in (by omega), Int.tmod_eq_emod_of_nonneg (by omega), if_pos (by omega)]
        rfl
theorem stay_is {s o : List Int} (h : ¬ (s.length = 0 ∨ 7 < s.length ∨ s.length ≤ o.length ∨ (s.length + o.length) % 2 = 0)) :
    Lglidepathlaw08_CloudMiddle_1000036 (Tglidepathlaw08_CloudMiddle_1000036a s.length (encI s) o.length (encI o)) = some (.inr (s.length, encI s, o.length, encI o)) := by
  refine Lglidepathlaw08_CloudMiddle_1000036b_of (Rglidepathlaw08_CloudMiddle_1000036a_of _ _ _ _ ?_)
  unfold Bglidepathlaw08_CloudMiddle_1000036a
  simp only [bif_eq, bif_dec]
  rw [if_neg (by omega), if_neg (by omega), if_neg (by omega), w64_in (by omega), Int.tmod_eq_emod_of_nonneg (by omega), if_neg (by omega)]
  rfl

theorem middleLaw (s o : List Int) : Fglidepathlaw08_CloudMiddle [.list s.length (encI s), .list o.length (encI o)] = some true := by
  refine Fglidepathlaw08_CloudMiddle_of _ _ _ _ ?_
  unfold tglidepathlaw08_CloudMiddle
  simp only [awake_is, bindO_val, cond_true]
  by_cases hb : s.length = 0 ∨ 7 < s.length ∨ s.length ≤ o.length ∨ (s.length + o.length) % 2 = 0
  · rw [bail_is hb]
    rfl
  · rw [stay_is hb]
    simp only [bindO_val, Sum.elim_inr]
    obtain ⟨x, r, hx⟩ : ∃ x r, s = x :: r := by
      cases s with
      | nil => exact absurd (.inl rfl) hb
      | cons x r => exact ⟨x, r, rfl⟩
    have hx0 : (encI s)[0]? = some (.int .i64 x) := by rw [hx]; rfl
    have hls : s.length ≤ 7 := by omega
    have hlo : o.length < s.length := by omega
    have hs0 : ¬ s.length = 0 := by omega
    have hbnd := fun n4 c5 n9 => bounds_is hx (by omega) o.length (encI o) n4 c5 n9
    have hall := heights_is (o ++ s) (by rw [List.length_append]; omega)
    have hm := middleOf_is (o ++ s) (by rw [List.length_append]; omega)
    have hn := middleOf_is (s ++ o) (by rw [List.length_append]; omega)
    rw [List.length_append] at hall hm hn
    have b1 : (s.length ≤ big) = True := eq_true (by unfold big; omega)
    have b2 : (o.length ≤ big) = True := eq_true (by unfold big; omega)
    have b3 : (o.length + s.length ≤ big) = True := eq_true (by unfold big; omega)
    have b4 : (s.length + o.length ≤ big) = True := eq_true (by unfold big; omega)
    have p1 : ((0 : Int) < (s.length : Int)) = True := eq_true (by omega)
    have p2 : ((0 : Int) ≤ (0 : Int)) = True := eq_true (by omega)
    have z1 : (s.length = 0) = False := eq_false hs0
    have z3 : (o.length + s.length = 0) = False := eq_false (by omega)
    have z4 : (s.length + o.length = 0) = False := eq_false (by omega)
    have hlohi : ∀ y ∈ s, loF x r ≤ y ∧ y ≤ hiF x r := fun y hy => by
      rw [hx] at hy
      have a := loF_le r x
      have b := hiF_ge r x
      rcases List.mem_cons.1 hy with rfl | hy
      · exact ⟨a.1, b.1⟩
      · exact ⟨a.2 y hy, b.2 y hy⟩
    have hmid := mid_between hlohi hlo (by omega)
    have hperm : midL (s ++ o) = midL (o ++ s) := midL_congr List.perm_append_comm
    have hE2 : hE (o ++ s) = 0 → hE (s ++ o) = 0 := fun h => hE_perm List.perm_append_comm h
    have ea : encI o ++ encI s = encI (o ++ s) := by simp [encI]
    have eb : encI s ++ encI o = encI (s ++ o) := by simp [encI]
    have q1 : (decide (loF x r ≤ midL (o ++ s) ∧ midL (o ++ s) ≤ hiF x r)) = true := decide_eq_true hmid
    by_cases h0 : hE (o ++ s) = 0
    · have h0' := hE2 h0
      rw [if_pos h0] at hm
      rw [if_pos h0', hperm] at hn
      rw [h0] at hall
      have hw := within_is (midL (o ++ s)) (loF x r) (hiF x r)
      rw [q1] at hw
      by_cases ho : o.length = 0
      · have ho' : o = [] := List.length_eq_zero_iff.1 ho
        subst ho'
        simp only [List.nil_append, List.append_nil, List.length_nil, Nat.zero_add, Nat.add_zero] at hall hm hn hw
        simp only [List.length_nil, encI_nil] at hbnd
        simp only [List.length_nil, encI_nil, Nat.zero_add, List.nil_append, encI_len, Nat.mul_one, decide_true, cond_true, z1, b1, p1, p2, decide_false, cond_false, hall, bindO_val, and_self, hx0, intC_int, hbnd, bne_self_eq_false, hm, hn, hw, beq_self_eq_true]
      · have z2 : (o.length = 0) = False := eq_false ho
        simp only [Nat.zero_add, List.nil_append, encI_len, Nat.mul_one, decide_true, cond_true, z1, z2, b1, b2, b3, b4, p1, p2, decide_false, cond_false, hall, bindO_val, and_self, hx0, intC_int, hbnd, ea, eb, List.length_append, z3, z4, bne_self_eq_false, hm, hn, hw, beq_self_eq_true]
    · have h0b : (hE (o ++ s) != 0) = true := by simp [h0]
      by_cases ho : o.length = 0
      · have ho' : o = [] := List.length_eq_zero_iff.1 ho
        subst ho'
        simp only [List.nil_append, List.append_nil, List.length_nil, Nat.zero_add, Nat.add_zero] at hall h0b
        simp only [List.length_nil, encI_nil, Nat.zero_add, List.nil_append, encI_len, Nat.mul_one, decide_true, cond_true, z1, b1, p1, p2, decide_false, cond_false, hall, bindO_val, and_self, h0b]
      · have z2 : (o.length = 0) = False := eq_false ho
        simp only [Nat.zero_add, List.nil_append, encI_len, Nat.mul_one, decide_true, cond_true, z1, z2, b1, b2, b3, b4, p1, p2, decide_false, cond_false, hall, bindO_val, and_self, ea, eb, List.length_append, z3, z4, h0b]
end Gv
