/- Exposures: what the program gives, and the reference's loop over turns. -/
import Derived.Test.YtkbahledgljaoaaCE4
import Derived.Test.YtkbahledgljaoaaCD5
namespace Gv
open Go
set_option maxRecDepth 100000

theorem wrap_in {n : Int} (h : -9223372036854775808 ≤ n ∧ n ≤ 9223372036854775807) : RowKit.wrap64 n = n := by unfold RowKit.wrap64; omega
theorem trnF_eq {z : Sht} (h : OkS z) {w : Int} (hw : 1 ≤ w ∧ w ≤ 1000000) : trnF w z = ptF w z := by
  have a := h.a
  have b := h.b
  have c := h.c
  unfold trnF ptF
  rw [wrap_in (n := z.1 + w) (by omega), wrap_in (n := z.2.1 + w) (by omega)]
theorem trnL_eq {w : Int} (hw : 1 ≤ w ∧ w ≤ 1000000) : ∀ {l : List Sht}, Oks l → trnL w l = ptL w l
  | [], _ => rfl
  | z :: l, h => by
    have e := trnL_eq hw h.tail
    unfold trnL ptL at e
    unfold trnL ptL
    rw [List.flatMap_cons, List.flatMap_cons, trnF_eq h.head hw, e]
theorem ptL_len (w : Int) : ∀ l : List Sht, (ptL w l).length = 4 * l.length
  | [] => rfl
  | z :: l => by
    show (ptF w z ++ ptL w l).length = _
    rw [List.length_append, ptL_len w l, List.length_cons]
    show 4 + _ = _
    omega
theorem ptL_bd {l : List Sht} (h : Oks l) {w : Int} (hw : 1 ≤ w ∧ w ≤ 1000000) : ∀ p ∈ ptL w l, 0 ≤ p ∧ p ≤ 2000000 := by
  intro p hp
  obtain ⟨z, hz, hp⟩ := List.mem_flatMap.1 hp
  have := (h z hz).a
  have := (h z hz).b
  have := (h z hz).c
  simp only [ptF, List.mem_cons, List.not_mem_nil, or_false] at hp
  omega

theorem turns_is {l : List Sht} (hl : l.length ≤ 1000) (w : Int) : Fn env 85 (RSh.one CK.list) [.list l.length (encL3 l), .int .i64 w] = some (4 * l.length, encI (isort (trnL w l))) := by
  have hg : turnsG [.list l.length (encL3 l), .int .i64 w] = some (.list (4 * l.length) (encI (isort (trnL w l)))) := by
    unfold turnsG
    simp only [shtsOf_enc]
    rw [if_pos ⟨trivial, hl⟩]
    rfl
  have hr : run env 85 [.list l.length (encL3 l), .int .i64 w] = some (.val (.list (4 * l.length) (encI (isort (trnL w l))))) := by
    refine (run_iff env).2 ⟨2, ?_⟩
    have hf : env 85 = some (primA 2 turnsG) := rfl
    have e : exN (callN env 1) 1 (primA 2 turnsG).body (start (primA 2 turnsG) [.list l.length (encL3 l), .int .i64 w]) = some (.normal, ⟨[.p (.list l.length (encL3 l)), .p (.int .i64 w), .p (.list (4 * l.length) (encI (isort (trnL w l))))], [Blk.none, Blk.none, Blk.none]⟩) := by
      show exN (callN env 1) 1 (.ops [{ dst := some 2, grd := none, args := [.tmp 0, .tmp 1], k := .l (.prim turnsG) }]) ⟨[.p (.list l.length (encL3 l)), .p (.int .i64 w), .undef], [Blk.none, Blk.none, Blk.none]⟩ = _
      simp only [exN, exOps, exOp, grd]
      have hk : runK (callN env 1) (.l (.prim turnsG)) [.p (.list l.length (encL3 l)), .p (.int .i64 w)] [Blk.none, Blk.none, Blk.none] = some (.p (.list (4 * l.length) (encI (isort (trnL w l)))), [Blk.none, Blk.none, Blk.none]) := by
        simp only [runK, runL, pureAs, pureA, hg, Option.map_some]
      have ha : ([Arg.tmp 0, Arg.tmp 1].map (Arg.get [AV.p (.list l.length (encL3 l)), .p (.int .i64 w), .undef])) = [.p (.list l.length (encL3 l)), .p (.int .i64 w)] := rfl
      simp only [ha, hk]
      rfl
    simp only [callN, hf]
    rw [if_pos ⟨rfl, rfl⟩, e]
    rfl
  unfold Fn
  rw [hr]
  rfl

theorem expo_loop {l : List Sht} (ho : Oks l) (hl : l.length ≤ 1000) {w : Int} (hw : 1 ≤ w ∧ w ≤ 1000000) {ts : List Int} (hn : ts.length ≤ 100000) (ht : ∀ t ∈ ts, -10000000 ≤ t ∧ t ≤ 10000000) : ∀ i, i ≤ ts.length → ∀ m : Int,
    Rcloud_ExposureOf_0 (Tcloud_ExposureOf_0a l.length (encL3 l) w m ts.length (encI ts) ts.length i) = exO (Xcloud_ExposureOf_0a (mostF (enr l w) (ts.drop i) m)) := by
  refine up_ind (P := fun i => ∀ m : Int, Rcloud_ExposureOf_0 (Tcloud_ExposureOf_0a l.length (encL3 l) w m ts.length (encI ts) ts.length i) = exO (Xcloud_ExposureOf_0a (mostF (enr l w) (ts.drop i) m))) _ ?_ ?_
  · intro m
    refine Rcloud_ExposureOf_0a_of _ _ _ _ _ _ _ _ ?_
    unfold Bcloud_ExposureOf_0a
    rw [bif_neg (by omega), List.drop_length]
    rfl
  · intro i hi ih m
    obtain ⟨t, htk, hd⟩ := get_drop hi
    have hb := ht t (List.mem_of_getElem? htk)
    have he := energy_is ho hl hw hb
    refine Rcloud_ExposureOf_0a_of _ _ _ _ _ _ _ _ ?_
    unfold Bcloud_ExposureOf_0a
    rw [bif_pos (by omega), bif_pos (by omega)]
    have wk : w64 ((i : Int) + 1) = ((i + 1 : Nat) : Int) := by rw [w64_in (by omega)]; omega
    simp only [Int.toNat_natCast, Nat.mul_one, encI_get, htk, Option.map_some, intC_int, bindO_val, he, mx, wk]
    rw [hd]
    exact ih _
theorem first2_is (a b : Int) : Fn env 54 (RSh.one (CK.int IntKind.i64)) [.list 2 [.int .i64 a, .int .i64 b]] = some (both a b) := by
  have h := Fcloud_firstError_2_of a b (res := both a b) (by
    unfold tcloud_firstError_2 both
    simp only [bif_ne]
    by_cases h1 : a = 0 <;> by_cases h2 : b = 0 <;> simp [h1, h2])
  exact h
def expR (l : List Sht) (w : Int) : Int × Int := if both (chkS l).2 (rangeE w 1 1000000) = 0 then (mostF (enr l w) (isort (ptL w l)) 0, 0) else (0, both (chkS l).2 (rangeE w 1 1000000))
theorem exposure_is (l : List Sht) (hl : l.length ≤ 1000) (w : Int) : Fcloud_ExposureOf [.list l.length (encL3 l), .int .i64 w] = some (expR l w) := by
  refine Fcloud_ExposureOf_of _ _ _ ?_
  unfold tcloud_ExposureOf expR
  simp only [shotsError_is l (by omega), windowError_is, first2_is, bindO_val, bif_ne]
  by_cases h : both (chkS l).2 (rangeE w 1 1000000) = 0
  · rw [if_pos h, if_pos h]
    obtain ⟨h1, h2⟩ := both_nil h
    obtain ⟨h20, ho⟩ := chkS_ok h1
    have hw := rangeE_ok h2
    have hlen : (isort (ptL w l)).length = 4 * l.length := by rw [isort_len, ptL_len]
    have hts : ∀ t ∈ isort (ptL w l), -10000000 ≤ t ∧ t ≤ 10000000 := fun t ht => by
      have := ptL_bd ho hw t ((isort_perm _).mem_iff.1 ht)
      omega
    have hq := expo_loop ho hl hw (by omega) hts 0 (by omega) 0
    rw [List.drop_zero] at hq
    have hL := Lcloud_ExposureOf_0a_of hq
    have hL : Lcloud_ExposureOf_0 (Tcloud_ExposureOf_0a l.length (encL3 l) w 0 (isort (ptL w l)).length (encI (isort (ptL w l))) (isort (ptL w l)).length 0) = _ := hL
    rw [hlen] at hL
    simp only [turns_is hl, trnL_eq hw ho, bindO_val, hL]
  · rw [if_neg h, if_neg h]

theorem refExpo_loop {l : List Sht} (ho : Oks l) (hl : l.length ≤ 1000) {w : Int} (hw : 1 ≤ w ∧ w ≤ 1000000) {ts : List Int} (hn : ts.length ≤ 100000) (ht : ∀ t ∈ ts, -10000000 ≤ t ∧ t < 10000000) : ∀ i, i ≤ ts.length → ∀ m : Int,
    RrX_0 (TrX_0a l.length (encL3 l) w m ts.length (encI ts) i) = exO (XrX_0a (mostF (fun t => enr l w (t + 1)) (ts.drop i) m)) := by
  refine up_ind (P := fun i => ∀ m : Int, RrX_0 (TrX_0a l.length (encL3 l) w m ts.length (encI ts) i) = exO (XrX_0a (mostF (fun t => enr l w (t + 1)) (ts.drop i) m))) _ ?_ ?_
  · intro m
    refine RrX_0a_of _ _ _ _ _ _ _ ?_
    unfold BrX_0a
    rw [bif_neg (by omega), List.drop_length]
    rfl
  · intro i hi ih m
    obtain ⟨t, htk, hd⟩ := get_drop hi
    have hb := ht t (List.mem_of_getElem? htk)
    have he := refEnergy_is ho hl hw hb
    refine RrX_0a_of _ _ _ _ _ _ _ ?_
    unfold BrX_0a
    rw [bif_pos (by omega), bif_pos (by omega)]
    have wk : w64 ((i : Int) + 1) = ((i + 1 : Nat) : Int) := by rw [w64_in (by omega)]; omega
    simp only [Int.toNat_natCast, Nat.mul_one, encI_get, htk, Option.map_some, intC_int, bindO_val, he, mx, wk]
    rw [hd]
    exact ih _

/-! Where it is not safe, by the program. -/
theorem enS_is {z : Sht} (h : OkS z) {w e c : Int} (hw : 1 ≤ w ∧ w ≤ 1000000) (he : -10000000 ≤ e ∧ e ≤ 10000000) (hc : 0 ≤ c ∧ c ≤ 1000000000000000) : enS e w c z = c + z.2.2 * ovl z w e := by
  have a := h.a
  have b := h.b
  have d := h.c
  have hb := pw_bd h w e
  unfold enS
  rw [wrap_in (n := e - w) (by omega), wrap_in (n := min z.2.1 e - max z.1 (e - w)) (by omega)]
  show RowKit.wrap64 (c + RowKit.wrap64 (z.2.2 * ovl z w e)) = _
  rw [wrap_in (n := z.2.2 * ovl z w e) (by omega), wrap_in (by omega)]
theorem enB_from {w e : Int} (hw : 1 ≤ w ∧ w ≤ 1000000) (he : -10000000 ≤ e ∧ e ≤ 10000000) : ∀ {l : List Sht} (_ : Oks l) (c : Int), 0 ≤ c → c + 10000000000 * (l.length : Int) ≤ 1000000000000000 → l.foldl (enS e w) c = c + enr l w e
  | [], _, c, _, _ => (Int.add_zero c).symm
  | z :: l, h, c, h0, h1 => by
    have hb := pw_bd h.head w e
    rw [List.length_cons] at h1
    rw [List.foldl_cons, enS_is h.head hw he ⟨h0, by omega⟩, enB_from hw he h.tail _ (by omega) (by omega)]
    show c + z.2.2 * ovl z w e + enr l w e = c + (z.2.2 * ovl z w e + enr l w e)
    omega
theorem unB_is {l : List Sht} (ho : Oks l) (hl : l.length ≤ 1000) {w e : Int} (hw : 1 ≤ w ∧ w ≤ 1000000) (he : -10000000 ≤ e ∧ e ≤ 10000000) (en : Int) : unB l w en e = decide (enr l w e > en) := by
  have h := enB_from hw he ho 0 (by omega) (by omega)
  unfold unB enB
  rw [h, Int.zero_add]
end Gv
