/- Shares, constants, and the reference's: what the functions give. -/
import Derived.Test.YtkbahledgljaoaaGreatZP1
namespace Gv
open Go
set_option maxRecDepth 100000

/-- The share of a gate. -/
def shr (l : List Int) (c : Int) (i : Nat) : ZZ := lowF (l.getD i 0) (restL l c i)
def fillG (f : Nat → ZZ) (n k : Nat) : List ZZ := (List.range k).map f ++ List.replicate (n - k) (0, 0)
theorem fillG_len (f : Nat → ZZ) {n k : Nat} (h : k ≤ n) : (fillG f n k).length = n := by simp [fillG]; omega
theorem over_G (pre r : List ZZ) (a b : ZZ) : over (encG (pre ++ a :: r)) (0 + pre.length * 2) [.int .i64 b.1, .int .i64 b.2] = encG (pre ++ b :: r) := by
  unfold over
  have e : encG (pre ++ a :: r) = encG pre ++ (enc2 a ++ encG r) := by simp [encG]
  rw [e, Nat.zero_add, List.take_left' (by simp)]
  have : (encG pre ++ (enc2 a ++ encG r)).drop (pre.length * 2 + 2) = encG r := by
    rw [← List.append_assoc]
    exact List.drop_left' (by simp [enc2])
  show encG pre ++ ([.int .i64 b.1, .int .i64 b.2] ++ (encG pre ++ (enc2 a ++ encG r)).drop (pre.length * 2 + 2)) = _
  rw [this]
  simp [encG, enc2]
theorem overO_fillG (f : Nat → ZZ) {n k : Nat} (h : k < n) : overO (encG (fillG f n k)) (0 + k * 2) [.int .i64 (f k).1, .int .i64 (f k).2] = some (encG (fillG f n (k + 1))) := by
  have hl : 0 + k * 2 + [PV.int .i64 (f k).1, PV.int .i64 (f k).2].length ≤ (encG (fillG f n k)).length := by
    rw [encG_len, fillG_len f (by omega)]
    simp only [List.length_cons, List.length_nil]
    omega
  rw [overO_of hl]
  congr 1
  unfold fillG
  rw [show n - k = (n - (k + 1)) + 1 by omega, List.replicate_succ]
  have := over_G ((List.range k).map f) (List.replicate (n - (k + 1)) (0, 0)) (0, 0) (f k)
  rw [List.length_map, List.length_range] at this
  rw [this, List.range_succ, List.map_append, List.append_assoc]
  rfl
theorem rep_G : ∀ (n : Nat), rep [PV.int .i64 0, PV.int .i64 0] n = encG (List.replicate n (0, 0))
  | 0 => rfl
  | n + 1 => by simp only [rep, rep_G n, List.replicate_succ]; rfl
def shrL (l : List Int) (c : Int) : List ZZ := (List.range l.length).map (shr l c)
theorem shrL_len (l : List Int) (c : Int) : (shrL l c).length = l.length := by simp [shrL]

theorem share_is {l : List Int} (hl : l.length ≤ 1000) (hv : okP l) {c : Int} (hc : -100000000 ≤ c ∧ c ≤ 100000000) (h : brkE l c = 0) {i : Nat} {x : Int} (hx : l[i]? = some x) :
    Fcloud_lowest [.int .i64 x, .int .i64 (restL l c i)] = some (shr l c i) ∧ Fglidepathbase_Lowest [.int .i64 x, .int .i64 (restL l c i)] = some (shr l c i) := by
  have hi : i < l.length := (List.getElem?_eq_some_iff.1 hx).1
  have hp := rest_pos hv h hi
  have hb := restL_bd hl hv hc i
  have hxv := hv x (List.mem_of_getElem? hx)
  have e : shr l c i = lowF x (restL l c i) := by
    unfold shr
    rw [List.getD_eq_getElem?_getD, hx]
    rfl
  rw [e]
  exact ⟨lowest_is (by unfold Bd; omega) (by unfold Bd; omega) hp, refLowest_is (by unfold Bd; omega) (by unfold Bd; omega) hp⟩
theorem shares_loop (l : List Int) (hl : l.length ≤ 1000) (hv : okP l) (c : Int) (hc : -100000000 ≤ c ∧ c ≤ 100000000) (h : brkE l c = 0) : ∀ i, i ≤ l.length →
    R_glidepath_cloud_profile__shares_0 (T_glidepath_cloud_profile__shares_0a l.length (encI l) c l.length l.length (encI l) l.length i (encG (fillG (shr l c) l.length i))) = exO (X_glidepath_cloud_profile__shares_0a (l.length, encG (shrL l c))) := by
  refine up_ind _ ?_ ?_
  · refine R_glidepath_cloud_profile__shares_0a_of _ _ _ _ _ _ _ _ _ ?_
    unfold B_glidepath_cloud_profile__shares_0a
    rw [bif_neg (by omega)]
    have : fillG (shr l c) l.length l.length = shrL l c := by simp [fillG, shrL]
    rw [this]
    rfl
  · intro i hi ih
    obtain ⟨x, hx, hd⟩ := get_drop hi
    have wk : w64 ((i : Int) + 1) = ((i + 1 : Nat) : Int) := by rw [w64_in (by omega)]; omega
    have hr := rest_is hl hv hc (i := i) (by omega)
    have hs := (share_is hl hv hc h hx).1
    refine R_glidepath_cloud_profile__shares_0a_of _ _ _ _ _ _ _ _ _ ?_
    unfold B_glidepath_cloud_profile__shares_0a
    have hb1 : (decide (((0 : Int) ≤ (i : Int)) ∧ ((i : Int) < (l.length : Int)))) = true := decide_eq_true ⟨by omega, by omega⟩
    rw [bif_pos (by omega)]
    simp only [hb1, cond_true, Int.toNat_natCast, Nat.mul_one, encI_get, hx, Option.map_some, intC_int, bindO_val, hr, hs, wk]
    rw [overO_fillG (shr l c) hi]
    simp only [bindO_val]
    exact ih
theorem shares_is {l : List Int} (hl : l.length ≤ 1000) (hv : okP l) {c : Int} (hc : -100000000 ≤ c ∧ c ≤ 100000000) (h : brkE l c = 0) :
    F_glidepath_cloud_profile__shares [.list l.length (encI l), .int .i64 c] = some (l.length, encG (shrL l c)) := by
  refine F_glidepath_cloud_profile__shares_of _ _ _ ?_
  unfold t_glidepath_cloud_profile__shares
  have hq := shares_loop l hl hv c hc h 0 (by omega)
  have hz : fillG (shr l c) l.length 0 = List.replicate l.length (0, 0) := by simp [fillG]
  rw [hz, ← rep_G] at hq
  have hL := L_glidepath_cloud_profile__shares_0a_of hq
  have hL : L_glidepath_cloud_profile__shares_0 (T_glidepath_cloud_profile__shares_0a l.length (encI l) c l.length l.length (encI l) l.length 0 (rep [PV.int IntKind.i64 0, PV.int IntKind.i64 0] l.length)) = _ := hL
  rw [bif_pos (by unfold big; omega)]
  simp only [Int.toNat_natCast, hL, bindO_val]
  rw [bif_pos (by rw [encG_len, shrL_len]; omega)]
  rw [List.drop_zero, List.take_of_length_le (by rw [encG_len, shrL_len]; omega)]

def undE (l : List Int) (c : Int) : Int := if both (profE l) (rangeE c 1 1000000) ≠ 0 then both (profE l) (rangeE c 1 1000000) else brkE l c
def undR (l : List Int) (c : Int) : (Nat × List PV) × Int := if undE l c ≠ 0 then ((0, []), undE l c) else ((l.length, encG (shrL l c)), 0)
theorem undone_is (l : List Int) (hl : l.length < 4294967296) (c : Int) : Fcloud_Undone [.list l.length (encI l), .int .i64 c] = some (undR l c) := by
  refine Fcloud_Undone_of _ _ _ ?_
  unfold tcloud_Undone undR undE
  have h1 := profileError_is l hl
  simp only [h1, constantError_is, firstError2_is, bindO_val, bif_ne]
  by_cases h : both (profE l) (rangeE c 1 1000000) = 0
  · rw [if_pos h, if_neg (c := both (profE l) (rangeE c 1 1000000) ≠ 0) (by simp [h])]
    obtain ⟨ha, hb⟩ := both_nil h
    obtain ⟨b1, b2, b3⟩ := prof_ok ha
    have hc := rangeE_ok hb
    have hk := break_is b1 (by omega) b3 (c := c) (by omega)
    simp only [hk, bindO_val]
    by_cases h2 : brkE l c = 0
    · have hs := shares_is (by omega) b3 (c := c) (by omega) h2
      rw [if_pos h2, if_neg (c := brkE l c ≠ 0) (by simp [h2])]
      simp only [hs, bindO_val]
    · rw [if_neg h2, if_pos (c := brkE l c ≠ 0) h2]
  · rw [if_neg h, if_pos (c := both (profE l) (rangeE c 1 1000000) ≠ 0) h, if_pos (c := both (profE l) (rangeE c 1 1000000) ≠ 0) h]

/-! Constants of points -/
def ptE (z : ZZ) : Int := both (rangeE z.1 1 1000000) (rangeE z.2 0 1000000)
theorem point_is (n : Nat) (cs : List PV) (z : ZZ) : Fcloud_ConstantOf_1 [.list n cs, .agg [.int .i64 z.1, .int .i64 z.2]] = some (ptE z) := by
  refine Fcloud_ConstantOf_1_of _ _ _ _ ?_
  unfold tcloud_ConstantOf_1
  simp only [rangeError_is, firstError2_is, bindO_val]
  rfl
theorem gG0 {l : List ZZ} {i : Nat} {z : ZZ} (h : l[i]? = some z) : (encG l)[i * 2]? = some (.int .i64 z.1) := by rw [encG_0, h]; rfl
theorem gG1 {l : List ZZ} {i : Nat} {z : ZZ} (h : l[i]? = some z) : (encG l)[i * 2 + 1]? = some (.int .i64 z.2) := by rw [encG_1, h]; rfl
theorem points_loop (l : List ZZ) (hl : l.length < 4294967296) : ∀ i, i ≤ l.length →
    Rcloud_itemError_points_0 (Tcloud_itemError_points_0a l.length (encG l) l.length (encG l) l.length i) = exO (XLcloud_itemError_points_0.fn (sumE (findE ptE (l.drop i) i))) := by
  refine up_ind _ ?_ ?_
  · refine Rcloud_itemError_points_0a_of _ _ _ _ _ _ ?_
    unfold Bcloud_itemError_points_0a
    rw [bif_neg (by omega), List.drop_length]
    rfl
  · intro i hi ih
    refine Rcloud_itemError_points_0a_of _ _ _ _ _ _ ?_
    unfold Bcloud_itemError_points_0a
    obtain ⟨z, hz, hd⟩ := get_drop hi
    rw [bif_pos (by omega), bif_pos (by omega)]
    have wk : w64 ((i : Int) + 1) = ((i + 1 : Nat) : Int) := by rw [w64_in (by omega)]; omega
    simp only [Int.toNat_natCast, gG0 hz, gG1 hz, intC_int, bindO_val, point_is, wk]
    rw [bif_pos ⟨by omega, by show (i : Int) ≤ (l.length : Int); omega⟩, bif_pos (by right; rw [encG_len]; omega)]
    rw [hd, bif_ne]
    by_cases he : ptE z = 0
    · rw [if_pos he]
      simp only [findE, he, ne_eq, not_true_eq_false, if_false]
      exact ih
    · rw [if_neg he]
      simp only [findE, ne_eq, he, not_false_eq_true, if_true]
      rfl
def chkG (l : List ZZ) : Int × Int := if l.length = 0 then (0, 10) else if 12 < l.length then (0, 8) else (findE ptE l 0).getD (0, 0)
theorem filledG_is (l : List ZZ) (hl : l.length < 4294967296) : Fcloud_filledError_points [.list l.length (encG l), .int .i64 12, .fn 68 []] = some (chkG l) := by
  have h1 : Fcloud_itemError_points [.list l.length (encG l), .fn 68 []] = some ((findE ptE l 0).getD (0, 0)) := by
    refine Fcloud_itemError_points_of _ _ ?_
    unfold tcloud_itemError_points
    have := lpO_of Icloud_itemError_points_0 XIcloud_itemError_points_0 (points_loop l hl 0 (by omega))
    have this : Lcloud_itemError_points_0 (Tcloud_itemError_points_0a l.length (encG l) l.length (encG l) l.length 0) = _ := this
    rw [this]
    simp only [bindO_val, List.drop_zero]
    cases findE ptE l 0 <;> rfl
  have h2 : Fcloud_listError_points [.list l.length (encG l), .int .i64 12, .fn 68 []] = some (if 12 < l.length then (0, 8) else (findE ptE l 0).getD (0, 0)) := by
    refine Fcloud_listError_points_of _ _ _ ?_
    unfold tcloud_listError_points
    simp only [h1, bindO_val]
    by_cases h : 12 < l.length
    · rw [bif_pos (by omega), if_pos h]
    · rw [bif_neg (by omega), if_neg h]
  refine Fcloud_filledError_points_of _ _ _ ?_
  unfold tcloud_filledError_points chkG
  simp only [h2, bindO_val, bif_eq]
  by_cases h : l.length = 0
  · rw [if_pos (by omega), if_pos h]
  · rw [if_neg (by omega), if_neg h]
theorem chkG_ok {l : List ZZ} (h : (chkG l).2 = 0) : 1 ≤ l.length ∧ l.length ≤ 12 ∧ ∀ z ∈ l, (1 ≤ z.1 ∧ z.1 ≤ 1000000) ∧ 0 ≤ z.2 ∧ z.2 ≤ 1000000 := by
  unfold chkG at h
  by_cases h1 : l.length = 0
  · rw [if_pos h1] at h
    cases h
  · rw [if_neg h1] at h
    by_cases h2 : 12 < l.length
    · rw [if_pos h2] at h
      cases h
    · rw [if_neg h2] at h
      refine ⟨by omega, by omega, fun z hz => ?_⟩
      cases hf : findE ptE l 0 with
      | none =>
        obtain ⟨a, b⟩ := both_nil (findE_none hf z hz)
        exact ⟨rangeE_ok a, rangeE_ok b⟩
      | some p =>
        rw [hf] at h
        exact absurd h (findE_some hf).1

def conF (a : ZZ) (l : List ZZ) : ZZ := l.foldl (fun a z => (if z.1 - z.2 > a.1 then z.1 - z.2 else a.1, if z.1 + z.2 < a.2 then z.1 + z.2 else a.2)) a
theorem conF_cons (a z : ZZ) (l : List ZZ) : conF a (z :: l) = conF (if z.1 - z.2 > a.1 then z.1 - z.2 else a.1, if z.1 + z.2 < a.2 then z.1 + z.2 else a.2) l := rfl
theorem con_loop (l : List ZZ) (hl : l.length ≤ 1000) (hv : ∀ z ∈ l, (1 ≤ z.1 ∧ z.1 ≤ 1000000) ∧ 0 ≤ z.2 ∧ z.2 ≤ 1000000) : ∀ i, i ≤ l.length → ∀ a : ZZ,
    Rcloud_ConstantOf_0 (Tcloud_ConstantOf_0a l.length (encG l) l.length i a.1 a.2) = exO (Xcloud_ConstantOf_0a (conF a (l.drop i))) := by
  refine up_ind (P := fun i => ∀ a : ZZ, Rcloud_ConstantOf_0 (Tcloud_ConstantOf_0a l.length (encG l) l.length i a.1 a.2) = exO (Xcloud_ConstantOf_0a (conF a (l.drop i)))) _ ?_ ?_
  · intro a
    refine Rcloud_ConstantOf_0a_of _ _ _ _ _ _ ?_
    unfold Bcloud_ConstantOf_0a
    rw [bif_neg (by omega), List.drop_length]
    rfl
  · intro i hi ih a
    obtain ⟨z, hz, hd⟩ := get_drop hi
    have hzv := hv z (List.mem_of_getElem? hz)
    refine Rcloud_ConstantOf_0a_of _ _ _ _ _ _ ?_
    unfold Bcloud_ConstantOf_0a
    have wk : w64 ((i : Int) + 1) = ((i + 1 : Nat) : Int) := by rw [w64_in (by omega)]; omega
    have w1 : w64 (z.1 - z.2) = z.1 - z.2 := w64_in (by omega)
    have w2 : w64 (z.1 + z.2) = z.1 + z.2 := w64_in (by omega)
    rw [bif_pos (by omega), bif_pos (by omega)]
    simp only [Int.toNat_natCast, gG0 hz, gG1 hz, intC_int, bindO_val, wk, w1, w2]
    rw [hd, conF_cons]
    exact ih (if z.1 - z.2 > a.1 then z.1 - z.2 else a.1, if z.1 + z.2 < a.2 then z.1 + z.2 else a.2)
theorem rcon_loop (l : List ZZ) (hl : l.length ≤ 1000) (hv : ∀ z ∈ l, (1 ≤ z.1 ∧ z.1 ≤ 1000000) ∧ 0 ≤ z.2 ∧ z.2 ≤ 1000000) : ∀ i, i ≤ l.length → ∀ a : ZZ,
    Rglidepathref08_Constants_0 (Tglidepathref08_Constants_0a l.length (encG l) i a.1 a.2) = exO (Xglidepathref08_Constants_0a (conF a (l.drop i))) := by
  refine up_ind (P := fun i => ∀ a : ZZ, Rglidepathref08_Constants_0 (Tglidepathref08_Constants_0a l.length (encG l) i a.1 a.2) = exO (Xglidepathref08_Constants_0a (conF a (l.drop i)))) _ ?_ ?_
  · intro a
    refine Rglidepathref08_Constants_0a_of _ _ _ _ _ ?_
    unfold Bglidepathref08_Constants_0a
    rw [bif_neg (by omega), List.drop_length]
    rfl
  · intro i hi ih a
    obtain ⟨z, hz, hd⟩ := get_drop hi
    have hzv := hv z (List.mem_of_getElem? hz)
    refine Rglidepathref08_Constants_0a_of _ _ _ _ _ ?_
    unfold Bglidepathref08_Constants_0a
    have wk : w64 ((i : Int) + 1) = ((i + 1 : Nat) : Int) := by rw [w64_in (by omega)]; omega
    have w1 : w64 (z.1 - z.2) = z.1 - z.2 := w64_in (by omega)
    have w2 : w64 (z.1 + z.2) = z.1 + z.2 := w64_in (by omega)
    have hb1 : (decide (((0 : Int) ≤ (i : Int)) ∧ ((i : Int) < (l.length : Int)))) = true := decide_eq_true ⟨by omega, by omega⟩
    rw [bif_pos (by omega)]
    simp only [hb1, cond_true, Int.toNat_natCast, Nat.add_zero, gG0 hz, gG1 hz, intC_int, bindO_val, wk, w1, w2]
    rw [hd, conF_cons]
    exact ih (if z.1 - z.2 > a.1 then z.1 - z.2 else a.1, if z.1 + z.2 < a.2 then z.1 + z.2 else a.2)
def conV (l : List ZZ) : ZZ := match l with
  | [] => (0, 0)
  | z :: r => conF (z.1 - z.2, z.1 + z.2) r
def conR (l : List ZZ) : Int × Int × Int := if (chkG l).2 ≠ 0 then (0, 0, (chkG l).2) else if (conV l).1 > (conV l).2 then (0, 0, 12) else ((conV l).1, (conV l).2, 0)
theorem constantOf_is (l : List ZZ) (hl : l.length < 4294967296) : Fcloud_ConstantOf [.list l.length (encG l)] = some (conR l) := by
  refine Fcloud_ConstantOf_of _ _ ?_
  unfold tcloud_ConstantOf conR
  have h1 := filledG_is l hl
  simp only [h1, bindO_val, bif_ne]
  by_cases h : (chkG l).2 = 0
  · rw [if_pos h, if_neg (c := (chkG l).2 ≠ 0) (by simp [h])]
    obtain ⟨h2, h3, hv⟩ := chkG_ok h
    obtain ⟨z, r, hzr⟩ : ∃ z r, l = z :: r := by
      cases l with
      | nil => simp at h2
      | cons z r => exact ⟨z, r, rfl⟩
    have hzv := hv z (by rw [hzr]; exact List.mem_cons_self)
    have g0 : (encG l)[0]? = some (.int .i64 z.1) := by rw [hzr]; rfl
    have g1 : (encG l)[1]? = some (.int .i64 z.2) := by rw [hzr]; rfl
    have w1 : w64 (z.1 - z.2) = z.1 - z.2 := w64_in (by omega)
    have w2 : w64 (z.1 + z.2) = z.1 + z.2 := w64_in (by omega)
    have hpos : (decide (((0 : Int) ≤ (0 : Int)) ∧ ((0 : Int) < (l.length : Int)))) = true := decide_eq_true ⟨by omega, by omega⟩
    have hq := con_loop l (by omega) hv 0 (by omega) (z.1 - z.2, z.1 + z.2)
    have hcv : conF (z.1 - z.2, z.1 + z.2) (l.drop 0) = conV l := by
      rw [List.drop_zero, hzr, conF_cons]
      simp only [gt_iff_lt, Int.lt_irrefl, if_false]
      rfl
    rw [hcv] at hq
    have hL := Lcloud_ConstantOf_0a_of hq
    have hL : Lcloud_ConstantOf_0 (Tcloud_ConstantOf_0a l.length (encG l) l.length 0 (z.1 - z.2) (z.1 + z.2)) = _ := hL
    simp only [hpos, cond_true, g0, g1, intC_int, bindO_val, w1, w2, hL, bif_dec]
    split <;> rfl
  · rw [if_neg h, if_pos (c := (chkG l).2 ≠ 0) h]
theorem refConstants_is {l : List ZZ} (h : (chkG l).2 = 0) : Fglidepathref08_Constants [.list l.length (encG l)] = some (if (conV l).1 > (conV l).2 then (0, 0, false) else ((conV l).1, (conV l).2, true)) := by
  refine Fglidepathref08_Constants_of _ _ ?_
  unfold tglidepathref08_Constants
  obtain ⟨h2, h3, hv⟩ := chkG_ok h
  obtain ⟨z, r, hzr⟩ : ∃ z r, l = z :: r := by
    cases l with
    | nil => simp at h2
    | cons z r => exact ⟨z, r, rfl⟩
  have hzv := hv z (by rw [hzr]; exact List.mem_cons_self)
  have g0 : (encG l)[0]? = some (.int .i64 z.1) := by rw [hzr]; rfl
  have g1 : (encG l)[1]? = some (.int .i64 z.2) := by rw [hzr]; rfl
  have w1 : w64 (z.1 - z.2) = z.1 - z.2 := w64_in (by omega)
  have w2 : w64 (z.1 + z.2) = z.1 + z.2 := w64_in (by omega)
  have hpos : (decide (((0 : Int) ≤ (0 : Int)) ∧ ((0 : Int) < (l.length : Int)))) = true := decide_eq_true ⟨by omega, by omega⟩
  have hq := rcon_loop l (by omega) hv 1 h2 (z.1 - z.2, z.1 + z.2)
  have hcv : conF (z.1 - z.2, z.1 + z.2) (l.drop 1) = conV l := by
    rw [hzr]
    rfl
  rw [hcv] at hq
  have hL := Lglidepathref08_Constants_0a_of hq
  have hL : Lglidepathref08_Constants_0 (Tglidepathref08_Constants_0a l.length (encG l) 1 (z.1 - z.2) (z.1 + z.2)) = _ := hL
  simp only [hpos, cond_true, g0, g1, intC_int, bindO_val, w1, w2, hL, bif_dec]
  split <;> rfl
theorem copyP_is (l : List ZZ) (hl : l.length ≤ 1000000) : Fglidepathref08_CopyPoints [.list l.length (encG l)] = some (l.length, encG l) := by
  refine Fglidepathref08_CopyPoints_of _ _ ?_
  unfold tglidepathref08_CopyPoints
  by_cases h : l.length = 0
  · rw [bif_pos h]
    have := List.eq_nil_of_length_eq_zero h
    subst this
    rfl
  · rw [bif_neg h, bif_pos (encG_len l), bif_pos ⟨rfl, by unfold big; omega⟩, bif_pos rfl]
    simp
end Gv
