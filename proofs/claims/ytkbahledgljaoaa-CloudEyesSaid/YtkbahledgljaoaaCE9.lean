/- CloudEyes: whatever the shots, the window and the energy, the law answers true. -/
import Derived.Test.YtkbahledgljaoaaCE7
import Derived.Test.YtkbahledgljaoaaCE8
import Derived.Test.YtkbahledgljaoaaA0
namespace Gv
open Go
set_option maxRecDepth 100000

theorem both_is (a b : Int) : Fglidepathlaw08_both [.int .i64 a, .int .i64 b] = some (both a b) := by
  refine Fglidepathlaw08_both_of _ _ ?_
  unfold tglidepathlaw08_both both
  rw [bif_ne]
  by_cases h : a = 0
  · rw [if_pos h, if_neg (by simp [h])]
  · rw [if_neg h, if_pos h]
theorem shtE_eq (z : Sht) : shtE z = shotE z := by
  unfold shtE shotE
  show firstE [rangeE z.1 0 1000000, rangeE z.2.1 0 1000000, rangeE z.2.2 0 10000, if z.1 ≥ z.2.1 then 9 else 0] = _
  generalize rangeE z.1 0 1000000 = a
  generalize rangeE z.2.1 0 1000000 = b
  generalize rangeE z.2.2 0 10000 = c
  generalize (if z.1 ≥ z.2.1 then (9 : Int) else 0) = d
  unfold first4 firstE firstE firstE firstE firstE
  by_cases hd : d = 0 <;> simp [hd]
theorem findS_first : ∀ (l : List Sht) (i : Nat), ((findE shotE l i).getD (0, 0)).2 = firstE (l.map shtE)
  | [], _ => rfl
  | z :: l, i => by
    unfold findE
    rw [List.map_cons, shtE_eq]
    unfold firstE
    by_cases h : shotE z = 0
    · rw [if_neg (by simp [h]), if_neg (by simp [h])]
      exact findS_first l (i + 1)
    · rw [if_pos h, if_pos h]
      rfl
theorem shtsE_eq (l : List Sht) : shtsE l = (chkS l).2 := by
  unfold shtsE chkS
  by_cases h : 20 < l.length
  · rw [if_pos h, if_pos h]
  · rw [if_neg h, if_neg h, findS_first]
theorem eyeE_eq (l : List Sht) (w en : Int) : eyeE l w en = both (both (chkS l).2 (rangeE w 1 1000000)) (rangeE en 0 1000000000000) := by
  unfold eyeE
  rw [shtsE_eq]
  show firstE [(chkS l).2, rangeE w 1 1000000, rangeE en 0 1000000000000] = _
  generalize (chkS l).2 = a
  generalize rangeE w 1 1000000 = b
  generalize rangeE en 0 1000000000000 = c
  unfold both firstE firstE firstE firstE
  by_cases ha : a = 0 <;> by_cases hb : b = 0 <;> by_cases hc : c = 0 <;> simp [ha, hb, hc]
theorem eye_bd {l : List Sht} {w en : Int} (h : eyeE l w en = 0) : RowKit.wrap64 (eyeC l w en - eyeA l w en) ≤ 100000000 := by
  rw [eyeE_eq] at h
  obtain ⟨h1, h2⟩ := both_nil h
  obtain ⟨h3, h4⟩ := both_nil h1
  obtain ⟨_, ho⟩ := chkS_ok h3
  have hw := rangeE_ok h4
  have hg : ∀ k : Nat, 0 ≤ (eyeT l w).getD k 0 ∧ (eyeT l w).getD k 0 ≤ 2000000 := fun k => by
    unfold eyeT
    rw [trnL_eq hw ho, List.getD_eq_getElem?_getD]
    cases e : (isort (ptL w l))[k]? with
    | none => exact ⟨by simp, by simp⟩
    | some x => exact ptL_bd ho hw x ((isort_perm _).mem_iff.1 (List.mem_of_getElem? e))
  have a := hg (fstI (unB l w en) (eyeT l w) 0).toNat
  have b := hg (fstI (unB l w en) (eyeT l w) 0 - 1).toNat
  unfold eyeC eyeA
  rw [wrap_in (by omega)]
  omega

def eyesLawOf (l : List Sht) (w en : Int) : Prop := Fn env 43 (RSh.tup [(Prod.mk false [(CK.int IntKind.i64)]), (Prod.mk false [(CK.int IntKind.i64)])]) [.list l.length (encL3 l), .agg [.int .i64 w, .int .i64 en]] = some (eyeV l w en)
theorem eyesLaw_of (l : List Sht) (w en : Int) (c43 : l.length ≤ 1000 → eyesLawOf l w en) : FlE [.list l.length (encL3 l), .agg [.int .i64 w, .int .i64 en]] = some true := by
  refine FlE_of _ _ _ _ ?_
  unfold tlE
  simp only [awake_is, bindO_val, cond_true]
  by_cases hl : l.length ≤ 22
  · rw [bif_neg (by omega)]
    have c43 := c43 (by omega)
    unfold eyesLawOf at c43
    have c42 := copyShots_is l (by omega)
    have c41 := exposure_is l (by omega) w
    have c44 := refShots_is l (by omega)
    have c45 := refWindow_is w
    simp only [c42, c41, c43, c44, c45, bindO_val, both_is, bif_ne, bif_eq]
    have hE := eyeE_eq l w en
    by_cases h : both (chkS l).2 (rangeE w 1 1000000) = 0
    · rw [if_pos h]
      obtain ⟨h3, h4⟩ := both_nil h
      obtain ⟨h20, ho⟩ := chkS_ok h3
      have hw := rangeE_ok h4
      rw [both_zero h] at hE
      have c46 := refExposure_is ho (by omega) hw
      have hm : ∀ t, t ∈ isort (ptL w l) ↔ t ∈ ptL w l := fun t => (isort_perm _).mem_iff
      have M1 := most_of hm
      have M2 := most_ref ho (refT_mem w l)
      have hM := M1.uniq M2
      have hx : expR l w = (mostF (enr l w) (isort (ptL w l)) 0, 0) := by unfold expR; rw [if_pos h]
      generalize hMM : mostF (enr l w) (isort (ptL w l)) 0 = M at M1 hM hx
      rw [← hM] at c46
      have h40 : ∀ y z : Int, LlE_1000040 (TlE_1000040a l.length (encL3 l) M 0 y z w en) = some (.inr (l.length, encL3 l, M, y, z, w, en)) := fun y z => by
        refine LlE_1000040b_of (RlE_1000040a_of _ _ _ _ _ _ _ _ ?_)
        unfold BlE_1000040a
        simp only [c46, bindO_val, bne_self_eq_false, cond_false]
        rfl
      simp only [hx, h40, bindO_val, Sum.elim_inr, within_is]
      by_cases hen : 0 ≤ en ∧ en ≤ 1000000000000
      · rw [bif_pos hen]
        rw [rangeE_in hen] at hE
        have hv : w64 ((w64 (w + 1)).tdiv 2) = (w + 1) / 2 := by
          rw [w64_in (n := w + 1) (by omega), Int.tdiv_eq_ediv_of_nonneg (by omega), w64_in (by omega)]
        have hw2 : 1 ≤ (w + 1) / 2 ∧ (w + 1) / 2 ≤ 1000000 := by omega
        have c41b := exposure_is l (by omega) ((w + 1) / 2)
        have hm2 : ∀ t, t ∈ isort (ptL ((w + 1) / 2) l) ↔ t ∈ ptL ((w + 1) / 2) l := fun t => (isort_perm _).mem_iff
        have M3 := most_of hm2
        have hless := most_less ho hw.1 (v := (w + 1) / 2) (by omega) M3 M1
        have hx2 : expR l ((w + 1) / 2) = (mostF (enr l ((w + 1) / 2)) (isort (ptL ((w + 1) / 2) l)) 0, 0) := by
          unfold expR
          have : both (chkS l).2 (rangeE ((w + 1) / 2) 1 1000000) = 0 := by rw [h3, rangeE_in hw2]; rfl
          rw [if_pos this]
        generalize mostF (enr l ((w + 1) / 2)) (isort (ptL ((w + 1) / 2) l)) 0 = N at hless hx2
        have h24 : ∀ y z : Int, LlE_1000024 (TlE_1000024a l.length (encL3 l) M y z N 0 w en) = some (.inr (l.length, encL3 l, M, y, z, w, en)) := fun y z => by
          refine LlE_1000024b_of (RlE_1000024a_of _ _ _ _ _ _ _ _ _ ?_)
          unfold BlE_1000024a
          simp only [bne_self_eq_false, cond_false]
          rw [bif_neg (by omega)]
          rfl
        simp only [hv, c42, c41b, hx2, bindO_val, h24, Sum.elim_inr]
        rcases refUnsafe_is ho (by omega) hw hen with ⟨u1, u2⟩ | ⟨a, c, s, u1, u2, u3, u4, u5⟩
        · have e1 : eyeV l w en = (0, 12) := by
            rcases eyeV_is ho (by omega) hw hen hE with ⟨_, e⟩ | ⟨a, c, f, _⟩
            · exact e
            · have := u1 c f.mem
              have := f.big
              omega
          have hMe : M ≤ en := by
            rcases M1.is with e | ⟨p, hp, e⟩
            · omega
            · rw [e]; exact u1 p hp
          simp only [u2, bindO_val, cond_false, e1]
          rw [bif_neg (by omega)]
          rfl
        · obtain ⟨r, s', g1, g2, g3, g4, g5, g6, g7, g8⟩ := unsafe_at ho hw.1 u2 u1
          have hs : s' = s := by
            have := u1.lt
            exact Int.eq_of_mul_eq_mul_left (a := c - a) (by omega) (by rw [← g4, ← u3])
          subst hs
          have e1 : eyeV l w en = (a + r, 0) := by
            rcases eyeV_is ho (by omega) hw hen hE with ⟨q, _⟩ | ⟨a', c', f, _, _, e⟩
            · have := q c u1.mem
              have := u1.big
              omega
            · obtain ⟨ea, ec⟩ := f.uniq u1
              subst ea
              subst ec
              rw [e, g1]
          have hb := ptL_bd ho hw c u1.mem
          have ha0 := u1.nn
          have hac := u1.lt
          have hMe : M > en := u1.most M1
          have c48 := refEnergy_is ho (by omega) hw (e := a + r) ⟨by omega, by omega⟩
          have c48b := refEnergy_is ho (by omega) hw (e := a + r - 1) ⟨by omega, by omega⟩
          have w1 : w64 (a + r - 1) = a + r - 1 := w64_in (by omega)
          rw [show a + r - 1 + 1 = a + r by omega] at c48b
          rw [← g6] at u5
          simp only [u5, bindO_val, cond_true, e1, c48, w1, c48b]
          rw [bif_pos hMe, if_pos trivial, if_pos trivial, bif_pos (by omega), bif_pos g7]
      · rw [bif_neg hen]
        rw [rangeE_out hen] at hE
        have e1 : eyeV l w en = (0, 2) := by
          unfold eyeV
          rw [if_pos (by rw [hE]; decide), hE]
        simp only [e1]
        rfl
    · rw [if_neg h]
      rw [both_not h] at hE
      have hx : expR l w = (0, both (chkS l).2 (rangeE w 1 1000000)) := by unfold expR; rw [if_neg h]
      have e1 : eyeV l w en = (0, both (chkS l).2 (rangeE w 1 1000000)) := by
        unfold eyeV
        rw [if_pos (by rw [hE]; exact h), hE]
      simp only [hx, e1, if_true]
  · rw [bif_pos (by omega)]

theorem eyeV_nil (w en : Int) : eyeV [] w en = (0, zeroY w en) := by
  unfold eyeV zeroY
  have e : eyeE [] w en = firstE [0, rngE w 1 1000000, rngE en 0 1000000000000] := rfl
  rw [e]
  generalize firstE [0, rngE w 1 1000000, rngE en 0 1000000000000] = x
  by_cases h : x = 0
  · have hf : fstI (unB [] w en) (eyeT [] w) 0 < 1 := by
      show (-1 : Int) < 1
      decide
    rw [if_neg (c := x ≠ 0) (by simp [h]), if_pos hf, if_neg (c := x ≠ 0) (by simp [h])]
  · rw [if_pos h, if_pos h]
theorem eyeH_is {l : List Sht} {w en : Int} (hl : l.length ≤ 1000) : eyeH [.list l.length (encL3 l), .agg [.int .i64 w, .int .i64 en]] = some (.tup [.int .i64 (eyeV l w en).1, .int .i64 (eyeV l w en).2]) := by
  cases l with
  | nil =>
    show some (PV.tup [.int .i64 0, .int .i64 (zeroY w en)]) = _
    rw [eyeV_nil]
  | cons z l =>
    show eyeG [.list (z :: l).length (encL3 (z :: l)), .agg [.int .i64 w, .int .i64 en]] = _
    unfold eyeG
    simp only [shtsOf_enc]
    rw [if_pos ⟨trivial, by simp, hl, eye_bd⟩]
theorem unsafeAt_is (l : List Sht) (w en : Int) (hl : l.length ≤ 1000) : eyesLawOf l w en := by
  have hg := eyeH_is (w := w) (en := en) hl
  have hr : run env 43 [.list l.length (encL3 l), .agg [.int .i64 w, .int .i64 en]] = some (.val (.tup [.int .i64 (eyeV l w en).1, .int .i64 (eyeV l w en).2])) := by
    refine (run_iff env).2 ⟨2, ?_⟩
    have hf : env 43 = some (primA 2 eyeH) := rfl
    have e : exN (callN env 1) 1 (primA 2 eyeH).body (start (primA 2 eyeH) [.list l.length (encL3 l), .agg [.int .i64 w, .int .i64 en]]) = some (.normal, ⟨[.p (.list l.length (encL3 l)), .p (.agg [.int .i64 w, .int .i64 en]), .p (.tup [.int .i64 (eyeV l w en).1, .int .i64 (eyeV l w en).2])], [Blk.none, Blk.none, Blk.none]⟩) := by
      show exN (callN env 1) 1 (.ops [{ dst := some 2, grd := none, args := [.tmp 0, .tmp 1], k := .l (.prim eyeH) }]) ⟨[.p (.list l.length (encL3 l)), .p (.agg [.int .i64 w, .int .i64 en]), .undef], [Blk.none, Blk.none, Blk.none]⟩ = _
      simp only [exN, exOps, exOp, grd]
      have hk : runK (callN env 1) (.l (.prim eyeH)) [.p (.list l.length (encL3 l)), .p (.agg [.int .i64 w, .int .i64 en])] [Blk.none, Blk.none, Blk.none] = some (.p (.tup [.int .i64 (eyeV l w en).1, .int .i64 (eyeV l w en).2]), [Blk.none, Blk.none, Blk.none]) := by
        simp only [runK, runL, pureAs, pureA, hg, Option.map_some]
      have ha : ([Arg.tmp 0, Arg.tmp 1].map (Arg.get [AV.p (.list l.length (encL3 l)), .p (.agg [.int .i64 w, .int .i64 en]), .undef])) = [.p (.list l.length (encL3 l)), .p (.agg [.int .i64 w, .int .i64 en])] := rfl
      simp only [ha, hk]
      rfl
    simp only [callN, hf]
    rw [if_pos ⟨rfl, rfl⟩, e]
    rfl
  unfold eyesLawOf Fn
  rw [hr]
  rfl
theorem eyesLaw (l : List Sht) (w en : Int) : FlE [.list l.length (encL3 l), .agg [.int .i64 w, .int .i64 en]] = some true := eyesLaw_of l w en fun hl => unsafeAt_is l w en hl
end Gv
