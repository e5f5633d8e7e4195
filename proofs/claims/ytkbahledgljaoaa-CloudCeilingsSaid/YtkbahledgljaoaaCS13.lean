import Derived.Test.YtkbahledgljaoaaCS3a
import Derived.Test.YtkbahledgljaoaaCS9
import Derived.Test.YtkbahledgljaoaaCS11
import Derived.Test.YtkbahledgljaoaaCP4
import Derived.Test.YtkbahledgljaoaaA0

/- The ceiling of layers: what it gives, beside the reference's. -/
namespace Gv
open Go
set_option maxRecDepth 100000

theorem shtsOf_enc : ∀ l : List (Int × Int × Int), shtsOf (encL3 l) = some l
  | [] => rfl
  | (x, y, z) :: l => by
    show (shtsOf (encL3 l)).map ((x, y, z) :: ·) = _
    rw [shtsOf_enc l]
    rfl
theorem layE_eq (z : Int × Int × Int) : layE z = layerE z := by
  unfold layE layerE
  show firstE [rangeE z.1 0 20000, rangeE z.2.1 0 20000, rangeE z.2.2 0 8, if z.1 ≥ z.2.1 then 9 else 0] = _
  generalize rangeE z.1 0 20000 = a
  generalize rangeE z.2.1 0 20000 = b
  generalize rangeE z.2.2 0 8 = c
  generalize (if z.1 ≥ z.2.1 then (9 : Int) else 0) = d
  unfold first4 firstE firstE firstE firstE firstE
  by_cases hd : d = 0 <;> simp [hd]
theorem findE_first : ∀ (l : List (Int × Int × Int)) (i : Nat), ((findE layerE l i).getD (0, 0)).2 = firstE (l.map layE)
  | [], _ => rfl
  | z :: l, i => by
    unfold findE
    rw [List.map_cons, layE_eq]
    unfold firstE
    by_cases h : layerE z = 0
    · rw [if_neg (by simp [h]), if_neg (by simp [h])]
      exact findE_first l (i + 1)
    · rw [if_pos h, if_pos h]
      rfl
theorem laysE_eq (l : List (Int × Int × Int)) : laysE l = (chkL l).2 := by
  unfold laysE chkL
  by_cases h : 10 < l.length
  · rw [if_pos h, if_pos h]
  · rw [if_neg h, if_neg h, findE_first]
theorem chk_ok {l : List (Int × Int × Int)} (h : (chkL l).2 = 0) : l.length ≤ 10 ∧ ∀ z ∈ l, 0 ≤ z.2.2 ∧ z.2.2 ≤ 8 := by
  unfold chkL at h
  by_cases h1 : 10 < l.length
  · rw [if_pos h1] at h
    cases h
  · rw [if_neg h1] at h
    refine ⟨by omega, fun z hz => ?_⟩
    cases hf : findE layerE l 0 with
    | none =>
      have := findE_none hf z hz
      unfold layerE at this
      exact rangeE_ok (first4_nil this).2.2.1
    | some p =>
      rw [hf] at h
      exact absurd h (findE_some hf).1

def ceilR (l : List (Int × Int × Int)) (e : Int) : Int × Int :=
  if (chkL l).2 ≠ 0 then (0, (chkL l).2) else if rangeE e 1 8 ≠ 0 then (0, rangeE e 1 8) else
    match scanO (srtK l) 0 e with
    | some b => (b, 0)
    | none => (0, 12)
theorem ceilK_is (l : List (Int × Int × Int)) (e : Int) : ceilK l e = ceilR l e := by
  unfold ceilK ceilR
  rw [laysE_eq]
  show (if firstE [(chkL l).2, rangeE e 1 8] ≠ 0 then (0, firstE [(chkL l).2, rangeE e 1 8]) else _) = _
  unfold firstE firstE firstE
  by_cases h : (chkL l).2 = 0
  · rw [if_neg (by simp [h]) (c := (chkL l).2 ≠ 0), if_neg (by simp [h]) (c := (chkL l).2 ≠ 0)]
    by_cases h2 : rangeE e 1 8 = 0
    · rw [h2, if_neg (by simp), if_neg (by simp)]
      obtain ⟨hl, hz⟩ := chk_ok h
      have hp := srt_perm l
      refine scanC_eq _ 0 e (fun z hm => hz z (hp.mem_iff.1 hm)) (Int.le_refl _) ?_
      rw [hp.length_eq]
      omega
    · rw [if_pos h2, if_pos h2, if_pos h2]
  · rw [if_pos h, if_pos h, if_pos h]

theorem ceilH_is {l : List (Int × Int × Int)} {e : Int} (hl : l.length ≤ 1000) : ceilH [.list l.length (encL3 l), .int .i64 e] = some (.tup [.int .i64 (ceilR l e).1, .int .i64 (ceilR l e).2]) := by
  cases l with
  | nil =>
    show some (PV.tup [.int .i64 0, .int .i64 (zeroV e)]) = _
    have hz : ceilR [] e = (0, zeroV e) := by
      unfold ceilR zeroV
      rw [if_neg (by simp [chkL, findE])]
      show (if rangeE e 1 8 ≠ 0 then _ else _) = (0, if rangeE e 1 8 ≠ 0 then rangeE e 1 8 else 12)
      by_cases h : rangeE e 1 8 = 0
      · rw [if_neg (by simp [h]), if_neg (by simp [h])]
        rfl
      · rw [if_pos h, if_pos h]
    rw [hz]
  | cons z l =>
    show ceilG [.list (z :: l).length (encL3 (z :: l)), .int .i64 e] = _
    unfold ceilG
    simp only [shtsOf_enc]
    rw [if_pos ⟨trivial, by simp, hl⟩, ceilK_is]

theorem ceil_is {l : List (Int × Int × Int)} {e : Int} (hl : l.length ≤ 1000) : Fn env 35 (RSh.tup [(Prod.mk false [(CK.int IntKind.i64)]), (Prod.mk false [(CK.int IntKind.i64)])]) [.list l.length (encL3 l), .int .i64 e] = some (ceilR l e) := by
  have hg := ceilH_is (e := e) hl
  have hr : run env 35 [.list l.length (encL3 l), .int .i64 e] = some (.val (.tup [.int .i64 (ceilR l e).1, .int .i64 (ceilR l e).2])) := by
    refine (run_iff env).2 ⟨2, ?_⟩
    have hf : env 35 = some (primA 2 ceilH) := rfl
    have e : exN (callN env 1) 1 (primA 2 ceilH).body (start (primA 2 ceilH) [.list l.length (encL3 l), .int .i64 e]) = some (.normal, ⟨[.p (.list l.length (encL3 l)), .p (.int .i64 e), .p (.tup [.int .i64 (ceilR l e).1, .int .i64 (ceilR l e).2])], [Blk.none, Blk.none, Blk.none]⟩) := by
      show exN (callN env 1) 1 (.ops [{ dst := some 2, grd := none, args := [.tmp 0, .tmp 1], k := .l (.prim ceilH) }]) ⟨[.p (.list l.length (encL3 l)), .p (.int .i64 e), .undef], [Blk.none, Blk.none, Blk.none]⟩ = _
      simp only [exN, exOps, exOp, grd]
      have hk : runK (callN env 1) (.l (.prim ceilH)) [.p (.list l.length (encL3 l)), .p (.int .i64 e)] [Blk.none, Blk.none, Blk.none] = some (.p (.tup [.int .i64 (ceilR l e).1, .int .i64 (ceilR l e).2]), [Blk.none, Blk.none, Blk.none]) := by
        simp only [runK, runL, pureAs, pureA, hg, Option.map_some]
      have ha : ([Arg.tmp 0, Arg.tmp 1].map (Arg.get [AV.p (.list l.length (encL3 l)), .p (.int .i64 e), .undef])) = [.p (.list l.length (encL3 l)), .p (.int .i64 e)] := rfl
      simp only [ha, hk]
      rfl
    simp only [callN, hf]
    rw [if_pos ⟨rfl, rfl⟩, e]
    rfl
  unfold Fn
  rw [hr]
  rfl

theorem refF_eq {l : List (Int × Int × Int)} (e : Int) (hn : ∀ z ∈ l, 0 ≤ z.2.2) : refF l e l 0 (0, false) = (match scanO (srtK l) 0 e with | some b => (b, true) | none => (0, false)) := by
  have hs := ceil_same (e := e) (srt_perm l) (srt_asc l) hn
  rcases refF_spec l e l 0 (0, false) with ⟨h1, h2⟩ | ⟨j, z, h1, h2, h3, _, h5⟩
  · rw [h1]
    cases h : scanO (srtK l) 0 e with
    | none => rfl
    | some b =>
      rw [h] at hs
      obtain ⟨⟨i, z, hi, _, he⟩, _⟩ := hs
      have := h2 i z hi (by rw [Nat.zero_add]; exact he)
      cases this.1
  · rw [h3]
    rw [Nat.zero_add] at h2
    cases h : scanO (srtK l) 0 e with
    | none =>
      rw [h] at hs
      have := hs j z h1
      omega
    | some b =>
      rw [h] at hs
      obtain ⟨⟨i, y, hi, hy, he⟩, hm⟩ := hs
      have a := hm j z h1 h2
      have b' := h5 i y hi (by rw [Nat.zero_add]; exact he)
      have : z.1 = b := by omega
      rw [this]

theorem copyL_is (l : List (Int × Int × Int)) (hl : l.length ≤ 1000000) : Fglidepathref08_CopyLayers [.list l.length (encL3 l)] = some (l.length, encL3 l) := by
  refine Fglidepathref08_CopyLayers_of _ _ ?_
  unfold tglidepathref08_CopyLayers
  by_cases h : l.length = 0
  · rw [bif_pos h]
    have := List.eq_nil_of_length_eq_zero h
    subst this
    rfl
  · rw [bif_neg h, bif_pos (encL3_len l), bif_pos ⟨rfl, by unfold big; omega⟩, bif_pos rfl]
    simp
theorem copyI_is (l : List Int) (hl : l.length ≤ 1000000) : Fglidepathbase_CopyInts [.list l.length (encI l)] = some (l.length, encI l) := by
  refine Fglidepathbase_CopyInts_of _ _ ?_
  unfold tglidepathbase_CopyInts
  by_cases h : l.length = 0
  · rw [bif_pos h]
    have := List.eq_nil_of_length_eq_zero h
    subst this
    rfl
  · rw [bif_neg h, bif_pos (by simp), bif_pos ⟨rfl, by unfold big; omega⟩, bif_pos rfl]
    simp
end Gv

/- CloudCeilings: whatever the layers, the eighths and the numbers, the law answers true. -/
namespace Gv
open Go
set_option maxRecDepth 100000

theorem ceilingLaw (l : List (Int × Int × Int)) (e : Int) (s : List Int) : Fglidepathlaw08_CloudCeilings [.list l.length (encL3 l), .int .i64 e, .list s.length (encI s)] = some true := by
  refine Fglidepathlaw08_CloudCeilings_of _ _ _ _ _ ?_
  unfold tglidepathlaw08_CloudCeilings
  simp only [awake_is, bindO_val, cond_true]
  by_cases hb : 12 < l.length ∨ 17 < s.length
  · have h52 : Lglidepathlaw08_CloudCeilings_1000052 (Tglidepathlaw08_CloudCeilings_1000052a l.length (encL3 l) e s.length (encI s)) = some (.inl ()) := by
      refine Lglidepathlaw08_CloudCeilings_1000052a_of (Rglidepathlaw08_CloudCeilings_1000052a_of _ _ _ _ _ ?_)
      unfold Bglidepathlaw08_CloudCeilings_1000052a
      by_cases h : 12 < l.length
      · rw [bif_pos (by omega)]
        rfl
      · rw [bif_neg (by omega), bif_pos (by omega)]
        rfl
    rw [h52]
    rfl
  · have h52 : Lglidepathlaw08_CloudCeilings_1000052 (Tglidepathlaw08_CloudCeilings_1000052a l.length (encL3 l) e s.length (encI s)) = some (.inr (l.length, encL3 l, e, s.length, encI s)) := by
      refine Lglidepathlaw08_CloudCeilings_1000052b_of (Rglidepathlaw08_CloudCeilings_1000052a_of _ _ _ _ _ ?_)
      unfold Bglidepathlaw08_CloudCeilings_1000052a
      rw [bif_neg (by omega), bif_neg (by omega)]
      rfl
    have hl : l.length ≤ 12 := by omega
    have hs : s.length ≤ 17 := by omega
    have c34 := copyL_is l (by omega)
    have c33 := checkLayers_is l (by omega)
    have c35 := ceil_is (l := l) (e := e) (by omega)
    have c16 := copyI_is s (by omega)
    have c36 := middleOf_is s (by omega)
    have c37 := refCheck_is l (by omega)
    have c38 := heights_is s (by omega)
    have h37 : ∀ a b : Int, Lglidepathlaw08_CloudCeilings_1000037 (Tglidepathlaw08_CloudCeilings_1000037a l.length (encL3 l) e s.length (encI s) (chkL l).1 (chkL l).2 (ceilR l e).1 (ceilR l e).2 a b (chkL l).1 (chkL l).2) = some (.inr (l.length, encL3 l, e, s.length, encI s, (ceilR l e).1, (ceilR l e).2, a, b, (chkL l).2)) := fun a b => by
      refine Lglidepathlaw08_CloudCeilings_1000037b_of (Rglidepathlaw08_CloudCeilings_1000037a_of _ _ _ _ _ _ _ _ _ _ _ _ _ ?_)
      unfold Bglidepathlaw08_CloudCeilings_1000037a
      simp only [bne_self_eq_false, cond_false]
      rfl
    have h30 : ∀ a b d : Int, Lglidepathlaw08_CloudCeilings_1000030 (Tglidepathlaw08_CloudCeilings_1000030a l.length (encL3 l) e s.length (encI s) a b (if hE s = 0 then (midL s, 0) else (0, hE s)).1 (if hE s = 0 then (midL s, 0) else ((0 : Int), hE s)).2 d) = some (.inr (l.length, encL3 l, e, a, b, d)) := fun a b d => by
      refine Lglidepathlaw08_CloudCeilings_1000030b_of (Rglidepathlaw08_CloudCeilings_1000030a_of _ _ _ _ _ _ _ _ _ _ ?_)
      unfold Bglidepathlaw08_CloudCeilings_1000030a
      simp only [c38, bindO_val]
      by_cases h0 : hE s = 0
      · have hm := listIE_ok (show (listIE 15 0 20000 s).2 = 0 from h0)
        have c39 := refMiddle_is s hm.1 (by omega)
        simp only [h0, c39, bindO_val, bne_self_eq_false, cond_false, beq_self_eq_true, cond_true, if_true]
        rfl
      · have hb : (hE s != 0) = true := by simp [h0]
        have hb2 : (hE s == 0) = false := by simp [h0]
        rw [if_neg h0]
        simp only [hb, hb2, cond_true, cond_false, bne_self_eq_false]
        rfl
    have c14 := within_is e 1 8
    have h21 : ∀ a b d : Int, Lglidepathlaw08_CloudCeilings_1000021 (Tglidepathlaw08_CloudCeilings_1000021a l.length (encL3 l) e a b d) = some (l.length, encL3 l, e, a, b, if d ≠ 0 then d else rangeE e 1 8) := fun a b d => by
      refine Lglidepathlaw08_CloudCeilings_1000021a_of (Rglidepathlaw08_CloudCeilings_1000021a_of _ _ _ _ _ _ ?_)
      unfold Bglidepathlaw08_CloudCeilings_1000021a
      by_cases h0 : d = 0
      · subst h0
        simp only [beq_self_eq_true, cond_true, c14, bindO_val]
        rw [if_neg (by simp)]
        by_cases h1 : 1 ≤ e ∧ e ≤ 8
        · rw [bif_pos h1, rangeE_in h1]
          rfl
        · rw [bif_neg h1, rangeE_out h1]
          rfl
      · have hb2 : (d == 0) = false := by simp [h0]
        simp only [hb2, cond_false]
        rw [if_pos h0]
        rfl
    simp only [h52, bindO_val, Sum.elim_inr, c34, c33, c35, c16, c36, c37, h37, h30, h21]
    unfold ceilR
    by_cases h0 : (chkL l).2 = 0
    · rw [if_neg (by simp [h0]) (c := (chkL l).2 ≠ 0), if_neg (by simp [h0]) (c := (chkL l).2 ≠ 0)]
      by_cases h1 : rangeE e 1 8 = 0
      · obtain ⟨h2, h3⟩ := chk_ok h0
        have c40 := refCeiling_is l (by omega) h3 e
        rw [refF_eq e fun z hz => (h3 z hz).1] at c40
        rw [if_neg (by simp [h1])]
        simp only [h1, bne_self_eq_false, cond_false, c40, bindO_val]
        cases scanO (srtK l) 0 e with
        | none => rfl
        | some b => simp
      · have hb : (rangeE e 1 8 != 0) = true := by simp [h1]
        rw [if_pos h1]
        simp only [hb, cond_true, beq_self_eq_true]
    · have hb : ((chkL l).2 != 0) = true := by simp [h0]
      rw [if_pos h0, if_pos h0]
      simp only [hb, cond_true, beq_self_eq_true]
end Gv
