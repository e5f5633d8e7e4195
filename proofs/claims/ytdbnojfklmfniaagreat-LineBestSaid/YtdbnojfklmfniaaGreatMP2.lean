/- The best of several kinds: the program's and the specification's, and the law. -/
import Derived.Test.YtdbnojfklmfniaaGreatMCb
import Derived.Test.YtdbnojfklmfniaaGreatM20
namespace Gv
open Go
set_option maxRecDepth 100000

/-! ### The worst of many -/

def ltF (f g : Int × Int) : Prop := f.1 * g.2 < g.1 * f.2
theorem lt_of_le_lt {a b c : Int × Int} (hb : 0 < b.2) (h1 : ¬ ltF b a) (ha : 0 < a.2) (hc : 0 < c.2) (h2 : ltF b c) : ltF a c := by
  unfold ltF at *
  have e1 : a.1 * b.2 ≤ b.1 * a.2 := by omega
  have m1 := Int.mul_le_mul_of_nonneg_right e1 (show 0 ≤ c.2 by omega)
  have m2 := Int.mul_lt_mul_of_pos_right h2 ha
  refine Int.lt_of_mul_lt_mul_right (a := b.2) ?_ (by omega)
  rw [show a.1 * c.2 * b.2 = a.1 * b.2 * c.2 by grind, show c.1 * a.2 * b.2 = c.1 * b.2 * a.2 by grind]
  rw [show b.1 * a.2 * c.2 = b.1 * c.2 * a.2 by grind] at m1
  omega
theorem lt_irr {a b : Int × Int} (h : ltF a b) : a ≠ b := by
  intro e
  subst e
  unfold ltF at h
  omega
/-- A state is the first worst one of those before an index. -/
structure Wo (f : Nat → Int × Int) (i m : Nat) : Prop where
  lt : m < i
  top : ∀ j, j < i → ¬ ltF (f m) (f j)
  first : ∀ j, j < m → ltF (f j) (f m)
theorem wsG_spec {f : Nat → Int × Int} (hf : ∀ k, Fb (f k)) : ∀ n i m, Wo f i m → ∃ m', Wo f (i + n) m' ∧ wsG f n i (f m, (m : Int)) = (f m', (m' : Int))
  | 0, i, m, h => ⟨m, h, rfl⟩
  | n + 1, i, m, h => by
    rw [wsG, show i + (n + 1) = i + 1 + n by omega]
    unfold wsS
    simp only []
    by_cases hl : ltF (f m) (f i)
    · rw [if_pos (show (f m).1 * (f i).2 < (f i).1 * (f m).2 from hl)]
      refine wsG_spec hf n (i + 1) i ⟨by omega, fun j hj => ?_, fun j hj => lt_of_le_lt (hf m).2.2.1 (h.top j hj) (hf j).2.2.1 (hf i).2.2.1 hl⟩
      by_cases he : j = i
      · subst he
        exact fun q => lt_irr q rfl
      · have := lt_of_le_lt (hf m).2.2.1 (h.top j (by omega)) (hf j).2.2.1 (hf i).2.2.1 hl
        unfold ltF at *
        omega
    · rw [if_neg (show ¬ (f m).1 * (f i).2 < (f i).1 * (f m).2 from hl)]
      refine wsG_spec hf n (i + 1) m ⟨by have := h.lt; omega, fun j hj => ?_, h.first⟩
      by_cases he : j = i
      · subst he
        exact hl
      · exact h.top j (by omega)
theorem of_zero {s v : List Int} {n d : Int} (c : Ca s v n d) (kind : Int) : wsG (ofN s v n d kind) (cnt s v) 0 (ofN s v n d kind 0, 0) = wsT s v n d kind := by
  have h0 := ofFb c kind 0
  have hp := cnt_pos c
  unfold wsT
  obtain ⟨m, hm⟩ : ∃ m, cnt s v = m + 1 := ⟨cnt s v - 1, by omega⟩
  rw [hm, wsG, wsG]
  congr 1
  have a1 : wsS (ofN s v n d kind) 0 (ofN s v n d kind 0, 0) = (ofN s v n d kind 0, 0) := by
    unfold wsS
    rw [if_neg (by simp only []; omega)]
  rw [a1]
  unfold wsS
  simp only []
  obtain ⟨b1, b2, b3, b4⟩ := h0
  by_cases h : (0 : Int) * (ofN s v n d kind 0).2 < (ofN s v n d kind 0).1 * 1
  · rw [if_pos h]
    rfl
  · rw [if_neg h]
    have z : (ofF s v n d kind (0 : Nat)).1 = 0 := by unfold ofN at h; omega
    have o : ofF s v n d kind (0 : Nat) = (0, 1) := by
      have y := (pd_ok c kind (0 : Nat)).y
      have g := lowF_gcd (n := ((ofX s v n d kind (0 : Nat)).natAbs : Int)) (d := ofY s v d kind (0 : Nat)) y.1
      rw [show lowF ((ofX s v n d kind (0 : Nat)).natAbs : Int) (ofY s v d kind (0 : Nat)) = ofF s v n d kind (0 : Nat) from rfl, z, Int.gcd_zero_left] at g
      refine Prod.ext z ?_
      show (ofF s v n d kind (0 : Nat)).2 = 1
      omega
    unfold ofN
    rw [o]
theorem worst_spec {s v : List Int} {n d : Int} (c : Ca s v n d) (kind : Int) : ∃ m, Wo (ofN s v n d kind) (cnt s v) m ∧ wsT s v n d kind = (ofN s v n d kind m, (m : Int)) := by
  have hp := cnt_pos c
  obtain ⟨q, hq⟩ : ∃ q, cnt s v = q + 1 := ⟨cnt s v - 1, by omega⟩
  have hf : ∀ k, Fb (ofN s v n d kind k) := fun k => ofFb c kind k
  have h0 : Wo (ofN s v n d kind) 1 0 := ⟨by omega, fun j hj => by
    have : j = 0 := by omega
    subst this
    exact fun q => lt_irr q rfl, fun j hj => by omega⟩
  obtain ⟨m, h1, h2⟩ := wsG_spec hf q 1 0 h0
  rw [show 1 + q = cnt s v by omega] at h1
  refine ⟨m, h1, ?_⟩
  rw [← of_zero c kind, hq, wsG]
  have a1 : wsS (ofN s v n d kind) 0 (ofN s v n d kind 0, 0) = (ofN s v n d kind 0, 0) := by
    unfold wsS
    rw [if_neg (by simp only []; omega)]
  rw [a1]
  exact h2

/-! ### What is asked of each fraction -/

theorem lo_eo {l : List Int} {f : Int × Int} (h : Eo l f) : loQ f.1 f.2 := ⟨h.den, h.gcd⟩
theorem of_lo {s v : List Int} {n d : Int} (c : Ca s v n d) (kind : Int) (k : Nat) : loQ (ofN s v n d kind k).1 (ofN s v n d kind k).2 := by
  have y := (pd_ok c kind (k : Int)).y
  exact ⟨lowF_den y.1, lowF_gcd y.1⟩
theorem small_is {n d : Int} (h : 1 ≤ d ∧ d ≤ 1000000000) (h2 : -1000000000 ≤ n ∧ n ≤ 1000000000) : FBsIsSmall [.agg [.int .i64 n, .int .i64 d]] = some true := by
  rw [refIsSmall_is, decide_eq_true (by unfold laQ; omega)]
theorem lowest_tt {n d : Int} (h : loQ n d) (hd : d ≤ 1000000000) : FBsIsLowest [.agg [.int .i64 n, .int .i64 d]] = some true := by
  have := h.1
  rw [refIsLowest_is (by unfold I64; omega), decide_eq_true h]

/-! ### Kinds -/

def kvB (k : Int) : Bool := decide (rangeE k 0 3 ≠ 0)
theorem isNoKind_is (k : Int) : Fline_isNoKind [.int .i64 k] = some (kvB k) := by
  refine Fline_isNoKind_of _ ?_
  unfold tline_isNoKind kvB
  simp only [outside_is, bindO_val]
  cases decide (rangeE k 0 3 ≠ 0) <;> rfl
def nkS : List Int → Nat → Int ⊕ Unit
  | [], _ => .inr ()
  | x :: r, i => if kvB x = true then .inl (i : Int) else nkS r (i + 1)
theorem nkS_spec : ∀ (l : List Int) (i : Nat), (l.any kvB = true ∧ ∃ j : Int, nkS l i = .inl j ∧ 0 ≤ j) ∨ (l.any kvB = false ∧ nkS l i = .inr ())
  | [], i => .inr ⟨rfl, rfl⟩
  | x :: r, i => by
    unfold nkS
    by_cases h : kvB x = true
    · exact .inl ⟨by simp [h], i, if_pos h, by omega⟩
    · rw [if_neg h]
      have := nkS_spec r (i + 1)
      simpa [show kvB x = false by simpa using h] using this
theorem idxNk_loop (l : List Int) (hl : l.length < 4294967296) : ∀ i, i ≤ l.length →
    Rline_IndexFunc_nk_0 (Tline_IndexFunc_nk_0a l.length (encI l) l.length i) = exO (XLline_IndexFunc_nk_0.fn (nkS (l.drop i) i)) := by
  refine up_ind _ ?_ ?_
  · refine Rline_IndexFunc_nk_0a_of _ _ _ _ ?_
    unfold Bline_IndexFunc_nk_0a
    rw [bif_neg (by omega), List.drop_length]
    rfl
  · intro i hi ih
    obtain ⟨x, hx, hd⟩ := get_drop hi
    refine Rline_IndexFunc_nk_0a_of _ _ _ _ ?_
    unfold Bline_IndexFunc_nk_0a
    rw [bif_pos (by omega), bif_pos (by omega)]
    simp only [Int.toNat_natCast, Nat.mul_one, encI_get, hx, Option.map_some, intC_int, bindO_val, isNoKind_is]
    rw [hd, w64_in (by omega)]
    cases he : kvB x with
    | true =>
      rw [show nkS (x :: l.drop (i + 1)) i = .inl (i : Int) from if_pos he]
      rfl
    | false =>
      rw [show nkS (x :: l.drop (i + 1)) i = nkS (l.drop (i + 1)) (i + 1) from if_neg (by simp [he])]
      exact ih
theorem containsNk_is (l : List Int) (hl : l.length < 4294967296) : Fline_ContainsFunc_nk [.list l.length (encI l), .fn 73 []] = some (l.any kvB) := by
  have q : Fline_IndexFunc_nk [.list l.length (encI l), .fn 73 []] = some (Sum.elim id (fun _ => -1) (nkS l 0)) := by
    refine Fline_IndexFunc_nk_of _ _ ?_
    unfold tline_IndexFunc_nk
    have := lpO_of Iline_IndexFunc_nk_0 XIline_IndexFunc_nk_0 (idxNk_loop l hl 0 (by omega))
    rw [List.drop_zero] at this
    have this : Lline_IndexFunc_nk_0 (Tline_IndexFunc_nk_0a l.length (encI l) l.length 0) = _ := this
    rw [this]
    cases nkS l 0 <;> rfl
  refine Fline_ContainsFunc_nk_of _ _ ?_
  unfold tline_ContainsFunc_nk
  simp only [q, bindO_val]
  rcases nkS_spec l 0 with ⟨h1, j, h2, h3⟩ | ⟨h1, h2⟩
  · rw [h1, h2, bif_pos (by simpa using h3)]
  · rw [h1, h2, bif_neg (by simp)]

def kinE (ks : List Int) : Int := if ks.length = 0 then 10 else if 4 < ks.length then 8 else if ks.any kvB = true then 14 else 0
theorem kindsError_is (ks : List Int) (hl : ks.length < 4294967296) : Fline_kindsError [.list ks.length (encI ks)] = some (kinE ks) := by
  refine Fline_kindsError_of _ _ ?_
  unfold tline_kindsError kinE
  simp only [containsNk_is ks hl, lnFirst3_is, bindO_val, bif_eq, bif_dec]
  by_cases h1 : ks.length = 0
  · rw [if_pos (by omega), if_pos h1, if_neg (by omega)]
    cases ks.any kvB <;> rfl
  · rw [if_neg (by omega), if_neg h1]
    by_cases h2 : 4 < ks.length
    · rw [if_pos (by omega), if_pos h2]
      cases ks.any kvB <;> rfl
    · rw [if_neg (by omega), if_neg h2]
      cases ks.any kvB <;> rfl
def keS (b : Bool) : Int ⊕ Unit := if b = true then .inl 14 else .inr ()
theorem refKinds_loop (l : List Int) (hl : l.length < 4294967296) : ∀ i, i ≤ l.length →
    RRfKindsErr_0 (TRfKindsErr_0a l.length (encI l) i) = exO (XLRfKindsErr_0.fn (keS ((l.drop i).any kvB))) := by
  refine up_ind _ ?_ ?_
  · refine RRfKindsErr_0a_of _ _ _ ?_
    unfold BRfKindsErr_0a
    rw [bif_neg (by omega), List.drop_length]
    rfl
  · intro i hi ih
    obtain ⟨x, hx, hd⟩ := get_drop hi
    refine RRfKindsErr_0a_of _ _ _ ?_
    unfold BRfKindsErr_0a
    rw [bif_pos (by omega), bif_pos (by omega)]
    simp only [Int.toNat_natCast, Nat.mul_one, encI_get, hx, Option.map_some, intC_int, bindO_val, refKindErr_is, bif_ne]
    rw [hd, w64_in (by omega), List.any_cons]
    by_cases he : rangeE x 0 3 = 0
    · rw [if_pos he, show kvB x = false by unfold kvB; rw [he]; rfl, Bool.false_or]
      exact ih
    · rw [if_neg he, show kvB x = true by unfold kvB; exact decide_eq_true he, Bool.true_or]
      rfl
theorem refKinds_is (ks : List Int) : FRfKindsErr [.list ks.length (encI ks)] = some (kinE ks) := by
  refine FRfKindsErr_of _ _ ?_
  unfold tRfKindsErr kinE
  rw [bif_eq]
  by_cases h1 : ks.length = 0
  · rw [if_pos (by omega), if_pos h1]
  · rw [if_neg (by omega), if_neg h1]
    by_cases h2 : 4 < ks.length
    · rw [bif_pos (by omega), if_pos h2]
    · rw [bif_neg (by omega), if_neg h2]
      have := lpO_of IRfKindsErr_0 XIRfKindsErr_0 (refKinds_loop ks (by omega) 0 (by omega))
      rw [List.drop_zero] at this
      have this : LRfKindsErr_0 (TRfKindsErr_0a ks.length (encI ks) 0) = _ := this
      rw [this]
      cases ks.any kvB <;> rfl
/-- What is asked of kinds that are accepted. -/
structure Kd (ks : List Int) : Prop where
  pos : 1 ≤ ks.length
  len : ks.length ≤ 4
  ok : ∀ x ∈ ks, rangeE x 0 3 = 0
theorem kd_ok {ks : List Int} (h : kinE ks = 0) : Kd ks := by
  unfold kinE at h
  split at h
  · cases h
  · split at h
    · cases h
    · split at h
      · cases h
      · rename_i h1 h2 h3
        refine ⟨by omega, by omega, fun x hx => ?_⟩
        by_cases he : rangeE x 0 3 = 0
        · exact he
        · exact absurd (List.any_eq_true.2 ⟨x, hx, decide_eq_true he⟩) h3

/-! ### The best of several -/

abbrev Bs3 : Type := Int × ((Int × Int) × Int)
def bstep (s v : List Int) (n d : Int) (b : Bs3) (k : Int) : Bs3 := if (wsT s v n d k).1.1 * b.2.1.2 < b.2.1.1 * (wsT s v n d k).1.2 then (k, wsT s v n d k) else b
def bst (s v : List Int) (n d : Int) : List Int → Bs3 → Bs3
  | [], b => b
  | k :: r, b => bst s v n d r (bstep s v n d b k)
theorem ws_fb {s v : List Int} {n d : Int} (c : Ca s v n d) (k : Int) : Fb (wsT s v n d k).1 := by
  obtain ⟨m, _, h⟩ := worst_spec c k
  rw [h]
  exact ofFb c k m
theorem bstep_fb {s v : List Int} {n d : Int} (c : Ca s v n d) {b : Bs3} (hb : Fb b.2.1) (k : Int) : Fb (bstep s v n d b k).2.1 := by
  unfold bstep
  split
  · exact ws_fb c k
  · exact hb
theorem bestOf_loop {s v : List Int} {n d : Int} (c : Ca s v n d) (r : List Int) (hr : r.length ≤ 1000) (hk : ∀ x ∈ r, rangeE x 0 3 = 0) : ∀ i, i ≤ r.length → ∀ b : Bs3, Fb b.2.1 →
    Rline_BestOf_0 (Tline_BestOf_0a b.1 r.length (encI r) r.length i s.length (encI s) v.length (encI v) n d b.2.1.1 b.2.1.2 b.2.2) =
      exO (Xline_BestOf_0a ((bst s v n d (r.drop i) b).1, s.length, encI s, v.length, encI v, n, d, (bst s v n d (r.drop i) b).2.1.1, (bst s v n d (r.drop i) b).2.1.2, (bst s v n d (r.drop i) b).2.2)) := by
  refine up_ind _ ?_ ?_
  · intro b _
    refine Rline_BestOf_0a_of _ _ _ _ _ _ _ _ _ _ _ _ _ _ ?_
    unfold Bline_BestOf_0a
    rw [bif_neg (by omega), List.drop_length]
    rfl
  · intro i hi ih b hb
    obtain ⟨x, hx, hd⟩ := get_drop hi
    have kx := hk x (List.mem_of_getElem? hx)
    have step : ∀ q, Rline_BestOf_0 (Tline_BestOf_0a (bstep s v n d b x).1 r.length (encI r) r.length ((i + 1 : Nat) : Int) s.length (encI s) v.length (encI v) n d (bstep s v n d b x).2.1.1 (bstep s v n d b x).2.1.2 (bstep s v n d b x).2.2) = some q →
        Rline_BestOf_0 (Tline_BestOf_0a b.1 r.length (encI r) r.length i s.length (encI s) v.length (encI v) n d b.2.1.1 b.2.1.2 b.2.2) = some q := by
      intro q hq
      refine Rline_BestOf_0a_of _ _ _ _ _ _ _ _ _ _ _ _ _ _ ?_
      unfold Bline_BestOf_0a
      rw [bif_pos (by omega), bif_pos (by omega)]
      simp only [Int.toNat_natCast, Nat.mul_one, encI_get, hx, Option.map_some, intC_int, bindO_val, worstOf_is c kx, isLess_is (ws_fb c x) hb]
      rw [w64_in (by omega)]
      unfold bstep at hq
      by_cases h : (wsT s v n d x).1.1 * b.2.1.2 < b.2.1.1 * (wsT s v n d x).1.2
      · rw [if_pos h] at hq
        rw [bif_pos h]
        exact hq
      · rw [if_neg h] at hq
        rw [bif_neg h]
        exact hq
    refine step _ ?_
    rw [hd, bst]
    exact ih _ (bstep_fb c hb x)
def b0 (s v : List Int) (n d : Int) (ks : List Int) : Bs3 := bst s v n d (ks.drop 1) (ks.getD 0 0, wsT s v n d (ks.getD 0 0))
def boE (s v : List Int) (n d : Int) (ks : List Int) : Int := both (caE s v n d) (kinE ks)
theorem bestOf_is (s v : List Int) (hs : s.length < 4294967296) (hv : v.length < 4294967296) {n d : Int} (hd : I64 d) (ks : List Int) (hl : ks.length < 4294967296) :
    Fline_BestOf [.agg [.list s.length (encI s), .list v.length (encI v), .int .i64 n, .int .i64 d], .list ks.length (encI ks)] =
      some (if boE s v n d ks ≠ 0 then (0, (0, (0, (0, boE s v n d ks)))) else ((b0 s v n d ks).1, ((b0 s v n d ks).2.1.1, ((b0 s v n d ks).2.1.2, ((b0 s v n d ks).2.2, 0))))) := by
  refine Fline_BestOf_of _ _ _ _ _ _ _ _ ?_
  unfold tline_BestOf
  simp only [checkCase_is s v hs hv hd, kindsError_is ks hl, lnFirst2_is, bindO_val, bif_ne]
  rw [show both (caE s v n d) (kinE ks) = boE s v n d ks from rfl]
  by_cases he : boE s v n d ks = 0
  · obtain ⟨e1, e2⟩ := both_nil he
    have c := ca_ok e1
    have k := kd_ok e2
    have kp := k.pos; have kl := k.len
    have g0 := get_getD (l := ks) (i := 0) 0 (by omega)
    have k0 := k.ok _ (getD_mem (l := ks) (i := 0) (by omega))
    have dl : (ks.drop 1).length = ks.length - 1 := List.length_drop
    have lp := Lline_BestOf_0a_of (bestOf_loop c (ks.drop 1) (by omega) (fun x hx => k.ok x (List.mem_of_mem_drop hx)) 0 (by omega) (ks.getD 0 0, wsT s v n d (ks.getD 0 0)) (ws_fb c _))
    rw [List.drop_zero, dl, show ((0 : Nat) : Int) = 0 from rfl] at lp
    have tk : List.take ((ks.length - 1) * 1) (List.drop 1 (encI ks)) = encI (ks.drop 1) := by
      rw [Nat.mul_one, List.take_of_length_le (by simp)]
      unfold encI
      rw [List.map_drop]
    rw [if_pos he, if_neg (by rw [he]; exact fun h => h rfl)]
    rw [bif_pos (by omega)]
    simp only [encI_get, g0, Option.map_some, intC_int, bindO_val]
    rw [bif_pos (by omega)]
    simp only [worstOf_is c k0, bindO_val]
    rw [bif_pos (by omega), bif_pos (by right; simp; omega), tk, lp]
    rfl
  · rw [if_neg he, if_pos he]
theorem refBest_loop {s v : List Int} {n d : Int} (c : Ca s v n d) {ks : List Int} (hl : ks.length ≤ 1000) (hk : ∀ x ∈ ks, rangeE x 0 3 = 0) : ∀ i, i ≤ ks.length → ∀ b : Bs3, Fb b.2.1 →
    RRfBest_0 (TRfBest_0a ks.length (encI ks) b.1 i s.length (encI s) v.length (encI v) n d b.2.1.1 b.2.1.2 b.2.2) =
      exO (XRfBest_0a ((bst s v n d (ks.drop i) b).1, s.length, encI s, v.length, encI v, n, d, (bst s v n d (ks.drop i) b).2.1.1, (bst s v n d (ks.drop i) b).2.1.2, (bst s v n d (ks.drop i) b).2.2)) := by
  refine up_ind _ ?_ ?_
  · intro b _
    refine RRfBest_0a_of _ _ _ _ _ _ _ _ _ _ _ _ _ ?_
    unfold BRfBest_0a
    rw [bif_neg (by omega), List.drop_length]
    rfl
  · intro i hi ih b hb
    obtain ⟨x, hx, hd⟩ := get_drop hi
    have kx := hk x (List.mem_of_getElem? hx)
    have hw := ws_fb c x
    have step : ∀ q, RRfBest_0 (TRfBest_0a ks.length (encI ks) (bstep s v n d b x).1 ((i + 1 : Nat) : Int) s.length (encI s) v.length (encI v) n d (bstep s v n d b x).2.1.1 (bstep s v n d b x).2.1.2 (bstep s v n d b x).2.2) = some q →
        RRfBest_0 (TRfBest_0a ks.length (encI ks) b.1 i s.length (encI s) v.length (encI v) n d b.2.1.1 b.2.1.2 b.2.2) = some q := by
      intro q hq
      refine RRfBest_0a_of _ _ _ _ _ _ _ _ _ _ _ _ _ ?_
      unfold BRfBest_0a
      have q1 : decide ((0 : Int) ≤ ((i : Nat) : Int) ∧ ((i : Nat) : Int) < (ks.length : Int)) = true := decide_eq_true (by omega)
      rw [bif_pos (by omega)]
      simp only [q1, cond_true, Int.toNat_natCast, Nat.mul_one, encI_get, hx, Option.map_some, intC_int, bindO_val, refWorst_is c kx, cmp_is (fb_mul hw hb) (fb_mul hb hw)]
      rw [w64_in (by omega)]
      unfold bstep at hq
      unfold cmpF
      by_cases h : (wsT s v n d x).1.1 * b.2.1.2 < b.2.1.1 * (wsT s v n d x).1.2
      · rw [if_pos h] at hq
        rw [if_pos h, bif_pos (by omega)]
        exact hq
      · rw [if_neg h] at hq
        rw [if_neg h]
        by_cases h2 : (wsT s v n d x).1.1 * b.2.1.2 > b.2.1.1 * (wsT s v n d x).1.2
        · rw [if_pos h2, bif_neg (by omega)]
          exact hq
        · rw [if_neg h2, bif_neg (by omega)]
          exact hq
    refine step _ ?_
    rw [hd, bst]
    exact ih _ (bstep_fb c hb x)
theorem refBest_is {s v : List Int} {n d : Int} (c : Ca s v n d) {ks : List Int} (k : Kd ks) :
    FRfBest [.agg [.list s.length (encI s), .list v.length (encI v), .int .i64 n, .int .i64 d], .list ks.length (encI ks)] =
      some ((b0 s v n d ks).1, ((b0 s v n d ks).2.1.1, ((b0 s v n d ks).2.1.2, (b0 s v n d ks).2.2))) := by
  refine FRfBest_of _ _ _ _ _ _ _ _ ?_
  unfold tRfBest
  have kp := k.pos; have kl := k.len
  have g0 := get_getD (l := ks) (i := 0) 0 (by omega)
  have k0 := k.ok _ (getD_mem (l := ks) (i := 0) (by omega))
  have lp := LRfBest_0a_of (refBest_loop c (ks := ks) (by omega) k.ok 1 (by omega) (ks.getD 0 0, wsT s v n d (ks.getD 0 0)) (ws_fb c _))
  rw [show ((1 : Nat) : Int) = 1 from rfl] at lp
  have q1 : decide ((0 : Int) ≤ (0 : Int) ∧ (0 : Int) < (ks.length : Int)) = true := decide_eq_true (by omega)
  simp only [q1, cond_true, encI_get, g0, Option.map_some, intC_int, bindO_val, refWorst_is c k0, lp]
  rfl

/-! ### None is better, and none before is as good -/

theorem lt_of_lt_le {a b c : Int × Int} (ha : 0 < a.2) (hb : 0 < b.2) (hc : 0 < c.2) (h1 : ltF a b) (h2 : ¬ ltF c b) : ltF a c := by
  unfold ltF at *
  have e1 : b.1 * c.2 ≤ c.1 * b.2 := by omega
  have m1 := Int.mul_le_mul_of_nonneg_right e1 (show 0 ≤ a.2 by omega)
  have m2 := Int.mul_lt_mul_of_pos_right h1 hc
  refine Int.lt_of_mul_lt_mul_right (a := b.2) ?_ (by omega)
  rw [show a.1 * c.2 * b.2 = a.1 * b.2 * c.2 by grind, show c.1 * a.2 * b.2 = c.1 * b.2 * a.2 by grind]
  rw [show b.1 * c.2 * a.2 = b.1 * a.2 * c.2 by grind] at m1
  omega
structure Be (s v : List Int) (n d : Int) (ks : List Int) (i m : Nat) : Prop where
  lt : m < i
  low : ∀ j, j < i → ¬ ltF (wsT s v n d (ks.getD j 0)).1 (wsT s v n d (ks.getD m 0)).1
  first : ∀ j, j < m → ltF (wsT s v n d (ks.getD m 0)).1 (wsT s v n d (ks.getD j 0)).1
theorem bst_spec {s v : List Int} {n d : Int} (c : Ca s v n d) (ks : List Int) : ∀ q i m, i + q = ks.length → Be s v n d ks i m →
    ∃ m', Be s v n d ks ks.length m' ∧ bst s v n d (ks.drop i) (ks.getD m 0, wsT s v n d (ks.getD m 0)) = (ks.getD m' 0, wsT s v n d (ks.getD m' 0))
  | 0, i, m, h, b => by
    have : i = ks.length := by omega
    subst this
    exact ⟨m, b, by rw [List.drop_length]; rfl⟩
  | q + 1, i, m, h, b => by
    obtain ⟨x, hx, hd⟩ := get_drop (l := ks) (i := i) (by omega)
    have gx : ks.getD i 0 = x := by rw [List.getD_eq_getElem?_getD, hx]; rfl
    rw [hd, bst]
    have F := fun k => ws_fb c k
    unfold bstep
    simp only []
    by_cases hl : ltF (wsT s v n d (ks.getD i 0)).1 (wsT s v n d (ks.getD m 0)).1
    · have hl' : (wsT s v n d x).1.1 * (wsT s v n d (ks.getD m 0)).1.2 < (wsT s v n d (ks.getD m 0)).1.1 * (wsT s v n d x).1.2 := by rw [← gx]; exact hl
      rw [if_pos hl']
      have nb : Be s v n d ks (i + 1) i := by
        have st : ∀ j, j < i → ltF (wsT s v n d (ks.getD i 0)).1 (wsT s v n d (ks.getD j 0)).1 := fun j hj => lt_of_lt_le (F _).2.2.1 (F _).2.2.1 (F _).2.2.1 hl (b.low j hj)
        refine ⟨by omega, fun j hj => ?_, st⟩
        by_cases he : j = i
        · subst he
          exact fun q => lt_irr q rfl
        · have := st j (by omega)
          unfold ltF at *
          omega
      have := bst_spec c ks q (i + 1) i (by omega) nb
      rw [gx] at this
      exact this
    · have hl' : ¬ (wsT s v n d x).1.1 * (wsT s v n d (ks.getD m 0)).1.2 < (wsT s v n d (ks.getD m 0)).1.1 * (wsT s v n d x).1.2 := by rw [← gx]; exact hl
      rw [if_neg hl']
      refine bst_spec c ks q (i + 1) m (by omega) ⟨by have := b.lt; omega, fun j hj => ?_, b.first⟩
      by_cases he : j = i
      · subst he
        exact hl
      · exact b.low j (by omega)
theorem best_spec {s v : List Int} {n d : Int} (c : Ca s v n d) {ks : List Int} (k : Kd ks) : ∃ m, Be s v n d ks ks.length m ∧ b0 s v n d ks = (ks.getD m 0, wsT s v n d (ks.getD m 0)) := by
  have kp := k.pos
  refine bst_spec c ks (ks.length - 1) 1 0 (by omega) ⟨by omega, fun j hj => ?_, fun j hj => by omega⟩
  have : j = 0 := by omega
  subst this
  exact fun q => lt_irr q rfl

/-! ### The law -/

def p65 (s v : List Int) (n d : Int) (ks : List Int) : Unit ⊕ (Nat × List PV × Nat × List PV × Nat × List PV × Int × Int) :=
  if (decide (s.length ≤ 20) && (decide (v.length ≤ 20) && (decide (caE s v n d ≠ 0) || decide (cnt s v ≤ 256)))) = true ∧ ks.length ≤ 6 then .inr (ks.length, encI ks, s.length, encI s, v.length, encI v, n, d) else .inl ()
theorem be65 (s v : List Int) {n d : Int} (hd : I64 d) (ks : List Int) :
    RLwLineBest_1000065 (TLwLineBest_1000065a ks.length (encI ks) s.length (encI s) v.length (encI v) n d) = exO (XLLwLineBest_1000065.fn (p65 s v n d ks)) := by
  refine RLwLineBest_1000065a_of _ _ _ _ _ _ _ _ ?_
  unfold BLwLineBest_1000065a p65
  simp only [light_is s v hd, bindO_val]
  cases hb : (decide (s.length ≤ 20) && (decide (v.length ≤ 20) && (decide (caE s v n d ≠ 0) || decide (cnt s v ≤ 256)))) with
  | true =>
    by_cases h : ks.length ≤ 6
    · rw [cond_true, bif_neg (by omega), if_pos ⟨rfl, h⟩]
      rfl
    · rw [cond_true, bif_pos (by omega), if_neg (fun k => h k.2)]
      rfl
  | false =>
    rw [if_neg (fun k => by cases k.1)]
    rfl
theorem be54 (s v : List Int) (n d a b x y z : Int) (ks : List Int) :
    RLwLineBest_1000054 (TLwLineBest_1000054a ks.length (encI ks) a b (caE s v n d) s.length (encI s) v.length (encI v) n d x y z) =
      exO (XLwLineBest_1000054a (ks.length, encI ks, a, b, boE s v n d ks, s.length, encI s, v.length, encI v, n, d, x, y, z)) := by
  refine RLwLineBest_1000054a_of _ _ _ _ _ _ _ _ _ _ _ _ _ _ ?_
  unfold BLwLineBest_1000054a boE both
  rw [bif_eq]
  by_cases h : caE s v n d = 0
  · rw [if_pos h, if_neg (by rw [h]; exact fun h => h rfl)]
    simp only [refKinds_is, bindO_val]
    rfl
  · rw [if_neg h, if_pos h]
    rfl
theorem be41 (s v : List Int) (n d k x y z : Int) (ks : List Int) :
    RLwLineBest_1000041 (TLwLineBest_1000041a ks.length (encI ks) k 0 k s.length (encI s) v.length (encI v) n d x y z x y z) =
      exO (XLwLineBest_1000041b (ks.length, encI ks, k, s.length, encI s, v.length, encI v, n, d, x, y, z)) := by
  refine RLwLineBest_1000041a_of _ _ _ _ _ _ _ _ _ _ _ _ _ _ _ _ _ ?_
  unfold BLwLineBest_1000041a
  simp only [bif_ne, if_true, eq3, Bool.not_true, cond_false]
  rfl
theorem be17 {s v : List Int} {n d : Int} (c : Ca s v n d) (k x y z i kind : Int) (b : Bool) (ks : List Int) :
    RLwLineBest_1000017 (TLwLineBest_1000017a ks.length (encI ks) k b i 0 s.length (encI s) v.length (encI v) n d x y z (wsT s v n d kind).1.1 (wsT s v n d kind).1.2 (wsT s v n d kind).2) =
      exO (XLwLineBest_1000017b (ks.length, encI ks, k, b, i, s.length, encI s, v.length, encI v, n, d, x, y, z, (wsT s v n d kind).1.1, (wsT s v n d kind).1.2, (wsT s v n d kind).2)) := by
  refine RLwLineBest_1000017a_of _ _ _ _ _ _ _ _ _ _ _ _ _ _ _ _ _ _ ?_
  unfold BLwLineBest_1000017a
  obtain ⟨b1, b2, b3, b4⟩ := ws_fb c kind
  have lo : loQ (wsT s v n d kind).1.1 (wsT s v n d kind).1.2 := by
    obtain ⟨m, _, h⟩ := worst_spec c kind
    rw [h]
    exact of_lo c kind m
  simp only [bif_ne, if_true, lowest_tt lo (by omega), small_is (n := (wsT s v n d kind).1.1) (d := (wsT s v n d kind).1.2) (by omega) (by omega), bindO_val, cond_true]
  rfl
theorem be22 {s v : List Int} {n d : Int} (c : Ca s v n d) (h0 : caE s v n d = 0) {ks : List Int} (k : Kd ks) {m : Nat} (hm : Be s v n d ks ks.length m) {i : Nat} (hi : i < ks.length) (b : Bool) (hb : m < i → b = true) :
    ∃ b' : Bool, (m < i + 1 → b' = true) ∧ RLwLineBest_1000022 (TLwLineBest_1000022a ks.length (encI ks) (ks.getD m 0) b i s.length (encI s) v.length (encI v) n d (wsT s v n d (ks.getD m 0)).1.1 (wsT s v n d (ks.getD m 0)).1.2 (wsT s v n d (ks.getD m 0)).2) =
      exO (XLwLineBest_1000022b (ks.length, encI ks, ks.getD m 0, b', (i : Int), s.length, encI s, v.length, encI v, n, d, (wsT s v n d (ks.getD m 0)).1.1, (wsT s v n d (ks.getD m 0)).1.2, (wsT s v n d (ks.getD m 0)).2)) := by
  have hs := c.sp.len; have hv := c.nz.len
  have d0 := c.lo.1; have d1 := c.db
  have id : I64 d := by unfold I64; omega
  have ki := k.ok _ (getD_mem hi)
  have kl := k.len
  have w1 := ws_fb c (ks.getD i 0)
  have w2 := ws_fb c (ks.getD m 0)
  have cm := cmp_is (fb_mul w1 w2) (fb_mul w2 w1)
  have low := hm.low i hi
  have ge : ¬ cmpF (wsT s v n d (ks.getD i 0)).1 (wsT s v n d (ks.getD m 0)).1 < 0 := by
    unfold cmpF
    unfold ltF at low
    rw [if_neg low]
    split <;> omega
  have er : both (caE s v n d) (if rangeE (ks.getD i 0) 0 3 = 0 then 0 else 14) = 0 := by rw [h0, if_pos ki]; rfl
  have q1 : decide ((0 : Int) ≤ ((i : Nat) : Int) ∧ ((i : Nat) : Int) < (ks.length : Int)) = true := decide_eq_true (by omega)
  have l17 := fun (x y z kk : Int) b => LLwLineBest_1000017b_of (be17 c kk x y z (i : Int) (ks.getD i 0) b ks)
  by_cases hq : b = true ∨ ks.getD i 0 = ks.getD m 0
  · refine ⟨true, fun _ => rfl, ?_⟩
    refine RLwLineBest_1000022a_of _ _ _ _ _ _ _ _ _ _ _ _ _ _ ?_
    unfold BLwLineBest_1000022a
    simp only [copyCase_is s v (by omega) (by omega), q1, cond_true, Int.toNat_natCast, Nat.mul_one, encI_get, get_getD 0 hi, Option.map_some, intC_int, bindO_val, worstOfAll_is s v (by omega) (by omega) id, er, ne_eq, not_true_eq_false, if_false, l17, Sum.elim_inr, cm, bif_eq, bif_dec, ge]
    cases b with
    | true =>
      rw [cond_true]
      split <;> first | rfl | (split <;> rfl)
    | false =>
      have hq : ks.getD i 0 = ks.getD m 0 := hq.elim (fun h => by cases h) (fun h => h)
      rw [cond_false, if_pos (show (0 : Int) ≤ ((i : Nat) : Int) ∧ ((i : Nat) : Int) < (ks.length : Int) by omega)]
      simp only [hq, if_true]
      split <;> rfl
  · have b1 : b = false := by cases b with
      | true => exact absurd (.inl rfl) hq
      | false => rfl
    have ne : ks.getD i 0 ≠ ks.getD m 0 := fun h => hq (.inr h)
    subst b1
    have im : i < m := by
      by_cases h : m < i
      · have := hb h; cases this
      · by_cases h2 : i = m
        · subst h2; exact absurd rfl ne
        · omega
    refine ⟨false, fun h => by omega, ?_⟩
    have st := hm.first i im
    have ne0 : ¬ cmpF (wsT s v n d (ks.getD i 0)).1 (wsT s v n d (ks.getD m 0)).1 = 0 := by
      unfold cmpF
      unfold ltF at st low
      rw [if_neg low, if_pos (by omega)]
      omega
    refine RLwLineBest_1000022a_of _ _ _ _ _ _ _ _ _ _ _ _ _ _ ?_
    unfold BLwLineBest_1000022a
    simp only [copyCase_is s v (by omega) (by omega), q1, cond_true, cond_false, Int.toNat_natCast, Nat.mul_one, encI_get, get_getD 0 hi, Option.map_some, intC_int, bindO_val, worstOfAll_is s v (by omega) (by omega) id, er, ne_eq, not_true_eq_false, if_false, l17, Sum.elim_inr, cm, bif_eq, bif_dec, ge, ne, ne0]
    rw [if_pos (show (0 : Int) ≤ ((i : Nat) : Int) ∧ ((i : Nat) : Int) < (ks.length : Int) by omega)]
    rfl
theorem be0 {s v : List Int} {n d : Int} (c : Ca s v n d) (h0 : caE s v n d = 0) {ks : List Int} (k : Kd ks) {m : Nat} (hm : Be s v n d ks ks.length m) : ∀ i, i ≤ ks.length → ∀ b : Bool, (m < i → b = true) →
    RLwLineBest_0 (TLwLineBest_0a ks.length (encI ks) (ks.getD m 0) b i s.length (encI s) v.length (encI v) n d (wsT s v n d (ks.getD m 0)).1.1 (wsT s v n d (ks.getD m 0)).1.2 (wsT s v n d (ks.getD m 0)).2) =
      exO (XLwLineBest_0a (true, s.length, encI s, v.length, encI v, n, d, (wsT s v n d (ks.getD m 0)).1.1, (wsT s v n d (ks.getD m 0)).1.2, (wsT s v n d (ks.getD m 0)).2)) := by
  have kl := k.len
  refine up_ind _ ?_ ?_
  · intro b hb
    have bt := hb hm.lt
    subst bt
    refine RLwLineBest_0a_of _ _ _ _ _ _ _ _ _ _ _ _ _ _ ?_
    unfold BLwLineBest_0a
    rw [bif_neg (by omega)]
    rfl
  · intro i hi ih b hb
    obtain ⟨b', h1, h2⟩ := be22 c h0 k hm hi b hb
    refine RLwLineBest_0a_of _ _ _ _ _ _ _ _ _ _ _ _ _ _ ?_
    unfold BLwLineBest_0a
    rw [bif_pos (by omega), LLwLineBest_1000022b_of h2]
    simp only [bindO_val, Sum.elim_inr]
    rw [w64_in (by omega)]
    exact ih b' h1

theorem bestLaw (s v : List Int) {n d : Int} (hd : I64 d) (ks : List Int) :
    FLwLineBest [.agg [.list s.length (encI s), .list v.length (encI v), .int .i64 n, .int .i64 d], .list ks.length (encI ks)] = some true := by
  refine FLwLineBest_of _ _ _ _ _ _ _ _ ?_
  unfold tLwLineBest
  have q := lpO_of ILwLineBest_1000065 XILwLineBest_1000065 (be65 s v (n := n) hd ks)
  have q : LLwLineBest_1000065 (TLwLineBest_1000065a ks.length (encI ks) s.length (encI s) v.length (encI v) n d) = _ := q
  simp only [awakeL_is, bindO_val, cond_true, q]
  unfold p65
  by_cases hl : (decide (s.length ≤ 20) && (decide (v.length ≤ 20) && (decide (caE s v n d ≠ 0) || decide (cnt s v ≤ 256)))) = true ∧ ks.length ≤ 6
  · rw [if_pos hl]
    have h1 : s.length ≤ 20 := by have := hl.1; simp at this; exact this.1
    have h2 : v.length ≤ 20 := by have := hl.1; simp at this; exact this.2.1
    have h3 := hl.2
    have l54 := fun a b x y z => LLwLineBest_1000054a_of (be54 s v n d a b x y z ks)
    simp only [Sum.elim_inr, copyCase_is s v (by omega) (by omega), lcopyI_is ks (by omega), bestOf_is s v (by omega) (by omega) hd ks (by omega), refCaseErr_is s v hd, l54, bindO_val, bif_ne, bif_eq]
    by_cases he : boE s v n d ks = 0
    · obtain ⟨e1, e2⟩ := both_nil he
      have c := ca_ok e1
      have k := kd_ok e2
      obtain ⟨m, hm, hb⟩ := best_spec c k
      have l41 := fun kk x y z => LLwLineBest_1000041b_of (be41 s v n d kk x y z ks)
      have l0 := LLwLineBest_0a_of (be0 c e1 k hm 0 (by omega) false (by omega))
      rw [show ((0 : Nat) : Int) = 0 from rfl] at l0
      simp only [he, ne_eq, not_true_eq_false, if_false, if_true, refBest_is c k, hb, l41, l0, bindO_val, Sum.elim_inr, Sum.elim_inl, cond_true]
    · simp only [he, ne_eq, not_false_eq_true, if_true, if_false]
      rfl
  · rw [if_neg hl]
    rfl
end Gv
