/- The bound is reached: the worst of all cases is that of one of them, and none is farther; the bias is no greater. -/
import Derived.Test.YtdbnojfklmfniaaMCb
import Derived.Test.YtdbnojfklmfniaaM17
namespace Gv
open Go
set_option maxRecDepth 100000

/-! ### The worst of many -/

def ltF (f g : Int × Int) : Prop := f.1 * g.2 < g.1 * f.2
theorem lt_of_le_lt {a b c : Int × Int} (hb : 0 < b.2) (h1 : ¬ ltF b a) (ha : 0 < a.2) (hc : 0 < c.2) (h2 : ltF b c) : ltF a c := by
  unfold ltF at *
  have e1 : a.1 * b.2 ≤ b.1 * a.2 := by omega
  have m1 := Int.mul_le_mul_of_nonneg_right e1 (show 0 ≤ c.2 by omega)
  have m2 := Int.mul_lt_mul_of_pos_right h2 ha
  refine Int.lt_of_mul_lt_mul_right (a := b.2) ?_ (by omega)
  rw [show a.1 * c.2 * b.2 = a.1 * b.2 * c.2 by grind, show c.1 * a.2 * b.2 = c.1 * b.2 * a.2 by grind]
  rw [show b.1 * a.2 * c.2 = b.1 * c.2 * a.2 by grind] at m1
  omega
theorem lt_irr {a b : Int × Int} (h : ltF a b) : a ≠ b := by
  intro e
  subst e
  unfold ltF at h
  omega
/-- A state is the first worst one of those before an index. -/
structure Wo (f : Nat → Int × Int) (i m : Nat) : Prop where
  lt : m < i
  top : ∀ j, j < i → ¬ ltF (f m) (f j)
  first : ∀ j, j < m → ltF (f j) (f m)
theorem wsG_spec {f : Nat → Int × Int} (hf : ∀ k, Fb (f k)) : ∀ n i m, Wo f i m → ∃ m', Wo f (i + n) m' ∧ wsG f n i (f m, (m : Int)) = (f m', (m' : Int))
  | 0, i, m, h => ⟨m, h, rfl⟩
  | n + 1, i, m, h => by
    rw [wsG, show i + (n + 1) = i + 1 + n by omega]
    unfold wsS
    simp only []
    by_cases hl : ltF (f m) (f i)
    · rw [if_pos (show (f m).1 * (f i).2 < (f i).1 * (f m).2 from hl)]
      refine wsG_spec hf n (i + 1) i ⟨by omega, fun j hj => ?_, fun j hj => lt_of_le_lt (hf m).2.2.1 (h.top j hj) (hf j).2.2.1 (hf i).2.2.1 hl⟩
      by_cases he : j = i
      · subst he
        exact fun q => lt_irr q rfl
      · have := lt_of_le_lt (hf m).2.2.1 (h.top j (by omega)) (hf j).2.2.1 (hf i).2.2.1 hl
        unfold ltF at *
        omega
    · rw [if_neg (show ¬ (f m).1 * (f i).2 < (f i).1 * (f m).2 from hl)]
      refine wsG_spec hf n (i + 1) m ⟨by have := h.lt; omega, fun j hj => ?_, h.first⟩
      by_cases he : j = i
      · subst he
        exact hl
      · exact h.top j (by omega)
theorem of_zero {s v : List Int} {n d : Int} (c : Ca s v n d) (kind : Int) : wsG (ofN s v n d kind) (cnt s v) 0 (ofN s v n d kind 0, 0) = wsT s v n d kind := by
  have h0 := ofFb c kind 0
  have hp := cnt_pos c
  unfold wsT
  obtain ⟨m, hm⟩ : ∃ m, cnt s v = m + 1 := ⟨cnt s v - 1, by omega⟩
  rw [hm, wsG, wsG]
  congr 1
  have a1 : wsS (ofN s v n d kind) 0 (ofN s v n d kind 0, 0) = (ofN s v n d kind 0, 0) := by
    unfold wsS
    rw [if_neg (by simp only []; omega)]
  rw [a1]
  unfold wsS
  simp only []
  obtain ⟨b1, b2, b3, b4⟩ := h0
  by_cases h : (0 : Int) * (ofN s v n d kind 0).2 < (ofN s v n d kind 0).1 * 1
  · rw [if_pos h]
    rfl
  · rw [if_neg h]
    have z : (ofF s v n d kind (0 : Nat)).1 = 0 := by unfold ofN at h; omega
    have o : ofF s v n d kind (0 : Nat) = (0, 1) := by
      have y := (pd_ok c kind (0 : Nat)).y
      have g := lowF_gcd (n := ((ofX s v n d kind (0 : Nat)).natAbs : Int)) (d := ofY s v d kind (0 : Nat)) y.1
      rw [show lowF ((ofX s v n d kind (0 : Nat)).natAbs : Int) (ofY s v d kind (0 : Nat)) = ofF s v n d kind (0 : Nat) from rfl, z, Int.gcd_zero_left] at g
      refine Prod.ext z ?_
      show (ofF s v n d kind (0 : Nat)).2 = 1
      omega
    unfold ofN
    rw [o]
theorem worst_spec {s v : List Int} {n d : Int} (c : Ca s v n d) (kind : Int) : ∃ m, Wo (ofN s v n d kind) (cnt s v) m ∧ wsT s v n d kind = (ofN s v n d kind m, (m : Int)) := by
  have hp := cnt_pos c
  obtain ⟨q, hq⟩ : ∃ q, cnt s v = q + 1 := ⟨cnt s v - 1, by omega⟩
  have hf : ∀ k, Fb (ofN s v n d kind k) := fun k => ofFb c kind k
  have h0 : Wo (ofN s v n d kind) 1 0 := ⟨by omega, fun j hj => by
    have : j = 0 := by omega
    subst this
    exact fun q => lt_irr q rfl, fun j hj => by omega⟩
  obtain ⟨m, h1, h2⟩ := wsG_spec hf q 1 0 h0
  rw [show 1 + q = cnt s v by omega] at h1
  refine ⟨m, h1, ?_⟩
  rw [← of_zero c kind, hq, wsG]
  have a1 : wsS (ofN s v n d kind) 0 (ofN s v n d kind 0, 0) = (ofN s v n d kind 0, 0) := by
    unfold wsS
    rw [if_neg (by simp only []; omega)]
  rw [a1]
  exact h2

/-! ### What is asked of each fraction -/

theorem lo_eo {l : List Int} {f : Int × Int} (h : Eo l f) : loQ f.1 f.2 := ⟨h.den, h.gcd⟩
theorem of_lo {s v : List Int} {n d : Int} (c : Ca s v n d) (kind : Int) (k : Nat) : loQ (ofN s v n d kind k).1 (ofN s v n d kind k).2 := by
  have y := (pd_ok c kind (k : Int)).y
  exact ⟨lowF_den y.1, lowF_gcd y.1⟩
theorem small_is {n d : Int} (h : 1 ≤ d ∧ d ≤ 1000000000) (h2 : -1000000000 ≤ n ∧ n ≤ 1000000000) : FBsIsSmall [.agg [.int .i64 n, .int .i64 d]] = some true := by
  rw [refIsSmall_is, decide_eq_true (by unfold laQ; omega)]
theorem lowest_tt {n d : Int} (h : loQ n d) (hd : d ≤ 1000000000) : FBsIsLowest [.agg [.int .i64 n, .int .i64 d]] = some true := by
  have := h.1
  rw [refIsLowest_is (by unfold I64; omega), decide_eq_true h]

/-! ### CheckWorst accepts the worst -/

theorem cw_loop {s v : List Int} {n d : Int} (c : Ca s v n d) {kind : Int} (hk : rangeE kind 0 3 = 0) {m : Nat} (hm : Wo (ofN s v n d kind) (cnt s v) m) (x : Int) : ∀ i, i ≤ cnt s v →
    Rline_CheckWorst_3000059 (Tline_CheckWorst_3000059a (cnt s v) (en2 (caF s v) (cnt s v)) i s.length (encI s) v.length (encI v) n d kind (ofN s v n d kind m).1 (ofN s v n d kind m).2 x) =
      exO (Xline_CheckWorst_3000059b (s.length, encI s, v.length, encI v, n, d, kind, (ofN s v n d kind m).1, (ofN s v n d kind m).2, x)) := by
  have hc := c.cs
  refine up_ind _ ?_ ?_
  · refine Rline_CheckWorst_3000059a_of _ _ _ _ _ _ _ _ _ _ _ _ _ ?_
    unfold Bline_CheckWorst_3000059a
    rw [bif_neg (by omega)]
    rfl
  · intro i hi ih
    refine Rline_CheckWorst_3000059a_of _ _ _ _ _ _ _ _ _ _ _ _ _ ?_
    unfold Bline_CheckWorst_3000059a
    have lt := hm.top i hi
    unfold ltF ofN at lt
    rw [bif_pos (by omega), bif_pos (by omega)]
    simp only [Int.toNat_natCast, en2_0 (caF s v) hi, en2_1 (caF s v) hi, caF, intC_int, listC_list, bindO_val, errorIn_is c hk, ofN, isLess_is (ofFb c kind m) (ofFb c kind i)]
    rw [bif_neg lt, w64_in (by omega)]
    exact ih
theorem accepts {s v : List Int} {n d : Int} (c : Ca s v n d) (h0 : caE s v n d = 0) {kind : Int} (hk : rangeE kind 0 3 = 0) {m : Nat} (hm : Wo (ofN s v n d kind) (cnt s v) m) :
    Fline_CheckWorst [.agg [.list s.length (encI s), .list v.length (encI v), .int .i64 n, .int .i64 d], .int .i64 kind, .agg [.int .i64 (ofN s v n d kind m).1, .int .i64 (ofN s v n d kind m).2, .int .i64 (m : Int)]] = some (0, 0) := by
  refine Fline_CheckWorst_of _ _ _ _ _ _ _ _ _ _ ?_
  unfold tline_CheckWorst
  have hs := c.sp.len; have hv := c.nz.len; have hc := c.cs; have lt := hm.lt
  have b := ofFb c kind m
  have lo := of_lo c kind m
  have lp := Lline_CheckWorst_3000059b_of (cw_loop c hk hm (m : Int) 0 (by omega))
  rw [show ((0 : Nat) : Int) = 0 from rfl] at lp
  have d0 := c.lo.1; have d1 := c.db
  have id : I64 d := by unfold I64; omega
  have iw : I64 (ofN s v n d kind m).2 := by have := b.2.2; unfold I64; show _ ≤ (ofF s v n d kind m).2 ∧ (ofF s v n d kind m).2 ≤ _; omega
  have nn : ¬ (ofN s v n d kind m).1 < 0 := by have := b.1; show ¬ (ofF s v n d kind m).1 < 0; omega
  have ca := checkCase_is s v (by omega) (by omega) (n := n) id
  have f3 : first3 0 0 0 = 0 := rfl
  have hn : rangeE (m : Int) 0 ((cnt s v : Int) - 1) = 0 := rangeE_in (by omega)
  have er : Fline_errorIn [.list s.length (encI (nzL s v (m : Int))), .int .i64 kind, .agg [.int .i64 n, .int .i64 d]] = some (ofN s v n d kind m) := errorIn_is c hk m
  simp only [ca, h0, kindError_is, hk, if_true, isLowest_is iw, bindO_val, lo, decide_true, cond_true, nn, decide_false, cond_false, lnFirst3_is, f3, bif_ne, hasNoCase_is s v hv hs, hn, ne_eq, not_true_eq_false,
    noisyC c (k := (m : Int)) (by omega), er, eq2, Bool.not_true, casesIt_is c, lp, Sum.elim_inr]

/-! ### The bias is no greater -/

theorem est_whole {l : List Int} (h : Sp l) {kind : Int} (hk : kind = 0 ∨ kind = 3) : (est l kind).2 = 1 := by
  unfold est
  split
  · rfl
  · rcases hk with rfl | rfl
    · rw [if_neg (by omega), if_neg (by omega), if_neg (by omega)]
    · rw [if_neg (by omega), if_neg (by omega), if_pos rfl]
theorem of_le {s v : List Int} {n d : Int} (c : Ca s v n d) (kind : Int) (k : Nat) {w : Int × Int} (h : ¬ ltF w (ofN s v n d kind k)) :
    ((ofX s v n d kind k).natAbs : Int) * w.2 ≤ w.1 * ofY s v d kind k := by
  have y := (pd_ok c kind (k : Int)).y
  obtain ⟨e1, e2⟩ := lowF_mul ((ofX s v n d kind k).natAbs : Int) (ofY s v d kind k)
  have g := gcd_pos (n := ((ofX s v n d kind k).natAbs : Int)) (d := ofY s v d kind k) y.1
  unfold ltF at h
  have h : (lowF ((ofX s v n d kind k).natAbs : Int) (ofY s v d kind k)).1 * w.2 ≤ w.1 * (lowF ((ofX s v n d kind k).natAbs : Int) (ofY s v d kind k)).2 := by
    show (ofN s v n d kind k).1 * w.2 ≤ w.1 * (ofN s v n d kind k).2
    omega
  have m := Int.mul_le_mul_of_nonneg_right h (show 0 ≤ (Int.gcd ((ofX s v n d kind k).natAbs : Int) (ofY s v d kind k) : Int) by omega)
  obtain ⟨x, hx⟩ : ∃ x, x = (lowF ((ofX s v n d kind k).natAbs : Int) (ofY s v d kind k)).1 := ⟨_, rfl⟩
  obtain ⟨z, hz⟩ : ∃ x, x = (lowF ((ofX s v n d kind k).natAbs : Int) (ofY s v d kind k)).2 := ⟨_, rfl⟩
  obtain ⟨u, hu⟩ : ∃ x : Int, x = (Int.gcd ((ofX s v n d kind k).natAbs : Int) (ofY s v d kind k) : Int) := ⟨_, rfl⟩
  rw [← hx, ← hu] at e1
  rw [← hz, ← hu] at e2
  rw [← hx, ← hz, ← hu, show x * w.2 * u = x * u * w.2 by grind, show w.1 * z * u = w.1 * (z * u) by grind, e1, e2] at m
  exact m
/-- The sum of the errors, with signs, of so many cases from one on. -/
theorem bs_of {s v : List Int} {n d : Int} (c : Ca s v n d) {kind : Int} (hk : kind = 0 ∨ kind = 3) {w : Int × Int} (hw : 0 < w.2) : ∀ (q i : Nat), (∀ j, j < i + q → ¬ ltF w (ofN s v n d kind j)) →
    -((q : Int) * (w.1 * d)) ≤ (bsG s v kind q i * d - n * (q : Int)) * w.2 ∧ (bsG s v kind q i * d - n * (q : Int)) * w.2 ≤ (q : Int) * (w.1 * d)
  | 0, i, _ => by simp [bsG]
  | q + 1, i, h => by
    have r := bs_of c hk hw q (i + 1) (fun j hj => h j (by omega))
    have o := of_le c kind i (h i (by omega))
    have y : ofY s v d kind i = d := by unfold ofY; rw [est_whole (nz_sp c i) hk, Int.one_mul]
    have x : ofX s v n d kind i = (est (nzL s v i) kind).1 * d - n := by unfold ofX; rw [est_whole (nz_sp c i) hk, Int.mul_one]
    rw [y] at o
    obtain ⟨e, he⟩ : ∃ e, e = (est (nzL s v i) kind).1 := ⟨_, rfl⟩
    rw [← he] at x
    rw [bsG, ← he]
    have xa : -(((ofX s v n d kind i).natAbs : Int) * w.2) ≤ ofX s v n d kind i * w.2 ∧ ofX s v n d kind i * w.2 ≤ ((ofX s v n d kind i).natAbs : Int) * w.2 := by
      have a1 := Int.mul_le_mul_of_nonneg_right (show ofX s v n d kind i ≤ ((ofX s v n d kind i).natAbs : Int) by omega) (show 0 ≤ w.2 by omega)
      have a2 := Int.mul_le_mul_of_nonneg_right (show -((ofX s v n d kind i).natAbs : Int) ≤ ofX s v n d kind i by omega) (show 0 ≤ w.2 by omega)
      rw [Int.neg_mul] at a2
      exact ⟨a2, a1⟩
    have s1 : ((e + bsG s v kind q (i + 1)) * d - n * ((q + 1 : Nat) : Int)) * w.2 = ofX s v n d kind i * w.2 + (bsG s v kind q (i + 1) * d - n * (q : Int)) * w.2 := by
      rw [x, show ((q + 1 : Nat) : Int) = (q : Int) + 1 by omega]
      grind
    have s2 : ((q + 1 : Nat) : Int) * (w.1 * d) = w.1 * d + (q : Int) * (w.1 * d) := by
      rw [show ((q + 1 : Nat) : Int) = (q : Int) + 1 by omega]
      grind
    rw [s1, s2]
    omega
theorem bi_le {s v : List Int} {n d : Int} (c : Ca s v n d) {kind : Int} (hk : kind = 0 ∨ kind = 3) {m : Nat} (hm : Wo (ofN s v n d kind) (cnt s v) m) :
    ((biX s v n d kind).natAbs : Int) * (ofN s v n d kind m).2 ≤ (ofN s v n d kind m).1 * ((cnt s v : Int) * d) := by
  have b := ofFb c kind m
  have r := bs_of c hk (w := ofN s v n d kind m) b.2.2.1 (cnt s v) 0 (fun j hj => hm.top j (by omega))
  rw [show bsG s v kind (cnt s v) 0 * d - n * (cnt s v : Int) = biX s v n d kind from rfl, show (cnt s v : Int) * ((ofN s v n d kind m).1 * d) = (ofN s v n d kind m).1 * ((cnt s v : Int) * d) by grind] at r
  by_cases hx : 0 ≤ biX s v n d kind
  · rw [show ((biX s v n d kind).natAbs : Int) = biX s v n d kind by omega]
    exact r.2
  · rw [show ((biX s v n d kind).natAbs : Int) = -biX s v n d kind by omega, Int.neg_mul]
    omega
theorem of_den {s v : List Int} {n d : Int} (c : Ca s v n d) {kind : Int} (hk : kind = 0 ∨ kind = 3) (k : Nat) : (ofN s v n d kind k).2 ≤ 100 := by
  have y : ofY s v d kind k = d := by unfold ofY; rw [est_whole (nz_sp c k) hk, Int.one_mul]
  have d1 := c.db; have d0 := c.lo.1
  have t := tdiv_bd (m := 100) (n := ofY s v d kind k) (Int.gcd ((ofX s v n d kind k).natAbs : Int) (ofY s v d kind k)) (by unfold Bd; omega)
  rw [show (ofY s v d kind k).tdiv (Int.gcd ((ofX s v n d kind k).natAbs : Int) (ofY s v d kind k)) = (ofN s v n d kind k).2 from rfl] at t
  exact t.2

/-! ### The law, part by part -/

abbrev rcT0 (s v : List Int) (n d kind : Int) (w : Int × Int) (x sum first : Int) (k : Int) : Q :=
  TLwLineReached_0a kind (cnt s v : Int) sum first k s.length (encI s) v.length (encI v) n d w.1 w.2 x

theorem re48 {s v : List Int} (n d kind a b e f : Int) (w : Int × Int) (x : Int) (cs : List PV) :
    RLwLineReached_1000048 (TLwLineReached_1000048a kind a b e f s.length cs 0 s.length (encI s) v.length (encI v) n d w.1 w.2 x) =
      exO (XLwLineReached_1000048b (kind, a, b, e, f, s.length, cs, s.length, encI s, v.length, encI v, n, d, w.1, w.2, x)) := by
  refine RLwLineReached_1000048a_of _ _ _ _ _ _ _ _ _ _ _ _ _ _ _ _ _ ?_
  unfold BLwLineReached_1000048a
  simp only [bif_ne, if_true]
  rfl
theorem refCmp_small {f g : Int × Int} (h1 : 0 ≤ f.1 ∧ f.1 ≤ 272000000) (h2 : 0 < f.2 ∧ f.2 ≤ 16000000) (h3 : 0 ≤ g.1 ∧ g.1 ≤ 272000000) (h4 : 0 < g.2 ∧ g.2 ≤ 16000000) (h : ¬ ltF g f) : ∃ e : Int, FBsCmp [.agg [.int .i64 f.1, .int .i64 f.2], .agg [.int .i64 g.1, .int .i64 g.2]] = some e ∧ e ≤ 0 := by
  have a : Fb f := ⟨h1.1, h1.2, h2.1, h2.2⟩
  have b : Fb g := ⟨h3.1, h3.2, h4.1, h4.2⟩
  refine ⟨_, cmp_is (fb_mul a b) (fb_mul b a), ?_⟩
  unfold cmpF
  unfold ltF at h
  by_cases h5 : f.1 * g.2 < g.1 * f.2
  · rw [if_pos h5]; omega
  · rw [if_neg h5, if_neg (by omega)]; omega
theorem re39 {s v : List Int} {n d : Int} (c : Ca s v n d) (kind a b e f : Int) (w : Int × Int) (x k : Int) (cs : List PV) :
    RLwLineReached_1000039 (TLwLineReached_1000039a kind a b e f s.length cs 0 s.length (encI s) v.length (encI v) n d w.1 w.2 x (est (nzL s v k) kind).1 (est (nzL s v k) kind).2) =
      exO (XLwLineReached_1000039b (kind, a, b, e, f, s.length, encI s, v.length, encI v, n, d, w.1, w.2, x, (est (nzL s v k) kind).1, (est (nzL s v k) kind).2)) := by
  refine RLwLineReached_1000039a_of _ _ _ _ _ _ _ _ _ _ _ _ _ _ _ _ _ _ _ ?_
  unfold BLwLineReached_1000039a
  have o := est_ok (nz_sp c k) kind
  have o1 := o.den; have o2 := o.num; have o3 := o.top; have o4 := o.nb; have o5 := o.db
  have hs := c.sp.len; have hp := c.sp.pos
  rw [nzL_len] at o3
  have wh : FBsWhole [.int .i64 s.length] = some ((s.length : Int), 1) := refWhole_is _
  obtain ⟨y, y1, y2⟩ := refCmp_small (f := est (nzL s v k) kind) (g := ((s.length : Int), 1)) ⟨o2, by omega⟩ ⟨o1, by omega⟩ ⟨by simp, by simp; omega⟩ ⟨by simp, by simp⟩ (by
    unfold ltF
    rw [Int.sub_mul, Int.one_mul] at o3
    simp only [Int.mul_one]
    omega)
  simp only [bif_ne, if_true, lowest_tt (lo_eo o) (show (est (nzL s v k) kind).2 ≤ 1000000000 by omega), small_is (n := (est (nzL s v k) kind).1) (d := (est (nzL s v k) kind).2) (by omega) (by omega), bindO_val, cond_true, wh, y1]
  rw [bif_neg (by omega), bif_neg (by omega)]
  rfl
theorem re23 {s v : List Int} (n d kind a b f : Int) (w g : Int × Int) (x p r e : Int) :
    RLwLineReached_1000023 (TLwLineReached_1000023a kind a b e f s.length (encI s) v.length (encI v) n d w.1 w.2 x p r g.1 g.2) =
      exO (XLwLineReached_1000023a (kind, a, b, (if g = w ∧ e < 0 then f else e), f, s.length, encI s, v.length, encI v, n, d, w.1, w.2, x, p, r)) := by
  refine RLwLineReached_1000023a_of _ _ _ _ _ _ _ _ _ _ _ _ _ _ _ _ _ _ ?_
  unfold BLwLineReached_1000023a
  by_cases h : g = w
  · subst h
    rw [eq2, cond_true]
    by_cases h2 : e < 0
    · rw [bif_pos h2, if_pos ⟨rfl, h2⟩]; rfl
    · rw [bif_neg h2, if_neg (fun k => h2 k.2)]; rfl
  · have : ((g.1 == w.1) && ((g.2 == w.2) && true)) = false := by
      by_cases h1 : g.1 = w.1
      · have h2 : g.2 ≠ w.2 := fun q => h (Prod.ext h1 q)
        simp [h2]
      · simp [h1]
    rw [this, cond_false, if_neg (fun k => h k.1)]; rfl

theorem re53 {s v : List Int} {n d : Int} (c : Ca s v n d) (h0 : caE s v n d = 0) {kind : Int} (hk : rangeE kind 0 3 = 0) {m : Nat} (hm : Wo (ofN s v n d kind) (cnt s v) m) {k : Nat} (hkc : k < cnt s v) (x sum first : Int) (hsum : 0 ≤ sum ∧ sum ≤ k * 2560000) :
    RLwLineReached_1000053 (TLwLineReached_1000053a kind (cnt s v : Int) sum first k s.length (encI s) v.length (encI v) n d (ofN s v n d kind m).1 (ofN s v n d kind m).2 x) =
      exO (XLwLineReached_1000053b (kind, (cnt s v : Int), sum + (est (nzL s v k) kind).1, (if ofN s v n d kind k = ofN s v n d kind m ∧ first < 0 then (k : Int) else first), (k : Int), s.length, encI s, v.length, encI v, n, d, (ofN s v n d kind m).1, (ofN s v n d kind m).2, x)) := by
  refine RLwLineReached_1000053a_of _ _ _ _ _ _ _ _ _ _ _ _ _ _ ?_
  unfold BLwLineReached_1000053a
  have hs := c.sp.len; have hv := c.nz.len; have hc := c.cs
  have d0 := c.lo.1; have d1 := c.db
  have id : I64 d := by unfold I64; omega
  have hn : rangeE (k : Int) 0 ((cnt s v : Int) - 1) = 0 := rangeE_in (by omega)
  have ny : Fline_Noisy [.agg [.list s.length (encI s), .list v.length (encI v), .int .i64 n, .int .i64 d], .int .i64 k] = some ((s.length, encI (nzL s v k)), 0) := by
    rw [noisyOf_is s v (by omega) (by omega) id]
    have e : nyE s v n d k = 0 := by unfold nyE; rw [if_neg (by rw [h0]; exact fun h => h rfl), if_pos hn]
    unfold nyR
    rw [if_neg (by rw [e]; exact fun h => h rfl)]
  have sp := nz_sp c k
  have es : Fline_Estimated [.list s.length (encI (nzL s v k)), .int .i64 kind] = some ((est (nzL s v k) kind).1, ((est (nzL s v k) kind).2, 0)) := by
    have q := estimated_is (nzL s v k) kind (by rw [nzL_len]; omega)
    rw [nzL_len] at q
    rw [q]
    have e : estE (nzL s v k) kind = 0 := by unfold estE; rw [sp_in sp, if_pos hk]; rfl
    unfold estR
    rw [if_neg (by rw [e]; exact fun h => h rfl)]
    rfl
  have l48 := fun cs => LLwLineReached_1000048b_of (re48 (s := s) (v := v) n d kind (cnt s v : Int) sum first k (ofN s v n d kind m) x cs)
  have l39 := fun cs => LLwLineReached_1000039b_of (re39 c kind (cnt s v : Int) sum first k (ofN s v n d kind m) x k cs)
  have l23 := fun p r => LLwLineReached_1000023a_of (re23 (s := s) (v := v) n d kind (cnt s v : Int) sum k (ofN s v n d kind m) (ofN s v n d kind k) x p r first)
  have p := pd_ok c kind k
  have p1 := p.a; have p2 := p.b; have p3 := p.y
  have off : FBsLowest [.int .i64 ((ofX s v n d kind k).natAbs : Int), .int .i64 (ofY s v d kind k)] = some (ofN s v n d kind k) :=
    refLowest_is (n := ((ofX s v n d kind k).natAbs : Int)) (d := ofY s v d kind k) (by unfold ofX Bd; omega) (by unfold Bd; omega) p3.1
  have b1 := ofFb c kind k
  have b2 := ofFb c kind m
  obtain ⟨y, y1, y2⟩ := refCmp_small (f := ofN s v n d kind k) (g := ofN s v n d kind m) ⟨b1.1, b1.2.1⟩ b1.2.2 ⟨b2.1, b2.2.1⟩ b2.2.2 (hm.top k hkc)
  have o := est_ok sp kind
  have o2 := o.num; have o4 := o.nb
  simp only [copyCase_is s v (by omega) (by omega), ny, bindO_val, l48, Sum.elim_inr, es, l39]
  rw [w64_in (n := (est (nzL s v k) kind).1 * d) (by omega), w64_in (n := n * (est (nzL s v k) kind).2) (by omega), w64_in (n := (est (nzL s v k) kind).1 * d - n * (est (nzL s v k) kind).2) (by omega)]
  rw [show (est (nzL s v k) kind).2 * d = ofY s v d kind k from rfl, show (est (nzL s v k) kind).1 * d - n * (est (nzL s v k) kind).2 = ofX s v n d kind k from rfl, w64_in (n := ofY s v d kind k) (by omega)]
  simp only [size_is (c := ofX s v n d kind k) (by unfold ofX Bd; omega), bindO_val, off, y1]
  rw [bif_neg (by omega)]
  simp only [l23, bindO_val]
  rw [w64_in (by omega)]
  rfl

/-- The first index at which the worst was met, before an index. -/
def fiR (m k : Nat) : Int := if k ≤ m then -1 else (m : Int)
theorem re0 {s v : List Int} {n d : Int} (c : Ca s v n d) (h0 : caE s v n d = 0) {kind : Int} (hk : rangeE kind 0 3 = 0) {m : Nat} (hm : Wo (ofN s v n d kind) (cnt s v) m) (x : Int) : ∀ k, k ≤ cnt s v → ∀ sum : Int, 0 ≤ sum → sum ≤ k * 2560000 →
    RLwLineReached_0 (rcT0 s v n d kind (ofN s v n d kind m) x sum (fiR m k) k) =
      exO (XLwLineReached_0a (kind, (cnt s v : Int), sum + bsG s v kind (cnt s v - k) k, (m : Int), s.length, encI s, v.length, encI v, n, d, (ofN s v n d kind m).1, (ofN s v n d kind m).2, x)) := by
  have hc := c.cs
  refine up_ind _ ?_ ?_
  · intro sum _ _
    rw [Nat.sub_self]
    refine RLwLineReached_0a_of _ _ _ _ _ _ _ _ _ _ _ _ _ _ ?_
    unfold BLwLineReached_0a fiR
    rw [bif_neg (by omega), if_neg (by have := hm.lt; omega)]
    simp only [bsG, Int.add_zero]
    rfl
  · intro k hkc ih sum s0 s1
    have sp := nz_sp c k
    have o := est_ok sp kind
    have o2 := o.num; have o4 := o.nb
    refine RLwLineReached_0a_of _ _ _ _ _ _ _ _ _ _ _ _ _ _ ?_
    unfold BLwLineReached_0a
    have l53 := LLwLineReached_1000053b_of (re53 c h0 hk hm hkc x sum (fiR m k) ⟨s0, s1⟩)
    rw [bif_pos (by omega), l53]
    simp only [bindO_val, Sum.elim_inr]
    have fi : (if ofN s v n d kind k = ofN s v n d kind m ∧ fiR m k < 0 then (k : Int) else fiR m k) = fiR m (k + 1) := by
      unfold fiR
      by_cases h1 : k < m
      · have ne := lt_irr (hm.first k h1)
        rw [if_neg (fun q => ne q.1), if_pos (by omega), if_pos (by omega)]
      · by_cases h2 : k = m
        · subst h2
          rw [if_pos ⟨rfl, by rw [if_pos (Nat.le_refl _)]; omega⟩, if_neg (by omega)]
        · rw [if_neg (fun q => by have := q.2; rw [if_neg (by omega)] at this; omega), if_neg (by omega), if_neg (by omega)]
    rw [fi, w64_in (by omega), show cnt s v - k = (cnt s v - (k + 1)) + 1 by omega, bsG, ← Int.add_assoc]
    exact ih _ (by omega) (by omega)

def rq81 (s v : List Int) (n d kind : Int) : Unit ⊕ (Int × Nat × List PV × Nat × List PV × Int × Int) :=
  if s.length ≤ 20 ∧ v.length ≤ 20 ∧ caE s v n d = 0 ∧ cnt s v ≤ 256 ∧ rangeE kind 0 3 = 0 then .inr (kind, s.length, encI s, v.length, encI v, n, d) else .inl ()
theorem re81 (s v : List Int) {n d : Int} (hd : I64 d) (kind : Int) :
    RLwLineReached_1000081 (TLwLineReached_1000081a kind s.length (encI s) v.length (encI v) n d) = exO (XLLwLineReached_1000081.fn (rq81 s v n d kind)) := by
  refine RLwLineReached_1000081a_of _ _ _ _ _ _ _ ?_
  unfold BLwLineReached_1000081a rq81
  simp only [light_is s v hd, refCaseErr_is s v hd, refKindErr_is, bindO_val, bif_ne]
  by_cases h1 : s.length ≤ 20
  · by_cases h2 : v.length ≤ 20
    · by_cases h3 : caE s v n d = 0
      · by_cases h4 : cnt s v ≤ 256
        · by_cases h5 : rangeE kind 0 3 = 0
          · simp only [h1, h2, h3, h4, h5, decide_true, Bool.and_self, Bool.or_true, cond_true, if_true, and_self]
            rfl
          · simp only [h1, h2, h3, h4, h5, decide_true, Bool.and_self, Bool.or_true, cond_true, if_true, if_false, and_false]
            rfl
        · simp only [h1, h2, h3, h4, decide_true, decide_false, ne_eq, not_true_eq_false, Bool.or_self, Bool.and_false, cond_false, and_false, false_and, if_false]
          rfl
      · simp only [h1, h2, h3, decide_true, ne_eq, not_false_eq_true, Bool.true_or, Bool.and_self, cond_true, if_false, and_false, false_and]
        rfl
    · simp only [h1, h2, decide_true, decide_false, Bool.false_and, Bool.and_false, cond_false, and_false, false_and, if_false]
      rfl
  · simp only [h1, decide_false, Bool.false_and, cond_false, false_and, if_false]
    rfl
theorem re72 {s v : List Int} {n d : Int} (c : Ca s v n d) (kind x : Int) (m : Nat) :
    RLwLineReached_1000072 (TLwLineReached_1000072a kind 0 s.length (encI s) v.length (encI v) n d (ofN s v n d kind m).1 (ofN s v n d kind m).2 x) =
      exO (XLwLineReached_1000072b (kind, s.length, encI s, v.length, encI v, n, d, (ofN s v n d kind m).1, (ofN s v n d kind m).2, x)) := by
  refine RLwLineReached_1000072a_of _ _ _ _ _ _ _ _ _ _ _ ?_
  unfold BLwLineReached_1000072a
  have b : Fb (ofN s v n d kind m) := ofFb c kind m
  obtain ⟨b1, b2, b3, b4⟩ := b
  simp only [bif_ne, if_true, lowest_tt (of_lo c kind m) (show (ofN s v n d kind m).2 ≤ 1000000000 by omega), small_is (n := (ofN s v n d kind m).1) (d := (ofN s v n d kind m).2) (by omega) (by omega), bindO_val, cond_true]
  rw [bif_neg (by omega)]
  rfl
theorem re17 (s v : List Int) (n d kind a b m : Int) (w : Int × Int) :
    RLwLineReached_1000017 (TLwLineReached_1000017a kind a b m 0 0 s.length (encI s) v.length (encI v) n d w.1 w.2 m) =
      exO (XLwLineReached_1000017b (kind, a, b, s.length, encI s, v.length, encI v, n, d, w.1, w.2, m)) := by
  refine RLwLineReached_1000017a_of _ _ _ _ _ _ _ _ _ _ _ _ _ _ _ ?_
  unfold BLwLineReached_1000017a
  simp only [bif_ne, if_true]
  rfl
def rq10 (s v : List Int) (n d kind a b m : Int) (w : Int × Int) : Unit ⊕ (Int × Int × Int × Nat × List PV × Nat × List PV × Int × Int × Int × Int × Int) :=
  if kind = 0 ∨ kind = 3 then .inr (kind, a, b, s.length, encI s, v.length, encI v, n, d, w.1, w.2, m) else .inl ()
theorem re10 (s v : List Int) (n d kind a b m : Int) (w : Int × Int) :
    RLwLineReached_1000010 (TLwLineReached_1000010a kind a b s.length (encI s) v.length (encI v) n d w.1 w.2 m) = exO (XLLwLineReached_1000010.fn (rq10 s v n d kind a b m w)) := by
  refine RLwLineReached_1000010a_of _ _ _ _ _ _ _ _ _ _ _ _ ?_
  unfold BLwLineReached_1000010a rq10
  simp only [bif_ne]
  by_cases h : kind = 0
  · rw [if_pos h, if_pos (.inl h)]; rfl
  · rw [if_neg h]
    by_cases h2 : kind = 3
    · rw [if_pos h2, if_pos (.inr h2)]; rfl
    · rw [if_neg h2, if_neg (by omega)]; rfl

theorem reachedLaw (s v : List Int) {n d : Int} (hd : I64 d) (kind : Int) :
    FLwLineReached [.agg [.list s.length (encI s), .list v.length (encI v), .int .i64 n, .int .i64 d], .int .i64 kind] = some true := by
  refine FLwLineReached_of _ _ _ _ _ _ _ ?_
  unfold tLwLineReached
  have q := lpO_of ILwLineReached_1000081 XILwLineReached_1000081 (re81 s v (n := n) hd kind)
  have q : LLwLineReached_1000081 (TLwLineReached_1000081a kind s.length (encI s) v.length (encI v) n d) = _ := q
  simp only [awakeL_is, bindO_val, cond_true, q]
  unfold rq81
  by_cases hl : s.length ≤ 20 ∧ v.length ≤ 20 ∧ caE s v n d = 0 ∧ cnt s v ≤ 256 ∧ rangeE kind 0 3 = 0
  · rw [if_pos hl]
    obtain ⟨h1, h2, h0, h4, hk⟩ := hl
    have c := ca_ok h0
    obtain ⟨m, hm, hw⟩ := worst_spec c kind
    have hkd : both (caE s v n d) (if rangeE kind 0 3 = 0 then 0 else 14) = 0 := by rw [h0, if_pos hk]; rfl
    have l72 := LLwLineReached_1000072b_of (re72 c kind (m : Int) m)
    have l0 := LLwLineReached_0a_of (re0 c h0 hk hm (m : Int) 0 (by omega) 0 (by omega) (by omega))
    rw [Nat.sub_zero, show bsG s v kind (cnt s v) 0 = bsT s v kind from rfl, Int.zero_add, show fiR m 0 = -1 from if_pos (by omega), show ((0 : Nat) : Int) = 0 from rfl] at l0
    have l17 := fun a b => LLwLineReached_1000017b_of (re17 s v n d kind a b (m : Int) (ofN s v n d kind m))
    have l10 := fun a b => lpO_of ILwLineReached_1000010 XILwLineReached_1000010 (re10 s v n d kind a b (m : Int) (ofN s v n d kind m))
    have l10 : ∀ a b, LLwLineReached_1000010 (TLwLineReached_1000010a kind a b s.length (encI s) v.length (encI v) n d (ofN s v n d kind m).1 (ofN s v n d kind m).2 (m : Int)) = some (rq10 s v n d kind a b (m : Int) (ofN s v n d kind m)) := l10
    simp only [Sum.elim_inr, copyCase_is s v (by omega) (by omega), worstOfAll_is s v (by omega) (by omega) hd, hkd, ne_eq, not_true_eq_false, if_false, hw, bindO_val, l72, refCasesC c, l0, Sum.elim_inl, accepts c h0 hk hm, l17, l10]
    unfold rq10
    by_cases hb : kind = 0 ∨ kind = 3
    · rw [if_pos hb]
      have be : biE s v n d kind = 0 := by unfold biE; rw [both_zero h0, if_pos hb]
      have R : biR s v n d kind = ((biF s v n d kind).1, ((biF s v n d kind).2, 0)) := by unfold biR; rw [if_neg (by rw [be]; exact fun h => h rfl)]
      have b := bb_ok c kind
      have b1 := b.sd; have b2 := b.nc; have b3 := b.cd
      have xb : -1100000000000 ≤ biX s v n d kind ∧ biX s v n d kind ≤ 1100000000000 := by unfold biX; omega
      have low : FBsLowest [.int .i64 (biX s v n d kind), .int .i64 ((cnt s v : Int) * d)] = some (biF s v n d kind) := refLowest_is (n := biX s v n d kind) (d := (cnt s v : Int) * d) (by unfold Bd; omega) (by unfold Bd; omega) b3.1
      obtain ⟨q1, q2⟩ := lowF_abs (biX s v n d kind) ((cnt s v : Int) * d)
      have dn := lowF_den (n := biX s v n d kind) (d := (cnt s v : Int) * d) b3.1
      have t1 := tdiv_bd (m := 1100000000000) (n := biX s v n d kind) (Int.gcd (biX s v n d kind) ((cnt s v : Int) * d)) (by unfold Bd; omega)
      have t2 := tdiv_bd (m := 409600) (n := (cnt s v : Int) * d) (Int.gcd (biX s v n d kind) ((cnt s v : Int) * d)) (by unfold Bd; omega)
      rw [show (biX s v n d kind).tdiv (Int.gcd (biX s v n d kind) ((cnt s v : Int) * d)) = (biF s v n d kind).1 from rfl] at t1
      rw [show ((cnt s v : Int) * d).tdiv (Int.gcd (biX s v n d kind) ((cnt s v : Int) * d)) = (biF s v n d kind).2 from rfl] at t2
      rw [show lowF (biX s v n d kind) ((cnt s v : Int) * d) = biF s v n d kind from rfl] at q1 q2 dn
      unfold Bd at t1 t2
      have low2 : FBsLowest [.int .i64 ((biF s v n d kind).1.natAbs : Int), .int .i64 (biF s v n d kind).2] = some (lowF ((biF s v n d kind).1.natAbs : Int) (biF s v n d kind).2) := refLowest_is (by unfold Bd; omega) (by unfold Bd; omega) dn
      have le := bi_le c hb hm
      have le1 := lowF_le (n := ((biX s v n d kind).natAbs : Int)) (d := (cnt s v : Int) * d) (a := (ofN s v n d kind m).1) (b := (ofN s v n d kind m).2) b3.1 le
      rw [← q1, ← q2] at le1
      have le2 := lowF_le (n := ((biF s v n d kind).1.natAbs : Int)) (d := (biF s v n d kind).2) (a := (ofN s v n d kind m).1) (b := (ofN s v n d kind m).2) dn le1
      have u1 := tdiv_bd (m := 1100000000000) (n := ((biF s v n d kind).1.natAbs : Int)) (Int.gcd ((biF s v n d kind).1.natAbs : Int) (biF s v n d kind).2) (by unfold Bd; omega)
      have u2 := tdiv_bd (m := 409600) (n := (biF s v n d kind).2) (Int.gcd ((biF s v n d kind).1.natAbs : Int) (biF s v n d kind).2) (by unfold Bd; omega)
      obtain ⟨g, hg⟩ : ∃ g, g = lowF ((biF s v n d kind).1.natAbs : Int) (biF s v n d kind).2 := ⟨_, rfl⟩
      rw [show ((biF s v n d kind).1.natAbs : Int).tdiv (Int.gcd ((biF s v n d kind).1.natAbs : Int) (biF s v n d kind).2) = g.1 by rw [hg]; rfl] at u1
      rw [show ((biF s v n d kind).2).tdiv (Int.gcd ((biF s v n d kind).1.natAbs : Int) (biF s v n d kind).2) = g.2 by rw [hg]; rfl] at u2
      rw [← hg] at le2 low2
      unfold Bd at u1 u2
      have wb : Fb (ofN s v n d kind m) := ofFb c kind m
      obtain ⟨w1, w2, w3, w4⟩ := wb
      have w5 := of_den c hb m
      have g2 : 0 < g.2 := by rw [hg]; exact lowF_den dn
      have c1 := mul_in (a := g.1) (b := (ofN s v n d kind m).2) (p := 1100000000000) (q := 100) (by omega) (by omega) (by omega)
      have c2 := mul_in (a := (ofN s v n d kind m).1) (b := g.2) (p := 272000000) (q := 409600) (by omega) (by omega) (by omega)
      have cm := cmp_is (f := g) (g := ofN s v n d kind m) (w64_in (by omega)) (w64_in (by omega))
      have cl : cmpF g (ofN s v n d kind m) ≤ 0 := by
        unfold cmpF
        by_cases h5 : g.1 * (ofN s v n d kind m).2 < (ofN s v n d kind m).1 * g.2
        · rw [if_pos h5]; omega
        · rw [if_neg h5, if_neg (by omega)]; omega
      simp only [Sum.elim_inr, copyCase_is s v (by omega) (by omega), biasOf_is s v (by omega) (by omega) hd, R, bindO_val, bif_eq, if_true]
      rw [w64_in (n := bsT s v kind * d) (by omega), w64_in (n := n * (cnt s v : Int)) (by omega), w64_in (n := bsT s v kind * d - n * (cnt s v : Int)) (by omega), w64_in (n := (cnt s v : Int) * d) (by omega)]
      rw [show bsT s v kind * d - n * (cnt s v : Int) = biX s v n d kind from rfl]
      simp only [low, bindO_val, eq2, cond_true, size_is (c := (biF s v n d kind).1) (by unfold Bd; omega), low2, cm]
      rw [bif_pos cl]
    · rw [if_neg hb]
      rfl
  · rw [if_neg hl]
    rfl
end Gv
