/- Lines, and how they move when samples are mixed down. -/
import Derived.Test.YtpcpegneobkbdaaS3
import Derived.Test.YtpcpegneobkbdaaP2
namespace Gv
open Go
set_option maxRecDepth 100000

theorem mod4 (a : Int) : a % 4 = 0 ∨ a % 4 = 1 ∨ a % 4 = 2 ∨ a % 4 = 3 := by omega

theorem trn_0 {z : ZZ} {q : Int} (h : q % 4 = 0) : trn z q = z := by unfold trn; rw [if_neg (by omega), if_neg (by omega), if_neg (by omega)]
theorem trn_1 {z : ZZ} {q : Int} (h : q % 4 = 1) : trn z q = (z.2, -z.1) := by unfold trn; rw [if_pos h]
theorem trn_2 {z : ZZ} {q : Int} (h : q % 4 = 2) : trn z q = (-z.1, -z.2) := by unfold trn; rw [if_neg (by omega), if_pos h]
theorem trn_3 {z : ZZ} {q : Int} (h : q % 4 = 3) : trn z q = (-z.2, z.1) := by unfold trn; rw [if_neg (by omega), if_neg (by omega), if_pos h]

theorem trn_trn (z : ZZ) (a b : Int) : trn (trn z a) b = trn z (a + b) := by
  rcases mod4 a with h | h | h | h <;> rcases mod4 b with k | k | k | k
  · rw [trn_0 h, trn_0 k, trn_0 (by omega)]
  · rw [trn_0 h, trn_1 k, trn_1 (by omega)]
  · rw [trn_0 h, trn_2 k, trn_2 (by omega)]
  · rw [trn_0 h, trn_3 k, trn_3 (by omega)]
  · rw [trn_1 h, trn_0 k, trn_1 (by omega)]
  · rw [trn_1 h, trn_1 k, trn_2 (by omega)]
  · rw [trn_1 h, trn_2 k, trn_3 (by omega)]; simp
  · rw [trn_1 h, trn_3 k, trn_0 (by omega)]; simp
  · rw [trn_2 h, trn_0 k, trn_2 (by omega)]
  · rw [trn_2 h, trn_1 k, trn_3 (by omega)]; simp
  · rw [trn_2 h, trn_2 k, trn_0 (by omega)]; simp
  · rw [trn_2 h, trn_3 k, trn_1 (by omega)]; simp
  · rw [trn_3 h, trn_0 k, trn_3 (by omega)]
  · rw [trn_3 h, trn_1 k, trn_0 (by omega)]; simp
  · rw [trn_3 h, trn_2 k, trn_1 (by omega)]; simp
  · rw [trn_3 h, trn_3 k, trn_2 (by omega)]

theorem trn_mod {z : ZZ} {a b : Int} (h : a % 4 = b % 4) : trn z a = trn z b := by unfold trn; rw [h]

theorem mix_back (q : Int) (hq : 0 ≤ q ∧ q ≤ 3) : ∀ (l : List ZZ) (j : Nat), mixFrom ((4 - q) % 4) (mixFrom q l j) j = l
  | [], _ => rfl
  | z :: l, j => by
    simp only [mixFrom, mix_back q hq l (j + 1)]
    rw [trn_trn, ← Int.mul_add]
    have h : q + (4 - q) % 4 = 0 ∨ q + (4 - q) % 4 = 4 := by omega
    rw [trn_0]
    rcases h with h | h <;> rw [h] <;> omega

/-! Sums without overflow -/

def eadd (a b : ZZ) : ZZ := (a.1 + b.1, a.2 + b.2)
theorem eadd_assoc (a b c : ZZ) : eadd (eadd a b) c = eadd a (eadd b c) := by simp [eadd, Int.add_assoc]
theorem addZ_eq {a b : ZZ} {m n : Int} (ha : Small m a) (hb : Small n b) (h : m + n ≤ 4611686018427387904) : addZ a b = eadd a b := by
  obtain ⟨a1, a2⟩ := ha
  obtain ⟨b1, b2⟩ := hb
  unfold addZ eadd
  rw [w64_in (by omega), w64_in (by omega)]
theorem eadd_small {a b : ZZ} {m n : Int} (ha : Small m a) (hb : Small n b) : Small (m + n) (eadd a b) := by
  obtain ⟨a1, a2⟩ := ha
  obtain ⟨b1, b2⟩ := hb
  unfold eadd Small
  simp only
  omega
theorem Small.mono {a : ZZ} {m n : Int} (h : Small m a) (hm : m ≤ n) : Small n a := by
  obtain ⟨a1, a2⟩ := h
  unfold Small
  omega
theorem trn_eadd (a b : ZZ) (q : Int) : trn (eadd a b) q = eadd (trn a q) (trn b q) := by
  rcases mod4 q with h | h | h | h
  · rw [trn_0 h, trn_0 h, trn_0 h]
  · rw [trn_1 h, trn_1 h, trn_1 h]; simp only [eadd]; congr 1; omega
  · rw [trn_2 h, trn_2 h, trn_2 h]; simp only [eadd]; congr 1 <;> omega
  · rw [trn_3 h, trn_3 h, trn_3 h]; simp only [eadd]; congr 1; omega

def lineX (k : Int) : List ZZ → Nat → ZZ
  | [], _ => (0, 0)
  | z :: l, j => eadd (trn z (j * k)) (lineX k l (j + 1))

theorem lineX_mix (q k : Int) : ∀ (l : List ZZ) (j : Nat), lineX k (mixFrom q l j) j = lineX (k + q) l j
  | [], _ => rfl
  | z :: l, j => by
    simp only [mixFrom, lineX, lineX_mix q k l (j + 1)]
    rw [trn_trn, ← Int.mul_add, Int.add_comm q k]

theorem lineX_mod {k k' : Int} (h : k % 4 = k' % 4) : ∀ (l : List ZZ) (j : Nat), lineX k l j = lineX k' l j
  | [], _ => rfl
  | z :: l, j => by
    simp only [lineX, lineX_mod h l (j + 1)]
    rw [trn_mod (a := j * k) (b := j * k') (by rw [Int.mul_emod, h, ← Int.mul_emod])]

theorem turned_w (z : ZZ) (j : Nat) (k : Int) (hj : j ≤ 1000) (hk : 0 ≤ k ∧ k ≤ 3) (hz : Small 1000000 z) : Fpulse_turned [.agg [.int .i64 z.1, .int .i64 z.2], .int .i64 (w64 (j * k))] = some (trn z (j * k)) := by
  have h0 : 0 ≤ (j : Int) * k ∧ (j : Int) * k ≤ 3000 := by
    refine ⟨Int.mul_nonneg (by omega) hk.1, ?_⟩
    have h1 : (j : Int) * k ≤ j * 3 := Int.mul_le_mul_of_nonneg_left hk.2 (by omega)
    omega
  rw [w64_in (by omega)]
  exact turned_is z _ h0.1 (hz.mono (by omega))

theorem with_is (a b c d z : ZZ) (j : Nat) (hj : j ≤ 1000) (hz : Small 1000000 z) :
    F_glidepath_pulse_lines__with [.agg [.int .i64 a.1, .int .i64 a.2, .int .i64 b.1, .int .i64 b.2, .int .i64 c.1, .int .i64 c.2, .int .i64 d.1, .int .i64 d.2], .int .i64 j, .agg [.int .i64 z.1, .int .i64 z.2]] =
    some ((addZ a (trn z (j * 0))).1, (addZ a (trn z (j * 0))).2, (addZ b (trn z (j * 1))).1, (addZ b (trn z (j * 1))).2, (addZ c (trn z (j * 2))).1, (addZ c (trn z (j * 2))).2, (addZ d (trn z (j * 3))).1, (addZ d (trn z (j * 3))).2) := by
  refine F_glidepath_pulse_lines__with_of _ _ _ _ _ _ _ _ _ _ _ ?_
  unfold t_glidepath_pulse_lines__with
  simp only [turned_w z j 0 hj (by omega) hz, turned_w z j 1 hj (by omega) hz, turned_w z j 2 hj (by omega) hz, turned_w z j 3 hj (by omega) hz, bindO_val, plus_is a, plus_is b, plus_is c, plus_is d]

theorem lines_loop (l : List ZZ) (hl : l.length ≤ 1000) (hs : ∀ z ∈ l, Small 1000000 z) : ∀ i, i ≤ l.length → ∀ a b c d : ZZ, Small (1000000 * i) a → Small (1000000 * i) b → Small (1000000 * i) c → Small (1000000 * i) d →
    Rpulse_linesOf_0 (Tpulse_linesOf_0a l.length (encG l) l.length i a.1 a.2 b.1 b.2 c.1 c.2 d.1 d.2) =
      exO (Xpulse_linesOf_0a ((eadd a (lineX 0 (l.drop i) i)).1, (eadd a (lineX 0 (l.drop i) i)).2, (eadd b (lineX 1 (l.drop i) i)).1, (eadd b (lineX 1 (l.drop i) i)).2, (eadd c (lineX 2 (l.drop i) i)).1, (eadd c (lineX 2 (l.drop i) i)).2, (eadd d (lineX 3 (l.drop i) i)).1, (eadd d (lineX 3 (l.drop i) i)).2)) := by
  refine up_ind _ ?_ ?_
  · intro a b c d _ _ _ _
    refine Rpulse_linesOf_0a_of _ _ _ _ _ _ _ _ _ _ _ _ ?_
    unfold Bpulse_linesOf_0a
    rw [bif_neg (by omega), List.drop_length]
    simp only [lineX, eadd, Int.add_zero]
    rfl
  · intro i hi ih a b c d ha hb hc hd'
    refine Rpulse_linesOf_0a_of _ _ _ _ _ _ _ _ _ _ _ _ ?_
    unfold Bpulse_linesOf_0a
    obtain ⟨x, hx, hd⟩ := get_drop hi
    have hxs : Small 1000000 x := hs x (List.mem_of_getElem? hx)
    rw [bif_pos (by omega), bif_pos (by omega)]
    simp only [Int.toNat_natCast, encG_0, encG_1, hx, Option.map_some, intC_int, bindO_val, with_is a b c d x i (by omega) hxs]
    rw [w64_in (by omega)]
    have e0 := addZ_eq ha (trn_small (i * 0) hxs) (by omega)
    have e1 := addZ_eq hb (trn_small (i * 1) hxs) (by omega)
    have e2 := addZ_eq hc (trn_small (i * 2) hxs) (by omega)
    have e3 := addZ_eq hd' (trn_small (i * 3) hxs) (by omega)
    rw [e0, e1, e2, e3]
    have := ih (eadd a (trn x (i * 0))) (eadd b (trn x (i * 1))) (eadd c (trn x (i * 2))) (eadd d (trn x (i * 3)))
      ((eadd_small ha (trn_small _ hxs)).mono (by omega)) ((eadd_small hb (trn_small _ hxs)).mono (by omega)) ((eadd_small hc (trn_small _ hxs)).mono (by omega)) ((eadd_small hd' (trn_small _ hxs)).mono (by omega))
    rw [eadd_assoc, eadd_assoc, eadd_assoc, eadd_assoc] at this
    rw [hd]
    exact this

theorem linesOf_is (l : List ZZ) (hl : l.length ≤ 1000) (hs : ∀ z ∈ l, Small 1000000 z) : Fpulse_linesOf [.list l.length (encG l)] =
    some ((lineX 0 l 0).1, (lineX 0 l 0).2, (lineX 1 l 0).1, (lineX 1 l 0).2, (lineX 2 l 0).1, (lineX 2 l 0).2, (lineX 3 l 0).1, (lineX 3 l 0).2) := by
  refine Fpulse_linesOf_of _ _ ?_
  unfold tpulse_linesOf
  have z0 : Small (1000000 * ((0 : Nat) : Int)) ((0, 0) : ZZ) := by unfold Small; simp
  have := Lpulse_linesOf_0a_of (lines_loop l hl hs 0 (by omega) (0, 0) (0, 0) (0, 0) (0, 0) z0 z0 z0 z0)
  simp only [eadd, Int.zero_add, List.drop_zero] at this
  have this : Lpulse_linesOf_0 (Tpulse_linesOf_0a l.length (encG l) l.length 0 0 0 0 0 0 0 0 0) = _ := this
  rw [this]
  rfl

theorem LinesOf_is (l : List ZZ) (hb : blockE l = 0) : Fpulse_LinesOf [.list l.length (encG l)] =
    some ((lineX 0 l 0).1, (lineX 0 l 0).2, (lineX 1 l 0).1, (lineX 1 l 0).2, (lineX 2 l 0).1, (lineX 2 l 0).2, (lineX 3 l 0).1, (lineX 3 l 0).2, 0) := by
  refine Fpulse_LinesOf_of _ _ ?_
  unfold tpulse_LinesOf
  obtain ⟨k1, k2, k3⟩ := block_ok hb
  simp only [blockError_is l (by omega), hb, bindO_val, linesOf_is l (by omega) (fun z hz => Small.mono (k3 z hz) (by omega))]
  rfl

/-! Correlations turn with the lag -/

def cmulX (a b : ZZ) : ZZ := (a.1 * b.1 + a.2 * b.2, a.1 * b.2 - a.2 * b.1)
def sumX : List (ZZ × ZZ) → ZZ
  | [] => (0, 0)
  | p :: ps => eadd (cmulX p.1 p.2) (sumX ps)

theorem cmulX_trn (a b : ZZ) (s t : Int) : cmulX (trn a s) (trn b t) = trn (cmulX a b) (t - s) := by
  rcases mod4 s with h | h | h | h <;> rcases mod4 t with k | k | k | k
  · rw [trn_0 h, trn_0 k, trn_0 (by omega)]
  · rw [trn_0 h, trn_1 k, trn_1 (by omega)]; simp only [cmulX, Int.mul_neg, Int.neg_mul, Int.neg_neg]; congr 1 <;> omega
  · rw [trn_0 h, trn_2 k, trn_2 (by omega)]; simp only [cmulX, Int.mul_neg, Int.neg_mul, Int.neg_neg]; congr 1 <;> omega
  · rw [trn_0 h, trn_3 k, trn_3 (by omega)]; simp only [cmulX, Int.mul_neg, Int.neg_mul, Int.neg_neg]; congr 1 <;> omega
  · rw [trn_1 h, trn_0 k, trn_3 (by omega)]; simp only [cmulX, Int.mul_neg, Int.neg_mul, Int.neg_neg]; congr 1 <;> omega
  · rw [trn_1 h, trn_1 k, trn_0 (by omega)]; simp only [cmulX, Int.mul_neg, Int.neg_mul, Int.neg_neg]; congr 1 <;> omega
  · rw [trn_1 h, trn_2 k, trn_1 (by omega)]; simp only [cmulX, Int.mul_neg, Int.neg_mul, Int.neg_neg]; congr 1 <;> omega
  · rw [trn_1 h, trn_3 k, trn_2 (by omega)]; simp only [cmulX, Int.mul_neg, Int.neg_mul, Int.neg_neg]; congr 1 <;> omega
  · rw [trn_2 h, trn_0 k, trn_2 (by omega)]; simp only [cmulX, Int.mul_neg, Int.neg_mul, Int.neg_neg]; congr 1 <;> omega
  · rw [trn_2 h, trn_1 k, trn_3 (by omega)]; simp only [cmulX, Int.mul_neg, Int.neg_mul, Int.neg_neg]; congr 1 <;> omega
  · rw [trn_2 h, trn_2 k, trn_0 (by omega)]; simp only [cmulX, Int.mul_neg, Int.neg_mul, Int.neg_neg]
  · rw [trn_2 h, trn_3 k, trn_1 (by omega)]; simp only [cmulX, Int.mul_neg, Int.neg_mul, Int.neg_neg]; congr 1 <;> omega
  · rw [trn_3 h, trn_0 k, trn_1 (by omega)]; simp only [cmulX, Int.mul_neg, Int.neg_mul, Int.neg_neg]; congr 1 <;> omega
  · rw [trn_3 h, trn_1 k, trn_2 (by omega)]; simp only [cmulX, Int.mul_neg, Int.neg_mul, Int.neg_neg]; congr 1 <;> omega
  · rw [trn_3 h, trn_2 k, trn_3 (by omega)]; simp only [cmulX, Int.mul_neg, Int.neg_mul, Int.neg_neg]; congr 1 <;> omega
  · rw [trn_3 h, trn_3 k, trn_0 (by omega)]; simp only [cmulX, Int.mul_neg, Int.neg_mul, Int.neg_neg]; congr 1 <;> omega

theorem mul_abs {x y m : Int} (hx : -m ≤ x ∧ x ≤ m) (hy : -m ≤ y ∧ y ≤ m) (hm : 0 ≤ m) : -(m * m) ≤ x * y ∧ x * y ≤ m * m := by
  have key : ∀ {u v : Int}, 0 ≤ u → u ≤ m → 0 ≤ v → v ≤ m → 0 ≤ u * v ∧ u * v ≤ m * m := fun h1 h2 h3 h4 => ⟨Int.mul_nonneg h1 h3, Int.mul_le_mul h2 h4 h3 hm⟩
  by_cases h1 : 0 ≤ x <;> by_cases h2 : 0 ≤ y
  · have := key h1 hx.2 h2 hy.2; omega
  · have := key (u := x) (v := -y) h1 hx.2 (by omega) (by omega); rw [Int.mul_neg] at this; omega
  · have := key (u := -x) (v := y) (by omega) (by omega) h2 hy.2; rw [Int.neg_mul] at this; omega
  · have := key (u := -x) (v := -y) (by omega) (by omega) (by omega) (by omega); rw [Int.neg_mul_neg] at this; omega

theorem cmulX_small {a b : ZZ} (ha : Small 1000 a) (hb : Small 1000 b) : Small 2000000 (cmulX a b) := by
  have h1 := mul_abs ha.1 hb.1 (by omega)
  have h2 := mul_abs ha.2 hb.2 (by omega)
  have h3 := mul_abs ha.1 hb.2 (by omega)
  have h4 := mul_abs ha.2 hb.1 (by omega)
  unfold cmulX Small
  simp only
  omega

theorem cmul_eq {a b : ZZ} (ha : Small 1000 a) (hb : Small 1000 b) : cmul a b = cmulX a b := by
  obtain ⟨h1, h2⟩ := cmulX_small ha hb
  unfold cmulX at h1 h2
  simp only at h1 h2
  unfold cmul cmulX
  rw [w64_in (by omega), w64_in (by omega)]

theorem sumX_small : ∀ (ps : List (ZZ × ZZ)), (∀ p ∈ ps, Small 1000 p.1 ∧ Small 1000 p.2) → Small (2000000 * ps.length) (sumX ps)
  | [], _ => by simp [sumX, Small]
  | p :: ps, h => by
    have h1 := cmulX_small (h p (by simp)).1 (h p (by simp)).2
    have h2 := sumX_small ps (fun q hq => h q (by simp [hq]))
    refine (eadd_small h1 h2).mono ?_
    rw [List.length_cons]
    omega

theorem sumC_eq : ∀ (ps : List (ZZ × ZZ)) (acc : ZZ) (m : Int), (∀ p ∈ ps, Small 1000 p.1 ∧ Small 1000 p.2) → Small m acc → m + 2000000 * ps.length ≤ 1000000000000 → sumC ps acc = eadd acc (sumX ps)
  | [], acc, m, _, _, _ => by simp [sumC, sumX, eadd]
  | p :: ps, acc, m, h, ha, hm => by
    have h1 := cmulX_small (h p (by simp)).1 (h p (by simp)).2
    rw [List.length_cons] at hm
    have e := addZ_eq ha h1 (by omega)
    have := sumC_eq ps (eadd acc (cmulX p.1 p.2)) (m + 2000000) (fun q hq => h q (by simp [hq])) (eadd_small ha h1) (by omega)
    unfold sumC at this ⊢
    rw [List.foldl_cons, cmul_eq (h p (by simp)).1 (h p (by simp)).2, e, this]
    simp only [sumX, eadd_assoc]

theorem mixFrom_get (q : Int) : ∀ (l : List ZZ) (j i : Nat), (mixFrom q l j)[i]? = l[i]?.map fun z => trn z (((j + i : Nat) : Int) * q)
  | [], _, _ => by simp [mixFrom]
  | z :: l, j, 0 => by simp [mixFrom]
  | z :: l, j, i + 1 => by
    simp only [mixFrom, List.getElem?_cons_succ, mixFrom_get q l (j + 1) i]
    rw [show j + 1 + i = j + (i + 1) by omega]

theorem sumX_turn (q : Int) (lag : Nat) : ∀ (ps : List (ZZ × ZZ)) (j : Nat), sumX (ps.zipIdx j |>.map fun p => (trn p.1.1 ((p.2 : Int) * q), trn p.1.2 (((p.2 + lag : Nat) : Int) * q))) = trn (sumX ps) (lag * q)
  | [], _ => by
    simp only [List.zipIdx_nil, List.map_nil, sumX]
    rcases mod4 (lag * q) with h | h | h | h
    · rw [trn_0 h]
    · rw [trn_1 h]; rfl
    · rw [trn_2 h]; rfl
    · rw [trn_3 h]; rfl
  | p :: ps, j => by
    simp only [List.zipIdx_cons, List.map_cons, sumX]
    rw [sumX_turn q lag ps (j + 1), cmulX_trn, trn_eadd]
    congr 2
    rw [Int.natCast_add, Int.add_mul]
    omega

theorem zip_mix (q : Int) (lag : Nat) (l : List ZZ) : (mixFrom q l 0).zip ((mixFrom q l 0).drop lag) = ((l.zip (l.drop lag)).zipIdx 0).map fun p => (trn p.1.1 ((p.2 : Int) * q), trn p.1.2 (((p.2 + lag : Nat) : Int) * q)) := by
  apply List.ext_getElem?
  intro i
  simp only [List.getElem?_map, List.getElem?_zipIdx, List.zip, List.getElem?_zipWith, List.getElem?_drop, mixFrom_get]
  cases h1 : l[i]? with
  | none => simp
  | some a =>
    cases h2 : l[lag + i]? with
    | none => simp
    | some b => simp [Nat.add_comm lag i]

theorem zip_mem {l : List ZZ} {lag : Nat} (h : ∀ z ∈ l, Small 1000 z) : ∀ p ∈ l.zip (l.drop lag), Small 1000 p.1 ∧ Small 1000 p.2 := fun p hp => by
  obtain ⟨p1, p2⟩ := p
  have := List.of_mem_zip hp
  exact ⟨h _ this.1, h _ (List.mem_of_mem_drop this.2)⟩

theorem block_zero {l : List ZZ} (h1 : 1 ≤ l.length) (h2 : l.length ≤ 48) (hs : ∀ z ∈ l, Small 1000 z) : blockE l = 0 := by
  have : ∀ (l : List ZZ) (i : Nat), (∀ z ∈ l, Small 1000 z) → findE (gaussE 1000) l i = none := by
    intro l
    induction l with
    | nil => intro i _; rfl
    | cons z l ih =>
      intro i h
      have hz := h z (by simp)
      have : gaussE 1000 z = 0 := by unfold gaussE; rw [rangeE_in hz.1, rangeE_in hz.2]; rfl
      simp only [findE, this, ne_eq, not_true_eq_false, if_false]
      exact ih (i + 1) fun y hy => h y (by simp [hy])
  unfold blockE listE
  rw [if_neg (by omega), if_neg (by omega), this l 0 hs]
  rfl

theorem mix_mem {q : Int} {l : List ZZ} (h : ∀ z ∈ l, Small 1000 z) : ∀ z ∈ mixFrom q l 0, Small 1000 z := fun z hz => by
  obtain ⟨i, hi⟩ := List.mem_iff_getElem?.1 hz
  rw [mixFrom_get] at hi
  cases hl : l[i]? with
  | none => simp [hl] at hi
  | some y =>
    simp [hl] at hi
    rw [← hi]
    exact trn_small _ (h y (List.mem_of_getElem? hl))
end Gv
