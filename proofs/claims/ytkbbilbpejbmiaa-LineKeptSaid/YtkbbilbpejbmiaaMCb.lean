import Derived.Test.YtkbbilbpejbmiaaMC1
import Derived.Test.YtkbbilbpejbmiaaM15

/- Errors of estimators: case by case, the program's and the specification's. -/
namespace Gv
open Go
set_option maxRecDepth 100000

/-! ### Rows of two -/

def en2 (f : Nat → PV × PV) (n : Nat) : List PV := (List.range n).flatMap fun k => [(f k).1, (f k).2]
theorem en2_succ (f : Nat → PV × PV) (n : Nat) : en2 f (n + 1) = en2 f n ++ [(f n).1, (f n).2] := by
  unfold en2
  rw [List.range_succ, List.flatMap_append]
  simp
@[simp] theorem en2_len (f : Nat → PV × PV) : ∀ n, (en2 f n).length = n * 2
  | 0 => rfl
  | n + 1 => by rw [en2_succ, List.length_append, en2_len f n]; simp; omega
theorem en2_0 (f : Nat → PV × PV) : ∀ {n k}, k < n → (en2 f n)[k * 2 + 0]? = some (f k).1
  | n + 1, k, h => by
    rw [en2_succ]
    by_cases hk : k < n
    · rw [List.getElem?_append_left (by rw [en2_len]; omega)]
      exact en2_0 f hk
    · have : k = n := by omega
      subst this
      rw [List.getElem?_append_right (by rw [en2_len]; omega), en2_len]
      simp
theorem en2_1 (f : Nat → PV × PV) : ∀ {n k}, k < n → (en2 f n)[k * 2 + 1]? = some (f k).2
  | n + 1, k, h => by
    rw [en2_succ]
    by_cases hk : k < n
    · rw [List.getElem?_append_left (by rw [en2_len]; omega)]
      exact en2_1 f hk
    · have : k = n := by omega
      subst this
      rw [List.getElem?_append_right (by rw [en2_len]; omega), en2_len, show k * 2 + 1 - k * 2 = 1 by omega]
      rfl
theorem en2_take (f : Nat → PV × PV) {m : Nat} : ∀ {n}, m ≤ n → (en2 f n).take (m * 2) = en2 f m
  | 0, h => by
    have : m = 0 := by omega
    subst this
    rfl
  | n + 1, h => by
    by_cases hm : m = n + 1
    · subst hm
      exact List.take_of_length_le (by rw [en2_len]; omega)
    · rw [en2_succ, List.take_append_of_le_length (by rw [en2_len]; omega)]
      exact en2_take f (by omega)

/-! ### All cases -/

/-- A valid case, in short. -/
def casP (s v : List Int) (n d : Int) : List PV := [.list s.length (encI s), .list v.length (encI v), .int .i64 n, .int .i64 d]
def caF (s v : List Int) (k : Nat) : PV × PV := (.int .i64 (k : Int), .list s.length (encI (nzL s v k)))
theorem nzL_len (s v : List Int) (d : Int) : (nzL s v d).length = s.length := tabI_len _ _
theorem nz_sp {s v : List Int} {n d : Int} (c : Ca s v n d) (x : Int) : Sp (nzL s v x) := by
  refine ⟨by rw [nzL_len]; exact c.sp.pos, by rw [nzL_len]; exact c.sp.len, fun y hy => ?_⟩
  obtain ⟨k, hk, rfl⟩ := tabI_mem hy
  have a := c.sp.sm.getD (by omega) k
  have a2 := c.weak _ (getD_mem hk)
  have b := c.nz.sm.getD (by omega) ((dgI v.length x k).tmod v.length).toNat
  unfold nzF
  omega
theorem noisyC {s v : List Int} {n d : Int} (c : Ca s v n d) {k : Int} (hk : 0 ≤ k ∧ k ≤ 4096) (t1 t2 : Int) :
    Fline_noisy [.agg [.list s.length (encI s), .list v.length (encI v), .int .i64 t1, .int .i64 t2], .int .i64 k] = some (s.length, encI (nzL s v k)) := by
  have h1 := c.sp.pos; have h2 := c.sp.len; have h3 := c.nz.pos; have h4 := c.nz.len
  exact noisy_is s v (by omega) (by omega) c.sp.sm c.nz.sm (by omega) t1 t2
theorem refNoisyC {s v : List Int} {n d : Int} (c : Ca s v n d) {k : Int} (hk : 0 ≤ k ∧ k ≤ 4096) :
    FRfNoisy [.list s.length (encI s), .agg [.list v.length (encI v)], .int .i64 k] = some (s.length, encI (nzL s v k)) := by
  have h1 := c.sp.pos; have h2 := c.sp.len; have h3 := c.nz.pos; have h4 := c.nz.len
  exact refNoisy_is s v (by omega) (by omega) c.sp.sm c.nz.sm (by omega)
theorem countC {s v : List Int} {n d : Int} (c : Ca s v n d) (t1 t2 : Int) : Fline_caseCount [.agg [.list s.length (encI s), .list v.length (encI v), .int .i64 t1, .int .i64 t2]] = some (cnt s v : Int) :=
  caseCount_is s v c.nz.len c.sp.len t1 t2
theorem refCasesC {s v : List Int} {n d : Int} (c : Ca s v n d) : FRfCases [.agg [.list v.length (encI v)], .int .i64 s.length] = some (cnt s v : Int) := by
  have h := c.cs
  rw [refCases_is v ⟨c.nz.pos, c.nz.len⟩ s.length c.sp.len, if_neg (by show ¬ 4096 < cnt s v; omega)]
  rfl
theorem cnt_pos {s v : List Int} {n d : Int} (c : Ca s v n d) : 1 ≤ cnt s v := Nat.pow_pos c.nz.pos

theorem casesOf_loop {s v : List Int} {n d : Int} (c : Ca s v n d) (t1 t2 : Int) (k : Nat) : ∀ j, j ≤ cnt s v → j ≤ k →
    Rline_casesOf_1_0 (Tline_casesOf_1_0a s.length (encI s) v.length (encI v) t1 t2 (cnt s v : Int) j [none, none] k j (en2 (caF s v) j)) =
      if k < cnt s v then exO (Xline_casesOf_1_0a ([none, none], k, k + 1, en2 (caF s v) (k + 1))) else exO (Xline_casesOf_1_0b ([none, none], k, cnt s v, en2 (caF s v) (cnt s v))) := by
  have hc := c.cs
  refine up_ind _ ?_ ?_
  · intro hk
    rw [if_neg (by omega)]
    refine Rline_casesOf_1_0a_of _ _ _ _ _ _ _ _ _ _ _ _ ?_
    unfold Bline_casesOf_1_0a
    rw [bif_neg (by omega)]
    rfl
  · intro j hj ih hk
    obtain ⟨r, hr⟩ : ∃ r, (if k < cnt s v then exO (Xline_casesOf_1_0a ([none, none], k, k + 1, en2 (caF s v) (k + 1))) else exO (Xline_casesOf_1_0b ([none, none], k, cnt s v, en2 (caF s v) (cnt s v)))) = some r := by
      split <;> exact ⟨_, rfl⟩
    rw [hr]
    refine Rline_casesOf_1_0a_of _ _ _ _ _ _ _ _ _ _ _ _ ?_
    unfold Bline_casesOf_1_0a
    rw [bif_pos (by omega)]
    simp only [noisyC c (k := (j : Int)) (by omega), bindO_val]
    rw [bif_pos hk, show shapeOK [none, none] [PV.int IntKind.i64 (j : Int), encR (RSh.one CK.list) (s.length, encI (nzL s v j))] = true from rfl, cond_true]
    rw [show en2 (caF s v) j ++ [PV.int IntKind.i64 (j : Int), PV.list s.length (encI (nzL s v j))] = en2 (caF s v) (j + 1) from (en2_succ _ _).symm]
    by_cases he : j = k
    · subst he
      rw [show (j != j) = false from by simp, cond_false]
      rw [if_pos hj] at hr
      exact hr
    · rw [show (j != k) = true from by simp [he], cond_true, w64_in (by omega)]
      rw [← hr]
      exact ih (by omega)
theorem casesIt_is {s v : List Int} {n d : Int} (c : Ca s v n d) (t1 t2 : Int) :
    Fn env 92 (.one .list) [.it [none, none] 0, .imm [.list s.length (encI s), .list v.length (encI v), .int .i64 t1, .int .i64 t2] 0] = some (cnt s v, en2 (caF s v) (cnt s v)) := by
  have hc := c.cs
  refine it_of (by simp only [big]; omega) (by rw [en2_len]; rfl) fun k hk => ?_
  refine Fline_casesOf_1_of _ _ _ _ _ _ _ ?_
  unfold tline_casesOf_1
  have h := casesOf_loop c t1 t2 k 0 (by omega) (by omega)
  rw [show ((0 : Nat) : Int) = 0 from rfl, show en2 (caF s v) 0 = [] from rfl] at h
  rw [show min (k + 1) (cnt s v) * shSize [none, none] = min (k + 1) (cnt s v) * 2 from rfl]
  simp only [countC c, bindO_val]
  by_cases hq : k < cnt s v
  · rw [if_pos hq] at h
    have q := Lline_casesOf_1_0a_of h
    simp only [q, bindO_val, Sum.elim_inl]
    rw [Nat.min_eq_left (by omega), en2_take _ (by omega)]
  · rw [if_neg hq] at h
    have q := Lline_casesOf_1_0b_of h
    simp only [q, bindO_val, Sum.elim_inr]
    rw [Nat.min_eq_right (by omega), en2_take _ (Nat.le_refl _)]

/-! ### The error of an estimate -/

theorem lowF_abs (x y : Int) : ((lowF x y).1.natAbs : Int) = (lowF (x.natAbs : Int) y).1 ∧ (lowF x y).2 = (lowF (x.natAbs : Int) y).2 := by
  have g : Int.gcd (x.natAbs : Int) y = Int.gcd x y := by unfold Int.gcd; rw [Int.natAbs_natCast]
  unfold lowF
  rw [g]
  refine ⟨?_, rfl⟩
  show ((x.tdiv (Int.gcd x y)).natAbs : Int) = ((x.natAbs : Int)).tdiv (Int.gcd x y)
  rw [Int.natAbs_tdiv, Int.natAbs_natCast]
  rfl

def ofX (s v : List Int) (n d kind : Int) (k : Int) : Int := (est (nzL s v k) kind).1 * d - n * (est (nzL s v k) kind).2
def ofY (s v : List Int) (d kind : Int) (k : Int) : Int := (est (nzL s v k) kind).2 * d
def ofF (s v : List Int) (n d kind : Int) (k : Int) : Int × Int := lowF ((ofX s v n d kind k).natAbs : Int) (ofY s v d kind k)
theorem mul_le {a b p q : Int} (h1 : a ≤ p) (h2 : b ≤ q) (h3 : 0 ≤ b) (h4 : 0 ≤ p) : a * b ≤ p * q := Int.mul_le_mul h1 h2 h3 h4
theorem mul_in {a b p q : Int} (h1 : -p ≤ a ∧ a ≤ p) (h2 : 0 ≤ b ∧ b ≤ q) (hp : 0 ≤ p) : -(p * q) ≤ a * b ∧ a * b ≤ p * q := by
  have e1 := mul_le (a := a) (b := b) h1.2 h2.2 h2.1 hp
  have e2 := mul_le (a := -a) (b := b) (p := p) (q := q) (by omega) h2.2 h2.1 hp
  rw [Int.neg_mul] at e2
  omega
/-- Parts of an estimate and of a truth, multiplied. -/
structure Pd (s v : List Int) (n d kind k : Int) : Prop where
  a : -256000000 ≤ (est (nzL s v k) kind).1 * d ∧ (est (nzL s v k) kind).1 * d ≤ 256000000
  b : -16000000 ≤ n * (est (nzL s v k) kind).2 ∧ n * (est (nzL s v k) kind).2 ≤ 16000000
  y : 0 < ofY s v d kind k ∧ ofY s v d kind k ≤ 16000000
theorem pd_ok {s v : List Int} {n d : Int} (c : Ca s v n d) (kind k : Int) : Pd s v n d kind k := by
  have e := est_ok (nz_sp c k) kind
  have d0 := c.lo.1; have d1 := c.db; have n1 := c.nb
  have e1 := e.num; have e2 := e.nb; have e3 := e.den; have e4 := e.db
  have p1 := mul_in (a := (est (nzL s v k) kind).1) (b := d) (p := 2560000) (q := 100) (by omega) (by omega) (by omega)
  have p2 := mul_in (a := n) (b := (est (nzL s v k) kind).2) (p := 100) (q := 160000) (by omega) (by omega) (by omega)
  have p3 := mul_in (a := (est (nzL s v k) kind).2) (b := d) (p := 160000) (q := 100) (by omega) (by omega) (by omega)
  exact ⟨by omega, by omega, Int.mul_pos e3 d0, by unfold ofY; omega⟩
theorem of_bd {s v : List Int} {n d : Int} (c : Ca s v n d) (kind k : Int) : 0 ≤ (ofF s v n d kind k).1 ∧ (ofF s v n d kind k).1 ≤ 272000000 ∧ 0 < (ofF s v n d kind k).2 ∧ (ofF s v n d kind k).2 ≤ 16000000 := by
  have p := pd_ok c kind k
  have y := p.y
  have x : -272000000 ≤ ofX s v n d kind k ∧ ofX s v n d kind k ≤ 272000000 := by have := p.a; have := p.b; unfold ofX; omega
  have b1 := tdiv_bd (m := 272000000) (n := ((ofX s v n d kind k).natAbs : Int)) (Int.gcd ((ofX s v n d kind k).natAbs : Int) (ofY s v d kind k)) (by unfold Bd; omega)
  have b2 := tdiv_bd (m := 16000000) (n := ofY s v d kind k) (Int.gcd ((ofX s v n d kind k).natAbs : Int) (ofY s v d kind k)) (by unfold Bd; omega)
  rw [show ((ofX s v n d kind k).natAbs : Int).tdiv (Int.gcd ((ofX s v n d kind k).natAbs : Int) (ofY s v d kind k)) = (ofF s v n d kind k).1 from rfl] at b1
  rw [show (ofY s v d kind k).tdiv (Int.gcd ((ofX s v n d kind k).natAbs : Int) (ofY s v d kind k)) = (ofF s v n d kind k).2 from rfl] at b2
  have t := lowF_ge (a := 0) (b := 1) (n := ((ofX s v n d kind k).natAbs : Int)) (d := ofY s v d kind k) y.1 (by omega)
  rw [show lowF ((ofX s v n d kind k).natAbs : Int) (ofY s v d kind k) = ofF s v n d kind k from rfl] at t
  have u := lowF_den (n := ((ofX s v n d kind k).natAbs : Int)) (d := ofY s v d kind k) y.1
  rw [show lowF ((ofX s v n d kind k).natAbs : Int) (ofY s v d kind k) = ofF s v n d kind k from rfl] at u
  unfold Bd at b1 b2
  omega

theorem errorIn_is {s v : List Int} {n d : Int} (c : Ca s v n d) {kind : Int} (hk : rangeE kind 0 3 = 0) (k : Int) :
    Fline_errorIn [.list s.length (encI (nzL s v k)), .int .i64 kind, .agg [.int .i64 n, .int .i64 d]] = some (ofF s v n d kind k) := by
  refine Fline_errorIn_of _ _ _ _ _ ?_
  unfold tline_errorIn
  have p := pd_ok c kind k
  have p1 := p.a; have p2 := p.b; have p3 := p.y
  have e := estimate_is (nz_sp c k) hk
  rw [nzL_len] at e
  have m : Fline_minus [.agg [.int .i64 (est (nzL s v k) kind).1, .int .i64 (est (nzL s v k) kind).2], .agg [.int .i64 n, .int .i64 d]] = some (lowF (ofX s v n d kind k) (ofY s v d kind k)) := by
    refine Fline_minus_of _ _ _ _ ?_
    unfold tline_minus
    rw [w64_in (n := (est (nzL s v k) kind).1 * d) (by omega), w64_in (n := n * (est (nzL s v k) kind).2) (by omega), w64_in (n := (est (nzL s v k) kind).1 * d - n * (est (nzL s v k) kind).2) (by omega)]
    rw [show (est (nzL s v k) kind).2 * d = ofY s v d kind k from rfl, show (est (nzL s v k) kind).1 * d - n * (est (nzL s v k) kind).2 = ofX s v n d kind k from rfl, w64_in (n := ofY s v d kind k) (by omega)]
    simp only [lowest_is (n := ofX s v n d kind k) (d := ofY s v d kind k) (by unfold ofX Bd; omega) (by unfold Bd; omega) p3.1, bindO_val]
  have b := lowF_bd (m := 4611686018427387904) (n := ofX s v n d kind k) (d := ofY s v d kind k) (by unfold ofX Bd; omega) (by unfold Bd; omega)
  obtain ⟨q1, q2⟩ := lowF_abs (ofX s v n d kind k) (ofY s v d kind k)
  simp only [e, m, bindO_val, max_neg64 b.1]
  rw [q1, q2]
  rfl
/-! ### The worst of all -/

/-- A fraction that is compared. -/
def Fb (f : Int × Int) : Prop := 0 ≤ f.1 ∧ f.1 ≤ 272000000 ∧ 0 < f.2 ∧ f.2 ≤ 16000000
theorem fb_mul {f g : Int × Int} (hf : Fb f) (hg : Fb g) : w64 (f.1 * g.2) = f.1 * g.2 := by
  obtain ⟨a, b, _, _⟩ := hf
  obtain ⟨_, _, c, d⟩ := hg
  have := mul_in (a := f.1) (b := g.2) (p := 272000000) (q := 16000000) (by omega) (by omega) (by omega)
  exact w64_in (by omega)
theorem isLess_is {f g : Int × Int} (hf : Fb f) (hg : Fb g) : Fline_isLess [.agg [.int .i64 f.1, .int .i64 f.2], .agg [.int .i64 g.1, .int .i64 g.2]] = some (decide (f.1 * g.2 < g.1 * f.2)) := by
  refine Fline_isLess_of _ _ _ _ ?_
  unfold tline_isLess
  rw [fb_mul hf hg, fb_mul hg hf]
  by_cases h : f.1 * g.2 < g.1 * f.2
  · rw [bif_pos h, decide_eq_true h]
  · rw [bif_neg h, decide_eq_false h]
def cmpF (f g : Int × Int) : Int := if f.1 * g.2 < g.1 * f.2 then -1 else if f.1 * g.2 > g.1 * f.2 then 1 else 0
theorem cmp_is {f g : Int × Int} (hf : w64 (f.1 * g.2) = f.1 * g.2) (hg : w64 (g.1 * f.2) = g.1 * f.2) : FBsCmp [.agg [.int .i64 f.1, .int .i64 f.2], .agg [.int .i64 g.1, .int .i64 g.2]] = some (cmpF f g) := by
  refine FBsCmp_of _ _ _ _ ?_
  unfold tBsCmp cmpF
  rw [hf, hg]
  by_cases h : f.1 * g.2 < g.1 * f.2
  · rw [bif_pos h, if_pos h]
  · rw [bif_neg h, if_neg h]
    by_cases h2 : f.1 * g.2 > g.1 * f.2
    · rw [bif_pos h2, if_pos h2]
    · rw [bif_neg h2, if_neg h2]

def wsS (f : Nat → Int × Int) (i : Nat) (w : (Int × Int) × Int) : (Int × Int) × Int := if w.1.1 * (f i).2 < (f i).1 * w.1.2 then (f i, (i : Int)) else w
def wsG (f : Nat → Int × Int) : Nat → Nat → (Int × Int) × Int → (Int × Int) × Int
  | 0, _, w => w
  | n + 1, i, w => wsG f n (i + 1) (wsS f i w)
theorem wsS_fb {f : Nat → Int × Int} (h : ∀ k, Fb (f k)) {w : (Int × Int) × Int} (hw : Fb w.1) (i : Nat) : Fb (wsS f i w).1 := by
  unfold wsS
  split
  · exact h i
  · exact hw
theorem ofFb {s v : List Int} {n d : Int} (c : Ca s v n d) (kind : Int) (k : Nat) : Fb (ofF s v n d kind k) := of_bd c kind k

def ofN (s v : List Int) (n d kind : Int) (k : Nat) : Int × Int := ofF s v n d kind k
/-- The worst of all cases. -/
def wsT (s v : List Int) (n d kind : Int) : (Int × Int) × Int := wsG (ofN s v n d kind) (cnt s v) 0 ((0, 1), 0)

theorem worst_loop {s v : List Int} {n d : Int} (c : Ca s v n d) {kind : Int} (hk : rangeE kind 0 3 = 0) : ∀ i, i ≤ cnt s v → ∀ w : (Int × Int) × Int, Fb w.1 →
    Rline_worstOf_3000028 (Tline_worstOf_3000028a (cnt s v) (en2 (caF s v) (cnt s v)) i s.length (encI s) v.length (encI v) n d kind w.1.1 w.1.2 w.2) =
      exO (Xline_worstOf_3000028a (s.length, encI s, v.length, encI v, n, d, kind, (wsG (ofN s v n d kind) (cnt s v - i) i w).1.1, (wsG (ofN s v n d kind) (cnt s v - i) i w).1.2, (wsG (ofN s v n d kind) (cnt s v - i) i w).2)) := by
  have hc := c.cs
  refine up_ind _ ?_ ?_
  · intro w _
    rw [Nat.sub_self]
    refine Rline_worstOf_3000028a_of _ _ _ _ _ _ _ _ _ _ _ _ _ ?_
    unfold Bline_worstOf_3000028a
    rw [bif_neg (by omega)]
    rfl
  · intro i hi ih w hw
    have step : ∀ r, Rline_worstOf_3000028 (Tline_worstOf_3000028a (cnt s v) (en2 (caF s v) (cnt s v)) ((i + 1 : Nat) : Int) s.length (encI s) v.length (encI v) n d kind (wsS (ofN s v n d kind) i w).1.1 (wsS (ofN s v n d kind) i w).1.2 (wsS (ofN s v n d kind) i w).2) = some r →
        Rline_worstOf_3000028 (Tline_worstOf_3000028a (cnt s v) (en2 (caF s v) (cnt s v)) i s.length (encI s) v.length (encI v) n d kind w.1.1 w.1.2 w.2) = some r := by
      intro r hr
      refine Rline_worstOf_3000028a_of _ _ _ _ _ _ _ _ _ _ _ _ _ ?_
      unfold Bline_worstOf_3000028a
      rw [bif_pos (by omega), bif_pos (by omega)]
      simp only [Int.toNat_natCast, en2_0 (caF s v) hi, en2_1 (caF s v) hi, caF, intC_int, listC_list, bindO_val, errorIn_is c hk, isLess_is hw (ofFb c kind i)]
      rw [w64_in (by omega)]
      unfold wsS ofN at hr
      by_cases h : w.1.1 * (ofF s v n d kind i).2 < (ofF s v n d kind i).1 * w.1.2
      · rw [if_pos h] at hr
        rw [bif_pos h]
        exact hr
      · rw [if_neg h] at hr
        rw [bif_neg h]
        exact hr
    refine step _ ?_
    rw [show cnt s v - i = (cnt s v - (i + 1)) + 1 by omega, wsG]
    exact ih _ (wsS_fb (fun k => ofFb c kind k) hw i)
theorem worstOf_is {s v : List Int} {n d : Int} (c : Ca s v n d) {kind : Int} (hk : rangeE kind 0 3 = 0) :
    Fline_worstOf [.agg [.list s.length (encI s), .list v.length (encI v), .int .i64 n, .int .i64 d], .int .i64 kind] = some ((wsT s v n d kind).1.1, ((wsT s v n d kind).1.2, (wsT s v n d kind).2)) := by
  refine Fline_worstOf_of _ _ _ _ _ _ _ ?_
  unfold tline_worstOf
  have := Lline_worstOf_3000028a_of (worst_loop c hk 0 (by omega) ((0, 1), 0) ⟨by simp, by simp, by simp, by simp⟩)
  rw [Nat.sub_zero, show ((0 : Nat) : Int) = 0 from rfl] at this
  simp only [casesIt_is c, this, bindO_val]
  rfl

theorem worstOfAll_is (s v : List Int) (hs : s.length < 4294967296) (hv : v.length < 4294967296) {n d : Int} (hd : I64 d) (kind : Int) :
    Fline_WorstOf [.agg [.list s.length (encI s), .list v.length (encI v), .int .i64 n, .int .i64 d], .int .i64 kind] =
      some (if both (caE s v n d) (if rangeE kind 0 3 = 0 then 0 else 14) ≠ 0 then (0, (0, (0, both (caE s v n d) (if rangeE kind 0 3 = 0 then 0 else 14)))) else ((wsT s v n d kind).1.1, ((wsT s v n d kind).1.2, ((wsT s v n d kind).2, 0)))) := by
  refine Fline_WorstOf_of _ _ _ _ _ _ _ ?_
  unfold tline_WorstOf
  simp only [checkCase_is s v hs hv hd, kindError_is, lnFirst2_is, bindO_val, bif_ne]
  by_cases h : both (caE s v n d) (if rangeE kind 0 3 = 0 then 0 else 14) = 0
  · obtain ⟨h1, h2⟩ := both_nil h
    have hk : rangeE kind 0 3 = 0 := by
      split at h2
      · assumption
      · cases h2
    simp only [h, if_true, ne_eq, not_true_eq_false, if_false, worstOf_is (ca_ok h1) hk, bindO_val]
  · simp only [h, if_false, ne_eq, not_false_eq_true, if_true]

/-! ### The bias -/

/-- The sum of the estimates' numerators, of so many cases from one on. -/
def bsG (s v : List Int) (kind : Int) : Nat → Nat → Int
  | 0, _ => 0
  | n + 1, i => (est (nzL s v i) kind).1 + bsG s v kind n (i + 1)
def bsT (s v : List Int) (kind : Int) : Int := bsG s v kind (cnt s v) 0
theorem bs_bd {s v : List Int} {n d : Int} (c : Ca s v n d) (kind : Int) : ∀ m i, 0 ≤ bsG s v kind m i ∧ bsG s v kind m i ≤ m * 2560000
  | 0, i => by simp [bsG]
  | m + 1, i => by
    have e := est_ok (nz_sp c i) kind
    have a := bs_bd c kind m (i + 1)
    have e1 := e.num; have e2 := e.nb
    rw [bsG]
    omega
theorem bias_loop {s v : List Int} {n d : Int} (c : Ca s v n d) {kind : Int} (hk : rangeE kind 0 3 = 0) : ∀ i, i ≤ cnt s v → ∀ w : Int, 0 ≤ w → w ≤ i * 2560000 →
    Rline_BiasOf_3000045 (Tline_BiasOf_3000045a (cnt s v) (en2 (caF s v) (cnt s v)) i s.length (encI s) v.length (encI v) n d kind w) =
      exO (Xline_BiasOf_3000045a (s.length, encI s, v.length, encI v, n, d, kind, w + bsG s v kind (cnt s v - i) i)) := by
  have hc := c.cs
  refine up_ind _ ?_ ?_
  · intro w _ _
    rw [Nat.sub_self]
    refine Rline_BiasOf_3000045a_of _ _ _ _ _ _ _ _ _ _ _ ?_
    unfold Bline_BiasOf_3000045a
    rw [bif_neg (by omega)]
    simp only [bsG, Int.add_zero]
    rfl
  · intro i hi ih w h1 h2
    have e := estimate_is (nz_sp c i) hk
    rw [nzL_len] at e
    have o := est_ok (nz_sp c i) kind
    have e1 := o.num; have e2 := o.nb
    refine Rline_BiasOf_3000045a_of _ _ _ _ _ _ _ _ _ _ _ ?_
    unfold Bline_BiasOf_3000045a
    rw [bif_pos (by omega), bif_pos (by omega)]
    simp only [Int.toNat_natCast, en2_0 (caF s v) hi, en2_1 (caF s v) hi, caF, intC_int, listC_list, bindO_val, e]
    rw [w64_in (by omega), w64_in (by omega), show cnt s v - i = (cnt s v - (i + 1)) + 1 by omega, bsG, ← Int.add_assoc]
    exact ih _ (by omega) (by omega)
/-- The mean of the estimates, minus the truth. -/
def biX (s v : List Int) (n d kind : Int) : Int := bsT s v kind * d - n * (cnt s v : Int)
def biF (s v : List Int) (n d kind : Int) : Int × Int := lowF (biX s v n d kind) ((cnt s v : Int) * d)
structure Bb (s v : List Int) (n d kind : Int) : Prop where
  s0 : 0 ≤ bsT s v kind
  s1 : bsT s v kind ≤ 10485760000
  sd : 0 ≤ bsT s v kind * d ∧ bsT s v kind * d ≤ 1048576000000
  nc : -409600 ≤ n * (cnt s v : Int) ∧ n * (cnt s v : Int) ≤ 409600
  cd : 0 < (cnt s v : Int) * d ∧ (cnt s v : Int) * d ≤ 409600
theorem bb_ok {s v : List Int} {n d : Int} (c : Ca s v n d) (kind : Int) : Bb s v n d kind := by
  have hc := c.cs; have hp := cnt_pos c
  have b := bs_bd c kind (cnt s v) 0
  rw [show bsG s v kind (cnt s v) 0 = bsT s v kind from rfl] at b
  have d0 := c.lo.1; have d1 := c.db; have n1 := c.nb
  have p1 := mul_in (a := bsT s v kind) (b := d) (p := 10485760000) (q := 100) (by omega) (by omega) (by omega)
  have p2 := mul_in (a := n) (b := (cnt s v : Int)) (p := 100) (q := 4096) (by omega) (by omega) (by omega)
  have p3 := mul_in (a := (cnt s v : Int)) (b := d) (p := 4096) (q := 100) (by omega) (by omega) (by omega)
  have p4 := Int.mul_nonneg b.1 (show 0 ≤ d by omega)
  have p5 := Int.mul_pos (show 0 < (cnt s v : Int) by omega) d0
  exact ⟨b.1, by omega, ⟨p4, by omega⟩, by omega, ⟨p5, by omega⟩⟩
/-- minus (lowest sum count) truth is the same fraction. -/
theorem bias_low {s v : List Int} {n d : Int} (c : Ca s v n d) (kind : Int) :
    Fline_minus [.agg [.int .i64 (lowF (bsT s v kind) (cnt s v)).1, .int .i64 (lowF (bsT s v kind) (cnt s v)).2], .agg [.int .i64 n, .int .i64 d]] = some (biF s v n d kind) := by
  refine Fline_minus_of _ _ _ _ ?_
  unfold tline_minus
  have b := bb_ok c kind
  have hp := cnt_pos c; have hc := c.cs
  have d0 := c.lo.1; have d1 := c.db; have n1 := c.nb; have s0 := b.s0; have s1 := b.s1
  obtain ⟨e1, e2⟩ := lowF_mul (bsT s v kind) (cnt s v)
  have g := gcd_pos (n := bsT s v kind) (d := (cnt s v : Int)) (by omega)
  have y0 := lowF_den (n := bsT s v kind) (d := (cnt s v : Int)) (by omega)
  have x0 := lowF_ge (a := 0) (b := 1) (n := bsT s v kind) (d := (cnt s v : Int)) (by omega) (by omega)
  have t1 := tdiv_bd (m := 10485760000) (n := bsT s v kind) (Int.gcd (bsT s v kind) (cnt s v)) (by unfold Bd; omega)
  have t2 := tdiv_bd (m := 4096) (n := (cnt s v : Int)) (Int.gcd (bsT s v kind) (cnt s v)) (by unfold Bd; omega)
  rw [show (bsT s v kind).tdiv (Int.gcd (bsT s v kind) (cnt s v)) = (lowF (bsT s v kind) (cnt s v)).1 from rfl] at t1
  rw [show ((cnt s v : Int)).tdiv (Int.gcd (bsT s v kind) (cnt s v)) = (lowF (bsT s v kind) (cnt s v)).2 from rfl] at t2
  obtain ⟨x, hx⟩ : ∃ x, x = (lowF (bsT s v kind) (cnt s v)).1 := ⟨_, rfl⟩
  obtain ⟨y, hy⟩ : ∃ x, x = (lowF (bsT s v kind) (cnt s v)).2 := ⟨_, rfl⟩
  obtain ⟨u, hu⟩ : ∃ x : Int, x = (Int.gcd (bsT s v kind) (cnt s v) : Int) := ⟨_, rfl⟩
  rw [← hx, ← hu] at e1
  rw [← hy, ← hu] at e2
  rw [← hu] at g
  rw [← hx] at t1 x0
  rw [← hy] at t2 y0 x0
  rw [← hx, ← hy]
  unfold Bd at t1 t2
  have p1 := mul_in (a := x) (b := d) (p := 10485760000) (q := 100) (by omega) (by omega) (by omega)
  have p2 := mul_in (a := n) (b := y) (p := 100) (q := 4096) (by omega) (by omega) (by omega)
  have p3 := mul_in (a := y) (b := d) (p := 4096) (q := 100) (by omega) (by omega) (by omega)
  have p4 := Int.mul_pos y0 d0
  rw [w64_in (n := x * d) (by omega), w64_in (n := n * y) (by omega), w64_in (n := x * d - n * y) (by omega), w64_in (n := y * d) (by omega)]
  simp only [lowest_is (n := x * d - n * y) (d := y * d) (by unfold Bd; omega) (by unfold Bd; omega) p4, bindO_val]
  have same : lowF (x * d - n * y) (y * d) = biF s v n d kind := by
    unfold biF biX
    refine lowF_same p4 b.cd.1 ?_
    rw [← e1, ← e2]
    grind
  rw [same]
end Gv

/- Light cases, and the bias of an estimator. -/
namespace Gv
open Go
set_option maxRecDepth 100000

theorem light_is (s v : List Int) {n d : Int} (hd : I64 d) : FLwlight [.agg [.list s.length (encI s), .list v.length (encI v), .int .i64 n, .int .i64 d]] =
    some (decide (s.length ≤ 20) && (decide (v.length ≤ 20) && (decide (caE s v n d ≠ 0) || decide (cnt s v ≤ 256)))) := by
  refine FLwlight_of _ _ _ _ _ _ ?_
  unfold tLwlight
  simp only [short_is, refCaseErr_is s v hd, bindO_val, bif_dec, bif_ne]
  by_cases h1 : s.length ≤ 20
  · by_cases h2 : v.length ≤ 20
    · rw [if_pos h1, if_pos h2, decide_eq_true h1, decide_eq_true h2, Bool.true_and, Bool.true_and]
      by_cases h3 : caE s v n d = 0
      · simp only [h3, if_true, refCasesC (ca_ok h3), bindO_val, ne_eq, not_true_eq_false, decide_false, Bool.false_or]
        by_cases h4 : cnt s v ≤ 256
        · rw [if_pos (by omega), decide_eq_true h4]
        · rw [if_neg (by omega), decide_eq_false h4]
      · simp only [h3, if_false, ne_eq, not_false_eq_true, decide_true, Bool.true_or]
    · rw [if_pos h1, if_neg h2, decide_eq_false h2, Bool.false_and, Bool.and_false]
  · rw [if_neg h1, decide_eq_false h1, Bool.false_and]

def biE (s v : List Int) (n d kind : Int) : Int := both (caE s v n d) (if kind = 0 ∨ kind = 3 then 0 else 14)
def biR (s v : List Int) (n d kind : Int) : Int × (Int × Int) := if biE s v n d kind ≠ 0 then (0, (0, biE s v n d kind)) else ((biF s v n d kind).1, ((biF s v n d kind).2, 0))
theorem biasOf_is (s v : List Int) (hs : s.length < 4294967296) (hv : v.length < 4294967296) {n d : Int} (hd : I64 d) (kind : Int) :
    Fline_BiasOf [.agg [.list s.length (encI s), .list v.length (encI v), .int .i64 n, .int .i64 d], .int .i64 kind] = some (biR s v n d kind) := by
  refine Fline_BiasOf_of _ _ _ _ _ _ _ ?_
  unfold tline_BiasOf biR biE
  have good : kind = 0 ∨ kind = 3 → caE s v n d = 0 → ∃ L, Lline_BiasOf_3000045 (Tline_BiasOf_3000045a (cnt s v) (en2 (caF s v) (cnt s v)) 0 s.length (encI s) v.length (encI v) n d kind 0) = some L ∧ L = (s.length, encI s, v.length, encI v, n, d, kind, bsT s v kind) := by
    intro hk h0
    have c := ca_ok h0
    have hr : rangeE kind 0 3 = 0 := rangeE_in (by omega)
    have := Lline_BiasOf_3000045a_of (bias_loop c hr 0 (by omega) 0 (by omega) (by omega))
    rw [Nat.sub_zero, show ((0 : Nat) : Int) = 0 from rfl, Int.zero_add] at this
    exact ⟨_, this, rfl⟩
  have low : caE s v n d = 0 → Fline_lowest [.int .i64 (bsT s v kind), .int .i64 (cnt s v)] = some (lowF (bsT s v kind) (cnt s v)) := by
    intro h0
    have c := ca_ok h0
    have b := bb_ok c kind
    have b0 := b.s0; have b1 := b.s1; have hp := cnt_pos c; have hc := c.cs
    exact lowest_is (by unfold Bd; omega) (by unfold Bd; omega) (by omega)
  by_cases k0 : kind = 0
  · have hk : kind = 0 ∨ kind = 3 := .inl k0
    rw [bif_eq, if_pos k0, if_pos hk]
    simp only [checkCase_is s v hs hv hd, lnFirst2_is, bindO_val, bif_ne]
    have e : both (caE s v n d) 0 = caE s v n d := by unfold both; split <;> omega
    rw [e]
    by_cases h0 : caE s v n d = 0
    · obtain ⟨L, l1, rfl⟩ := good hk h0
      have c := ca_ok h0
      simp only [h0, if_true, ne_eq, not_true_eq_false, if_false, casesIt_is c, l1, countC c, low h0, bias_low c kind, bindO_val]
    · simp only [h0, if_false, ne_eq, not_false_eq_true, if_true]
  · rw [bif_eq, if_neg k0]
    by_cases k3 : kind = 3
    · have hk : kind = 0 ∨ kind = 3 := .inr k3
      rw [bif_eq, if_pos k3, if_pos hk]
      simp only [checkCase_is s v hs hv hd, lnFirst2_is, bindO_val, bif_ne]
      have e : both (caE s v n d) 0 = caE s v n d := by unfold both; split <;> omega
      rw [e]
      by_cases h0 : caE s v n d = 0
      · obtain ⟨L, l1, rfl⟩ := good hk h0
        have c := ca_ok h0
        simp only [h0, if_true, ne_eq, not_true_eq_false, if_false, casesIt_is c, l1, countC c, low h0, bias_low c kind, bindO_val]
      · simp only [h0, if_false, ne_eq, not_false_eq_true, if_true]
    · have hk : ¬ (kind = 0 ∨ kind = 3) := by omega
      rw [bif_eq, if_neg k3, if_neg hk]
      simp only [checkCase_is s v hs hv hd, lnFirst2_is, bindO_val, bif_ne]
      have e : both (caE s v n d) 14 ≠ 0 := by unfold both; split <;> omega
      rw [if_neg e, if_pos e]

def kdE (kind : Int) : Int := if rangeE kind 0 3 = 0 then 0 else 14
theorem eq3 (a b c : Int) : ((a == a) && ((b == b) && ((c == c) && true))) = true := by simp
end Gv
