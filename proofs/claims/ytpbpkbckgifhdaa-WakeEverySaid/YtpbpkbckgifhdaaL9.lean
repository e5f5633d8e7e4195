/- The law of every path. -/
import Derived.Test.YtpbpkbckgifhdaaA0
import Derived.Test.YtpbpkbckgifhdaaK6
import Derived.Test.YtpbpkbckgifhdaaL8
import Derived.Test.YtpbpkbckgifhdaaBL9
namespace Gv
open Go
set_option maxRecDepth 100000
def loP (a : B6) : Z3 := (a.1, a.2.2.1, a.2.2.2.2.1)
def hiP (a : B6) : Z3 := (a.2.1, a.2.2.2.1, a.2.2.2.2.2)
def pathL (p : B6 → Z3) (b d : B6) : Nat → Nat → List Z3
  | _, 0 => []
  | k, n + 1 => p (aftV b d (k : Nat)) :: pathL p b d (k + 1) n
theorem pathL_len (p : B6 → Z3) (b d : B6) : ∀ (n k : Nat), (pathL p b d k n).length = n
  | 0, _ => rfl
  | n + 1, k => by unfold pathL; rw [List.length_cons, pathL_len p b d n (k + 1)]
theorem pathL_app (p : B6 → Z3) (b d : B6) : ∀ (n k : Nat), pathL p b d k (n + 1) = pathL p b d k n ++ [p (aftV b d ((k + n : Nat) : Int))]
  | 0, k => rfl
  | n + 1, k => by
    have e : pathL p b d k (n + 1 + 1) = p (aftV b d (k : Nat)) :: pathL p b d (k + 1) (n + 1) := rfl
    rw [e, pathL_app p b d n (k + 1)]
    have e2 : pathL p b d k (n + 1) = p (aftV b d (k : Nat)) :: pathL p b d (k + 1) n := rfl
    rw [e2, List.cons_append, show k + 1 + n = k + (n + 1) by omega]
theorem pathL_get (p : B6 → Z3) (b d : B6) : ∀ (n k j : Nat), j < n → (pathL p b d k n)[j]? = some (p (aftV b d ((k + j : Nat) : Int)))
  | 0, _, j, h => by omega
  | n + 1, k, 0, _ => by unfold pathL; rfl
  | n + 1, k, j + 1, h => by
    unfold pathL
    rw [List.getElem?_cons_succ, pathL_get p b d n (k + 1) j (by omega), show k + 1 + j = k + (j + 1) by omega]
theorem encT_app (l : List Z3) (z : Z3) : encT (l ++ [z]) = encT l ++ [.int .i64 z.1, .int .i64 z.2.1, .int .i64 z.2.2] := by
  unfold encT
  rw [List.flatMap_append]
  rfl
theorem lo_step {a d : B6} (hd : driE d = 0) (hg : Good a) : Hd (aftV (boxV (loP a)) d 1) (loP (aftV a d 1)) := by
  have hdo := driE_ok hd
  unfold Good at hg
  unfold Hd loP boxV aftV
  simp only [Int.one_mul]
  exact ⟨⟨by omega, by omega⟩, ⟨pos_mono (by omega), pos_mono (by omega)⟩, ⟨pos_mono (by omega), pos_mono (by omega)⟩⟩
theorem hi_step {a d : B6} (hd : driE d = 0) (hg : Good a) : Hd (aftV (boxV (hiP a)) d 1) (hiP (aftV a d 1)) := by
  have hdo := driE_ok hd
  unfold Good at hg
  unfold Hd hiP boxV aftV
  simp only [Int.one_mul]
  exact ⟨⟨by omega, by omega⟩, ⟨pos_mono (by omega), pos_mono (by omega)⟩, ⟨pos_mono (by omega), pos_mono (by omega)⟩⟩
theorem bad_ends {p : B6 → Z3} (hp : ∀ {a d : B6}, driE d = 0 → Good a → Hd (aftV (boxV (p a)) d 1) (p (aftV a d 1))) {b d : B6} (hb : boxE b = 0) (hd : driE d = 0) :
    ∀ (n k i : Nat) (x : B6), (0 < n → Hd x (p (aftV b d (k : Nat)))) → badF d x (pathL p b d k n) i = none
  | 0, _, _, _, _ => rfl
  | n + 1, k, i, x, h => by
    unfold pathL badF
    rw [if_pos (h (by omega))]
    refine bad_ends hp hb hd n (k + 1) (i + 1) _ fun _ => ?_
    have := hp hd (aft_good hb hd (t := (k : Int)) (by omega)).1
    rw [aft_succ hd (by omega)] at this
    exact_mod_cast this
theorem pathE_ends {p : B6 → Z3} (hp : ∀ {a d : B6}, driE d = 0 → Good a → Hd (aftV (boxV (p a)) d 1) (p (aftV a d 1))) (hz : ∀ a : B6, Good a → Hd a (p a)) {b d : B6} (hb : boxE b = 0) (hd : driE d = 0) {n : Nat} (h1 : 0 < n) (h2 : n ≤ 1000) :
    pathE b d (pathL p b d 0 n) = (0, 0) := by
  have hbo := boxE_ok hb
  unfold pathE
  rw [if_neg (by simp [both, hb, hd]), pathL_len, if_neg (by omega), if_neg (by omega)]
  unfold pathV
  have h0 : aftV b d ((0 : Nat) : Int) = b := aft_zero (box_sm hb).2
  rw [bad_ends hp hb hd n 0 0 b (fun _ => by rw [h0]; exact hz b (by unfold Good; omega))]
theorem lo_in (a : B6) (h : Good a) : Hd a (loP a) := by unfold Good at h; unfold Hd loP; simp only; omega
theorem hi_in (a : B6) (h : Good a) : Hd a (hiP a) := by unfold Good at h; unfold Hd hiP; simp only; omega
theorem aft_aft {b d : B6} (hb : boxE b = 0) (hd : driE d = 0) {s : Int} (hs : 0 ≤ s) : ∀ t : Nat, aftV (aftV b d s) d t = aftV b d (s + t)
  | 0 => by
    have hn : Nn (aftV b d s) := by
      unfold Nn aftV pos
      simp only
      refine ⟨?_, ?_, ?_, ?_⟩ <;> split <;> omega
    have := aft_zero (d := d) hn
    rw [show s + ((0 : Nat) : Int) = s by omega]
    exact this
  | t + 1 => by
    have := aft_succ (b := aftV b d s) hd (t := (t : Int)) (by omega)
    rw [show ((t + 1 : Nat) : Int) = (t : Int) + 1 by omega, ← this, aft_aft hb hd hs t, aft_succ hd (by omega), Int.add_assoc]
theorem vort_is (x y z : Int) : Fvort [.int .i64 x, .int .i64 y, .int .i64 z] = some (x, y, z) := Fvort_of _ _ _ rfl
theorem ev79a (b d : B6) (l : List Z3) (h : both (boxE b) (driE d) ≠ 0 ∨ l.length = 0 ∨ l.length > 20) : Llaw9_1000079 (Tlaw9_1000079a l.length (encT l) b.1 b.2.1 b.2.2.1 b.2.2.2.1 b.2.2.2.2.1 b.2.2.2.2.2 d.1 d.2.1 d.2.2.1 d.2.2.2.1 d.2.2.2.2.1 d.2.2.2.2.2) = some (Sum.inl ()) := by
  refine Llaw9_1000079a_of (Rlaw9_1000079a_of _ _ _ _ _ _ _ _ _ _ _ _ _ _ ?_)
  unfold Blaw9_1000079a
  have h1 : FrMovE [enc6 b, enc6 d] = _ := rMovE_is b d
  simp only [enc6] at h1
  simp only [h1, bindO_val, bif_ne]
  by_cases hz : both (boxE b) (driE d) = 0
  · rw [if_pos hz]
    by_cases h0 : l.length = 0
    · have : ((l.length : Int) == 0) = true := by simp [h0]
      rw [this]; rfl
    · have : ((l.length : Int) == 0) = false := by rw [beq_eq_false_iff_ne]; omega
      rw [this, cond_false, bif_pos (by omega)]; rfl
  · rw [if_neg hz]; rfl
theorem ev79b (b d : B6) (l : List Z3) (hz : both (boxE b) (driE d) = 0) (h0 : l.length ≠ 0) (h1 : ¬ l.length > 20) : Llaw9_1000079 (Tlaw9_1000079a l.length (encT l) b.1 b.2.1 b.2.2.1 b.2.2.2.1 b.2.2.2.2.1 b.2.2.2.2.2 d.1 d.2.1 d.2.2.1 d.2.2.2.1 d.2.2.2.2.1 d.2.2.2.2.2) = some (Sum.inr (l.length, encT l, b.1, b.2.1, b.2.2.1, b.2.2.2.1, b.2.2.2.2.1, b.2.2.2.2.2, d.1, d.2.1, d.2.2.1, d.2.2.2.1, d.2.2.2.2.1, d.2.2.2.2.2)) := by
  refine Llaw9_1000079b_of (Rlaw9_1000079a_of _ _ _ _ _ _ _ _ _ _ _ _ _ _ ?_)
  unfold Blaw9_1000079a
  have h2 : FrMovE [enc6 b, enc6 d] = _ := rMovE_is b d
  simp only [enc6] at h2
  have h3 : ((l.length : Int) == 0) = false := by rw [beq_eq_false_iff_ne]; omega
  simp only [h2, bindO_val, hz, bne_self_eq_false, cond_false, h3]
  rw [bif_neg (by omega)]
  rfl
theorem ev62a (b d : B6) (l : List Z3) (n t : Int) (h : t < (l.length : Int)) : Llaw9_1000062 (Tlaw9_1000062a l.length (encT l) n 0 t b.1 b.2.1 b.2.2.1 b.2.2.2.1 b.2.2.2.2.1 b.2.2.2.2.2 d.1 d.2.1 d.2.2.1 d.2.2.2.1 d.2.2.2.2.1 d.2.2.2.2.2) = some (Sum.inl (l.length, encT l, n, 0, t, b.1, b.2.1, b.2.2.1, b.2.2.2.1, b.2.2.2.2.1, b.2.2.2.2.2, d.1, d.2.1, d.2.2.1, d.2.2.2.1, d.2.2.2.2.1, d.2.2.2.2.2)) := by
  refine Llaw9_1000062a_of (Rlaw9_1000062a_of _ _ _ _ _ _ _ _ _ _ _ _ _ _ _ _ _ ?_)
  unfold Blaw9_1000062a
  rw [bif_pos h]
  rfl
theorem ev62b (b d : B6) (l : List Z3) (n e t : Int) (h : t < (l.length : Int)) (he : e ≠ 0) : Llaw9_1000062 (Tlaw9_1000062a l.length (encT l) n e t b.1 b.2.1 b.2.2.1 b.2.2.2.1 b.2.2.2.2.1 b.2.2.2.2.2 d.1 d.2.1 d.2.2.1 d.2.2.2.1 d.2.2.2.2.1 d.2.2.2.2.2) = some (Sum.inr (Sum.inl (l.length, encT l, n, e, t, t, l.length, encT l, (l.length : Int), e, b.1, b.2.1, b.2.2.1, b.2.2.2.1, b.2.2.2.2.1, b.2.2.2.2.2, d.1, d.2.1, d.2.2.1, d.2.2.2.1, d.2.2.2.2.1, d.2.2.2.2.2))) := by
  refine Llaw9_1000062b_of (Rlaw9_1000062a_of _ _ _ _ _ _ _ _ _ _ _ _ _ _ _ _ _ ?_)
  unfold Blaw9_1000062a
  have e1 : (e == 0) = false := by simpa using he
  rw [bif_pos h, e1]
  rfl
theorem ev62c (b d : B6) (l : List Z3) (n e t : Int) (h : ¬ t < (l.length : Int)) : Llaw9_1000062 (Tlaw9_1000062a l.length (encT l) n e t b.1 b.2.1 b.2.2.1 b.2.2.2.1 b.2.2.2.2.1 b.2.2.2.2.2 d.1 d.2.1 d.2.2.1 d.2.2.2.1 d.2.2.2.2.1 d.2.2.2.2.2) = some (Sum.inr (Sum.inr (l.length, encT l, n, e, t, t, l.length, encT l, (l.length : Int), b.1, b.2.1, b.2.2.1, b.2.2.2.1, b.2.2.2.2.1, b.2.2.2.2.2, d.1, d.2.1, d.2.2.1, d.2.2.2.1, d.2.2.2.2.1, d.2.2.2.2.2))) := by
  refine Llaw9_1000062c_of (Rlaw9_1000062a_of _ _ _ _ _ _ _ _ _ _ _ _ _ _ _ _ _ ?_)
  unfold Blaw9_1000062a
  rw [bif_neg h]
  rfl
theorem boxA_ok {b d : B6} (hb : boxE b = 0) (hd : driE d = 0) {t : Int} (ht : 0 ≤ t ∧ t ≤ 1000) : FboxA [enc6 b, enc6 d, .int .i64 t] = some ((aftV b d t).1, (aftV b d t).2.1, (aftV b d t).2.2.1, (aftV b d t).2.2.2.1, (aftV b d t).2.2.2.2.1, (aftV b d t).2.2.2.2.2, 0) := by
  rw [boxA_is, if_pos (by simp [first3, hb, hd, rangeE_if, ht])]
theorem ev58 {b d : B6} (hb : boxE b = 0) (hd : driE d = 0) (l : List Z3) (hl : l.length ≤ 20) (hp : (pathE b d l).2 = 0) (n : Int) (k : Nat) (hk : k < l.length) : Llaw9_1000058 (Tlaw9_1000058a l.length (encT l) n 0 k b.1 b.2.1 b.2.2.1 b.2.2.2.1 b.2.2.2.2.1 b.2.2.2.2.2 d.1 d.2.1 d.2.2.1 d.2.2.2.1 d.2.2.2.2.1 d.2.2.2.2.2) = some (Sum.inr (l.length, encT l, n, 0, (k : Int), b.1, b.2.1, b.2.2.1, b.2.2.2.1, b.2.2.2.2.1, b.2.2.2.2.2, d.1, d.2.1, d.2.2.1, d.2.2.2.1, d.2.2.2.2.1, d.2.2.2.2.2)) := by
  refine Llaw9_1000058b_of (Rlaw9_1000058a_of _ _ _ _ _ _ _ _ _ _ _ _ _ _ _ _ _ ?_)
  unfold Blaw9_1000058a
  have h1 := boxA_ok hb hd (t := (k : Int)) (by omega)
  obtain ⟨v, hv⟩ : ∃ v, l[k]? = some v := ⟨l[k], List.getElem?_eq_getElem hk⟩
  have g0 := encT_0 l k
  have g1 := encT_1 l k
  have g2 := encT_2 l k
  rw [hv] at g0 g1 g2
  simp only [Option.map_some] at g0 g1 g2
  have hH := rHold_is (aftV b d (k : Int)) v
  have hin := path_in hb hd hp hv
  simp only [hin, decide_true] at hH
  simp only [enc6, encV] at h1 hH
  simp only [h1, bindO_val, bne_self_eq_false, cond_false]
  rw [bif_pos (by omega)]
  simp only [Int.toNat_natCast, g0, g1, g2, intC_int, bindO_val, hH, cond_true]
  rfl
theorem ev0 {b d : B6} (hb : boxE b = 0) (hd : driE d = 0) (l : List Z3) (hl : l.length ≤ 20) (hp : (pathE b d l).2 = 0) (n : Int) : ∀ (m k : Nat), k + m = l.length →
    Rlaw9_0 (Tlaw9_0a l.length (encT l) n 0 k b.1 b.2.1 b.2.2.1 b.2.2.2.1 b.2.2.2.2.1 b.2.2.2.2.2 d.1 d.2.1 d.2.2.1 d.2.2.2.1 d.2.2.2.2.1 d.2.2.2.2.2) = exO (Xlaw9_0a (n, b.1, b.2.1, b.2.2.1, b.2.2.2.1, b.2.2.2.2.1, b.2.2.2.2.2, d.1, d.2.1, d.2.2.1, d.2.2.2.1, d.2.2.2.2.1, d.2.2.2.2.2))
  | 0, k, h => by
    refine Rlaw9_0a_of _ _ _ _ _ _ _ _ _ _ _ _ _ _ _ _ _ ?_
    unfold Blaw9_0a
    rw [ev62c b d l n 0 k (by omega)]
    rfl
  | m + 1, k, h => by
    have ih := ev0 hb hd l hl hp n m (k + 1) (by omega)
    refine Rlaw9_0a_of _ _ _ _ _ _ _ _ _ _ _ _ _ _ _ _ _ ?_
    unfold Blaw9_0a
    rw [ev62a b d l n k (by omega)]
    simp only [bindO_val, Sum.elim_inl]
    rw [ev58 hb hd l hl hp n k (by omega)]
    simp only [bindO_val, Sum.elim_inr]
    rw [w64_in (by omega)]
    exact_mod_cast ih
theorem ev0x (b d : B6) (l : List Z3) (h0 : l.length ≠ 0) (n e : Int) (he : e ≠ 0) : Rlaw9_0 (Tlaw9_0a l.length (encT l) n e 0 b.1 b.2.1 b.2.2.1 b.2.2.2.1 b.2.2.2.2.1 b.2.2.2.2.2 d.1 d.2.1 d.2.2.1 d.2.2.2.1 d.2.2.2.2.1 d.2.2.2.2.2) = exO (Xlaw9_0a (n, b.1, b.2.1, b.2.2.1, b.2.2.2.1, b.2.2.2.2.1, b.2.2.2.2.2, d.1, d.2.1, d.2.2.1, d.2.2.2.1, d.2.2.2.2.1, d.2.2.2.2.2)) := by
  refine Rlaw9_0a_of _ _ _ _ _ _ _ _ _ _ _ _ _ _ _ _ _ ?_
  unfold Blaw9_0a
  rw [ev62b b d l n e 0 (by omega) he]
  rfl
theorem ev44 (b d a w : B6) (n : Int) : Llaw9_1000044 (Tlaw9_1000044a n 0 0 b.1 b.2.1 b.2.2.1 b.2.2.2.1 b.2.2.2.2.1 b.2.2.2.2.2 d.1 d.2.1 d.2.2.1 d.2.2.2.1 d.2.2.2.2.1 d.2.2.2.2.2 a.1 a.2.1 a.2.2.1 a.2.2.2.1 a.2.2.2.2.1 a.2.2.2.2.2 w.1 w.2.1 w.2.2.1 w.2.2.2.1 w.2.2.2.2.1 w.2.2.2.2.2) = some (Sum.inr (n, b.1, b.2.1, b.2.2.1, b.2.2.2.1, b.2.2.2.2.1, b.2.2.2.2.2, d.1, d.2.1, d.2.2.1, d.2.2.2.1, d.2.2.2.2.1, d.2.2.2.2.2, a.1, a.2.1, a.2.2.1, a.2.2.2.1, a.2.2.2.2.1, a.2.2.2.2.2, w.1, w.2.1, w.2.2.1, w.2.2.2.1, w.2.2.2.2.1, w.2.2.2.2.2)) := by
  refine Llaw9_1000044b_of (Rlaw9_1000044a_of _ _ _ _ _ _ _ _ _ _ _ _ _ _ _ _ _ _ _ _ _ _ _ _ _ _ _ ?_)
  unfold Blaw9_1000044a
  rfl
theorem ev37 {b d : B6} (hb : boxE b = 0) (hd : driE d = 0) {n : Int} (hn : 0 ≤ n ∧ n ≤ 1000) (a w : B6) (ha : a = aftV b d (n / 2)) (hw : w = aftV b d n) : Llaw9_1000037 (Tlaw9_1000037a n b.1 b.2.1 b.2.2.1 b.2.2.2.1 b.2.2.2.2.1 b.2.2.2.2.2 d.1 d.2.1 d.2.2.1 d.2.2.2.1 d.2.2.2.2.1 d.2.2.2.2.2 a.1 a.2.1 a.2.2.1 a.2.2.2.1 a.2.2.2.2.1 a.2.2.2.2.2 w.1 w.2.1 w.2.2.1 w.2.2.2.1 w.2.2.2.2.1 w.2.2.2.2.2) = some (Sum.inr (n, b.1, b.2.1, b.2.2.1, b.2.2.2.1, b.2.2.2.2.1, b.2.2.2.2.2, d.1, d.2.1, d.2.2.1, d.2.2.2.1, d.2.2.2.2.1, d.2.2.2.2.2, w.1, w.2.1, w.2.2.1, w.2.2.2.1, w.2.2.2.2.1, w.2.2.2.2.2)) := by
  refine Llaw9_1000037b_of (Rlaw9_1000037a_of _ _ _ _ _ _ _ _ _ _ _ _ _ _ _ _ _ _ _ _ _ _ _ _ _ ?_)
  unfold Blaw9_1000037a
  have h1 : FrBoxE [enc6 a] = _ := rBoxE_is a
  simp only [enc6] at h1
  simp only [h1, bindO_val]
  by_cases hz : boxE a = 0
  · have e : w64 (n - w64 (Int.tdiv n 2)) = n - n / 2 := by
      have e1 : w64 (n / 2) = n / 2 := w64_in (by omega)
      rw [Int.tdiv_eq_ediv_of_nonneg (by omega), e1, w64_in (by omega)]
    have h2 := boxA_ok hz hd (t := n - n / 2) (by omega)
    have h3 : aftV a d (n - n / 2) = w := by
      obtain ⟨t, ht⟩ : ∃ t : Nat, (t : Int) = n - n / 2 := ⟨(n - n / 2).toNat, by omega⟩
      rw [← ht, ha, aft_aft hb hd (by omega) t, hw]
      rw [show n / 2 + (t : Int) = n by omega]
    rw [h3] at h2
    simp only [enc6] at h2
    simp only [hz, beq_self_eq_true, cond_true, e, h2, bindO_val, bne_self_eq_false, cond_false, Bool.and_true, Bool.not_true]
    rfl
  · have e : (boxE a == 0) = false := by simpa using hz
    simp only [e, cond_false]
    rfl
theorem sm_of {b d : B6} (hb : boxE b = 0) (hd : driE d = 0) (k : Nat) (hk : k ≤ 1000) : Sm (aftV b d (k : Int)) := (aft_sm hb hd (by omega)).1
theorem lo_next {b d : B6} (hd : driE d = 0) (k : Nat) : loP (aftV b d ((k + 1 : Nat) : Int)) = ((aftV b d (k : Int)).1 + d.1, pos ((aftV b d (k : Int)).2.2.1 - d.2.2.2.1), pos ((aftV b d (k : Int)).2.2.2.2.1 - d.2.2.2.2.2)) := by
  have := aft_succ (b := b) hd (t := (k : Int)) (by omega)
  rw [show ((k + 1 : Nat) : Int) = (k : Int) + 1 by omega, ← this]
  unfold loP
  rw [show aftV (aftV b d (k : Int)) d 1 = _ from rfl]
  generalize aftV b d (k : Int) = x
  unfold aftV
  simp only [Int.one_mul]
theorem hi_next {b d : B6} (hd : driE d = 0) (k : Nat) : hiP (aftV b d ((k + 1 : Nat) : Int)) = ((aftV b d (k : Int)).2.1 + d.2.1, pos ((aftV b d (k : Int)).2.2.2.1 - d.2.2.1), pos ((aftV b d (k : Int)).2.2.2.2.2 - d.2.2.2.2.1)) := by
  have := aft_succ (b := b) hd (t := (k : Int)) (by omega)
  rw [show ((k + 1 : Nat) : Int) = (k : Int) + 1 by omega, ← this]
  unfold hiP
  rw [show aftV (aftV b d (k : Int)) d 1 = _ from rfl]
  generalize aftV b d (k : Int) = x
  unfold aftV
  simp only [Int.one_mul]
theorem ev2b {b d : B6} (hb : boxE b = 0) (hd : driE d = 0) (w : B6) (n : Nat) (hn : n ≤ 20) : ∀ (m k : Nat), k + m = n →
    Rlaw9_2 (Tlaw9_2b n (k + 1) (encT (pathL loP b d 0 (k + 1))) (k + 1) (encT (pathL hiP b d 0 (k + 1))) k b.1 b.2.1 b.2.2.1 b.2.2.2.1 b.2.2.2.2.1 b.2.2.2.2.2 d.1 d.2.1 d.2.2.1 d.2.2.2.1 d.2.2.2.2.1 d.2.2.2.2.2 w.1 w.2.1 w.2.2.1 w.2.2.2.1 w.2.2.2.2.1 w.2.2.2.2.2 (k + 1) (k + 1)) = exO (Xlaw9_2b ((n : Int), n + 1, encT (pathL loP b d 0 (n + 1)), n + 1, encT (pathL hiP b d 0 (n + 1)), b.1, b.2.1, b.2.2.1, b.2.2.2.1, b.2.2.2.2.1, b.2.2.2.2.2, d.1, d.2.1, d.2.2.1, d.2.2.2.1, d.2.2.2.2.1, d.2.2.2.2.2, w.1, w.2.1, w.2.2.1, w.2.2.2.1, w.2.2.2.2.1, w.2.2.2.2.2, n + 1, n + 1))
  | 0, k, h => by
    have : k = n := by omega
    subst this
    refine Rlaw9_2b_of _ _ _ _ _ _ _ _ _ _ _ _ _ _ _ _ _ _ _ _ _ _ _ _ _ _ ?_
    unfold Blaw9_2b
    rw [bif_neg (by omega)]
    rfl
  | m + 1, k, h => by
    have ih := ev2b hb hd w n hn m (k + 1) (by omega)
    refine Rlaw9_2b_of _ _ _ _ _ _ _ _ _ _ _ _ _ _ _ _ _ _ _ _ _ _ _ _ _ _ ?_
    unfold Blaw9_2b
    have hdo := driE_ok hd
    have hs := sm_of hb hd k (by omega)
    have l0 := encT_0 (pathL loP b d 0 (k + 1)) k
    have l1 := encT_1 (pathL loP b d 0 (k + 1)) k
    have l2 : (encT (pathL loP b d 0 (k + 1)))[k * 3 + 2]? = _ := encT_2 (pathL loP b d 0 (k + 1)) k
    have r0 := encT_0 (pathL hiP b d 0 (k + 1)) k
    have r1 := encT_1 (pathL hiP b d 0 (k + 1)) k
    have r2 : (encT (pathL hiP b d 0 (k + 1)))[k * 3 + 2]? = _ := encT_2 (pathL hiP b d 0 (k + 1)) k
    rw [pathL_get loP b d (k + 1) 0 k (by omega), Nat.zero_add] at l0 l1 l2
    rw [pathL_get hiP b d (k + 1) 0 k (by omega), Nat.zero_add] at r0 r1 r2
    simp only [Option.map_some, loP, hiP] at l0 l1 l2 r0 r1 r2
    rw [bif_pos (by omega), bif_pos (by omega)]
    simp only [Int.toNat_natCast, Nat.add_zero, l0, l1, l2, intC_int, bindO_val]
    rw [bif_pos (by omega), bif_pos (by omega)]
    have hlo := lo_next (b := b) hd k
    have hhi := hi_next (b := b) hd k
    unfold Sm at hs
    have wa : w64 ((aftV b d (k : Int)).1 + d.1) = (aftV b d (k : Int)).1 + d.1 := w64_in (by omega)
    have wb : w64 ((aftV b d (k : Int)).2.2.1 - d.2.2.2.1) = (aftV b d (k : Int)).2.2.1 - d.2.2.2.1 := w64_in (by omega)
    have wc : w64 ((aftV b d (k : Int)).2.2.2.2.1 - d.2.2.2.2.2) = (aftV b d (k : Int)).2.2.2.2.1 - d.2.2.2.2.2 := w64_in (by omega)
    have wd : w64 ((aftV b d (k : Int)).2.1 + d.2.1) = (aftV b d (k : Int)).2.1 + d.2.1 := w64_in (by omega)
    have we : w64 ((aftV b d (k : Int)).2.2.2.1 - d.2.2.1) = (aftV b d (k : Int)).2.2.2.1 - d.2.2.1 := w64_in (by omega)
    have wf : w64 ((aftV b d (k : Int)).2.2.2.2.2 - d.2.2.2.2.1) = (aftV b d (k : Int)).2.2.2.2.2 - d.2.2.2.2.1 := w64_in (by omega)
    simp only [wa, wb, wc, vort_is, bindO_val]
    rw [bif_pos ⟨trivial, by unfold big; omega⟩, bif_pos (by omega)]
    simp only [r0, r1, r2, intC_int, bindO_val]
    rw [bif_pos (by omega), bif_pos (by omega)]
    simp only [wd, we, wf, vort_is, bindO_val]
    rw [bif_pos ⟨trivial, by unfold big; omega⟩, w64_in (by omega)]
    rw [pathL_app loP b d (k + 1) 0, pathL_app hiP b d (k + 1) 0, encT_app, encT_app, Nat.zero_add, hlo, hhi] at ih
    exact_mod_cast ih
theorem ev2a {b d : B6} (hb : boxE b = 0) (hd : driE d = 0) (w : B6) (n : Nat) (h0 : 0 < n) (hn : n ≤ 20) : Rlaw9_2 (Tlaw9_2a n (loP b).1 (loP b).2.1 (loP b).2.2 (hiP b).1 (hiP b).2.1 (hiP b).2.2 b.1 b.2.1 b.2.2.1 b.2.2.2.1 b.2.2.2.2.1 b.2.2.2.2.2 d.1 d.2.1 d.2.2.1 d.2.2.2.1 d.2.2.2.2.1 d.2.2.2.2.2 w.1 w.2.1 w.2.2.1 w.2.2.2.1 w.2.2.2.2.1 w.2.2.2.2.2) = exO (Xlaw9_2b ((n : Int), n + 1, encT (pathL loP b d 0 (n + 1)), n + 1, encT (pathL hiP b d 0 (n + 1)), b.1, b.2.1, b.2.2.1, b.2.2.2.1, b.2.2.2.2.1, b.2.2.2.2.2, d.1, d.2.1, d.2.2.1, d.2.2.2.1, d.2.2.2.2.1, d.2.2.2.2.2, w.1, w.2.1, w.2.2.1, w.2.2.2.1, w.2.2.2.2.1, w.2.2.2.2.2, n + 1, n + 1)) := by
  refine Rlaw9_2a_of _ _ _ _ _ _ _ _ _ _ _ _ _ _ _ _ _ _ _ _ _ _ _ _ _ ?_
  unfold Blaw9_2a
  have hbo := boxE_ok hb
  have hdo := driE_ok hd
  have hz : aftV b d ((0 : Nat) : Int) = b := aft_zero (box_sm hb).2
  have ih := ev2b hb hd w n hn (n - 1) 1 (by omega)
  have hlo := lo_next (b := b) hd 0
  have hhi := hi_next (b := b) hd 0
  rw [hz] at hlo hhi
  have wa : w64 (b.1 + d.1) = b.1 + d.1 := w64_in (by omega)
  have wb : w64 (b.2.2.1 - d.2.2.2.1) = b.2.2.1 - d.2.2.2.1 := w64_in (by omega)
  have wc : w64 (b.2.2.2.2.1 - d.2.2.2.2.2) = b.2.2.2.2.1 - d.2.2.2.2.2 := w64_in (by omega)
  have wd : w64 (b.2.1 + d.2.1) = b.2.1 + d.2.1 := w64_in (by omega)
  have we : w64 (b.2.2.2.1 - d.2.2.1) = b.2.2.2.1 - d.2.2.1 := w64_in (by omega)
  have wf : w64 (b.2.2.2.2.2 - d.2.2.2.2.1) = b.2.2.2.2.2 - d.2.2.2.2.1 := w64_in (by omega)
  rw [bif_pos (by omega)]
  simp only [loP, hiP]
  simp only [wa, wb, wc, wd, we, wf, vort_is, bindO_val]
  rw [pathL_app loP b d 1 0, pathL_app hiP b d 1 0, encT_app, encT_app, Nat.zero_add, hlo, hhi] at ih
  have q1 : encT (pathL loP b d 0 1) = [.int .i64 (loP b).1, .int .i64 (loP b).2.1, .int .i64 (loP b).2.2] := by
    show encT [loP (aftV b d ((0 : Nat) : Int))] = _
    rw [hz]
    rfl
  have q2 : encT (pathL hiP b d 0 1) = [.int .i64 (hiP b).1, .int .i64 (hiP b).2.1, .int .i64 (hiP b).2.2] := by
    show encT [hiP (aftV b d ((0 : Nat) : Int))] = _
    rw [hz]
    rfl
  rw [q1, q2] at ih
  simp only [loP, hiP] at ih
  exact ih
theorem everyLaw (b d : B6) (l : List Z3) : Flaw9 [enc6 b, enc6 d, .list l.length (encT l)] = some true := by
  refine Flaw9_of _ _ _ _ _ _ _ _ _ _ _ _ _ _ ?_
  unfold tlaw9
  have ha : Fn env 12 (RSh.one CK.bool) [] = some true := awake_is
  simp only [ha, bindO_val, cond_true]
  by_cases hg : both (boxE b) (driE d) ≠ 0 ∨ l.length = 0 ∨ l.length > 20
  · rw [ev79a b d l hg]
    rfl
  · have hz : both (boxE b) (driE d) = 0 := by
      by_cases h : both (boxE b) (driE d) = 0
      · exact h
      · exact absurd (.inl h) hg
    have h0 : l.length ≠ 0 := fun h => hg (.inr (.inl h))
    have h20 : ¬ l.length > 20 := fun h => hg (.inr (.inr h))
    obtain ⟨hb, hd⟩ := both_nil hz
    rw [ev79b b d l hz h0 h20]
    have i3 := copV_is l (by omega)
    have i4 : FcPath [enc6 b, enc6 d, .list l.length (encT l)] = _ := cPath_is b d l
    simp only [enc6] at i4
    simp only [bindO_val, Sum.elim_inr, i3, i4]
    obtain ⟨n, hn⟩ : ∃ n : Nat, l.length = n + 1 := ⟨l.length - 1, by omega⟩
    have ew : w64 ((l.length : Int) - 1) = (n : Int) := by rw [w64_in (by omega)]; omega
    rw [ew]
    have hL : Rlaw9_0 (Tlaw9_0a l.length (encT l) n (pathE b d l).2 0 b.1 b.2.1 b.2.2.1 b.2.2.2.1 b.2.2.2.2.1 b.2.2.2.2.2 d.1 d.2.1 d.2.2.1 d.2.2.2.1 d.2.2.2.2.1 d.2.2.2.2.2) = exO (Xlaw9_0a ((n : Int), b.1, b.2.1, b.2.2.1, b.2.2.2.1, b.2.2.2.2.1, b.2.2.2.2.2, d.1, d.2.1, d.2.2.1, d.2.2.2.1, d.2.2.2.2.1, d.2.2.2.2.2)) := by
      by_cases hp : (pathE b d l).2 = 0
      · have := ev0 hb hd l (by omega) hp n l.length 0 (by omega)
        rw [hp]
        exact this
      · exact ev0x b d l h0 n _ hp
    rw [Llaw9_0a_of hL]
    simp only [bindO_val, Sum.elim_inl]
    have et : w64 (Int.tdiv (n : Int) 2) = (n : Int) / 2 := by
      rw [Int.tdiv_eq_ediv_of_nonneg (by omega), w64_in (by omega)]
    have i5 := boxA_ok hb hd (t := (n : Int) / 2) (by omega)
    have i6 := boxA_ok hb hd (t := (n : Int)) (by omega)
    simp only [enc6] at i5 i6
    simp only [et, i5, i6, bindO_val]
    rw [ev44 b d (aftV b d ((n : Int) / 2)) (aftV b d n) n]
    simp only [bindO_val, Sum.elim_inr]
    rw [ev37 hb hd (n := (n : Int)) (by omega) (aftV b d ((n : Int) / 2)) (aftV b d n) rfl rfl]
    simp only [bindO_val, Sum.elim_inr, vort_is]
    have hlo := pathE_ends (p := loP) lo_step lo_in hb hd (n := n + 1) (by omega) (by omega)
    have hhi := pathE_ends (p := hiP) hi_step hi_in hb hd (n := n + 1) (by omega) (by omega)
    have j1 := copV_is (pathL loP b d 0 (n + 1)) (by rw [pathL_len]; omega)
    have j2 := copV_is (pathL hiP b d 0 (n + 1)) (by rw [pathL_len]; omega)
    have j3 : FcPath [enc6 b, enc6 d, .list (pathL loP b d 0 (n + 1)).length (encT (pathL loP b d 0 (n + 1)))] = _ := cPath_is b d _
    have j4 : FcPath [enc6 b, enc6 d, .list (pathL hiP b d 0 (n + 1)).length (encT (pathL hiP b d 0 (n + 1)))] = _ := cPath_is b d _
    rw [pathL_len] at j1 j2 j3 j4
    rw [hlo] at j3
    rw [hhi] at j4
    simp only [enc6] at j3 j4
    by_cases h1 : n = 0
    · subst h1
      have hz0 : aftV b d ((0 : Nat) : Int) = b := aft_zero (box_sm hb).2
      have q1 : encT (pathL loP b d 0 (0 + 1)) = [.int .i64 b.1, .int .i64 b.2.2.1, .int .i64 b.2.2.2.2.1] := by
        show encT [loP (aftV b d ((0 : Nat) : Int))] = _
        rw [hz0]
        rfl
      have q2 : encT (pathL hiP b d 0 (0 + 1)) = [.int .i64 b.2.1, .int .i64 b.2.2.2.1, .int .i64 b.2.2.2.2.2] := by
        show encT [hiP (aftV b d ((0 : Nat) : Int))] = _
        rw [hz0]
        rfl
      rw [q1] at j1 j3
      rw [q2] at j2 j4
      have hx : Rlaw9_2 (Tlaw9_2a ((0 : Nat) : Int) (loP b).1 (loP b).2.1 (loP b).2.2 (hiP b).1 (hiP b).2.1 (hiP b).2.2 b.1 b.2.1 b.2.2.1 b.2.2.2.1 b.2.2.2.2.1 b.2.2.2.2.2 d.1 d.2.1 d.2.2.1 d.2.2.2.1 d.2.2.2.2.1 d.2.2.2.2.2 (aftV b d ((0 : Nat) : Int)).1 (aftV b d ((0 : Nat) : Int)).2.1 (aftV b d ((0 : Nat) : Int)).2.2.1 (aftV b d ((0 : Nat) : Int)).2.2.2.1 (aftV b d ((0 : Nat) : Int)).2.2.2.2.1 (aftV b d ((0 : Nat) : Int)).2.2.2.2.2) = exO (Xlaw9_2a (((0 : Nat) : Int), (loP b).1, (loP b).2.1, (loP b).2.2, (hiP b).1, (hiP b).2.1, (hiP b).2.2, b.1, b.2.1, b.2.2.1, b.2.2.2.1, b.2.2.2.2.1, b.2.2.2.2.2, d.1, d.2.1, d.2.2.1, d.2.2.2.1, d.2.2.2.2.1, d.2.2.2.2.2, (aftV b d ((0 : Nat) : Int)).1, (aftV b d ((0 : Nat) : Int)).2.1, (aftV b d ((0 : Nat) : Int)).2.2.1, (aftV b d ((0 : Nat) : Int)).2.2.2.1, (aftV b d ((0 : Nat) : Int)).2.2.2.2.1, (aftV b d ((0 : Nat) : Int)).2.2.2.2.2)) := by
        refine Rlaw9_2a_of _ _ _ _ _ _ _ _ _ _ _ _ _ _ _ _ _ _ _ _ _ _ _ _ _ ?_
        unfold Blaw9_2a
        rw [bif_neg (by omega)]
        rfl
      have hx2 := Llaw9_2a_of hx
      simp only [loP, hiP] at hx2
      rw [hx2]
      simp only [Nat.zero_add] at j1 j2 j3 j4
      simp only [bindO_val, Sum.elim_inl, j1, j2, j3, j4]
      rw [bif_pos (by omega)]
      simp only [hz0]
      simp [intC_int]
    · have hx := Llaw9_2b_of (ev2a hb hd (aftV b d n) n (by omega) (by omega))
      simp only [loP, hiP] at hx
      rw [hx]
      have g0 := encT_0 (pathL loP b d 0 (n + 1)) n
      have g1 := encT_1 (pathL loP b d 0 (n + 1)) n
      have g2 := encT_2 (pathL loP b d 0 (n + 1)) n
      have r0 := encT_0 (pathL hiP b d 0 (n + 1)) n
      have r1 := encT_1 (pathL hiP b d 0 (n + 1)) n
      have r2 := encT_2 (pathL hiP b d 0 (n + 1)) n
      rw [pathL_get loP b d (n + 1) 0 n (by omega), Nat.zero_add] at g0 g1 g2
      rw [pathL_get hiP b d (n + 1) 0 n (by omega), Nat.zero_add] at r0 r1 r2
      simp only [Option.map_some] at g0 g1 g2 r0 r1 r2
      simp only [bindO_val, Sum.elim_inr, j1, j2, j3, j4]
      simp only [loP, hiP] at g0 g1 g2 r0 r1 r2
      rw [bif_pos (by omega)]
      simp only [Int.toNat_natCast, g0, g1, g2, intC_int, bindO_val]
      rw [bif_pos (by omega)]
      simp only [Int.toNat_natCast, r0, r1, r2, intC_int, bindO_val]
      simp
end Gv
