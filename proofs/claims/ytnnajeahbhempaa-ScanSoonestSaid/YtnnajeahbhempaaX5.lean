/- The orders of so many numbers: all that is yielded. -/
import Derived.Test.YtnnajeahbhempaaX4
import Derived.LoopIn
import Derived.LoopNIn
namespace Gv
open Go Go.Proofs Go.RowKit Go.Lib Go.Shelf
attribute [local go_sem] Oper.semAt_some
set_option maxRecDepth 100000

section
variable {J : Nat → JT} {ac : Addr} {c by' bx l : Nat} {xv : Value} {rows : List (List Nat)} {K : Nat}

/-- The rows of one more number. -/
def exF (c m : Nat) (b : List Nat) (k : Nat) : List (List Nat) := if k ∈ b then [] else ext c m (b ++ [k])
def cnt (c m : Nat) (b : List Nat) (k : Nat) : Nat := ((List.range k).flatMap (exF c m b)).length

/-- What holds at the head of a round. -/
def LRel (J : Nat → JT) (ac : Addr) (c by' bx l : Nat) (xv : Value) (K i m : Nat) (b : List Nat) (v : Value) (X : Nat → Prop) (St : Nat → Nat → Prop) (w : World) (iv : Value) (wr : World) : Prop :=
  ∃ (k : Nat) (X' : Nat → Prop) (St' : Nat → Nat → Prop), k ≤ c ∧ iv = .int .i64 (k : Int) ∧ Went v b.length X St w X' St' wr ∧ i + cnt c m b k ≤ K ∧ Bed J ac c by' bx l xv (i + cnt c m b k) X' St' wr

theorem rel_skip {i m k : Nat} {b : List Nat} {v : Value} {X X' : Nat → Prop} {St St' : Nat → Nat → Prop} {w wr wd w1 : World} (hlt : k < c) (hs : ((List.range (k + 1)).flatMap (exF c m b)).length = ((List.range k).flatMap (exF c m b)).length + ([] : List (List Nat)).length)
    (h1 : Went v b.length X St w X' St' wr) (h2 : Went v b.length X' St' wr X' St' wd) (h3 : Went v b.length X' St' wd X' St' w1) (hcn : i + cnt c m b k ≤ K) (hb : Bed J ac c by' bx l xv (i + cnt c m b k) X' St' w1) :
    LRel J ac c by' bx l xv K i m b v X St w (.int .i64 ((k : Int) + 1)) w1 := by
  have e : cnt c m b (k + 1) = cnt c m b k := by unfold cnt; rw [hs]; rfl
  exact ⟨k + 1, X', St', by omega, by rw [Int.natCast_add]; rfl, h1.trans (h2.trans h3), by rw [e]; exact hcn, by rw [e]; exact hb⟩

theorem cnt_succ {m k : Nat} {b : List Nat} (hF : exF c m b k = ext c m (b ++ [k])) : cnt c m b (k + 1) = cnt c m b k + (ext c m (b ++ [k])).length := by
  unfold cnt
  rw [fm_succ, hF]

theorem rel_next {i m k : Nat} {b : List Nat} {v : Value} {X X3 : Nat → Prop} {St St3 : Nat → Nat → Prop} {w w3 : World} (hlt : k < c) (hF : exF c m b k = ext c m (b ++ [k])) (h1 : Went v b.length X St w X3 St3 w3)
    (h2 : i + cnt c m b k + (ext c m (b ++ [k])).length ≤ K ∧ Bed J ac c by' bx l xv (i + cnt c m b k + (ext c m (b ++ [k])).length) X3 St3 w3) : LRel J ac c by' bx l xv K i m b v X St w (.int .i64 ((k : Int) + 1)) w3 := by
  have e := cnt_succ hF
  refine ⟨k + 1, X3, St3, by omega, by rw [Int.natCast_add]; rfl, h1, by omega, ?_⟩
  rw [e, ← Nat.add_assoc]
  exact h2.2

theorem post_stop {i m k : Nat} {b : List Nat} {v : Value} {X X3 : Nat → Prop} {St St3 : Nat → Nat → Prop} {w w3 : World} (hlt : k < c) (hF : exF c m b k = ext c m (b ++ [k])) (h1 : Went v b.length X St w X3 St3 w3)
    (h2 : K < i + cnt c m b k + (ext c m (b ++ [k])).length ∧ Bed J ac c by' bx l xv (K + 1) X3 St3 w3) : ExtPost J ac c by' bx l xv K i (ext c (m + 1) b).length v b.length X St w (.returned (.bool false)) w3 := by
  have hle := fm_le (exF c m b) hlt
  rw [hF] at hle
  have htot : (ext c (m + 1) b).length = ((List.range c).flatMap (exF c m b)).length := rfl
  refine ⟨false, X3, St3, rfl, h1, (fun h => by cases h), fun _ => ⟨?_, h2.2⟩⟩
  have := h2.1
  unfold cnt at this
  omega

set_option maxHeartbeats 8000000 in
theorem ext_succ (hab : ∀ i, Abides (J i)) (hxv : xv = .func (.func 116) #[] #[.pointer (some ac), .pointer (some ⟨by', 0, none⟩), .pointer (some ⟨bx, 0, none⟩)]) (hc : c ≤ 100) (m : Nat) (b : List Nat) (hbc : b.length + (m + 1) = c)
    (ih : ∀ (b : List Nat) (i : Nat) (X : Nat → Prop) (St : Nat → Nat → Prop) (w : World) (v : Value), b.length + m = c → (∀ j r, (ext c m b)[j]? = some r → rows[i + j]? = some r) → i ≤ K → Bed J ac c by' bx l xv i X St w → Row by' bx X St w v b.length (valN b) →
      Calls Try.prog 116 #[v, .pointer (some ac), .pointer (some ⟨by', 0, none⟩), .pointer (some ⟨bx, 0, none⟩)] w (ExtPost J ac c by' bx l xv K i (ext c m b).length v b.length X St w))
    (i : Nat) (X : Nat → Prop) (St : Nat → Nat → Prop) (w : World) (v : Value) (hR : ∀ j r, (ext c (m + 1) b)[j]? = some r → rows[i + j]? = some r) (hi : i ≤ K)
    (bed : Bed J ac c by' bx l xv i X St w) (row : Row by' bx X St w v b.length (valN b)) :
    Calls Try.prog 116 #[v, .pointer (some ac), .pointer (some ⟨by', 0, none⟩), .pointer (some ⟨bx, 0, none⟩)] w (ExtPost J ac c by' bx l xv K i (ext c (m + 1) b).length v b.length X St w) := by
  obtain ⟨a, cap, rfl⟩ := row.form
  have hc1 := bed.c1
  have hne : (((b.length : Nat) : Int) == (c : Int)) = false := by
    rw [beq_eq_false_iff_ne]
    omega
  have hmix : Try.prog.follows .mixedOrders = true := cloMixed
  have hv : ∀ q, (Value.slice a b.length cap).ownBlock = some q → q ≠ by' ∧ q ≠ bx := fun q hq => (row.nx q hq).2.2
  have htot : (ext c (m + 1) b).length = cnt c m b c := rfl
  refine (callsIn_wide (n := 0)).1 ?_
  refine callsIn_of_wp Try.func116 rfl trivial ?_ rfl
  simp only [Try.ntmps116, List.size_toArray, List.length_cons, List.length_nil, Nat.reduceAdd, Nat.reduceSub, Array.replicate_succ, Array.replicate_zero, List.push_toArray, List.append_toArray, List.nil_append, List.cons_append]
  gi_wp2_with fail
  gi_loopw [16] (fun iv wr => LRel J ac c by' bx l xv K i m b (.slice a b.length cap) X St w iv wr)
    (fun iv _ => c - (RowKit.intOf iv).toNat)
  case atStart => exact ⟨0, X, St, Nat.zero_le _, rfl, Went.below bed.slt (Below.refl _ _), hi, bed⟩
  case round =>
    obtain ⟨k, X', St', hk, rfl, hwt, hcn, hbed⟩ := hrel
    have hrow := row.went hwt (fun _ => Nat.le_refl _)
    have hdr : Below wr.heap.size wr wr.drew := (Below.refl _ wr).drew
    have hbd := hbed.below hab hdr
    have wtd : Went (.slice a b.length cap) b.length X' St' wr X' St' wr.drew := Went.below hbed.slt hdr
    have hrd := hrow.went wtd (fun _ => Nat.le_refl _)
    have hsucc := fm_succ (exF c m b) k
    by_cases hin : k ∈ b
    · have hcon := con_step hab (by omega) k hbd hrd true (by simp [hin])
      have hF : exF c m b k = [] := if_pos hin
      rw [hF] at hsucc
      gi_wp2_with fail
      · have hlt : k < c := by omega
        refine wpIn_wide.2 ?_
        first | (go_region_law (first | (go_simp; go_at_call 118; refine hcon.mono ?_; rintro e w1 ⟨rfl, hb1, hr1, hw1, h3, h3a⟩))) | fail
        all_goals (gi_wp2_with fail; go_roundw; (case rel => exact rel_skip hlt hsucc hwt wtd hw1 hcn hb1); (case measure => simp [RowKit.intOf]; omega))
      · have hkc : k = c := by omega
        subst hkc
        gi_wp2
        go_ret
        exact ⟨true, X', St', rfl, hwt, fun _ => ⟨by rw [htot]; exact hcn, by rw [htot]; exact hbed⟩, fun h => by cases h⟩
    · have hcon := con_step hab (by omega) k hbd hrd false (by simp [hin])
      have hF : exF c m b k = ext c m (b ++ [k]) := if_neg hin
      gi_wp2_with fail
      · have hlt : k < c := by omega
        have hle := fm_le (exF c m b) hlt
        have hRk : ∀ j r, (ext c m (b ++ [k]))[j]? = some r → rows[(i + cnt c m b k) + j]? = some r := fun j r hj => by
          rw [Nat.add_assoc]
          exact hR _ r (fm_get (f := exF c m b) hlt (by rw [hF]; exact hj))
        refine wpIn_wide.2 ?_
        go_region_law (first | (go_simp; go_at_call 118; refine hcon.mono ?_; rintro e w1 ⟨rfl, hb1, hr1, hw1, h3, h3a⟩) | (go_simp; go_at_call 116; refine (ih (b ++ [k]) (i + cnt c m b k) X' St' w2 v2 (by simp; omega) hRk hcn hb2 hr2).mono ?_; rintro e w3 ⟨ok, X3, St3, rfl, hw3, hok, hno⟩) | (refine step_append_row (v := .slice a b.length cap) (b := b) (k := k) hab (by first | rfl | simp [Region.wanted, yielded]) (.tmp 25) (.tmp 27) rfl rfl rfl hb1 hr1 (by omega) ?_; intro v2 w2 hb2 hr2 hin2 h32))
        all_goals (gi_wp2_with fail)
        all_goals have hall := hwt.trans (wtd.trans (hw1.trans (hin2 X3 St3 w3 (by simpa using hw3))))
        all_goals first
          | (have hf : ok = false := by simpa using (by assumption : (!ok) = true)
             go_ret
             exact post_stop hlt hF hall (hno hf))
          | (have hf : ok = true := by simpa using (by assumption : (!ok) = false)
             exact ⟨rel_next hlt hF hall (hok hf), by simp [RowKit.intOf]; omega⟩)
      · have hkc : k = c := by omega
        subst hkc
        gi_wp2
        go_ret
        exact ⟨true, X', St', rfl, hwt, fun _ => ⟨by rw [htot]; exact hcn, by rw [htot]; exact hbed⟩, fun h => by cases h⟩
end
end Gv
