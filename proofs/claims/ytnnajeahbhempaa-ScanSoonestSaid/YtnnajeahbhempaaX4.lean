/- The orders of so many numbers: the function that calls itself. -/
import Derived.Test.YtnnajeahbhempaaX3
namespace Gv
open Go Go.Proofs Go.RowKit Go.Lib Go.Shelf
attribute [local go_sem] Oper.semAt_some
set_option maxRecDepth 100000

section
variable {J : Nat → JT} {ac : Addr} {c by' bx l : Nat} {xv : Value} {rows : List (List Nat)} {K : Nat}

theorem con_step (hab : ∀ i, Abides (J i)) {i : Nat} {X : Nat → Prop} {St : Nat → Nat → Prop} {w : World} {v : Value} {b : List Nat} (hb : b.length ≤ 1000) (k : Nat) (bed : Bed J ac c by' bx l xv i X St w) (row : Row by' bx X St w v b.length (valN b)) (d : Bool) (hd : decide (k ∈ b) = d) :
    Calls Try.prog 118 #[v, .int .i64 (k : Int)] w fun e w1 => e = .returned (.bool d) ∧ Bed J ac c by' bx l xv i X St w1 ∧ Row by' bx X St w1 v b.length (valN b) ∧ Went v b.length X St w X St w1 ∧ w1.cell? ⟨bx, 0, none⟩ = some xv ∧ ∀ o, (w1.alloc o).cell? ⟨bx, 0, none⟩ = some xv := by
  refine (contains_calls w v b row.own hb k).mono ?_
  rintro e w1 ⟨rfl, hbel⟩
  have b1 := bed.below hab hbel
  have wt : Went v b.length X St w X St w1 := Went.below bed.slt hbel
  refine ⟨by rw [hd], b1, row.went wt (fun _ => Nat.le_refl _), wt, b1.c3, fun o => ?_⟩
  exact (World.cell?_alloc_lt w1 o _ (World.block_lt_of_cell? _ _ b1.c3)).trans b1.c3

theorem step_append_row (hab : ∀ i, Abides (J i)) {ops : Array Oper} {o : Oper} {a : Act} {w1 : World} {KK : Act → World → Prop} {Q : Exit → Act → World → Prop} {E : Prop} (hw : Region.wanted o (yielded ops a.tmps) = true) (s x : Operand)
    (hop : o.op = .call { callee := .builtin .append, args := #[s, x], argTypes := #[85, 85] }) {v : Value} {b : List Nat} {i k : Nat} {X : Nat → Prop} {St : Nat → Nat → Prop} (hs : a.eval s = v) (hx : a.eval x = .slice (some ⟨w1.heap.size, 0, none⟩) 1 1)
    (bed : Bed J ac c by' bx l xv i X St w1) (row : Row by' bx X St w1 v b.length (valN b)) (hb : b.length < 1000)
    (hK : ∀ v' w', Bed J ac c by' bx l xv i X St w' → Row by' bx X St w' v' (b ++ [k]).length (valN (b ++ [k])) → (∀ X' St' w'', Went v' (b.length + 1) X St w' X' St' w'' → Went v b.length X St w1 X' St' w'') → w'.cell? ⟨bx, 0, none⟩ = some xv → KK (a.put o.dst v') w') :
    if Region.wanted o (yielded ops a.tmps) = true then Oper.wp Try.prog o a (w1.alloc (.cells #[.int .i64 (k : Int)] 3)) KK Q else E := by
  obtain ⟨i0, hi, hz0, hz1, hz2⟩ : ∃ i0, Try.prog.info? 3 = some i0 ∧ i0.zero = some (.int .i64 0) ∧ i0.size = 1 ∧ i0.bytes = 8 := ⟨_, rfl, by kernel_rfl, by kernel_rfl, by kernel_rfl⟩
  have hbel : Below w1.heap.size w1 (w1.alloc (.cells #[.int .i64 (k : Int)] 3)) := (Below.refl _ w1).alloc (Nat.le_refl _) _
  have bed2 := bed.below hab hbel
  have wt : Went v b.length X St w1 X St (w1.alloc (.cells #[.int .i64 (k : Int)] 3)) := Went.below bed.slt hbel
  have row2 := row.went wt (fun _ => Nat.le_refl _)
  obtain ⟨v', w', hrun, hown, hg, hr, hu, hlt⟩ := append_one (P := Try.prog) (ty := o.type) (t := 85) Try.underlying85 hi hz0 hz1 hz2 rfl row2.own (valN_one b) (ad := ⟨w1.heap.size, 0, none⟩) (x := .int .i64 (k : Int)) (World.cell?_alloc_new w1 _ _ 0) rfl hb
  have bed3 := bed2.append hab row2 hg
  have row3 : Row by' bx X St w' v' (b ++ [k]).length (valN (b ++ [k])) := by
    refine ⟨?_, fun q hq => ?_⟩
    · have e1 : (b ++ [k]).length = b.length + 1 := by simp
      have e2 : valN (b ++ [k]) = valN b ++ [.int .i64 (k : Int)] := by simp [valN]
      rw [e1, e2]
      exact hown
    · rcases hu q hq with h1 | h1
      · exact row2.nx q h1
      · have l2 := World.block_lt_of_cell? _ _ bed2.c2
        have l3 := World.block_lt_of_cell? _ _ bed2.c3
        simp only at l2 l3
        refine ⟨fun hx => ?_, fun o hs => ?_, by omega, by omega⟩
        · have := bed2.xlt q hx; omega
        · have := bed2.slt q o hs; omega
  have key := hK v' w' bed3 row3 (fun X' St' w'' h => wt.trans (Went.inner hg (fun q cur h1 h2 => hr q cur h1 h2) hu (fun q hq => (row2.nx q hq).2.1) bed2.slt h)) bed3.c3
  rw [if_pos hw]
  unfold Oper.wp
  simp [execOp, hop, resolve, invoke, builtin, hs, hx, hrun, Result.andThen]
  exact key

/-- What a call of the function leaves: its part of the rows has come, or the loop has ended. -/
def ExtPost (J : Nat → JT) (ac : Addr) (c by' bx l : Nat) (xv : Value) (K i len : Nat) (v : Value) (n : Nat) (X : Nat → Prop) (St : Nat → Nat → Prop) (w : World) (e : Ending) (w' : World) : Prop :=
  ∃ ok X' St', e = .returned (.bool ok) ∧ Went v n X St w X' St' w' ∧ (ok = true → i + len ≤ K ∧ Bed J ac c by' bx l xv (i + len) X' St' w') ∧ (ok = false → K < i + len ∧ Bed J ac c by' bx l xv (K + 1) X' St' w')

theorem post_of {i : Nat} {X X' : Nat → Prop} {St St' : Nat → Nat → Prop} {w w2 : World} {v : Value} {n : Nat} (hi : i ≤ K) (h : Went v n X St w X' St' w2) (hb : Bed J ac c by' bx l xv (i + 1) X' St' w2) :
    ExtPost J ac c by' bx l xv K i 1 v n X St w (.returned (.bool (i != K))) w2 := by
  refine ⟨i != K, X', St', rfl, h, fun hk => ⟨?_, hb⟩, fun hk => ?_⟩
  · have : i ≠ K := by simpa using hk
    omega
  · have : i = K := by simpa using hk
    subst this
    exact ⟨by omega, hb⟩

set_option maxHeartbeats 4000000 in
theorem ext_zero (hab : ∀ i, Abides (J i)) (hY : YRow J l rows K) (b : List Nat) (hc : b.length ≤ 100) (hbc : b.length = c) (i : Nat) (X : Nat → Prop) (St : Nat → Nat → Prop) (w : World) (v : Value) (hR : rows[i]? = some b) (hi : i ≤ K)
    (bed : Bed J ac c by' bx l xv i X St w) (row : Row by' bx X St w v b.length (valN b)) :
    Calls Try.prog 116 #[v, .pointer (some ac), .pointer (some ⟨by', 0, none⟩), .pointer (some ⟨bx, 0, none⟩)] w (ExtPost J ac c by' bx l xv K i 1 v b.length X St w) := by
  obtain ⟨a, cap, rfl⟩ := row.form
  subst hbc
  have hdr : Below w.heap.size w w.drew := (Below.refl _ w).drew
  have wt : Went (.slice a b.length cap) b.length X St w X St w.drew := Went.below bed.slt hdr
  have hcy := clone_yield hab hY (by omega) hi hR (bed.below hab hdr) (row.went wt (fun _ => Nat.le_refl _))
  have hc1 := bed.c1
  have hc2 := bed.c2
  have hmix : Try.prog.follows .mixedOrders = true := cloMixed
  refine (callsIn_wide (n := 0)).1 ?_
  refine callsIn_of_wp Try.func116 rfl trivial ?_ rfl
  simp only [Try.ntmps116, List.size_toArray, List.length_cons, List.length_nil, Nat.reduceAdd, Nat.reduceSub, Array.replicate_succ, Array.replicate_zero, List.push_toArray, List.append_toArray, List.nil_append, List.cons_append]
  gi_wp2_with fail
  gi_region_with_o (first
    | (refine ⟨trivial, rfl, ?_⟩; refine ((callsIn_wide (n := 0)).2 hcy).mono ?_; rintro e w1 ⟨v1, rfl, hy1, fn, tmps, assign, body, hyy, hRR⟩)
    | (refine ⟨rfl, ?_⟩; refine RoundIn.mono hRR ?_; rintro e w2 ⟨rfl, X', St', hb2, hk2⟩))
  all_goals gi_wp2
  all_goals go_ret
  all_goals exact post_of hi (wt.trans hk2) hb2
end
end Gv
