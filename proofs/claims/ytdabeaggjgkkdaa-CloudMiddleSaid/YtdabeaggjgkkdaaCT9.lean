/- Layers in order of their bases: the copy, and the sort. -/
import Derived.Test.YtdabeaggjgkkdaaCT8
import Derived.Test.YtdabeaggjgkkdaaGvLayD
import Derived.Lib.Walk
import Derived.Lib.SliceRun
namespace Gv
open Go Go.Proofs Go.RowKit Go.Shelf Go.Sort Go.ChangeShapes Go.WideShapes
set_option maxRecDepth 100000

set_option maxHeartbeats 2000000 in
theorem clone76 (b off n c : Nat) (news : List Value) (w : World) (hl : news.length = n * 3) (hn : n ≤ 1000) (hc : ∀ j u, news[j]? = some u → w.cell? ⟨b, off + j, none⟩ = some u) (h1 : ∀ u ∈ news, u.oneCell' = true) :
    Calls Try.prog 76 #[.slice (some ⟨b, off, none⟩) n c] w fun e w' => ∃ v', e = .returned v' ∧ w'.ownsRow w.heap.size 111 3 v' n news ∧ v' ≠ .slice none 0 0 ∧ Below w.heap.size w w' := by
  have q : ∀ (w : World) (a : Option Addr) (n c n' c' : Nat), (binOp .eql 63 (.slice a n c) (.slice none n' c')).run Try.prog w = .ok (.bool a.isNone) w := fun w a n c n' c' => Lib.run_eql_slice_nil w _ _ a n c n' c' Try.underlying63
  have u22 : ∀ w, Sem.run Try.prog (underlying 63) w = .ok (TypeDesc.slice 111) w := run_underlying Try.underlying63
  obtain ⟨i0, hi, hz0, hz1, hz2⟩ : ∃ i0, Try.prog.info? 111 = some i0 ∧ i0.zero = some (.agg #[.int .i64 0, .int .i64 0, .int .i64 0]) ∧ i0.size = 3 ∧ i0.bytes = 24 := ⟨_, rfl, by kernel_rfl, by kernel_rfl, by kernel_rfl⟩
  have A : Aside (∀ j u, news[j]? = some u → w.cell? ⟨b, off + j, none⟩ = some u) := hc
  clear hc
  go_enter Try.func76, Try.ntmps76
  go_wp2_with (at_builtin; refine wpList_append_own _ rfl _ _ 63 rfl w.heap.size 111 i0 (.agg #[.int .i64 0, .int .i64 0, .int .i64 0]) 3 24 Try.underlying63 hi hz0 hz1 hz2 rfl (by decide) _ _ _ rfl (World.ownsRow_made w #[] 0 (Nat.le_refl _) (Nat.zero_le _) rfl) ⟨b, off, none⟩ n c news rfl hl (fun j u hj => by rw [Addr.add_lit]; exact Lib.cell?_alloc_some _ (A.out j u hj)) h1 (by unfold maxLen; omega) (by omega) (by simp) ?_)
  intro v' w1 hown hgrow hnil
  go_wp2
  go_ret
  refine ⟨v', rfl, by simpa using hown, hnil, ?_⟩
  exact ((Below.refl _ w).alloc (Nat.le_refl _) _).grown hgrow (by simp) (by intro k hk; simp [Value.ownBlock] at hk; omega)

def cfL (x y : Lay3) : Int := cmpI x.1 y.1
theorem ins113 (blk off cap a b : Nat) (d : Array Lay3) (w : World) (hH : HoldsK valL 3 w blk off d) (hblk : blk < w.heap.size) (hab : a ≤ b) (hb : b ≤ d.size) (hsz : d.size < 1000) :
    Calls Try.prog 113 #[.slice (some ⟨blk, off, none⟩) d.size cap, .int .i64 a, .int .i64 b, .func (.func 78) #[] #[]] w fun e w' => e = .returned (.tuple #[]) ∧ ∃ n os, w' = sortWorldK valL 3 w blk off n (Sort.insertionSort (ltOf cfL) d a b) os :=
  AnyQ.insertionSortCmpFunc Try.laysIns 3 Try.isAgg111 Try.sizeOf111 valL (fun _ => rfl) (fun x v hv => by simp [valL] at hv; rcases hv with rfl | rfl | rfl <;> rfl) cfL 78 #[] blk off cap a b d w
    (enters_of Try.func78 (by kernel_rfl) rfl) (fun _ _ _ _ x y => closure78 x y _) hH hblk hab hb (by omega)

set_option maxHeartbeats 1000000 in
theorem stable102 (blk off cap : Nat) (d : Array Lay3) (w : World) (hH : HoldsK valL 3 w blk off d) (hblk : blk < w.heap.size) (hsz : d.size < 20) :
    Calls Try.prog 102 #[.slice (some ⟨blk, off, none⟩) d.size cap, .int .i64 d.size, .func (.func 78) #[] #[]] w fun e w' => e = .returned (.tuple #[]) ∧ ∃ n os, w' = sortWorldK valL 3 w blk off n (Sort.insertionSort (ltOf cfL) d 0 d.size) os := by
  have hi := ins113 blk off cap 0 d.size d w hH hblk (Nat.zero_le _) (Nat.le_refl _) (by omega)
  clear hH
  generalize Sort.insertionSort (ltOf cfL) d 0 d.size = r at hi ⊢
  obtain ⟨n, hn⟩ : ∃ n, n = d.size := ⟨_, rfl⟩
  rw [← hn] at hi hsz ⊢
  clear hn
  have hle : ¬ (20 : Int) ≤ (n : Int) := by omega
  have hlt : ¬ (20 : Int) < (n : Int) := by omega
  have hi : Calls Try.prog 113 #[.slice (some ⟨blk, off, none⟩) n cap, .int .i64 0, .int .i64 n, .func (.func 78) #[] #[]] w fun e w' => e = .returned (.tuple #[]) ∧ ∃ n os, w' = sortWorldK valL 3 w blk off n r os := hi
  go_enter Try.func102, Try.ntmps102
  go_wp2
  go_loopw [7, 8] (fun x y wr => x = .int .i64 0 ∧ y = .int .i64 20 ∧ wr = w) (fun _ _ _ => 0)
  case atStart => exact ⟨rfl, rfl, rfl⟩
  case round =>
    obtain ⟨rfl, rfl, rfl⟩ := hrel
    go_wp2_with (go_at_call 113; refine hi.mono ?_; rintro e w2 ⟨rfl, k, os, rfl⟩)
    go_loopw [6] (fun x w3 => x = .int .i64 20 ∧ w3 = sortWorldK valL 3 wr blk off k r os) (fun _ _ => 0)
    case atStart => exact ⟨rfl, rfl⟩
    case round =>
      obtain ⟨rfl, rfl⟩ := hrel
      go_wp2
      go_end0
      exact ⟨rfl, k, os, rfl⟩

set_option maxHeartbeats 1000000 in
theorem sort77 (blk off cap : Nat) (d : Array Lay3) (w : World) (hH : HoldsK valL 3 w blk off d) (hblk : blk < w.heap.size) (hsz : d.size < 20) :
    Calls Try.prog 77 #[.slice (some ⟨blk, off, none⟩) d.size cap, .func (.func 78) #[] #[]] w fun e w' => e = .returned (.tuple #[]) ∧ ∃ n os, w' = sortWorldK valL 3 w blk off n (Sort.insertionSort (ltOf cfL) d 0 d.size) os := by
  have hi := stable102 blk off cap d w hH hblk hsz
  clear hH
  generalize Sort.insertionSort (ltOf cfL) d 0 d.size = r at hi ⊢
  generalize d.size = n at hi ⊢
  go_enter Try.func77, Try.ntmps77
  go_wp2_with (go_at_call 102; refine hi.mono ?_; rintro e w2 ⟨rfl, k, os, rfl⟩)
  go_end0
  exact ⟨rfl, k, os, rfl⟩
end Gv
