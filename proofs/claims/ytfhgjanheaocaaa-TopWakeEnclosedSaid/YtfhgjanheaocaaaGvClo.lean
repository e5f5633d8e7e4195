/- slices.Clone at this program. -/
import Derived.Test.YtfhgjanheaocaaaGvClone
import Derived.Test.YtfhgjanheaocaaaGvEnvA
import Derived.WalkKit
import Derived.KernelRfl
import Derived.Lib.Walk
import Derived.Lib.SliceRun
namespace Gv
open Go Go.Proofs Go.RowKit Go.Lib
theorem cloMixed : Try.prog.follows .mixedOrders = true := by kernel_rfl
set_option maxHeartbeats 2000000 in
set_option maxRecDepth 100000 in
theorem clone_nil111 (n c : Nat) (w : World) : Calls Try.prog 111 #[.slice none n c] w fun e w' => e = .returned (.slice none 0 0) ∧ w' = w := by
  have q : ∀ (w : World) (a : Option Addr) (n c n' c' : Nat), (binOp .eql 77 (.slice a n c) (.slice none n' c')).run Try.prog w = .ok (.bool a.isNone) w := fun w a n c n' c' => Lib.run_eql_slice_nil w _ _ a n c n' c' Try.underlying77
  go_enter Try.func111, Try.ntmps111
  go_wp2
  go_ret
  exact ⟨rfl, rfl⟩
set_option maxHeartbeats 2000000 in
set_option maxRecDepth 100000 in
theorem clone_zero111 (a : Addr) (c : Nat) (w : World) : Calls Try.prog 111 #[.slice (some a) 0 c] w fun e w' => ∃ v', e = .returned v' ∧ w'.ownsRow w.heap.size 3 1 v' 0 [] ∧ Below w.heap.size w w' := by
  have q : ∀ (w : World) (a : Option Addr) (n c n' c' : Nat), (binOp .eql 77 (.slice a n c) (.slice none n' c')).run Try.prog w = .ok (.bool a.isNone) w := fun w a n c n' c' => Lib.run_eql_slice_nil w _ _ a n c n' c' Try.underlying77
  have u22 : ∀ w, Sem.run Try.prog (underlying 77) w = .ok (TypeDesc.slice 3) w := run_underlying Try.underlying77
  obtain ⟨i0, hi, hz0, hz1, hz2⟩ : ∃ i0, Try.prog.info? 3 = some i0 ∧ i0.zero = some (.int .i64 0) ∧ i0.size = 1 ∧ i0.bytes = 8 := ⟨_, rfl, by kernel_rfl, by kernel_rfl, by kernel_rfl⟩
  go_enter Try.func111, Try.ntmps111
  go_wp2_with (at_builtin; refine wpList_append_own _ rfl _ _ 77 rfl w.heap.size 3 i0 (.int .i64 0) 1 8 Try.underlying77 hi hz0 hz1 hz2 rfl (by decide) _ _ _ rfl (World.ownsRow_made w #[] 0 (Nat.le_refl _) (Nat.zero_le _) rfl) a 0 c [] rfl rfl (by intro j u hj; simp at hj) (by intro u hu; cases hu) (by unfold maxLen; omega) (by omega) (by simp) ?_)
  intro v' w1 hown hgrow hnil
  go_wp2
  go_ret
  refine ⟨v', rfl, by simpa using hown, ?_⟩
  exact ((Below.refl _ w).alloc (Nat.le_refl _) _).grown hgrow (by simp) (by intro k hk; simp [Value.ownBlock] at hk; omega)
def env111 (g : Nat) : Option AFn := match g with
  | 111 => some a111
  | _ => none
theorem env111_ok : EnvOK Try.prog env111 := by
  intro f af h
  unfold env111 at h
  split at h
  · cases h; exact .inl ⟨Try.f111, r111, k111, Try.func111, e111⟩
  · cases h
def tree111 (n : Nat) (cs : List PV) : Option (Nat × List PV) :=
  bif decide (n ≠ 0) then bif decide (n = 0) then some (0, []) else bif decide (cs.length = n * 1) then bif decide (0 = 0 ∧ 0 + n ≤ big) then bif decide (0 + n = 0 + n) then some (0 + n, [] ++ cs) else none else none else none else none
theorem tree111_eq (n : Nat) (cs : List PV) : semF (callP (Fn env111) [] 20) s111 (loopT []) 400 a111 [PV.list n cs] (fun rv => decR (RSh.one CK.list) rv.pv) = tree111 n cs := by kernel_rfl
theorem run111 (n : Nat) (cs : List PV) (h0 : n ≠ 0) (h1 : cs.length = n * 1) (h2 : n ≤ big) : Fn env111 111 (.one .list) [.list n cs] = some (n, cs) := by
  refine fn_of (es := []) ent_nil rfl rfl lo_nil ((tree111_eq n cs).trans ?_)
  unfold tree111
  simp [h0, h1, h2]
theorem clone111 : PrimOK Try.prog 111 (cloneG 1) :=
  clonePrim cloMixed env111_ok ⟨Try.f111, Try.func111, by kernel_rfl, by decide⟩ run111 clone_nil111 fun a c w => (clone_zero111 a c w).mono fun e w' h => by
    obtain ⟨v', rfl, hown, hb⟩ := h
    rcases hown.2 with ⟨rfl, _⟩ | ⟨g, cap, cur, rfl, _⟩
    · exact ⟨_, _, rfl, hb⟩
    · exact ⟨_, _, rfl, hb⟩
end Gv
