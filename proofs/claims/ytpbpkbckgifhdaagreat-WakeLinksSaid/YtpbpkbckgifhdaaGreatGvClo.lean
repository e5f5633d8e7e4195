/- slices.Clone at this program. -/
import Derived.Test.YtpbpkbckgifhdaaGreatGvClone
import Derived.Test.YtpbpkbckgifhdaaGreatGvEnvA
import Derived.WalkKit
import Derived.KernelRfl
import Derived.Lib.Walk
import Derived.Lib.SliceRun
namespace Gv
open Go Go.Proofs Go.RowKit Go.Lib
theorem cloMixed : Tryz.prog.follows .mixedOrders = true := by kernel_rfl
set_option maxHeartbeats 2000000 in
set_option maxRecDepth 100000 in
theorem clone_nil119 (n c : Nat) (w : World) : Calls Tryz.prog 119 #[.slice none n c] w fun e w' => e = .returned (.slice none 0 0) ∧ w' = w := by
 have q : ∀ (w : World) (a : Option Addr) (n c n' c' : Nat), (binOp .eql 26 (.slice a n c) (.slice none n' c')).run Tryz.prog w = .ok (.bool a.isNone) w := fun w a n c n' c' => Lib.run_eql_slice_nil w _ _ a n c n' c' Tryz.underlying26
 go_enter Tryz.func119, Tryz.ntmps119
 go_wp2
 go_ret
 exact ⟨rfl, rfl⟩
set_option maxHeartbeats 2000000 in
set_option maxRecDepth 100000 in
theorem clone_zero119 (a : Addr) (c : Nat) (w : World) : Calls Tryz.prog 119 #[.slice (some a) 0 c] w fun e w' => ∃ v', e = .returned v' ∧ w'.ownsRow w.heap.size 3 1 v' 0 [] ∧ Below w.heap.size w w' := by
 have q : ∀ (w : World) (a : Option Addr) (n c n' c' : Nat), (binOp .eql 26 (.slice a n c) (.slice none n' c')).run Tryz.prog w = .ok (.bool a.isNone) w := fun w a n c n' c' => Lib.run_eql_slice_nil w _ _ a n c n' c' Tryz.underlying26
 have u22 : ∀ w, Sem.run Tryz.prog (underlying 26) w = .ok (TypeDesc.slice 3) w := run_underlying Tryz.underlying26
 obtain ⟨i0, hi, hz0, hz1, hz2⟩ : ∃ i0, Tryz.prog.info? 3 = some i0 ∧ i0.zero = some (.int .i64 0) ∧ i0.size = 1 ∧ i0.bytes = 8 := ⟨_, rfl, by kernel_rfl, by kernel_rfl, by kernel_rfl⟩
 go_enter Tryz.func119, Tryz.ntmps119
 go_wp2_with (at_builtin; refine wpList_append_own _ rfl _ _ 26 rfl w.heap.size 3 i0 (.int .i64 0) 1 8 Tryz.underlying26 hi hz0 hz1 hz2 rfl (by decide) _ _ _ rfl (World.ownsRow_made w #[] 0 (Nat.le_refl _) (Nat.zero_le _) rfl) a 0 c [] rfl rfl (by intro j u hj; simp at hj) (by intro u hu; cases hu) (by unfold maxLen; omega) (by omega) (by simp) ?_)
 intro v' w1 hown hgrow hnil
 go_wp2
 go_ret
 refine ⟨v', rfl, by simpa using hown, ?_⟩
 exact ((Below.refl _ w).alloc (Nat.le_refl _) _).grown hgrow (by simp) (by intro k hk; simp [Value.ownBlock] at hk; omega)
def env119 (g : Nat) : Option AFn := match g with
 | 119 => some a119
 | _ => none
theorem env119_ok : EnvOK Tryz.prog env119 := by
 intro f af h
 unfold env119 at h
 split at h
 ·cases h; exact .inl ⟨Tryz.f119, r119, k119, Tryz.func119, e119⟩
 ·cases h
def tree119 (n : Nat) (cs : List PV) : Option (Nat × List PV) :=
 bif decide (n ≠ 0) then bif decide (n = 0) then some (0, []) else bif decide (cs.length = n * 1) then bif decide (0 = 0 ∧ 0 + n ≤ big) then bif decide (0 + n = 0 + n) then some (0 + n, [] ++ cs) else none else none else none else none
theorem tree119_eq (n cs) : semF (callP (Fn env119) [] 20) s119 (loopT []) 400 a119 [PV.list n cs] (fun rv => decR (RSh.one CK.list) rv.pv) = tree119 n cs := by kernel_rfl
theorem run119 (n : Nat) (cs : List PV) (h0 : n ≠ 0) (h1 : cs.length = n * 1) (h2 : n ≤ big) : Fn env119 119 (.one .list) [.list n cs] = some (n, cs) := by
 refine fn_of (es := []) ent_nil rfl rfl lo_nil ((tree119_eq n cs).trans ?_)
 unfold tree119
 simp [h0, h1, h2]
theorem clone119 : PrimOK Tryz.prog 119 (cloneG 1) :=
 clonePrim cloMixed env119_ok ⟨Tryz.f119, Tryz.func119, by kernel_rfl, by decide⟩ run119 clone_nil119 fun a c w => (clone_zero119 a c w).mono fun e w' h => by
  obtain ⟨v', rfl, hown, hb⟩ := h
  rcases hown.2 with ⟨rfl, _⟩ | ⟨g, cap, cur, rfl, _⟩
  ·exact ⟨_, _, rfl, hb⟩
  ·exact ⟨_, _, rfl, hb⟩
end Gv
