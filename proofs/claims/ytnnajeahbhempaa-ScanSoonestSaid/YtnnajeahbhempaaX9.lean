/- slices.Concat of the document's example, told by what it gives. -/
import Derived.Test.YtnnajeahbhempaaGvClone
import Derived.Test.YtnnajeahbhempaaGvLay
import Derived.Test.YtnnajeahbhempaaGvClo
import Derived.Test.YtnnajeahbhempaaGvEnvA
import Derived.Test.YtnnajeahbhempaaGvEnvB
namespace Gv
open Go Go.Proofs Go.RowKit
set_option maxRecDepth 100000
def env1 (f : Nat) : Option AFn := match f with
  | 114 => some a114
  | 127 => some a127
  | _ => none
theorem env1_ok : EnvOK Try.prog env1 := by
  intro f af h
  unfold env1 at h
  split at h
  · cases h; exact .inl ⟨Try.f114, r114, k114, Try.func114, e114⟩
  · cases h; exact .inr (.inr (.inl ⟨2, rfl, grow127⟩))
  · cases h
def E114 : List Entry := [.inl 127 a127 s127]
theorem E114_ok : ∀ e ∈ E114, EntOK env1 e := (ent_inl rfl ent_nil)
theorem cat0 : semF (callP (Fn env1) E114 1000) s114 (loopT []) 400 a114 [.list 2 [.list 2 [.int .i64 20, .int .i64 0, .int .i64 10, .int .i64 0], .list 1 [.int .i64 0, .int .i64 0]]] (fun rv => decR (RSh.one CK.list) rv.pv) =
    some (3, [.int .i64 20, .int .i64 0, .int .i64 10, .int .i64 0, .int .i64 0, .int .i64 0]) := by kernel_rfl
theorem cat_run : Fn env1 114 (RSh.one CK.list) [.list 2 [.list 2 [.int .i64 20, .int .i64 0, .int .i64 10, .int .i64 0], .list 1 [.int .i64 0, .int .i64 0]]] = some (3, [.int .i64 20, .int .i64 0, .int .i64 10, .int .i64 0, .int .i64 0, .int .i64 0]) :=
  fn_of E114_ok rfl rfl lo_nil cat0

def catG : List PV → Option PV
  | [.list 2 [.list 2 [.int .i64 20, .int .i64 0, .int .i64 10, .int .i64 0], .list 1 [.int .i64 0, .int .i64 0]]] => some (.list 3 [.int .i64 20, .int .i64 0, .int .i64 10, .int .i64 0, .int .i64 0, .int .i64 0])
  | _ => none
theorem cat114 : PrimOK Try.prog 114 catG := by
  refine ⟨⟨Try.f114, Try.func114, by kernel_rfl, by decide⟩, fun args v hg w St vals hlt hargs => ?_⟩
  unfold catG at hg
  split at hg
  · simp only [Option.some.injEq] at hg
    subst hg
    obtain ⟨rv, h1, h2⟩ := Fn_some cat_run
    have hc := ((run_sound cloMixed env1_ok).fn 114 _ rv h1).2 w St vals hlt hargs
    refine hc.mono fun e w' hp => ?_
    cases rv with
    | val x =>
      have hx : x = .list 3 [.int .i64 20, .int .i64 0, .int .i64 10, .int .i64 0, .int .i64 0, .int .i64 0] := h2
      subst hx
      exact hp
    | own n sz cs =>
      have : PV.list n cs = .list 3 [.int .i64 20, .int .i64 0, .int .i64 10, .int .i64 0, .int .i64 0, .int .i64 0] := h2
      simp only [PV.list.injEq] at this
      obtain ⟨rfl, rfl⟩ := this
      obtain ⟨u', St', rfl, h1, h2⟩ := hp
      exact ⟨u', St', rfl, own_list h1, h2⟩
  · cases hg
end Gv
