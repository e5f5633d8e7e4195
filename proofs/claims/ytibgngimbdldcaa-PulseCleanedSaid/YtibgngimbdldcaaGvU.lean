/- Tables of what is known of functions. -/
import Derived.Test.YtibgngimbdldcaaGvT
namespace Gv
open Go

/-- A function gives what its model gives. -/
def Is (env : Nat → Option AFn) (f : Nat) (m : List PV → Option RV) : Prop := ∀ args r, m args = some r → run env f args = some r

def look : List (Nat × (List PV → Option RV)) → Nat → List PV → Option RV
  | [], _, _ => none
  | (g, m) :: l, f, args => bif g == f then m args else look l f args

variable {env : Nat → Option AFn}

theorem cle_nil : CLe (look []) (run env) := fun _ _ _ h => by simp [look] at h
theorem cle_cons {g : Nat} {m : List PV → Option RV} {l : List (Nat × (List PV → Option RV))} (hm : Is env g m) (hl : CLe (look l) (run env)) : CLe (look ((g, m) :: l)) (run env) := fun f args r h => by
  simp only [look] at h
  by_cases hg : g = f
  · subst hg
    simp at h
    exact hm args r h
  · have : (g == f) = false := by simpa using hg
    rw [this] at h
    exact hl f args r h

def noSh : Nat → Option (List IntKind) := fun _ => none
def noLp : Loops := fun _ => none
theorem lp_none {c : ACode} : LoopsOK env noLp c := fun _ _ _ hF => by simp [noLp] at hF

/-- Without loops that are known, and without shapes. -/
theorem run_plain {l : List (Nat × (List PV → Option RV))} (hc : CLe (look l) (run env)) {n f : Nat} {af : AFn} {args : List PV} {r : RV} (hf : env f = some af) (hl : args.length = af.np)
    (h : semF (look l) noSh noLp n af args = some r) : run env f args = some r := run_of hc hf hl lp_none h
end Gv
