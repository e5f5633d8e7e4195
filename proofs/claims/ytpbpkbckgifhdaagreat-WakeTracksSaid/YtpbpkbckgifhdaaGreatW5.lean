/- WakeTracks holds: whatever the scans and the cost of a miss, the law answers true. -/
import Derived.Test.YtpbpkbckgifhdaaGreatGvZw
import Derived.Test.YtpbpkbckgifhdaaGreatL5
namespace Go.Proofs.YtpbpkbckgifhdaaGreat
open Go Gv Go.ChangeShapes Go.WideShapes Go.ChangeAt Go.RowKit
set_option maxRecDepth 100000
theorem fits_scans {p : PV} {cs : List PV} (h : Fits (.sl (.sl vortS)) cs) (hp : [p] = cs) : ∃ S : List (List Z3), p = .list S.length (encS S) := by
 obtain ⟨l, rfl, _, hl⟩ := h
 obtain ⟨r, h1, h2⟩ := fits_rows (fun x : List Z3 => [PV.list x.length (encT x)]) l fun x hx => by
  have h3 := hl x hx
  obtain ⟨p, hp⟩ : ∃ p, [p] = x := by
   obtain ⟨l, rfl, _⟩ := h3
   exact ⟨_, rfl⟩
  obtain ⟨l, rfl, _⟩ := fits_vortsN h3 hp
  exact ⟨l, hp.symm⟩
 simp only [List.cons.injEq, and_true] at hp
 refine ⟨r, ?_⟩
 rw [hp, ← h1, h2]
 congr 1
 clear h1 h2 hl hp
 induction r with
 | nil => rfl
 | cons a r ih =>
  simp only [List.flatMap_cons, ih]
  rfl
theorem wakeTracks_run (qs : List PV) (h : FitsArgs [.sl (.sl vortS), .int .i64] qs) : run env 5 qs = some (.val (.bool true)) := by
 obtain ⟨p1, r1, c1, rfl, f1, e1, p2, r2, c2, rfl, f2, e2, hr⟩ := h
 simp only [FitsArgs] at hr
 subst hr
 obtain ⟨S, rfl⟩ := fits_scans f1 e1
 obtain ⟨n, rfl, _⟩ := f2
 have e2 : [p2] = [.int .i64 n] := e2
 cases e2
 exact run_true (Gv.tracksLaw S n)
theorem wakeTracks_tells : Tells Rows.wakeTracksSpec 2 := by
 refine ⟨rfl, fun H ds hl => ?_, fun H ds hl => ?_, fun H ds hl => ?_⟩ <;>
 ·match ds, hl with
  | [d1, d2], _ => rfl
theorem wakeTracks_lifted (os : Os) (started : os.Started) (H : Type) (enc : TypeId × Value → H) :
  ReturnsInHanded {} Tryz.checked os 5 .any (Rows.wakeTracksSpec.pre6 enc Tryz.prog Tryz.f5 Rows.wakeTracksRow.domain false) (Rows.wakeTracksSpec.post enc Tryz.prog Tryz.f5 false true false false) := by
 refine returnsInHanded_of_change (C := Tryz.checked) own started (by kernel_rfl) Tryz.func5
  (ChangeSpec.witness6 (enc := enc) (C := Tryz.checked) false ⟨#[], #[.slice none 0 0, .int .i64 0], []⟩ 8 (by kernel_rfl) (by kernel_rfl) (by kernel_rfl) (by kernel_rfl)) ?_
 intro W base args ds gs before hval hW _ _
 exact contract_true mixed env_ok laid (d := 20) (ss := [.sl (.sl vortS), .int .i64]) (by kernel_rfl) rfl Tryz.underlying4 wakeTracks_tells wakeTracks_run W base args ds gs before hval hW
theorem wakeTracks : Rows.WakeTracksSaid :=
 OpenClaim.holds_of_wide 5 Tryz.f5 rfl rfl rfl rfl rfl rfl rfl ⟨rfl, rfl, rfl, rfl, rfl⟩ rfl rfl rfl rfl rfl (by kernel_rfl) Tryz.func5 (by kernel_rfl)
  (of_decide_eq_true (by kernel_rfl)) (by unfold Func.isWrapper; first | (rw [if_pos (by decide +kernel)]; kernel_rfl) | (rw [if_neg (by decide +kernel)]; exact ⟨rfl, rfl⟩))
  (fun os started H enc _ => wakeTracks_lifted os started H enc)
#print axioms wakeTracks
end Go.Proofs.YtpbpkbckgifhdaaGreat
