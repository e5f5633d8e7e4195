/- A list of ints is the same as itself. -/
import Derived.Test.YtpcpegneobkbdaaS14
namespace Gv
open Go
set_option maxRecDepth 100000

theorem ints_loop (l : List Int) (hl : l.length < 4294967296) : ∀ i, i ≤ l.length →
    Rglidepathbase_Ints_0 (Tglidepathbase_Ints_0a l.length (encI l) l.length (encI l) i) = exO (Xglidepathbase_Ints_0b ()) := by
  refine up_ind _ ?_ ?_
  · refine Rglidepathbase_Ints_0a_of _ _ _ _ _ ?_
    unfold Bglidepathbase_Ints_0a
    rw [bif_neg (by omega)]
    rfl
  · intro i hi ih
    obtain ⟨x, hx, hd⟩ := get_drop hi
    refine Rglidepathbase_Ints_0a_of _ _ _ _ _ ?_
    unfold Bglidepathbase_Ints_0a
    rw [bif_pos (by omega), bif_pos (by omega)]
    simp only [Int.toNat_natCast, Nat.mul_one, encI_get, hx, Option.map_some, intC_int, bindO_val]
    rw [bif_pos (by omega), bif_ne, if_pos rfl, w64_in (by omega)]
    exact ih

theorem ints_refl (l : List Int) (hl : l.length < 4294967296) : Fglidepathbase_Ints [.list l.length (encI l), .list l.length (encI l)] = some true := by
  refine Fglidepathbase_Ints_of _ _ _ _ ?_
  unfold tglidepathbase_Ints
  rw [bif_ne, if_pos rfl]
  have := Lglidepathbase_Ints_0b_of (ints_loop l hl 0 (by omega))
  rw [show ((0 : Nat) : Int) = 0 from rfl] at this
  rw [this]
  rfl

end Gv
