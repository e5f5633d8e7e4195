/- Moves, as the program answers about them. -/
import Derived.Test.YtnoifjomlmadkaaSW2
import Derived.Test.YtnoifjomlmadkaaSM4
import Derived.Test.YtnoifjomlmadkaaSA
namespace Gv
open Go
set_option maxRecDepth 100000

theorem firstError3_is (a b c : Int) : Fn env 59 (RSh.one (CK.int IntKind.i64)) [.list 3 [.int .i64 a, .int .i64 b, .int .i64 c]] = some (first3 a b c) := by
  refine Fscan_firstError_3_of _ _ _ ?_
  unfold tscan_firstError_3 first3
  simp only [bif_ne, ne_eq, ite_not]
  by_cases h0 : a = 0 <;> by_cases h1 : b = 0 <;> by_cases h2 : c = 0 <;> simp [h0, h1, h2]
abbrev encD (a : ZZ) : PV := .agg [.int .i64 a.1, .int .i64 a.2]
section
variable (h : Hd) (hl : h.l.length < 4294967296) (a b : ZZ)
include hl
theorem moveError_is : Fscan_moveError [encH h, encD a, encD b] = some (mvE h a b) := by
  refine Fscan_moveError_of _ _ _ _ _ _ _ _ _ _ _ _ ?_
  unfold tscan_moveError
  simp only [headError_is h hl, directionError_is, firstError3_is, bindO_val]
  rfl
theorem moveTicks_is (M : Int) (hM : mvE h a b = 0 → Fscan_moveTicks [encH h, encD a, encD b] = some M) : Fscan_MoveTicks [encH h, encD a, encD b] = some (if mvE h a b = 0 then (M, 0) else (0, mvE h a b)) := by
  refine Fscan_MoveTicks_of _ _ _ _ _ _ _ _ _ _ _ _ ?_
  unfold tscan_MoveTicks
  simp only [moveError_is h hl, bindO_val, bif_ne]
  by_cases h0 : mvE h a b = 0
  · rw [if_pos h0, if_pos h0]
    simp only [hM h0, bindO_val]
  · rw [if_neg h0, if_neg h0]
theorem isDark_is : Fscan_IsDark [encH h, encD a, encD b] = some (if mvE h a b = 0 then (darkB h a b, 0) else (false, mvE h a b)) := by
  refine Fscan_IsDark_of _ _ _ _ _ _ _ _ _ _ _ _ ?_
  unfold tscan_IsDark
  simp only [moveError_is h hl, bindO_val, bif_ne]
  by_cases h0 : mvE h a b = 0
  · rw [if_pos h0, if_pos h0]
    obtain ⟨_, h2, h3⟩ := mvE_ok h0
    simp only [isDarkP_is h hl h2 h3, bindO_val]
    cases darkB h a b <;> rfl
  · rw [if_neg h0, if_neg h0]
end
end Gv
