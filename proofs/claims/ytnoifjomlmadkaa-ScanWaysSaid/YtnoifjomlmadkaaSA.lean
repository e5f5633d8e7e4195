import Derived.KernelRfl
import Derived.Test.YtnoifjomlmadkaaPO2
import Derived.Test.YtnoifjomlmadkaaGvYk
import Derived.Test.YtnoifjomlmadkaaVM1
import Derived.Test.YtnoifjomlmadkaaVM2
import Derived.Test.YtnoifjomlmadkaaSS1
import Derived.Test.YtnoifjomlmadkaaV15
import Derived.Test.YtnoifjomlmadkaaV45
import Derived.Test.YtnoifjomlmadkaaV46
import Derived.Test.YtnoifjomlmadkaaV57

/- The moves of the document's head. -/
namespace Gv
open Go
set_option maxRecDepth 100000
def dL : List PV := [.int .i64 20, .int .i64 0, .int .i64 10, .int .i64 0]
def catL : List PV := [.int .i64 20, .int .i64 0, .int .i64 10, .int .i64 0, .int .i64 0, .int .i64 0]
def hP : PV := .agg [.int .i64 0, .int .i64 0, .int .i64 3, .int .i64 1, .int .i64 3, .int .i64 1, .list 0 []]
def rowM (a b : Int) : List PV := [.int .i64 a, .bool true, .int .i64 b, .bool true]
theorem cat_is : Fn env 114 (RSh.one CK.list) [.list 2 [.list 2 dL, .list 1 [.int .i64 0, .int .i64 0]]] = some (3, catL) := by
  have hr : run env 114 [.list 2 [.list 2 dL, .list 1 [.int .i64 0, .int .i64 0]]] = some (.val (.list 3 catL)) := by
    refine (run_iff env).2 ⟨2, ?_⟩
    have e : exN (callN env 1) 1 (primA 1 catG).body (start (primA 1 catG) [.list 2 [.list 2 dL, .list 1 [.int .i64 0, .int .i64 0]]]) = some (.normal, ⟨[.p (.list 2 [.list 2 dL, .list 1 [.int .i64 0, .int .i64 0]]), .p (.list 3 catL)], [Blk.none, Blk.none]⟩) := rfl
    simp only [callN, show env 114 = some (primA 1 catG) from rfl]
    rw [if_pos ⟨rfl, rfl⟩, e]
    rfl
  unfold Fn
  rw [hr]
  rfl

section
variable (x t0 t1 : Int)
theorem ra2 (cs : List PV) : Rscan_movesOf_2 (Tscan_movesOf_2a 2 dL 2 3 catL 3 2 dL 2 2 0 0 3 1 3 1 0 [] x 0 cs) = exO (Xscan_movesOf_2a (2, dL, 2, 3, catL, 3, 0, 0, 3, 1, 3, 1, 0, [], x, 0, cs)) := by
  refine Rscan_movesOf_2a_of _ _ _ _ _ _ _ _ _ _ _ _ _ _ _ _ _ _ _ _ _ ?_
  unfold Bscan_movesOf_2a
  rw [bif_neg (by decide)]
  rfl
theorem ra1 (h80 : Fn env 80 (RSh.one (CK.int IntKind.i64)) [hP, .agg [.int .i64 x, .int .i64 0], .agg [.int .i64 10, .int .i64 0]] = some t1) (h81 : Fn env 81 (RSh.one CK.bool) [hP, .agg [.int .i64 x, .int .i64 0], .agg [.int .i64 10, .int .i64 0]] = some true) :
    Rscan_movesOf_2 (Tscan_movesOf_2a 2 dL 2 3 catL 3 2 dL 2 1 0 0 3 1 3 1 0 [] x 0 [.int .i64 t0, .bool true, .int .i64 0, .bool false]) = exO (Xscan_movesOf_2a (2, dL, 2, 3, catL, 3, 0, 0, 3, 1, 3, 1, 0, [], x, 0, rowM t0 t1)) := by
  refine Rscan_movesOf_2a_of _ _ _ _ _ _ _ _ _ _ _ _ _ _ _ _ _ _ _ _ _ ?_
  unfold Bscan_movesOf_2a
  unfold hP at h80 h81
  rw [bif_pos (by decide), bif_pos (by decide), show dL[Int.toNat 1 * 2]? = some (.int .i64 10) from rfl, show dL[Int.toNat 1 * 2 + 1]? = some (.int .i64 0) from rfl]
  simp only [intC_int, bindO_val, h80, h81, cond_true]
  rw [bif_pos (by decide), show overO [.int .i64 t0, .bool true, .int .i64 0, .bool false] (0 + Int.toNat 1 * 2) [.int .i64 t1, .bool true] = some (rowM t0 t1) from rfl, bindO_val, show w64 (1 + 1) = 2 from by decide]
  exact ra2 x _
theorem ra0 (g80 : Fn env 80 (RSh.one (CK.int IntKind.i64)) [hP, .agg [.int .i64 x, .int .i64 0], .agg [.int .i64 20, .int .i64 0]] = some t0) (g81 : Fn env 81 (RSh.one CK.bool) [hP, .agg [.int .i64 x, .int .i64 0], .agg [.int .i64 20, .int .i64 0]] = some true)
    (h80 : Fn env 80 (RSh.one (CK.int IntKind.i64)) [hP, .agg [.int .i64 x, .int .i64 0], .agg [.int .i64 10, .int .i64 0]] = some t1) (h81 : Fn env 81 (RSh.one CK.bool) [hP, .agg [.int .i64 x, .int .i64 0], .agg [.int .i64 10, .int .i64 0]] = some true) :
    Lscan_movesOf_2 (Tscan_movesOf_2a 2 dL 2 3 catL 3 2 dL 2 0 0 0 3 1 3 1 0 [] x 0 [.int .i64 0, .bool false, .int .i64 0, .bool false]) = some (.inl (2, dL, 2, 3, catL, 3, 0, 0, 3, 1, 3, 1, 0, [], x, 0, rowM t0 t1)) := by
  refine Lscan_movesOf_2a_of (Rscan_movesOf_2a_of _ _ _ _ _ _ _ _ _ _ _ _ _ _ _ _ _ _ _ _ _ ?_)
  unfold Bscan_movesOf_2a
  have k1 := ra1 x t0 t1 h80 h81
  unfold hP at g80 g81
  rw [bif_pos (by decide), bif_pos (by decide), show dL[Int.toNat 0 * 2]? = some (.int .i64 20) from rfl, show dL[Int.toNat 0 * 2 + 1]? = some (.int .i64 0) from rfl]
  simp only [intC_int, bindO_val, g80, g81, cond_true]
  rw [bif_pos (by decide), show overO [.int .i64 0, .bool false, .int .i64 0, .bool false] (0 + Int.toNat 0 * 2) [.int .i64 t0, .bool true] = some [.int .i64 t0, .bool true, .int .i64 0, .bool false] from rfl, bindO_val, show w64 (0 + 1) = 1 from by decide]
  exact k1

variable (n : Nat) (ms : List PV) (i : Int)
theorem rb2 (cs : List PV) : Rscan_movesOf_2 (Tscan_movesOf_2b 2 dL n ms 2 3 catL 3 i 2 dL 2 2 0 0 3 1 3 1 0 [] x 0 cs n) = exO (Xscan_movesOf_2b (2, dL, n, ms, 2, 3, catL, 3, i, 0, 0, 3, 1, 3, 1, 0, [], x, 0, cs, n)) := by
  refine Rscan_movesOf_2b_of _ _ _ _ _ _ _ _ _ _ _ _ _ _ _ _ _ _ _ _ _ _ _ _ _ ?_
  unfold Bscan_movesOf_2b
  rw [bif_neg (by decide)]
  rfl
theorem rb1 (h80 : Fn env 80 (RSh.one (CK.int IntKind.i64)) [hP, .agg [.int .i64 x, .int .i64 0], .agg [.int .i64 10, .int .i64 0]] = some t1) (h81 : Fn env 81 (RSh.one CK.bool) [hP, .agg [.int .i64 x, .int .i64 0], .agg [.int .i64 10, .int .i64 0]] = some true) :
    Rscan_movesOf_2 (Tscan_movesOf_2b 2 dL n ms 2 3 catL 3 i 2 dL 2 1 0 0 3 1 3 1 0 [] x 0 [.int .i64 t0, .bool true, .int .i64 0, .bool false] n) = exO (Xscan_movesOf_2b (2, dL, n, ms, 2, 3, catL, 3, i, 0, 0, 3, 1, 3, 1, 0, [], x, 0, rowM t0 t1, n)) := by
  refine Rscan_movesOf_2b_of _ _ _ _ _ _ _ _ _ _ _ _ _ _ _ _ _ _ _ _ _ _ _ _ _ ?_
  unfold Bscan_movesOf_2b
  unfold hP at h80 h81
  rw [bif_pos (by decide), bif_pos (by decide), show dL[Int.toNat 1 * 2]? = some (.int .i64 10) from rfl, show dL[Int.toNat 1 * 2 + 1]? = some (.int .i64 0) from rfl]
  simp only [intC_int, bindO_val, h80, h81, cond_true]
  rw [bif_pos (by decide), show overO [.int .i64 t0, .bool true, .int .i64 0, .bool false] (0 + Int.toNat 1 * 2) [.int .i64 t1, .bool true] = some (rowM t0 t1) from rfl, bindO_val, show w64 (1 + 1) = 2 from by decide]
  exact rb2 x n ms i _
theorem rb0 (g80 : Fn env 80 (RSh.one (CK.int IntKind.i64)) [hP, .agg [.int .i64 x, .int .i64 0], .agg [.int .i64 20, .int .i64 0]] = some t0) (g81 : Fn env 81 (RSh.one CK.bool) [hP, .agg [.int .i64 x, .int .i64 0], .agg [.int .i64 20, .int .i64 0]] = some true)
    (h80 : Fn env 80 (RSh.one (CK.int IntKind.i64)) [hP, .agg [.int .i64 x, .int .i64 0], .agg [.int .i64 10, .int .i64 0]] = some t1) (h81 : Fn env 81 (RSh.one CK.bool) [hP, .agg [.int .i64 x, .int .i64 0], .agg [.int .i64 10, .int .i64 0]] = some true) :
    Lscan_movesOf_2 (Tscan_movesOf_2b 2 dL n ms 2 3 catL 3 i 2 dL 2 0 0 0 3 1 3 1 0 [] x 0 [.int .i64 0, .bool false, .int .i64 0, .bool false] n) = some (.inr (2, dL, n, ms, 2, 3, catL, 3, i, 0, 0, 3, 1, 3, 1, 0, [], x, 0, rowM t0 t1, n)) := by
  refine Lscan_movesOf_2b_of (Rscan_movesOf_2b_of _ _ _ _ _ _ _ _ _ _ _ _ _ _ _ _ _ _ _ _ _ _ _ _ _ ?_)
  unfold Bscan_movesOf_2b
  have k1 := rb1 x t0 t1 n ms i h80 h81
  unfold hP at g80 g81
  rw [bif_pos (by decide), bif_pos (by decide), show dL[Int.toNat 0 * 2]? = some (.int .i64 20) from rfl, show dL[Int.toNat 0 * 2 + 1]? = some (.int .i64 0) from rfl]
  simp only [intC_int, bindO_val, g80, g81, cond_true]
  rw [bif_pos (by decide), show overO [.int .i64 0, .bool false, .int .i64 0, .bool false] (0 + Int.toNat 0 * 2) [.int .i64 t0, .bool true] = some [.int .i64 t0, .bool true, .int .i64 0, .bool false] from rfl, bindO_val, show w64 (0 + 1) = 1 from by decide]
  exact k1
end

def mr1 : PV := .list 2 (rowM 0 6)
def mr2 : PV := .list 2 (rowM 6 0)
def mr3 : PV := .list 2 (rowM 9 6)
theorem rep_two : rep [PV.int .i64 0, PV.bool false] (Int.toNat ((2 : Nat) : Int)) = [.int .i64 0, .bool false, .int .i64 0, .bool false] := rfl
theorem two_nat : Int.toNat ((2 : Nat) : Int) = 2 := rfl
theorem mo3 : Rscan_movesOf_0 (Tscan_movesOf_0b 2 dL 3 [mr1, mr2, mr3] 3 catL 3 3 0 0 3 1 3 1 0 [] 3) = exO (Xscan_movesOf_0b (3, [mr1, mr2, mr3], 0, 0, 3, 1, 3, 1, 0, [], 3)) := by
  refine Rscan_movesOf_0b_of _ _ _ _ _ _ _ _ _ _ _ _ _ _ _ _ _ ?_
  unfold Bscan_movesOf_0b
  rw [bif_neg (by decide)]
  rfl
theorem mo2 : Rscan_movesOf_0 (Tscan_movesOf_0b 2 dL 2 [mr1, mr2] 3 catL 3 2 0 0 3 1 3 1 0 [] 2) = exO (Xscan_movesOf_0b (3, [mr1, mr2, mr3], 0, 0, 3, 1, 3, 1, 0, [], 3)) := by
  refine Rscan_movesOf_0b_of _ _ _ _ _ _ _ _ _ _ _ _ _ _ _ _ _ ?_
  unfold Bscan_movesOf_0b
  have k := rb0 0 9 6 2 [mr1, mr2] 2 ex80_0_20_is ex81_0_20_is ex80_0_10_is ex81_0_10_is
  rw [bif_pos (by decide), bif_pos (by decide), show catL[Int.toNat 2 * 2]? = some (.int .i64 0) from rfl, show catL[Int.toNat 2 * 2 + 1]? = some (.int .i64 0) from rfl]
  simp only [intC_int, bindO_val]
  rw [bif_pos (by decide), rep_two, two_nat]
  have k : Lscan_movesOf_2 (Tscan_movesOf_2b 2 dL 2 [mr1, mr2] 2 3 catL 3 2 2 dL ((2 : Nat) : Int) 0 0 0 3 1 3 1 0 [] 0 0 [.int .i64 0, .bool false, .int .i64 0, .bool false] 2) = _ := k
  rw [k, bindO_val]
  simp only [Sum.elim_inr]
  rw [bif_pos (by decide), bif_pos (by decide), show w64 (2 + 1) = 3 from by decide]
  exact mo3
theorem mo1 : Rscan_movesOf_0 (Tscan_movesOf_0b 2 dL 1 [mr1] 3 catL 3 1 0 0 3 1 3 1 0 [] 1) = exO (Xscan_movesOf_0b (3, [mr1, mr2, mr3], 0, 0, 3, 1, 3, 1, 0, [], 3)) := by
  refine Rscan_movesOf_0b_of _ _ _ _ _ _ _ _ _ _ _ _ _ _ _ _ _ ?_
  unfold Bscan_movesOf_0b
  have k := rb0 10 6 0 1 [mr1] 1 ex80_10_20_is ex81_10_20_is ex80_10_10_is ex81_10_10_is
  rw [bif_pos (by decide), bif_pos (by decide), show catL[Int.toNat 1 * 2]? = some (.int .i64 10) from rfl, show catL[Int.toNat 1 * 2 + 1]? = some (.int .i64 0) from rfl]
  simp only [intC_int, bindO_val]
  rw [bif_pos (by decide), rep_two, two_nat]
  have k : Lscan_movesOf_2 (Tscan_movesOf_2b 2 dL 1 [mr1] 2 3 catL 3 1 2 dL ((2 : Nat) : Int) 0 0 0 3 1 3 1 0 [] 10 0 [.int .i64 0, .bool false, .int .i64 0, .bool false] 1) = _ := k
  rw [k, bindO_val]
  simp only [Sum.elim_inr]
  rw [bif_pos (by decide), bif_pos (by decide), show w64 (1 + 1) = 2 from by decide]
  exact mo2
theorem mo0 : Rscan_movesOf_0 (Tscan_movesOf_0a 2 dL 3 catL 3 0 0 3 1 3 1 0 []) = exO (Xscan_movesOf_0b (3, [mr1, mr2, mr3], 0, 0, 3, 1, 3, 1, 0, [], 3)) := by
  refine Rscan_movesOf_0a_of _ _ _ _ _ _ _ _ _ _ _ _ _ ?_
  unfold Bscan_movesOf_0a
  have k := ra0 20 0 6 ex80_20_20_is ex81_20_20_is ex80_20_10_is ex81_20_10_is
  rw [bif_pos (by decide), bif_pos (by decide), show catL[0]? = some (.int .i64 20) from rfl, show catL[1]? = some (.int .i64 0) from rfl]
  simp only [intC_int, bindO_val]
  rw [bif_pos (by decide), rep_two, two_nat]
  have k : Lscan_movesOf_2 (Tscan_movesOf_2a 2 dL 2 3 catL 3 2 dL ((2 : Nat) : Int) 0 0 0 3 1 3 1 0 [] 20 0 [.int .i64 0, .bool false, .int .i64 0, .bool false]) = _ := k
  rw [k, bindO_val]
  simp only [Sum.elim_inl]
  rw [bif_pos (by decide)]
  exact mo1
theorem ex90_is : Fscan_movesOf [hP, .list 2 dL] = some (3, [mr1, mr2, mr3]) := by
  refine Fscan_movesOf_of _ _ _ _ _ _ _ _ _ _ ?_
  unfold tscan_movesOf
  have h : Lscan_movesOf_0 (Tscan_movesOf_0a 2 dL 3 catL ((3 : Nat) : Int) 0 0 3 1 3 1 0 []) = _ := Lscan_movesOf_0b_of mo0
  simp only [cat_is, bindO_val, h, Sum.elim_inr]
  rw [bif_pos (by decide)]
end Gv

/- The best order of the document's two directions. -/
namespace Gv
open Go
set_option maxRecDepth 100000
def mvL : List PV := [PV.list 2 [PV.int .i64 0, PV.bool true, PV.int .i64 6, PV.bool true], PV.list 2 [PV.int .i64 6, PV.bool true, PV.int .i64 0, PV.bool true], PV.list 2 [PV.int .i64 9, PV.bool true, PV.int .i64 6, PV.bool true]]
def o01 : List PV := [.int .i64 0, .int .i64 1]
def o10 : List PV := [.int .i64 1, .int .i64 0]
def ordL : List PV := [.list 2 o01, .list 2 o10]
theorem orders_two : Fn env 115 (RSh.one CK.list) [PV.it [none] 0, PV.imm [PV.int .i64 2] 0] = some (2, ordL) := by
  have h : run env 115 (.it [none] 0 :: [PV.imm [PV.int .i64 2] 0]) = some (.val (.list 2 ordL)) := run_told (np := 2) (g := ordersG) rfl rfl (by kernel_rfl) (by decide) rfl
  unfold Fn
  rw [h]
  rfl
theorem along_a : Fn env 92 (RSh.agg [(CK.int IntKind.i64), CK.bool]) [.list 3 mvL, .list 2 o01] = some (15, true) := ex92a_is
theorem along_b : Fn env 92 (RSh.agg [(CK.int IntKind.i64), CK.bool]) [.list 3 mvL, .list 2 o10] = some (12, true) := ex92b_is
theorem or2 : Rscan_OrderOf_3000051 (Tscan_OrderOf_3000051b 2 ordL 2 0 0 3 1 3 1 0 [] 3 mvL 2 o10 12) = exO (Xscan_OrderOf_3000051b (0, 0, 3, 1, 3, 1, 0, [], 3, mvL, 2, o10, 12)) := by
  refine Rscan_OrderOf_3000051b_of _ _ _ _ _ _ _ _ _ _ _ _ _ _ _ _ ?_
  unfold Bscan_OrderOf_3000051b
  rw [bif_neg (by decide)]
  rfl
theorem or1 : Rscan_OrderOf_3000051 (Tscan_OrderOf_3000051b 2 ordL 1 0 0 3 1 3 1 0 [] 3 mvL 2 o01 15) = exO (Xscan_OrderOf_3000051b (0, 0, 3, 1, 3, 1, 0, [], 3, mvL, 2, o10, 12)) := by
  refine Rscan_OrderOf_3000051b_of _ _ _ _ _ _ _ _ _ _ _ _ _ _ _ _ ?_
  unfold Bscan_OrderOf_3000051b
  rw [bif_pos (by decide), bif_pos (by decide), show ordL[Int.toNat 1 * 1 + 0]? = some (.list 2 o10) from rfl, listC_list, bindO_val]
  simp only [along_b, bindO_val, cond_true]
  rw [bif_pos (by decide), bif_pos (by decide), show w64 (1 + 1) = 2 from by decide]
  exact or2
theorem or0 : Rscan_OrderOf_3000051 (Tscan_OrderOf_3000051a 2 ordL 0 0 0 3 1 3 1 0 [] 3 mvL) = exO (Xscan_OrderOf_3000051b (0, 0, 3, 1, 3, 1, 0, [], 3, mvL, 2, o10, 12)) := by
  refine Rscan_OrderOf_3000051a_of _ _ _ _ _ _ _ _ _ _ _ _ _ ?_
  unfold Bscan_OrderOf_3000051a
  rw [bif_pos (by decide), bif_pos (by decide), show ordL[Int.toNat 0 * 1 + 0]? = some (.list 2 o01) from rfl, listC_list, bindO_val]
  simp only [along_a, bindO_val, cond_true]
  rw [show w64 (0 + 1) = 1 from by decide]
  exact or1
theorem ex48_is : Fscan_OrderOf [PV.agg [PV.int .i64 0, PV.int .i64 0, PV.int .i64 3, PV.int .i64 1, PV.int .i64 3, PV.int .i64 1, PV.list 0 []], PV.list 2 [PV.int .i64 20, PV.int .i64 0, PV.int .i64 10, PV.int .i64 0]] = some ((2, o10), 12, 0) := by
  refine Fscan_OrderOf_of _ _ _ _ _ _ _ _ _ _ ?_
  unfold tscan_OrderOf
  simp only [ex75_is, ex89_is, firstError2_is, bindO_val]
  rw [show (both 0 0 != 0) = false from rfl, cond_false]
  have h90 : Fn env 90 (RSh.one CK.list) [PV.agg [PV.int .i64 0, PV.int .i64 0, PV.int .i64 3, PV.int .i64 1, PV.int .i64 3, PV.int .i64 1, PV.list 0 []], PV.list 2 [PV.int .i64 20, PV.int .i64 0, PV.int .i64 10, PV.int .i64 0]] = some (3, mvL) := ex90_is
  have h115 : Fn env 115 (RSh.one CK.list) [PV.it [none] 0, PV.imm [PV.int .i64 ((2 : Nat) : Int)] 0] = some (2, ordL) := orders_two
  have hL := Lscan_OrderOf_3000051b_of or0
  simp only [h90, h115, hL, bindO_val, Sum.elim_inr]
  rw [bif_pos (by decide)]
end Gv

/- The examples of the document hold. -/
namespace Gv
open Go
theorem awake_is : FL3_awake [] = some true := by
  refine FL3_awake_of ?_
  unfold tL3_awake
  have h58 : Fn env 58 (RSh.one CK.bool) [.list 2 o10, .list 2 [.int .i64 1, .int .i64 0]] = some true := ex58_is
  rw [ex15_is, bindO_val, ex45_is, bindO_val, ex57_is, bindO_val, ex46_is, bindO_val]
  simp only [ex48_is, h58, bindO_val, beq_self_eq_true, Bool.and_self, cond_true]
end Gv
