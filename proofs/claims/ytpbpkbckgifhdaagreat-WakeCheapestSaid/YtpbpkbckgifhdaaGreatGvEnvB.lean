/- The program's functions, as the abstract machine runs them. -/
import Derived.KernelRfl
import Derived.Test.YtpbpkbckgifhdaaGreatGvU
import Derived.Test.YtpbpkbckgifhdaaGreatProg
namespace Gv
open Go Go.Proofs
set_option maxRecDepth 100000

def a125 : AFn := (.mk 1 11 [(.tmp 2)] (sO [(oN 1 [(tA 0)] (.a 1 .box)), (mI 2 0)] (sO [(oN 3 [(tA 1)] (.l (.fadr 0))), (oN 4 [(tA 3)] (.ld [] 2 true)), (oN 5 [(kF 76), (tA 4)] kC), (oN 6 [(tA 1)] (.l (.fadr 2))), (mL 7 6), (oN 8 [(kF 84), (tA 7), (.k (.p (.int .i64 (-1000000000)))), (kI 1000000000)] kC), (oN 9 [(tA 5), (tA 8)] (.l (.bsl 2 1 [(.int .i64 0)] [0, 1]))), (oN 10 [(kF 53), (tA 9)] kC), (mV 2 10)] (.ret [2] [1]))) false)
def r125 : LN := []
def k125 : KK := [k0, kE, k0, kE, ([2], [1])]
def s125 : ShT := shOf [(4, [(.int .i64), (.int .i64)]), (7, [(.int .i64)])]
theorem e125 : fnC Tryz.prog r125 k125 Tryz.f125 = some a125 := by kernel_rfl
def a126 : AFn := (.mk 2 24 [(.tmp 4), (.tmp 5)] (sO [(mI 4 0), (mI 5 0)] (.seq (sO [(mV 9 0), (mN 10 9), (mI 11 0)] (.block 0 [] [7] (.loop [1, 9, 10, 11] [7] (sO [(oN 12 [(tA 11), (tA 10)] (kB .lss))] (.seq (.node 1000015 [1, 9, 10, 11, 12] [7] [1, 9, 10, 11] [7] (.cond (tA 12) .skip (.exit 0))) (.seq (nD 1000013 [1, 9, 10, 11] [7] (.block 1 [1, 9, 10, 11] [7] (sO [(mV 13 11), (oN 14 [(tA 9), (tA 11)] (kJ 2)), (oN 15 [(tA 14)] (.ld [] 2 true)), (oN 7 [] (.a 7 (.alloc [z0, z0]))), (mV 6 13), (.mk none none [(tA 7), (tA 15)] (.s (.store 2)))] (sO [(mV 16 1), (oN 17 [(tA 7)] (.ld [] 2 true)), (oN 18 [(tA 16), (tA 17)] kC), (mV 8 18)] (sO [(mV 19 8), (oN 20 [(tA 19), (kI 0)] (kB .neq))] (.cond (tA 20) (sO [(mV 21 6), (mV 22 8), (mV 4 21), (mV 5 22)] (.ret [4, 5] [7])) .skip)))))) (.ops [(oN 23 [(tA 11), (kI 1)] (kB .add)), (mV 11 23)]))))))) (sO [(mI 4 0), (mI 5 0)] (.ret [4, 5] [7])))) false)
def r126 : LN := []
def k126 : KK := [k0, kE, k0, kE, k0, kE, ([], [7]), ([1, 9, 10, 11], [7]), k0, kE, ([1, 9, 10, 11, 12], [7]), ([1, 9, 10, 11], [7]), ([1, 9, 10, 11], [7]), ([1, 9, 10, 11], [7]), ([1, 9, 10, 11], [7]), k0, kE, k0, kE, k0, kE, k0, kE, ([4, 5], [7]), k0, kE, ([4, 5], [7])]
def s126 : ShT := shOf [(15, [(.int .i64), (.int .i64)]), (17, [(.int .i64), (.int .i64)])]
theorem e126 : fnC Tryz.prog r126 k126 Tryz.f126 = some a126 := by kernel_rfl
def a127 : AFn := (.mk 3 17 [(.tmp 4)] (sO [(oN 3 [(tA 0)] (.a 3 .box)), (mI 4 0)] (sO [(oN 5 [(tA 3)] (.l (.fadr 0))), (mL 6 5), (mL 7 1), (mL 8 2), (oN 9 [(kF 84), (tA 6), (tA 7), (tA 8)] kC), (oN 10 [(tA 3)] (.l (.fadr 1))), (mL 11 10), (mL 12 1), (mL 13 2), (oN 14 [(kF 84), (tA 11), (tA 12), (tA 13)] kC), (oN 15 [(tA 9), (tA 14)] (.l (.bsl 2 1 [(.int .i64 0)] [0, 1]))), (oN 16 [(kF 53), (tA 15)] kC), (mV 4 16)] (.ret [4] [3]))) false)
def r127 : LN := []
def k127 : KK := [k0, kE, k0, kE, ([4], [3])]
def s127 : ShT := shOf [(6, [(.int .i64)]), (7, [(.int .i64)]), (8, [(.int .i64)]), (11, [(.int .i64)]), (12, [(.int .i64)]), (13, [(.int .i64)])]
theorem e127 : fnC Tryz.prog r127 k127 Tryz.f127 = some a127 := by kernel_rfl
def a128 : AFn := (.mk 1 9 [(.tmp 2)] (sO [(oN 1 [(tA 0)] (.a 1 .box)), (mI 2 0)] (sO [(oN 3 [(tA 1)] (.l (.fadr 0))), (mL 4 3), (oN 5 [(tA 1)] (.l (.fadr 1))), (mL 6 5), (oN 7 [(tA 4), (tA 6)] (kB .gtr)), (oN 8 [(kF 54), (tA 7), (kI 9)] kC), (mV 2 8)] (.ret [2] [1]))) false)
def r128 : LN := []
def k128 : KK := [k0, kE, k0, kE, ([2], [1])]
def s128 : ShT := shOf [(4, [(.int .i64)]), (6, [(.int .i64)])]
theorem e128 : fnC Tryz.prog r128 k128 Tryz.f128 = some a128 := by kernel_rfl
def a129 : AFn := (.mk 2 24 [(.tmp 4), (.tmp 5)] (sO [(mI 4 0), (mI 5 0)] (.seq (sO [(mV 9 0), (mN 10 9), (mI 11 0)] (.block 0 [] [] (.loop [1, 9, 10, 11] [] (sO [(oN 12 [(tA 11), (tA 10)] (kB .lss))] (.seq (.node 1000015 [1, 9, 10, 11, 12] [] [1, 9, 10, 11] [] (.cond (tA 12) .skip (.exit 0))) (.seq (nD 1000013 [1, 9, 10, 11] [] (.block 1 [1, 9, 10, 11] [] (sO [(mV 13 11), (oN 14 [(tA 9), (tA 11)] kA), (mL 15 14), (mV 6 13), (mV 7 15)] (sO [(mV 16 1), (mV 17 7), (oN 18 [(tA 16), (tA 17)] kC), (mV 8 18)] (sO [(mV 19 8), (oN 20 [(tA 19), (kI 0)] (kB .neq))] (.cond (tA 20) (sO [(mV 21 6), (mV 22 8), (mV 4 21), (mV 5 22)] (.ret [4, 5] [])) .skip)))))) (.ops [(oN 23 [(tA 11), (kI 1)] (kB .add)), (mV 11 23)]))))))) (sO [(mI 4 0), (mI 5 0)] (.ret [4, 5] [])))) false)
def r129 : LN := []
def k129 : KK := [k0, kE, k0, kE, k0, kE, k0, ([1, 9, 10, 11], []), k0, kE, ([1, 9, 10, 11, 12], []), ([1, 9, 10, 11], []), ([1, 9, 10, 11], []), ([1, 9, 10, 11], []), ([1, 9, 10, 11], []), k0, kE, k0, kE, k0, kE, k0, kE, ([4, 5], []), k0, kE, ([4, 5], [])]
def s129 : ShT := shOf [(15, [.list])]
theorem e129 : fnC Tryz.prog r129 k129 Tryz.f129 = some a129 := by kernel_rfl
def a130 : AFn := (.mk 2 24 [(.tmp 4), (.tmp 5)] (sO [(mI 4 0), (mI 5 0)] (.seq (sO [(mV 9 0), (mN 10 9), (mI 11 0)] (.block 0 [] [7] (.loop [1, 9, 10, 11] [7] (sO [(oN 12 [(tA 11), (tA 10)] (kB .lss))] (.seq (.node 1000015 [1, 9, 10, 11, 12] [7] [1, 9, 10, 11] [7] (.cond (tA 12) .skip (.exit 0))) (.seq (nD 1000013 [1, 9, 10, 11] [7] (.block 1 [1, 9, 10, 11] [7] (sO [(mV 13 11), (oN 14 [(tA 9), (tA 11)] (kJ 3)), (oN 15 [(tA 14)] (.ld [] 3 true)), (oN 7 [] (.a 7 (.alloc [z0, z0, z0]))), (mV 6 13), (.mk none none [(tA 7), (tA 15)] (.s (.store 3)))] (sO [(mV 16 1), (oN 17 [(tA 7)] (.ld [] 3 true)), (oN 18 [(tA 16), (tA 17)] kC), (mV 8 18)] (sO [(mV 19 8), (oN 20 [(tA 19), (kI 0)] (kB .neq))] (.cond (tA 20) (sO [(mV 21 6), (mV 22 8), (mV 4 21), (mV 5 22)] (.ret [4, 5] [7])) .skip)))))) (.ops [(oN 23 [(tA 11), (kI 1)] (kB .add)), (mV 11 23)]))))))) (sO [(mI 4 0), (mI 5 0)] (.ret [4, 5] [7])))) false)
def r130 : LN := []
def k130 : KK := [k0, kE, k0, kE, k0, kE, ([], [7]), ([1, 9, 10, 11], [7]), k0, kE, ([1, 9, 10, 11, 12], [7]), ([1, 9, 10, 11], [7]), ([1, 9, 10, 11], [7]), ([1, 9, 10, 11], [7]), ([1, 9, 10, 11], [7]), k0, kE, k0, kE, k0, kE, k0, kE, ([4, 5], [7]), k0, kE, ([4, 5], [7])]
def s130 : ShT := shOf [(15, [(.int .i64), (.int .i64), (.int .i64)]), (17, [(.int .i64), (.int .i64), (.int .i64)])]
theorem e130 : fnC Tryz.prog r130 k130 Tryz.f130 = some a130 := by kernel_rfl
end Gv
