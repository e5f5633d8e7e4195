import Derived.Test.YtnoifjomlmadkaaSH1

/- What the functions do, round by round: SM1. -/
namespace Gv
open Go
set_option maxRecDepth 100000

/-! ### scan_stepTowards -/

def Escan_stepTowards : List Entry := [.out 123 (RSh.one (CK.int IntKind.i64))]
theorem Escan_stepTowards_ok : ∀ e ∈ Escan_stepTowards, EntOK env e := (ent_out ent_nil)
theorem Uscan_stepTowards : uniq ((blocksOf a109.body).map (·.1)) = true := by kernel_rfl
def tscan_stepTowards (F : FnT) (p0_0 : Int) (p0_1 : Int) (p1_0 : Int) (p1_1 : Int) : Option ((Int) × (Int)) :=
  bindO (F 123 (RSh.one (CK.int IntKind.i64)) [(PV.int IntKind.i64 p0_0), (PV.int IntKind.i64 p1_0)]) fun (y0 : (Int)) =>
  bif (decide (y0 > (180 : Int))) then
    some ((Int.tmod (w64 ((w64 (p0_0 + (360 : Int))) - (1 : Int))) (360 : Int)), p0_1)
  else bif (decide (y0 > (0 : Int))) then
    some ((Int.tmod (w64 (p0_0 + (1 : Int))) (360 : Int)), p0_1)
  else bif (decide (p0_1 < p1_1)) then
    some (p0_0, (w64 (p0_1 + (1 : Int))))
  else some (p0_0, (w64 (p0_1 - (1 : Int))))
theorem tscan_stepTowards_eq (F : FnT) (p0_0 : Int) (p0_1 : Int) (p1_0 : Int) (p1_1 : Int) : semF (callP F Escan_stepTowards 20) s109 (loopT []) 400 a109 [PV.agg [PV.int IntKind.i64 p0_0, PV.int IntKind.i64 p0_1], PV.agg [PV.int IntKind.i64 p1_0, PV.int IntKind.i64 p1_1]] (fun rv => decR (RSh.agg [(CK.int IntKind.i64), (CK.int IntKind.i64)]) rv.pv) = tscan_stepTowards F p0_0 p0_1 p1_0 p1_1 := by kernel_rfl
noncomputable abbrev Fscan_stepTowards (args : List PV) := Fn env 109 (RSh.agg [(CK.int IntKind.i64), (CK.int IntKind.i64)]) args
theorem Fscan_stepTowards_of  (p0_0 : Int) (p0_1 : Int) (p1_0 : Int) (p1_1 : Int) {res : ((Int) × (Int))} (h : tscan_stepTowards (Fn env) p0_0 p0_1 p1_0 p1_1 = some res) : Fscan_stepTowards [PV.agg [PV.int IntKind.i64 p0_0, PV.int IntKind.i64 p0_1], PV.agg [PV.int IntKind.i64 p1_0, PV.int IntKind.i64 p1_1]] = some res :=
  fn_of Escan_stepTowards_ok rfl rfl lo_nil ((tscan_stepTowards_eq _ _ _ _ _).trans h)

/-! ### scan_distances -/

def Escan_distances : List Entry := [.out 123 (RSh.one (CK.int IntKind.i64))]
theorem Escan_distances_ok : ∀ e ∈ Escan_distances, EntOK env e := (ent_out ent_nil)
theorem Uscan_distances : uniq ((blocksOf a110.body).map (·.1)) = true := by kernel_rfl
def tscan_distances (F : FnT) (p0_0 : Int) (p0_1 : Int) (p1_0 : Int) (p1_1 : Int) : Option ((Int) × (Int)) :=
  bindO (F 123 (RSh.one (CK.int IntKind.i64)) [(PV.int IntKind.i64 p0_0), (PV.int IntKind.i64 p1_0)]) fun (y0 : (Int)) =>
  bindO (F 123 (RSh.one (CK.int IntKind.i64)) [(PV.int IntKind.i64 p1_0), (PV.int IntKind.i64 p0_0)]) fun (y1 : (Int)) =>
  some ((if (y1 < y0) then y1 else y0), (if ((w64 (p1_1 - p0_1)) > (w64 (p0_1 - p1_1))) then (w64 (p1_1 - p0_1)) else (w64 (p0_1 - p1_1))))
theorem tscan_distances_eq (F : FnT) (p0_0 : Int) (p0_1 : Int) (p1_0 : Int) (p1_1 : Int) : semF (callP F Escan_distances 20) s110 (loopT []) 400 a110 [PV.agg [PV.int IntKind.i64 p0_0, PV.int IntKind.i64 p0_1], PV.agg [PV.int IntKind.i64 p1_0, PV.int IntKind.i64 p1_1]] (fun rv => decR (RSh.tup [(Prod.mk false [(CK.int IntKind.i64)]), (Prod.mk false [(CK.int IntKind.i64)])]) rv.pv) = tscan_distances F p0_0 p0_1 p1_0 p1_1 := by kernel_rfl
noncomputable abbrev Fscan_distances (args : List PV) := Fn env 110 (RSh.tup [(Prod.mk false [(CK.int IntKind.i64)]), (Prod.mk false [(CK.int IntKind.i64)])]) args
theorem Fscan_distances_of  (p0_0 : Int) (p0_1 : Int) (p1_0 : Int) (p1_1 : Int) {res : ((Int) × (Int))} (h : tscan_distances (Fn env) p0_0 p0_1 p1_0 p1_1 = some res) : Fscan_distances [PV.agg [PV.int IntKind.i64 p0_0, PV.int IntKind.i64 p0_1], PV.agg [PV.int IntKind.i64 p1_0, PV.int IntKind.i64 p1_1]] = some res :=
  fn_of Escan_distances_ok rfl rfl lo_nil ((tscan_distances_eq _ _ _ _ _).trans h)

/-! ### scan_moveError -/

def Escan_moveError : List Entry := [.out 75 (RSh.one (CK.int IntKind.i64)), .out 71 (RSh.one (CK.int IntKind.i64)), .out 59 (RSh.one (CK.int IntKind.i64))]
theorem Escan_moveError_ok : ∀ e ∈ Escan_moveError, EntOK env e := (ent_out (ent_out (ent_out ent_nil)))
theorem Uscan_moveError : uniq ((blocksOf a79.body).map (·.1)) = true := by kernel_rfl
def tscan_moveError (F : FnT) (p0_0 : Int) (p0_1 : Int) (p0_2 : Int) (p0_3 : Int) (p0_4 : Int) (p0_5 : Int) (p0_6n : Nat) (p0_6c : List PV) (p1_0 : Int) (p1_1 : Int) (p2_0 : Int) (p2_1 : Int) : Option (Int) :=
  bindO (F 75 (RSh.one (CK.int IntKind.i64)) [(PV.agg [(PV.int IntKind.i64 p0_0), (PV.int IntKind.i64 p0_1), (PV.int IntKind.i64 p0_2), (PV.int IntKind.i64 p0_3), (PV.int IntKind.i64 p0_4), (PV.int IntKind.i64 p0_5), (PV.list p0_6n p0_6c)])]) fun (y0 : (Int)) =>
  bindO (F 71 (RSh.one (CK.int IntKind.i64)) [(PV.agg [(PV.int IntKind.i64 p1_0), (PV.int IntKind.i64 p1_1)])]) fun (y1 : (Int)) =>
  bindO (F 71 (RSh.one (CK.int IntKind.i64)) [(PV.agg [(PV.int IntKind.i64 p2_0), (PV.int IntKind.i64 p2_1)])]) fun (y2 : (Int)) =>
  bindO (F 59 (RSh.one (CK.int IntKind.i64)) [(PV.list 3 [(PV.int IntKind.i64 y0), (PV.int IntKind.i64 y1), (PV.int IntKind.i64 y2)])]) fun (y3 : (Int)) =>
  some y3
theorem tscan_moveError_eq (F : FnT) (p0_0 : Int) (p0_1 : Int) (p0_2 : Int) (p0_3 : Int) (p0_4 : Int) (p0_5 : Int) (p0_6n : Nat) (p0_6c : List PV) (p1_0 : Int) (p1_1 : Int) (p2_0 : Int) (p2_1 : Int) : semF (callP F Escan_moveError 20) s79 (loopT []) 400 a79 [PV.agg [PV.int IntKind.i64 p0_0, PV.int IntKind.i64 p0_1, PV.int IntKind.i64 p0_2, PV.int IntKind.i64 p0_3, PV.int IntKind.i64 p0_4, PV.int IntKind.i64 p0_5, PV.list p0_6n p0_6c], PV.agg [PV.int IntKind.i64 p1_0, PV.int IntKind.i64 p1_1], PV.agg [PV.int IntKind.i64 p2_0, PV.int IntKind.i64 p2_1]] (fun rv => decR (RSh.one (CK.int IntKind.i64)) rv.pv) = tscan_moveError F p0_0 p0_1 p0_2 p0_3 p0_4 p0_5 p0_6n p0_6c p1_0 p1_1 p2_0 p2_1 := by kernel_rfl
noncomputable abbrev Fscan_moveError (args : List PV) := Fn env 79 (RSh.one (CK.int IntKind.i64)) args
theorem Fscan_moveError_of  (p0_0 : Int) (p0_1 : Int) (p0_2 : Int) (p0_3 : Int) (p0_4 : Int) (p0_5 : Int) (p0_6n : Nat) (p0_6c : List PV) (p1_0 : Int) (p1_1 : Int) (p2_0 : Int) (p2_1 : Int) {res : (Int)} (h : tscan_moveError (Fn env) p0_0 p0_1 p0_2 p0_3 p0_4 p0_5 p0_6n p0_6c p1_0 p1_1 p2_0 p2_1 = some res) : Fscan_moveError [PV.agg [PV.int IntKind.i64 p0_0, PV.int IntKind.i64 p0_1, PV.int IntKind.i64 p0_2, PV.int IntKind.i64 p0_3, PV.int IntKind.i64 p0_4, PV.int IntKind.i64 p0_5, PV.list p0_6n p0_6c], PV.agg [PV.int IntKind.i64 p1_0, PV.int IntKind.i64 p1_1], PV.agg [PV.int IntKind.i64 p2_0, PV.int IntKind.i64 p2_1]] = some res :=
  fn_of Escan_moveError_ok rfl rfl lo_nil ((tscan_moveError_eq _ _ _ _ _ _ _ _ _ _ _ _ _).trans h)

/-! ### scan_moveTicks -/

def Escan_moveTicks : List Entry := [.out 110 (RSh.tup [(Prod.mk false [(CK.int IntKind.i64)]), (Prod.mk false [(CK.int IntKind.i64)])]), .out 62 (RSh.one (CK.int IntKind.i64))]
theorem Escan_moveTicks_ok : ∀ e ∈ Escan_moveTicks, EntOK env e := (ent_out (ent_out ent_nil))
theorem Uscan_moveTicks : uniq ((blocksOf a80.body).map (·.1)) = true := by kernel_rfl
def tscan_moveTicks (F : FnT) (p0_0 : Int) (p0_1 : Int) (p0_2 : Int) (p0_3 : Int) (p0_4 : Int) (p0_5 : Int) (p0_6n : Nat) (p0_6c : List PV) (p1_0 : Int) (p1_1 : Int) (p2_0 : Int) (p2_1 : Int) : Option (Int) :=
  bindO (F 110 (RSh.tup [(Prod.mk false [(CK.int IntKind.i64)]), (Prod.mk false [(CK.int IntKind.i64)])]) [(PV.agg [(PV.int IntKind.i64 p1_0), (PV.int IntKind.i64 p1_1)]), (PV.agg [(PV.int IntKind.i64 p2_0), (PV.int IntKind.i64 p2_1)])]) fun (y0 : ((Int) × (Int))) =>
  bindO (F 62 (RSh.one (CK.int IntKind.i64)) [(PV.agg [(PV.int IntKind.i64 p0_2), (PV.int IntKind.i64 p0_3)]), (PV.int IntKind.i64 y0.1)]) fun (y1 : (Int)) =>
  bindO (F 62 (RSh.one (CK.int IntKind.i64)) [(PV.agg [(PV.int IntKind.i64 p0_4), (PV.int IntKind.i64 p0_5)]), (PV.int IntKind.i64 y0.2)]) fun (y2 : (Int)) =>
  some (w64 (y1 + y2))
theorem tscan_moveTicks_eq (F : FnT) (p0_0 : Int) (p0_1 : Int) (p0_2 : Int) (p0_3 : Int) (p0_4 : Int) (p0_5 : Int) (p0_6n : Nat) (p0_6c : List PV) (p1_0 : Int) (p1_1 : Int) (p2_0 : Int) (p2_1 : Int) : semF (callP F Escan_moveTicks 20) s80 (loopT []) 400 a80 [PV.agg [PV.int IntKind.i64 p0_0, PV.int IntKind.i64 p0_1, PV.int IntKind.i64 p0_2, PV.int IntKind.i64 p0_3, PV.int IntKind.i64 p0_4, PV.int IntKind.i64 p0_5, PV.list p0_6n p0_6c], PV.agg [PV.int IntKind.i64 p1_0, PV.int IntKind.i64 p1_1], PV.agg [PV.int IntKind.i64 p2_0, PV.int IntKind.i64 p2_1]] (fun rv => decR (RSh.one (CK.int IntKind.i64)) rv.pv) = tscan_moveTicks F p0_0 p0_1 p0_2 p0_3 p0_4 p0_5 p0_6n p0_6c p1_0 p1_1 p2_0 p2_1 := by kernel_rfl
noncomputable abbrev Fscan_moveTicks (args : List PV) := Fn env 80 (RSh.one (CK.int IntKind.i64)) args
theorem Fscan_moveTicks_of  (p0_0 : Int) (p0_1 : Int) (p0_2 : Int) (p0_3 : Int) (p0_4 : Int) (p0_5 : Int) (p0_6n : Nat) (p0_6c : List PV) (p1_0 : Int) (p1_1 : Int) (p2_0 : Int) (p2_1 : Int) {res : (Int)} (h : tscan_moveTicks (Fn env) p0_0 p0_1 p0_2 p0_3 p0_4 p0_5 p0_6n p0_6c p1_0 p1_1 p2_0 p2_1 = some res) : Fscan_moveTicks [PV.agg [PV.int IntKind.i64 p0_0, PV.int IntKind.i64 p0_1, PV.int IntKind.i64 p0_2, PV.int IntKind.i64 p0_3, PV.int IntKind.i64 p0_4, PV.int IntKind.i64 p0_5, PV.list p0_6n p0_6c], PV.agg [PV.int IntKind.i64 p1_0, PV.int IntKind.i64 p1_1], PV.agg [PV.int IntKind.i64 p2_0, PV.int IntKind.i64 p2_1]] = some res :=
  fn_of Escan_moveTicks_ok rfl rfl lo_nil ((tscan_moveTicks_eq _ _ _ _ _ _ _ _ _ _ _ _ _).trans h)

/-! ### R3_Around -/

def ER3_Around : List Entry := [.out 42 (RSh.one (CK.int IntKind.i64))]
theorem ER3_Around_ok : ∀ e ∈ ER3_Around, EntOK env e := (ent_out ent_nil)
theorem UR3_Around : uniq ((blocksOf a82.body).map (·.1)) = true := by kernel_rfl
def tR3_Around (F : FnT) (p0 : Int) (p1 : Int) : Option (Int) :=
  bindO (F 42 (RSh.one (CK.int IntKind.i64)) [(PV.int IntKind.i64 (w64 (p1 - p0))), (PV.int IntKind.i64 (360 : Int))]) fun (y0 : (Int)) =>
  bif (decide ((w64 ((2 : Int) * y0)) > (360 : Int))) then
    some (w64 (y0 - (360 : Int)))
  else some y0
theorem tR3_Around_eq (F : FnT) (p0 : Int) (p1 : Int) : semF (callP F ER3_Around 20) s82 (loopT []) 400 a82 [PV.int IntKind.i64 p0, PV.int IntKind.i64 p1] (fun rv => decR (RSh.one (CK.int IntKind.i64)) rv.pv) = tR3_Around F p0 p1 := by kernel_rfl
noncomputable abbrev FR3_Around (args : List PV) := Fn env 82 (RSh.one (CK.int IntKind.i64)) args
theorem FR3_Around_of  (p0 : Int) (p1 : Int) {res : (Int)} (h : tR3_Around (Fn env) p0 p1 = some res) : FR3_Around [PV.int IntKind.i64 p0, PV.int IntKind.i64 p1] = some res :=
  fn_of ER3_Around_ok rfl rfl lo_nil ((tR3_Around_eq _ _ _).trans h)

/-! ### B0_Size -/

def EB0_Size : List Entry := []
theorem EB0_Size_ok : ∀ e ∈ EB0_Size, EntOK env e := ent_nil
theorem UB0_Size : uniq ((blocksOf a83.body).map (·.1)) = true := by kernel_rfl
def tB0_Size (F : FnT) (p0 : Int) : Option (Int) :=
  some (if ((w64 ((0 : Int) - p0)) > p0) then (w64 ((0 : Int) - p0)) else p0)
theorem tB0_Size_eq (F : FnT) (p0 : Int) : semF (callP F EB0_Size 20) s83 (loopT []) 400 a83 [PV.int IntKind.i64 p0] (fun rv => decR (RSh.one (CK.int IntKind.i64)) rv.pv) = tB0_Size F p0 := by kernel_rfl
noncomputable abbrev FB0_Size (args : List PV) := Fn env 83 (RSh.one (CK.int IntKind.i64)) args
theorem FB0_Size_of  (p0 : Int) {res : (Int)} (h : tB0_Size (Fn env) p0 = some res) : FB0_Size [PV.int IntKind.i64 p0] = some res :=
  fn_of EB0_Size_ok rfl rfl lo_nil ((tB0_Size_eq _ _).trans h)

/-! ### R3_HeadErr -/

def ER3_HeadErr : List Entry := [.out 31 (RSh.tup [(Prod.mk false [(CK.int IntKind.i64)]), (Prod.mk false [(CK.int IntKind.i64)])])]
theorem ER3_HeadErr_ok : ∀ e ∈ ER3_HeadErr, EntOK env e := (ent_out ent_nil)
theorem UR3_HeadErr : uniq ((blocksOf a39.body).map (·.1)) = true := by kernel_rfl
def tR3_HeadErr (F : FnT) (p0_0 : Int) (p0_1 : Int) (p0_2 : Int) (p0_3 : Int) (p0_4 : Int) (p0_5 : Int) (p0_6n : Nat) (p0_6c : List PV) : Option (Int) :=
  bindO (F 31 (RSh.tup [(Prod.mk false [(CK.int IntKind.i64)]), (Prod.mk false [(CK.int IntKind.i64)])]) [(PV.agg [(PV.int IntKind.i64 p0_0), (PV.int IntKind.i64 p0_1), (PV.int IntKind.i64 p0_2), (PV.int IntKind.i64 p0_3), (PV.int IntKind.i64 p0_4), (PV.int IntKind.i64 p0_5), (PV.list p0_6n p0_6c)])]) fun (y0 : ((Int) × (Int))) =>
  some y0.2
theorem tR3_HeadErr_eq (F : FnT) (p0_0 : Int) (p0_1 : Int) (p0_2 : Int) (p0_3 : Int) (p0_4 : Int) (p0_5 : Int) (p0_6n : Nat) (p0_6c : List PV) : semF (callP F ER3_HeadErr 20) s39 (loopT []) 400 a39 [PV.agg [PV.int IntKind.i64 p0_0, PV.int IntKind.i64 p0_1, PV.int IntKind.i64 p0_2, PV.int IntKind.i64 p0_3, PV.int IntKind.i64 p0_4, PV.int IntKind.i64 p0_5, PV.list p0_6n p0_6c]] (fun rv => decR (RSh.one (CK.int IntKind.i64)) rv.pv) = tR3_HeadErr F p0_0 p0_1 p0_2 p0_3 p0_4 p0_5 p0_6n p0_6c := by kernel_rfl
noncomputable abbrev FR3_HeadErr (args : List PV) := Fn env 39 (RSh.one (CK.int IntKind.i64)) args
theorem FR3_HeadErr_of  (p0_0 : Int) (p0_1 : Int) (p0_2 : Int) (p0_3 : Int) (p0_4 : Int) (p0_5 : Int) (p0_6n : Nat) (p0_6c : List PV) {res : (Int)} (h : tR3_HeadErr (Fn env) p0_0 p0_1 p0_2 p0_3 p0_4 p0_5 p0_6n p0_6c = some res) : FR3_HeadErr [PV.agg [PV.int IntKind.i64 p0_0, PV.int IntKind.i64 p0_1, PV.int IntKind.i64 p0_2, PV.int IntKind.i64 p0_3, PV.int IntKind.i64 p0_4, PV.int IntKind.i64 p0_5, PV.list p0_6n p0_6c]] = some res :=
  fn_of ER3_HeadErr_ok rfl rfl lo_nil ((tR3_HeadErr_eq _ _ _ _ _ _ _ _ _).trans h)

/-! ### R3_Move -/

def ER3_Move : List Entry := [.out 82 (RSh.one (CK.int IntKind.i64)), .out 83 (RSh.one (CK.int IntKind.i64)), .out 19 (RSh.one (CK.int IntKind.i64))]
theorem ER3_Move_ok : ∀ e ∈ ER3_Move, EntOK env e := (ent_out (ent_out (ent_out ent_nil)))
theorem UR3_Move : uniq ((blocksOf a40.body).map (·.1)) = true := by kernel_rfl
def tR3_Move (F : FnT) (p0_0 : Int) (p0_1 : Int) (p0_2 : Int) (p0_3 : Int) (p0_4 : Int) (p0_5 : Int) (p0_6n : Nat) (p0_6c : List PV) (p1_0 : Int) (p1_1 : Int) (p2_0 : Int) (p2_1 : Int) : Option (Int) :=
  bindO (F 82 (RSh.one (CK.int IntKind.i64)) [(PV.int IntKind.i64 p1_0), (PV.int IntKind.i64 p2_0)]) fun (y0 : (Int)) =>
  bindO (F 83 (RSh.one (CK.int IntKind.i64)) [(PV.int IntKind.i64 y0)]) fun (y1 : (Int)) =>
  bindO (F 19 (RSh.one (CK.int IntKind.i64)) [(PV.agg [(PV.int IntKind.i64 p0_2), (PV.int IntKind.i64 p0_3)]), (PV.int IntKind.i64 y1)]) fun (y2 : (Int)) =>
  bindO (F 83 (RSh.one (CK.int IntKind.i64)) [(PV.int IntKind.i64 (w64 (p2_1 - p1_1)))]) fun (y3 : (Int)) =>
  bindO (F 19 (RSh.one (CK.int IntKind.i64)) [(PV.agg [(PV.int IntKind.i64 p0_4), (PV.int IntKind.i64 p0_5)]), (PV.int IntKind.i64 y3)]) fun (y4 : (Int)) =>
  some (w64 (y2 + y4))
theorem tR3_Move_eq (F : FnT) (p0_0 : Int) (p0_1 : Int) (p0_2 : Int) (p0_3 : Int) (p0_4 : Int) (p0_5 : Int) (p0_6n : Nat) (p0_6c : List PV) (p1_0 : Int) (p1_1 : Int) (p2_0 : Int) (p2_1 : Int) : semF (callP F ER3_Move 20) s40 (loopT []) 400 a40 [PV.agg [PV.int IntKind.i64 p0_0, PV.int IntKind.i64 p0_1, PV.int IntKind.i64 p0_2, PV.int IntKind.i64 p0_3, PV.int IntKind.i64 p0_4, PV.int IntKind.i64 p0_5, PV.list p0_6n p0_6c], PV.agg [PV.int IntKind.i64 p1_0, PV.int IntKind.i64 p1_1], PV.agg [PV.int IntKind.i64 p2_0, PV.int IntKind.i64 p2_1]] (fun rv => decR (RSh.one (CK.int IntKind.i64)) rv.pv) = tR3_Move F p0_0 p0_1 p0_2 p0_3 p0_4 p0_5 p0_6n p0_6c p1_0 p1_1 p2_0 p2_1 := by kernel_rfl
noncomputable abbrev FR3_Move (args : List PV) := Fn env 40 (RSh.one (CK.int IntKind.i64)) args
theorem FR3_Move_of  (p0_0 : Int) (p0_1 : Int) (p0_2 : Int) (p0_3 : Int) (p0_4 : Int) (p0_5 : Int) (p0_6n : Nat) (p0_6c : List PV) (p1_0 : Int) (p1_1 : Int) (p2_0 : Int) (p2_1 : Int) {res : (Int)} (h : tR3_Move (Fn env) p0_0 p0_1 p0_2 p0_3 p0_4 p0_5 p0_6n p0_6c p1_0 p1_1 p2_0 p2_1 = some res) : FR3_Move [PV.agg [PV.int IntKind.i64 p0_0, PV.int IntKind.i64 p0_1, PV.int IntKind.i64 p0_2, PV.int IntKind.i64 p0_3, PV.int IntKind.i64 p0_4, PV.int IntKind.i64 p0_5, PV.list p0_6n p0_6c], PV.agg [PV.int IntKind.i64 p1_0, PV.int IntKind.i64 p1_1], PV.agg [PV.int IntKind.i64 p2_0, PV.int IntKind.i64 p2_1]] = some res :=
  fn_of ER3_Move_ok rfl rfl lo_nil ((tR3_Move_eq _ _ _ _ _ _ _ _ _ _ _ _ _).trans h)

/-! ### scan_MoveTicks -/

def Escan_MoveTicks : List Entry := [.out 79 (RSh.one (CK.int IntKind.i64)), .out 80 (RSh.one (CK.int IntKind.i64))]
theorem Escan_MoveTicks_ok : ∀ e ∈ Escan_MoveTicks, EntOK env e := (ent_out (ent_out ent_nil))
theorem Uscan_MoveTicks : uniq ((blocksOf a35.body).map (·.1)) = true := by kernel_rfl
def tscan_MoveTicks (F : FnT) (p0_0 : Int) (p0_1 : Int) (p0_2 : Int) (p0_3 : Int) (p0_4 : Int) (p0_5 : Int) (p0_6n : Nat) (p0_6c : List PV) (p1_0 : Int) (p1_1 : Int) (p2_0 : Int) (p2_1 : Int) : Option ((Int) × (Int)) :=
  bindO (F 79 (RSh.one (CK.int IntKind.i64)) [(PV.agg [(PV.int IntKind.i64 p0_0), (PV.int IntKind.i64 p0_1), (PV.int IntKind.i64 p0_2), (PV.int IntKind.i64 p0_3), (PV.int IntKind.i64 p0_4), (PV.int IntKind.i64 p0_5), (PV.list p0_6n p0_6c)]), (PV.agg [(PV.int IntKind.i64 p1_0), (PV.int IntKind.i64 p1_1)]), (PV.agg [(PV.int IntKind.i64 p2_0), (PV.int IntKind.i64 p2_1)])]) fun (y0 : (Int)) =>
  bif (y0 != (0 : Int)) then
    some ((0 : Int), y0)
  else bindO (F 80 (RSh.one (CK.int IntKind.i64)) [(PV.agg [(PV.int IntKind.i64 p0_0), (PV.int IntKind.i64 p0_1), (PV.int IntKind.i64 p0_2), (PV.int IntKind.i64 p0_3), (PV.int IntKind.i64 p0_4), (PV.int IntKind.i64 p0_5), (PV.list p0_6n p0_6c)]), (PV.agg [(PV.int IntKind.i64 p1_0), (PV.int IntKind.i64 p1_1)]), (PV.agg [(PV.int IntKind.i64 p2_0), (PV.int IntKind.i64 p2_1)])]) fun (y1 : (Int)) =>
  some (y1, (0 : Int))
theorem tscan_MoveTicks_eq (F : FnT) (p0_0 : Int) (p0_1 : Int) (p0_2 : Int) (p0_3 : Int) (p0_4 : Int) (p0_5 : Int) (p0_6n : Nat) (p0_6c : List PV) (p1_0 : Int) (p1_1 : Int) (p2_0 : Int) (p2_1 : Int) : semF (callP F Escan_MoveTicks 20) s35 (loopT []) 400 a35 [PV.agg [PV.int IntKind.i64 p0_0, PV.int IntKind.i64 p0_1, PV.int IntKind.i64 p0_2, PV.int IntKind.i64 p0_3, PV.int IntKind.i64 p0_4, PV.int IntKind.i64 p0_5, PV.list p0_6n p0_6c], PV.agg [PV.int IntKind.i64 p1_0, PV.int IntKind.i64 p1_1], PV.agg [PV.int IntKind.i64 p2_0, PV.int IntKind.i64 p2_1]] (fun rv => decR (RSh.tup [(Prod.mk false [(CK.int IntKind.i64)]), (Prod.mk false [(CK.int IntKind.i64)])]) rv.pv) = tscan_MoveTicks F p0_0 p0_1 p0_2 p0_3 p0_4 p0_5 p0_6n p0_6c p1_0 p1_1 p2_0 p2_1 := by kernel_rfl
noncomputable abbrev Fscan_MoveTicks (args : List PV) := Fn env 35 (RSh.tup [(Prod.mk false [(CK.int IntKind.i64)]), (Prod.mk false [(CK.int IntKind.i64)])]) args
theorem Fscan_MoveTicks_of  (p0_0 : Int) (p0_1 : Int) (p0_2 : Int) (p0_3 : Int) (p0_4 : Int) (p0_5 : Int) (p0_6n : Nat) (p0_6c : List PV) (p1_0 : Int) (p1_1 : Int) (p2_0 : Int) (p2_1 : Int) {res : ((Int) × (Int))} (h : tscan_MoveTicks (Fn env) p0_0 p0_1 p0_2 p0_3 p0_4 p0_5 p0_6n p0_6c p1_0 p1_1 p2_0 p2_1 = some res) : Fscan_MoveTicks [PV.agg [PV.int IntKind.i64 p0_0, PV.int IntKind.i64 p0_1, PV.int IntKind.i64 p0_2, PV.int IntKind.i64 p0_3, PV.int IntKind.i64 p0_4, PV.int IntKind.i64 p0_5, PV.list p0_6n p0_6c], PV.agg [PV.int IntKind.i64 p1_0, PV.int IntKind.i64 p1_1], PV.agg [PV.int IntKind.i64 p2_0, PV.int IntKind.i64 p2_1]] = some res :=
  fn_of Escan_MoveTicks_ok rfl rfl lo_nil ((tscan_MoveTicks_eq _ _ _ _ _ _ _ _ _ _ _ _ _).trans h)

end Gv

/- What the functions do, round by round: SM2. -/
namespace Gv
open Go
set_option maxRecDepth 100000

/-! ### scan_wayOf_1 -/

def Escan_wayOf_1 : List Entry := [.out 109 (RSh.agg [(CK.int IntKind.i64), (CK.int IntKind.i64)])]
theorem Escan_wayOf_1_ok : ∀ e ∈ Escan_wayOf_1, EntOK env e := (ent_out ent_nil)
def Tscan_wayOf_1_0a (i0 : Int) (i1 : Int) (c2 : List (Option Nat)) (n3 : Nat) (n4 : Nat) (c5 : List PV) (i6 : Int) (i7 : Int) : Q := ⟨(tm 17 [(0, AV.yv), (2, (AV.p (PV.imm [(PV.int IntKind.i64 i0), (PV.int IntKind.i64 i1)] 0))), (4, (AV.loc 4 0))]), (mm 17 [(0, (Bk.log c2 n3 n4 c5)), (4, (Bk.pcs true [(PV.int IntKind.i64 i6), (PV.int IntKind.i64 i7)]))])⟩
def Xscan_wayOf_1_0a (y : List (Option Nat) × Nat × Nat × List PV × Int × Int) : Ext × Q := (Ext.normal, ⟨(tm 17 []), (mm 17 [(0, (Bk.log y.1 y.2.1 y.2.2.1 y.2.2.2.1)), (4, (Bk.pcs true [(PV.int IntKind.i64 y.2.2.2.2.1), (PV.int IntKind.i64 y.2.2.2.2.2)]))])⟩)
def Iscan_wayOf_1_0a (q : Ext × S) : List (Option Nat) × Nat × Nat × List PV × Int × Int := ((pB_log0 (avM q.2 0)), (pB_log1 (avM q.2 0)), (pB_log2 (avM q.2 0)), (pB_log3 (avM q.2 0)), (pP_int1 (hdP (pB_pcs1 (avM q.2 4)))), (pP_int1 (hdP (List.tail (pB_pcs1 (avM q.2 4))))))
abbrev Yscan_wayOf_1_0 : Type := List (Option Nat) × Nat × Nat × List PV × Int × Int
def XLscan_wayOf_1_0 : XL Yscan_wayOf_1_0 := .one Xscan_wayOf_1_0a
def Iscan_wayOf_1_0 (q : Ext × S) : Yscan_wayOf_1_0 := (Iscan_wayOf_1_0a q)
theorem XIscan_wayOf_1_0a (y : List (Option Nat) × Nat × Nat × List PV × Int × Int) : Iscan_wayOf_1_0 (xe (Xscan_wayOf_1_0a y)) = y := rfl
theorem XIscan_wayOf_1_0 (y : Yscan_wayOf_1_0) : Iscan_wayOf_1_0 (xe (XLscan_wayOf_1_0.fn y)) = y := XIscan_wayOf_1_0a y
noncomputable abbrev Lscan_wayOf_1_0 : Q → Option Yscan_wayOf_1_0 := lpO env a108.body 0 XLscan_wayOf_1_0
noncomputable abbrev Rscan_wayOf_1_0 : Q → Option (Ext × S) := lpR env a108.body 0
theorem Lscan_wayOf_1_0a_of {s : Q} {y : List (Option Nat) × Nat × Nat × List PV × Int × Int} (h : Rscan_wayOf_1_0 s = exO (Xscan_wayOf_1_0a y)) : Lscan_wayOf_1_0 s = some y := lpO_of Iscan_wayOf_1_0 XIscan_wayOf_1_0 (y := y) h
theorem Uscan_wayOf_1 : uniq ((blocksOf a108.body).map (·.1)) = true := by kernel_rfl
def Bscan_wayOf_1_0a (F : FnT) (N : Q → Option (Ext × S)) (E : Ext × Q → Option (Ext × S)) (L0 : Q → Option Yscan_wayOf_1_0) (i0 : Int) (i1 : Int) (c2 : List (Option Nat)) (n3 : Nat) (n4 : Nat) (c5 : List PV) (i6 : Int) (i7 : Int) : Option (Ext × S) :=
  bif (decide (n4 ≤ n3)) then
    bif (Gv.shapeOK c2 [(PV.agg [(PV.int IntKind.i64 i6), (PV.int IntKind.i64 i7)])]) then
      bif (n4 != n3) then
        bif (!((i6 == i0) && ((i7 == i1) && true))) then
          bindO (F 109 (RSh.agg [(CK.int IntKind.i64), (CK.int IntKind.i64)]) [(PV.agg [(PV.int IntKind.i64 i6), (PV.int IntKind.i64 i7)]), (PV.agg [(PV.int IntKind.i64 i0), (PV.int IntKind.i64 i1)])]) fun (y0 : ((Int) × (Int))) =>
          N (Tscan_wayOf_1_0a i0 i1 c2 n3 (n4 + 1) (c5 ++ [(PV.int IntKind.i64 i6), (PV.int IntKind.i64 i7)]) y0.1 y0.2)
        else E (Xscan_wayOf_1_0a (c2, n3, (n4 + 1), (c5 ++ [(PV.int IntKind.i64 i6), (PV.int IntKind.i64 i7)]), i6, i7))
      else E (Xscan_wayOf_1_0a (c2, n3, (n4 + 1), (c5 ++ [(PV.int IntKind.i64 i6), (PV.int IntKind.i64 i7)]), i6, i7))
    else none
  else none
theorem Bscan_wayOf_1_0a_eq (F : FnT) (N : Q → Option (Ext × S)) (E : Ext × Q → Option (Ext × S)) (L0 : Q → Option Yscan_wayOf_1_0) (i0 : Int) (i1 : Int) (c2 : List (Option Nat)) (n3 : Nat) (n4 : Nat) (c5 : List PV) (i6 : Int) (i7 : Int) : semB (callP F Escan_wayOf_1 20) s108 (loopT [⟨0, Yscan_wayOf_1_0, L0, XLscan_wayOf_1_0⟩]) 400 (blkIn a108.body 0) N E (Tscan_wayOf_1_0a i0 i1 c2 n3 n4 c5 i6 i7) = Bscan_wayOf_1_0a F N E L0 i0 i1 c2 n3 n4 c5 i6 i7 := by kernel_rfl
theorem Rscan_wayOf_1_0a_of  (i0 : Int) (i1 : Int) (c2 : List (Option Nat)) (n3 : Nat) (n4 : Nat) (c5 : List PV) (i6 : Int) (i7 : Int) {r : Ext × S} (h : Bscan_wayOf_1_0a (Fn env) Rscan_wayOf_1_0 exO Lscan_wayOf_1_0 i0 i1 c2 n3 n4 c5 i6 i7 = some r) : Rscan_wayOf_1_0 (Tscan_wayOf_1_0a i0 i1 c2 n3 n4 c5 i6 i7) = some r :=
  lp_of Escan_wayOf_1_ok (by kernel_rfl) (lo_cons (lpO_ok Uscan_wayOf_1) lo_nil) (by kernel_rfl) ((Bscan_wayOf_1_0a_eq _ _ _ _ _ _ _ _ _ _ _ _).trans h)
def tscan_wayOf_1 (F : FnT) (L0 : Q → Option Yscan_wayOf_1_0)(k : Nat) (a b c d : Int) : Option ((Nat) × (List PV)) :=
  bindO (L0 (Tscan_wayOf_1_0a c d [(Option.some 2)] k 0 [] a b)) fun y0 =>
  some (y0.2.2.1, y0.2.2.2.1)
theorem tscan_wayOf_1_eq (F : FnT) (L0 : Q → Option Yscan_wayOf_1_0)(k : Nat) (a b c d : Int) : semF (callP F Escan_wayOf_1 20) s108 (loopT [⟨0, Yscan_wayOf_1_0, L0, XLscan_wayOf_1_0⟩]) 400 a108 [.it [some 2] (k + 1), .imm [.int .i64 a, .int .i64 b] 0, .imm [.int .i64 c, .int .i64 d] 0] (fun rv => decR (RSh.one CK.list) rv.pv) = tscan_wayOf_1 F L0 k a b c d := by kernel_rfl
noncomputable abbrev Fscan_wayOf_1 (args : List PV) := Fn env 108 (RSh.one CK.list) args
theorem Fscan_wayOf_1_of (k : Nat) (a b c d : Int) {res : ((Nat) × (List PV))} (h : tscan_wayOf_1 (Fn env) Lscan_wayOf_1_0 k a b c d = some res) : Fscan_wayOf_1 [.it [some 2] (k + 1), .imm [.int .i64 a, .int .i64 b] 0, .imm [.int .i64 c, .int .i64 d] 0] = some res :=
  fn_of Escan_wayOf_1_ok rfl rfl (lo_cons (lpO_ok Uscan_wayOf_1) lo_nil) ((tscan_wayOf_1_eq _ _ _ _ _ _ _).trans h)

/-! ### appendSeq_way -/

def EappendSeq_way : List Entry := [.out 108 (RSh.one CK.list)]
theorem EappendSeq_way_ok : ∀ e ∈ EappendSeq_way, EntOK env e := (ent_out ent_nil)
def TappendSeq_way_3000013a (n0 : Nat) (c1 : List PV) : Q := ⟨(tm 37 [(2, (AV.loc 2 0)), (13, (AV.p (PV.list n0 c1))), (14, (AV.p (PV.int IntKind.i64 (0 : Int))))]), (mm 37 [(2, (Bk.cells true [(AV.p PV.nilL)]))])⟩
def TappendSeq_way_3000013b (n0 : Nat) (c1 : List PV) (i2 : Int) (n3 : Nat) (c4 : List PV) (n5 : Nat) : Q := ⟨(tm 37 [(2, (AV.loc 2 0)), (13, (AV.p (PV.list n0 c1))), (14, (AV.p (PV.int IntKind.i64 i2)))]), (mm 37 [(2, (Bk.cells true [(AV.app 11 n3 2 c4)])), (11, (Bk.buf n5))])⟩
def XappendSeq_way_3000013a (y : Unit) : Ext × Q := (Ext.normal, ⟨(tm 37 [(2, (AV.loc 2 0))]), (mm 37 [(2, (Bk.cells true [(AV.p PV.nilL)]))])⟩)
def IappendSeq_way_3000013a (q : Ext × S) : Unit := ()
def XappendSeq_way_3000013b (y : Nat × List PV × Nat) : Ext × Q := (Ext.normal, ⟨(tm 37 [(2, (AV.loc 2 0))]), (mm 37 [(2, (Bk.cells true [(AV.app 11 y.1 2 y.2.1)])), (11, (Bk.buf y.2.2))])⟩)
def IappendSeq_way_3000013b (q : Ext × S) : Nat × List PV × Nat := ((pA_app1 (hdA (pB_cells1 (avM q.2 2)))), (pA_app3 (hdA (pB_cells1 (avM q.2 2)))), (pB_buf0 (avM q.2 11)))
abbrev YappendSeq_way_3000013 : Type := (Unit) ⊕ ((Nat × List PV × Nat))
def XLappendSeq_way_3000013 : XL YappendSeq_way_3000013 := .more XappendSeq_way_3000013a (.one XappendSeq_way_3000013b)
def IappendSeq_way_3000013 (q : Ext × S) : YappendSeq_way_3000013 := bif (cA (hdA (pB_cells1 (avM q.2 2))) == 0) then (Sum.inl (IappendSeq_way_3000013a q)) else (Sum.inr (IappendSeq_way_3000013b q))
theorem XIappendSeq_way_3000013a (y : Unit) : IappendSeq_way_3000013 (xe (XappendSeq_way_3000013a y)) = (Sum.inl y) := rfl
theorem XIappendSeq_way_3000013b (y : Nat × List PV × Nat) : IappendSeq_way_3000013 (xe (XappendSeq_way_3000013b y)) = (Sum.inr y) := rfl
theorem XIappendSeq_way_3000013 (y : YappendSeq_way_3000013) : IappendSeq_way_3000013 (xe (XLappendSeq_way_3000013.fn y)) = y := (match y with | .inl y => XIappendSeq_way_3000013a y | .inr y => XIappendSeq_way_3000013b y)
noncomputable abbrev LappendSeq_way_3000013 : Q → Option YappendSeq_way_3000013 := lpO env a107.body 3000013 XLappendSeq_way_3000013
noncomputable abbrev RappendSeq_way_3000013 : Q → Option (Ext × S) := lpR env a107.body 3000013
theorem LappendSeq_way_3000013a_of {s : Q} {y : Unit} (h : RappendSeq_way_3000013 s = exO (XappendSeq_way_3000013a y)) : LappendSeq_way_3000013 s = some (Sum.inl y) := lpO_of IappendSeq_way_3000013 XIappendSeq_way_3000013 (y := (Sum.inl y)) h
theorem LappendSeq_way_3000013b_of {s : Q} {y : Nat × List PV × Nat} (h : RappendSeq_way_3000013 s = exO (XappendSeq_way_3000013b y)) : LappendSeq_way_3000013 s = some (Sum.inr y) := lpO_of IappendSeq_way_3000013 XIappendSeq_way_3000013 (y := (Sum.inr y)) h
theorem UappendSeq_way : uniq ((blocksOf a107.body).map (·.1)) = true := by kernel_rfl
def BappendSeq_way_3000013a (F : FnT) (N : Q → Option (Ext × S)) (E : Ext × Q → Option (Ext × S)) (L3000013 : Q → Option YappendSeq_way_3000013) (n0 : Nat) (c1 : List PV) : Option (Ext × S) :=
  bif (decide ((0 : Int) < (n0 : Int))) then
    bif (decide (((0 : Int) ≤ (0 : Int)) ∧ ((0 : Int) < (n0 : Int)))) then
      bindO (intC IntKind.i64 (c1[0]?)) fun x0 =>
      bindO (intC IntKind.i64 (c1[1]?)) fun x1 =>
      N (TappendSeq_way_3000013b n0 c1 (1 : Int) 1 [(PV.int IntKind.i64 x0), (PV.int IntKind.i64 x1)] 1)
    else none
  else E (XappendSeq_way_3000013a ())
theorem BappendSeq_way_3000013a_eq (F : FnT) (N : Q → Option (Ext × S)) (E : Ext × Q → Option (Ext × S)) (L3000013 : Q → Option YappendSeq_way_3000013) (n0 : Nat) (c1 : List PV) : semB (callP F EappendSeq_way 20) s107 (loopT [⟨3000013, YappendSeq_way_3000013, L3000013, XLappendSeq_way_3000013⟩]) 400 (blkIn a107.body 3000013) N E (TappendSeq_way_3000013a n0 c1) = BappendSeq_way_3000013a F N E L3000013 n0 c1 := by kernel_rfl
theorem RappendSeq_way_3000013a_of  (n0 : Nat) (c1 : List PV) {r : Ext × S} (h : BappendSeq_way_3000013a (Fn env) RappendSeq_way_3000013 exO LappendSeq_way_3000013 n0 c1 = some r) : RappendSeq_way_3000013 (TappendSeq_way_3000013a n0 c1) = some r :=
  lp_of EappendSeq_way_ok (by kernel_rfl) (lo_cons (lpO_ok UappendSeq_way) lo_nil) (by kernel_rfl) ((BappendSeq_way_3000013a_eq _ _ _ _ _ _).trans h)
def BappendSeq_way_3000013b (F : FnT) (N : Q → Option (Ext × S)) (E : Ext × Q → Option (Ext × S)) (L3000013 : Q → Option YappendSeq_way_3000013) (n0 : Nat) (c1 : List PV) (i2 : Int) (n3 : Nat) (c4 : List PV) (n5 : Nat) : Option (Ext × S) :=
  bif (decide (i2 < (n0 : Int))) then
    bif (decide (((0 : Int) ≤ i2) ∧ (i2 < (n0 : Int)))) then
      bindO (intC IntKind.i64 (c1[(((Int.toNat i2) * 2) + 0)]?)) fun x0 =>
      bindO (intC IntKind.i64 (c1[((((Int.toNat i2) * 2) + 0) + 1)]?)) fun x1 =>
      bif (decide ((n5 = n3) ∧ ((n3 + 1) ≤ big))) then
        N (TappendSeq_way_3000013b n0 c1 (w64 (i2 + (1 : Int))) (n3 + 1) (c4 ++ [(PV.int IntKind.i64 x0), (PV.int IntKind.i64 x1)]) (n3 + 1))
      else none
    else none
  else E (XappendSeq_way_3000013b (n3, c4, n5))
theorem BappendSeq_way_3000013b_eq (F : FnT) (N : Q → Option (Ext × S)) (E : Ext × Q → Option (Ext × S)) (L3000013 : Q → Option YappendSeq_way_3000013) (n0 : Nat) (c1 : List PV) (i2 : Int) (n3 : Nat) (c4 : List PV) (n5 : Nat) : semB (callP F EappendSeq_way 20) s107 (loopT [⟨3000013, YappendSeq_way_3000013, L3000013, XLappendSeq_way_3000013⟩]) 400 (blkIn a107.body 3000013) N E (TappendSeq_way_3000013b n0 c1 i2 n3 c4 n5) = BappendSeq_way_3000013b F N E L3000013 n0 c1 i2 n3 c4 n5 := by kernel_rfl
theorem RappendSeq_way_3000013b_of  (n0 : Nat) (c1 : List PV) (i2 : Int) (n3 : Nat) (c4 : List PV) (n5 : Nat) {r : Ext × S} (h : BappendSeq_way_3000013b (Fn env) RappendSeq_way_3000013 exO LappendSeq_way_3000013 n0 c1 i2 n3 c4 n5 = some r) : RappendSeq_way_3000013 (TappendSeq_way_3000013b n0 c1 i2 n3 c4 n5) = some r :=
  lp_of EappendSeq_way_ok (by kernel_rfl) (lo_cons (lpO_ok UappendSeq_way) lo_nil) (by kernel_rfl) ((BappendSeq_way_3000013b_eq _ _ _ _ _ _ _ _ _ _).trans h)
def tappendSeq_way (F : FnT) (L3000013 : Q → Option YappendSeq_way_3000013)(a b c d : Int) : Option ((Nat) × (List PV)) :=
  bindO (F 108 (RSh.one CK.list) [(PV.it [(Option.some 2)] 0), (PV.imm [(PV.int IntKind.i64 a), (PV.int IntKind.i64 b)] 0), (PV.imm [(PV.int IntKind.i64 c), (PV.int IntKind.i64 d)] 0)]) fun (y0 : ((Nat) × (List PV))) =>
  bindO (L3000013 (TappendSeq_way_3000013a y0.1 y0.2)) fun z =>
  Sum.elim (fun y1 =>
    none) (fun y2 =>
    bif (decide (y2.2.2 = y2.1)) then
      some (y2.1, y2.2.1)
    else none) z
theorem tappendSeq_way_eq (F : FnT) (L3000013 : Q → Option YappendSeq_way_3000013)(a b c d : Int) : semF (callP F EappendSeq_way 20) s107 (loopT [⟨3000013, YappendSeq_way_3000013, L3000013, XLappendSeq_way_3000013⟩]) 400 a107 [.nilL, .fn 108 [.imm [.int .i64 a, .int .i64 b] 0, .imm [.int .i64 c, .int .i64 d] 0]] (fun rv => decR (RSh.one CK.list) rv.pv) = tappendSeq_way F L3000013 a b c d := by kernel_rfl
noncomputable abbrev FappendSeq_way (args : List PV) := Fn env 107 (RSh.one CK.list) args
theorem FappendSeq_way_of (a b c d : Int) {res : ((Nat) × (List PV))} (h : tappendSeq_way (Fn env) LappendSeq_way_3000013 a b c d = some res) : FappendSeq_way [.nilL, .fn 108 [.imm [.int .i64 a, .int .i64 b] 0, .imm [.int .i64 c, .int .i64 d] 0]] = some res :=
  fn_of EappendSeq_way_ok rfl rfl (lo_cons (lpO_ok UappendSeq_way) lo_nil) ((tappendSeq_way_eq _ _ _ _ _ _).trans h)

/-! ### collect_way -/

def Ecollect_way : List Entry := [.out 107 (RSh.one CK.list)]
theorem Ecollect_way_ok : ∀ e ∈ Ecollect_way, EntOK env e := (ent_out ent_nil)
theorem Ucollect_way : uniq ((blocksOf a77.body).map (·.1)) = true := by kernel_rfl
def tcollect_way (F : FnT)(a b c d : Int) : Option ((Nat) × (List PV)) :=
  bindO (F 107 (RSh.one CK.list) [PV.nilL, (PV.fn 108 [(PV.imm [(PV.int IntKind.i64 a), (PV.int IntKind.i64 b)] 0), (PV.imm [(PV.int IntKind.i64 c), (PV.int IntKind.i64 d)] 0)])]) fun (y0 : ((Nat) × (List PV))) =>
  some (y0.1, y0.2)
theorem tcollect_way_eq (F : FnT)(a b c d : Int) : semF (callP F Ecollect_way 20) s77 (loopT []) 400 a77 [.fn 108 [.imm [.int .i64 a, .int .i64 b] 0, .imm [.int .i64 c, .int .i64 d] 0]] (fun rv => decR (RSh.one CK.list) rv.pv) = tcollect_way F a b c d := by kernel_rfl
noncomputable abbrev Fcollect_way (args : List PV) := Fn env 77 (RSh.one CK.list) args
theorem Fcollect_way_of (a b c d : Int) {res : ((Nat) × (List PV))} (h : tcollect_way (Fn env) a b c d = some res) : Fcollect_way [.fn 108 [.imm [.int .i64 a, .int .i64 b] 0, .imm [.int .i64 c, .int .i64 d] 0]] = some res :=
  fn_of Ecollect_way_ok rfl rfl lo_nil ((tcollect_way_eq _ _ _ _ _).trans h)

/-! ### scan_WayOf -/

def Escan_WayOf : List Entry := [.inl 78 a78 s78, .out 71 (RSh.one (CK.int IntKind.i64)), .out 59 (RSh.one (CK.int IntKind.i64)), .out 77 (RSh.one CK.list)]
theorem Escan_WayOf_ok : ∀ e ∈ Escan_WayOf, EntOK env e := (ent_inl rfl (ent_out (ent_out (ent_out ent_nil))))
theorem Uscan_WayOf : uniq ((blocksOf a34.body).map (·.1)) = true := by kernel_rfl
def tscan_WayOf (F : FnT) (p0_0 : Int) (p0_1 : Int) (p1_0 : Int) (p1_1 : Int) : Option (((Nat) × (List PV)) × (Int)) :=
  bindO (F 71 (RSh.one (CK.int IntKind.i64)) [(PV.agg [(PV.int IntKind.i64 p0_0), (PV.int IntKind.i64 p0_1)])]) fun (y0 : (Int)) =>
  bindO (F 71 (RSh.one (CK.int IntKind.i64)) [(PV.agg [(PV.int IntKind.i64 p1_0), (PV.int IntKind.i64 p1_1)])]) fun (y1 : (Int)) =>
  bindO (F 59 (RSh.one (CK.int IntKind.i64)) [(PV.list 2 [(PV.int IntKind.i64 y0), (PV.int IntKind.i64 y1)])]) fun (y2 : (Int)) =>
  bif (y2 != (0 : Int)) then
    some ((0, []), y2)
  else bindO (F 77 (RSh.one CK.list) [(PV.fn 108 [(PV.imm [(PV.int IntKind.i64 p0_0), (PV.int IntKind.i64 p0_1)] 0), (PV.imm [(PV.int IntKind.i64 p1_0), (PV.int IntKind.i64 p1_1)] 0)])]) fun (y3 : ((Nat) × (List PV))) =>
  some ((y3.1, y3.2), (0 : Int))
theorem tscan_WayOf_eq (F : FnT) (p0_0 : Int) (p0_1 : Int) (p1_0 : Int) (p1_1 : Int) : semF (callP F Escan_WayOf 20) s34 (loopT []) 400 a34 [PV.agg [PV.int IntKind.i64 p0_0, PV.int IntKind.i64 p0_1], PV.agg [PV.int IntKind.i64 p1_0, PV.int IntKind.i64 p1_1]] (fun rv => decR (RSh.tup [(Prod.mk false [CK.list]), (Prod.mk false [(CK.int IntKind.i64)])]) rv.pv) = tscan_WayOf F p0_0 p0_1 p1_0 p1_1 := by kernel_rfl
noncomputable abbrev Fscan_WayOf (args : List PV) := Fn env 34 (RSh.tup [(Prod.mk false [CK.list]), (Prod.mk false [(CK.int IntKind.i64)])]) args
theorem Fscan_WayOf_of  (p0_0 : Int) (p0_1 : Int) (p1_0 : Int) (p1_1 : Int) {res : (((Nat) × (List PV)) × (Int))} (h : tscan_WayOf (Fn env) p0_0 p0_1 p1_0 p1_1 = some res) : Fscan_WayOf [PV.agg [PV.int IntKind.i64 p0_0, PV.int IntKind.i64 p0_1], PV.agg [PV.int IntKind.i64 p1_0, PV.int IntKind.i64 p1_1]] = some res :=
  fn_of Escan_WayOf_ok rfl rfl lo_nil ((tscan_WayOf_eq _ _ _ _ _).trans h)

end Gv

/- What the functions do, round by round: SM3. -/
namespace Gv
open Go
set_option maxRecDepth 100000

/-! ### scan_firstReserved -/

def Escan_firstReserved : List Entry := [.inl 78 a78 s78, .out 108 (RSh.one CK.list), .out 74 (RSh.one CK.bool)]
theorem Escan_firstReserved_ok : ∀ e ∈ Escan_firstReserved, EntOK env e := (ent_inl rfl (ent_out (ent_out ent_nil)))
def Tscan_firstReserved_3000018a (n0 : Nat) (c1 : List PV) (i2 : Int) (i3 : Int) (i4 : Int) (i5 : Int) (i6 : Int) (i7 : Int) (i8 : Int) (n9 : Nat) (c10 : List PV) (i11 : Int) (i12 : Int) (i13 : Int) (i14 : Int) : Q := ⟨(tm 42 [(3, (AV.loc 3 0)), (6, (AV.loc 6 0)), (7, (AV.loc 7 0)), (18, (AV.p (PV.list n0 c1))), (19, (AV.p (PV.int IntKind.i64 i2)))]), (mm 42 [(3, (Bk.cells true [(AV.p (PV.int IntKind.i64 i3)), (AV.p (PV.int IntKind.i64 i4)), (AV.p (PV.int IntKind.i64 i5)), (AV.p (PV.int IntKind.i64 i6)), (AV.p (PV.int IntKind.i64 i7)), (AV.p (PV.int IntKind.i64 i8)), (AV.p (PV.list n9 c10))])), (4, (Bk.pcs true [(PV.int IntKind.i64 i11), (PV.int IntKind.i64 i12)])), (5, (Bk.pcs true [(PV.int IntKind.i64 i13), (PV.int IntKind.i64 i14)])), (6, (Bk.pcs true [(PV.int IntKind.i64 (0 : Int)), (PV.int IntKind.i64 (0 : Int))])), (7, (Bk.pcs true [(PV.bool false)]))])⟩
def Xscan_firstReserved_3000018a (y : Int × Int) : Ext × Q := (Ext.ret, ⟨(tm 42 [(6, (AV.loc 6 0)), (7, (AV.loc 7 0))]), (mm 42 [(6, (Bk.pcs true [(PV.int IntKind.i64 y.1), (PV.int IntKind.i64 y.2)])), (7, (Bk.pcs true [(PV.bool true)]))])⟩)
def Iscan_firstReserved_3000018a (q : Ext × S) : Int × Int := ((pP_int1 (hdP (pB_pcs1 (avM q.2 6)))), (pP_int1 (hdP (List.tail (pB_pcs1 (avM q.2 6))))))
def Xscan_firstReserved_3000018b (y : Int × Int × Int × Int × Int × Int × Nat × List PV × Int × Int × Int × Int) : Ext × Q := (Ext.normal, ⟨(tm 42 [(3, (AV.loc 3 0)), (6, (AV.loc 6 0)), (7, (AV.loc 7 0))]), (mm 42 [(3, (Bk.cells true [(AV.p (PV.int IntKind.i64 y.1)), (AV.p (PV.int IntKind.i64 y.2.1)), (AV.p (PV.int IntKind.i64 y.2.2.1)), (AV.p (PV.int IntKind.i64 y.2.2.2.1)), (AV.p (PV.int IntKind.i64 y.2.2.2.2.1)), (AV.p (PV.int IntKind.i64 y.2.2.2.2.2.1)), (AV.p (PV.list y.2.2.2.2.2.2.1 y.2.2.2.2.2.2.2.1))])), (4, (Bk.pcs true [(PV.int IntKind.i64 y.2.2.2.2.2.2.2.2.1), (PV.int IntKind.i64 y.2.2.2.2.2.2.2.2.2.1)])), (5, (Bk.pcs true [(PV.int IntKind.i64 y.2.2.2.2.2.2.2.2.2.2.1), (PV.int IntKind.i64 y.2.2.2.2.2.2.2.2.2.2.2)])), (6, (Bk.pcs true [(PV.int IntKind.i64 (0 : Int)), (PV.int IntKind.i64 (0 : Int))])), (7, (Bk.pcs true [(PV.bool false)]))])⟩)
def Iscan_firstReserved_3000018b (q : Ext × S) : Int × Int × Int × Int × Int × Int × Nat × List PV × Int × Int × Int × Int := ((pP_int1 (pA_p (hdA (pB_cells1 (avM q.2 3))))), (pP_int1 (pA_p (hdA (List.tail (pB_cells1 (avM q.2 3)))))), (pP_int1 (pA_p (hdA (List.tail (List.tail (pB_cells1 (avM q.2 3))))))), (pP_int1 (pA_p (hdA (List.tail (List.tail (List.tail (pB_cells1 (avM q.2 3)))))))), (pP_int1 (pA_p (hdA (List.tail (List.tail (List.tail (List.tail (pB_cells1 (avM q.2 3))))))))), (pP_int1 (pA_p (hdA (List.tail (List.tail (List.tail (List.tail (List.tail (pB_cells1 (avM q.2 3)))))))))), (pP_list0 (pA_p (hdA (List.tail (List.tail (List.tail (List.tail (List.tail (List.tail (pB_cells1 (avM q.2 3))))))))))), (pP_list1 (pA_p (hdA (List.tail (List.tail (List.tail (List.tail (List.tail (List.tail (pB_cells1 (avM q.2 3))))))))))), (pP_int1 (hdP (pB_pcs1 (avM q.2 4)))), (pP_int1 (hdP (List.tail (pB_pcs1 (avM q.2 4))))), (pP_int1 (hdP (pB_pcs1 (avM q.2 5)))), (pP_int1 (hdP (List.tail (pB_pcs1 (avM q.2 5))))))
abbrev Yscan_firstReserved_3000018 : Type := (Int × Int) ⊕ ((Int × Int × Int × Int × Int × Int × Nat × List PV × Int × Int × Int × Int))
def XLscan_firstReserved_3000018 : XL Yscan_firstReserved_3000018 := .more Xscan_firstReserved_3000018a (.one Xscan_firstReserved_3000018b)
def Iscan_firstReserved_3000018 (q : Ext × S) : Yscan_firstReserved_3000018 := bif (cE q.1 == 2) then (Sum.inl (Iscan_firstReserved_3000018a q)) else (Sum.inr (Iscan_firstReserved_3000018b q))
theorem XIscan_firstReserved_3000018a (y : Int × Int) : Iscan_firstReserved_3000018 (xe (Xscan_firstReserved_3000018a y)) = (Sum.inl y) := rfl
theorem XIscan_firstReserved_3000018b (y : Int × Int × Int × Int × Int × Int × Nat × List PV × Int × Int × Int × Int) : Iscan_firstReserved_3000018 (xe (Xscan_firstReserved_3000018b y)) = (Sum.inr y) := rfl
theorem XIscan_firstReserved_3000018 (y : Yscan_firstReserved_3000018) : Iscan_firstReserved_3000018 (xe (XLscan_firstReserved_3000018.fn y)) = y := (match y with | .inl y => XIscan_firstReserved_3000018a y | .inr y => XIscan_firstReserved_3000018b y)
noncomputable abbrev Lscan_firstReserved_3000018 : Q → Option Yscan_firstReserved_3000018 := lpO env a88.body 3000018 XLscan_firstReserved_3000018
noncomputable abbrev Rscan_firstReserved_3000018 : Q → Option (Ext × S) := lpR env a88.body 3000018
theorem Lscan_firstReserved_3000018a_of {s : Q} {y : Int × Int} (h : Rscan_firstReserved_3000018 s = exO (Xscan_firstReserved_3000018a y)) : Lscan_firstReserved_3000018 s = some (Sum.inl y) := lpO_of Iscan_firstReserved_3000018 XIscan_firstReserved_3000018 (y := (Sum.inl y)) h
theorem Lscan_firstReserved_3000018b_of {s : Q} {y : Int × Int × Int × Int × Int × Int × Nat × List PV × Int × Int × Int × Int} (h : Rscan_firstReserved_3000018 s = exO (Xscan_firstReserved_3000018b y)) : Lscan_firstReserved_3000018 s = some (Sum.inr y) := lpO_of Iscan_firstReserved_3000018 XIscan_firstReserved_3000018 (y := (Sum.inr y)) h
theorem Uscan_firstReserved : uniq ((blocksOf a88.body).map (·.1)) = true := by kernel_rfl
def Bscan_firstReserved_3000018a (F : FnT) (N : Q → Option (Ext × S)) (E : Ext × Q → Option (Ext × S)) (L3000018 : Q → Option Yscan_firstReserved_3000018) (n0 : Nat) (c1 : List PV) (i2 : Int) (i3 : Int) (i4 : Int) (i5 : Int) (i6 : Int) (i7 : Int) (i8 : Int) (n9 : Nat) (c10 : List PV) (i11 : Int) (i12 : Int) (i13 : Int) (i14 : Int) : Option (Ext × S) :=
  bif (decide (i2 < (n0 : Int))) then
    bif (decide (((0 : Int) ≤ i2) ∧ (i2 < (n0 : Int)))) then
      bindO (intC IntKind.i64 (c1[(((Int.toNat i2) * 2) + 0)]?)) fun x0 =>
      bindO (intC IntKind.i64 (c1[((((Int.toNat i2) * 2) + 0) + 1)]?)) fun x1 =>
      bindO (F 74 (RSh.one CK.bool) [(PV.agg [(PV.int IntKind.i64 i3), (PV.int IntKind.i64 i4), (PV.int IntKind.i64 i5), (PV.int IntKind.i64 i6), (PV.int IntKind.i64 i7), (PV.int IntKind.i64 i8), (PV.list n9 c10)]), (PV.agg [(PV.int IntKind.i64 x0), (PV.int IntKind.i64 x1)])]) fun (y2 : (Bool)) =>
      bif y2 then
        E (Xscan_firstReserved_3000018a (x0, x1))
      else N (Tscan_firstReserved_3000018a n0 c1 (w64 (i2 + (1 : Int))) i3 i4 i5 i6 i7 i8 n9 c10 i11 i12 i13 i14)
    else none
  else E (Xscan_firstReserved_3000018b (i3, i4, i5, i6, i7, i8, n9, c10, i11, i12, i13, i14))
theorem Bscan_firstReserved_3000018a_eq (F : FnT) (N : Q → Option (Ext × S)) (E : Ext × Q → Option (Ext × S)) (L3000018 : Q → Option Yscan_firstReserved_3000018) (n0 : Nat) (c1 : List PV) (i2 : Int) (i3 : Int) (i4 : Int) (i5 : Int) (i6 : Int) (i7 : Int) (i8 : Int) (n9 : Nat) (c10 : List PV) (i11 : Int) (i12 : Int) (i13 : Int) (i14 : Int) : semB (callP F Escan_firstReserved 20) s88 (loopT [⟨3000018, Yscan_firstReserved_3000018, L3000018, XLscan_firstReserved_3000018⟩]) 400 (blkIn a88.body 3000018) N E (Tscan_firstReserved_3000018a n0 c1 i2 i3 i4 i5 i6 i7 i8 n9 c10 i11 i12 i13 i14) = Bscan_firstReserved_3000018a F N E L3000018 n0 c1 i2 i3 i4 i5 i6 i7 i8 n9 c10 i11 i12 i13 i14 := by kernel_rfl
theorem Rscan_firstReserved_3000018a_of  (n0 : Nat) (c1 : List PV) (i2 : Int) (i3 : Int) (i4 : Int) (i5 : Int) (i6 : Int) (i7 : Int) (i8 : Int) (n9 : Nat) (c10 : List PV) (i11 : Int) (i12 : Int) (i13 : Int) (i14 : Int) {r : Ext × S} (h : Bscan_firstReserved_3000018a (Fn env) Rscan_firstReserved_3000018 exO Lscan_firstReserved_3000018 n0 c1 i2 i3 i4 i5 i6 i7 i8 n9 c10 i11 i12 i13 i14 = some r) : Rscan_firstReserved_3000018 (Tscan_firstReserved_3000018a n0 c1 i2 i3 i4 i5 i6 i7 i8 n9 c10 i11 i12 i13 i14) = some r :=
  lp_of Escan_firstReserved_ok (by kernel_rfl) (lo_cons (lpO_ok Uscan_firstReserved) lo_nil) (by kernel_rfl) ((Bscan_firstReserved_3000018a_eq _ _ _ _ _ _ _ _ _ _ _ _ _ _ _ _ _ _ _).trans h)
def tscan_firstReserved (F : FnT) (L3000018 : Q → Option Yscan_firstReserved_3000018) (p0_0 : Int) (p0_1 : Int) (p0_2 : Int) (p0_3 : Int) (p0_4 : Int) (p0_5 : Int) (p0_6n : Nat) (p0_6c : List PV) (p1_0 : Int) (p1_1 : Int) (p2_0 : Int) (p2_1 : Int) : Option ((Int) × ((Int) × (Bool))) :=
  bindO (F 108 (RSh.one CK.list) [(PV.it [(Option.some 2)] 0), (PV.imm [(PV.int IntKind.i64 p1_0), (PV.int IntKind.i64 p1_1)] 0), (PV.imm [(PV.int IntKind.i64 p2_0), (PV.int IntKind.i64 p2_1)] 0)]) fun (y0 : ((Nat) × (List PV))) =>
  bindO (L3000018 (Tscan_firstReserved_3000018a y0.1 y0.2 (0 : Int) p0_0 p0_1 p0_2 p0_3 p0_4 p0_5 p0_6n p0_6c p1_0 p1_1 p2_0 p2_1)) fun z =>
  Sum.elim (fun y1 =>
    some (y1.1, (y1.2, true))) (fun y2 =>
    some ((0 : Int), ((0 : Int), false))) z
theorem tscan_firstReserved_eq (F : FnT) (L3000018 : Q → Option Yscan_firstReserved_3000018) (p0_0 : Int) (p0_1 : Int) (p0_2 : Int) (p0_3 : Int) (p0_4 : Int) (p0_5 : Int) (p0_6n : Nat) (p0_6c : List PV) (p1_0 : Int) (p1_1 : Int) (p2_0 : Int) (p2_1 : Int) : semF (callP F Escan_firstReserved 20) s88 (loopT [⟨3000018, Yscan_firstReserved_3000018, L3000018, XLscan_firstReserved_3000018⟩]) 400 a88 [PV.agg [PV.int IntKind.i64 p0_0, PV.int IntKind.i64 p0_1, PV.int IntKind.i64 p0_2, PV.int IntKind.i64 p0_3, PV.int IntKind.i64 p0_4, PV.int IntKind.i64 p0_5, PV.list p0_6n p0_6c], PV.agg [PV.int IntKind.i64 p1_0, PV.int IntKind.i64 p1_1], PV.agg [PV.int IntKind.i64 p2_0, PV.int IntKind.i64 p2_1]] (fun rv => decR (RSh.tup [(Prod.mk true [(CK.int IntKind.i64), (CK.int IntKind.i64)]), (Prod.mk false [CK.bool])]) rv.pv) = tscan_firstReserved F L3000018 p0_0 p0_1 p0_2 p0_3 p0_4 p0_5 p0_6n p0_6c p1_0 p1_1 p2_0 p2_1 := by kernel_rfl
noncomputable abbrev Fscan_firstReserved (args : List PV) := Fn env 88 (RSh.tup [(Prod.mk true [(CK.int IntKind.i64), (CK.int IntKind.i64)]), (Prod.mk false [CK.bool])]) args
theorem Fscan_firstReserved_of  (p0_0 : Int) (p0_1 : Int) (p0_2 : Int) (p0_3 : Int) (p0_4 : Int) (p0_5 : Int) (p0_6n : Nat) (p0_6c : List PV) (p1_0 : Int) (p1_1 : Int) (p2_0 : Int) (p2_1 : Int) {res : ((Int) × ((Int) × (Bool)))} (h : tscan_firstReserved (Fn env) Lscan_firstReserved_3000018 p0_0 p0_1 p0_2 p0_3 p0_4 p0_5 p0_6n p0_6c p1_0 p1_1 p2_0 p2_1 = some res) : Fscan_firstReserved [PV.agg [PV.int IntKind.i64 p0_0, PV.int IntKind.i64 p0_1, PV.int IntKind.i64 p0_2, PV.int IntKind.i64 p0_3, PV.int IntKind.i64 p0_4, PV.int IntKind.i64 p0_5, PV.list p0_6n p0_6c], PV.agg [PV.int IntKind.i64 p1_0, PV.int IntKind.i64 p1_1], PV.agg [PV.int IntKind.i64 p2_0, PV.int IntKind.i64 p2_1]] = some res :=
  fn_of Escan_firstReserved_ok rfl rfl (lo_cons (lpO_ok Uscan_firstReserved) lo_nil) ((tscan_firstReserved_eq _ _ _ _ _ _ _ _ _ _ _ _ _ _).trans h)

/-! ### scan_isDark -/

def Escan_isDark : List Entry := [.out 88 (RSh.tup [(Prod.mk true [(CK.int IntKind.i64), (CK.int IntKind.i64)]), (Prod.mk false [CK.bool])])]
theorem Escan_isDark_ok : ∀ e ∈ Escan_isDark, EntOK env e := (ent_out ent_nil)
theorem Uscan_isDark : uniq ((blocksOf a81.body).map (·.1)) = true := by kernel_rfl
def tscan_isDark (F : FnT) (p0_0 : Int) (p0_1 : Int) (p0_2 : Int) (p0_3 : Int) (p0_4 : Int) (p0_5 : Int) (p0_6n : Nat) (p0_6c : List PV) (p1_0 : Int) (p1_1 : Int) (p2_0 : Int) (p2_1 : Int) : Option (Bool) :=
  bindO (F 88 (RSh.tup [(Prod.mk true [(CK.int IntKind.i64), (CK.int IntKind.i64)]), (Prod.mk false [CK.bool])]) [(PV.agg [(PV.int IntKind.i64 p0_0), (PV.int IntKind.i64 p0_1), (PV.int IntKind.i64 p0_2), (PV.int IntKind.i64 p0_3), (PV.int IntKind.i64 p0_4), (PV.int IntKind.i64 p0_5), (PV.list p0_6n p0_6c)]), (PV.agg [(PV.int IntKind.i64 p1_0), (PV.int IntKind.i64 p1_1)]), (PV.agg [(PV.int IntKind.i64 p2_0), (PV.int IntKind.i64 p2_1)])]) fun (y0 : ((Int) × ((Int) × (Bool)))) =>
  bif y0.2.2 then
    some false
  else some true
theorem tscan_isDark_eq (F : FnT) (p0_0 : Int) (p0_1 : Int) (p0_2 : Int) (p0_3 : Int) (p0_4 : Int) (p0_5 : Int) (p0_6n : Nat) (p0_6c : List PV) (p1_0 : Int) (p1_1 : Int) (p2_0 : Int) (p2_1 : Int) : semF (callP F Escan_isDark 20) s81 (loopT []) 400 a81 [PV.agg [PV.int IntKind.i64 p0_0, PV.int IntKind.i64 p0_1, PV.int IntKind.i64 p0_2, PV.int IntKind.i64 p0_3, PV.int IntKind.i64 p0_4, PV.int IntKind.i64 p0_5, PV.list p0_6n p0_6c], PV.agg [PV.int IntKind.i64 p1_0, PV.int IntKind.i64 p1_1], PV.agg [PV.int IntKind.i64 p2_0, PV.int IntKind.i64 p2_1]] (fun rv => decR (RSh.one CK.bool) rv.pv) = tscan_isDark F p0_0 p0_1 p0_2 p0_3 p0_4 p0_5 p0_6n p0_6c p1_0 p1_1 p2_0 p2_1 := by kernel_rfl
noncomputable abbrev Fscan_isDark (args : List PV) := Fn env 81 (RSh.one CK.bool) args
theorem Fscan_isDark_of  (p0_0 : Int) (p0_1 : Int) (p0_2 : Int) (p0_3 : Int) (p0_4 : Int) (p0_5 : Int) (p0_6n : Nat) (p0_6c : List PV) (p1_0 : Int) (p1_1 : Int) (p2_0 : Int) (p2_1 : Int) {res : (Bool)} (h : tscan_isDark (Fn env) p0_0 p0_1 p0_2 p0_3 p0_4 p0_5 p0_6n p0_6c p1_0 p1_1 p2_0 p2_1 = some res) : Fscan_isDark [PV.agg [PV.int IntKind.i64 p0_0, PV.int IntKind.i64 p0_1, PV.int IntKind.i64 p0_2, PV.int IntKind.i64 p0_3, PV.int IntKind.i64 p0_4, PV.int IntKind.i64 p0_5, PV.list p0_6n p0_6c], PV.agg [PV.int IntKind.i64 p1_0, PV.int IntKind.i64 p1_1], PV.agg [PV.int IntKind.i64 p2_0, PV.int IntKind.i64 p2_1]] = some res :=
  fn_of Escan_isDark_ok rfl rfl lo_nil ((tscan_isDark_eq _ _ _ _ _ _ _ _ _ _ _ _ _).trans h)

/-! ### scan_IsDark -/

def Escan_IsDark : List Entry := [.out 79 (RSh.one (CK.int IntKind.i64)), .out 81 (RSh.one CK.bool)]
theorem Escan_IsDark_ok : ∀ e ∈ Escan_IsDark, EntOK env e := (ent_out (ent_out ent_nil))
theorem Uscan_IsDark : uniq ((blocksOf a36.body).map (·.1)) = true := by kernel_rfl
def tscan_IsDark (F : FnT) (p0_0 : Int) (p0_1 : Int) (p0_2 : Int) (p0_3 : Int) (p0_4 : Int) (p0_5 : Int) (p0_6n : Nat) (p0_6c : List PV) (p1_0 : Int) (p1_1 : Int) (p2_0 : Int) (p2_1 : Int) : Option ((Bool) × (Int)) :=
  bindO (F 79 (RSh.one (CK.int IntKind.i64)) [(PV.agg [(PV.int IntKind.i64 p0_0), (PV.int IntKind.i64 p0_1), (PV.int IntKind.i64 p0_2), (PV.int IntKind.i64 p0_3), (PV.int IntKind.i64 p0_4), (PV.int IntKind.i64 p0_5), (PV.list p0_6n p0_6c)]), (PV.agg [(PV.int IntKind.i64 p1_0), (PV.int IntKind.i64 p1_1)]), (PV.agg [(PV.int IntKind.i64 p2_0), (PV.int IntKind.i64 p2_1)])]) fun (y0 : (Int)) =>
  bif (y0 != (0 : Int)) then
    some (false, y0)
  else bindO (F 81 (RSh.one CK.bool) [(PV.agg [(PV.int IntKind.i64 p0_0), (PV.int IntKind.i64 p0_1), (PV.int IntKind.i64 p0_2), (PV.int IntKind.i64 p0_3), (PV.int IntKind.i64 p0_4), (PV.int IntKind.i64 p0_5), (PV.list p0_6n p0_6c)]), (PV.agg [(PV.int IntKind.i64 p1_0), (PV.int IntKind.i64 p1_1)]), (PV.agg [(PV.int IntKind.i64 p2_0), (PV.int IntKind.i64 p2_1)])]) fun (y1 : (Bool)) =>
  bif y1 then
    some (true, (0 : Int))
  else some (false, (0 : Int))
theorem tscan_IsDark_eq (F : FnT) (p0_0 : Int) (p0_1 : Int) (p0_2 : Int) (p0_3 : Int) (p0_4 : Int) (p0_5 : Int) (p0_6n : Nat) (p0_6c : List PV) (p1_0 : Int) (p1_1 : Int) (p2_0 : Int) (p2_1 : Int) : semF (callP F Escan_IsDark 20) s36 (loopT []) 400 a36 [PV.agg [PV.int IntKind.i64 p0_0, PV.int IntKind.i64 p0_1, PV.int IntKind.i64 p0_2, PV.int IntKind.i64 p0_3, PV.int IntKind.i64 p0_4, PV.int IntKind.i64 p0_5, PV.list p0_6n p0_6c], PV.agg [PV.int IntKind.i64 p1_0, PV.int IntKind.i64 p1_1], PV.agg [PV.int IntKind.i64 p2_0, PV.int IntKind.i64 p2_1]] (fun rv => decR (RSh.tup [(Prod.mk false [CK.bool]), (Prod.mk false [(CK.int IntKind.i64)])]) rv.pv) = tscan_IsDark F p0_0 p0_1 p0_2 p0_3 p0_4 p0_5 p0_6n p0_6c p1_0 p1_1 p2_0 p2_1 := by kernel_rfl
noncomputable abbrev Fscan_IsDark (args : List PV) := Fn env 36 (RSh.tup [(Prod.mk false [CK.bool]), (Prod.mk false [(CK.int IntKind.i64)])]) args
theorem Fscan_IsDark_of  (p0_0 : Int) (p0_1 : Int) (p0_2 : Int) (p0_3 : Int) (p0_4 : Int) (p0_5 : Int) (p0_6n : Nat) (p0_6c : List PV) (p1_0 : Int) (p1_1 : Int) (p2_0 : Int) (p2_1 : Int) {res : ((Bool) × (Int))} (h : tscan_IsDark (Fn env) p0_0 p0_1 p0_2 p0_3 p0_4 p0_5 p0_6n p0_6c p1_0 p1_1 p2_0 p2_1 = some res) : Fscan_IsDark [PV.agg [PV.int IntKind.i64 p0_0, PV.int IntKind.i64 p0_1, PV.int IntKind.i64 p0_2, PV.int IntKind.i64 p0_3, PV.int IntKind.i64 p0_4, PV.int IntKind.i64 p0_5, PV.list p0_6n p0_6c], PV.agg [PV.int IntKind.i64 p1_0, PV.int IntKind.i64 p1_1], PV.agg [PV.int IntKind.i64 p2_0, PV.int IntKind.i64 p2_1]] = some res :=
  fn_of Escan_IsDark_ok rfl rfl lo_nil ((tscan_IsDark_eq _ _ _ _ _ _ _ _ _ _ _ _ _).trans h)

end Gv

/- What the functions do, round by round: SM7. -/
namespace Gv
open Go
set_option maxRecDepth 100000

/-! ### scan_firstError_3 -/

def Escan_firstError_3 : List Entry := []
theorem Escan_firstError_3_ok : ∀ e ∈ Escan_firstError_3, EntOK env e := ent_nil
theorem Uscan_firstError_3 : uniq ((blocksOf a59.body).map (·.1)) = true := by kernel_rfl
def tscan_firstError_3 (F : FnT)(e0 e1 e2 : Int) : Option (Int) :=
  bif (e0 != (0 : Int)) then
    some e0
  else bif (e1 != (0 : Int)) then
    some e1
  else bif (e2 != (0 : Int)) then
    some e2
  else some (0 : Int)
theorem tscan_firstError_3_eq (F : FnT)(e0 e1 e2 : Int) : semF (callP F Escan_firstError_3 20) s59 (loopT []) 400 a59 [.list 3 [.int .i64 e0, .int .i64 e1, .int .i64 e2]] (fun rv => decR (RSh.one (CK.int IntKind.i64)) rv.pv) = tscan_firstError_3 F e0 e1 e2 := by kernel_rfl
noncomputable abbrev Fscan_firstError_3 (args : List PV) := Fn env 59 (RSh.one (CK.int IntKind.i64)) args
theorem Fscan_firstError_3_of (e0 e1 e2 : Int) {res : (Int)} (h : tscan_firstError_3 (Fn env) e0 e1 e2 = some res) : Fscan_firstError_3 [.list 3 [.int .i64 e0, .int .i64 e1, .int .i64 e2]] = some res :=
  fn_of Escan_firstError_3_ok rfl rfl lo_nil ((tscan_firstError_3_eq _ _ _ _).trans h)

end Gv

/- What the functions do, round by round: SM4. -/
namespace Gv
open Go
set_option maxRecDepth 100000

/-! ### R3_SameWays -/

def ER3_SameWays : List Entry := []
theorem ER3_SameWays_ok : ∀ e ∈ ER3_SameWays, EntOK env e := ent_nil
def TR3_SameWays_0a (n0 : Nat) (c1 : List PV) (n2 : Nat) (c3 : List PV) (i4 : Int) : Q := ⟨(tm 26 [(0, (AV.p (PV.list n0 c1))), (1, (AV.p (PV.list n2 c3))), (5, (AV.p (PV.int IntKind.i64 i4)))]), (mm 26 [])⟩
def XR3_SameWays_0a (y : Unit) : Ext × Q := (Ext.ret, ⟨(tm 26 [(4, (AV.p (PV.bool false)))]), (mm 26 [])⟩)
def IR3_SameWays_0a (q : Ext × S) : Unit := ()
def XR3_SameWays_0b (y : Unit) : Ext × Q := (Ext.normal, ⟨(tm 26 []), (mm 26 [])⟩)
def IR3_SameWays_0b (q : Ext × S) : Unit := ()
abbrev YR3_SameWays_0 : Type := (Unit) ⊕ ((Unit))
def XLR3_SameWays_0 : XL YR3_SameWays_0 := .more XR3_SameWays_0a (.one XR3_SameWays_0b)
def IR3_SameWays_0 (q : Ext × S) : YR3_SameWays_0 := bif (cE q.1 == 2) then (Sum.inl (IR3_SameWays_0a q)) else (Sum.inr (IR3_SameWays_0b q))
theorem XIR3_SameWays_0a (y : Unit) : IR3_SameWays_0 (xe (XR3_SameWays_0a y)) = (Sum.inl y) := rfl
theorem XIR3_SameWays_0b (y : Unit) : IR3_SameWays_0 (xe (XR3_SameWays_0b y)) = (Sum.inr y) := rfl
theorem XIR3_SameWays_0 (y : YR3_SameWays_0) : IR3_SameWays_0 (xe (XLR3_SameWays_0.fn y)) = y := (match y with | .inl y => XIR3_SameWays_0a y | .inr y => XIR3_SameWays_0b y)
noncomputable abbrev LR3_SameWays_0 : Q → Option YR3_SameWays_0 := lpO env a37.body 0 XLR3_SameWays_0
noncomputable abbrev RR3_SameWays_0 : Q → Option (Ext × S) := lpR env a37.body 0
theorem LR3_SameWays_0a_of {s : Q} {y : Unit} (h : RR3_SameWays_0 s = exO (XR3_SameWays_0a y)) : LR3_SameWays_0 s = some (Sum.inl y) := lpO_of IR3_SameWays_0 XIR3_SameWays_0 (y := (Sum.inl y)) h
theorem LR3_SameWays_0b_of {s : Q} {y : Unit} (h : RR3_SameWays_0 s = exO (XR3_SameWays_0b y)) : LR3_SameWays_0 s = some (Sum.inr y) := lpO_of IR3_SameWays_0 XIR3_SameWays_0 (y := (Sum.inr y)) h
theorem UR3_SameWays : uniq ((blocksOf a37.body).map (·.1)) = true := by kernel_rfl
def BR3_SameWays_0a (F : FnT) (N : Q → Option (Ext × S)) (E : Ext × Q → Option (Ext × S)) (L0 : Q → Option YR3_SameWays_0) (n0 : Nat) (c1 : List PV) (n2 : Nat) (c3 : List PV) (i4 : Int) : Option (Ext × S) :=
  bif (decide (i4 < (n0 : Int))) then
    bif (decide (((0 : Int) ≤ i4) ∧ (i4 < (n0 : Int)))) then
      bindO (intC IntKind.i64 (c1[((Int.toNat i4) * 2)]?)) fun x0 =>
      bindO (intC IntKind.i64 (c1[(((Int.toNat i4) * 2) + 1)]?)) fun x1 =>
      bif (decide (((0 : Int) ≤ i4) ∧ (i4 < (n2 : Int)))) then
        bindO (intC IntKind.i64 (c3[((Int.toNat i4) * 2)]?)) fun x2 =>
        bindO (intC IntKind.i64 (c3[(((Int.toNat i4) * 2) + 1)]?)) fun x3 =>
        bif (!((x0 == x2) && ((x1 == x3) && true))) then
          E (XR3_SameWays_0a ())
        else N (TR3_SameWays_0a n0 c1 n2 c3 (w64 (i4 + (1 : Int))))
      else none
    else none
  else E (XR3_SameWays_0b ())
theorem BR3_SameWays_0a_eq (F : FnT) (N : Q → Option (Ext × S)) (E : Ext × Q → Option (Ext × S)) (L0 : Q → Option YR3_SameWays_0) (n0 : Nat) (c1 : List PV) (n2 : Nat) (c3 : List PV) (i4 : Int) : semB (callP F ER3_SameWays 20) s37 (loopT [⟨0, YR3_SameWays_0, L0, XLR3_SameWays_0⟩]) 400 (blkIn a37.body 0) N E (TR3_SameWays_0a n0 c1 n2 c3 i4) = BR3_SameWays_0a F N E L0 n0 c1 n2 c3 i4 := by kernel_rfl
theorem RR3_SameWays_0a_of  (n0 : Nat) (c1 : List PV) (n2 : Nat) (c3 : List PV) (i4 : Int) {r : Ext × S} (h : BR3_SameWays_0a (Fn env) RR3_SameWays_0 exO LR3_SameWays_0 n0 c1 n2 c3 i4 = some r) : RR3_SameWays_0 (TR3_SameWays_0a n0 c1 n2 c3 i4) = some r :=
  lp_of ER3_SameWays_ok (by kernel_rfl) (lo_cons (lpO_ok UR3_SameWays) lo_nil) (by kernel_rfl) ((BR3_SameWays_0a_eq _ _ _ _ _ _ _ _ _).trans h)
def tR3_SameWays (F : FnT) (L0 : Q → Option YR3_SameWays_0) (p0n : Nat) (p0c : List PV) (p1n : Nat) (p1c : List PV) : Option (Bool) :=
  bif ((p0n : Int) != (p1n : Int)) then
    some false
  else bindO (L0 (TR3_SameWays_0a p0n p0c p1n p1c (0 : Int))) fun z =>
  Sum.elim (fun y0 =>
    some false) (fun y1 =>
    some true) z
theorem tR3_SameWays_eq (F : FnT) (L0 : Q → Option YR3_SameWays_0) (p0n : Nat) (p0c : List PV) (p1n : Nat) (p1c : List PV) : semF (callP F ER3_SameWays 20) s37 (loopT [⟨0, YR3_SameWays_0, L0, XLR3_SameWays_0⟩]) 400 a37 [PV.list p0n p0c, PV.list p1n p1c] (fun rv => decR (RSh.one CK.bool) rv.pv) = tR3_SameWays F L0 p0n p0c p1n p1c := by kernel_rfl
noncomputable abbrev FR3_SameWays (args : List PV) := Fn env 37 (RSh.one CK.bool) args
theorem FR3_SameWays_of  (p0n : Nat) (p0c : List PV) (p1n : Nat) (p1c : List PV) {res : (Bool)} (h : tR3_SameWays (Fn env) LR3_SameWays_0 p0n p0c p1n p1c = some res) : FR3_SameWays [PV.list p0n p0c, PV.list p1n p1c] = some res :=
  fn_of ER3_SameWays_ok rfl rfl (lo_cons (lpO_ok UR3_SameWays) lo_nil) ((tR3_SameWays_eq _ _ _ _ _ _).trans h)

/-! ### R3_Way -/

def ER3_Way : List Entry := [.out 82 (RSh.one (CK.int IntKind.i64)), .out 42 (RSh.one (CK.int IntKind.i64))]
theorem ER3_Way_ok : ∀ e ∈ ER3_Way, EntOK env e := (ent_out (ent_out ent_nil))
def TR3_Way_0a (i0 : Int) (i1 : Int) (i2 : Int) (i3 : Int) (i4 : Int) (i5 : Int) (i6 : Int) (i7 : Int) : Q := ⟨(tm 55 [(3, (AV.loc 3 0)), (5, (AV.lit 1 2 [(PV.int IntKind.i64 i0), (PV.int IntKind.i64 i1)])), (6, (AV.loc 6 0))]), (mm 55 [(2, (Bk.pcs true [(PV.int IntKind.i64 i2), (PV.int IntKind.i64 i3)])), (3, (Bk.pcs true [(PV.int IntKind.i64 i4), (PV.int IntKind.i64 i5)])), (6, (Bk.pcs true [(PV.int IntKind.i64 i6), (PV.int IntKind.i64 i7)]))])⟩
def TR3_Way_0b (n0 : Nat) (c1 : List PV) (i2 : Int) (i3 : Int) (i4 : Int) (i5 : Int) (n6 : Nat) : Q := ⟨(tm 55 [(3, (AV.loc 3 0)), (5, (AV.app 31 n0 2 c1)), (6, (AV.loc 6 0))]), (mm 55 [(3, (Bk.pcs true [(PV.int IntKind.i64 i2), (PV.int IntKind.i64 i3)])), (6, (Bk.pcs true [(PV.int IntKind.i64 i4), (PV.int IntKind.i64 i5)])), (31, (Bk.buf n6))])⟩
def XR3_Way_0a (y : Int × Int × Int × Int × Int × Int) : Ext × Q := (Ext.normal, ⟨(tm 55 [(3, (AV.loc 3 0)), (5, (AV.lit 1 2 [(PV.int IntKind.i64 y.1), (PV.int IntKind.i64 y.2.1)])), (6, (AV.loc 6 0))]), (mm 55 [(3, (Bk.pcs true [(PV.int IntKind.i64 y.2.2.1), (PV.int IntKind.i64 y.2.2.2.1)])), (6, (Bk.pcs true [(PV.int IntKind.i64 y.2.2.2.2.1), (PV.int IntKind.i64 y.2.2.2.2.2)]))])⟩)
def IR3_Way_0a (q : Ext × S) : Int × Int × Int × Int × Int × Int := ((pP_int1 (hdP (pA_lit2 (avT q.2 5)))), (pP_int1 (hdP (List.tail (pA_lit2 (avT q.2 5))))), (pP_int1 (hdP (pB_pcs1 (avM q.2 3)))), (pP_int1 (hdP (List.tail (pB_pcs1 (avM q.2 3))))), (pP_int1 (hdP (pB_pcs1 (avM q.2 6)))), (pP_int1 (hdP (List.tail (pB_pcs1 (avM q.2 6))))))
def XR3_Way_0b (y : Nat × List PV × Int × Int × Int × Int × Nat) : Ext × Q := (Ext.normal, ⟨(tm 55 [(3, (AV.loc 3 0)), (5, (AV.app 31 y.1 2 y.2.1)), (6, (AV.loc 6 0))]), (mm 55 [(3, (Bk.pcs true [(PV.int IntKind.i64 y.2.2.1), (PV.int IntKind.i64 y.2.2.2.1)])), (6, (Bk.pcs true [(PV.int IntKind.i64 y.2.2.2.2.1), (PV.int IntKind.i64 y.2.2.2.2.2.1)])), (31, (Bk.buf y.2.2.2.2.2.2))])⟩)
def IR3_Way_0b (q : Ext × S) : Nat × List PV × Int × Int × Int × Int × Nat := ((pA_app1 (avT q.2 5)), (pA_app3 (avT q.2 5)), (pP_int1 (hdP (pB_pcs1 (avM q.2 3)))), (pP_int1 (hdP (List.tail (pB_pcs1 (avM q.2 3))))), (pP_int1 (hdP (pB_pcs1 (avM q.2 6)))), (pP_int1 (hdP (List.tail (pB_pcs1 (avM q.2 6))))), (pB_buf0 (avM q.2 31)))
abbrev YR3_Way_0 : Type := (Int × Int × Int × Int × Int × Int) ⊕ ((Nat × List PV × Int × Int × Int × Int × Nat))
def XLR3_Way_0 : XL YR3_Way_0 := .more XR3_Way_0a (.one XR3_Way_0b)
def IR3_Way_0 (q : Ext × S) : YR3_Way_0 := bif (cA (avT q.2 5) == 4) then (Sum.inl (IR3_Way_0a q)) else (Sum.inr (IR3_Way_0b q))
theorem XIR3_Way_0a (y : Int × Int × Int × Int × Int × Int) : IR3_Way_0 (xe (XR3_Way_0a y)) = (Sum.inl y) := rfl
theorem XIR3_Way_0b (y : Nat × List PV × Int × Int × Int × Int × Nat) : IR3_Way_0 (xe (XR3_Way_0b y)) = (Sum.inr y) := rfl
theorem XIR3_Way_0 (y : YR3_Way_0) : IR3_Way_0 (xe (XLR3_Way_0.fn y)) = y := (match y with | .inl y => XIR3_Way_0a y | .inr y => XIR3_Way_0b y)
noncomputable abbrev LR3_Way_0 : Q → Option YR3_Way_0 := lpO env a38.body 0 XLR3_Way_0
noncomputable abbrev RR3_Way_0 : Q → Option (Ext × S) := lpR env a38.body 0
theorem LR3_Way_0a_of {s : Q} {y : Int × Int × Int × Int × Int × Int} (h : RR3_Way_0 s = exO (XR3_Way_0a y)) : LR3_Way_0 s = some (Sum.inl y) := lpO_of IR3_Way_0 XIR3_Way_0 (y := (Sum.inl y)) h
theorem LR3_Way_0b_of {s : Q} {y : Nat × List PV × Int × Int × Int × Int × Nat} (h : RR3_Way_0 s = exO (XR3_Way_0b y)) : LR3_Way_0 s = some (Sum.inr y) := lpO_of IR3_Way_0 XIR3_Way_0 (y := (Sum.inr y)) h
def TR3_Way_2a (i0 : Int) (i1 : Int) (i2 : Int) (i3 : Int) (i4 : Int) (i5 : Int) : Q := ⟨(tm 55 [(3, (AV.loc 3 0)), (5, (AV.lit 1 2 [(PV.int IntKind.i64 i0), (PV.int IntKind.i64 i1)])), (6, (AV.loc 6 0))]), (mm 55 [(3, (Bk.pcs true [(PV.int IntKind.i64 i2), (PV.int IntKind.i64 i3)])), (6, (Bk.pcs true [(PV.int IntKind.i64 i4), (PV.int IntKind.i64 i5)]))])⟩
def TR3_Way_2b (n0 : Nat) (c1 : List PV) (i2 : Int) (i3 : Int) (i4 : Int) (i5 : Int) (n6 : Nat) : Q := ⟨(tm 55 [(3, (AV.loc 3 0)), (5, (AV.app 53 n0 2 c1)), (6, (AV.loc 6 0))]), (mm 55 [(3, (Bk.pcs true [(PV.int IntKind.i64 i2), (PV.int IntKind.i64 i3)])), (6, (Bk.pcs true [(PV.int IntKind.i64 i4), (PV.int IntKind.i64 i5)])), (53, (Bk.buf n6))])⟩
def TR3_Way_2c (n0 : Nat) (c1 : List PV) (i2 : Int) (i3 : Int) (i4 : Int) (i5 : Int) (n6 : Nat) : Q := ⟨(tm 55 [(3, (AV.loc 3 0)), (5, (AV.app 31 n0 2 c1)), (6, (AV.loc 6 0))]), (mm 55 [(3, (Bk.pcs true [(PV.int IntKind.i64 i2), (PV.int IntKind.i64 i3)])), (6, (Bk.pcs true [(PV.int IntKind.i64 i4), (PV.int IntKind.i64 i5)])), (31, (Bk.buf n6))])⟩
def XR3_Way_2a (y : Int × Int × Int × Int × Int × Int) : Ext × Q := (Ext.normal, ⟨(tm 55 [(5, (AV.lit 1 2 [(PV.int IntKind.i64 y.1), (PV.int IntKind.i64 y.2.1)]))]), (mm 55 [(3, (Bk.pcs true [(PV.int IntKind.i64 y.2.2.1), (PV.int IntKind.i64 y.2.2.2.1)])), (6, (Bk.pcs true [(PV.int IntKind.i64 y.2.2.2.2.1), (PV.int IntKind.i64 y.2.2.2.2.2)]))])⟩)
def IR3_Way_2a (q : Ext × S) : Int × Int × Int × Int × Int × Int := ((pP_int1 (hdP (pA_lit2 (avT q.2 5)))), (pP_int1 (hdP (List.tail (pA_lit2 (avT q.2 5))))), (pP_int1 (hdP (pB_pcs1 (avM q.2 3)))), (pP_int1 (hdP (List.tail (pB_pcs1 (avM q.2 3))))), (pP_int1 (hdP (pB_pcs1 (avM q.2 6)))), (pP_int1 (hdP (List.tail (pB_pcs1 (avM q.2 6))))))
def XR3_Way_2b (y : Nat × List PV × Int × Int × Int × Int × Nat) : Ext × Q := (Ext.normal, ⟨(tm 55 [(5, (AV.app 53 y.1 2 y.2.1))]), (mm 55 [(3, (Bk.pcs true [(PV.int IntKind.i64 y.2.2.1), (PV.int IntKind.i64 y.2.2.2.1)])), (6, (Bk.pcs true [(PV.int IntKind.i64 y.2.2.2.2.1), (PV.int IntKind.i64 y.2.2.2.2.2.1)])), (53, (Bk.buf y.2.2.2.2.2.2))])⟩)
def IR3_Way_2b (q : Ext × S) : Nat × List PV × Int × Int × Int × Int × Nat := ((pA_app1 (avT q.2 5)), (pA_app3 (avT q.2 5)), (pP_int1 (hdP (pB_pcs1 (avM q.2 3)))), (pP_int1 (hdP (List.tail (pB_pcs1 (avM q.2 3))))), (pP_int1 (hdP (pB_pcs1 (avM q.2 6)))), (pP_int1 (hdP (List.tail (pB_pcs1 (avM q.2 6))))), (pB_buf0 (avM q.2 53)))
def XR3_Way_2c (y : Nat × List PV × Int × Int × Int × Int × Nat) : Ext × Q := (Ext.normal, ⟨(tm 55 [(5, (AV.app 31 y.1 2 y.2.1))]), (mm 55 [(3, (Bk.pcs true [(PV.int IntKind.i64 y.2.2.1), (PV.int IntKind.i64 y.2.2.2.1)])), (6, (Bk.pcs true [(PV.int IntKind.i64 y.2.2.2.2.1), (PV.int IntKind.i64 y.2.2.2.2.2.1)])), (31, (Bk.buf y.2.2.2.2.2.2))])⟩)
def IR3_Way_2c (q : Ext × S) : Nat × List PV × Int × Int × Int × Int × Nat := ((pA_app1 (avT q.2 5)), (pA_app3 (avT q.2 5)), (pP_int1 (hdP (pB_pcs1 (avM q.2 3)))), (pP_int1 (hdP (List.tail (pB_pcs1 (avM q.2 3))))), (pP_int1 (hdP (pB_pcs1 (avM q.2 6)))), (pP_int1 (hdP (List.tail (pB_pcs1 (avM q.2 6))))), (pB_buf0 (avM q.2 31)))
abbrev YR3_Way_2 : Type := (Int × Int × Int × Int × Int × Int) ⊕ ((Nat × List PV × Int × Int × Int × Int × Nat) ⊕ ((Nat × List PV × Int × Int × Int × Int × Nat)))
def XLR3_Way_2 : XL YR3_Way_2 := .more XR3_Way_2a (.more XR3_Way_2b (.one XR3_Way_2c))
def IR3_Way_2 (q : Ext × S) : YR3_Way_2 := bif (cA (avT q.2 5) == 4) then (Sum.inl (IR3_Way_2a q)) else bif (cB (avM q.2 31) == 0) then (Sum.inr (Sum.inl (IR3_Way_2b q))) else (Sum.inr (Sum.inr (IR3_Way_2c q)))
theorem XIR3_Way_2a (y : Int × Int × Int × Int × Int × Int) : IR3_Way_2 (xe (XR3_Way_2a y)) = (Sum.inl y) := rfl
theorem XIR3_Way_2b (y : Nat × List PV × Int × Int × Int × Int × Nat) : IR3_Way_2 (xe (XR3_Way_2b y)) = (Sum.inr (Sum.inl y)) := rfl
theorem XIR3_Way_2c (y : Nat × List PV × Int × Int × Int × Int × Nat) : IR3_Way_2 (xe (XR3_Way_2c y)) = (Sum.inr (Sum.inr y)) := rfl
theorem XIR3_Way_2 (y : YR3_Way_2) : IR3_Way_2 (xe (XLR3_Way_2.fn y)) = y := (match y with | .inl y => XIR3_Way_2a y | .inr y => (match y with | .inl y => XIR3_Way_2b y | .inr y => XIR3_Way_2c y))
noncomputable abbrev LR3_Way_2 : Q → Option YR3_Way_2 := lpO env a38.body 2 XLR3_Way_2
noncomputable abbrev RR3_Way_2 : Q → Option (Ext × S) := lpR env a38.body 2
theorem LR3_Way_2a_of {s : Q} {y : Int × Int × Int × Int × Int × Int} (h : RR3_Way_2 s = exO (XR3_Way_2a y)) : LR3_Way_2 s = some (Sum.inl y) := lpO_of IR3_Way_2 XIR3_Way_2 (y := (Sum.inl y)) h
theorem LR3_Way_2b_of {s : Q} {y : Nat × List PV × Int × Int × Int × Int × Nat} (h : RR3_Way_2 s = exO (XR3_Way_2b y)) : LR3_Way_2 s = some (Sum.inr (Sum.inl y)) := lpO_of IR3_Way_2 XIR3_Way_2 (y := (Sum.inr (Sum.inl y))) h
theorem LR3_Way_2c_of {s : Q} {y : Nat × List PV × Int × Int × Int × Int × Nat} (h : RR3_Way_2 s = exO (XR3_Way_2c y)) : LR3_Way_2 s = some (Sum.inr (Sum.inr y)) := lpO_of IR3_Way_2 XIR3_Way_2 (y := (Sum.inr (Sum.inr y))) h
theorem UR3_Way : uniq ((blocksOf a38.body).map (·.1)) = true := by kernel_rfl
def BR3_Way_0a (F : FnT) (N : Q → Option (Ext × S)) (E : Ext × Q → Option (Ext × S)) (L0 : Q → Option YR3_Way_0) (L2 : Q → Option YR3_Way_2) (i0 : Int) (i1 : Int) (i2 : Int) (i3 : Int) (i4 : Int) (i5 : Int) (i6 : Int) (i7 : Int) : Option (Ext × S) :=
  bif (i6 != i4) then
    bindO (F 82 (RSh.one (CK.int IntKind.i64)) [(PV.int IntKind.i64 i6), (PV.int IntKind.i64 i4)]) fun (y0 : (Int)) =>
    bif (decide (y0 < (0 : Int))) then
      bindO (F 42 (RSh.one (CK.int IntKind.i64)) [(PV.int IntKind.i64 (w64 (i6 + (-1 : Int)))), (PV.int IntKind.i64 (360 : Int))]) fun (y1 : (Int)) =>
      N (TR3_Way_0b 2 [(PV.int IntKind.i64 i0), (PV.int IntKind.i64 i1), (PV.int IntKind.i64 y1), (PV.int IntKind.i64 i7)] i4 i5 y1 i7 2)
    else bindO (F 42 (RSh.one (CK.int IntKind.i64)) [(PV.int IntKind.i64 (w64 (i6 + (1 : Int)))), (PV.int IntKind.i64 (360 : Int))]) fun (y2 : (Int)) =>
    N (TR3_Way_0b 2 [(PV.int IntKind.i64 i0), (PV.int IntKind.i64 i1), (PV.int IntKind.i64 y2), (PV.int IntKind.i64 i7)] i4 i5 y2 i7 2)
  else E (XR3_Way_0a (i0, i1, i4, i5, i6, i7))
theorem BR3_Way_0a_eq (F : FnT) (N : Q → Option (Ext × S)) (E : Ext × Q → Option (Ext × S)) (L0 : Q → Option YR3_Way_0) (L2 : Q → Option YR3_Way_2) (i0 : Int) (i1 : Int) (i2 : Int) (i3 : Int) (i4 : Int) (i5 : Int) (i6 : Int) (i7 : Int) : semB (callP F ER3_Way 20) s38 (loopT [⟨0, YR3_Way_0, L0, XLR3_Way_0⟩, ⟨2, YR3_Way_2, L2, XLR3_Way_2⟩]) 400 (blkIn a38.body 0) N E (TR3_Way_0a i0 i1 i2 i3 i4 i5 i6 i7) = BR3_Way_0a F N E L0 L2 i0 i1 i2 i3 i4 i5 i6 i7 := by kernel_rfl
theorem RR3_Way_0a_of  (i0 : Int) (i1 : Int) (i2 : Int) (i3 : Int) (i4 : Int) (i5 : Int) (i6 : Int) (i7 : Int) {r : Ext × S} (h : BR3_Way_0a (Fn env) RR3_Way_0 exO LR3_Way_0 LR3_Way_2 i0 i1 i2 i3 i4 i5 i6 i7 = some r) : RR3_Way_0 (TR3_Way_0a i0 i1 i2 i3 i4 i5 i6 i7) = some r :=
  lp_of ER3_Way_ok (by kernel_rfl) (lo_cons (lpO_ok UR3_Way) (lo_cons (lpO_ok UR3_Way) lo_nil)) (by kernel_rfl) ((BR3_Way_0a_eq _ _ _ _ _ _ _ _ _ _ _ _ _).trans h)
def BR3_Way_0b (F : FnT) (N : Q → Option (Ext × S)) (E : Ext × Q → Option (Ext × S)) (L0 : Q → Option YR3_Way_0) (L2 : Q → Option YR3_Way_2) (n0 : Nat) (c1 : List PV) (i2 : Int) (i3 : Int) (i4 : Int) (i5 : Int) (n6 : Nat) : Option (Ext × S) :=
  bif (i4 != i2) then
    bindO (F 82 (RSh.one (CK.int IntKind.i64)) [(PV.int IntKind.i64 i4), (PV.int IntKind.i64 i2)]) fun (y0 : (Int)) =>
    bif (decide (y0 < (0 : Int))) then
      bindO (F 42 (RSh.one (CK.int IntKind.i64)) [(PV.int IntKind.i64 (w64 (i4 + (-1 : Int)))), (PV.int IntKind.i64 (360 : Int))]) fun (y1 : (Int)) =>
      bif (decide ((n6 = n0) ∧ ((n0 + 1) ≤ big))) then
        N (TR3_Way_0b (n0 + 1) (c1 ++ [(PV.int IntKind.i64 y1), (PV.int IntKind.i64 i5)]) i2 i3 y1 i5 (n0 + 1))
      else none
    else bindO (F 42 (RSh.one (CK.int IntKind.i64)) [(PV.int IntKind.i64 (w64 (i4 + (1 : Int)))), (PV.int IntKind.i64 (360 : Int))]) fun (y2 : (Int)) =>
    bif (decide ((n6 = n0) ∧ ((n0 + 1) ≤ big))) then
      N (TR3_Way_0b (n0 + 1) (c1 ++ [(PV.int IntKind.i64 y2), (PV.int IntKind.i64 i5)]) i2 i3 y2 i5 (n0 + 1))
    else none
  else E (XR3_Way_0b (n0, c1, i2, i3, i4, i5, n6))
theorem BR3_Way_0b_eq (F : FnT) (N : Q → Option (Ext × S)) (E : Ext × Q → Option (Ext × S)) (L0 : Q → Option YR3_Way_0) (L2 : Q → Option YR3_Way_2) (n0 : Nat) (c1 : List PV) (i2 : Int) (i3 : Int) (i4 : Int) (i5 : Int) (n6 : Nat) : semB (callP F ER3_Way 20) s38 (loopT [⟨0, YR3_Way_0, L0, XLR3_Way_0⟩, ⟨2, YR3_Way_2, L2, XLR3_Way_2⟩]) 400 (blkIn a38.body 0) N E (TR3_Way_0b n0 c1 i2 i3 i4 i5 n6) = BR3_Way_0b F N E L0 L2 n0 c1 i2 i3 i4 i5 n6 := by kernel_rfl
theorem RR3_Way_0b_of  (n0 : Nat) (c1 : List PV) (i2 : Int) (i3 : Int) (i4 : Int) (i5 : Int) (n6 : Nat) {r : Ext × S} (h : BR3_Way_0b (Fn env) RR3_Way_0 exO LR3_Way_0 LR3_Way_2 n0 c1 i2 i3 i4 i5 n6 = some r) : RR3_Way_0 (TR3_Way_0b n0 c1 i2 i3 i4 i5 n6) = some r :=
  lp_of ER3_Way_ok (by kernel_rfl) (lo_cons (lpO_ok UR3_Way) (lo_cons (lpO_ok UR3_Way) lo_nil)) (by kernel_rfl) ((BR3_Way_0b_eq _ _ _ _ _ _ _ _ _ _ _ _).trans h)
def BR3_Way_2a (F : FnT) (N : Q → Option (Ext × S)) (E : Ext × Q → Option (Ext × S)) (L0 : Q → Option YR3_Way_0) (L2 : Q → Option YR3_Way_2) (i0 : Int) (i1 : Int) (i2 : Int) (i3 : Int) (i4 : Int) (i5 : Int) : Option (Ext × S) :=
  bif (i5 != i3) then
    bif (decide (i5 < i3)) then
      N (TR3_Way_2b 2 [(PV.int IntKind.i64 i0), (PV.int IntKind.i64 i1), (PV.int IntKind.i64 i4), (PV.int IntKind.i64 (w64 (i5 + (1 : Int))))] i2 i3 i4 (w64 (i5 + (1 : Int))) 2)
    else N (TR3_Way_2b 2 [(PV.int IntKind.i64 i0), (PV.int IntKind.i64 i1), (PV.int IntKind.i64 i4), (PV.int IntKind.i64 (w64 (i5 - (1 : Int))))] i2 i3 i4 (w64 (i5 - (1 : Int))) 2)
  else E (XR3_Way_2a (i0, i1, i2, i3, i4, i5))
theorem BR3_Way_2a_eq (F : FnT) (N : Q → Option (Ext × S)) (E : Ext × Q → Option (Ext × S)) (L0 : Q → Option YR3_Way_0) (L2 : Q → Option YR3_Way_2) (i0 : Int) (i1 : Int) (i2 : Int) (i3 : Int) (i4 : Int) (i5 : Int) : semB (callP F ER3_Way 20) s38 (loopT [⟨0, YR3_Way_0, L0, XLR3_Way_0⟩, ⟨2, YR3_Way_2, L2, XLR3_Way_2⟩]) 400 (blkIn a38.body 2) N E (TR3_Way_2a i0 i1 i2 i3 i4 i5) = BR3_Way_2a F N E L0 L2 i0 i1 i2 i3 i4 i5 := by kernel_rfl
theorem RR3_Way_2a_of  (i0 : Int) (i1 : Int) (i2 : Int) (i3 : Int) (i4 : Int) (i5 : Int) {r : Ext × S} (h : BR3_Way_2a (Fn env) RR3_Way_2 exO LR3_Way_0 LR3_Way_2 i0 i1 i2 i3 i4 i5 = some r) : RR3_Way_2 (TR3_Way_2a i0 i1 i2 i3 i4 i5) = some r :=
  lp_of ER3_Way_ok (by kernel_rfl) (lo_cons (lpO_ok UR3_Way) (lo_cons (lpO_ok UR3_Way) lo_nil)) (by kernel_rfl) ((BR3_Way_2a_eq _ _ _ _ _ _ _ _ _ _ _).trans h)
def BR3_Way_2b (F : FnT) (N : Q → Option (Ext × S)) (E : Ext × Q → Option (Ext × S)) (L0 : Q → Option YR3_Way_0) (L2 : Q → Option YR3_Way_2) (n0 : Nat) (c1 : List PV) (i2 : Int) (i3 : Int) (i4 : Int) (i5 : Int) (n6 : Nat) : Option (Ext × S) :=
  bif (i5 != i3) then
    bif (decide (i5 < i3)) then
      bif (decide ((n6 = n0) ∧ ((n0 + 1) ≤ big))) then
        N (TR3_Way_2b (n0 + 1) (c1 ++ [(PV.int IntKind.i64 i4), (PV.int IntKind.i64 (w64 (i5 + (1 : Int))))]) i2 i3 i4 (w64 (i5 + (1 : Int))) (n0 + 1))
      else none
    else bif (decide ((n6 = n0) ∧ ((n0 + 1) ≤ big))) then
      N (TR3_Way_2b (n0 + 1) (c1 ++ [(PV.int IntKind.i64 i4), (PV.int IntKind.i64 (w64 (i5 - (1 : Int))))]) i2 i3 i4 (w64 (i5 - (1 : Int))) (n0 + 1))
    else none
  else E (XR3_Way_2b (n0, c1, i2, i3, i4, i5, n6))
theorem BR3_Way_2b_eq (F : FnT) (N : Q → Option (Ext × S)) (E : Ext × Q → Option (Ext × S)) (L0 : Q → Option YR3_Way_0) (L2 : Q → Option YR3_Way_2) (n0 : Nat) (c1 : List PV) (i2 : Int) (i3 : Int) (i4 : Int) (i5 : Int) (n6 : Nat) : semB (callP F ER3_Way 20) s38 (loopT [⟨0, YR3_Way_0, L0, XLR3_Way_0⟩, ⟨2, YR3_Way_2, L2, XLR3_Way_2⟩]) 400 (blkIn a38.body 2) N E (TR3_Way_2b n0 c1 i2 i3 i4 i5 n6) = BR3_Way_2b F N E L0 L2 n0 c1 i2 i3 i4 i5 n6 := by kernel_rfl
theorem RR3_Way_2b_of  (n0 : Nat) (c1 : List PV) (i2 : Int) (i3 : Int) (i4 : Int) (i5 : Int) (n6 : Nat) {r : Ext × S} (h : BR3_Way_2b (Fn env) RR3_Way_2 exO LR3_Way_0 LR3_Way_2 n0 c1 i2 i3 i4 i5 n6 = some r) : RR3_Way_2 (TR3_Way_2b n0 c1 i2 i3 i4 i5 n6) = some r :=
  lp_of ER3_Way_ok (by kernel_rfl) (lo_cons (lpO_ok UR3_Way) (lo_cons (lpO_ok UR3_Way) lo_nil)) (by kernel_rfl) ((BR3_Way_2b_eq _ _ _ _ _ _ _ _ _ _ _ _).trans h)
def BR3_Way_2c (F : FnT) (N : Q → Option (Ext × S)) (E : Ext × Q → Option (Ext × S)) (L0 : Q → Option YR3_Way_0) (L2 : Q → Option YR3_Way_2) (n0 : Nat) (c1 : List PV) (i2 : Int) (i3 : Int) (i4 : Int) (i5 : Int) (n6 : Nat) : Option (Ext × S) :=
  bif (i5 != i3) then
    bif (decide (i5 < i3)) then
      bif (decide ((n6 = n0) ∧ ((n0 + 1) ≤ big))) then
        N (TR3_Way_2c (n0 + 1) (c1 ++ [(PV.int IntKind.i64 i4), (PV.int IntKind.i64 (w64 (i5 + (1 : Int))))]) i2 i3 i4 (w64 (i5 + (1 : Int))) (n0 + 1))
      else none
    else bif (decide ((n6 = n0) ∧ ((n0 + 1) ≤ big))) then
      N (TR3_Way_2c (n0 + 1) (c1 ++ [(PV.int IntKind.i64 i4), (PV.int IntKind.i64 (w64 (i5 - (1 : Int))))]) i2 i3 i4 (w64 (i5 - (1 : Int))) (n0 + 1))
    else none
  else E (XR3_Way_2c (n0, c1, i2, i3, i4, i5, n6))
theorem BR3_Way_2c_eq (F : FnT) (N : Q → Option (Ext × S)) (E : Ext × Q → Option (Ext × S)) (L0 : Q → Option YR3_Way_0) (L2 : Q → Option YR3_Way_2) (n0 : Nat) (c1 : List PV) (i2 : Int) (i3 : Int) (i4 : Int) (i5 : Int) (n6 : Nat) : semB (callP F ER3_Way 20) s38 (loopT [⟨0, YR3_Way_0, L0, XLR3_Way_0⟩, ⟨2, YR3_Way_2, L2, XLR3_Way_2⟩]) 400 (blkIn a38.body 2) N E (TR3_Way_2c n0 c1 i2 i3 i4 i5 n6) = BR3_Way_2c F N E L0 L2 n0 c1 i2 i3 i4 i5 n6 := by kernel_rfl
theorem RR3_Way_2c_of  (n0 : Nat) (c1 : List PV) (i2 : Int) (i3 : Int) (i4 : Int) (i5 : Int) (n6 : Nat) {r : Ext × S} (h : BR3_Way_2c (Fn env) RR3_Way_2 exO LR3_Way_0 LR3_Way_2 n0 c1 i2 i3 i4 i5 n6 = some r) : RR3_Way_2 (TR3_Way_2c n0 c1 i2 i3 i4 i5 n6) = some r :=
  lp_of ER3_Way_ok (by kernel_rfl) (lo_cons (lpO_ok UR3_Way) (lo_cons (lpO_ok UR3_Way) lo_nil)) (by kernel_rfl) ((BR3_Way_2c_eq _ _ _ _ _ _ _ _ _ _ _ _).trans h)
def tR3_Way (F : FnT) (L0 : Q → Option YR3_Way_0) (L2 : Q → Option YR3_Way_2) (p0_0 : Int) (p0_1 : Int) (p1_0 : Int) (p1_1 : Int) : Option ((Nat) × (List PV)) :=
  bindO (L0 (TR3_Way_0a p0_0 p0_1 p0_0 p0_1 p1_0 p1_1 p0_0 p0_1)) fun z =>
  Sum.elim (fun y0 =>
    bindO (L2 (TR3_Way_2a y0.1 y0.2.1 y0.2.2.1 y0.2.2.2.1 y0.2.2.2.2.1 y0.2.2.2.2.2)) fun z =>
    Sum.elim (fun y1 =>
      some (1, [(PV.int IntKind.i64 y1.1), (PV.int IntKind.i64 y1.2.1)])) (fun z0 => Sum.elim (fun y2 =>
      bif (decide (y2.2.2.2.2.2.2 = y2.1)) then
        some (y2.1, y2.2.1)
      else none) (fun y3 =>
      bif (decide (y3.2.2.2.2.2.2 = y3.1)) then
        some (y3.1, y3.2.1)
      else none) z0) z) (fun y4 =>
    bindO (L2 (TR3_Way_2c y4.1 y4.2.1 y4.2.2.1 y4.2.2.2.1 y4.2.2.2.2.1 y4.2.2.2.2.2.1 y4.2.2.2.2.2.2)) fun z =>
    Sum.elim (fun y5 =>
      some (1, [(PV.int IntKind.i64 y5.1), (PV.int IntKind.i64 y5.2.1)])) (fun z0 => Sum.elim (fun y6 =>
      bif (decide (y6.2.2.2.2.2.2 = y6.1)) then
        some (y6.1, y6.2.1)
      else none) (fun y7 =>
      bif (decide (y7.2.2.2.2.2.2 = y7.1)) then
        some (y7.1, y7.2.1)
      else none) z0) z) z
theorem tR3_Way_eq (F : FnT) (L0 : Q → Option YR3_Way_0) (L2 : Q → Option YR3_Way_2) (p0_0 : Int) (p0_1 : Int) (p1_0 : Int) (p1_1 : Int) : semF (callP F ER3_Way 20) s38 (loopT [⟨0, YR3_Way_0, L0, XLR3_Way_0⟩, ⟨2, YR3_Way_2, L2, XLR3_Way_2⟩]) 400 a38 [PV.agg [PV.int IntKind.i64 p0_0, PV.int IntKind.i64 p0_1], PV.agg [PV.int IntKind.i64 p1_0, PV.int IntKind.i64 p1_1]] (fun rv => decR (RSh.one CK.list) rv.pv) = tR3_Way F L0 L2 p0_0 p0_1 p1_0 p1_1 := by kernel_rfl
noncomputable abbrev FR3_Way (args : List PV) := Fn env 38 (RSh.one CK.list) args
theorem FR3_Way_of  (p0_0 : Int) (p0_1 : Int) (p1_0 : Int) (p1_1 : Int) {res : ((Nat) × (List PV))} (h : tR3_Way (Fn env) LR3_Way_0 LR3_Way_2 p0_0 p0_1 p1_0 p1_1 = some res) : FR3_Way [PV.agg [PV.int IntKind.i64 p0_0, PV.int IntKind.i64 p0_1], PV.agg [PV.int IntKind.i64 p1_0, PV.int IntKind.i64 p1_1]] = some res :=
  fn_of ER3_Way_ok rfl rfl (lo_cons (lpO_ok UR3_Way) (lo_cons (lpO_ok UR3_Way) lo_nil)) ((tR3_Way_eq _ _ _ _ _ _ _).trans h)

/-! ### R3_lit -/

def ER3_lit : List Entry := [.out 38 (RSh.one CK.list), .out 33 (RSh.one CK.bool)]
theorem ER3_lit_ok : ∀ e ∈ ER3_lit, EntOK env e := (ent_out (ent_out ent_nil))
def TR3_lit_0a (n0 : Nat) (c1 : List PV) (i2 : Int) (i3 : Int) (i4 : Int) (i5 : Int) (i6 : Int) (i7 : Int) (n8 : Nat) (c9 : List PV) (i10 : Int) (i11 : Int) (i12 : Int) (i13 : Int) : Q := ⟨(tm 30 [(3, (AV.loc 3 0)), (6, (AV.loc 6 0)), (8, (AV.p (PV.list n0 c1))), (9, (AV.p (PV.int IntKind.i64 (0 : Int))))]), (mm 30 [(3, (Bk.cells true [(AV.p (PV.int IntKind.i64 i2)), (AV.p (PV.int IntKind.i64 i3)), (AV.p (PV.int IntKind.i64 i4)), (AV.p (PV.int IntKind.i64 i5)), (AV.p (PV.int IntKind.i64 i6)), (AV.p (PV.int IntKind.i64 i7)), (AV.p (PV.list n8 c9))])), (4, (Bk.pcs true [(PV.int IntKind.i64 i10), (PV.int IntKind.i64 i11)])), (5, (Bk.pcs true [(PV.int IntKind.i64 i12), (PV.int IntKind.i64 i13)])), (6, (Bk.pcs true [(PV.int IntKind.i64 (0 : Int)), (PV.int IntKind.i64 (0 : Int))]))])⟩
def TR3_lit_0b (n0 : Nat) (c1 : List PV) (i2 : Int) (i3 : Int) (i4 : Int) (i5 : Int) (i6 : Int) (i7 : Int) (i8 : Int) (n9 : Nat) (c10 : List PV) : Q := ⟨(tm 30 [(3, (AV.loc 3 0)), (6, (AV.loc 6 0)), (8, (AV.p (PV.list n0 c1))), (9, (AV.p (PV.int IntKind.i64 i2)))]), (mm 30 [(3, (Bk.cells true [(AV.p (PV.int IntKind.i64 i3)), (AV.p (PV.int IntKind.i64 i4)), (AV.p (PV.int IntKind.i64 i5)), (AV.p (PV.int IntKind.i64 i6)), (AV.p (PV.int IntKind.i64 i7)), (AV.p (PV.int IntKind.i64 i8)), (AV.p (PV.list n9 c10))])), (6, (Bk.pcs true [(PV.int IntKind.i64 (0 : Int)), (PV.int IntKind.i64 (0 : Int))]))])⟩
def XR3_lit_0a (y : Int × Int) : Ext × Q := (Ext.ret, ⟨(tm 30 [(6, (AV.loc 6 0)), (7, (AV.p (PV.bool true)))]), (mm 30 [(6, (Bk.pcs true [(PV.int IntKind.i64 y.1), (PV.int IntKind.i64 y.2)]))])⟩)
def IR3_lit_0a (q : Ext × S) : Int × Int := ((pP_int1 (hdP (pB_pcs1 (avM q.2 6)))), (pP_int1 (hdP (List.tail (pB_pcs1 (avM q.2 6))))))
def XR3_lit_0b (y : Int × Int × Int × Int × Int × Int × Nat × List PV) : Ext × Q := (Ext.normal, ⟨(tm 30 [(6, (AV.loc 6 0))]), (mm 30 [(3, (Bk.cells true [(AV.p (PV.int IntKind.i64 y.1)), (AV.p (PV.int IntKind.i64 y.2.1)), (AV.p (PV.int IntKind.i64 y.2.2.1)), (AV.p (PV.int IntKind.i64 y.2.2.2.1)), (AV.p (PV.int IntKind.i64 y.2.2.2.2.1)), (AV.p (PV.int IntKind.i64 y.2.2.2.2.2.1)), (AV.p (PV.list y.2.2.2.2.2.2.1 y.2.2.2.2.2.2.2))])), (6, (Bk.pcs true [(PV.int IntKind.i64 (0 : Int)), (PV.int IntKind.i64 (0 : Int))]))])⟩)
def IR3_lit_0b (q : Ext × S) : Int × Int × Int × Int × Int × Int × Nat × List PV := ((pP_int1 (pA_p (hdA (pB_cells1 (avM q.2 3))))), (pP_int1 (pA_p (hdA (List.tail (pB_cells1 (avM q.2 3)))))), (pP_int1 (pA_p (hdA (List.tail (List.tail (pB_cells1 (avM q.2 3))))))), (pP_int1 (pA_p (hdA (List.tail (List.tail (List.tail (pB_cells1 (avM q.2 3)))))))), (pP_int1 (pA_p (hdA (List.tail (List.tail (List.tail (List.tail (pB_cells1 (avM q.2 3))))))))), (pP_int1 (pA_p (hdA (List.tail (List.tail (List.tail (List.tail (List.tail (pB_cells1 (avM q.2 3)))))))))), (pP_list0 (pA_p (hdA (List.tail (List.tail (List.tail (List.tail (List.tail (List.tail (pB_cells1 (avM q.2 3))))))))))), (pP_list1 (pA_p (hdA (List.tail (List.tail (List.tail (List.tail (List.tail (List.tail (pB_cells1 (avM q.2 3))))))))))))
abbrev YR3_lit_0 : Type := (Int × Int) ⊕ ((Int × Int × Int × Int × Int × Int × Nat × List PV))
def XLR3_lit_0 : XL YR3_lit_0 := .more XR3_lit_0a (.one XR3_lit_0b)
def IR3_lit_0 (q : Ext × S) : YR3_lit_0 := bif (cE q.1 == 2) then (Sum.inl (IR3_lit_0a q)) else (Sum.inr (IR3_lit_0b q))
theorem XIR3_lit_0a (y : Int × Int) : IR3_lit_0 (xe (XR3_lit_0a y)) = (Sum.inl y) := rfl
theorem XIR3_lit_0b (y : Int × Int × Int × Int × Int × Int × Nat × List PV) : IR3_lit_0 (xe (XR3_lit_0b y)) = (Sum.inr y) := rfl
theorem XIR3_lit_0 (y : YR3_lit_0) : IR3_lit_0 (xe (XLR3_lit_0.fn y)) = y := (match y with | .inl y => XIR3_lit_0a y | .inr y => XIR3_lit_0b y)
noncomputable abbrev LR3_lit_0 : Q → Option YR3_lit_0 := lpO env a84.body 0 XLR3_lit_0
noncomputable abbrev RR3_lit_0 : Q → Option (Ext × S) := lpR env a84.body 0
theorem LR3_lit_0a_of {s : Q} {y : Int × Int} (h : RR3_lit_0 s = exO (XR3_lit_0a y)) : LR3_lit_0 s = some (Sum.inl y) := lpO_of IR3_lit_0 XIR3_lit_0 (y := (Sum.inl y)) h
theorem LR3_lit_0b_of {s : Q} {y : Int × Int × Int × Int × Int × Int × Nat × List PV} (h : RR3_lit_0 s = exO (XR3_lit_0b y)) : LR3_lit_0 s = some (Sum.inr y) := lpO_of IR3_lit_0 XIR3_lit_0 (y := (Sum.inr y)) h
theorem UR3_lit : uniq ((blocksOf a84.body).map (·.1)) = true := by kernel_rfl
def BR3_lit_0a (F : FnT) (N : Q → Option (Ext × S)) (E : Ext × Q → Option (Ext × S)) (L0 : Q → Option YR3_lit_0) (n0 : Nat) (c1 : List PV) (i2 : Int) (i3 : Int) (i4 : Int) (i5 : Int) (i6 : Int) (i7 : Int) (n8 : Nat) (c9 : List PV) (i10 : Int) (i11 : Int) (i12 : Int) (i13 : Int) : Option (Ext × S) :=
  bif (decide ((0 : Int) < (n0 : Int))) then
    bif (decide (((0 : Int) ≤ (0 : Int)) ∧ ((0 : Int) < (n0 : Int)))) then
      bindO (intC IntKind.i64 (c1[0]?)) fun x0 =>
      bindO (intC IntKind.i64 (c1[1]?)) fun x1 =>
      bindO (F 33 (RSh.one CK.bool) [(PV.agg [(PV.int IntKind.i64 i2), (PV.int IntKind.i64 i3), (PV.int IntKind.i64 i4), (PV.int IntKind.i64 i5), (PV.int IntKind.i64 i6), (PV.int IntKind.i64 i7), (PV.list n8 c9)]), (PV.agg [(PV.int IntKind.i64 x0), (PV.int IntKind.i64 x1)])]) fun (y2 : (Bool)) =>
      bif y2 then
        bif (decide (((0 : Int) ≤ (0 : Int)) ∧ ((0 : Int) < (n0 : Int)))) then
          bindO (intC IntKind.i64 (c1[0]?)) fun x3 =>
          bindO (intC IntKind.i64 (c1[1]?)) fun x4 =>
          E (XR3_lit_0a (x3, x4))
        else none
      else N (TR3_lit_0b n0 c1 (1 : Int) i2 i3 i4 i5 i6 i7 n8 c9)
    else none
  else E (XR3_lit_0b (i2, i3, i4, i5, i6, i7, n8, c9))
theorem BR3_lit_0a_eq (F : FnT) (N : Q → Option (Ext × S)) (E : Ext × Q → Option (Ext × S)) (L0 : Q → Option YR3_lit_0) (n0 : Nat) (c1 : List PV) (i2 : Int) (i3 : Int) (i4 : Int) (i5 : Int) (i6 : Int) (i7 : Int) (n8 : Nat) (c9 : List PV) (i10 : Int) (i11 : Int) (i12 : Int) (i13 : Int) : semB (callP F ER3_lit 20) s84 (loopT [⟨0, YR3_lit_0, L0, XLR3_lit_0⟩]) 400 (blkIn a84.body 0) N E (TR3_lit_0a n0 c1 i2 i3 i4 i5 i6 i7 n8 c9 i10 i11 i12 i13) = BR3_lit_0a F N E L0 n0 c1 i2 i3 i4 i5 i6 i7 n8 c9 i10 i11 i12 i13 := by kernel_rfl
theorem RR3_lit_0a_of  (n0 : Nat) (c1 : List PV) (i2 : Int) (i3 : Int) (i4 : Int) (i5 : Int) (i6 : Int) (i7 : Int) (n8 : Nat) (c9 : List PV) (i10 : Int) (i11 : Int) (i12 : Int) (i13 : Int) {r : Ext × S} (h : BR3_lit_0a (Fn env) RR3_lit_0 exO LR3_lit_0 n0 c1 i2 i3 i4 i5 i6 i7 n8 c9 i10 i11 i12 i13 = some r) : RR3_lit_0 (TR3_lit_0a n0 c1 i2 i3 i4 i5 i6 i7 n8 c9 i10 i11 i12 i13) = some r :=
  lp_of ER3_lit_ok (by kernel_rfl) (lo_cons (lpO_ok UR3_lit) lo_nil) (by kernel_rfl) ((BR3_lit_0a_eq _ _ _ _ _ _ _ _ _ _ _ _ _ _ _ _ _ _).trans h)
def BR3_lit_0b (F : FnT) (N : Q → Option (Ext × S)) (E : Ext × Q → Option (Ext × S)) (L0 : Q → Option YR3_lit_0) (n0 : Nat) (c1 : List PV) (i2 : Int) (i3 : Int) (i4 : Int) (i5 : Int) (i6 : Int) (i7 : Int) (i8 : Int) (n9 : Nat) (c10 : List PV) : Option (Ext × S) :=
  bif (decide (i2 < (n0 : Int))) then
    bif (decide (((0 : Int) ≤ i2) ∧ (i2 < (n0 : Int)))) then
      bindO (intC IntKind.i64 (c1[((Int.toNat i2) * 2)]?)) fun x0 =>
      bindO (intC IntKind.i64 (c1[(((Int.toNat i2) * 2) + 1)]?)) fun x1 =>
      bindO (F 33 (RSh.one CK.bool) [(PV.agg [(PV.int IntKind.i64 i3), (PV.int IntKind.i64 i4), (PV.int IntKind.i64 i5), (PV.int IntKind.i64 i6), (PV.int IntKind.i64 i7), (PV.int IntKind.i64 i8), (PV.list n9 c10)]), (PV.agg [(PV.int IntKind.i64 x0), (PV.int IntKind.i64 x1)])]) fun (y2 : (Bool)) =>
      bif y2 then
        bif (decide (((0 : Int) ≤ i2) ∧ (i2 < (n0 : Int)))) then
          bindO (intC IntKind.i64 (c1[((Int.toNat i2) * 2)]?)) fun x3 =>
          bindO (intC IntKind.i64 (c1[(((Int.toNat i2) * 2) + 1)]?)) fun x4 =>
          E (XR3_lit_0a (x3, x4))
        else none
      else N (TR3_lit_0b n0 c1 (w64 (i2 + (1 : Int))) i3 i4 i5 i6 i7 i8 n9 c10)
    else none
  else E (XR3_lit_0b (i3, i4, i5, i6, i7, i8, n9, c10))
theorem BR3_lit_0b_eq (F : FnT) (N : Q → Option (Ext × S)) (E : Ext × Q → Option (Ext × S)) (L0 : Q → Option YR3_lit_0) (n0 : Nat) (c1 : List PV) (i2 : Int) (i3 : Int) (i4 : Int) (i5 : Int) (i6 : Int) (i7 : Int) (i8 : Int) (n9 : Nat) (c10 : List PV) : semB (callP F ER3_lit 20) s84 (loopT [⟨0, YR3_lit_0, L0, XLR3_lit_0⟩]) 400 (blkIn a84.body 0) N E (TR3_lit_0b n0 c1 i2 i3 i4 i5 i6 i7 i8 n9 c10) = BR3_lit_0b F N E L0 n0 c1 i2 i3 i4 i5 i6 i7 i8 n9 c10 := by kernel_rfl
theorem RR3_lit_0b_of  (n0 : Nat) (c1 : List PV) (i2 : Int) (i3 : Int) (i4 : Int) (i5 : Int) (i6 : Int) (i7 : Int) (i8 : Int) (n9 : Nat) (c10 : List PV) {r : Ext × S} (h : BR3_lit_0b (Fn env) RR3_lit_0 exO LR3_lit_0 n0 c1 i2 i3 i4 i5 i6 i7 i8 n9 c10 = some r) : RR3_lit_0 (TR3_lit_0b n0 c1 i2 i3 i4 i5 i6 i7 i8 n9 c10) = some r :=
  lp_of ER3_lit_ok (by kernel_rfl) (lo_cons (lpO_ok UR3_lit) lo_nil) (by kernel_rfl) ((BR3_lit_0b_eq _ _ _ _ _ _ _ _ _ _ _ _ _ _ _).trans h)
def tR3_lit (F : FnT) (L0 : Q → Option YR3_lit_0) (p0_0 : Int) (p0_1 : Int) (p0_2 : Int) (p0_3 : Int) (p0_4 : Int) (p0_5 : Int) (p0_6n : Nat) (p0_6c : List PV) (p1_0 : Int) (p1_1 : Int) (p2_0 : Int) (p2_1 : Int) : Option ((Int) × ((Int) × (Bool))) :=
  bindO (F 38 (RSh.one CK.list) [(PV.agg [(PV.int IntKind.i64 p1_0), (PV.int IntKind.i64 p1_1)]), (PV.agg [(PV.int IntKind.i64 p2_0), (PV.int IntKind.i64 p2_1)])]) fun (y0 : ((Nat) × (List PV))) =>
  bindO (L0 (TR3_lit_0a y0.1 y0.2 p0_0 p0_1 p0_2 p0_3 p0_4 p0_5 p0_6n p0_6c p1_0 p1_1 p2_0 p2_1)) fun z =>
  Sum.elim (fun y1 =>
    some (y1.1, (y1.2, true))) (fun y2 =>
    some ((0 : Int), ((0 : Int), false))) z
theorem tR3_lit_eq (F : FnT) (L0 : Q → Option YR3_lit_0) (p0_0 : Int) (p0_1 : Int) (p0_2 : Int) (p0_3 : Int) (p0_4 : Int) (p0_5 : Int) (p0_6n : Nat) (p0_6c : List PV) (p1_0 : Int) (p1_1 : Int) (p2_0 : Int) (p2_1 : Int) : semF (callP F ER3_lit 20) s84 (loopT [⟨0, YR3_lit_0, L0, XLR3_lit_0⟩]) 400 a84 [PV.agg [PV.int IntKind.i64 p0_0, PV.int IntKind.i64 p0_1, PV.int IntKind.i64 p0_2, PV.int IntKind.i64 p0_3, PV.int IntKind.i64 p0_4, PV.int IntKind.i64 p0_5, PV.list p0_6n p0_6c], PV.agg [PV.int IntKind.i64 p1_0, PV.int IntKind.i64 p1_1], PV.agg [PV.int IntKind.i64 p2_0, PV.int IntKind.i64 p2_1]] (fun rv => decR (RSh.tup [(Prod.mk true [(CK.int IntKind.i64), (CK.int IntKind.i64)]), (Prod.mk false [CK.bool])]) rv.pv) = tR3_lit F L0 p0_0 p0_1 p0_2 p0_3 p0_4 p0_5 p0_6n p0_6c p1_0 p1_1 p2_0 p2_1 := by kernel_rfl
noncomputable abbrev FR3_lit (args : List PV) := Fn env 84 (RSh.tup [(Prod.mk true [(CK.int IntKind.i64), (CK.int IntKind.i64)]), (Prod.mk false [CK.bool])]) args
theorem FR3_lit_of  (p0_0 : Int) (p0_1 : Int) (p0_2 : Int) (p0_3 : Int) (p0_4 : Int) (p0_5 : Int) (p0_6n : Nat) (p0_6c : List PV) (p1_0 : Int) (p1_1 : Int) (p2_0 : Int) (p2_1 : Int) {res : ((Int) × ((Int) × (Bool)))} (h : tR3_lit (Fn env) LR3_lit_0 p0_0 p0_1 p0_2 p0_3 p0_4 p0_5 p0_6n p0_6c p1_0 p1_1 p2_0 p2_1 = some res) : FR3_lit [PV.agg [PV.int IntKind.i64 p0_0, PV.int IntKind.i64 p0_1, PV.int IntKind.i64 p0_2, PV.int IntKind.i64 p0_3, PV.int IntKind.i64 p0_4, PV.int IntKind.i64 p0_5, PV.list p0_6n p0_6c], PV.agg [PV.int IntKind.i64 p1_0, PV.int IntKind.i64 p1_1], PV.agg [PV.int IntKind.i64 p2_0, PV.int IntKind.i64 p2_1]] = some res :=
  fn_of ER3_lit_ok rfl rfl (lo_cons (lpO_ok UR3_lit) lo_nil) ((tR3_lit_eq _ _ _ _ _ _ _ _ _ _ _ _ _ _).trans h)

/-! ### R3_IsDark -/

def ER3_IsDark : List Entry := [.out 84 (RSh.tup [(Prod.mk true [(CK.int IntKind.i64), (CK.int IntKind.i64)]), (Prod.mk false [CK.bool])])]
theorem ER3_IsDark_ok : ∀ e ∈ ER3_IsDark, EntOK env e := (ent_out ent_nil)
theorem UR3_IsDark : uniq ((blocksOf a41.body).map (·.1)) = true := by kernel_rfl
def tR3_IsDark (F : FnT) (p0_0 : Int) (p0_1 : Int) (p0_2 : Int) (p0_3 : Int) (p0_4 : Int) (p0_5 : Int) (p0_6n : Nat) (p0_6c : List PV) (p1_0 : Int) (p1_1 : Int) (p2_0 : Int) (p2_1 : Int) : Option (Bool) :=
  bindO (F 84 (RSh.tup [(Prod.mk true [(CK.int IntKind.i64), (CK.int IntKind.i64)]), (Prod.mk false [CK.bool])]) [(PV.agg [(PV.int IntKind.i64 p0_0), (PV.int IntKind.i64 p0_1), (PV.int IntKind.i64 p0_2), (PV.int IntKind.i64 p0_3), (PV.int IntKind.i64 p0_4), (PV.int IntKind.i64 p0_5), (PV.list p0_6n p0_6c)]), (PV.agg [(PV.int IntKind.i64 p1_0), (PV.int IntKind.i64 p1_1)]), (PV.agg [(PV.int IntKind.i64 p2_0), (PV.int IntKind.i64 p2_1)])]) fun (y0 : ((Int) × ((Int) × (Bool)))) =>
  bif y0.2.2 then
    some false
  else some true
theorem tR3_IsDark_eq (F : FnT) (p0_0 : Int) (p0_1 : Int) (p0_2 : Int) (p0_3 : Int) (p0_4 : Int) (p0_5 : Int) (p0_6n : Nat) (p0_6c : List PV) (p1_0 : Int) (p1_1 : Int) (p2_0 : Int) (p2_1 : Int) : semF (callP F ER3_IsDark 20) s41 (loopT []) 400 a41 [PV.agg [PV.int IntKind.i64 p0_0, PV.int IntKind.i64 p0_1, PV.int IntKind.i64 p0_2, PV.int IntKind.i64 p0_3, PV.int IntKind.i64 p0_4, PV.int IntKind.i64 p0_5, PV.list p0_6n p0_6c], PV.agg [PV.int IntKind.i64 p1_0, PV.int IntKind.i64 p1_1], PV.agg [PV.int IntKind.i64 p2_0, PV.int IntKind.i64 p2_1]] (fun rv => decR (RSh.one CK.bool) rv.pv) = tR3_IsDark F p0_0 p0_1 p0_2 p0_3 p0_4 p0_5 p0_6n p0_6c p1_0 p1_1 p2_0 p2_1 := by kernel_rfl
noncomputable abbrev FR3_IsDark (args : List PV) := Fn env 41 (RSh.one CK.bool) args
theorem FR3_IsDark_of  (p0_0 : Int) (p0_1 : Int) (p0_2 : Int) (p0_3 : Int) (p0_4 : Int) (p0_5 : Int) (p0_6n : Nat) (p0_6c : List PV) (p1_0 : Int) (p1_1 : Int) (p2_0 : Int) (p2_1 : Int) {res : (Bool)} (h : tR3_IsDark (Fn env) p0_0 p0_1 p0_2 p0_3 p0_4 p0_5 p0_6n p0_6c p1_0 p1_1 p2_0 p2_1 = some res) : FR3_IsDark [PV.agg [PV.int IntKind.i64 p0_0, PV.int IntKind.i64 p0_1, PV.int IntKind.i64 p0_2, PV.int IntKind.i64 p0_3, PV.int IntKind.i64 p0_4, PV.int IntKind.i64 p0_5, PV.list p0_6n p0_6c], PV.agg [PV.int IntKind.i64 p1_0, PV.int IntKind.i64 p1_1], PV.agg [PV.int IntKind.i64 p2_0, PV.int IntKind.i64 p2_1]] = some res :=
  fn_of ER3_IsDark_ok rfl rfl lo_nil ((tR3_IsDark_eq _ _ _ _ _ _ _ _ _ _ _ _ _).trans h)

end Gv
