import Derived.Test.YtfhgjanheaocaaaGvEnv
import Derived.Test.YtfhgjanheaocaaaGvYm

/- What the functions do, round by round: B1. -/
namespace Gv
open Go
set_option maxRecDepth 100000
def EeIf : List Entry := []
theorem EeIf_ok : ∀ e ∈ EeIf, EntOK env e := ent_nil
def teIf (F : FnT) (p0 : Bool) (p1 : Int) : Option (Int) :=
  bif p0 then
    some p1
  else some (0 : Int)
theorem teIf_eq (F : FnT) (p0 : Bool) (p1 : Int) : semF (callP F EeIf 20) s50 (loopT []) 400 a50 [PV.bool p0, PV.int .i64 p1] (fun rv => decR (RSh.one (CK.int .i64)) rv.pv) = teIf F p0 p1 := by kernel_rfl
noncomputable abbrev FeIf (args : List PV) := Fn env 50 (RSh.one (CK.int .i64)) args
theorem FeIf_of  (p0 : Bool) (p1 : Int) {res : (Int)} (h : teIf (Fn env) p0 p1 = some res) : FeIf [PV.bool p0, PV.int .i64 p1] = some res :=
  fn_of EeIf_ok rfl rfl lo_nil ((teIf_eq _ _ _).trans h)
def ErE : List Entry := [.inl 50 a50 s50]
theorem ErE_ok : ∀ e ∈ ErE, EntOK env e := (ent_inl rfl ent_nil)
def trE (F : FnT) (p0 p1 p2 : Int) : Option (Int) :=
  bif (decide (p0 < p1)) then
    some (2 : Int)
  else bif (decide (p0 > p2)) then
    some (2 : Int)
  else some (0 : Int)
theorem trE_eq (F : FnT) (p0 p1 p2 : Int) : semF (callP F ErE 20) s56 (loopT []) 400 a56 [PV.int .i64 p0, PV.int .i64 p1, PV.int .i64 p2] (fun rv => decR (RSh.one (CK.int .i64)) rv.pv) = trE F p0 p1 p2 := by kernel_rfl
noncomputable abbrev FrE (args : List PV) := Fn env 56 (RSh.one (CK.int .i64)) args
theorem FrE_of  (p0 p1 p2 : Int) {res : (Int)} (h : trE (Fn env) p0 p1 p2 = some res) : FrE [PV.int .i64 p0, PV.int .i64 p1, PV.int .i64 p2] = some res :=
  fn_of ErE_ok rfl rfl lo_nil ((trE_eq _ _ _ _).trans h)
def EfE2 : List Entry := []
theorem EfE2_ok : ∀ e ∈ EfE2, EntOK env e := ent_nil
def tfE2 (F : FnT)(e0 e1 : Int) : Option (Int) :=
  bif (e0 != (0 : Int)) then
    some e0
  else bif (e1 != (0 : Int)) then
    some e1
  else some (0 : Int)
theorem tfE2_eq (F : FnT)(e0 e1 : Int) : semF (callP F EfE2 20) s38 (loopT []) 400 a38 [.list 2 [.int .i64 e0, .int .i64 e1]] (fun rv => decR (RSh.one (CK.int .i64)) rv.pv) = tfE2 F e0 e1 := by kernel_rfl
noncomputable abbrev FfE2 (args : List PV) := Fn env 38 (RSh.one (CK.int .i64)) args
theorem FfE2_of (e0 e1 : Int) {res : (Int)} (h : tfE2 (Fn env) e0 e1 = some res) : FfE2 [.list 2 [.int .i64 e0, .int .i64 e1]] = some res :=
  fn_of EfE2_ok rfl rfl lo_nil ((tfE2_eq _ _ _).trans h)
def EfE3 : List Entry := []
theorem EfE3_ok : ∀ e ∈ EfE3, EntOK env e := ent_nil
def tfE3 (F : FnT)(e0 e1 e2 : Int) : Option (Int) :=
  bif (e0 != (0 : Int)) then
    some e0
  else bif (e1 != (0 : Int)) then
    some e1
  else bif (e2 != (0 : Int)) then
    some e2
  else some (0 : Int)
theorem tfE3_eq (F : FnT)(e0 e1 e2 : Int) : semF (callP F EfE3 20) s38 (loopT []) 400 a38 [.list 3 [.int .i64 e0, .int .i64 e1, .int .i64 e2]] (fun rv => decR (RSh.one (CK.int .i64)) rv.pv) = tfE3 F e0 e1 e2 := by kernel_rfl
noncomputable abbrev FfE3 (args : List PV) := Fn env 38 (RSh.one (CK.int .i64)) args
theorem FfE3_of (e0 e1 e2 : Int) {res : (Int)} (h : tfE3 (Fn env) e0 e1 e2 = some res) : FfE3 [.list 3 [.int .i64 e0, .int .i64 e1, .int .i64 e2]] = some res :=
  fn_of EfE3_ok rfl rfl lo_nil ((tfE3_eq _ _ _ _).trans h)
def EfE4 : List Entry := []
theorem EfE4_ok : ∀ e ∈ EfE4, EntOK env e := ent_nil
def tfE4 (F : FnT)(e0 e1 e2 e3 : Int) : Option (Int) :=
  bif (e0 != (0 : Int)) then
    some e0
  else bif (e1 != (0 : Int)) then
    some e1
  else bif (e2 != (0 : Int)) then
    some e2
  else bif (e3 != (0 : Int)) then
    some e3
  else some (0 : Int)
theorem tfE4_eq (F : FnT)(e0 e1 e2 e3 : Int) : semF (callP F EfE4 20) s38 (loopT []) 400 a38 [.list 4 [.int .i64 e0, .int .i64 e1, .int .i64 e2, .int .i64 e3]] (fun rv => decR (RSh.one (CK.int .i64)) rv.pv) = tfE4 F e0 e1 e2 e3 := by kernel_rfl
noncomputable abbrev FfE4 (args : List PV) := Fn env 38 (RSh.one (CK.int .i64)) args
theorem FfE4_of (e0 e1 e2 e3 : Int) {res : (Int)} (h : tfE4 (Fn env) e0 e1 e2 e3 = some res) : FfE4 [.list 4 [.int .i64 e0, .int .i64 e1, .int .i64 e2, .int .i64 e3]] = some res :=
  fn_of EfE4_ok rfl rfl lo_nil ((tfE4_eq _ _ _ _ _).trans h)
def Een1 : List Entry := [.out 56 (RSh.one (CK.int .i64)), .out 38 (RSh.one (CK.int .i64))]
theorem Een1_ok : ∀ e ∈ Een1, EntOK env e := (ent_out (ent_out ent_nil))
def ten1 (F : FnT)(x0 x1 lo hi : Int) : Option (Int) :=
  bindO (F 56 (RSh.one (CK.int .i64)) [(PV.int .i64 x0), (PV.int .i64 lo), (PV.int .i64 hi)]) fun (y0 : (Int)) =>
  bindO (F 56 (RSh.one (CK.int .i64)) [(PV.int .i64 x1), (PV.int .i64 lo), (PV.int .i64 hi)]) fun (y1 : (Int)) =>
  bindO (F 38 (RSh.one (CK.int .i64)) [(PV.list 2 [(PV.int .i64 y0), (PV.int .i64 y1)])]) fun (y2 : (Int)) =>
  some y2
theorem ten1_eq (F : FnT)(x0 x1 lo hi : Int) : semF (callP F Een1 20) s96 (loopT []) 400 a96 [.agg [.int .i64 x0, .int .i64 x1], .imm [.int .i64 lo] 0, .imm [.int .i64 hi] 0] (fun rv => decR (RSh.one (CK.int .i64)) rv.pv) = ten1 F x0 x1 lo hi := by kernel_rfl
noncomputable abbrev Fen1 (args : List PV) := Fn env 96 (RSh.one (CK.int .i64)) args
theorem Fen1_of (x0 x1 lo hi : Int) {res : (Int)} (h : ten1 (Fn env) x0 x1 lo hi = some res) : Fen1 [.agg [.int .i64 x0, .int .i64 x1], .imm [.int .i64 lo] 0, .imm [.int .i64 hi] 0] = some res :=
  fn_of Een1_ok rfl rfl lo_nil ((ten1_eq _ _ _ _ _).trans h)
def Eor1 : List Entry := [.out 50 (RSh.one (CK.int .i64))]
theorem Eor1_ok : ∀ e ∈ Eor1, EntOK env e := (ent_out ent_nil)
def tor1 (F : FnT)(x0 x1 : Int) : Option (Int) :=
  bif (decide (x0 > x1)) then
    bindO (F 50 (RSh.one (CK.int .i64)) [(PV.bool true), (PV.int .i64 (9 : Int))]) fun (y0 : (Int)) =>
    some y0
  else bindO (F 50 (RSh.one (CK.int .i64)) [(PV.bool false), (PV.int .i64 (9 : Int))]) fun (y1 : (Int)) =>
  some y1
theorem tor1_eq (F : FnT)(x0 x1 : Int) : semF (callP F Eor1 20) s97 (loopT []) 400 a97 [.agg [.int .i64 x0, .int .i64 x1]] (fun rv => decR (RSh.one (CK.int .i64)) rv.pv) = tor1 F x0 x1 := by kernel_rfl
noncomputable abbrev For1 (args : List PV) := Fn env 97 (RSh.one (CK.int .i64)) args
theorem For1_of (x0 x1 : Int) {res : (Int)} (h : tor1 (Fn env) x0 x1 = some res) : For1 [.agg [.int .i64 x0, .int .i64 x1]] = some res :=
  fn_of Eor1_ok rfl rfl lo_nil ((tor1_eq _ _ _).trans h)
def EenA : List Entry := [.inl 95 a95 s95, .out 96 (RSh.one (CK.int .i64))]
theorem EenA_ok : ∀ e ∈ EenA, EntOK env e := (ent_inl rfl (ent_out ent_nil))
def tenA (F : FnT)(lo hi x0 x1 : Int) : Option (Int) :=
  bindO (F 96 (RSh.one (CK.int .i64)) [(PV.agg [(PV.int .i64 x0), (PV.int .i64 x1)]), (PV.imm [(PV.int .i64 lo)] 0), (PV.imm [(PV.int .i64 hi)] 0)]) fun (y0 : (Int)) =>
  bif (y0 != (0 : Int)) then
    some y0
  else some (0 : Int)
theorem tenA_eq (F : FnT)(lo hi x0 x1 : Int) : semF (callP F EenA 20) s78 (loopT []) 400 a78 [.int .i64 lo, .int .i64 hi, .list 1 [.int .i64 x0, .int .i64 x1]] (fun rv => decR (RSh.one (CK.int .i64)) rv.pv) = tenA F lo hi x0 x1 := by kernel_rfl
noncomputable abbrev FenA (args : List PV) := Fn env 78 (RSh.one (CK.int .i64)) args
theorem FenA_of (lo hi x0 x1 : Int) {res : (Int)} (h : tenA (Fn env) lo hi x0 x1 = some res) : FenA [.int .i64 lo, .int .i64 hi, .list 1 [.int .i64 x0, .int .i64 x1]] = some res :=
  fn_of EenA_ok rfl rfl lo_nil ((tenA_eq _ _ _ _ _).trans h)
def EenB : List Entry := [.inl 95 a95 s95, .out 96 (RSh.one (CK.int .i64))]
theorem EenB_ok : ∀ e ∈ EenB, EntOK env e := (ent_inl rfl (ent_out ent_nil))
def tenB (F : FnT)(lo hi u0 u1 v0 v1 : Int) : Option (Int) :=
  bindO (F 96 (RSh.one (CK.int .i64)) [(PV.agg [(PV.int .i64 u0), (PV.int .i64 u1)]), (PV.imm [(PV.int .i64 lo)] 0), (PV.imm [(PV.int .i64 hi)] 0)]) fun (y0 : (Int)) =>
  bif (y0 != (0 : Int)) then
    some y0
  else bindO (F 96 (RSh.one (CK.int .i64)) [(PV.agg [(PV.int .i64 v0), (PV.int .i64 v1)]), (PV.imm [(PV.int .i64 lo)] 0), (PV.imm [(PV.int .i64 hi)] 0)]) fun (y1 : (Int)) =>
  bif (y1 != (0 : Int)) then
    some y1
  else some (0 : Int)
theorem tenB_eq (F : FnT)(lo hi u0 u1 v0 v1 : Int) : semF (callP F EenB 20) s78 (loopT []) 400 a78 [.int .i64 lo, .int .i64 hi, .list 2 [.int .i64 u0, .int .i64 u1, .int .i64 v0, .int .i64 v1]] (fun rv => decR (RSh.one (CK.int .i64)) rv.pv) = tenB F lo hi u0 u1 v0 v1 := by kernel_rfl
noncomputable abbrev FenB (args : List PV) := Fn env 78 (RSh.one (CK.int .i64)) args
theorem FenB_of (lo hi u0 u1 v0 v1 : Int) {res : (Int)} (h : tenB (Fn env) lo hi u0 u1 v0 v1 = some res) : FenB [.int .i64 lo, .int .i64 hi, .list 2 [.int .i64 u0, .int .i64 u1, .int .i64 v0, .int .i64 v1]] = some res :=
  fn_of EenB_ok rfl rfl lo_nil ((tenB_eq _ _ _ _ _ _ _).trans h)
def EorC : List Entry := [.inl 95 a95 s95, .out 97 (RSh.one (CK.int .i64))]
theorem EorC_ok : ∀ e ∈ EorC, EntOK env e := (ent_inl rfl (ent_out ent_nil))
def torC (F : FnT)(u0 u1 v0 v1 x0 x1 : Int) : Option (Int) :=
  bindO (F 97 (RSh.one (CK.int .i64)) [(PV.agg [(PV.int .i64 u0), (PV.int .i64 u1)])]) fun (y0 : (Int)) =>
  bif (y0 != (0 : Int)) then
    some y0
  else bindO (F 97 (RSh.one (CK.int .i64)) [(PV.agg [(PV.int .i64 v0), (PV.int .i64 v1)])]) fun (y1 : (Int)) =>
  bif (y1 != (0 : Int)) then
    some y1
  else bindO (F 97 (RSh.one (CK.int .i64)) [(PV.agg [(PV.int .i64 x0), (PV.int .i64 x1)])]) fun (y2 : (Int)) =>
  bif (y2 != (0 : Int)) then
    some y2
  else some (0 : Int)
theorem torC_eq (F : FnT)(u0 u1 v0 v1 x0 x1 : Int) : semF (callP F EorC 20) s79 (loopT []) 400 a79 [.list 3 [.int .i64 u0, .int .i64 u1, .int .i64 v0, .int .i64 v1, .int .i64 x0, .int .i64 x1]] (fun rv => decR (RSh.one (CK.int .i64)) rv.pv) = torC F u0 u1 v0 v1 x0 x1 := by kernel_rfl
noncomputable abbrev ForC (args : List PV) := Fn env 79 (RSh.one (CK.int .i64)) args
theorem ForC_of (u0 u1 v0 v1 x0 x1 : Int) {res : (Int)} (h : torC (Fn env) u0 u1 v0 v1 x0 x1 = some res) : ForC [.list 3 [.int .i64 u0, .int .i64 u1, .int .i64 v0, .int .i64 v1, .int .i64 x0, .int .i64 x1]] = some res :=
  fn_of EorC_ok rfl rfl lo_nil ((torC_eq _ _ _ _ _ _ _).trans h)
def EcBox : List Entry := [.out 78 (RSh.one (CK.int .i64)), .out 79 (RSh.one (CK.int .i64)), .out 38 (RSh.one (CK.int .i64))]
theorem EcBox_ok : ∀ e ∈ EcBox, EntOK env e := (ent_out (ent_out (ent_out ent_nil)))
def tcBox (F : FnT) (p0_0 p0_1 p0_2 p0_3 p0_4 p0_5 : Int) : Option (Int) :=
  bindO (F 78 (RSh.one (CK.int .i64)) [(PV.int .i64 (-1000000 : Int)), (PV.int .i64 (1000000 : Int)), (PV.list 1 [(PV.int .i64 p0_0), (PV.int .i64 p0_1)])]) fun (y0 : (Int)) =>
  bindO (F 78 (RSh.one (CK.int .i64)) [(PV.int .i64 (0 : Int)), (PV.int .i64 (1000000 : Int)), (PV.list 1 [(PV.int .i64 p0_2), (PV.int .i64 p0_3)])]) fun (y1 : (Int)) =>
  bindO (F 78 (RSh.one (CK.int .i64)) [(PV.int .i64 (0 : Int)), (PV.int .i64 (10000 : Int)), (PV.list 1 [(PV.int .i64 p0_4), (PV.int .i64 p0_5)])]) fun (y2 : (Int)) =>
  bindO (F 79 (RSh.one (CK.int .i64)) [(PV.list 3 [(PV.int .i64 p0_0), (PV.int .i64 p0_1), (PV.int .i64 p0_2), (PV.int .i64 p0_3), (PV.int .i64 p0_4), (PV.int .i64 p0_5)])]) fun (y3 : (Int)) =>
  bindO (F 38 (RSh.one (CK.int .i64)) [(PV.list 4 [(PV.int .i64 y0), (PV.int .i64 y1), (PV.int .i64 y2), (PV.int .i64 y3)])]) fun (y4 : (Int)) =>
  some y4
theorem tcBox_eq (F : FnT) (p0_0 p0_1 p0_2 p0_3 p0_4 p0_5 : Int) : semF (callP F EcBox 20) s48 (loopT []) 400 a48 [PV.agg [PV.int .i64 p0_0, PV.int .i64 p0_1, PV.int .i64 p0_2, PV.int .i64 p0_3, PV.int .i64 p0_4, PV.int .i64 p0_5]] (fun rv => decR (RSh.one (CK.int .i64)) rv.pv) = tcBox F p0_0 p0_1 p0_2 p0_3 p0_4 p0_5 := by kernel_rfl
noncomputable abbrev FcBox (args : List PV) := Fn env 48 (RSh.one (CK.int .i64)) args
theorem FcBox_of  (p0_0 p0_1 p0_2 p0_3 p0_4 p0_5 : Int) {res : (Int)} (h : tcBox (Fn env) p0_0 p0_1 p0_2 p0_3 p0_4 p0_5 = some res) : FcBox [PV.agg [PV.int .i64 p0_0, PV.int .i64 p0_1, PV.int .i64 p0_2, PV.int .i64 p0_3, PV.int .i64 p0_4, PV.int .i64 p0_5]] = some res :=
  fn_of EcBox_ok rfl rfl lo_nil ((tcBox_eq _ _ _ _ _ _ _).trans h)
def EdriE : List Entry := [.out 78 (RSh.one (CK.int .i64)), .out 79 (RSh.one (CK.int .i64)), .out 38 (RSh.one (CK.int .i64))]
theorem EdriE_ok : ∀ e ∈ EdriE, EntOK env e := (ent_out (ent_out (ent_out ent_nil)))
def tdriE (F : FnT) (p0_0 p0_1 p0_2 p0_3 p0_4 p0_5 : Int) : Option (Int) :=
  bindO (F 78 (RSh.one (CK.int .i64)) [(PV.int .i64 (-100 : Int)), (PV.int .i64 (100 : Int)), (PV.list 1 [(PV.int .i64 p0_0), (PV.int .i64 p0_1)])]) fun (y0 : (Int)) =>
  bindO (F 78 (RSh.one (CK.int .i64)) [(PV.int .i64 (0 : Int)), (PV.int .i64 (100 : Int)), (PV.list 2 [(PV.int .i64 p0_2), (PV.int .i64 p0_3), (PV.int .i64 p0_4), (PV.int .i64 p0_5)])]) fun (y1 : (Int)) =>
  bindO (F 79 (RSh.one (CK.int .i64)) [(PV.list 3 [(PV.int .i64 p0_0), (PV.int .i64 p0_1), (PV.int .i64 p0_2), (PV.int .i64 p0_3), (PV.int .i64 p0_4), (PV.int .i64 p0_5)])]) fun (y2 : (Int)) =>
  bindO (F 38 (RSh.one (CK.int .i64)) [(PV.list 3 [(PV.int .i64 y0), (PV.int .i64 y1), (PV.int .i64 y2)])]) fun (y3 : (Int)) =>
  some y3
theorem tdriE_eq (F : FnT) (p0_0 p0_1 p0_2 p0_3 p0_4 p0_5 : Int) : semF (callP F EdriE 20) s49 (loopT []) 400 a49 [PV.agg [PV.int .i64 p0_0, PV.int .i64 p0_1, PV.int .i64 p0_2, PV.int .i64 p0_3, PV.int .i64 p0_4, PV.int .i64 p0_5]] (fun rv => decR (RSh.one (CK.int .i64)) rv.pv) = tdriE F p0_0 p0_1 p0_2 p0_3 p0_4 p0_5 := by kernel_rfl
noncomputable abbrev FdriE (args : List PV) := Fn env 49 (RSh.one (CK.int .i64)) args
theorem FdriE_of  (p0_0 p0_1 p0_2 p0_3 p0_4 p0_5 : Int) {res : (Int)} (h : tdriE (Fn env) p0_0 p0_1 p0_2 p0_3 p0_4 p0_5 = some res) : FdriE [PV.agg [PV.int .i64 p0_0, PV.int .i64 p0_1, PV.int .i64 p0_2, PV.int .i64 p0_3, PV.int .i64 p0_4, PV.int .i64 p0_5]] = some res :=
  fn_of EdriE_ok rfl rfl lo_nil ((tdriE_eq _ _ _ _ _ _ _).trans h)
def Eless : List Entry := []
theorem Eless_ok : ∀ e ∈ Eless, EntOK env e := ent_nil
def tless (F : FnT) (p0_0 p0_1 p1_0 p1_1 p2 : Int) : Option ((Int) × (Int)) :=
  some ((if ((w64 (p0_0 - (w64 (p2 * p1_1)))) > (0 : Int)) then (w64 (p0_0 - (w64 (p2 * p1_1)))) else (0 : Int)), (if ((w64 (p0_1 - (w64 (p2 * p1_0)))) > (0 : Int)) then (w64 (p0_1 - (w64 (p2 * p1_0)))) else (0 : Int)))
theorem tless_eq (F : FnT) (p0_0 p0_1 p1_0 p1_1 p2 : Int) : semF (callP F Eless 20) s82 (loopT []) 400 a82 [PV.agg [PV.int .i64 p0_0, PV.int .i64 p0_1], PV.agg [PV.int .i64 p1_0, PV.int .i64 p1_1], PV.int .i64 p2] (fun rv => decR (RSh.agg [(CK.int .i64), (CK.int .i64)]) rv.pv) = tless F p0_0 p0_1 p1_0 p1_1 p2 := by kernel_rfl
noncomputable abbrev Fless (args : List PV) := Fn env 82 (RSh.agg [(CK.int .i64), (CK.int .i64)]) args
theorem Fless_of  (p0_0 p0_1 p1_0 p1_1 p2 : Int) {res : ((Int) × (Int))} (h : tless (Fn env) p0_0 p0_1 p1_0 p1_1 p2 = some res) : Fless [PV.agg [PV.int .i64 p0_0, PV.int .i64 p0_1], PV.agg [PV.int .i64 p1_0, PV.int .i64 p1_1], PV.int .i64 p2] = some res :=
  fn_of Eless_ok rfl rfl lo_nil ((tless_eq _ _ _ _ _ _).trans h)
def EbAft : List Entry := [.out 82 (RSh.agg [(CK.int .i64), (CK.int .i64)])]
theorem EbAft_ok : ∀ e ∈ EbAft, EntOK env e := (ent_out ent_nil)
def tbAft (F : FnT) (p0_0 p0_1 p0_2 p0_3 p0_4 p0_5 p1_0 p1_1 p1_2 p1_3 p1_4 p1_5 p2 : Int) : Option ((Int) × ((Int) × ((Int) × ((Int) × ((Int) × (Int)))))) :=
  bindO (F 82 (RSh.agg [(CK.int .i64), (CK.int .i64)]) [(PV.agg [(PV.int .i64 p0_2), (PV.int .i64 p0_3)]), (PV.agg [(PV.int .i64 p1_2), (PV.int .i64 p1_3)]), (PV.int .i64 p2)]) fun (y0 : ((Int) × (Int))) =>
  bindO (F 82 (RSh.agg [(CK.int .i64), (CK.int .i64)]) [(PV.agg [(PV.int .i64 p0_4), (PV.int .i64 p0_5)]), (PV.agg [(PV.int .i64 p1_4), (PV.int .i64 p1_5)]), (PV.int .i64 p2)]) fun (y1 : ((Int) × (Int))) =>
  some ((w64 (p0_0 + (w64 (p2 * p1_0)))), ((w64 (p0_1 + (w64 (p2 * p1_1)))), (y0.1, (y0.2, (y1.1, y1.2)))))
theorem tbAft_eq (F : FnT) (p0_0 p0_1 p0_2 p0_3 p0_4 p0_5 p1_0 p1_1 p1_2 p1_3 p1_4 p1_5 p2 : Int) : semF (callP F EbAft 20) s55 (loopT []) 400 a55 [PV.agg [PV.int .i64 p0_0, PV.int .i64 p0_1, PV.int .i64 p0_2, PV.int .i64 p0_3, PV.int .i64 p0_4, PV.int .i64 p0_5], PV.agg [PV.int .i64 p1_0, PV.int .i64 p1_1, PV.int .i64 p1_2, PV.int .i64 p1_3, PV.int .i64 p1_4, PV.int .i64 p1_5], PV.int .i64 p2] (fun rv => decR (RSh.agg [(CK.int .i64), (CK.int .i64), (CK.int .i64), (CK.int .i64), (CK.int .i64), (CK.int .i64)]) rv.pv) = tbAft F p0_0 p0_1 p0_2 p0_3 p0_4 p0_5 p1_0 p1_1 p1_2 p1_3 p1_4 p1_5 p2 := by kernel_rfl
noncomputable abbrev FbAft (args : List PV) := Fn env 55 (RSh.agg [(CK.int .i64), (CK.int .i64), (CK.int .i64), (CK.int .i64), (CK.int .i64), (CK.int .i64)]) args
theorem FbAft_of  (p0_0 p0_1 p0_2 p0_3 p0_4 p0_5 p1_0 p1_1 p1_2 p1_3 p1_4 p1_5 p2 : Int) {res : ((Int) × ((Int) × ((Int) × ((Int) × ((Int) × (Int))))))} (h : tbAft (Fn env) p0_0 p0_1 p0_2 p0_3 p0_4 p0_5 p1_0 p1_1 p1_2 p1_3 p1_4 p1_5 p2 = some res) : FbAft [PV.agg [PV.int .i64 p0_0, PV.int .i64 p0_1, PV.int .i64 p0_2, PV.int .i64 p0_3, PV.int .i64 p0_4, PV.int .i64 p0_5], PV.agg [PV.int .i64 p1_0, PV.int .i64 p1_1, PV.int .i64 p1_2, PV.int .i64 p1_3, PV.int .i64 p1_4, PV.int .i64 p1_5], PV.int .i64 p2] = some res :=
  fn_of EbAft_ok rfl rfl lo_nil ((tbAft_eq _ _ _ _ _ _ _ _ _ _ _ _ _ _).trans h)
def EboxA : List Entry := [.out 48 (RSh.one (CK.int .i64)), .out 49 (RSh.one (CK.int .i64)), .out 56 (RSh.one (CK.int .i64)), .out 38 (RSh.one (CK.int .i64)), .out 55 (RSh.agg [(CK.int .i64), (CK.int .i64), (CK.int .i64), (CK.int .i64), (CK.int .i64), (CK.int .i64)])]
theorem EboxA_ok : ∀ e ∈ EboxA, EntOK env e := (ent_out (ent_out (ent_out (ent_out (ent_out ent_nil)))))
def tboxA (F : FnT) (p0_0 p0_1 p0_2 p0_3 p0_4 p0_5 p1_0 p1_1 p1_2 p1_3 p1_4 p1_5 p2 : Int) : Option ((Int) × ((Int) × ((Int) × ((Int) × ((Int) × ((Int) × (Int))))))) :=
  bindO (F 48 (RSh.one (CK.int .i64)) [(PV.agg [(PV.int .i64 p0_0), (PV.int .i64 p0_1), (PV.int .i64 p0_2), (PV.int .i64 p0_3), (PV.int .i64 p0_4), (PV.int .i64 p0_5)])]) fun (y0 : (Int)) =>
  bindO (F 49 (RSh.one (CK.int .i64)) [(PV.agg [(PV.int .i64 p1_0), (PV.int .i64 p1_1), (PV.int .i64 p1_2), (PV.int .i64 p1_3), (PV.int .i64 p1_4), (PV.int .i64 p1_5)])]) fun (y1 : (Int)) =>
  bindO (F 56 (RSh.one (CK.int .i64)) [(PV.int .i64 p2), (PV.int .i64 (0 : Int)), (PV.int .i64 (1000 : Int))]) fun (y2 : (Int)) =>
  bindO (F 38 (RSh.one (CK.int .i64)) [(PV.list 3 [(PV.int .i64 y0), (PV.int .i64 y1), (PV.int .i64 y2)])]) fun (y3 : (Int)) =>
  bif (y3 != (0 : Int)) then
    some ((0 : Int), ((0 : Int), ((0 : Int), ((0 : Int), ((0 : Int), ((0 : Int), y3))))))
  else bindO (F 55 (RSh.agg [(CK.int .i64), (CK.int .i64), (CK.int .i64), (CK.int .i64), (CK.int .i64), (CK.int .i64)]) [(PV.agg [(PV.int .i64 p0_0), (PV.int .i64 p0_1), (PV.int .i64 p0_2), (PV.int .i64 p0_3), (PV.int .i64 p0_4), (PV.int .i64 p0_5)]), (PV.agg [(PV.int .i64 p1_0), (PV.int .i64 p1_1), (PV.int .i64 p1_2), (PV.int .i64 p1_3), (PV.int .i64 p1_4), (PV.int .i64 p1_5)]), (PV.int .i64 p2)]) fun (y4 : ((Int) × ((Int) × ((Int) × ((Int) × ((Int) × (Int))))))) =>
  some (y4.1, (y4.2.1, (y4.2.2.1, (y4.2.2.2.1, (y4.2.2.2.2.1, (y4.2.2.2.2.2, (0 : Int)))))))
theorem tboxA_eq (F : FnT) (p0_0 p0_1 p0_2 p0_3 p0_4 p0_5 p1_0 p1_1 p1_2 p1_3 p1_4 p1_5 p2 : Int) : semF (callP F EboxA 20) s17 (loopT []) 400 a17 [PV.agg [PV.int .i64 p0_0, PV.int .i64 p0_1, PV.int .i64 p0_2, PV.int .i64 p0_3, PV.int .i64 p0_4, PV.int .i64 p0_5], PV.agg [PV.int .i64 p1_0, PV.int .i64 p1_1, PV.int .i64 p1_2, PV.int .i64 p1_3, PV.int .i64 p1_4, PV.int .i64 p1_5], PV.int .i64 p2] (fun rv => decR (RSh.tup [(Prod.mk true [(CK.int .i64), (CK.int .i64), (CK.int .i64), (CK.int .i64), (CK.int .i64), (CK.int .i64)]), (Prod.mk false [(CK.int .i64)])]) rv.pv) = tboxA F p0_0 p0_1 p0_2 p0_3 p0_4 p0_5 p1_0 p1_1 p1_2 p1_3 p1_4 p1_5 p2 := by kernel_rfl
noncomputable abbrev FboxA (args : List PV) := Fn env 17 (RSh.tup [(Prod.mk true [(CK.int .i64), (CK.int .i64), (CK.int .i64), (CK.int .i64), (CK.int .i64), (CK.int .i64)]), (Prod.mk false [(CK.int .i64)])]) args
theorem FboxA_of  (p0_0 p0_1 p0_2 p0_3 p0_4 p0_5 p1_0 p1_1 p1_2 p1_3 p1_4 p1_5 p2 : Int) {res : ((Int) × ((Int) × ((Int) × ((Int) × ((Int) × ((Int) × (Int)))))))} (h : tboxA (Fn env) p0_0 p0_1 p0_2 p0_3 p0_4 p0_5 p1_0 p1_1 p1_2 p1_3 p1_4 p1_5 p2 = some res) : FboxA [PV.agg [PV.int .i64 p0_0, PV.int .i64 p0_1, PV.int .i64 p0_2, PV.int .i64 p0_3, PV.int .i64 p0_4, PV.int .i64 p0_5], PV.agg [PV.int .i64 p1_0, PV.int .i64 p1_1, PV.int .i64 p1_2, PV.int .i64 p1_3, PV.int .i64 p1_4, PV.int .i64 p1_5], PV.int .i64 p2] = some res :=
  fn_of EboxA_ok rfl rfl lo_nil ((tboxA_eq _ _ _ _ _ _ _ _ _ _ _ _ _ _).trans h)
def EisW : List Entry := [.inl 81 a81 s81]
theorem EisW_ok : ∀ e ∈ EisW, EntOK env e := (ent_inl rfl ent_nil)
def tisW (F : FnT) (p0_0 p0_1 p0_2 p0_3 p0_4 p0_5 p1_0 p1_1 p1_2 p1_3 p1_4 p1_5 : Int) : Option (Bool) :=
  bif (decide (p0_0 < p1_0)) then
    some false
  else bif (decide (p0_1 > p1_1)) then
    some false
  else bif (decide (p0_2 < p1_2)) then
    some false
  else bif (decide (p0_3 > p1_3)) then
    some false
  else bif (decide (p0_4 < p1_4)) then
    some false
  else bif (decide (p0_5 > p1_5)) then
    some false
  else some true
theorem tisW_eq (F : FnT) (p0_0 p0_1 p0_2 p0_3 p0_4 p0_5 p1_0 p1_1 p1_2 p1_3 p1_4 p1_5 : Int) : semF (callP F EisW 20) s54 (loopT []) 400 a54 [PV.agg [PV.int .i64 p0_0, PV.int .i64 p0_1, PV.int .i64 p0_2, PV.int .i64 p0_3, PV.int .i64 p0_4, PV.int .i64 p0_5], PV.agg [PV.int .i64 p1_0, PV.int .i64 p1_1, PV.int .i64 p1_2, PV.int .i64 p1_3, PV.int .i64 p1_4, PV.int .i64 p1_5]] (fun rv => decR (RSh.one CK.bool) rv.pv) = tisW F p0_0 p0_1 p0_2 p0_3 p0_4 p0_5 p1_0 p1_1 p1_2 p1_3 p1_4 p1_5 := by kernel_rfl
noncomputable abbrev FisW (args : List PV) := Fn env 54 (RSh.one CK.bool) args
theorem FisW_of  (p0_0 p0_1 p0_2 p0_3 p0_4 p0_5 p1_0 p1_1 p1_2 p1_3 p1_4 p1_5 : Int) {res : (Bool)} (h : tisW (Fn env) p0_0 p0_1 p0_2 p0_3 p0_4 p0_5 p1_0 p1_1 p1_2 p1_3 p1_4 p1_5 = some res) : FisW [PV.agg [PV.int .i64 p0_0, PV.int .i64 p0_1, PV.int .i64 p0_2, PV.int .i64 p0_3, PV.int .i64 p0_4, PV.int .i64 p0_5], PV.agg [PV.int .i64 p1_0, PV.int .i64 p1_1, PV.int .i64 p1_2, PV.int .i64 p1_3, PV.int .i64 p1_4, PV.int .i64 p1_5]] = some res :=
  fn_of EisW_ok rfl rfl lo_nil ((tisW_eq _ _ _ _ _ _ _ _ _ _ _ _ _).trans h)
def Emeet : List Entry := [.inl 81 a81 s81]
theorem Emeet_ok : ∀ e ∈ Emeet, EntOK env e := (ent_inl rfl ent_nil)
def tmeet (F : FnT) (p0_0 p0_1 p0_2 p0_3 p0_4 p0_5 p1_0 p1_1 p1_2 p1_3 p1_4 p1_5 : Int) : Option ((Int) × ((Int) × ((Int) × ((Int) × ((Int) × (Int)))))) :=
  some ((if (p1_0 > p0_0) then p1_0 else p0_0), ((if (p1_1 < p0_1) then p1_1 else p0_1), ((if (p1_2 > p0_2) then p1_2 else p0_2), ((if (p1_3 < p0_3) then p1_3 else p0_3), ((if (p1_4 > p0_4) then p1_4 else p0_4), (if (p1_5 < p0_5) then p1_5 else p0_5))))))
theorem tmeet_eq (F : FnT) (p0_0 p0_1 p0_2 p0_3 p0_4 p0_5 p1_0 p1_1 p1_2 p1_3 p1_4 p1_5 : Int) : semF (callP F Emeet 20) s57 (loopT []) 400 a57 [PV.agg [PV.int .i64 p0_0, PV.int .i64 p0_1, PV.int .i64 p0_2, PV.int .i64 p0_3, PV.int .i64 p0_4, PV.int .i64 p0_5], PV.agg [PV.int .i64 p1_0, PV.int .i64 p1_1, PV.int .i64 p1_2, PV.int .i64 p1_3, PV.int .i64 p1_4, PV.int .i64 p1_5]] (fun rv => decR (RSh.agg [(CK.int .i64), (CK.int .i64), (CK.int .i64), (CK.int .i64), (CK.int .i64), (CK.int .i64)]) rv.pv) = tmeet F p0_0 p0_1 p0_2 p0_3 p0_4 p0_5 p1_0 p1_1 p1_2 p1_3 p1_4 p1_5 := by kernel_rfl
noncomputable abbrev Fmeet (args : List PV) := Fn env 57 (RSh.agg [(CK.int .i64), (CK.int .i64), (CK.int .i64), (CK.int .i64), (CK.int .i64), (CK.int .i64)]) args
theorem Fmeet_of  (p0_0 p0_1 p0_2 p0_3 p0_4 p0_5 p1_0 p1_1 p1_2 p1_3 p1_4 p1_5 : Int) {res : ((Int) × ((Int) × ((Int) × ((Int) × ((Int) × (Int))))))} (h : tmeet (Fn env) p0_0 p0_1 p0_2 p0_3 p0_4 p0_5 p1_0 p1_1 p1_2 p1_3 p1_4 p1_5 = some res) : Fmeet [PV.agg [PV.int .i64 p0_0, PV.int .i64 p0_1, PV.int .i64 p0_2, PV.int .i64 p0_3, PV.int .i64 p0_4, PV.int .i64 p0_5], PV.agg [PV.int .i64 p1_0, PV.int .i64 p1_1, PV.int .i64 p1_2, PV.int .i64 p1_3, PV.int .i64 p1_4, PV.int .i64 p1_5]] = some res :=
  fn_of Emeet_ok rfl rfl lo_nil ((tmeet_eq _ _ _ _ _ _ _ _ _ _ _ _ _).trans h)
def EisEm : List Entry := [.out 79 (RSh.one (CK.int .i64))]
theorem EisEm_ok : ∀ e ∈ EisEm, EntOK env e := (ent_out ent_nil)
def tisEm (F : FnT) (p0_0 p0_1 p0_2 p0_3 p0_4 p0_5 : Int) : Option (Bool) :=
  bindO (F 79 (RSh.one (CK.int .i64)) [(PV.list 3 [(PV.int .i64 p0_0), (PV.int .i64 p0_1), (PV.int .i64 p0_2), (PV.int .i64 p0_3), (PV.int .i64 p0_4), (PV.int .i64 p0_5)])]) fun (y0 : (Int)) =>
  bif (y0 != (0 : Int)) then
    some true
  else some false
theorem tisEm_eq (F : FnT) (p0_0 p0_1 p0_2 p0_3 p0_4 p0_5 : Int) : semF (callP F EisEm 20) s58 (loopT []) 400 a58 [PV.agg [PV.int .i64 p0_0, PV.int .i64 p0_1, PV.int .i64 p0_2, PV.int .i64 p0_3, PV.int .i64 p0_4, PV.int .i64 p0_5]] (fun rv => decR (RSh.one CK.bool) rv.pv) = tisEm F p0_0 p0_1 p0_2 p0_3 p0_4 p0_5 := by kernel_rfl
noncomputable abbrev FisEm (args : List PV) := Fn env 58 (RSh.one CK.bool) args
theorem FisEm_of  (p0_0 p0_1 p0_2 p0_3 p0_4 p0_5 : Int) {res : (Bool)} (h : tisEm (Fn env) p0_0 p0_1 p0_2 p0_3 p0_4 p0_5 = some res) : FisEm [PV.agg [PV.int .i64 p0_0, PV.int .i64 p0_1, PV.int .i64 p0_2, PV.int .i64 p0_3, PV.int .i64 p0_4, PV.int .i64 p0_5]] = some res :=
  fn_of EisEm_ok rfl rfl lo_nil ((tisEm_eq _ _ _ _ _ _ _).trans h)
def EmeetO : List Entry := [.out 48 (RSh.one (CK.int .i64)), .out 38 (RSh.one (CK.int .i64)), .out 57 (RSh.agg [(CK.int .i64), (CK.int .i64), (CK.int .i64), (CK.int .i64), (CK.int .i64), (CK.int .i64)]), .out 58 (RSh.one CK.bool)]
theorem EmeetO_ok : ∀ e ∈ EmeetO, EntOK env e := (ent_out (ent_out (ent_out (ent_out ent_nil))))
def tmeetO (F : FnT) (p0_0 p0_1 p0_2 p0_3 p0_4 p0_5 p1_0 p1_1 p1_2 p1_3 p1_4 p1_5 : Int) : Option ((Int) × ((Int) × ((Int) × ((Int) × ((Int) × ((Int) × (Int))))))) :=
  bindO (F 48 (RSh.one (CK.int .i64)) [(PV.agg [(PV.int .i64 p0_0), (PV.int .i64 p0_1), (PV.int .i64 p0_2), (PV.int .i64 p0_3), (PV.int .i64 p0_4), (PV.int .i64 p0_5)])]) fun (y0 : (Int)) =>
  bindO (F 48 (RSh.one (CK.int .i64)) [(PV.agg [(PV.int .i64 p1_0), (PV.int .i64 p1_1), (PV.int .i64 p1_2), (PV.int .i64 p1_3), (PV.int .i64 p1_4), (PV.int .i64 p1_5)])]) fun (y1 : (Int)) =>
  bindO (F 38 (RSh.one (CK.int .i64)) [(PV.list 2 [(PV.int .i64 y0), (PV.int .i64 y1)])]) fun (y2 : (Int)) =>
  bif (y2 != (0 : Int)) then
    some ((0 : Int), ((0 : Int), ((0 : Int), ((0 : Int), ((0 : Int), ((0 : Int), y2))))))
  else bindO (F 57 (RSh.agg [(CK.int .i64), (CK.int .i64), (CK.int .i64), (CK.int .i64), (CK.int .i64), (CK.int .i64)]) [(PV.agg [(PV.int .i64 p0_0), (PV.int .i64 p0_1), (PV.int .i64 p0_2), (PV.int .i64 p0_3), (PV.int .i64 p0_4), (PV.int .i64 p0_5)]), (PV.agg [(PV.int .i64 p1_0), (PV.int .i64 p1_1), (PV.int .i64 p1_2), (PV.int .i64 p1_3), (PV.int .i64 p1_4), (PV.int .i64 p1_5)])]) fun (y3 : ((Int) × ((Int) × ((Int) × ((Int) × ((Int) × (Int))))))) =>
  bindO (F 58 (RSh.one CK.bool) [(PV.agg [(PV.int .i64 y3.1), (PV.int .i64 y3.2.1), (PV.int .i64 y3.2.2.1), (PV.int .i64 y3.2.2.2.1), (PV.int .i64 y3.2.2.2.2.1), (PV.int .i64 y3.2.2.2.2.2)])]) fun (y4 : (Bool)) =>
  bif y4 then
    some ((0 : Int), ((0 : Int), ((0 : Int), ((0 : Int), ((0 : Int), ((0 : Int), (13 : Int)))))))
  else some (y3.1, (y3.2.1, (y3.2.2.1, (y3.2.2.2.1, (y3.2.2.2.2.1, (y3.2.2.2.2.2, (0 : Int)))))))
theorem tmeetO_eq (F : FnT) (p0_0 p0_1 p0_2 p0_3 p0_4 p0_5 p1_0 p1_1 p1_2 p1_3 p1_4 p1_5 : Int) : semF (callP F EmeetO 20) s19 (loopT []) 400 a19 [PV.agg [PV.int .i64 p0_0, PV.int .i64 p0_1, PV.int .i64 p0_2, PV.int .i64 p0_3, PV.int .i64 p0_4, PV.int .i64 p0_5], PV.agg [PV.int .i64 p1_0, PV.int .i64 p1_1, PV.int .i64 p1_2, PV.int .i64 p1_3, PV.int .i64 p1_4, PV.int .i64 p1_5]] (fun rv => decR (RSh.tup [(Prod.mk true [(CK.int .i64), (CK.int .i64), (CK.int .i64), (CK.int .i64), (CK.int .i64), (CK.int .i64)]), (Prod.mk false [(CK.int .i64)])]) rv.pv) = tmeetO F p0_0 p0_1 p0_2 p0_3 p0_4 p0_5 p1_0 p1_1 p1_2 p1_3 p1_4 p1_5 := by kernel_rfl
noncomputable abbrev FmeetO (args : List PV) := Fn env 19 (RSh.tup [(Prod.mk true [(CK.int .i64), (CK.int .i64), (CK.int .i64), (CK.int .i64), (CK.int .i64), (CK.int .i64)]), (Prod.mk false [(CK.int .i64)])]) args
theorem FmeetO_of  (p0_0 p0_1 p0_2 p0_3 p0_4 p0_5 p1_0 p1_1 p1_2 p1_3 p1_4 p1_5 : Int) {res : ((Int) × ((Int) × ((Int) × ((Int) × ((Int) × ((Int) × (Int)))))))} (h : tmeetO (Fn env) p0_0 p0_1 p0_2 p0_3 p0_4 p0_5 p1_0 p1_1 p1_2 p1_3 p1_4 p1_5 = some res) : FmeetO [PV.agg [PV.int .i64 p0_0, PV.int .i64 p0_1, PV.int .i64 p0_2, PV.int .i64 p0_3, PV.int .i64 p0_4, PV.int .i64 p0_5], PV.agg [PV.int .i64 p1_0, PV.int .i64 p1_1, PV.int .i64 p1_2, PV.int .i64 p1_3, PV.int .i64 p1_4, PV.int .i64 p1_5]] = some res :=
  fn_of EmeetO_ok rfl rfl lo_nil ((tmeetO_eq _ _ _ _ _ _ _ _ _ _ _ _ _).trans h)
def EboxO : List Entry := []
theorem EboxO_ok : ∀ e ∈ EboxO, EntOK env e := ent_nil
def tboxO (F : FnT) (p0_0 p0_1 p0_2 : Int) : Option ((Int) × ((Int) × ((Int) × ((Int) × ((Int) × (Int)))))) :=
  some (p0_0, (p0_0, (p0_1, (p0_1, (p0_2, p0_2)))))
theorem tboxO_eq (F : FnT) (p0_0 p0_1 p0_2 : Int) : semF (callP F EboxO 20) s53 (loopT []) 400 a53 [PV.agg [PV.int .i64 p0_0, PV.int .i64 p0_1, PV.int .i64 p0_2]] (fun rv => decR (RSh.agg [(CK.int .i64), (CK.int .i64), (CK.int .i64), (CK.int .i64), (CK.int .i64), (CK.int .i64)]) rv.pv) = tboxO F p0_0 p0_1 p0_2 := by kernel_rfl
noncomputable abbrev FboxO (args : List PV) := Fn env 53 (RSh.agg [(CK.int .i64), (CK.int .i64), (CK.int .i64), (CK.int .i64), (CK.int .i64), (CK.int .i64)]) args
theorem FboxO_of  (p0_0 p0_1 p0_2 : Int) {res : ((Int) × ((Int) × ((Int) × ((Int) × ((Int) × (Int))))))} (h : tboxO (Fn env) p0_0 p0_1 p0_2 = some res) : FboxO [PV.agg [PV.int .i64 p0_0, PV.int .i64 p0_1, PV.int .i64 p0_2]] = some res :=
  fn_of EboxO_ok rfl rfl lo_nil ((tboxO_eq _ _ _ _).trans h)
def EregO : List Entry := []
theorem EregO_ok : ∀ e ∈ EregO, EntOK env e := ent_nil
def tregO (F : FnT) (p0_0 p0_1 p0_2 p0_3 p0_4 p0_5 p0_6 : Int) : Option ((Int) × ((Int) × ((Int) × ((Int) × ((Int) × (Int)))))) :=
  some (p0_0, (p0_1, (p0_2, (p0_3, (p0_4, (10000 : Int))))))
theorem tregO_eq (F : FnT) (p0_0 p0_1 p0_2 p0_3 p0_4 p0_5 p0_6 : Int) : semF (callP F EregO 20) s61 (loopT []) 400 a61 [PV.agg [PV.int .i64 p0_0, PV.int .i64 p0_1, PV.int .i64 p0_2, PV.int .i64 p0_3, PV.int .i64 p0_4, PV.int .i64 p0_5, PV.int .i64 p0_6]] (fun rv => decR (RSh.agg [(CK.int .i64), (CK.int .i64), (CK.int .i64), (CK.int .i64), (CK.int .i64), (CK.int .i64)]) rv.pv) = tregO F p0_0 p0_1 p0_2 p0_3 p0_4 p0_5 p0_6 := by kernel_rfl
noncomputable abbrev FregO (args : List PV) := Fn env 61 (RSh.agg [(CK.int .i64), (CK.int .i64), (CK.int .i64), (CK.int .i64), (CK.int .i64), (CK.int .i64)]) args
theorem FregO_of  (p0_0 p0_1 p0_2 p0_3 p0_4 p0_5 p0_6 : Int) {res : ((Int) × ((Int) × ((Int) × ((Int) × ((Int) × (Int))))))} (h : tregO (Fn env) p0_0 p0_1 p0_2 p0_3 p0_4 p0_5 p0_6 = some res) : FregO [PV.agg [PV.int .i64 p0_0, PV.int .i64 p0_1, PV.int .i64 p0_2, PV.int .i64 p0_3, PV.int .i64 p0_4, PV.int .i64 p0_5, PV.int .i64 p0_6]] = some res :=
  fn_of EregO_ok rfl rfl lo_nil ((tregO_eq _ _ _ _ _ _ _ _).trans h)
def EcorE : List Entry := [.out 78 (RSh.one (CK.int .i64)), .out 56 (RSh.one (CK.int .i64)), .out 79 (RSh.one (CK.int .i64)), .out 38 (RSh.one (CK.int .i64))]
theorem EcorE_ok : ∀ e ∈ EcorE, EntOK env e := (ent_out (ent_out (ent_out (ent_out ent_nil))))
def tcorE (F : FnT) (p0_0 p0_1 p0_2 p0_3 p0_4 p0_5 p0_6 : Int) : Option (Int) :=
  bindO (F 78 (RSh.one (CK.int .i64)) [(PV.int .i64 (-1000000 : Int)), (PV.int .i64 (1000000 : Int)), (PV.list 2 [(PV.int .i64 p0_0), (PV.int .i64 p0_1), (PV.int .i64 p0_2), (PV.int .i64 p0_3)])]) fun (y0 : (Int)) =>
  bindO (F 56 (RSh.one (CK.int .i64)) [(PV.int .i64 p0_4), (PV.int .i64 (0 : Int)), (PV.int .i64 (10000 : Int))]) fun (y1 : (Int)) =>
  bindO (F 78 (RSh.one (CK.int .i64)) [(PV.int .i64 (0 : Int)), (PV.int .i64 (1000 : Int)), (PV.list 1 [(PV.int .i64 p0_5), (PV.int .i64 p0_6)])]) fun (y2 : (Int)) =>
  bindO (F 79 (RSh.one (CK.int .i64)) [(PV.list 3 [(PV.int .i64 p0_0), (PV.int .i64 p0_1), (PV.int .i64 p0_2), (PV.int .i64 p0_3), (PV.int .i64 p0_5), (PV.int .i64 p0_6)])]) fun (y3 : (Int)) =>
  bindO (F 38 (RSh.one (CK.int .i64)) [(PV.list 4 [(PV.int .i64 y0), (PV.int .i64 y1), (PV.int .i64 y2), (PV.int .i64 y3)])]) fun (y4 : (Int)) =>
  some y4
theorem tcorE_eq (F : FnT) (p0_0 p0_1 p0_2 p0_3 p0_4 p0_5 p0_6 : Int) : semF (callP F EcorE 20) s83 (loopT []) 400 a83 [PV.agg [PV.int .i64 p0_0, PV.int .i64 p0_1, PV.int .i64 p0_2, PV.int .i64 p0_3, PV.int .i64 p0_4, PV.int .i64 p0_5, PV.int .i64 p0_6]] (fun rv => decR (RSh.one (CK.int .i64)) rv.pv) = tcorE F p0_0 p0_1 p0_2 p0_3 p0_4 p0_5 p0_6 := by kernel_rfl
noncomputable abbrev FcorE (args : List PV) := Fn env 83 (RSh.one (CK.int .i64)) args
theorem FcorE_of  (p0_0 p0_1 p0_2 p0_3 p0_4 p0_5 p0_6 : Int) {res : (Int)} (h : tcorE (Fn env) p0_0 p0_1 p0_2 p0_3 p0_4 p0_5 p0_6 = some res) : FcorE [PV.agg [PV.int .i64 p0_0, PV.int .i64 p0_1, PV.int .i64 p0_2, PV.int .i64 p0_3, PV.int .i64 p0_4, PV.int .i64 p0_5, PV.int .i64 p0_6]] = some res :=
  fn_of EcorE_ok rfl rfl lo_nil ((tcorE_eq _ _ _ _ _ _ _ _).trans h)
def EfreE : List Entry := [.out 48 (RSh.one (CK.int .i64)), .out 49 (RSh.one (CK.int .i64)), .out 83 (RSh.one (CK.int .i64)), .out 38 (RSh.one (CK.int .i64))]
theorem EfreE_ok : ∀ e ∈ EfreE, EntOK env e := (ent_out (ent_out (ent_out (ent_out ent_nil))))
def tfreE (F : FnT) (p0_0 p0_1 p0_2 p0_3 p0_4 p0_5 p1_0 p1_1 p1_2 p1_3 p1_4 p1_5 p2_0 p2_1 p2_2 p2_3 p2_4 p2_5 p2_6 : Int) : Option (Int) :=
  bindO (F 48 (RSh.one (CK.int .i64)) [(PV.agg [(PV.int .i64 p0_0), (PV.int .i64 p0_1), (PV.int .i64 p0_2), (PV.int .i64 p0_3), (PV.int .i64 p0_4), (PV.int .i64 p0_5)])]) fun (y0 : (Int)) =>
  bindO (F 49 (RSh.one (CK.int .i64)) [(PV.agg [(PV.int .i64 p1_0), (PV.int .i64 p1_1), (PV.int .i64 p1_2), (PV.int .i64 p1_3), (PV.int .i64 p1_4), (PV.int .i64 p1_5)])]) fun (y1 : (Int)) =>
  bindO (F 83 (RSh.one (CK.int .i64)) [(PV.agg [(PV.int .i64 p2_0), (PV.int .i64 p2_1), (PV.int .i64 p2_2), (PV.int .i64 p2_3), (PV.int .i64 p2_4), (PV.int .i64 p2_5), (PV.int .i64 p2_6)])]) fun (y2 : (Int)) =>
  bindO (F 38 (RSh.one (CK.int .i64)) [(PV.list 3 [(PV.int .i64 y0), (PV.int .i64 y1), (PV.int .i64 y2)])]) fun (y3 : (Int)) =>
  some y3
theorem tfreE_eq (F : FnT) (p0_0 p0_1 p0_2 p0_3 p0_4 p0_5 p1_0 p1_1 p1_2 p1_3 p1_4 p1_5 p2_0 p2_1 p2_2 p2_3 p2_4 p2_5 p2_6 : Int) : semF (callP F EfreE 20) s60 (loopT []) 400 a60 [PV.agg [PV.int .i64 p0_0, PV.int .i64 p0_1, PV.int .i64 p0_2, PV.int .i64 p0_3, PV.int .i64 p0_4, PV.int .i64 p0_5], PV.agg [PV.int .i64 p1_0, PV.int .i64 p1_1, PV.int .i64 p1_2, PV.int .i64 p1_3, PV.int .i64 p1_4, PV.int .i64 p1_5], PV.agg [PV.int .i64 p2_0, PV.int .i64 p2_1, PV.int .i64 p2_2, PV.int .i64 p2_3, PV.int .i64 p2_4, PV.int .i64 p2_5, PV.int .i64 p2_6]] (fun rv => decR (RSh.one (CK.int .i64)) rv.pv) = tfreE F p0_0 p0_1 p0_2 p0_3 p0_4 p0_5 p1_0 p1_1 p1_2 p1_3 p1_4 p1_5 p2_0 p2_1 p2_2 p2_3 p2_4 p2_5 p2_6 := by kernel_rfl
noncomputable abbrev FfreE (args : List PV) := Fn env 60 (RSh.one (CK.int .i64)) args
theorem FfreE_of  (p0_0 p0_1 p0_2 p0_3 p0_4 p0_5 p1_0 p1_1 p1_2 p1_3 p1_4 p1_5 p2_0 p2_1 p2_2 p2_3 p2_4 p2_5 p2_6 : Int) {res : (Int)} (h : tfreE (Fn env) p0_0 p0_1 p0_2 p0_3 p0_4 p0_5 p1_0 p1_1 p1_2 p1_3 p1_4 p1_5 p2_0 p2_1 p2_2 p2_3 p2_4 p2_5 p2_6 = some res) : FfreE [PV.agg [PV.int .i64 p0_0, PV.int .i64 p0_1, PV.int .i64 p0_2, PV.int .i64 p0_3, PV.int .i64 p0_4, PV.int .i64 p0_5], PV.agg [PV.int .i64 p1_0, PV.int .i64 p1_1, PV.int .i64 p1_2, PV.int .i64 p1_3, PV.int .i64 p1_4, PV.int .i64 p1_5], PV.agg [PV.int .i64 p2_0, PV.int .i64 p2_1, PV.int .i64 p2_2, PV.int .i64 p2_3, PV.int .i64 p2_4, PV.int .i64 p2_5, PV.int .i64 p2_6]] = some res :=
  fn_of EfreE_ok rfl rfl lo_nil ((tfreE_eq _ _ _ _ _ _ _ _ _ _ _ _ _ _ _ _ _ _ _ _).trans h)
def EisFr : List Entry := [.out 60 (RSh.one (CK.int .i64)), .out 61 (RSh.agg [(CK.int .i64), (CK.int .i64), (CK.int .i64), (CK.int .i64), (CK.int .i64), (CK.int .i64)]), .out 55 (RSh.agg [(CK.int .i64), (CK.int .i64), (CK.int .i64), (CK.int .i64), (CK.int .i64), (CK.int .i64)]), .out 54 (RSh.one CK.bool), .out 57 (RSh.agg [(CK.int .i64), (CK.int .i64), (CK.int .i64), (CK.int .i64), (CK.int .i64), (CK.int .i64)]), .out 58 (RSh.one CK.bool)]
theorem EisFr_ok : ∀ e ∈ EisFr, EntOK env e := (ent_out (ent_out (ent_out (ent_out (ent_out (ent_out ent_nil))))))
def TisFr_0a (i0 i1 i2 i3 i4 i5 i6 i7 i8 i9 i10 i11 i12 i13 i14 i15 i16 i17 i18 i19 i20 i21 i22 i23 i24 i25 i26 : Int) : Q := ⟨(tm 43 [(3, (AV.loc 3 0)), (4, (AV.loc 4 0)), (5, (AV.loc 5 0)), (9, (AV.loc 9 0)), (10, (AV.p (PV.int .i64 i0))), (11, (AV.p (PV.int .i64 i1)))]), (mm 43 [(3, (Bk.pcs true [(PV.int .i64 i2), (PV.int .i64 i3), (PV.int .i64 i4), (PV.int .i64 i5), (PV.int .i64 i6), (PV.int .i64 i7)])), (4, (Bk.pcs true [(PV.int .i64 i8), (PV.int .i64 i9), (PV.int .i64 i10), (PV.int .i64 i11), (PV.int .i64 i12), (PV.int .i64 i13)])), (5, (Bk.pcs true [(PV.int .i64 i14), (PV.int .i64 i15), (PV.int .i64 i16), (PV.int .i64 i17), (PV.int .i64 i18), (PV.int .i64 i19), (PV.int .i64 i20)])), (9, (Bk.pcs true [(PV.int .i64 i21), (PV.int .i64 i22), (PV.int .i64 i23), (PV.int .i64 i24), (PV.int .i64 i25), (PV.int .i64 i26)]))])⟩
def XisFr_0a (y : Unit) : Ext × Q := (Ext.ret, ⟨(tm 43 [(6, (AV.p (PV.int .i64 (0 : Int)))), (7, (AV.p (PV.int .i64 (0 : Int))))]), (mm 43 [])⟩)
def IisFr_0a (q : Ext × S) : Unit := ()
def XisFr_0b (y : Int × Int × Int × Int × Int × Int × Int × Int × Int × Int × Int × Int × Int × Int × Int × Int × Int × Int × Int × Int × Int × Int × Int × Int × Int × Int) : Ext × Q := (Ext.normal, ⟨(tm 43 [(10, (AV.p (PV.int .i64 y.1)))]), (mm 43 [(3, (Bk.pcs true [(PV.int .i64 y.2.1), (PV.int .i64 y.2.2.1), (PV.int .i64 y.2.2.2.1), (PV.int .i64 y.2.2.2.2.1), (PV.int .i64 y.2.2.2.2.2.1), (PV.int .i64 y.2.2.2.2.2.2.1)])), (4, (Bk.pcs true [(PV.int .i64 y.2.2.2.2.2.2.2.1), (PV.int .i64 y.2.2.2.2.2.2.2.2.1), (PV.int .i64 y.2.2.2.2.2.2.2.2.2.1), (PV.int .i64 y.2.2.2.2.2.2.2.2.2.2.1), (PV.int .i64 y.2.2.2.2.2.2.2.2.2.2.2.1), (PV.int .i64 y.2.2.2.2.2.2.2.2.2.2.2.2.1)])), (5, (Bk.pcs true [(PV.int .i64 y.2.2.2.2.2.2.2.2.2.2.2.2.2.1), (PV.int .i64 y.2.2.2.2.2.2.2.2.2.2.2.2.2.2.1), (PV.int .i64 y.2.2.2.2.2.2.2.2.2.2.2.2.2.2.2.1), (PV.int .i64 y.2.2.2.2.2.2.2.2.2.2.2.2.2.2.2.2.1), (PV.int .i64 y.2.2.2.2.2.2.2.2.2.2.2.2.2.2.2.2.2.1), (PV.int .i64 y.2.2.2.2.2.2.2.2.2.2.2.2.2.2.2.2.2.2.1), (PV.int .i64 y.2.2.2.2.2.2.2.2.2.2.2.2.2.2.2.2.2.2.2.1)])), (9, (Bk.pcs true [(PV.int .i64 y.2.2.2.2.2.2.2.2.2.2.2.2.2.2.2.2.2.2.2.2.1), (PV.int .i64 y.2.2.2.2.2.2.2.2.2.2.2.2.2.2.2.2.2.2.2.2.2.1), (PV.int .i64 y.2.2.2.2.2.2.2.2.2.2.2.2.2.2.2.2.2.2.2.2.2.2.1), (PV.int .i64 y.2.2.2.2.2.2.2.2.2.2.2.2.2.2.2.2.2.2.2.2.2.2.2.1), (PV.int .i64 y.2.2.2.2.2.2.2.2.2.2.2.2.2.2.2.2.2.2.2.2.2.2.2.2.1), (PV.int .i64 y.2.2.2.2.2.2.2.2.2.2.2.2.2.2.2.2.2.2.2.2.2.2.2.2.2)]))])⟩)
def IisFr_0b (q : Ext × S) : Int × Int × Int × Int × Int × Int × Int × Int × Int × Int × Int × Int × Int × Int × Int × Int × Int × Int × Int × Int × Int × Int × Int × Int × Int × Int := ((pP_int1 (pA_p (avT q.2 10))), (pP_int1 (hdP (pB_pcs1 (avM q.2 3)))), (pP_int1 (hdP (List.tail (pB_pcs1 (avM q.2 3))))), (pP_int1 (hdP (List.tail (List.tail (pB_pcs1 (avM q.2 3)))))), (pP_int1 (hdP (List.tail (List.tail (List.tail (pB_pcs1 (avM q.2 3))))))), (pP_int1 (hdP (List.tail (List.tail (List.tail (List.tail (pB_pcs1 (avM q.2 3)))))))), (pP_int1 (hdP (List.tail (List.tail (List.tail (List.tail (List.tail (pB_pcs1 (avM q.2 3))))))))), (pP_int1 (hdP (pB_pcs1 (avM q.2 4)))), (pP_int1 (hdP (List.tail (pB_pcs1 (avM q.2 4))))), (pP_int1 (hdP (List.tail (List.tail (pB_pcs1 (avM q.2 4)))))), (pP_int1 (hdP (List.tail (List.tail (List.tail (pB_pcs1 (avM q.2 4))))))), (pP_int1 (hdP (List.tail (List.tail (List.tail (List.tail (pB_pcs1 (avM q.2 4)))))))), (pP_int1 (hdP (List.tail (List.tail (List.tail (List.tail (List.tail (pB_pcs1 (avM q.2 4))))))))), (pP_int1 (hdP (pB_pcs1 (avM q.2 5)))), (pP_int1 (hdP (List.tail (pB_pcs1 (avM q.2 5))))), (pP_int1 (hdP (List.tail (List.tail (pB_pcs1 (avM q.2 5)))))), (pP_int1 (hdP (List.tail (List.tail (List.tail (pB_pcs1 (avM q.2 5))))))), (pP_int1 (hdP (List.tail (List.tail (List.tail (List.tail (pB_pcs1 (avM q.2 5)))))))), (pP_int1 (hdP (List.tail (List.tail (List.tail (List.tail (List.tail (pB_pcs1 (avM q.2 5))))))))), (pP_int1 (hdP (List.tail (List.tail (List.tail (List.tail (List.tail (List.tail (pB_pcs1 (avM q.2 5)))))))))), (pP_int1 (hdP (pB_pcs1 (avM q.2 9)))), (pP_int1 (hdP (List.tail (pB_pcs1 (avM q.2 9))))), (pP_int1 (hdP (List.tail (List.tail (pB_pcs1 (avM q.2 9)))))), (pP_int1 (hdP (List.tail (List.tail (List.tail (pB_pcs1 (avM q.2 9))))))), (pP_int1 (hdP (List.tail (List.tail (List.tail (List.tail (pB_pcs1 (avM q.2 9)))))))), (pP_int1 (hdP (List.tail (List.tail (List.tail (List.tail (List.tail (pB_pcs1 (avM q.2 9))))))))))
abbrev YisFr_0 : Type := (Unit) ⊕ ((Int × Int × Int × Int × Int × Int × Int × Int × Int × Int × Int × Int × Int × Int × Int × Int × Int × Int × Int × Int × Int × Int × Int × Int × Int × Int))
def XLisFr_0 : XL YisFr_0 := .more XisFr_0a (.one XisFr_0b)
def IisFr_0 (q : Ext × S) : YisFr_0 := bif (cE q.1 == 2) then (Sum.inl (IisFr_0a q)) else (Sum.inr (IisFr_0b q))
theorem XIisFr_0a (y : Unit) : IisFr_0 (xe (XisFr_0a y)) = (Sum.inl y) := by kernel_rfl
theorem XIisFr_0b (y : Int × Int × Int × Int × Int × Int × Int × Int × Int × Int × Int × Int × Int × Int × Int × Int × Int × Int × Int × Int × Int × Int × Int × Int × Int × Int) : IisFr_0 (xe (XisFr_0b y)) = (Sum.inr y) := by kernel_rfl
theorem XIisFr_0 (y : YisFr_0) : IisFr_0 (xe (XLisFr_0.fn y)) = y := (match y with | .inl y => XIisFr_0a y | .inr y => XIisFr_0b y)
noncomputable abbrev LisFr_0 : Q → Option YisFr_0 := lpO env a22.body 0 XLisFr_0
noncomputable abbrev RisFr_0 : Q → Option (Ext × S) := lpR env a22.body 0
theorem LisFr_0a_of {s : Q} {y : Unit} (h : RisFr_0 s = exO (XisFr_0a y)) : LisFr_0 s = some (Sum.inl y) := lpO_of IisFr_0 XIisFr_0 (y := (Sum.inl y)) h
theorem LisFr_0b_of {s : Q} {y : Int × Int × Int × Int × Int × Int × Int × Int × Int × Int × Int × Int × Int × Int × Int × Int × Int × Int × Int × Int × Int × Int × Int × Int × Int × Int} (h : RisFr_0 s = exO (XisFr_0b y)) : LisFr_0 s = some (Sum.inr y) := lpO_of IisFr_0 XIisFr_0 (y := (Sum.inr y)) h
theorem UisFr : uniq ((blocksOf a22.body).map (·.1)) = true := by kernel_rfl
def BisFr_0a (F : FnT) (N : QO) (E : EO) (L0 : Q → Option YisFr_0) (i0 i1 i2 i3 i4 i5 i6 i7 i8 i9 i10 i11 i12 i13 i14 i15 i16 i17 i18 i19 i20 i21 i22 i23 i24 i25 i26 : Int) : Option (Ext × S) :=
  bif (decide (i1 ≤ i20)) then
    bindO (F 55 (RSh.agg [(CK.int .i64), (CK.int .i64), (CK.int .i64), (CK.int .i64), (CK.int .i64), (CK.int .i64)]) [(PV.agg [(PV.int .i64 i2), (PV.int .i64 i3), (PV.int .i64 i4), (PV.int .i64 i5), (PV.int .i64 i6), (PV.int .i64 i7)]), (PV.agg [(PV.int .i64 i8), (PV.int .i64 i9), (PV.int .i64 i10), (PV.int .i64 i11), (PV.int .i64 i12), (PV.int .i64 i13)]), (PV.int .i64 i1)]) fun (y0 : ((Int) × ((Int) × ((Int) × ((Int) × ((Int) × (Int))))))) =>
    bindO (F 54 (RSh.one CK.bool) [(PV.agg [(PV.int .i64 y0.1), (PV.int .i64 y0.2.1), (PV.int .i64 y0.2.2.1), (PV.int .i64 y0.2.2.2.1), (PV.int .i64 y0.2.2.2.2.1), (PV.int .i64 y0.2.2.2.2.2)]), (PV.agg [(PV.int .i64 i21), (PV.int .i64 i22), (PV.int .i64 i23), (PV.int .i64 i24), (PV.int .i64 i25), (PV.int .i64 i26)])]) fun (y1 : (Bool)) =>
    bif y1 then
      E (XisFr_0a ())
    else bindO (F 57 (RSh.agg [(CK.int .i64), (CK.int .i64), (CK.int .i64), (CK.int .i64), (CK.int .i64), (CK.int .i64)]) [(PV.agg [(PV.int .i64 y0.1), (PV.int .i64 y0.2.1), (PV.int .i64 y0.2.2.1), (PV.int .i64 y0.2.2.2.1), (PV.int .i64 y0.2.2.2.2.1), (PV.int .i64 y0.2.2.2.2.2)]), (PV.agg [(PV.int .i64 i21), (PV.int .i64 i22), (PV.int .i64 i23), (PV.int .i64 i24), (PV.int .i64 i25), (PV.int .i64 i26)])]) fun (y2 : ((Int) × ((Int) × ((Int) × ((Int) × ((Int) × (Int))))))) =>
    bindO (F 58 (RSh.one CK.bool) [(PV.agg [(PV.int .i64 y2.1), (PV.int .i64 y2.2.1), (PV.int .i64 y2.2.2.1), (PV.int .i64 y2.2.2.2.1), (PV.int .i64 y2.2.2.2.2.1), (PV.int .i64 y2.2.2.2.2.2)])]) fun (y3 : (Bool)) =>
    bif y3 then
      N (TisFr_0a i0 (w64 (i1 + (1 : Int))) i2 i3 i4 i5 i6 i7 i8 i9 i10 i11 i12 i13 i14 i15 i16 i17 i18 i19 i20 i21 i22 i23 i24 i25 i26)
    else N (TisFr_0a (1 : Int) (w64 (i1 + (1 : Int))) i2 i3 i4 i5 i6 i7 i8 i9 i10 i11 i12 i13 i14 i15 i16 i17 i18 i19 i20 i21 i22 i23 i24 i25 i26)
  else E (XisFr_0b (i0, i2, i3, i4, i5, i6, i7, i8, i9, i10, i11, i12, i13, i14, i15, i16, i17, i18, i19, i20, i21, i22, i23, i24, i25, i26))
theorem BisFr_0a_eq (F : FnT) (N : QO) (E : EO) (L0 : Q → Option YisFr_0) (i0 i1 i2 i3 i4 i5 i6 i7 i8 i9 i10 i11 i12 i13 i14 i15 i16 i17 i18 i19 i20 i21 i22 i23 i24 i25 i26 : Int) : semB (callP F EisFr 20) s22 (loopT [⟨0, YisFr_0, L0, XLisFr_0⟩]) 400 (blkIn a22.body 0) N E (TisFr_0a i0 i1 i2 i3 i4 i5 i6 i7 i8 i9 i10 i11 i12 i13 i14 i15 i16 i17 i18 i19 i20 i21 i22 i23 i24 i25 i26) = BisFr_0a F N E L0 i0 i1 i2 i3 i4 i5 i6 i7 i8 i9 i10 i11 i12 i13 i14 i15 i16 i17 i18 i19 i20 i21 i22 i23 i24 i25 i26 := by kernel_rfl
theorem RisFr_0a_of  (i0 i1 i2 i3 i4 i5 i6 i7 i8 i9 i10 i11 i12 i13 i14 i15 i16 i17 i18 i19 i20 i21 i22 i23 i24 i25 i26 : Int) {r : Ext × S} (h : BisFr_0a (Fn env) RisFr_0 exO LisFr_0 i0 i1 i2 i3 i4 i5 i6 i7 i8 i9 i10 i11 i12 i13 i14 i15 i16 i17 i18 i19 i20 i21 i22 i23 i24 i25 i26 = some r) : RisFr_0 (TisFr_0a i0 i1 i2 i3 i4 i5 i6 i7 i8 i9 i10 i11 i12 i13 i14 i15 i16 i17 i18 i19 i20 i21 i22 i23 i24 i25 i26) = some r :=
  lp_of EisFr_ok (by kernel_rfl) (lo_cons (lpO_ok UisFr) lo_nil) (by kernel_rfl) ((BisFr_0a_eq _ _ _ _ _ _ _ _ _ _ _ _ _ _ _ _ _ _ _ _ _ _ _ _ _ _ _ _ _ _ _).trans h)
def tisFr (F : FnT) (L0 : Q → Option YisFr_0) (p0_0 p0_1 p0_2 p0_3 p0_4 p0_5 p1_0 p1_1 p1_2 p1_3 p1_4 p1_5 p2_0 p2_1 p2_2 p2_3 p2_4 p2_5 p2_6 : Int) : Option ((Int) × (Int)) :=
  bindO (F 60 (RSh.one (CK.int .i64)) [(PV.agg [(PV.int .i64 p0_0), (PV.int .i64 p0_1), (PV.int .i64 p0_2), (PV.int .i64 p0_3), (PV.int .i64 p0_4), (PV.int .i64 p0_5)]), (PV.agg [(PV.int .i64 p1_0), (PV.int .i64 p1_1), (PV.int .i64 p1_2), (PV.int .i64 p1_3), (PV.int .i64 p1_4), (PV.int .i64 p1_5)]), (PV.agg [(PV.int .i64 p2_0), (PV.int .i64 p2_1), (PV.int .i64 p2_2), (PV.int .i64 p2_3), (PV.int .i64 p2_4), (PV.int .i64 p2_5), (PV.int .i64 p2_6)])]) fun (y0 : (Int)) =>
  bif (y0 != (0 : Int)) then
    some ((0 : Int), y0)
  else bindO (F 61 (RSh.agg [(CK.int .i64), (CK.int .i64), (CK.int .i64), (CK.int .i64), (CK.int .i64), (CK.int .i64)]) [(PV.agg [(PV.int .i64 p2_0), (PV.int .i64 p2_1), (PV.int .i64 p2_2), (PV.int .i64 p2_3), (PV.int .i64 p2_4), (PV.int .i64 p2_5), (PV.int .i64 p2_6)])]) fun (y1 : ((Int) × ((Int) × ((Int) × ((Int) × ((Int) × (Int))))))) =>
  bindO (L0 (TisFr_0a (2 : Int) p2_5 p0_0 p0_1 p0_2 p0_3 p0_4 p0_5 p1_0 p1_1 p1_2 p1_3 p1_4 p1_5 p2_0 p2_1 p2_2 p2_3 p2_4 p2_5 p2_6 y1.1 y1.2.1 y1.2.2.1 y1.2.2.2.1 y1.2.2.2.2.1 y1.2.2.2.2.2)) fun z =>
  Sum.elim (fun y2 =>
    some ((0 : Int), (0 : Int))) (fun y3 =>
    some (y3.1, (0 : Int))) z
theorem tisFr_eq (F : FnT) (L0 : Q → Option YisFr_0) (p0_0 p0_1 p0_2 p0_3 p0_4 p0_5 p1_0 p1_1 p1_2 p1_3 p1_4 p1_5 p2_0 p2_1 p2_2 p2_3 p2_4 p2_5 p2_6 : Int) : semF (callP F EisFr 20) s22 (loopT [⟨0, YisFr_0, L0, XLisFr_0⟩]) 400 a22 [PV.agg [PV.int .i64 p0_0, PV.int .i64 p0_1, PV.int .i64 p0_2, PV.int .i64 p0_3, PV.int .i64 p0_4, PV.int .i64 p0_5], PV.agg [PV.int .i64 p1_0, PV.int .i64 p1_1, PV.int .i64 p1_2, PV.int .i64 p1_3, PV.int .i64 p1_4, PV.int .i64 p1_5], PV.agg [PV.int .i64 p2_0, PV.int .i64 p2_1, PV.int .i64 p2_2, PV.int .i64 p2_3, PV.int .i64 p2_4, PV.int .i64 p2_5, PV.int .i64 p2_6]] (fun rv => decR (RSh.tup [(Prod.mk false [(CK.int .i64)]), (Prod.mk false [(CK.int .i64)])]) rv.pv) = tisFr F L0 p0_0 p0_1 p0_2 p0_3 p0_4 p0_5 p1_0 p1_1 p1_2 p1_3 p1_4 p1_5 p2_0 p2_1 p2_2 p2_3 p2_4 p2_5 p2_6 := by kernel_rfl
noncomputable abbrev FisFr (args : List PV) := Fn env 22 (RSh.tup [(Prod.mk false [(CK.int .i64)]), (Prod.mk false [(CK.int .i64)])]) args
theorem FisFr_of  (p0_0 p0_1 p0_2 p0_3 p0_4 p0_5 p1_0 p1_1 p1_2 p1_3 p1_4 p1_5 p2_0 p2_1 p2_2 p2_3 p2_4 p2_5 p2_6 : Int) {res : ((Int) × (Int))} (h : tisFr (Fn env) LisFr_0 p0_0 p0_1 p0_2 p0_3 p0_4 p0_5 p1_0 p1_1 p1_2 p1_3 p1_4 p1_5 p2_0 p2_1 p2_2 p2_3 p2_4 p2_5 p2_6 = some res) : FisFr [PV.agg [PV.int .i64 p0_0, PV.int .i64 p0_1, PV.int .i64 p0_2, PV.int .i64 p0_3, PV.int .i64 p0_4, PV.int .i64 p0_5], PV.agg [PV.int .i64 p1_0, PV.int .i64 p1_1, PV.int .i64 p1_2, PV.int .i64 p1_3, PV.int .i64 p1_4, PV.int .i64 p1_5], PV.agg [PV.int .i64 p2_0, PV.int .i64 p2_1, PV.int .i64 p2_2, PV.int .i64 p2_3, PV.int .i64 p2_4, PV.int .i64 p2_5, PV.int .i64 p2_6]] = some res :=
  fn_of EisFr_ok rfl rfl (lo_cons (lpO_ok UisFr) lo_nil) ((tisFr_eq _ _ _ _ _ _ _ _ _ _ _ _ _ _ _ _ _ _ _ _ _).trans h)
end Gv

/- What the functions do, round by round: B2. -/
namespace Gv
open Go
set_option maxRecDepth 100000
def EbWi : List Entry := []
theorem EbWi_ok : ∀ e ∈ EbWi, EntOK env e := ent_nil
def tbWi (F : FnT) (p0 p1 p2 : Int) : Option (Bool) :=
  bif (decide (p1 ≤ p0)) then
    bif (decide (p0 ≤ p2)) then
      some true
    else some false
  else some false
theorem tbWi_eq (F : FnT) (p0 p1 p2 : Int) : semF (callP F EbWi 20) s9 (loopT []) 400 a9 [PV.int .i64 p0, PV.int .i64 p1, PV.int .i64 p2] (fun rv => decR (RSh.one CK.bool) rv.pv) = tbWi F p0 p1 p2 := by kernel_rfl
noncomputable abbrev FbWi (args : List PV) := Fn env 9 (RSh.one CK.bool) args
theorem FbWi_of  (p0 p1 p2 : Int) {res : (Bool)} (h : tbWi (Fn env) p0 p1 p2 = some res) : FbWi [PV.int .i64 p0, PV.int .i64 p1, PV.int .i64 p2] = some res :=
  fn_of EbWi_ok rfl rfl lo_nil ((tbWi_eq _ _ _ _).trans h)
def ErW2 : List Entry := [.out 9 (RSh.one CK.bool)]
theorem ErW2_ok : ∀ e ∈ ErW2, EntOK env e := (ent_out ent_nil)
def trW2 (F : FnT) (p0_0 p0_1 p1 p2 : Int) : Option (Bool) :=
  bindO (F 9 (RSh.one CK.bool) [(PV.int .i64 p0_0), (PV.int .i64 p1), (PV.int .i64 p2)]) fun (y0 : (Bool)) =>
  bif y0 then
    bindO (F 9 (RSh.one CK.bool) [(PV.int .i64 p0_1), (PV.int .i64 p1), (PV.int .i64 p2)]) fun (y1 : (Bool)) =>
    bif y1 then
      some true
    else some false
  else some false
theorem trW2_eq (F : FnT) (p0_0 p0_1 p1 p2 : Int) : semF (callP F ErW2 20) s46 (loopT []) 400 a46 [PV.agg [PV.int .i64 p0_0, PV.int .i64 p0_1], PV.int .i64 p1, PV.int .i64 p2] (fun rv => decR (RSh.one CK.bool) rv.pv) = trW2 F p0_0 p0_1 p1 p2 := by kernel_rfl
noncomputable abbrev FrW2 (args : List PV) := Fn env 46 (RSh.one CK.bool) args
theorem FrW2_of  (p0_0 p0_1 p1 p2 : Int) {res : (Bool)} (h : trW2 (Fn env) p0_0 p0_1 p1 p2 = some res) : FrW2 [PV.agg [PV.int .i64 p0_0, PV.int .i64 p0_1], PV.int .i64 p1, PV.int .i64 p2] = some res :=
  fn_of ErW2_ok rfl rfl lo_nil ((trW2_eq _ _ _ _ _).trans h)
def ErBoxE : List Entry := [.out 46 (RSh.one CK.bool)]
theorem ErBoxE_ok : ∀ e ∈ ErBoxE, EntOK env e := (ent_out ent_nil)
def trBoxE (F : FnT) (p0_0 p0_1 p0_2 p0_3 p0_4 p0_5 : Int) : Option (Int) :=
  bindO (F 46 (RSh.one CK.bool) [(PV.agg [(PV.int .i64 p0_0), (PV.int .i64 p0_1)]), (PV.int .i64 (-1000000 : Int)), (PV.int .i64 (1000000 : Int))]) fun (y0 : (Bool)) =>
  bif y0 then
    bindO (F 46 (RSh.one CK.bool) [(PV.agg [(PV.int .i64 p0_2), (PV.int .i64 p0_3)]), (PV.int .i64 (0 : Int)), (PV.int .i64 (1000000 : Int))]) fun (y1 : (Bool)) =>
    bif y1 then
      bindO (F 46 (RSh.one CK.bool) [(PV.agg [(PV.int .i64 p0_4), (PV.int .i64 p0_5)]), (PV.int .i64 (0 : Int)), (PV.int .i64 (10000 : Int))]) fun (y2 : (Bool)) =>
      bif y2 then
        bif (decide (p0_0 > p0_1)) then
          some (9 : Int)
        else bif (decide (p0_2 > p0_3)) then
          some (9 : Int)
        else bif (decide (p0_4 > p0_5)) then
          some (9 : Int)
        else some (0 : Int)
      else some (2 : Int)
    else some (2 : Int)
  else some (2 : Int)
theorem trBoxE_eq (F : FnT) (p0_0 p0_1 p0_2 p0_3 p0_4 p0_5 : Int) : semF (callP F ErBoxE 20) s18 (loopT []) 400 a18 [PV.agg [PV.int .i64 p0_0, PV.int .i64 p0_1, PV.int .i64 p0_2, PV.int .i64 p0_3, PV.int .i64 p0_4, PV.int .i64 p0_5]] (fun rv => decR (RSh.one (CK.int .i64)) rv.pv) = trBoxE F p0_0 p0_1 p0_2 p0_3 p0_4 p0_5 := by kernel_rfl
noncomputable abbrev FrBoxE (args : List PV) := Fn env 18 (RSh.one (CK.int .i64)) args
theorem FrBoxE_of  (p0_0 p0_1 p0_2 p0_3 p0_4 p0_5 : Int) {res : (Int)} (h : trBoxE (Fn env) p0_0 p0_1 p0_2 p0_3 p0_4 p0_5 = some res) : FrBoxE [PV.agg [PV.int .i64 p0_0, PV.int .i64 p0_1, PV.int .i64 p0_2, PV.int .i64 p0_3, PV.int .i64 p0_4, PV.int .i64 p0_5]] = some res :=
  fn_of ErBoxE_ok rfl rfl lo_nil ((trBoxE_eq _ _ _ _ _ _ _).trans h)
def ErDriE : List Entry := [.out 46 (RSh.one CK.bool)]
theorem ErDriE_ok : ∀ e ∈ ErDriE, EntOK env e := (ent_out ent_nil)
def trDriE (F : FnT) (p0_0 p0_1 p0_2 p0_3 p0_4 p0_5 : Int) : Option (Int) :=
  bindO (F 46 (RSh.one CK.bool) [(PV.agg [(PV.int .i64 p0_0), (PV.int .i64 p0_1)]), (PV.int .i64 (-100 : Int)), (PV.int .i64 (100 : Int))]) fun (y0 : (Bool)) =>
  bif y0 then
    bindO (F 46 (RSh.one CK.bool) [(PV.agg [(PV.int .i64 p0_2), (PV.int .i64 p0_3)]), (PV.int .i64 (0 : Int)), (PV.int .i64 (100 : Int))]) fun (y1 : (Bool)) =>
    bif y1 then
      bindO (F 46 (RSh.one CK.bool) [(PV.agg [(PV.int .i64 p0_4), (PV.int .i64 p0_5)]), (PV.int .i64 (0 : Int)), (PV.int .i64 (100 : Int))]) fun (y2 : (Bool)) =>
      bif y2 then
        bif (decide (p0_0 > p0_1)) then
          some (9 : Int)
        else bif (decide (p0_2 > p0_3)) then
          some (9 : Int)
        else bif (decide (p0_4 > p0_5)) then
          some (9 : Int)
        else some (0 : Int)
      else some (2 : Int)
    else some (2 : Int)
  else some (2 : Int)
theorem trDriE_eq (F : FnT) (p0_0 p0_1 p0_2 p0_3 p0_4 p0_5 : Int) : semF (callP F ErDriE 20) s45 (loopT []) 400 a45 [PV.agg [PV.int .i64 p0_0, PV.int .i64 p0_1, PV.int .i64 p0_2, PV.int .i64 p0_3, PV.int .i64 p0_4, PV.int .i64 p0_5]] (fun rv => decR (RSh.one (CK.int .i64)) rv.pv) = trDriE F p0_0 p0_1 p0_2 p0_3 p0_4 p0_5 := by kernel_rfl
noncomputable abbrev FrDriE (args : List PV) := Fn env 45 (RSh.one (CK.int .i64)) args
theorem FrDriE_of  (p0_0 p0_1 p0_2 p0_3 p0_4 p0_5 : Int) {res : (Int)} (h : trDriE (Fn env) p0_0 p0_1 p0_2 p0_3 p0_4 p0_5 = some res) : FrDriE [PV.agg [PV.int .i64 p0_0, PV.int .i64 p0_1, PV.int .i64 p0_2, PV.int .i64 p0_3, PV.int .i64 p0_4, PV.int .i64 p0_5]] = some res :=
  fn_of ErDriE_ok rfl rfl lo_nil ((trDriE_eq _ _ _ _ _ _ _).trans h)
def ErTicE : List Entry := [.out 9 (RSh.one CK.bool)]
theorem ErTicE_ok : ∀ e ∈ ErTicE, EntOK env e := (ent_out ent_nil)
def trTicE (F : FnT) (p0 : Int) : Option (Int) :=
  bindO (F 9 (RSh.one CK.bool) [(PV.int .i64 p0), (PV.int .i64 (0 : Int)), (PV.int .i64 (1000 : Int))]) fun (y0 : (Bool)) =>
  bif y0 then
    some (0 : Int)
  else some (2 : Int)
theorem trTicE_eq (F : FnT) (p0 : Int) : semF (callP F ErTicE 20) s47 (loopT []) 400 a47 [PV.int .i64 p0] (fun rv => decR (RSh.one (CK.int .i64)) rv.pv) = trTicE F p0 := by kernel_rfl
noncomputable abbrev FrTicE (args : List PV) := Fn env 47 (RSh.one (CK.int .i64)) args
theorem FrTicE_of  (p0 : Int) {res : (Int)} (h : trTicE (Fn env) p0 = some res) : FrTicE [PV.int .i64 p0] = some res :=
  fn_of ErTicE_ok rfl rfl lo_nil ((trTicE_eq _ _).trans h)
def ErCorE : List Entry := [.out 46 (RSh.one CK.bool), .out 9 (RSh.one CK.bool), .out 47 (RSh.one (CK.int .i64))]
theorem ErCorE_ok : ∀ e ∈ ErCorE, EntOK env e := (ent_out (ent_out (ent_out ent_nil)))
def trCorE (F : FnT) (p0_0 p0_1 p0_2 p0_3 p0_4 p0_5 p0_6 : Int) : Option (Int) :=
  bindO (F 46 (RSh.one CK.bool) [(PV.agg [(PV.int .i64 p0_0), (PV.int .i64 p0_1)]), (PV.int .i64 (-1000000 : Int)), (PV.int .i64 (1000000 : Int))]) fun (y0 : (Bool)) =>
  bif y0 then
    bindO (F 46 (RSh.one CK.bool) [(PV.agg [(PV.int .i64 p0_2), (PV.int .i64 p0_3)]), (PV.int .i64 (-1000000 : Int)), (PV.int .i64 (1000000 : Int))]) fun (y1 : (Bool)) =>
    bif y1 then
      bindO (F 9 (RSh.one CK.bool) [(PV.int .i64 p0_4), (PV.int .i64 (0 : Int)), (PV.int .i64 (10000 : Int))]) fun (y2 : (Bool)) =>
      bif y2 then
        bindO (F 47 (RSh.one (CK.int .i64)) [(PV.int .i64 p0_5)]) fun (y3 : (Int)) =>
        bif (y3 != (0 : Int)) then
          some (2 : Int)
        else bindO (F 47 (RSh.one (CK.int .i64)) [(PV.int .i64 p0_6)]) fun (y4 : (Int)) =>
        bif (y4 != (0 : Int)) then
          some (2 : Int)
        else bif (decide (p0_0 > p0_1)) then
          some (9 : Int)
        else bif (decide (p0_2 > p0_3)) then
          some (9 : Int)
        else bif (decide (p0_5 > p0_6)) then
          some (9 : Int)
        else some (0 : Int)
      else some (2 : Int)
    else some (2 : Int)
  else some (2 : Int)
theorem trCorE_eq (F : FnT) (p0_0 p0_1 p0_2 p0_3 p0_4 p0_5 p0_6 : Int) : semF (callP F ErCorE 20) s14 (loopT []) 400 a14 [PV.agg [PV.int .i64 p0_0, PV.int .i64 p0_1, PV.int .i64 p0_2, PV.int .i64 p0_3, PV.int .i64 p0_4, PV.int .i64 p0_5, PV.int .i64 p0_6]] (fun rv => decR (RSh.one (CK.int .i64)) rv.pv) = trCorE F p0_0 p0_1 p0_2 p0_3 p0_4 p0_5 p0_6 := by kernel_rfl
noncomputable abbrev FrCorE (args : List PV) := Fn env 14 (RSh.one (CK.int .i64)) args
theorem FrCorE_of  (p0_0 p0_1 p0_2 p0_3 p0_4 p0_5 p0_6 : Int) {res : (Int)} (h : trCorE (Fn env) p0_0 p0_1 p0_2 p0_3 p0_4 p0_5 p0_6 = some res) : FrCorE [PV.agg [PV.int .i64 p0_0, PV.int .i64 p0_1, PV.int .i64 p0_2, PV.int .i64 p0_3, PV.int .i64 p0_4, PV.int .i64 p0_5, PV.int .i64 p0_6]] = some res :=
  fn_of ErCorE_ok rfl rfl lo_nil ((trCorE_eq _ _ _ _ _ _ _ _).trans h)
def ErMovE : List Entry := [.out 18 (RSh.one (CK.int .i64)), .out 45 (RSh.one (CK.int .i64))]
theorem ErMovE_ok : ∀ e ∈ ErMovE, EntOK env e := (ent_out (ent_out ent_nil))
def trMovE (F : FnT) (p0_0 p0_1 p0_2 p0_3 p0_4 p0_5 p1_0 p1_1 p1_2 p1_3 p1_4 p1_5 : Int) : Option (Int) :=
  bindO (F 18 (RSh.one (CK.int .i64)) [(PV.agg [(PV.int .i64 p0_0), (PV.int .i64 p0_1), (PV.int .i64 p0_2), (PV.int .i64 p0_3), (PV.int .i64 p0_4), (PV.int .i64 p0_5)])]) fun (y0 : (Int)) =>
  bif (y0 != (0 : Int)) then
    some y0
  else bindO (F 45 (RSh.one (CK.int .i64)) [(PV.agg [(PV.int .i64 p1_0), (PV.int .i64 p1_1), (PV.int .i64 p1_2), (PV.int .i64 p1_3), (PV.int .i64 p1_4), (PV.int .i64 p1_5)])]) fun (y1 : (Int)) =>
  some y1
theorem trMovE_eq (F : FnT) (p0_0 p0_1 p0_2 p0_3 p0_4 p0_5 p1_0 p1_1 p1_2 p1_3 p1_4 p1_5 : Int) : semF (callP F ErMovE 20) s13 (loopT []) 400 a13 [PV.agg [PV.int .i64 p0_0, PV.int .i64 p0_1, PV.int .i64 p0_2, PV.int .i64 p0_3, PV.int .i64 p0_4, PV.int .i64 p0_5], PV.agg [PV.int .i64 p1_0, PV.int .i64 p1_1, PV.int .i64 p1_2, PV.int .i64 p1_3, PV.int .i64 p1_4, PV.int .i64 p1_5]] (fun rv => decR (RSh.one (CK.int .i64)) rv.pv) = trMovE F p0_0 p0_1 p0_2 p0_3 p0_4 p0_5 p1_0 p1_1 p1_2 p1_3 p1_4 p1_5 := by kernel_rfl
noncomputable abbrev FrMovE (args : List PV) := Fn env 13 (RSh.one (CK.int .i64)) args
theorem FrMovE_of  (p0_0 p0_1 p0_2 p0_3 p0_4 p0_5 p1_0 p1_1 p1_2 p1_3 p1_4 p1_5 : Int) {res : (Int)} (h : trMovE (Fn env) p0_0 p0_1 p0_2 p0_3 p0_4 p0_5 p1_0 p1_1 p1_2 p1_3 p1_4 p1_5 = some res) : FrMovE [PV.agg [PV.int .i64 p0_0, PV.int .i64 p0_1, PV.int .i64 p0_2, PV.int .i64 p0_3, PV.int .i64 p0_4, PV.int .i64 p0_5], PV.agg [PV.int .i64 p1_0, PV.int .i64 p1_1, PV.int .i64 p1_2, PV.int .i64 p1_3, PV.int .i64 p1_4, PV.int .i64 p1_5]] = some res :=
  fn_of ErMovE_ok rfl rfl lo_nil ((trMovE_eq _ _ _ _ _ _ _ _ _ _ _ _ _).trans h)
def ErHold : List Entry := [.out 9 (RSh.one CK.bool)]
theorem ErHold_ok : ∀ e ∈ ErHold, EntOK env e := (ent_out ent_nil)
def trHold (F : FnT) (p0_0 p0_1 p0_2 p0_3 p0_4 p0_5 p1_0 p1_1 p1_2 : Int) : Option (Bool) :=
  bindO (F 9 (RSh.one CK.bool) [(PV.int .i64 p1_0), (PV.int .i64 p0_0), (PV.int .i64 p0_1)]) fun (y0 : (Bool)) =>
  bif y0 then
    bindO (F 9 (RSh.one CK.bool) [(PV.int .i64 p1_1), (PV.int .i64 p0_2), (PV.int .i64 p0_3)]) fun (y1 : (Bool)) =>
    bif y1 then
      bindO (F 9 (RSh.one CK.bool) [(PV.int .i64 p1_2), (PV.int .i64 p0_4), (PV.int .i64 p0_5)]) fun (y2 : (Bool)) =>
      bif y2 then
        some true
      else some false
    else some false
  else some false
theorem trHold_eq (F : FnT) (p0_0 p0_1 p0_2 p0_3 p0_4 p0_5 p1_0 p1_1 p1_2 : Int) : semF (callP F ErHold 20) s20 (loopT []) 400 a20 [PV.agg [PV.int .i64 p0_0, PV.int .i64 p0_1, PV.int .i64 p0_2, PV.int .i64 p0_3, PV.int .i64 p0_4, PV.int .i64 p0_5], PV.agg [PV.int .i64 p1_0, PV.int .i64 p1_1, PV.int .i64 p1_2]] (fun rv => decR (RSh.one CK.bool) rv.pv) = trHold F p0_0 p0_1 p0_2 p0_3 p0_4 p0_5 p1_0 p1_1 p1_2 := by kernel_rfl
noncomputable abbrev FrHold (args : List PV) := Fn env 20 (RSh.one CK.bool) args
theorem FrHold_of  (p0_0 p0_1 p0_2 p0_3 p0_4 p0_5 p1_0 p1_1 p1_2 : Int) {res : (Bool)} (h : trHold (Fn env) p0_0 p0_1 p0_2 p0_3 p0_4 p0_5 p1_0 p1_1 p1_2 = some res) : FrHold [PV.agg [PV.int .i64 p0_0, PV.int .i64 p0_1, PV.int .i64 p0_2, PV.int .i64 p0_3, PV.int .i64 p0_4, PV.int .i64 p0_5], PV.agg [PV.int .i64 p1_0, PV.int .i64 p1_1, PV.int .i64 p1_2]] = some res :=
  fn_of ErHold_ok rfl rfl lo_nil ((trHold_eq _ _ _ _ _ _ _ _ _ _).trans h)
def Ermt : List Entry := []
theorem Ermt_ok : ∀ e ∈ Ermt, EntOK env e := ent_nil
def trmt (F : FnT) (p0_0 p0_1 p1_0 p1_1 : Int) : Option ((Int) × ((Int) × (Bool))) :=
  bif (decide ((if (p1_0 > p0_0) then p1_0 else p0_0) ≤ (if (p1_1 < p0_1) then p1_1 else p0_1))) then
    some ((if (p1_0 > p0_0) then p1_0 else p0_0), ((if (p1_1 < p0_1) then p1_1 else p0_1), true))
  else some ((if (p1_0 > p0_0) then p1_0 else p0_0), ((if (p1_1 < p0_1) then p1_1 else p0_1), false))
theorem trmt_eq (F : FnT) (p0_0 p0_1 p1_0 p1_1 : Int) : semF (callP F Ermt 20) s59 (loopT []) 400 a59 [PV.agg [PV.int .i64 p0_0, PV.int .i64 p0_1], PV.agg [PV.int .i64 p1_0, PV.int .i64 p1_1]] (fun rv => decR (RSh.tup [(Prod.mk true [(CK.int .i64), (CK.int .i64)]), (Prod.mk false [CK.bool])]) rv.pv) = trmt F p0_0 p0_1 p1_0 p1_1 := by kernel_rfl
noncomputable abbrev Frmt (args : List PV) := Fn env 59 (RSh.tup [(Prod.mk true [(CK.int .i64), (CK.int .i64)]), (Prod.mk false [CK.bool])]) args
theorem Frmt_of  (p0_0 p0_1 p1_0 p1_1 : Int) {res : ((Int) × ((Int) × (Bool)))} (h : trmt (Fn env) p0_0 p0_1 p1_0 p1_1 = some res) : Frmt [PV.agg [PV.int .i64 p0_0, PV.int .i64 p0_1], PV.agg [PV.int .i64 p1_0, PV.int .i64 p1_1]] = some res :=
  fn_of Ermt_ok rfl rfl lo_nil ((trmt_eq _ _ _ _ _).trans h)
def ErMeet : List Entry := [.out 59 (RSh.tup [(Prod.mk true [(CK.int .i64), (CK.int .i64)]), (Prod.mk false [CK.bool])])]
theorem ErMeet_ok : ∀ e ∈ ErMeet, EntOK env e := (ent_out ent_nil)
def trMeet (F : FnT) (p0_0 p0_1 p0_2 p0_3 p0_4 p0_5 p1_0 p1_1 p1_2 p1_3 p1_4 p1_5 : Int) : Option ((Int) × ((Int) × ((Int) × ((Int) × ((Int) × ((Int) × (Bool))))))) :=
  bindO (F 59 (RSh.tup [(Prod.mk true [(CK.int .i64), (CK.int .i64)]), (Prod.mk false [CK.bool])]) [(PV.agg [(PV.int .i64 p0_0), (PV.int .i64 p0_1)]), (PV.agg [(PV.int .i64 p1_0), (PV.int .i64 p1_1)])]) fun (y0 : ((Int) × ((Int) × (Bool)))) =>
  bif y0.2.2 then
    bindO (F 59 (RSh.tup [(Prod.mk true [(CK.int .i64), (CK.int .i64)]), (Prod.mk false [CK.bool])]) [(PV.agg [(PV.int .i64 p0_2), (PV.int .i64 p0_3)]), (PV.agg [(PV.int .i64 p1_2), (PV.int .i64 p1_3)])]) fun (y1 : ((Int) × ((Int) × (Bool)))) =>
    bif y1.2.2 then
      bindO (F 59 (RSh.tup [(Prod.mk true [(CK.int .i64), (CK.int .i64)]), (Prod.mk false [CK.bool])]) [(PV.agg [(PV.int .i64 p0_4), (PV.int .i64 p0_5)]), (PV.agg [(PV.int .i64 p1_4), (PV.int .i64 p1_5)])]) fun (y2 : ((Int) × ((Int) × (Bool)))) =>
      bif y2.2.2 then
        some (y0.1, (y0.2.1, (y1.1, (y1.2.1, (y2.1, (y2.2.1, true))))))
      else some ((0 : Int), ((0 : Int), ((0 : Int), ((0 : Int), ((0 : Int), ((0 : Int), false))))))
    else bindO (F 59 (RSh.tup [(Prod.mk true [(CK.int .i64), (CK.int .i64)]), (Prod.mk false [CK.bool])]) [(PV.agg [(PV.int .i64 p0_4), (PV.int .i64 p0_5)]), (PV.agg [(PV.int .i64 p1_4), (PV.int .i64 p1_5)])]) fun (y3 : ((Int) × ((Int) × (Bool)))) =>
    bif y3.2.2 then
      some ((0 : Int), ((0 : Int), ((0 : Int), ((0 : Int), ((0 : Int), ((0 : Int), false))))))
    else some ((0 : Int), ((0 : Int), ((0 : Int), ((0 : Int), ((0 : Int), ((0 : Int), false))))))
  else bindO (F 59 (RSh.tup [(Prod.mk true [(CK.int .i64), (CK.int .i64)]), (Prod.mk false [CK.bool])]) [(PV.agg [(PV.int .i64 p0_2), (PV.int .i64 p0_3)]), (PV.agg [(PV.int .i64 p1_2), (PV.int .i64 p1_3)])]) fun (y4 : ((Int) × ((Int) × (Bool)))) =>
  bif y4.2.2 then
    bindO (F 59 (RSh.tup [(Prod.mk true [(CK.int .i64), (CK.int .i64)]), (Prod.mk false [CK.bool])]) [(PV.agg [(PV.int .i64 p0_4), (PV.int .i64 p0_5)]), (PV.agg [(PV.int .i64 p1_4), (PV.int .i64 p1_5)])]) fun (y5 : ((Int) × ((Int) × (Bool)))) =>
    bif y5.2.2 then
      some ((0 : Int), ((0 : Int), ((0 : Int), ((0 : Int), ((0 : Int), ((0 : Int), false))))))
    else some ((0 : Int), ((0 : Int), ((0 : Int), ((0 : Int), ((0 : Int), ((0 : Int), false))))))
  else bindO (F 59 (RSh.tup [(Prod.mk true [(CK.int .i64), (CK.int .i64)]), (Prod.mk false [CK.bool])]) [(PV.agg [(PV.int .i64 p0_4), (PV.int .i64 p0_5)]), (PV.agg [(PV.int .i64 p1_4), (PV.int .i64 p1_5)])]) fun (y6 : ((Int) × ((Int) × (Bool)))) =>
  bif y6.2.2 then
    some ((0 : Int), ((0 : Int), ((0 : Int), ((0 : Int), ((0 : Int), ((0 : Int), false))))))
  else some ((0 : Int), ((0 : Int), ((0 : Int), ((0 : Int), ((0 : Int), ((0 : Int), false))))))
theorem trMeet_eq (F : FnT) (p0_0 p0_1 p0_2 p0_3 p0_4 p0_5 p1_0 p1_1 p1_2 p1_3 p1_4 p1_5 : Int) : semF (callP F ErMeet 20) s21 (loopT []) 400 a21 [PV.agg [PV.int .i64 p0_0, PV.int .i64 p0_1, PV.int .i64 p0_2, PV.int .i64 p0_3, PV.int .i64 p0_4, PV.int .i64 p0_5], PV.agg [PV.int .i64 p1_0, PV.int .i64 p1_1, PV.int .i64 p1_2, PV.int .i64 p1_3, PV.int .i64 p1_4, PV.int .i64 p1_5]] (fun rv => decR (RSh.tup [(Prod.mk true [(CK.int .i64), (CK.int .i64), (CK.int .i64), (CK.int .i64), (CK.int .i64), (CK.int .i64)]), (Prod.mk false [CK.bool])]) rv.pv) = trMeet F p0_0 p0_1 p0_2 p0_3 p0_4 p0_5 p1_0 p1_1 p1_2 p1_3 p1_4 p1_5 := by kernel_rfl
noncomputable abbrev FrMeet (args : List PV) := Fn env 21 (RSh.tup [(Prod.mk true [(CK.int .i64), (CK.int .i64), (CK.int .i64), (CK.int .i64), (CK.int .i64), (CK.int .i64)]), (Prod.mk false [CK.bool])]) args
theorem FrMeet_of  (p0_0 p0_1 p0_2 p0_3 p0_4 p0_5 p1_0 p1_1 p1_2 p1_3 p1_4 p1_5 : Int) {res : ((Int) × ((Int) × ((Int) × ((Int) × ((Int) × ((Int) × (Bool)))))))} (h : trMeet (Fn env) p0_0 p0_1 p0_2 p0_3 p0_4 p0_5 p1_0 p1_1 p1_2 p1_3 p1_4 p1_5 = some res) : FrMeet [PV.agg [PV.int .i64 p0_0, PV.int .i64 p0_1, PV.int .i64 p0_2, PV.int .i64 p0_3, PV.int .i64 p0_4, PV.int .i64 p0_5], PV.agg [PV.int .i64 p1_0, PV.int .i64 p1_1, PV.int .i64 p1_2, PV.int .i64 p1_3, PV.int .i64 p1_4, PV.int .i64 p1_5]] = some res :=
  fn_of ErMeet_ok rfl rfl lo_nil ((trMeet_eq _ _ _ _ _ _ _ _ _ _ _ _ _).trans h)
def ErReg : List Entry := []
theorem ErReg_ok : ∀ e ∈ ErReg, EntOK env e := ent_nil
def trReg (F : FnT) (p0_0 p0_1 p0_2 p0_3 p0_4 p0_5 p0_6 : Int) : Option ((Int) × ((Int) × ((Int) × ((Int) × ((Int) × (Int)))))) :=
  some (p0_0, (p0_1, (p0_2, (p0_3, (p0_4, (1099511627776 : Int))))))
theorem trReg_eq (F : FnT) (p0_0 p0_1 p0_2 p0_3 p0_4 p0_5 p0_6 : Int) : semF (callP F ErReg 20) s23 (loopT []) 400 a23 [PV.agg [PV.int .i64 p0_0, PV.int .i64 p0_1, PV.int .i64 p0_2, PV.int .i64 p0_3, PV.int .i64 p0_4, PV.int .i64 p0_5, PV.int .i64 p0_6]] (fun rv => decR (RSh.agg [(CK.int .i64), (CK.int .i64), (CK.int .i64), (CK.int .i64), (CK.int .i64), (CK.int .i64)]) rv.pv) = trReg F p0_0 p0_1 p0_2 p0_3 p0_4 p0_5 p0_6 := by kernel_rfl
noncomputable abbrev FrReg (args : List PV) := Fn env 23 (RSh.agg [(CK.int .i64), (CK.int .i64), (CK.int .i64), (CK.int .i64), (CK.int .i64), (CK.int .i64)]) args
theorem FrReg_of  (p0_0 p0_1 p0_2 p0_3 p0_4 p0_5 p0_6 : Int) {res : ((Int) × ((Int) × ((Int) × ((Int) × ((Int) × (Int))))))} (h : trReg (Fn env) p0_0 p0_1 p0_2 p0_3 p0_4 p0_5 p0_6 = some res) : FrReg [PV.agg [PV.int .i64 p0_0, PV.int .i64 p0_1, PV.int .i64 p0_2, PV.int .i64 p0_3, PV.int .i64 p0_4, PV.int .i64 p0_5, PV.int .i64 p0_6]] = some res :=
  fn_of ErReg_ok rfl rfl lo_nil ((trReg_eq _ _ _ _ _ _ _ _).trans h)
def ErCopV : List Entry := []
theorem ErCopV_ok : ∀ e ∈ ErCopV, EntOK env e := ent_nil
def trCopV (F : FnT) (p0n : Nat) (p0c : List PV) : Option ((Nat) × (List PV)) :=
  bif (decide (p0n = 0)) then
    some (0, [])
  else bif (decide ((List.length p0c) = (p0n * 3))) then
    bif (decide ((0 = 0) ∧ ((0 + p0n) ≤ big))) then
      bif (decide ((0 + p0n) = (0 + p0n))) then
        some ((0 + p0n), ([] ++ p0c))
      else none
    else none
  else none
theorem trCopV_eq (F : FnT) (p0n : Nat) (p0c : List PV) : semF (callP F ErCopV 20) s16 (loopT []) 400 a16 [PV.list p0n p0c] (fun rv => decR (RSh.one CK.list) rv.pv) = trCopV F p0n p0c := by kernel_rfl
noncomputable abbrev FrCopV (args : List PV) := Fn env 16 (RSh.one CK.list) args
theorem FrCopV_of  (p0n : Nat) (p0c : List PV) {res : ((Nat) × (List PV))} (h : trCopV (Fn env) p0n p0c = some res) : FrCopV [PV.list p0n p0c] = some res :=
  fn_of ErCopV_ok rfl rfl lo_nil ((trCopV_eq _ _ _).trans h)
end Gv

/- What the functions do, round by round: B3. -/
namespace Gv
open Go
set_option maxRecDepth 100000
def TcPath_1580000000a (n0 : Nat) (c1 : List PV) (i2 i3 i4 i5 i6 i7 i8 i9 i10 i11 i12 i13 i14 i15 : Int) : Q := ⟨(tm 24 [(1, (AV.clo 52 [(AV.loc 24 0), (AV.loc 25 0)])), (9, (AV.p (PV.list n0 c1))), (10, (AV.p (PV.int .i64 i2))), (11, (AV.p (PV.int .i64 i3)))]), (mm 26 [(24, (Bk.pcs true [(PV.int .i64 i4), (PV.int .i64 i5), (PV.int .i64 i6), (PV.int .i64 i7), (PV.int .i64 i8), (PV.int .i64 i9)])), (25, (Bk.pcs true [(PV.int .i64 i10), (PV.int .i64 i11), (PV.int .i64 i12), (PV.int .i64 i13), (PV.int .i64 i14), (PV.int .i64 i15)]))])⟩
def XcPath_1580000000a (y : Int × Int × Int × Int × Int × Int × Int × Int × Int × Int × Int × Int × Int × Int) : Ext × Q := (Ext.ret, ⟨(tm 24 [(4, (AV.p (PV.int .i64 y.1))), (5, (AV.p (PV.int .i64 y.2.1)))]), (mm 26 [(24, (Bk.pcs true [(PV.int .i64 y.2.2.1), (PV.int .i64 y.2.2.2.1), (PV.int .i64 y.2.2.2.2.1), (PV.int .i64 y.2.2.2.2.2.1), (PV.int .i64 y.2.2.2.2.2.2.1), (PV.int .i64 y.2.2.2.2.2.2.2.1)])), (25, (Bk.pcs true [(PV.int .i64 y.2.2.2.2.2.2.2.2.1), (PV.int .i64 y.2.2.2.2.2.2.2.2.2.1), (PV.int .i64 y.2.2.2.2.2.2.2.2.2.2.1), (PV.int .i64 y.2.2.2.2.2.2.2.2.2.2.2.1), (PV.int .i64 y.2.2.2.2.2.2.2.2.2.2.2.2.1), (PV.int .i64 y.2.2.2.2.2.2.2.2.2.2.2.2.2)]))])⟩)
def IcPath_1580000000a (q : Ext × S) : Int × Int × Int × Int × Int × Int × Int × Int × Int × Int × Int × Int × Int × Int := ((pP_int1 (pA_p (avT q.2 4))), (pP_int1 (pA_p (avT q.2 5))), (pP_int1 (hdP (pB_pcs1 (avM q.2 24)))), (pP_int1 (hdP (List.tail (pB_pcs1 (avM q.2 24))))), (pP_int1 (hdP (List.tail (List.tail (pB_pcs1 (avM q.2 24)))))), (pP_int1 (hdP (List.tail (List.tail (List.tail (pB_pcs1 (avM q.2 24))))))), (pP_int1 (hdP (List.tail (List.tail (List.tail (List.tail (pB_pcs1 (avM q.2 24)))))))), (pP_int1 (hdP (List.tail (List.tail (List.tail (List.tail (List.tail (pB_pcs1 (avM q.2 24))))))))), (pP_int1 (hdP (pB_pcs1 (avM q.2 25)))), (pP_int1 (hdP (List.tail (pB_pcs1 (avM q.2 25))))), (pP_int1 (hdP (List.tail (List.tail (pB_pcs1 (avM q.2 25)))))), (pP_int1 (hdP (List.tail (List.tail (List.tail (pB_pcs1 (avM q.2 25))))))), (pP_int1 (hdP (List.tail (List.tail (List.tail (List.tail (pB_pcs1 (avM q.2 25)))))))), (pP_int1 (hdP (List.tail (List.tail (List.tail (List.tail (List.tail (pB_pcs1 (avM q.2 25))))))))))
def XcPath_1580000000b (y : Int × Int × Int × Int × Int × Int × Int × Int × Int × Int × Int × Int) : Ext × Q := (Ext.normal, ⟨(tm 24 []), (mm 26 [(24, (Bk.pcs true [(PV.int .i64 y.1), (PV.int .i64 y.2.1), (PV.int .i64 y.2.2.1), (PV.int .i64 y.2.2.2.1), (PV.int .i64 y.2.2.2.2.1), (PV.int .i64 y.2.2.2.2.2.1)])), (25, (Bk.pcs true [(PV.int .i64 y.2.2.2.2.2.2.1), (PV.int .i64 y.2.2.2.2.2.2.2.1), (PV.int .i64 y.2.2.2.2.2.2.2.2.1), (PV.int .i64 y.2.2.2.2.2.2.2.2.2.1), (PV.int .i64 y.2.2.2.2.2.2.2.2.2.2.1), (PV.int .i64 y.2.2.2.2.2.2.2.2.2.2.2)]))])⟩)
def IcPath_1580000000b (q : Ext × S) : Int × Int × Int × Int × Int × Int × Int × Int × Int × Int × Int × Int := ((pP_int1 (hdP (pB_pcs1 (avM q.2 24)))), (pP_int1 (hdP (List.tail (pB_pcs1 (avM q.2 24))))), (pP_int1 (hdP (List.tail (List.tail (pB_pcs1 (avM q.2 24)))))), (pP_int1 (hdP (List.tail (List.tail (List.tail (pB_pcs1 (avM q.2 24))))))), (pP_int1 (hdP (List.tail (List.tail (List.tail (List.tail (pB_pcs1 (avM q.2 24)))))))), (pP_int1 (hdP (List.tail (List.tail (List.tail (List.tail (List.tail (pB_pcs1 (avM q.2 24))))))))), (pP_int1 (hdP (pB_pcs1 (avM q.2 25)))), (pP_int1 (hdP (List.tail (pB_pcs1 (avM q.2 25))))), (pP_int1 (hdP (List.tail (List.tail (pB_pcs1 (avM q.2 25)))))), (pP_int1 (hdP (List.tail (List.tail (List.tail (pB_pcs1 (avM q.2 25))))))), (pP_int1 (hdP (List.tail (List.tail (List.tail (List.tail (pB_pcs1 (avM q.2 25)))))))), (pP_int1 (hdP (List.tail (List.tail (List.tail (List.tail (List.tail (pB_pcs1 (avM q.2 25))))))))))
abbrev YcPath_1580000000 : Type := (Int × Int × Int × Int × Int × Int × Int × Int × Int × Int × Int × Int × Int × Int) ⊕ ((Int × Int × Int × Int × Int × Int × Int × Int × Int × Int × Int × Int))
def XLcPath_1580000000 : XL YcPath_1580000000 := .more XcPath_1580000000a (.one XcPath_1580000000b)
def IcPath_1580000000 (q : Ext × S) : YcPath_1580000000 := bif (cE q.1 == 2) then (Sum.inl (IcPath_1580000000a q)) else (Sum.inr (IcPath_1580000000b q))
theorem XIcPath_1580000000a (y : Int × Int × Int × Int × Int × Int × Int × Int × Int × Int × Int × Int × Int × Int) : IcPath_1580000000 (xe (XcPath_1580000000a y)) = (Sum.inl y) := by kernel_rfl
theorem XIcPath_1580000000b (y : Int × Int × Int × Int × Int × Int × Int × Int × Int × Int × Int × Int) : IcPath_1580000000 (xe (XcPath_1580000000b y)) = (Sum.inr y) := by kernel_rfl
theorem XIcPath_1580000000 (y : YcPath_1580000000) : IcPath_1580000000 (xe (XLcPath_1580000000.fn y)) = y := (match y with | .inl y => XIcPath_1580000000a y | .inr y => XIcPath_1580000000b y)
noncomputable abbrev LcPath_1580000000 : Q → Option YcPath_1580000000 := lpO env a80.body 0 XLcPath_1580000000
noncomputable abbrev RcPath_1580000000 : Q → Option (Ext × S) := lpR env a80.body 0
theorem UcPathg158 : uniq ((blocksOf a80.body).map (·.1)) = true := by kernel_rfl
def EcPath (L1580000000 : Q → Option YcPath_1580000000) : List Entry := [.inp 80 a80 s80 [⟨0, YcPath_1580000000, L1580000000, XLcPath_1580000000⟩], .inl 51 a51 s51, .inl 52 a52 s52, .out 48 (RSh.one (CK.int .i64)), .out 49 (RSh.one (CK.int .i64)), .out 50 (RSh.one (CK.int .i64)), .out 38 (RSh.one (CK.int .i64)), .out 53 (RSh.agg [(CK.int .i64), (CK.int .i64), (CK.int .i64), (CK.int .i64), (CK.int .i64), (CK.int .i64)]), .out 54 (RSh.one CK.bool), .out 55 (RSh.agg [(CK.int .i64), (CK.int .i64), (CK.int .i64), (CK.int .i64), (CK.int .i64), (CK.int .i64)])]
theorem EcPath_ok : ∀ e ∈ EcPath LcPath_1580000000, EntOK env e := (ent_inp rfl (lo_cons (lpO_ok UcPathg158) lo_nil) (ent_inl rfl (ent_inl rfl (ent_out (ent_out (ent_out (ent_out (ent_out (ent_out (ent_out ent_nil))))))))))
def BcPath_1580000000a (F : FnT) (N : QO) (E : EO) (L1580000000 : Q → Option YcPath_1580000000) (n0 : Nat) (c1 : List PV) (i2 i3 i4 i5 i6 i7 i8 i9 i10 i11 i12 i13 i14 i15 : Int) : Option (Ext × S) :=
  bif (decide (i3 < i2)) then
    bif (decide (((0 : Int) ≤ i3) ∧ (i3 < (n0 : Int)))) then
      bindO (intC .i64 (c1[((Int.toNat i3) * 3)]?)) fun x0 =>
      bindO (intC .i64 (c1[(((Int.toNat i3) * 3) + 1)]?)) fun x1 =>
      bindO (intC .i64 (c1[((((Int.toNat i3) * 3) + 1) + 1)]?)) fun x2 =>
      bindO (F 53 (RSh.agg [(CK.int .i64), (CK.int .i64), (CK.int .i64), (CK.int .i64), (CK.int .i64), (CK.int .i64)]) [(PV.agg [(PV.int .i64 x0), (PV.int .i64 x1), (PV.int .i64 x2)])]) fun (y3 : ((Int) × ((Int) × ((Int) × ((Int) × ((Int) × (Int))))))) =>
      bindO (F 54 (RSh.one CK.bool) [(PV.agg [(PV.int .i64 y3.1), (PV.int .i64 y3.2.1), (PV.int .i64 y3.2.2.1), (PV.int .i64 y3.2.2.2.1), (PV.int .i64 y3.2.2.2.2.1), (PV.int .i64 y3.2.2.2.2.2)]), (PV.agg [(PV.int .i64 i4), (PV.int .i64 i5), (PV.int .i64 i6), (PV.int .i64 i7), (PV.int .i64 i8), (PV.int .i64 i9)])]) fun (y4 : (Bool)) =>
      bif y4 then
        bindO (F 50 (RSh.one (CK.int .i64)) [(PV.bool false), (PV.int .i64 (17 : Int))]) fun (y5 : (Int)) =>
        bindO (F 55 (RSh.agg [(CK.int .i64), (CK.int .i64), (CK.int .i64), (CK.int .i64), (CK.int .i64), (CK.int .i64)]) [(PV.agg [(PV.int .i64 y3.1), (PV.int .i64 y3.2.1), (PV.int .i64 y3.2.2.1), (PV.int .i64 y3.2.2.2.1), (PV.int .i64 y3.2.2.2.2.1), (PV.int .i64 y3.2.2.2.2.2)]), (PV.agg [(PV.int .i64 i10), (PV.int .i64 i11), (PV.int .i64 i12), (PV.int .i64 i13), (PV.int .i64 i14), (PV.int .i64 i15)]), (PV.int .i64 (1 : Int))]) fun (y6 : ((Int) × ((Int) × ((Int) × ((Int) × ((Int) × (Int))))))) =>
        bif (y5 != (0 : Int)) then
          E (XcPath_1580000000a (i3, y5, y6.1, y6.2.1, y6.2.2.1, y6.2.2.2.1, y6.2.2.2.2.1, y6.2.2.2.2.2, i10, i11, i12, i13, i14, i15))
        else N (TcPath_1580000000a n0 c1 i2 (w64 (i3 + (1 : Int))) y6.1 y6.2.1 y6.2.2.1 y6.2.2.2.1 y6.2.2.2.2.1 y6.2.2.2.2.2 i10 i11 i12 i13 i14 i15)
      else bindO (F 50 (RSh.one (CK.int .i64)) [(PV.bool true), (PV.int .i64 (17 : Int))]) fun (y7 : (Int)) =>
      bindO (F 55 (RSh.agg [(CK.int .i64), (CK.int .i64), (CK.int .i64), (CK.int .i64), (CK.int .i64), (CK.int .i64)]) [(PV.agg [(PV.int .i64 y3.1), (PV.int .i64 y3.2.1), (PV.int .i64 y3.2.2.1), (PV.int .i64 y3.2.2.2.1), (PV.int .i64 y3.2.2.2.2.1), (PV.int .i64 y3.2.2.2.2.2)]), (PV.agg [(PV.int .i64 i10), (PV.int .i64 i11), (PV.int .i64 i12), (PV.int .i64 i13), (PV.int .i64 i14), (PV.int .i64 i15)]), (PV.int .i64 (1 : Int))]) fun (y8 : ((Int) × ((Int) × ((Int) × ((Int) × ((Int) × (Int))))))) =>
      bif (y7 != (0 : Int)) then
        E (XcPath_1580000000a (i3, y7, y8.1, y8.2.1, y8.2.2.1, y8.2.2.2.1, y8.2.2.2.2.1, y8.2.2.2.2.2, i10, i11, i12, i13, i14, i15))
      else N (TcPath_1580000000a n0 c1 i2 (w64 (i3 + (1 : Int))) y8.1 y8.2.1 y8.2.2.1 y8.2.2.2.1 y8.2.2.2.2.1 y8.2.2.2.2.2 i10 i11 i12 i13 i14 i15)
    else none
  else E (XcPath_1580000000b (i4, i5, i6, i7, i8, i9, i10, i11, i12, i13, i14, i15))
theorem BcPath_1580000000a_eq (F : FnT) (N : QO) (E : EO) (L1580000000 : Q → Option YcPath_1580000000) (n0 : Nat) (c1 : List PV) (i2 i3 i4 i5 i6 i7 i8 i9 i10 i11 i12 i13 i14 i15 : Int) : semB (callP F (EcPath L1580000000) 20) s80 (loopT [⟨0, YcPath_1580000000, L1580000000, XLcPath_1580000000⟩]) 400 (blkIn a80.body 0) N E (TcPath_1580000000a n0 c1 i2 i3 i4 i5 i6 i7 i8 i9 i10 i11 i12 i13 i14 i15) = BcPath_1580000000a F N E L1580000000 n0 c1 i2 i3 i4 i5 i6 i7 i8 i9 i10 i11 i12 i13 i14 i15 := by kernel_rfl
theorem RcPath_1580000000a_of  (n0 : Nat) (c1 : List PV) (i2 i3 i4 i5 i6 i7 i8 i9 i10 i11 i12 i13 i14 i15 : Int) {r : Ext × S} (h : BcPath_1580000000a (Fn env) RcPath_1580000000 exO LcPath_1580000000 n0 c1 i2 i3 i4 i5 i6 i7 i8 i9 i10 i11 i12 i13 i14 i15 = some r) : RcPath_1580000000 (TcPath_1580000000a n0 c1 i2 i3 i4 i5 i6 i7 i8 i9 i10 i11 i12 i13 i14 i15) = some r :=
  lp_of EcPath_ok (by kernel_rfl) (lo_cons (lpO_ok UcPathg158) lo_nil) (by kernel_rfl) ((BcPath_1580000000a_eq _ _ _ _ _ _ _ _ _ _ _ _ _ _ _ _ _ _ _ _).trans h)
def tcPath (F : FnT) (L1580000000 : Q → Option YcPath_1580000000) (p0_0 p0_1 p0_2 p0_3 p0_4 p0_5 p1_0 p1_1 p1_2 p1_3 p1_4 p1_5 : Int) (p2n : Nat) (p2c : List PV) : Option ((Int) × (Int)) :=
  bindO (F 48 (RSh.one (CK.int .i64)) [(PV.agg [(PV.int .i64 p0_0), (PV.int .i64 p0_1), (PV.int .i64 p0_2), (PV.int .i64 p0_3), (PV.int .i64 p0_4), (PV.int .i64 p0_5)])]) fun (y0 : (Int)) =>
  bindO (F 49 (RSh.one (CK.int .i64)) [(PV.agg [(PV.int .i64 p1_0), (PV.int .i64 p1_1), (PV.int .i64 p1_2), (PV.int .i64 p1_3), (PV.int .i64 p1_4), (PV.int .i64 p1_5)])]) fun (y1 : (Int)) =>
  bif ((p2n : Int) == (0 : Int)) then
    bindO (F 50 (RSh.one (CK.int .i64)) [(PV.bool true), (PV.int .i64 (10 : Int))]) fun (y2 : (Int)) =>
    bindO (F 38 (RSh.one (CK.int .i64)) [(PV.list 3 [(PV.int .i64 y0), (PV.int .i64 y1), (PV.int .i64 y2)])]) fun (y3 : (Int)) =>
    bif (y3 != (0 : Int)) then
      some ((0 : Int), y3)
    else bif (decide ((p2n : Int) > (1001 : Int))) then
      some ((0 : Int), (8 : Int))
    else bindO (L1580000000 (TcPath_1580000000a p2n p2c (p2n : Int) (0 : Int) p0_0 p0_1 p0_2 p0_3 p0_4 p0_5 p1_0 p1_1 p1_2 p1_3 p1_4 p1_5)) fun z =>
    Sum.elim (fun y4 =>
      some (y4.1, y4.2.1)) (fun y5 =>
      some ((0 : Int), (0 : Int))) z
  else bindO (F 50 (RSh.one (CK.int .i64)) [(PV.bool false), (PV.int .i64 (10 : Int))]) fun (y6 : (Int)) =>
  bindO (F 38 (RSh.one (CK.int .i64)) [(PV.list 3 [(PV.int .i64 y0), (PV.int .i64 y1), (PV.int .i64 y6)])]) fun (y7 : (Int)) =>
  bif (y7 != (0 : Int)) then
    some ((0 : Int), y7)
  else bif (decide ((p2n : Int) > (1001 : Int))) then
    some ((0 : Int), (8 : Int))
  else bindO (L1580000000 (TcPath_1580000000a p2n p2c (p2n : Int) (0 : Int) p0_0 p0_1 p0_2 p0_3 p0_4 p0_5 p1_0 p1_1 p1_2 p1_3 p1_4 p1_5)) fun z =>
  Sum.elim (fun y8 =>
    some (y8.1, y8.2.1)) (fun y9 =>
    some ((0 : Int), (0 : Int))) z
theorem tcPath_eq (F : FnT) (L1580000000 : Q → Option YcPath_1580000000) (p0_0 p0_1 p0_2 p0_3 p0_4 p0_5 p1_0 p1_1 p1_2 p1_3 p1_4 p1_5 : Int) (p2n : Nat) (p2c : List PV) : semF (callP F (EcPath L1580000000) 20) s15 (loopT []) 400 a15 [PV.agg [PV.int .i64 p0_0, PV.int .i64 p0_1, PV.int .i64 p0_2, PV.int .i64 p0_3, PV.int .i64 p0_4, PV.int .i64 p0_5], PV.agg [PV.int .i64 p1_0, PV.int .i64 p1_1, PV.int .i64 p1_2, PV.int .i64 p1_3, PV.int .i64 p1_4, PV.int .i64 p1_5], PV.list p2n p2c] (fun rv => decR (RSh.tup [(Prod.mk false [(CK.int .i64)]), (Prod.mk false [(CK.int .i64)])]) rv.pv) = tcPath F L1580000000 p0_0 p0_1 p0_2 p0_3 p0_4 p0_5 p1_0 p1_1 p1_2 p1_3 p1_4 p1_5 p2n p2c := by kernel_rfl
noncomputable abbrev FcPath (args : List PV) := Fn env 15 (RSh.tup [(Prod.mk false [(CK.int .i64)]), (Prod.mk false [(CK.int .i64)])]) args
theorem FcPath_of  (p0_0 p0_1 p0_2 p0_3 p0_4 p0_5 p1_0 p1_1 p1_2 p1_3 p1_4 p1_5 : Int) (p2n : Nat) (p2c : List PV) {res : ((Int) × (Int))} (h : tcPath (Fn env) LcPath_1580000000 p0_0 p0_1 p0_2 p0_3 p0_4 p0_5 p1_0 p1_1 p1_2 p1_3 p1_4 p1_5 p2n p2c = some res) : FcPath [PV.agg [PV.int .i64 p0_0, PV.int .i64 p0_1, PV.int .i64 p0_2, PV.int .i64 p0_3, PV.int .i64 p0_4, PV.int .i64 p0_5], PV.agg [PV.int .i64 p1_0, PV.int .i64 p1_1, PV.int .i64 p1_2, PV.int .i64 p1_3, PV.int .i64 p1_4, PV.int .i64 p1_5], PV.list p2n p2c] = some res :=
  fn_of EcPath_ok rfl rfl lo_nil ((tcPath_eq _ _ _ _ _ _ _ _ _ _ _ _ _ _ _ _).trans h)
end Gv

/- Boxes: errors, the box after some ticks, what two boxes have in common. -/
namespace Gv
open Go
set_option maxRecDepth 100000
abbrev B6 := Int × Int × Int × Int × Int × Int
def enc6 (b : B6) : PV := .agg [.int .i64 b.1, .int .i64 b.2.1, .int .i64 b.2.2.1, .int .i64 b.2.2.2.1, .int .i64 b.2.2.2.2.1, .int .i64 b.2.2.2.2.2]
theorem eIf_is (b : Bool) (x : Int) : FeIf [.bool b, .int .i64 x] = some (if b then x else 0) := FeIf_of b x (by cases b <;> rfl)
theorem rE_is (x lo hi : Int) : FrE [.int .i64 x, .int .i64 lo, .int .i64 hi] = some (rangeE x lo hi) :=
  FrE_of x lo hi (by
    unfold trE rangeE
    by_cases h1 : x < lo
    · simp [h1]
    · by_cases h2 : x > hi
      · have : hi < x := h2
        simp [h1, this]
      · have : ¬ hi < x := h2
        simp [h1, this])
theorem fE2_is (a b : Int) : FfE2 [.list 2 [.int .i64 a, .int .i64 b]] = some (both a b) :=
  FfE2_of a b (by
    unfold tfE2 both
    simp only [bif_ne]
    by_cases h1 : a = 0 <;> by_cases h2 : b = 0 <;> simp [h1, h2])
theorem fE3_is (a b c : Int) : FfE3 [.list 3 [.int .i64 a, .int .i64 b, .int .i64 c]] = some (first3 a b c) :=
  FfE3_of a b c (by
    unfold tfE3 first3
    simp only [bif_ne]
    by_cases h1 : a = 0 <;> by_cases h2 : b = 0 <;> by_cases h3 : c = 0 <;> simp [h1, h2, h3])
theorem fE4_is (a b c d : Int) : FfE4 [.list 4 [.int .i64 a, .int .i64 b, .int .i64 c, .int .i64 d]] = some (first4 a b c d) :=
  FfE4_of a b c d (by
    unfold tfE4 first4
    simp only [bif_ne]
    by_cases h1 : a = 0 <;> by_cases h2 : b = 0 <;> by_cases h3 : c = 0 <;> by_cases h4 : d = 0 <;> simp [h1, h2, h3, h4])
theorem rangeE_if (x a b : Int) : rangeE x a b = if a ≤ x ∧ x ≤ b then 0 else 2 := by unfold rangeE; split <;> split <;> omega
def endsE (lo hi a b : Int) : Int := if (lo ≤ a ∧ a ≤ hi) ∧ (lo ≤ b ∧ b ≤ hi) then 0 else 2
def ordE (a b : Int) : Int := if b < a then 9 else 0
theorem both_ends (lo hi a b : Int) : both (rangeE a lo hi) (rangeE b lo hi) = endsE lo hi a b := by
  unfold both endsE
  simp only [rangeE_if]
  by_cases h1 : lo ≤ a ∧ a ≤ hi <;> by_cases h2 : lo ≤ b ∧ b ≤ hi <;> simp [h1, h2]
theorem en1_is (a b lo hi : Int) : Fen1 [.agg [.int .i64 a, .int .i64 b], .imm [.int .i64 lo] 0, .imm [.int .i64 hi] 0] = some (endsE lo hi a b) :=
  Fen1_of _ _ _ _ (by unfold ten1; simp only [rE_is, fE2_is, bindO_val, both_ends])
theorem or1_is (a b : Int) : For1 [.agg [.int .i64 a, .int .i64 b]] = some (ordE a b) :=
  For1_of _ _ (by
    unfold tor1 ordE
    simp only [eIf_is, bindO_val, bif_dec]
    by_cases h : b < a
    · have : a > b := h
      simp [h, this]
    · have : ¬ a > b := h
      simp [h, this])
theorem enA_is (lo hi a b : Int) : FenA [.int .i64 lo, .int .i64 hi, .list 1 [.int .i64 a, .int .i64 b]] = some (endsE lo hi a b) :=
  FenA_of _ _ _ _ (by
    unfold tenA
    simp only [en1_is, bindO_val, bif_ne]
    by_cases h1 : endsE lo hi a b = 0 <;> simp [h1])
theorem enB_is (lo hi a b c d : Int) : FenB [.int .i64 lo, .int .i64 hi, .list 2 [.int .i64 a, .int .i64 b, .int .i64 c, .int .i64 d]] = some (both (endsE lo hi a b) (endsE lo hi c d)) :=
  FenB_of _ _ _ _ _ _ (by
    unfold tenB both
    simp only [en1_is, bindO_val, bif_ne]
    by_cases h1 : endsE lo hi a b = 0 <;> by_cases h2 : endsE lo hi c d = 0 <;> simp [h1, h2])
theorem orC_is (a b c d e f : Int) : ForC [.list 3 [.int .i64 a, .int .i64 b, .int .i64 c, .int .i64 d, .int .i64 e, .int .i64 f]] = some (first3 (ordE a b) (ordE c d) (ordE e f)) :=
  ForC_of _ _ _ _ _ _ (by
    unfold torC first3
    simp only [or1_is, bindO_val, bif_ne]
    by_cases h1 : ordE a b = 0 <;> by_cases h2 : ordE c d = 0 <;> by_cases h3 : ordE e f = 0 <;> simp [h1, h2, h3])
theorem bWi_is (x a b : Int) : FbWi [.int .i64 x, .int .i64 a, .int .i64 b] = some (decide (a ≤ x ∧ x ≤ b)) :=
  FbWi_of _ _ _ (by
    unfold tbWi
    by_cases h1 : a ≤ x <;> by_cases h2 : x ≤ b <;> simp [h1, h2])
theorem rW2_is (a b lo hi : Int) : FrW2 [.agg [.int .i64 a, .int .i64 b], .int .i64 lo, .int .i64 hi] = some (decide ((lo ≤ a ∧ a ≤ hi) ∧ (lo ≤ b ∧ b ≤ hi))) :=
  FrW2_of _ _ _ _ (by
    unfold trW2
    simp only [bWi_is, bindO_val]
    by_cases h1 : lo ≤ a ∧ a ≤ hi <;> by_cases h2 : lo ≤ b ∧ b ≤ hi <;> simp [h1, h2])
def ord3 (a b c d e f : Int) : Int := if a ≤ b ∧ c ≤ d ∧ e ≤ f then 0 else 9
theorem first_ord (a b c d e f : Int) : first3 (ordE a b) (ordE c d) (ordE e f) = ord3 a b c d e f := by
  unfold first3 ordE ord3
  by_cases h1 : b < a <;> by_cases h2 : d < c <;> by_cases h3 : f < e <;> simp [h1, h2, h3] <;> omega
def boxE (b : B6) : Int := if ((-1000000 ≤ b.1 ∧ b.1 ≤ 1000000) ∧ (-1000000 ≤ b.2.1 ∧ b.2.1 ≤ 1000000)) ∧ ((0 ≤ b.2.2.1 ∧ b.2.2.1 ≤ 1000000) ∧ (0 ≤ b.2.2.2.1 ∧ b.2.2.2.1 ≤ 1000000)) ∧ ((0 ≤ b.2.2.2.2.1 ∧ b.2.2.2.2.1 ≤ 10000) ∧ (0 ≤ b.2.2.2.2.2 ∧ b.2.2.2.2.2 ≤ 10000)) then ord3 b.1 b.2.1 b.2.2.1 b.2.2.2.1 b.2.2.2.2.1 b.2.2.2.2.2 else 2
theorem first_if (p q r : Prop) [Decidable p] [Decidable q] [Decidable r] (x : Int) : first4 (if p then 0 else 2) (if q then 0 else 2) (if r then 0 else 2) x = if p ∧ q ∧ r then x else 2 := by
  unfold first4
  by_cases h1 : p <;> by_cases h2 : q <;> by_cases h3 : r <;> simp [h1, h2, h3]
theorem first_if3 (p q r : Prop) [Decidable p] [Decidable q] [Decidable r] (x : Int) : first3 (if p then 0 else 2) (both (if q then 0 else 2) (if r then 0 else 2)) x = if p ∧ q ∧ r then x else 2 := by
  unfold first3 both
  by_cases h1 : p <;> by_cases h2 : q <;> by_cases h3 : r <;> simp [h1, h2, h3]
theorem cBox_is (b : B6) : FcBox [enc6 b] = some (boxE b) :=
  FcBox_of _ _ _ _ _ _ (by
    unfold tcBox
    simp only [enA_is, orC_is, fE4_is, bindO_val, first_ord]
    unfold endsE
    rw [first_if]
    rfl)
theorem ord_tree (a b c d e f : Int) : (bif decide (a > b) then some (9 : Int) else bif decide (c > d) then some 9 else bif decide (e > f) then some 9 else some 0) = some (ord3 a b c d e f) := by
  unfold ord3
  by_cases h1 : a > b <;> by_cases h2 : c > d <;> by_cases h3 : e > f <;> simp [h1, h2, h3] <;> omega
theorem rBoxE_is (b : B6) : FrBoxE [enc6 b] = some (boxE b) :=
  FrBoxE_of _ _ _ _ _ _ (by
    unfold trBoxE boxE
    simp only [rW2_is, bindO_val, ord_tree]
    simp only [bif_dec]
    by_cases h1 : (-1000000 ≤ b.1 ∧ b.1 ≤ 1000000) ∧ (-1000000 ≤ b.2.1 ∧ b.2.1 ≤ 1000000)
    · by_cases h2 : (0 ≤ b.2.2.1 ∧ b.2.2.1 ≤ 1000000) ∧ (0 ≤ b.2.2.2.1 ∧ b.2.2.2.1 ≤ 1000000)
      · by_cases h3 : (0 ≤ b.2.2.2.2.1 ∧ b.2.2.2.2.1 ≤ 10000) ∧ (0 ≤ b.2.2.2.2.2 ∧ b.2.2.2.2.2 ≤ 10000)
        · rw [if_pos h1, if_pos h2, if_pos h3, if_pos ⟨h1, h2, h3⟩]
        · rw [if_pos h1, if_pos h2, if_neg h3, if_neg (fun h => h3 h.2.2)]
      · rw [if_pos h1, if_neg h2, if_neg (fun h => h2 h.2.1)]
    · rw [if_neg h1, if_neg (fun h => h1 h.1)])
theorem boxE_ok {b : B6} (h : boxE b = 0) : -1000000 ≤ b.1 ∧ b.1 ≤ b.2.1 ∧ b.2.1 ≤ 1000000 ∧ 0 ≤ b.2.2.1 ∧ b.2.2.1 ≤ b.2.2.2.1 ∧ b.2.2.2.1 ≤ 1000000 ∧ 0 ≤ b.2.2.2.2.1 ∧ b.2.2.2.2.1 ≤ b.2.2.2.2.2 ∧ b.2.2.2.2.2 ≤ 10000 := by
  unfold boxE ord3 at h
  split at h
  · split at h
    · omega
    · omega
  · omega
def driE (d : B6) : Int := if ((-100 ≤ d.1 ∧ d.1 ≤ 100) ∧ (-100 ≤ d.2.1 ∧ d.2.1 ≤ 100)) ∧ ((0 ≤ d.2.2.1 ∧ d.2.2.1 ≤ 100) ∧ (0 ≤ d.2.2.2.1 ∧ d.2.2.2.1 ≤ 100)) ∧ ((0 ≤ d.2.2.2.2.1 ∧ d.2.2.2.2.1 ≤ 100) ∧ (0 ≤ d.2.2.2.2.2 ∧ d.2.2.2.2.2 ≤ 100)) then ord3 d.1 d.2.1 d.2.2.1 d.2.2.2.1 d.2.2.2.2.1 d.2.2.2.2.2 else 2
theorem driE_is (d : B6) : FdriE [enc6 d] = some (driE d) :=
  FdriE_of _ _ _ _ _ _ (by
    unfold tdriE
    simp only [enA_is, enB_is, orC_is, fE3_is, bindO_val, first_ord]
    unfold endsE
    rw [first_if3]
    rfl)
theorem rDriE_is (d : B6) : FrDriE [enc6 d] = some (driE d) :=
  FrDriE_of _ _ _ _ _ _ (by
    unfold trDriE driE
    simp only [rW2_is, bindO_val, ord_tree]
    simp only [bif_dec]
    by_cases h1 : (-100 ≤ d.1 ∧ d.1 ≤ 100) ∧ (-100 ≤ d.2.1 ∧ d.2.1 ≤ 100)
    · by_cases h2 : (0 ≤ d.2.2.1 ∧ d.2.2.1 ≤ 100) ∧ (0 ≤ d.2.2.2.1 ∧ d.2.2.2.1 ≤ 100)
      · by_cases h3 : (0 ≤ d.2.2.2.2.1 ∧ d.2.2.2.2.1 ≤ 100) ∧ (0 ≤ d.2.2.2.2.2 ∧ d.2.2.2.2.2 ≤ 100)
        · rw [if_pos h1, if_pos h2, if_pos h3, if_pos ⟨h1, h2, h3⟩]
        · rw [if_pos h1, if_pos h2, if_neg h3, if_neg (fun h => h3 h.2.2)]
      · rw [if_pos h1, if_neg h2, if_neg (fun h => h2 h.2.1)]
    · rw [if_neg h1, if_neg (fun h => h1 h.1)])
theorem driE_ok {b : B6} (h : driE b = 0) : -100 ≤ b.1 ∧ b.1 ≤ b.2.1 ∧ b.2.1 ≤ 100 ∧ 0 ≤ b.2.2.1 ∧ b.2.2.1 ≤ b.2.2.2.1 ∧ b.2.2.2.1 ≤ 100 ∧ 0 ≤ b.2.2.2.2.1 ∧ b.2.2.2.2.1 ≤ b.2.2.2.2.2 ∧ b.2.2.2.2.2 ≤ 100 := by
  unfold driE ord3 at h
  split at h
  · split at h
    · omega
    · omega
  · omega
theorem rTicE_is (n : Int) : FrTicE [.int .i64 n] = some (rangeE n 0 1000) :=
  FrTicE_of _ (by
    unfold trTicE
    simp only [bWi_is, bindO_val, bif_dec, rangeE_if]
    by_cases h : 0 ≤ n ∧ n ≤ 1000 <;> simp [h])
theorem rMovE_is (b d : B6) : FrMovE [enc6 b, enc6 d] = some (both (boxE b) (driE d)) :=
  FrMovE_of _ _ _ _ _ _ _ _ _ _ _ _ (by
    unfold trMovE both
    have h1 : FrBoxE [enc6 b] = _ := rBoxE_is b
    have h2 : FrDriE [enc6 d] = _ := rDriE_is d
    simp only [enc6] at h1 h2
    simp only [h1, h2, bindO_val, bif_ne]
    by_cases h : boxE b = 0 <;> simp [h])
def pos (x : Int) : Int := if x > 0 then x else 0
def aftV (b d : B6) (t : Int) : B6 := (b.1 + t * d.1, b.2.1 + t * d.2.1, pos (b.2.2.1 - t * d.2.2.2.1), pos (b.2.2.2.1 - t * d.2.2.1), pos (b.2.2.2.2.1 - t * d.2.2.2.2.2), pos (b.2.2.2.2.2 - t * d.2.2.2.2.1))
def Sm (b : B6) : Prop := (-10000000000 ≤ b.1 ∧ b.1 ≤ 10000000000) ∧ (-10000000000 ≤ b.2.1 ∧ b.2.1 ≤ 10000000000) ∧ (-10000000000 ≤ b.2.2.1 ∧ b.2.2.1 ≤ 10000000000) ∧ (-10000000000 ≤ b.2.2.2.1 ∧ b.2.2.2.1 ≤ 10000000000) ∧ (-10000000000 ≤ b.2.2.2.2.1 ∧ b.2.2.2.2.1 ≤ 10000000000) ∧ (-10000000000 ≤ b.2.2.2.2.2 ∧ b.2.2.2.2.2 ≤ 10000000000)
theorem mul_small {t x : Int} (ht : 0 ≤ t ∧ t ≤ 1000000) (hx : -100 ≤ x ∧ x ≤ 100) : -100000000 ≤ t * x ∧ t * x ≤ 100000000 := by
  have h1 : t * x ≤ t * 100 := Int.mul_le_mul_of_nonneg_left hx.2 ht.1
  have h2 : t * (-100) ≤ t * x := Int.mul_le_mul_of_nonneg_left hx.1 ht.1
  omega
theorem less_is {a b : Int × Int} {t : Int} (ha : (-10000000000 ≤ a.1 ∧ a.1 ≤ 10000000000) ∧ (-10000000000 ≤ a.2 ∧ a.2 ≤ 10000000000)) (hb : (-100 ≤ b.1 ∧ b.1 ≤ 100) ∧ (-100 ≤ b.2 ∧ b.2 ≤ 100)) (ht : 0 ≤ t ∧ t ≤ 1000000) :
    Fless [.agg [.int .i64 a.1, .int .i64 a.2], .agg [.int .i64 b.1, .int .i64 b.2], .int .i64 t] = some (pos (a.1 - t * b.2), pos (a.2 - t * b.1)) := by
  refine Fless_of _ _ _ _ _ ?_
  have h1 := mul_small ht hb.1
  have h2 := mul_small ht hb.2
  unfold tless pos
  rw [w64_in (n := t * b.2) (by omega), w64_in (n := t * b.1) (by omega), w64_in (by omega), w64_in (by omega)]
theorem bAft_is {b d : B6} {t : Int} (hb : Sm b) (hd : driE d = 0) (ht : 0 ≤ t ∧ t ≤ 1000000) : FbAft [enc6 b, enc6 d, .int .i64 t] = some (aftV b d t) := by
  obtain ⟨y0, y1, z0, z1, s0, s1⟩ := b
  obtain ⟨d0, d1, d2, d3, d4, d5⟩ := d
  have hd := driE_ok hd
  unfold Sm at hb
  simp only at hb hd
  have k0 := mul_small (x := d0) ht (by omega)
  have k1 := mul_small (x := d1) ht (by omega)
  refine FbAft_of _ _ _ _ _ _ _ _ _ _ _ _ _ ?_
  have h1 := less_is (a := (z0, z1)) (b := (d2, d3)) (t := t) (by simp only; omega) (by simp only; omega) ht
  have h2 := less_is (a := (s0, s1)) (b := (d4, d5)) (t := t) (by simp only; omega) (by simp only; omega) ht
  simp only at h1 h2
  unfold tbAft aftV
  simp only [h1, h2, bindO_val]
  rw [w64_in (n := t * d0) (by omega), w64_in (n := t * d1) (by omega), w64_in (by omega), w64_in (by omega)]
def Nn (b : B6) : Prop := 0 ≤ b.2.2.1 ∧ 0 ≤ b.2.2.2.1 ∧ 0 ≤ b.2.2.2.2.1 ∧ 0 ≤ b.2.2.2.2.2
theorem pos_two {z s t : Int} (hs : 0 ≤ s) (ht : 0 ≤ t) : pos (pos (z - t * s) - s) = pos (z - (t + 1) * s) := by
  have : (t + 1) * s = t * s + s := by rw [Int.add_mul, Int.one_mul]
  rw [this]
  have h2 : 0 ≤ t * s := Int.mul_nonneg ht hs
  unfold pos
  split <;> split <;> (try split) <;> omega
theorem aft_zero {b d : B6} (hb : Nn b) : aftV b d 0 = b := by
  obtain ⟨y0, y1, z0, z1, s0, s1⟩ := b
  unfold Nn at hb
  simp only at hb
  have hp : ∀ x : Int, 0 ≤ x → pos x = x := fun x hx => by unfold pos; split <;> omega
  simp only [aftV, Int.zero_mul, Int.add_zero, Int.sub_zero, hp _ hb.1, hp _ hb.2.1, hp _ hb.2.2.1, hp _ hb.2.2.2]
theorem aft_succ {b d : B6} (hd : driE d = 0) {t : Int} (ht : 0 ≤ t) : aftV (aftV b d t) d 1 = aftV b d (t + 1) := by
  have hd := driE_ok hd
  have e : ∀ x s : Int, x + t * s + s = x + (t + 1) * s := fun x s => by rw [Int.add_mul]; omega
  simp only [aftV, Int.one_mul, e, pos_two (show 0 ≤ d.2.2.2.1 by omega) ht, pos_two (show 0 ≤ d.2.2.1 by omega) ht, pos_two (show 0 ≤ d.2.2.2.2.2 by omega) ht, pos_two (show 0 ≤ d.2.2.2.2.1 by omega) ht]
theorem pos_bd {x : Int} (h : x ≤ 10000000000) : 0 ≤ pos x ∧ pos x ≤ 10000000000 := by unfold pos; split <;> omega
theorem aft_sm {b d : B6} (hb : boxE b = 0) (hd : driE d = 0) {t : Int} (ht : 0 ≤ t ∧ t ≤ 1000000) : Sm (aftV b d t) ∧ Nn (aftV b d t) := by
  have hb := boxE_ok hb
  have hd := driE_ok hd
  have k0 := mul_small (x := d.1) ht (by omega)
  have k1 := mul_small (x := d.2.1) ht (by omega)
  have k2 := mul_small (x := d.2.2.1) ht (by omega)
  have k3 := mul_small (x := d.2.2.2.1) ht (by omega)
  have k4 := mul_small (x := d.2.2.2.2.1) ht (by omega)
  have k5 := mul_small (x := d.2.2.2.2.2) ht (by omega)
  have p0 := pos_bd (x := b.2.2.1 - t * d.2.2.2.1) (by omega)
  have p1 := pos_bd (x := b.2.2.2.1 - t * d.2.2.1) (by omega)
  have p2 := pos_bd (x := b.2.2.2.2.1 - t * d.2.2.2.2.2) (by omega)
  have p3 := pos_bd (x := b.2.2.2.2.2 - t * d.2.2.2.2.1) (by omega)
  unfold Sm Nn aftV
  simp only
  omega
theorem box_sm {b : B6} (hb : boxE b = 0) : Sm b ∧ Nn b := by
  have hb := boxE_ok hb
  unfold Sm Nn
  omega
theorem boxA_is {b d : B6} {t : Int} : FboxA [enc6 b, enc6 d, .int .i64 t] = some (if first3 (boxE b) (driE d) (rangeE t 0 1000) = 0 then ((aftV b d t).1, (aftV b d t).2.1, (aftV b d t).2.2.1, (aftV b d t).2.2.2.1, (aftV b d t).2.2.2.2.1, (aftV b d t).2.2.2.2.2, 0) else (0, 0, 0, 0, 0, 0, first3 (boxE b) (driE d) (rangeE t 0 1000))) := by
  refine FboxA_of _ _ _ _ _ _ _ _ _ _ _ _ _ ?_
  have h1 : FcBox [enc6 b] = _ := cBox_is b
  have h2 : FdriE [enc6 d] = _ := driE_is d
  simp only [enc6] at h1 h2
  unfold tboxA
  simp only [h1, h2, rE_is, fE3_is, bindO_val, bif_ne]
  by_cases he : first3 (boxE b) (driE d) (rangeE t 0 1000) = 0
  · rw [if_pos he, if_pos he]
    obtain ⟨e1, e2, e3⟩ := first3_nil he
    have h3 := bAft_is (b := b) (d := d) (t := t) (box_sm e1).1 e2 (by have := rangeE_ok e3; omega)
    simp only [enc6] at h3
    simp only [h3, bindO_val]
  · rw [if_neg he, if_neg he]
end Gv

/- Paths: what the program and the specification accept. -/
namespace Gv
open Go
set_option maxRecDepth 100000
abbrev Z3 := Int × Int × Int
def enc3 (z : Z3) : List PV := [.int .i64 z.1, .int .i64 z.2.1, .int .i64 z.2.2]
def encT (l : List Z3) : List PV := l.flatMap enc3
theorem enc3_len (z : Z3) : (enc3 z).length = 3 := rfl
theorem encT_len (l : List Z3) : (encT l).length = l.length * 3 := flat_len enc3 3 enc3_len l
theorem encT_0 (l : List Z3) (i : Nat) : (encT l)[i * 3]? = l[i]?.map fun z => PV.int .i64 z.1 := by
  have := flat_get enc3 3 enc3_len l i 0 (by omega)
  rw [Nat.add_zero] at this
  rw [encT, this]
  cases l[i]? <;> rfl
theorem encT_1 (l : List Z3) (i : Nat) : (encT l)[i * 3 + 1]? = l[i]?.map fun z => PV.int .i64 z.2.1 := by
  rw [encT, flat_get enc3 3 enc3_len l i 1 (by omega)]
  cases l[i]? <;> rfl
theorem encT_2 (l : List Z3) (i : Nat) : (encT l)[i * 3 + 1 + 1]? = l[i]?.map fun z => PV.int .i64 z.2.2 := by
  rw [encT, Nat.add_assoc, flat_get enc3 3 enc3_len l i 2 (by omega)]
  cases l[i]? <;> rfl
def Hd (b : B6) (v : Z3) : Prop := (b.1 ≤ v.1 ∧ v.1 ≤ b.2.1) ∧ (b.2.2.1 ≤ v.2.1 ∧ v.2.1 ≤ b.2.2.2.1) ∧ (b.2.2.2.2.1 ≤ v.2.2 ∧ v.2.2 ≤ b.2.2.2.2.2)
instance (b : B6) (v : Z3) : Decidable (Hd b v) := by unfold Hd; exact inferInstance
def boxV (v : Z3) : B6 := (v.1, v.1, v.2.1, v.2.1, v.2.2, v.2.2)
def encV (v : Z3) : PV := .agg [.int .i64 v.1, .int .i64 v.2.1, .int .i64 v.2.2]
theorem boxO_is (v : Z3) : FboxO [encV v] = some (boxV v) := FboxO_of _ _ _ rfl
def InB (a b : B6) : Prop := b.1 ≤ a.1 ∧ a.2.1 ≤ b.2.1 ∧ b.2.2.1 ≤ a.2.2.1 ∧ a.2.2.2.1 ≤ b.2.2.2.1 ∧ b.2.2.2.2.1 ≤ a.2.2.2.2.1 ∧ a.2.2.2.2.2 ≤ b.2.2.2.2.2
instance (a b : B6) : Decidable (InB a b) := by unfold InB; exact inferInstance
def inBb (a b : B6) : Bool := decide (InB a b)
theorem isW_is (a b : B6) : FisW [enc6 a, enc6 b] = some (inBb a b) := by
  unfold inBb
  refine FisW_of _ _ _ _ _ _ _ _ _ _ _ _ ?_
  unfold tisW
  simp only [bif_dec]
  by_cases h : InB a b
  · have h' := h
    unfold InB at h'
    rw [if_neg (by omega), if_neg (by omega), if_neg (by omega), if_neg (by omega), if_neg (by omega), if_neg (by omega), decide_eq_true h]
  · rw [decide_eq_false h]
    unfold InB at h
    repeat' split
    all_goals first | rfl | (exfalso; omega)
theorem inB_hd (v : Z3) (b : B6) : InB (boxV v) b ↔ Hd b v := by
  unfold InB Hd boxV
  simp only
  omega
theorem rHold_is (b : B6) (v : Z3) : FrHold [enc6 b, encV v] = some (decide (Hd b v)) := by
  refine FrHold_of _ _ _ _ _ _ _ _ _ ?_
  unfold trHold Hd
  simp only [bWi_is, bindO_val, bif_dec]
  by_cases h1 : b.1 ≤ v.1 ∧ v.1 ≤ b.2.1 <;> by_cases h2 : b.2.2.1 ≤ v.2.1 ∧ v.2.1 ≤ b.2.2.2.1 <;> by_cases h3 : b.2.2.2.2.1 ≤ v.2.2 ∧ v.2.2 ≤ b.2.2.2.2.2 <;> simp [h1, h2, h3]
def Bw (m : Int) (b : B6) : Prop := (-m ≤ b.1 ∧ b.1 ≤ m) ∧ (-m ≤ b.2.1 ∧ b.2.1 ≤ m) ∧ (-m ≤ b.2.2.1 ∧ b.2.2.1 ≤ m) ∧ (-m ≤ b.2.2.2.1 ∧ b.2.2.2.1 ≤ m) ∧ (-m ≤ b.2.2.2.2.1 ∧ b.2.2.2.2.1 ≤ m) ∧ (-m ≤ b.2.2.2.2.2 ∧ b.2.2.2.2.2 ≤ m)
theorem bw_sm {m : Int} {b : B6} (h : Bw m b) (hm : m ≤ 10000000000) : Sm b := by unfold Bw at h; unfold Sm; omega
theorem bw_box {b : B6} (h : boxE b = 0) : Bw 1000000 b := by have := boxE_ok h; unfold Bw; omega
theorem bw_v {m : Int} {b : B6} {v : Z3} (h : Bw m b) (hv : Hd b v) : Bw m (boxV v) := by
  unfold Bw Hd at *
  unfold boxV
  simp only
  omega
theorem bw_next {m : Int} {b d : B6} (h : Bw m b) (hd : driE d = 0) (hm : 0 ≤ m) : Bw (m + 100) (aftV b d 1) := by
  have hd := driE_ok hd
  have hp : ∀ x : Int, x ≤ m + 100 → -(m + 100) ≤ pos x ∧ pos x ≤ m + 100 := fun x hx => by unfold pos; split <;> omega
  unfold Bw at h
  have p0 := hp (b.2.2.1 - 1 * d.2.2.2.1) (by omega)
  have p1 := hp (b.2.2.2.1 - 1 * d.2.2.1) (by omega)
  have p2 := hp (b.2.2.2.2.1 - 1 * d.2.2.2.2.2) (by omega)
  have p3 := hp (b.2.2.2.2.2 - 1 * d.2.2.2.2.1) (by omega)
  unfold Bw aftV
  simp only
  omega
def badF (d : B6) : B6 → List Z3 → Nat → Option Nat
  | _, [], _ => none
  | w, v :: l, i => if Hd w v then badF d (aftV (boxV v) d 1) l (i + 1) else some i
theorem less_tot (a b c d t : Int) : ∃ r, Fless [.agg [.int .i64 a, .int .i64 b], .agg [.int .i64 c, .int .i64 d], .int .i64 t] = some r := ⟨_, Fless_of _ _ _ _ _ rfl⟩
theorem bAft_tot (b d : B6) (t : Int) : ∃ r, FbAft [enc6 b, enc6 d, .int .i64 t] = some r := by
  obtain ⟨r1, h1⟩ := less_tot b.2.2.1 b.2.2.2.1 d.2.2.1 d.2.2.2.1 t
  obtain ⟨r2, h2⟩ := less_tot b.2.2.2.2.1 b.2.2.2.2.2 d.2.2.2.2.1 d.2.2.2.2.2 t
  refine ⟨(w64 (b.1 + w64 (t * d.1)), w64 (b.2.1 + w64 (t * d.2.1)), r1.1, r1.2, r2.1, r2.2), FbAft_of _ _ _ _ _ _ _ _ _ _ _ _ _ ?_⟩
  unfold tbAft
  simp only [h1, h2, bindO_val]
theorem cPath_loop {d : B6} (hd : driE d = 0) (l : List Z3) (hl : l.length ≤ 1001) : ∀ i, i ≤ l.length → ∀ w : B6, Bw (1000000 + 100 * i) w →
    ∃ y, RcPath_1580000000 (TcPath_1580000000a l.length (encT l) l.length i w.1 w.2.1 w.2.2.1 w.2.2.2.1 w.2.2.2.2.1 w.2.2.2.2.2 d.1 d.2.1 d.2.2.1 d.2.2.2.1 d.2.2.2.2.1 d.2.2.2.2.2) = exO (XLcPath_1580000000.fn y) ∧
      (match badF d w (l.drop i) i with
        | some k => ∃ r, y = .inl ((k : Int), 17, r)
        | none => ∃ r, y = .inr r) := by
  refine up_ind _ ?_ ?_
  · intro w _
    refine ⟨.inr (w.1, w.2.1, w.2.2.1, w.2.2.2.1, w.2.2.2.2.1, w.2.2.2.2.2, d.1, d.2.1, d.2.2.1, d.2.2.2.1, d.2.2.2.2.1, d.2.2.2.2.2), RcPath_1580000000a_of _ _ _ _ _ _ _ _ _ _ _ _ _ _ _ _ ?_, ?_⟩
    · unfold BcPath_1580000000a
      rw [bif_neg (by omega)]
      rfl
    · rw [List.drop_length]
      exact ⟨_, rfl⟩
  · intro i hi ih w hw
    obtain ⟨v, hv, hdr⟩ := get_drop hi
    have c1 : (0 : Int) ≤ (i : Int) ∧ (i : Int) < l.length := by omega
    have h1 := boxO_is v
    have h2 := isW_is (boxV v) w
    simp only [encV, enc6, boxV] at h1 h2
    rw [hdr]
    simp only [badF]
    by_cases hc : Hd w v
    · have hb := bw_v hw hc
      have hn := bw_next hb hd (by omega)
      have h3 := bAft_is (t := 1) (bw_sm hb (by omega)) hd (by omega)
      simp only [enc6, boxV] at h3
      obtain ⟨y, hy, hm⟩ := ih (aftV (boxV v) d 1) (by
        have e : (1000000 : Int) + 100 * ((i + 1 : Nat) : Int) = 1000000 + 100 * (i : Int) + 100 := by omega
        rw [e]; exact hn)
      refine ⟨y, RcPath_1580000000a_of _ _ _ _ _ _ _ _ _ _ _ _ _ _ _ _ ?_, ?_⟩
      · unfold BcPath_1580000000a
        have hin : inBb (v.1, v.1, v.2.1, v.2.1, v.2.2, v.2.2) w = true := decide_eq_true ((inB_hd v w).2 hc)
        rw [bif_pos (by omega), bif_pos c1]
        simp only [Int.toNat_natCast, encT_0, encT_1, encT_2, hv, Option.map_some, intC_int, bindO_val, h1, h2, eIf_is, h3]
        simp only [hin, cond_true, Bool.false_eq_true, if_false, bif_ne, if_true]
        rw [w64_in (by omega)]
        exact hy
      · rw [if_pos hc]
        exact hm
    · obtain ⟨r, h3⟩ := bAft_tot (boxV v) d 1
      simp only [enc6, boxV] at h3
      refine ⟨.inl ((i : Int), 17, r.1, r.2.1, r.2.2.1, r.2.2.2.1, r.2.2.2.2.1, r.2.2.2.2.2, d.1, d.2.1, d.2.2.1, d.2.2.2.1, d.2.2.2.2.1, d.2.2.2.2.2), RcPath_1580000000a_of _ _ _ _ _ _ _ _ _ _ _ _ _ _ _ _ ?_, ?_⟩
      · unfold BcPath_1580000000a
        have hin : inBb (v.1, v.1, v.2.1, v.2.1, v.2.2, v.2.2) w = false := decide_eq_false fun h => hc ((inB_hd v w).1 h)
        rw [bif_pos (by omega), bif_pos c1]
        simp only [Int.toNat_natCast, encT_0, encT_1, encT_2, hv, Option.map_some, intC_int, bindO_val, h1, h2, eIf_is, h3]
        simp only [hin, cond_false]
        rfl
      · rw [if_neg hc]
        exact ⟨_, rfl⟩
def pathV (b d : B6) (l : List Z3) : Int × Int := match badF d b l 0 with
  | some k => ((k : Int), 17)
  | none => (0, 0)
def pathE (b d : B6) (l : List Z3) : Int × Int := if both (boxE b) (driE d) ≠ 0 then (0, both (boxE b) (driE d)) else if l.length = 0 then (0, 10) else if 1001 < l.length then (0, 8) else pathV b d l
theorem cPath_is (b d : B6) (l : List Z3) : FcPath [enc6 b, enc6 d, .list l.length (encT l)] = some (pathE b d l) := by
  refine FcPath_of _ _ _ _ _ _ _ _ _ _ _ _ _ _ ?_
  have h1 : FcBox [enc6 b] = _ := cBox_is b
  have h2 : FdriE [enc6 d] = _ := driE_is d
  simp only [enc6] at h1 h2
  unfold tcPath pathE
  simp only [h1, h2, eIf_is, fE3_is, bindO_val, bif_eq, bif_ne, bif_dec]
  by_cases hb : both (boxE b) (driE d) = 0
  · obtain ⟨e1, e2⟩ := both_nil hb
    have hf : ∀ x, first3 (boxE b) (driE d) x = x := fun x => by unfold first3; rw [e1, e2]; simp
    simp only [hf, hb, ne_eq, not_true_eq_false, if_false]
    by_cases h0 : l.length = 0
    · have : ((l.length : Nat) : Int) = 0 := by omega
      rw [if_pos this, if_pos h0]
      rfl
    · have : ¬ ((l.length : Nat) : Int) = 0 := by omega
      rw [if_neg this, if_neg h0]
      simp only [Bool.false_eq_true, if_false, if_true]
      by_cases hL : 1001 < l.length
      · rw [if_pos (by omega), if_pos hL]
      · rw [if_neg (by omega), if_neg hL]
        obtain ⟨y, hy, hm⟩ := cPath_loop e2 l (by omega) 0 (by omega) b (bw_box e1)
        have hy : LcPath_1580000000 (TcPath_1580000000a l.length (encT l) l.length 0 b.1 b.2.1 b.2.2.1 b.2.2.2.1 b.2.2.2.2.1 b.2.2.2.2.2 d.1 d.2.1 d.2.2.1 d.2.2.2.1 d.2.2.2.2.1 d.2.2.2.2.2) = _ := lpO_of IcPath_1580000000 XIcPath_1580000000 hy
        rw [hy, List.drop_zero] at *
        unfold pathV
        cases hbd : badF d b l 0 with
        | none =>
          rw [hbd] at hm
          obtain ⟨r, rfl⟩ := hm
          rfl
        | some k =>
          rw [hbd] at hm
          obtain ⟨r, rfl⟩ := hm
          rfl
  · have hf : ∀ x, first3 (boxE b) (driE d) x = both (boxE b) (driE d) := fun x => by
      unfold first3 both at *
      by_cases h : boxE b = 0
      · simp only [h, ne_eq, not_true_eq_false, if_false] at hb ⊢
        simp [hb]
      · simp [h]
    simp only [hf, hb, ne_eq, not_false_eq_true, if_true, if_false]
    split <;> rfl
end Gv
