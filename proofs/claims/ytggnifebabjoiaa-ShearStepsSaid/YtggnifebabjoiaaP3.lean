/- What the functions do, round by round: P3. -/
import Derived.Test.YtggnifebabjoiaaGvEnv
namespace Gv
open Go
set_option maxRecDepth 100000
def EcRule : List Entry := [.out 78 (RSh.one (CK.int .i64)), .out 79 (RSh.one (CK.int .i64)), .out 73 (RSh.one (CK.int .i64))]
theorem EcRule_ok : ∀ e ∈ EcRule, EntOK env e := (ent_out (ent_out (ent_out ent_nil)))
def tcRule (F : FnT) (p0_0 : Int) (p0_1 : Int) (p0_2 : Int) (p0_3 : Int) : Option (Int) :=
  bindO (F 78 (RSh.one (CK.int .i64)) [(PV.int .i64 p0_0), (PV.int .i64 (1 : Int)), (PV.int .i64 (20000 : Int))]) fun (y0 : (Int)) =>
  bindO (F 78 (RSh.one (CK.int .i64)) [(PV.int .i64 p0_1), (PV.int .i64 (0 : Int)), (PV.int .i64 (20000 : Int))]) fun (y1 : (Int)) =>
  bindO (F 78 (RSh.one (CK.int .i64)) [(PV.int .i64 p0_2), (PV.int .i64 (0 : Int)), (PV.int .i64 (100000 : Int))]) fun (y2 : (Int)) =>
  bindO (F 78 (RSh.one (CK.int .i64)) [(PV.int .i64 p0_3), (PV.int .i64 (1 : Int)), (PV.int .i64 (100000 : Int))]) fun (y3 : (Int)) =>
  bif (decide (p0_1 > p0_0)) then
    bindO (F 79 (RSh.one (CK.int .i64)) [(PV.bool true), (PV.int .i64 (9 : Int))]) fun (y4 : (Int)) =>
    bindO (F 73 (RSh.one (CK.int .i64)) [(PV.list 5 [(PV.int .i64 y0), (PV.int .i64 y1), (PV.int .i64 y2), (PV.int .i64 y3), (PV.int .i64 y4)])]) fun (y5 : (Int)) =>
    some y5
  else bindO (F 79 (RSh.one (CK.int .i64)) [(PV.bool false), (PV.int .i64 (9 : Int))]) fun (y6 : (Int)) =>
  bindO (F 73 (RSh.one (CK.int .i64)) [(PV.list 5 [(PV.int .i64 y0), (PV.int .i64 y1), (PV.int .i64 y2), (PV.int .i64 y3), (PV.int .i64 y6)])]) fun (y7 : (Int)) =>
  some y7
theorem tcRule_eq (F : FnT) (p0_0 : Int) (p0_1 : Int) (p0_2 : Int) (p0_3 : Int) : semF (callP F EcRule 20) s47 (loopT []) 400 a47 [PV.agg [PV.int .i64 p0_0, PV.int .i64 p0_1, PV.int .i64 p0_2, PV.int .i64 p0_3]] (fun rv => decR (RSh.one (CK.int .i64)) rv.pv) = tcRule F p0_0 p0_1 p0_2 p0_3 := by kernel_rfl
noncomputable abbrev FcRule (args : List PV) := Fn env 47 (RSh.one (CK.int .i64)) args
theorem FcRule_of  (p0_0 : Int) (p0_1 : Int) (p0_2 : Int) (p0_3 : Int) {res : (Int)} (h : tcRule (Fn env) p0_0 p0_1 p0_2 p0_3 = some res) : FcRule [PV.agg [PV.int .i64 p0_0, PV.int .i64 p0_1, PV.int .i64 p0_2, PV.int .i64 p0_3]] = some res :=
  fn_of EcRule_ok rfl rfl lo_nil ((tcRule_eq _ _ _ _ _).trans h)
def EisPos : List Entry := []
theorem EisPos_ok : ∀ e ∈ EisPos, EntOK env e := ent_nil
def tisPos (_F : FnT) (p0_0 : Bool) (p0_1 : Int) (p0_2 : Int) (p0_3 : Int) (p0_4 : Int) : Option (Bool) :=
  bif p0_0 then
    bif (decide (p0_1 > (0 : Int))) then
      bif (decide (p0_2 ≤ p0_3)) then
        bif (decide (p0_4 ≤ p0_3)) then
          bif (p0_4 == (-1 : Int)) then
            some true
          else bif (decide (p0_4 ≥ p0_2)) then
            some true
          else some false
        else some false
      else some false
    else some false
  else bif (p0_2 == (0 : Int)) then
    bif (p0_4 == (-1 : Int)) then
      some true
    else some false
  else some false
theorem tisPos_eq (F : FnT) (p0_0 : Bool) (p0_1 : Int) (p0_2 : Int) (p0_3 : Int) (p0_4 : Int) : semF (callP F EisPos 20) s99 (loopT []) 400 a99 [PV.agg [PV.bool p0_0, PV.int .i64 p0_1, PV.int .i64 p0_2, PV.int .i64 p0_3, PV.int .i64 p0_4]] (fun rv => decR (RSh.one CK.bool) rv.pv) = tisPos F p0_0 p0_1 p0_2 p0_3 p0_4 := by kernel_rfl
noncomputable abbrev FisPos (args : List PV) := Fn env 99 (RSh.one CK.bool) args
theorem FisPos_of  (p0_0 : Bool) (p0_1 : Int) (p0_2 : Int) (p0_3 : Int) (p0_4 : Int) {res : (Bool)} (h : tisPos (Fn env) p0_0 p0_1 p0_2 p0_3 p0_4 = some res) : FisPos [PV.agg [PV.bool p0_0, PV.int .i64 p0_1, PV.int .i64 p0_2, PV.int .i64 p0_3, PV.int .i64 p0_4]] = some res :=
  fn_of EisPos_ok rfl rfl lo_nil ((tisPos_eq _ _ _ _ _ _).trans h)
def EcState : List Entry := [.out 78 (RSh.one (CK.int .i64)), .out 99 (RSh.one CK.bool), .out 79 (RSh.one (CK.int .i64)), .out 73 (RSh.one (CK.int .i64))]
theorem EcState_ok : ∀ e ∈ EcState, EntOK env e := (ent_out (ent_out (ent_out (ent_out ent_nil))))
def tcState (F : FnT) (p0_0 : Bool) (p0_1 : Int) (p0_2 : Int) (p0_3 : Int) (p0_4 : Int) : Option (Int) :=
  bindO (F 78 (RSh.one (CK.int .i64)) [(PV.int .i64 p0_1), (PV.int .i64 (0 : Int)), (PV.int .i64 (62500 : Int))]) fun (y0 : (Int)) =>
  bindO (F 78 (RSh.one (CK.int .i64)) [(PV.int .i64 p0_2), (PV.int .i64 (0 : Int)), (PV.int .i64 (1000000000000 : Int))]) fun (y1 : (Int)) =>
  bindO (F 78 (RSh.one (CK.int .i64)) [(PV.int .i64 p0_3), (PV.int .i64 (-1 : Int)), (PV.int .i64 (1000000000000 : Int))]) fun (y2 : (Int)) =>
  bindO (F 78 (RSh.one (CK.int .i64)) [(PV.int .i64 p0_4), (PV.int .i64 (-1 : Int)), (PV.int .i64 (1000000000000 : Int))]) fun (y3 : (Int)) =>
  bif p0_0 then
    bindO (F 99 (RSh.one CK.bool) [(PV.agg [(PV.bool true), (PV.int .i64 p0_1), (PV.int .i64 p0_2), (PV.int .i64 p0_3), (PV.int .i64 p0_4)])]) fun (y4 : (Bool)) =>
    bif y4 then
      bindO (F 79 (RSh.one (CK.int .i64)) [(PV.bool false), (PV.int .i64 (3 : Int))]) fun (y5 : (Int)) =>
      bindO (F 73 (RSh.one (CK.int .i64)) [(PV.list 5 [(PV.int .i64 y0), (PV.int .i64 y1), (PV.int .i64 y2), (PV.int .i64 y3), (PV.int .i64 y5)])]) fun (y6 : (Int)) =>
      some y6
    else bindO (F 79 (RSh.one (CK.int .i64)) [(PV.bool true), (PV.int .i64 (3 : Int))]) fun (y7 : (Int)) =>
    bindO (F 73 (RSh.one (CK.int .i64)) [(PV.list 5 [(PV.int .i64 y0), (PV.int .i64 y1), (PV.int .i64 y2), (PV.int .i64 y3), (PV.int .i64 y7)])]) fun (y8 : (Int)) =>
    some y8
  else bindO (F 99 (RSh.one CK.bool) [(PV.agg [(PV.bool false), (PV.int .i64 p0_1), (PV.int .i64 p0_2), (PV.int .i64 p0_3), (PV.int .i64 p0_4)])]) fun (y9 : (Bool)) =>
  bif y9 then
    bindO (F 79 (RSh.one (CK.int .i64)) [(PV.bool false), (PV.int .i64 (3 : Int))]) fun (y10 : (Int)) =>
    bindO (F 73 (RSh.one (CK.int .i64)) [(PV.list 5 [(PV.int .i64 y0), (PV.int .i64 y1), (PV.int .i64 y2), (PV.int .i64 y3), (PV.int .i64 y10)])]) fun (y11 : (Int)) =>
    some y11
  else bindO (F 79 (RSh.one (CK.int .i64)) [(PV.bool true), (PV.int .i64 (3 : Int))]) fun (y12 : (Int)) =>
  bindO (F 73 (RSh.one (CK.int .i64)) [(PV.list 5 [(PV.int .i64 y0), (PV.int .i64 y1), (PV.int .i64 y2), (PV.int .i64 y3), (PV.int .i64 y12)])]) fun (y13 : (Int)) =>
  some y13
theorem tcState_eq (F : FnT) (p0_0 : Bool) (p0_1 : Int) (p0_2 : Int) (p0_3 : Int) (p0_4 : Int) : semF (callP F EcState 20) s49 (loopT []) 400 a49 [PV.agg [PV.bool p0_0, PV.int .i64 p0_1, PV.int .i64 p0_2, PV.int .i64 p0_3, PV.int .i64 p0_4]] (fun rv => decR (RSh.one (CK.int .i64)) rv.pv) = tcState F p0_0 p0_1 p0_2 p0_3 p0_4 := by kernel_rfl
noncomputable abbrev FcState (args : List PV) := Fn env 49 (RSh.one (CK.int .i64)) args
theorem FcState_of  (p0_0 : Bool) (p0_1 : Int) (p0_2 : Int) (p0_3 : Int) (p0_4 : Int) {res : (Int)} (h : tcState (Fn env) p0_0 p0_1 p0_2 p0_3 p0_4 = some res) : FcState [PV.agg [PV.bool p0_0, PV.int .i64 p0_1, PV.int .i64 p0_2, PV.int .i64 p0_3, PV.int .i64 p0_4]] = some res :=
  fn_of EcState_ok rfl rfl lo_nil ((tcState_eq _ _ _ _ _ _).trans h)
def Enext : List Entry := [.inl 98 a98 s98, .inl 107 a107 s107, .inl 120 a120 s120, .inl 122 a122 s122, .out 47 (RSh.one (CK.int .i64)), .out 49 (RSh.one (CK.int .i64)), .out 97 (RSh.one (CK.int .i64)), .out 79 (RSh.one (CK.int .i64)), .out 73 (RSh.one (CK.int .i64))]
theorem Enext_ok : ∀ e ∈ Enext, EntOK env e := (ent_inl rfl (ent_inl rfl (ent_inl rfl (ent_inl rfl (ent_out (ent_out (ent_out (ent_out (ent_out ent_nil)))))))))
def tnext (F : FnT) (p0_0 : Int) (p0_1 : Int) (p0_2 : Int) (p0_3 : Int) (p1_0 : Bool) (p1_1 : Int) (p1_2 : Int) (p1_3 : Int) (p1_4 : Int) (p2_0 : Int) (p2_1 : Int) (p2_2 : Int) : Option ((Bool) × ((Int) × ((Int) × ((Int) × ((Int) × (Int)))))) :=
  bindO (F 47 (RSh.one (CK.int .i64)) [(PV.agg [(PV.int .i64 p0_0), (PV.int .i64 p0_1), (PV.int .i64 p0_2), (PV.int .i64 p0_3)])]) fun (y0 : (Int)) =>
  bif p1_0 then
    bindO (F 49 (RSh.one (CK.int .i64)) [(PV.agg [(PV.bool true), (PV.int .i64 p1_1), (PV.int .i64 p1_2), (PV.int .i64 p1_3), (PV.int .i64 p1_4)])]) fun (y1 : (Int)) =>
    bindO (F 97 (RSh.one (CK.int .i64)) [(PV.agg [(PV.int .i64 p2_0), (PV.int .i64 p2_1), (PV.int .i64 p2_2)])]) fun (y2 : (Int)) =>
    bif (decide (p2_0 ≤ p1_3)) then
      bindO (F 79 (RSh.one (CK.int .i64)) [(PV.bool true), (PV.int .i64 (9 : Int))]) fun (y3 : (Int)) =>
      bindO (F 73 (RSh.one (CK.int .i64)) [(PV.list 4 [(PV.int .i64 y0), (PV.int .i64 y1), (PV.int .i64 y2), (PV.int .i64 y3)])]) fun (y4 : (Int)) =>
      bif (y4 != (0 : Int)) then
        some (false, ((0 : Int), ((0 : Int), ((0 : Int), ((0 : Int), y4)))))
      else bif p1_0 then
        bif (decide ((w64 (p2_0 - p1_3)) > p0_3)) then
          bif (decide (p2_1 ≥ p0_0)) then
            bif (decide ((w64 (p1_1 + (1 : Int))) > (62500 : Int))) then
              some (false, ((0 : Int), ((0 : Int), ((0 : Int), ((0 : Int), (15 : Int))))))
            else some (true, ((w64 (p1_1 + (1 : Int))), (p2_0, (p2_0, ((-1 : Int), (0 : Int))))))
          else bif (decide (p1_1 > (62500 : Int))) then
            some (false, ((0 : Int), ((0 : Int), ((0 : Int), ((0 : Int), (15 : Int))))))
          else some (false, (p1_1, ((0 : Int), (p2_0, ((-1 : Int), (0 : Int))))))
        else bif (decide (p2_2 ≥ p0_1)) then
          bif (decide (p1_1 > (62500 : Int))) then
            some (false, ((0 : Int), ((0 : Int), ((0 : Int), ((0 : Int), (15 : Int))))))
          else some (true, (p1_1, (p1_2, (p2_0, ((-1 : Int), (0 : Int))))))
        else bif (p1_4 == (-1 : Int)) then
          bif (decide ((w64 (p2_0 - p2_0)) ≥ p0_2)) then
            bif (decide (p2_1 ≥ p0_0)) then
              bif (decide ((w64 (p1_1 + (1 : Int))) > (62500 : Int))) then
                some (false, ((0 : Int), ((0 : Int), ((0 : Int), ((0 : Int), (15 : Int))))))
              else some (true, ((w64 (p1_1 + (1 : Int))), (p2_0, (p2_0, ((-1 : Int), (0 : Int))))))
            else bif (decide (p1_1 > (62500 : Int))) then
              some (false, ((0 : Int), ((0 : Int), ((0 : Int), ((0 : Int), (15 : Int))))))
            else some (false, (p1_1, ((0 : Int), (p2_0, ((-1 : Int), (0 : Int))))))
          else bif (decide (p1_1 > (62500 : Int))) then
            some (false, ((0 : Int), ((0 : Int), ((0 : Int), ((0 : Int), (15 : Int))))))
          else some (true, (p1_1, (p1_2, (p2_0, (p2_0, (0 : Int))))))
        else bif (decide ((w64 (p2_0 - p1_4)) ≥ p0_2)) then
          bif (decide (p2_1 ≥ p0_0)) then
            bif (decide ((w64 (p1_1 + (1 : Int))) > (62500 : Int))) then
              some (false, ((0 : Int), ((0 : Int), ((0 : Int), ((0 : Int), (15 : Int))))))
            else some (true, ((w64 (p1_1 + (1 : Int))), (p2_0, (p2_0, ((-1 : Int), (0 : Int))))))
          else bif (decide (p1_1 > (62500 : Int))) then
            some (false, ((0 : Int), ((0 : Int), ((0 : Int), ((0 : Int), (15 : Int))))))
          else some (false, (p1_1, ((0 : Int), (p2_0, ((-1 : Int), (0 : Int))))))
        else bif (decide (p1_1 > (62500 : Int))) then
          some (false, ((0 : Int), ((0 : Int), ((0 : Int), ((0 : Int), (15 : Int))))))
        else some (true, (p1_1, (p1_2, (p2_0, (p1_4, (0 : Int))))))
      else bif (decide (p2_1 ≥ p0_0)) then
        bif (decide ((w64 (p1_1 + (1 : Int))) > (62500 : Int))) then
          some (false, ((0 : Int), ((0 : Int), ((0 : Int), ((0 : Int), (15 : Int))))))
        else some (true, ((w64 (p1_1 + (1 : Int))), (p2_0, (p2_0, (p1_4, (0 : Int))))))
      else bif (decide (p1_1 > (62500 : Int))) then
        some (false, ((0 : Int), ((0 : Int), ((0 : Int), ((0 : Int), (15 : Int))))))
      else some (false, (p1_1, (p1_2, (p2_0, (p1_4, (0 : Int))))))
    else bindO (F 79 (RSh.one (CK.int .i64)) [(PV.bool false), (PV.int .i64 (9 : Int))]) fun (y5 : (Int)) =>
    bindO (F 73 (RSh.one (CK.int .i64)) [(PV.list 4 [(PV.int .i64 y0), (PV.int .i64 y1), (PV.int .i64 y2), (PV.int .i64 y5)])]) fun (y6 : (Int)) =>
    bif (y6 != (0 : Int)) then
      some (false, ((0 : Int), ((0 : Int), ((0 : Int), ((0 : Int), y6)))))
    else bif p1_0 then
      bif (decide ((w64 (p2_0 - p1_3)) > p0_3)) then
        bif (decide (p2_1 ≥ p0_0)) then
          bif (decide ((w64 (p1_1 + (1 : Int))) > (62500 : Int))) then
            some (false, ((0 : Int), ((0 : Int), ((0 : Int), ((0 : Int), (15 : Int))))))
          else some (true, ((w64 (p1_1 + (1 : Int))), (p2_0, (p2_0, ((-1 : Int), (0 : Int))))))
        else bif (decide (p1_1 > (62500 : Int))) then
          some (false, ((0 : Int), ((0 : Int), ((0 : Int), ((0 : Int), (15 : Int))))))
        else some (false, (p1_1, ((0 : Int), (p2_0, ((-1 : Int), (0 : Int))))))
      else bif (decide (p2_2 ≥ p0_1)) then
        bif (decide (p1_1 > (62500 : Int))) then
          some (false, ((0 : Int), ((0 : Int), ((0 : Int), ((0 : Int), (15 : Int))))))
        else some (true, (p1_1, (p1_2, (p2_0, ((-1 : Int), (0 : Int))))))
      else bif (p1_4 == (-1 : Int)) then
        bif (decide ((w64 (p2_0 - p2_0)) ≥ p0_2)) then
          bif (decide (p2_1 ≥ p0_0)) then
            bif (decide ((w64 (p1_1 + (1 : Int))) > (62500 : Int))) then
              some (false, ((0 : Int), ((0 : Int), ((0 : Int), ((0 : Int), (15 : Int))))))
            else some (true, ((w64 (p1_1 + (1 : Int))), (p2_0, (p2_0, ((-1 : Int), (0 : Int))))))
          else bif (decide (p1_1 > (62500 : Int))) then
            some (false, ((0 : Int), ((0 : Int), ((0 : Int), ((0 : Int), (15 : Int))))))
          else some (false, (p1_1, ((0 : Int), (p2_0, ((-1 : Int), (0 : Int))))))
        else bif (decide (p1_1 > (62500 : Int))) then
          some (false, ((0 : Int), ((0 : Int), ((0 : Int), ((0 : Int), (15 : Int))))))
        else some (true, (p1_1, (p1_2, (p2_0, (p2_0, (0 : Int))))))
      else bif (decide ((w64 (p2_0 - p1_4)) ≥ p0_2)) then
        bif (decide (p2_1 ≥ p0_0)) then
          bif (decide ((w64 (p1_1 + (1 : Int))) > (62500 : Int))) then
            some (false, ((0 : Int), ((0 : Int), ((0 : Int), ((0 : Int), (15 : Int))))))
          else some (true, ((w64 (p1_1 + (1 : Int))), (p2_0, (p2_0, ((-1 : Int), (0 : Int))))))
        else bif (decide (p1_1 > (62500 : Int))) then
          some (false, ((0 : Int), ((0 : Int), ((0 : Int), ((0 : Int), (15 : Int))))))
        else some (false, (p1_1, ((0 : Int), (p2_0, ((-1 : Int), (0 : Int))))))
      else bif (decide (p1_1 > (62500 : Int))) then
        some (false, ((0 : Int), ((0 : Int), ((0 : Int), ((0 : Int), (15 : Int))))))
      else some (true, (p1_1, (p1_2, (p2_0, (p1_4, (0 : Int))))))
    else bif (decide (p2_1 ≥ p0_0)) then
      bif (decide ((w64 (p1_1 + (1 : Int))) > (62500 : Int))) then
        some (false, ((0 : Int), ((0 : Int), ((0 : Int), ((0 : Int), (15 : Int))))))
      else some (true, ((w64 (p1_1 + (1 : Int))), (p2_0, (p2_0, (p1_4, (0 : Int))))))
    else bif (decide (p1_1 > (62500 : Int))) then
      some (false, ((0 : Int), ((0 : Int), ((0 : Int), ((0 : Int), (15 : Int))))))
    else some (false, (p1_1, (p1_2, (p2_0, (p1_4, (0 : Int))))))
  else bindO (F 49 (RSh.one (CK.int .i64)) [(PV.agg [(PV.bool false), (PV.int .i64 p1_1), (PV.int .i64 p1_2), (PV.int .i64 p1_3), (PV.int .i64 p1_4)])]) fun (y7 : (Int)) =>
  bindO (F 97 (RSh.one (CK.int .i64)) [(PV.agg [(PV.int .i64 p2_0), (PV.int .i64 p2_1), (PV.int .i64 p2_2)])]) fun (y8 : (Int)) =>
  bif (decide (p2_0 ≤ p1_3)) then
    bindO (F 79 (RSh.one (CK.int .i64)) [(PV.bool true), (PV.int .i64 (9 : Int))]) fun (y9 : (Int)) =>
    bindO (F 73 (RSh.one (CK.int .i64)) [(PV.list 4 [(PV.int .i64 y0), (PV.int .i64 y7), (PV.int .i64 y8), (PV.int .i64 y9)])]) fun (y10 : (Int)) =>
    bif (y10 != (0 : Int)) then
      some (false, ((0 : Int), ((0 : Int), ((0 : Int), ((0 : Int), y10)))))
    else bif p1_0 then
      bif (decide ((w64 (p2_0 - p1_3)) > p0_3)) then
        bif (decide (p2_1 ≥ p0_0)) then
          bif (decide ((w64 (p1_1 + (1 : Int))) > (62500 : Int))) then
            some (false, ((0 : Int), ((0 : Int), ((0 : Int), ((0 : Int), (15 : Int))))))
          else some (true, ((w64 (p1_1 + (1 : Int))), (p2_0, (p2_0, ((-1 : Int), (0 : Int))))))
        else bif (decide (p1_1 > (62500 : Int))) then
          some (false, ((0 : Int), ((0 : Int), ((0 : Int), ((0 : Int), (15 : Int))))))
        else some (false, (p1_1, ((0 : Int), (p2_0, ((-1 : Int), (0 : Int))))))
      else bif (decide (p2_2 ≥ p0_1)) then
        bif (decide (p1_1 > (62500 : Int))) then
          some (false, ((0 : Int), ((0 : Int), ((0 : Int), ((0 : Int), (15 : Int))))))
        else some (true, (p1_1, (p1_2, (p2_0, ((-1 : Int), (0 : Int))))))
      else bif (p1_4 == (-1 : Int)) then
        bif (decide ((w64 (p2_0 - p2_0)) ≥ p0_2)) then
          bif (decide (p2_1 ≥ p0_0)) then
            bif (decide ((w64 (p1_1 + (1 : Int))) > (62500 : Int))) then
              some (false, ((0 : Int), ((0 : Int), ((0 : Int), ((0 : Int), (15 : Int))))))
            else some (true, ((w64 (p1_1 + (1 : Int))), (p2_0, (p2_0, ((-1 : Int), (0 : Int))))))
          else bif (decide (p1_1 > (62500 : Int))) then
            some (false, ((0 : Int), ((0 : Int), ((0 : Int), ((0 : Int), (15 : Int))))))
          else some (false, (p1_1, ((0 : Int), (p2_0, ((-1 : Int), (0 : Int))))))
        else bif (decide (p1_1 > (62500 : Int))) then
          some (false, ((0 : Int), ((0 : Int), ((0 : Int), ((0 : Int), (15 : Int))))))
        else some (true, (p1_1, (p1_2, (p2_0, (p2_0, (0 : Int))))))
      else bif (decide ((w64 (p2_0 - p1_4)) ≥ p0_2)) then
        bif (decide (p2_1 ≥ p0_0)) then
          bif (decide ((w64 (p1_1 + (1 : Int))) > (62500 : Int))) then
            some (false, ((0 : Int), ((0 : Int), ((0 : Int), ((0 : Int), (15 : Int))))))
          else some (true, ((w64 (p1_1 + (1 : Int))), (p2_0, (p2_0, ((-1 : Int), (0 : Int))))))
        else bif (decide (p1_1 > (62500 : Int))) then
          some (false, ((0 : Int), ((0 : Int), ((0 : Int), ((0 : Int), (15 : Int))))))
        else some (false, (p1_1, ((0 : Int), (p2_0, ((-1 : Int), (0 : Int))))))
      else bif (decide (p1_1 > (62500 : Int))) then
        some (false, ((0 : Int), ((0 : Int), ((0 : Int), ((0 : Int), (15 : Int))))))
      else some (true, (p1_1, (p1_2, (p2_0, (p1_4, (0 : Int))))))
    else bif (decide (p2_1 ≥ p0_0)) then
      bif (decide ((w64 (p1_1 + (1 : Int))) > (62500 : Int))) then
        some (false, ((0 : Int), ((0 : Int), ((0 : Int), ((0 : Int), (15 : Int))))))
      else some (true, ((w64 (p1_1 + (1 : Int))), (p2_0, (p2_0, (p1_4, (0 : Int))))))
    else bif (decide (p1_1 > (62500 : Int))) then
      some (false, ((0 : Int), ((0 : Int), ((0 : Int), ((0 : Int), (15 : Int))))))
    else some (false, (p1_1, (p1_2, (p2_0, (p1_4, (0 : Int))))))
  else bindO (F 79 (RSh.one (CK.int .i64)) [(PV.bool false), (PV.int .i64 (9 : Int))]) fun (y11 : (Int)) =>
  bindO (F 73 (RSh.one (CK.int .i64)) [(PV.list 4 [(PV.int .i64 y0), (PV.int .i64 y7), (PV.int .i64 y8), (PV.int .i64 y11)])]) fun (y12 : (Int)) =>
  bif (y12 != (0 : Int)) then
    some (false, ((0 : Int), ((0 : Int), ((0 : Int), ((0 : Int), y12)))))
  else bif p1_0 then
    bif (decide ((w64 (p2_0 - p1_3)) > p0_3)) then
      bif (decide (p2_1 ≥ p0_0)) then
        bif (decide ((w64 (p1_1 + (1 : Int))) > (62500 : Int))) then
          some (false, ((0 : Int), ((0 : Int), ((0 : Int), ((0 : Int), (15 : Int))))))
        else some (true, ((w64 (p1_1 + (1 : Int))), (p2_0, (p2_0, ((-1 : Int), (0 : Int))))))
      else bif (decide (p1_1 > (62500 : Int))) then
        some (false, ((0 : Int), ((0 : Int), ((0 : Int), ((0 : Int), (15 : Int))))))
      else some (false, (p1_1, ((0 : Int), (p2_0, ((-1 : Int), (0 : Int))))))
    else bif (decide (p2_2 ≥ p0_1)) then
      bif (decide (p1_1 > (62500 : Int))) then
        some (false, ((0 : Int), ((0 : Int), ((0 : Int), ((0 : Int), (15 : Int))))))
      else some (true, (p1_1, (p1_2, (p2_0, ((-1 : Int), (0 : Int))))))
    else bif (p1_4 == (-1 : Int)) then
      bif (decide ((w64 (p2_0 - p2_0)) ≥ p0_2)) then
        bif (decide (p2_1 ≥ p0_0)) then
          bif (decide ((w64 (p1_1 + (1 : Int))) > (62500 : Int))) then
            some (false, ((0 : Int), ((0 : Int), ((0 : Int), ((0 : Int), (15 : Int))))))
          else some (true, ((w64 (p1_1 + (1 : Int))), (p2_0, (p2_0, ((-1 : Int), (0 : Int))))))
        else bif (decide (p1_1 > (62500 : Int))) then
          some (false, ((0 : Int), ((0 : Int), ((0 : Int), ((0 : Int), (15 : Int))))))
        else some (false, (p1_1, ((0 : Int), (p2_0, ((-1 : Int), (0 : Int))))))
      else bif (decide (p1_1 > (62500 : Int))) then
        some (false, ((0 : Int), ((0 : Int), ((0 : Int), ((0 : Int), (15 : Int))))))
      else some (true, (p1_1, (p1_2, (p2_0, (p2_0, (0 : Int))))))
    else bif (decide ((w64 (p2_0 - p1_4)) ≥ p0_2)) then
      bif (decide (p2_1 ≥ p0_0)) then
        bif (decide ((w64 (p1_1 + (1 : Int))) > (62500 : Int))) then
          some (false, ((0 : Int), ((0 : Int), ((0 : Int), ((0 : Int), (15 : Int))))))
        else some (true, ((w64 (p1_1 + (1 : Int))), (p2_0, (p2_0, ((-1 : Int), (0 : Int))))))
      else bif (decide (p1_1 > (62500 : Int))) then
        some (false, ((0 : Int), ((0 : Int), ((0 : Int), ((0 : Int), (15 : Int))))))
      else some (false, (p1_1, ((0 : Int), (p2_0, ((-1 : Int), (0 : Int))))))
    else bif (decide (p1_1 > (62500 : Int))) then
      some (false, ((0 : Int), ((0 : Int), ((0 : Int), ((0 : Int), (15 : Int))))))
    else some (true, (p1_1, (p1_2, (p2_0, (p1_4, (0 : Int))))))
  else bif (decide (p2_1 ≥ p0_0)) then
    bif (decide ((w64 (p1_1 + (1 : Int))) > (62500 : Int))) then
      some (false, ((0 : Int), ((0 : Int), ((0 : Int), ((0 : Int), (15 : Int))))))
    else some (true, ((w64 (p1_1 + (1 : Int))), (p2_0, (p2_0, (p1_4, (0 : Int))))))
  else bif (decide (p1_1 > (62500 : Int))) then
    some (false, ((0 : Int), ((0 : Int), ((0 : Int), ((0 : Int), (15 : Int))))))
  else some (false, (p1_1, (p1_2, (p2_0, (p1_4, (0 : Int))))))
theorem tnext_eq (F : FnT) (p0_0 : Int) (p0_1 : Int) (p0_2 : Int) (p0_3 : Int) (p1_0 : Bool) (p1_1 : Int) (p1_2 : Int) (p1_3 : Int) (p1_4 : Int) (p2_0 : Int) (p2_1 : Int) (p2_2 : Int) : semF (callP F Enext 20) s46 (loopT []) 400 a46 [PV.agg [PV.int .i64 p0_0, PV.int .i64 p0_1, PV.int .i64 p0_2, PV.int .i64 p0_3], PV.agg [PV.bool p1_0, PV.int .i64 p1_1, PV.int .i64 p1_2, PV.int .i64 p1_3, PV.int .i64 p1_4], PV.agg [PV.int .i64 p2_0, PV.int .i64 p2_1, PV.int .i64 p2_2]] (fun rv => decR (RSh.tup [(Prod.mk true [CK.bool, (CK.int .i64), (CK.int .i64), (CK.int .i64), (CK.int .i64)]), (Prod.mk false [(CK.int .i64)])]) rv.pv) = tnext F p0_0 p0_1 p0_2 p0_3 p1_0 p1_1 p1_2 p1_3 p1_4 p2_0 p2_1 p2_2 := by kernel_rfl
noncomputable abbrev Fnext (args : List PV) := Fn env 46 (RSh.tup [(Prod.mk true [CK.bool, (CK.int .i64), (CK.int .i64), (CK.int .i64), (CK.int .i64)]), (Prod.mk false [(CK.int .i64)])]) args
theorem Fnext_of  (p0_0 : Int) (p0_1 : Int) (p0_2 : Int) (p0_3 : Int) (p1_0 : Bool) (p1_1 : Int) (p1_2 : Int) (p1_3 : Int) (p1_4 : Int) (p2_0 : Int) (p2_1 : Int) (p2_2 : Int) {res : ((Bool) × ((Int) × ((Int) × ((Int) × ((Int) × (Int))))))} (h : tnext (Fn env) p0_0 p0_1 p0_2 p0_3 p1_0 p1_1 p1_2 p1_3 p1_4 p2_0 p2_1 p2_2 = some res) : Fnext [PV.agg [PV.int .i64 p0_0, PV.int .i64 p0_1, PV.int .i64 p0_2, PV.int .i64 p0_3], PV.agg [PV.bool p1_0, PV.int .i64 p1_1, PV.int .i64 p1_2, PV.int .i64 p1_3, PV.int .i64 p1_4], PV.agg [PV.int .i64 p2_0, PV.int .i64 p2_1, PV.int .i64 p2_2]] = some res :=
  fn_of Enext_ok rfl rfl lo_nil ((tnext_eq _ _ _ _ _ _ _ _ _ _ _ _ _).trans h)
end Gv
