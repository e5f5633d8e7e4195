/- What the functions do, round by round: P3. -/
import Derived.Test.YtggnifebabjoiaaGvEnv
namespace Gv
open Go
set_option maxRecDepth 100000
def EcRule : List Entry := [.out 78 (RSh.one (CK.int .i64)), .out 79 (RSh.one (CK.int .i64)), .out 73 (RSh.one (CK.int .i64))]
theorem EcRule_ok : ∀ e ∈ EcRule, EntOK env e := (ent_out (ent_out (ent_out ent_nil)))
def tcRule (F : FnT) (p0_0 p0_1 p0_2 p0_3 : Int) : Option (Int) :=
  bindO (F 78 (RSh.one (CK.int .i64)) [(PV.int .i64 p0_0), (PV.int .i64 (1 : Int)), (PV.int .i64 (20000 : Int))]) fun (y0 : (Int)) =>
  bindO (F 78 (RSh.one (CK.int .i64)) [(PV.int .i64 p0_1), (PV.int .i64 (0 : Int)), (PV.int .i64 (20000 : Int))]) fun (y1 : (Int)) =>
  bindO (F 78 (RSh.one (CK.int .i64)) [(PV.int .i64 p0_2), (PV.int .i64 (0 : Int)), (PV.int .i64 (100000 : Int))]) fun (y2 : (Int)) =>
  bindO (F 78 (RSh.one (CK.int .i64)) [(PV.int .i64 p0_3), (PV.int .i64 (1 : Int)), (PV.int .i64 (100000 : Int))]) fun (y3 : (Int)) =>
  bif (decide (p0_1 > p0_0)) then
    bindO (F 79 (RSh.one (CK.int .i64)) [(PV.bool true), (PV.int .i64 (9 : Int))]) fun (y4 : (Int)) =>
    bindO (F 73 (RSh.one (CK.int .i64)) [(PV.list 5 [(PV.int .i64 y0), (PV.int .i64 y1), (PV.int .i64 y2), (PV.int .i64 y3), (PV.int .i64 y4)])]) fun (y5 : (Int)) =>
    some y5
  else bindO (F 79 (RSh.one (CK.int .i64)) [(PV.bool false), (PV.int .i64 (9 : Int))]) fun (y6 : (Int)) =>
  bindO (F 73 (RSh.one (CK.int .i64)) [(PV.list 5 [(PV.int .i64 y0), (PV.int .i64 y1), (PV.int .i64 y2), (PV.int .i64 y3), (PV.int .i64 y6)])]) fun (y7 : (Int)) =>
  some y7
theorem tcRule_eq (F : FnT) (p0_0 p0_1 p0_2 p0_3 : Int) : semF (callP F EcRule 20) s47 (loopT []) 400 a47 [PV.agg [PV.int .i64 p0_0, PV.int .i64 p0_1, PV.int .i64 p0_2, PV.int .i64 p0_3]] (fun rv => decR (RSh.one (CK.int .i64)) rv.pv) = tcRule F p0_0 p0_1 p0_2 p0_3 := by kernel_rfl
noncomputable abbrev FcRule (args : List PV) := Fn env 47 (RSh.one (CK.int .i64)) args
theorem FcRule_of  (p0_0 p0_1 p0_2 p0_3 : Int) {res : (Int)} (h : tcRule (Fn env) p0_0 p0_1 p0_2 p0_3 = some res) : FcRule [PV.agg [PV.int .i64 p0_0, PV.int .i64 p0_1, PV.int .i64 p0_2, PV.int .i64 p0_3]] = some res :=
  fn_of EcRule_ok rfl rfl lo_nil ((tcRule_eq _ _ _ _ _).trans h)
def EisPos : List Entry := []
theorem EisPos_ok : ∀ e ∈ EisPos, EntOK env e := ent_nil
def tisPos (_F : FnT) (p0_0 : Bool) (p0_1 p0_2 p0_3 p0_4 : Int) : Option (Bool) :=
  bif p0_0 then
    bif (decide (p0_1 > (0 : Int))) then
      bif (decide (p0_2 ≤ p0_3)) then
        bif (decide (p0_4 ≤ p0_3)) then
          bif (p0_4 == (-1 : Int)) then
            some true
          else bif (decide (p0_4 ≥ p0_2)) then
            some true
          else some false
        else some false
      else some false
    else some false
  else bif (p0_2 == (0 : Int)) then
    bif (p0_4 == (-1 : Int)) then
      some true
    else some false
  else some false
theorem tisPos_eq (F : FnT) (p0_0 : Bool) (p0_1 p0_2 p0_3 p0_4 : Int) : semF (callP F EisPos 20) s99 (loopT []) 400 a99 [PV.agg [PV.bool p0_0, PV.int .i64 p0_1, PV.int .i64 p0_2, PV.int .i64 p0_3, PV.int .i64 p0_4]] (fun rv => decR (RSh.one CK.bool) rv.pv) = tisPos F p0_0 p0_1 p0_2 p0_3 p0_4 := by kernel_rfl
noncomputable abbrev FisPos (args : List PV) := Fn env 99 (RSh.one CK.bool) args
theorem FisPos_of  (p0_0 : Bool) (p0_1 p0_2 p0_3 p0_4 : Int) {res : (Bool)} (h : tisPos (Fn env) p0_0 p0_1 p0_2 p0_3 p0_4 = some res) : FisPos [PV.agg [PV.bool p0_0, PV.int .i64 p0_1, PV.int .i64 p0_2, PV.int .i64 p0_3, PV.int .i64 p0_4]] = some res :=
  fn_of EisPos_ok rfl rfl lo_nil ((tisPos_eq _ _ _ _ _ _).trans h)
def EcState : List Entry := [.out 78 (RSh.one (CK.int .i64)), .out 99 (RSh.one CK.bool), .out 79 (RSh.one (CK.int .i64)), .out 73 (RSh.one (CK.int .i64))]
theorem EcState_ok : ∀ e ∈ EcState, EntOK env e := (ent_out (ent_out (ent_out (ent_out ent_nil))))
def tcState (F : FnT) (p0_0 : Bool) (p0_1 p0_2 p0_3 p0_4 : Int) : Option (Int) :=
  bindO (F 78 (RSh.one (CK.int .i64)) [(PV.int .i64 p0_1), (PV.int .i64 (0 : Int)), (PV.int .i64 (62500 : Int))]) fun (y0 : (Int)) =>
  bindO (F 78 (RSh.one (CK.int .i64)) [(PV.int .i64 p0_2), (PV.int .i64 (0 : Int)), (PV.int .i64 (1000000000000 : Int))]) fun (y1 : (Int)) =>
  bindO (F 78 (RSh.one (CK.int .i64)) [(PV.int .i64 p0_3), (PV.int .i64 (-1 : Int)), (PV.int .i64 (1000000000000 : Int))]) fun (y2 : (Int)) =>
  bindO (F 78 (RSh.one (CK.int .i64)) [(PV.int .i64 p0_4), (PV.int .i64 (-1 : Int)), (PV.int .i64 (1000000000000 : Int))]) fun (y3 : (Int)) =>
  bif p0_0 then
    bindO (F 99 (RSh.one CK.bool) [(PV.agg [(PV.bool true), (PV.int .i64 p0_1), (PV.int .i64 p0_2), (PV.int .i64 p0_3), (PV.int .i64 p0_4)])]) fun (y4 : (Bool)) =>
    bif y4 then
      bindO (F 79 (RSh.one (CK.int .i64)) [(PV.bool false), (PV.int .i64 (3 : Int))]) fun (y5 : (Int)) =>
      bindO (F 73 (RSh.one (CK.int .i64)) [(PV.list 5 [(PV.int .i64 y0), (PV.int .i64 y1), (PV.int .i64 y2), (PV.int .i64 y3), (PV.int .i64 y5)])]) fun (y6 : (Int)) =>
      some y6
    else bindO (F 79 (RSh.one (CK.int .i64)) [(PV.bool true), (PV.int .i64 (3 : Int))]) fun (y7 : (Int)) =>
    bindO (F 73 (RSh.one (CK.int .i64)) [(PV.list 5 [(PV.int .i64 y0), (PV.int .i64 y1), (PV.int .i64 y2), (PV.int .i64 y3), (PV.int .i64 y7)])]) fun (y8 : (Int)) =>
    some y8
  else bindO (F 99 (RSh.one CK.bool) [(PV.agg [(PV.bool false), (PV.int .i64 p0_1), (PV.int .i64 p0_2), (PV.int .i64 p0_3), (PV.int .i64 p0_4)])]) fun (y9 : (Bool)) =>
  bif y9 then
    bindO (F 79 (RSh.one (CK.int .i64)) [(PV.bool false), (PV.int .i64 (3 : Int))]) fun (y10 : (Int)) =>
    bindO (F 73 (RSh.one (CK.int .i64)) [(PV.list 5 [(PV.int .i64 y0), (PV.int .i64 y1), (PV.int .i64 y2), (PV.int .i64 y3), (PV.int .i64 y10)])]) fun (y11 : (Int)) =>
    some y11
  else bindO (F 79 (RSh.one (CK.int .i64)) [(PV.bool true), (PV.int .i64 (3 : Int))]) fun (y12 : (Int)) =>
  bindO (F 73 (RSh.one (CK.int .i64)) [(PV.list 5 [(PV.int .i64 y0), (PV.int .i64 y1), (PV.int .i64 y2), (PV.int .i64 y3), (PV.int .i64 y12)])]) fun (y13 : (Int)) =>
  some y13
theorem tcState_eq (F : FnT) (p0_0 : Bool) (p0_1 p0_2 p0_3 p0_4 : Int) : semF (callP F EcState 20) s49 (loopT []) 400 a49 [PV.agg [PV.bool p0_0, PV.int .i64 p0_1, PV.int .i64 p0_2, PV.int .i64 p0_3, PV.int .i64 p0_4]] (fun rv => decR (RSh.one (CK.int .i64)) rv.pv) = tcState F p0_0 p0_1 p0_2 p0_3 p0_4 := by kernel_rfl
noncomputable abbrev FcState (args : List PV) := Fn env 49 (RSh.one (CK.int .i64)) args
theorem FcState_of  (p0_0 : Bool) (p0_1 p0_2 p0_3 p0_4 : Int) {res : (Int)} (h : tcState (Fn env) p0_0 p0_1 p0_2 p0_3 p0_4 = some res) : FcState [PV.agg [PV.bool p0_0, PV.int .i64 p0_1, PV.int .i64 p0_2, PV.int .i64 p0_3, PV.int .i64 p0_4]] = some res :=
  fn_of EcState_ok rfl rfl lo_nil ((tcState_eq _ _ _ _ _ _).trans h)
def Enext : List Entry := [.inl 98 a98 s98, .inl 107 a107 s107, .inl 120 a120 s120, .inl 122 a122 s122, .out 47 (RSh.one (CK.int .i64)), .out 49 (RSh.one (CK.int .i64)), .out 97 (RSh.one (CK.int .i64)), .out 79 (RSh.one (CK.int .i64)), .out 73 (RSh.one (CK.int .i64))]
theorem Enext_ok : ∀ e ∈ Enext, EntOK env e := (ent_inl rfl (ent_inl rfl (ent_inl rfl (ent_inl rfl (ent_out (ent_out (ent_out (ent_out (ent_out ent_nil)))))))))
def tnext (F : FnT) (p0_0 p0_1 p0_2 p0_3 : Int) (p1_0 : Bool) (p1_1 p1_2 p1_3 p1_4 p2_0 p2_1 p2_2 : Int) : Option ((Bool) × ((Int) × ((Int) × ((Int) × ((Int) × (Int)))))) :=
  bindO (F 47 (RSh.one (CK.int .i64)) [(PV.agg [(PV.int .i64 p0_0), (PV.int .i64 p0_1), (PV.int .i64 p0_2), (PV.int .i64 p0_3)])]) fun (y0 : (Int)) =>
  bif p1_0 then
    bindO (F 49 (RSh.one (CK.int .i64)) [(PV.agg [(PV.bool true), (PV.int .i64 p1_1), (PV.int .i64 p1_2), (PV.int .i64 p1_3), (PV.int .i64 p1_4)])]) fun (y1 : (Int)) =>
    bindO (F 97 (RSh.one (CK.int .i64)) [(PV.agg [(PV.int .i64 p2_0), (PV.int .i64 p2_1), (PV.int .i64 p2_2)])]) fun (y2 : (Int)) =>
    bif (decide (p2_0 ≤ p1_3)) then
      bindO (F 79 (RSh.one (CK.int .i64)) [(PV.bool true), (PV.int .i64 (9 : Int))]) fun (y3 : (Int)) =>
      bindO (F 73 (RSh.one (CK.int .i64)) [(PV.list 4 [(PV.int .i64 y0), (PV.int .i64 y1), (PV.int .i64 y2), (PV.int .i64 y3)])]) fun (y4 : (Int)) =>
      bif (y4 != (0 : Int)) then
        some (false, ((0 : Int), ((0 : Int), ((0 : Int), ((0 : Int), y4)))))
      else bif p1_0 then
        bif (decide ((w64 (p2_0 - p1_3)) > p0_3)) then
          bif (decide (p2_1 ≥ p0_0)) then
            bif (decide ((w64 (p1_1 + (1 : Int))) > (62500 : Int))) then
              some (false, ((0 : Int), ((0 : Int), ((0 : Int), ((0 : Int), (15 : Int))))))
            else some (true, ((w64 (p1_1 + (1 : Int))), (p2_0, (p2_0, ((-1 : Int), (0 : Int))))))
          else bif (decide (p1_1 > (62500 : Int))) then
            some (false, ((0 : Int), ((0 : Int), ((0 : Int), ((0 : Int), (15 : Int))))))
          else some (false, (p1_1, ((0 : Int), (p2_0, ((-1 : Int), (0 : Int))))))
        else bif (decide (p2_2 ≥ p0_1)) then
          bif (decide (p1_1 > (62500 : Int))) then
            some (false, ((0 : Int), ((0 : Int), ((0 : Int), ((0 : Int), (15 : Int))))))
          else some (true, (p1_1, (p1_2, (p2_0, ((-1 : Int), (0 : Int))))))
        else bif (p1_4 == (-1 : Int)) then
          bif (decide ((w64 (p2_0 - p2_0)) ≥ p0_2)) then
            bif (decide (p2_1 ≥ p0_0)) then
              bif (decide ((w64 (p1_1 + (1 : Int))) > (62500 : Int))) then
                some (false, ((0 : Int), ((0 : Int), ((0 : Int), ((0 : Int), (15 : Int))))))
              else some (true, ((w64 (p1_1 + (1 : Int))), (p2_0, (p2_0, ((-1 : Int), (0 : Int))))))
            else bif (decide (p1_1 > (62500 : Int))) then
              some (false, ((0 : Int), ((0 : Int), ((0 : Int), ((0 : Int), (15 : Int))))))
            else some (false, (p1_1, ((0 : Int), (p2_0, ((-1 : Int), (0 : Int))))))
          else bif (decide (p1_1 > (62500 : Int))) then
            some (false, ((0 : Int), ((0 : Int), ((0 : Int), ((0 : Int), (15 : Int))))))
          else some (true, (p1_1, (p1_2, (p2_0, (p2_0, (0 : Int))))))
        else bif (decide ((w64 (p2_0 - p1_4)) ≥ p0_2)) then
          bif (decide (p2_1 ≥ p0_0)) then
            bif (decide ((w64 (p1_1 + (1 : Int))) > (62500 : Int))) then
              some (false, ((0 : Int), ((0 : Int), ((0 : Int), ((0 : Int), (15 : Int))))))
            else some (true, ((w64 (p1_1 + (1 : Int))), (p2_0, (p2_0, ((-1 : Int), (0 : Int))))))
          else bif (decide (p1_1 > (62500 : Int))) then
            some (false, ((0 : Int), ((0 : Int), ((0 : Int), ((0 : Int), (15 : Int))))))
          else some (false, (p1_1, ((0 : Int), (p2_0, ((-1 : Int), (0 : Int))))))
        else bif (decide (p1_1 > (62500 : Int))) then
          some (false, ((0 : Int), ((0 : Int), ((0 : Int), ((0 : Int), (15 : Int))))))
        else some (true, (p1_1, (p1_2, (p2_0, (p1_4, (0 : Int))))))
      else bif (decide (p2_1 ≥ p0_0)) then
        bif (decide ((w64 (p1_1 + (1 : Int))) > (62500 : Int))) then
          some (false, ((0 : Int), ((0 : Int), ((0 : Int), ((0 : Int), (15 : Int))))))
        else some (true, ((w64 (p1_1 + (1 : Int))), (p2_0, (p2_0, (p1_4, (0 : Int))))))
      else bif (decide (p1_1 > (62500 : Int))) then
        some (false, ((0 : Int), ((0 : Int), ((0 : Int), ((0 : Int), (15 : Int))))))
      else some (false, (p1_1, (p1_2, (p2_0, (p1_4, (0 : Int))))))
    else bindO (F 79 (RSh.one (CK.int .i64)) [(PV.bool false), (PV.int .i64 (9 : Int))]) fun (y5 : (Int)) =>
    bindO (F 73 (RSh.one (CK.int .i64)) [(PV.list 4 [(PV.int .i64 y0), (PV.int .i64 y1), (PV.int .i64 y2), (PV.int .i64 y5)])]) fun (y6 : (Int)) =>
    bif (y6 != (0 : Int)) then
      some (false, ((0 : Int), ((0 : Int), ((0 : Int), ((0 : Int), y6)))))
    else bif p1_0 then
      bif (decide ((w64 (p2_0 - p1_3)) > p0_3)) then
        bif (decide (p2_1 ≥ p0_0)) then
          bif (decide ((w64 (p1_1 + (1 : Int))) > (62500 : Int))) then
            some (false, ((0 : Int), ((0 : Int), ((0 : Int), ((0 : Int), (15 : Int))))))
          else some (true, ((w64 (p1_1 + (1 : Int))), (p2_0, (p2_0, ((-1 : Int), (0 : Int))))))
        else bif (decide (p1_1 > (62500 : Int))) then
          some (false, ((0 : Int), ((0 : Int), ((0 : Int), ((0 : Int), (15 : Int))))))
        else some (false, (p1_1, ((0 : Int), (p2_0, ((-1 : Int), (0 : Int))))))
      else bif (decide (p2_2 ≥ p0_1)) then
        bif (decide (p1_1 > (62500 : Int))) then
          some (false, ((0 : Int), ((0 : Int), ((0 : Int), ((0 : Int), (15 : Int))))))
        else some (true, (p1_1, (p1_2, (p2_0, ((-1 : Int), (0 : Int))))))
      else bif (p1_4 == (-1 : Int)) then
        bif (decide ((w64 (p2_0 - p2_0)) ≥ p0_2)) then
          bif (decide (p2_1 ≥ p0_0)) then
            bif (decide ((w64 (p1_1 + (1 : Int))) > (62500 : Int))) then
              some (false, ((0 : Int), ((0 : Int), ((0 : Int), ((0 : Int), (15 : Int))))))
            else some (true, ((w64 (p1_1 + (1 : Int))), (p2_0, (p2_0, ((-1 : Int), (0 : Int))))))
          else bif (decide (p1_1 > (62500 : Int))) then
            some (false, ((0 : Int), ((0 : Int), ((0 : Int), ((0 : Int), (15 : Int))))))
          else some (false, (p1_1, ((0 : Int), (p2_0, ((-1 : Int), (0 : Int))))))
        else bif (decide (p1_1 > (62500 : Int))) then
          some (false, ((0 : Int), ((0 : Int), ((0 : Int), ((0 : Int), (15 : Int))))))
        else some (true, (p1_1, (p1_2, (p2_0, (p2_0, (0 : Int))))))
      else bif (decide ((w64 (p2_0 - p1_4)) ≥ p0_2)) then
        bif (decide (p2_1 ≥ p0_0)) then
          bif (decide ((w64 (p1_1 + (1 : Int))) > (62500 : Int))) then
            some (false, ((0 : Int), ((0 : Int), ((0 : Int), ((0 : Int), (15 : Int))))))
          else some (true, ((w64 (p1_1 + (1 : Int))), (p2_0, (p2_0, ((-1 : Int), (0 : Int))))))
        else bif (decide (p1_1 > (62500 : Int))) then
          some (false, ((0 : Int), ((0 : Int), ((0 : Int), ((0 : Int), (15 : Int))))))
        else some (false, (p1_1, ((0 : Int), (p2_0, ((-1 : Int), (0 : Int))))))
      else bif (decide (p1_1 > (62500 : Int))) then
        some (false, ((0 : Int), ((0 : Int), ((0 : Int), ((0 : Int), (15 : Int))))))
      else some (true, (p1_1, (p1_2, (p2_0, (p1_4, (0 : Int))))))
    else bif (decide (p2_1 ≥ p0_0)) then
      bif (decide ((w64 (p1_1 + (1 : Int))) > (62500 : Int))) then
        some (false, ((0 : Int), ((0 : Int), ((0 : Int), ((0 : Int), (15 : Int))))))
      else some (true, ((w64 (p1_1 + (1 : Int))), (p2_0, (p2_0, (p1_4, (0 : Int))))))
    else bif (decide (p1_1 > (62500 : Int))) then
      some (false, ((0 : Int), ((0 : Int), ((0 : Int), ((0 : Int), (15 : Int))))))
    else some (false, (p1_1, (p1_2, (p2_0, (p1_4, (0 : Int))))))
  else bindO (F 49 (RSh.one (CK.int .i64)) [(PV.agg [(PV.bool false), (PV.int .i64 p1_1), (PV.int .i64 p1_2), (PV.int .i64 p1_3), (PV.int .i64 p1_4)])]) fun (y7 : (Int)) =>
  bindO (F 97 (RSh.one (CK.int .i64)) [(PV.agg [(PV.int .i64 p2_0), (PV.int .i64 p2_1), (PV.int .i64 p2_2)])]) fun (y8 : (Int)) =>
  bif (decide (p2_0 ≤ p1_3)) then
    bindO (F 79 (RSh.one (CK.int .i64)) [(PV.bool true), (PV.int .i64 (9 : Int))]) fun (y9 : (Int)) =>
    bindO (F 73 (RSh.one (CK.int .i64)) [(PV.list 4 [(PV.int .i64 y0), (PV.int .i64 y7), (PV.int .i64 y8), (PV.int .i64 y9)])]) fun (y10 : (Int)) =>
    bif (y10 != (0 : Int)) then
      some (false, ((0 : Int), ((0 : Int), ((0 : Int), ((0 : Int), y10)))))
    else bif p1_0 then
      bif (decide ((w64 (p2_0 - p1_3)) > p0_3)) then
        bif (decide (p2_1 ≥ p0_0)) then
          bif (decide ((w64 (p1_1 + (1 : Int))) > (62500 : Int))) then
            some (false, ((0 : Int), ((0 : Int), ((0 : Int), ((0 : Int), (15 : Int))))))
          else some (true, ((w64 (p1_1 + (1 : Int))), (p2_0, (p2_0, ((-1 : Int), (0 : Int))))))
        else bif (decide (p1_1 > (62500 : Int))) then
          some (false, ((0 : Int), ((0 : Int), ((0 : Int), ((0 : Int), (15 : Int))))))
        else some (false, (p1_1, ((0 : Int), (p2_0, ((-1 : Int), (0 : Int))))))
      else bif (decide (p2_2 ≥ p0_1)) then
        bif (decide (p1_1 > (62500 : Int))) then
          some (false, ((0 : Int), ((0 : Int), ((0 : Int), ((0 : Int), (15 : Int))))))
        else some (true, (p1_1, (p1_2, (p2_0, ((-1 : Int), (0 : Int))))))
      else bif (p1_4 == (-1 : Int)) then
        bif (decide ((w64 (p2_0 - p2_0)) ≥ p0_2)) then
          bif (decide (p2_1 ≥ p0_0)) then
            bif (decide ((w64 (p1_1 + (1 : Int))) > (62500 : Int))) then
              some (false, ((0 : Int), ((0 : Int), ((0 : Int), ((0 : Int), (15 : Int))))))
            else some (true, ((w64 (p1_1 + (1 : Int))), (p2_0, (p2_0, ((-1 : Int), (0 : Int))))))
          else bif (decide (p1_1 > (62500 : Int))) then
            some (false, ((0 : Int), ((0 : Int), ((0 : Int), ((0 : Int), (15 : Int))))))
          else some (false, (p1_1, ((0 : Int), (p2_0, ((-1 : Int), (0 : Int))))))
        else bif (decide (p1_1 > (62500 : Int))) then
          some (false, ((0 : Int), ((0 : Int), ((0 : Int), ((0 : Int), (15 : Int))))))
        else some (true, (p1_1, (p1_2, (p2_0, (p2_0, (0 : Int))))))
      else bif (decide ((w64 (p2_0 - p1_4)) ≥ p0_2)) then
        bif (decide (p2_1 ≥ p0_0)) then
          bif (decide ((w64 (p1_1 + (1 : Int))) > (62500 : Int))) then
            some (false, ((0 : Int), ((0 : Int), ((0 : Int), ((0 : Int), (15 : Int))))))
          else some (true, ((w64 (p1_1 + (1 : Int))), (p2_0, (p2_0, ((-1 : Int), (0 : Int))))))
        else bif (decide (p1_1 > (62500 : Int))) then
          some (false, ((0 : Int), ((0 : Int), ((0 : Int), ((0 : Int), (15 : Int))))))
        else some (false, (p1_1, ((0 : Int), (p2_0, ((-1 : Int), (0 : Int))))))
      else bif (decide (p1_1 > (62500 : Int))) then
        some (false, ((0 : Int), ((0 : Int), ((0 : Int), ((0 : Int), (15 : Int))))))
      else some (true, (p1_1, (p1_2, (p2_0, (p1_4, (0 : Int))))))
    else bif (decide (p2_1 ≥ p0_0)) then
      bif (decide ((w64 (p1_1 + (1 : Int))) > (62500 : Int))) then
        some (false, ((0 : Int), ((0 : Int), ((0 : Int), ((0 : Int), (15 : Int))))))
      else some (true, ((w64 (p1_1 + (1 : Int))), (p2_0, (p2_0, (p1_4, (0 : Int))))))
    else bif (decide (p1_1 > (62500 : Int))) then
      some (false, ((0 : Int), ((0 : Int), ((0 : Int), ((0 : Int), (15 : Int))))))
    else some (false, (p1_1, (p1_2, (p2_0, (p1_4, (0 : Int))))))
  else bindO (F 79 (RSh.one (CK.int .i64)) [(PV.bool false), (PV.int .i64 (9 : Int))]) fun (y11 : (Int)) =>
  bindO (F 73 (RSh.one (CK.int .i64)) [(PV.list 4 [(PV.int .i64 y0), (PV.int .i64 y7), (PV.int .i64 y8), (PV.int .i64 y11)])]) fun (y12 : (Int)) =>
  bif (y12 != (0 : Int)) then
    some (false, ((0 : Int), ((0 : Int), ((0 : Int), ((0 : Int), y12)))))
  else bif p1_0 then
    bif (decide ((w64 (p2_0 - p1_3)) > p0_3)) then
      bif (decide (p2_1 ≥ p0_0)) then
        bif (decide ((w64 (p1_1 + (1 : Int))) > (62500 : Int))) then
          some (false, ((0 : Int), ((0 : Int), ((0 : Int), ((0 : Int), (15 : Int))))))
        else some (true, ((w64 (p1_1 + (1 : Int))), (p2_0, (p2_0, ((-1 : Int), (0 : Int))))))
      else bif (decide (p1_1 > (62500 : Int))) then
        some (false, ((0 : Int), ((0 : Int), ((0 : Int), ((0 : Int), (15 : Int))))))
      else some (false, (p1_1, ((0 : Int), (p2_0, ((-1 : Int), (0 : Int))))))
    else bif (decide (p2_2 ≥ p0_1)) then
      bif (decide (p1_1 > (62500 : Int))) then
        some (false, ((0 : Int), ((0 : Int), ((0 : Int), ((0 : Int), (15 : Int))))))
      else some (true, (p1_1, (p1_2, (p2_0, ((-1 : Int), (0 : Int))))))
    else bif (p1_4 == (-1 : Int)) then
      bif (decide ((w64 (p2_0 - p2_0)) ≥ p0_2)) then
        bif (decide (p2_1 ≥ p0_0)) then
          bif (decide ((w64 (p1_1 + (1 : Int))) > (62500 : Int))) then
            some (false, ((0 : Int), ((0 : Int), ((0 : Int), ((0 : Int), (15 : Int))))))
          else some (true, ((w64 (p1_1 + (1 : Int))), (p2_0, (p2_0, ((-1 : Int), (0 : Int))))))
        else bif (decide (p1_1 > (62500 : Int))) then
          some (false, ((0 : Int), ((0 : Int), ((0 : Int), ((0 : Int), (15 : Int))))))
        else some (false, (p1_1, ((0 : Int), (p2_0, ((-1 : Int), (0 : Int))))))
      else bif (decide (p1_1 > (62500 : Int))) then
        some (false, ((0 : Int), ((0 : Int), ((0 : Int), ((0 : Int), (15 : Int))))))
      else some (true, (p1_1, (p1_2, (p2_0, (p2_0, (0 : Int))))))
    else bif (decide ((w64 (p2_0 - p1_4)) ≥ p0_2)) then
      bif (decide (p2_1 ≥ p0_0)) then
        bif (decide ((w64 (p1_1 + (1 : Int))) > (62500 : Int))) then
          some (false, ((0 : Int), ((0 : Int), ((0 : Int), ((0 : Int), (15 : Int))))))
        else some (true, ((w64 (p1_1 + (1 : Int))), (p2_0, (p2_0, ((-1 : Int), (0 : Int))))))
      else bif (decide (p1_1 > (62500 : Int))) then
        some (false, ((0 : Int), ((0 : Int), ((0 : Int), ((0 : Int), (15 : Int))))))
      else some (false, (p1_1, ((0 : Int), (p2_0, ((-1 : Int), (0 : Int))))))
    else bif (decide (p1_1 > (62500 : Int))) then
      some (false, ((0 : Int), ((0 : Int), ((0 : Int), ((0 : Int), (15 : Int))))))
    else some (true, (p1_1, (p1_2, (p2_0, (p1_4, (0 : Int))))))
  else bif (decide (p2_1 ≥ p0_0)) then
    bif (decide ((w64 (p1_1 + (1 : Int))) > (62500 : Int))) then
      some (false, ((0 : Int), ((0 : Int), ((0 : Int), ((0 : Int), (15 : Int))))))
    else some (true, ((w64 (p1_1 + (1 : Int))), (p2_0, (p2_0, (p1_4, (0 : Int))))))
  else bif (decide (p1_1 > (62500 : Int))) then
    some (false, ((0 : Int), ((0 : Int), ((0 : Int), ((0 : Int), (15 : Int))))))
  else some (false, (p1_1, (p1_2, (p2_0, (p1_4, (0 : Int))))))
theorem tnext_eq (F : FnT) (p0_0 p0_1 p0_2 p0_3 : Int) (p1_0 : Bool) (p1_1 p1_2 p1_3 p1_4 p2_0 p2_1 p2_2 : Int) : semF (callP F Enext 20) s46 (loopT []) 400 a46 [PV.agg [PV.int .i64 p0_0, PV.int .i64 p0_1, PV.int .i64 p0_2, PV.int .i64 p0_3], PV.agg [PV.bool p1_0, PV.int .i64 p1_1, PV.int .i64 p1_2, PV.int .i64 p1_3, PV.int .i64 p1_4], PV.agg [PV.int .i64 p2_0, PV.int .i64 p2_1, PV.int .i64 p2_2]] (fun rv => decR (RSh.tup [(Prod.mk true [CK.bool, (CK.int .i64), (CK.int .i64), (CK.int .i64), (CK.int .i64)]), (Prod.mk false [(CK.int .i64)])]) rv.pv) = tnext F p0_0 p0_1 p0_2 p0_3 p1_0 p1_1 p1_2 p1_3 p1_4 p2_0 p2_1 p2_2 := by kernel_rfl
noncomputable abbrev Fnext (args : List PV) := Fn env 46 (RSh.tup [(Prod.mk true [CK.bool, (CK.int .i64), (CK.int .i64), (CK.int .i64), (CK.int .i64)]), (Prod.mk false [(CK.int .i64)])]) args
theorem Fnext_of  (p0_0 p0_1 p0_2 p0_3 : Int) (p1_0 : Bool) (p1_1 p1_2 p1_3 p1_4 p2_0 p2_1 p2_2 : Int) {res : ((Bool) × ((Int) × ((Int) × ((Int) × ((Int) × (Int))))))} (h : tnext (Fn env) p0_0 p0_1 p0_2 p0_3 p1_0 p1_1 p1_2 p1_3 p1_4 p2_0 p2_1 p2_2 = some res) : Fnext [PV.agg [PV.int .i64 p0_0, PV.int .i64 p0_1, PV.int .i64 p0_2, PV.int .i64 p0_3], PV.agg [PV.bool p1_0, PV.int .i64 p1_1, PV.int .i64 p1_2, PV.int .i64 p1_3, PV.int .i64 p1_4], PV.agg [PV.int .i64 p2_0, PV.int .i64 p2_1, PV.int .i64 p2_2]] = some res :=
  fn_of Enext_ok rfl rfl lo_nil ((tnext_eq _ _ _ _ _ _ _ _ _ _ _ _ _).trans h)
def EsAt : List Entry := [.inl 106 a106 s106, .inl 98 a98 s98, .inl 107 a107 s107, .inl 120 a120 s120, .inl 122 a122 s122, .out 47 (RSh.one (CK.int .i64)), .out 105 (RSh.one (CK.int .i64)), .out 78 (RSh.one (CK.int .i64)), .out 73 (RSh.one (CK.int .i64))]
theorem EsAt_ok : ∀ e ∈ EsAt, EntOK env e := (ent_inl rfl (ent_inl rfl (ent_inl rfl (ent_inl rfl (ent_inl rfl (ent_out (ent_out (ent_out (ent_out ent_nil)))))))))
def TsAt_0a (i0 : Int) (n1 : Nat) (c2 : List PV) (i3 i4 i5 i6 i7 i8 i9 i10 i11 : Int) : Q := ⟨(tm 43 [(2, (AV.p (PV.int .i64 i0))), (6, (AV.loc 6 0)), (9, (AV.loc 9 0)), (26, (AV.p (PV.list n1 c2))), (27, (AV.p (PV.int .i64 i3))), (28, (AV.p (PV.int .i64 (0 : Int))))]), (mm 43 [(3, (Bk.pcs true [(PV.int .i64 i4), (PV.int .i64 i5), (PV.int .i64 i6), (PV.int .i64 i7)])), (6, (Bk.pcs true [(PV.bool false), (PV.int .i64 (0 : Int)), (PV.int .i64 (0 : Int)), (PV.int .i64 (0 : Int)), (PV.int .i64 (0 : Int))])), (9, (Bk.pcs true [(PV.int .i64 i8), (PV.int .i64 i9), (PV.int .i64 i10), (PV.int .i64 i11), (PV.bool false), (PV.int .i64 (0 : Int)), (PV.int .i64 (0 : Int)), (PV.int .i64 (-1 : Int)), (PV.int .i64 (-1 : Int))]))])⟩
def TsAt_0b (i0 : Int) (n1 : Nat) (c2 : List PV) (i3 i4 i5 i6 i7 i8 : Int) (b9 : Bool) (i10 i11 i12 i13 : Int) : Q := ⟨(tm 43 [(2, (AV.p (PV.int .i64 i0))), (6, (AV.loc 6 0)), (9, (AV.loc 9 0)), (26, (AV.p (PV.list n1 c2))), (27, (AV.p (PV.int .i64 i3))), (28, (AV.p (PV.int .i64 i4)))]), (mm 43 [(6, (Bk.pcs true [(PV.bool false), (PV.int .i64 (0 : Int)), (PV.int .i64 (0 : Int)), (PV.int .i64 (0 : Int)), (PV.int .i64 (0 : Int))])), (9, (Bk.pcs true [(PV.int .i64 i5), (PV.int .i64 i6), (PV.int .i64 i7), (PV.int .i64 i8), (PV.bool b9), (PV.int .i64 i10), (PV.int .i64 i11), (PV.int .i64 i12), (PV.int .i64 i13)]))])⟩
def XsAt_0a (y : Int × Int × Int × Int × Int × Bool × Int × Int × Int × Int) : Ext × Q := (Ext.normal, ⟨(tm 43 [(2, (AV.p (PV.int .i64 y.1))), (6, (AV.loc 6 0)), (9, (AV.loc 9 0))]), (mm 43 [(6, (Bk.pcs true [(PV.bool false), (PV.int .i64 (0 : Int)), (PV.int .i64 (0 : Int)), (PV.int .i64 (0 : Int)), (PV.int .i64 (0 : Int))])), (9, (Bk.pcs true [(PV.int .i64 y.2.1), (PV.int .i64 y.2.2.1), (PV.int .i64 y.2.2.2.1), (PV.int .i64 y.2.2.2.2.1), (PV.bool y.2.2.2.2.2.1), (PV.int .i64 y.2.2.2.2.2.2.1), (PV.int .i64 y.2.2.2.2.2.2.2.1), (PV.int .i64 y.2.2.2.2.2.2.2.2.1), (PV.int .i64 y.2.2.2.2.2.2.2.2.2)]))])⟩)
def IsAt_0a (q : Ext × S) : Int × Int × Int × Int × Int × Bool × Int × Int × Int × Int := ((pP_int1 (pA_p (avT q.2 2))), (pP_int1 (hdP (pB_pcs1 (avM q.2 9)))), (pP_int1 (hdP (List.tail (pB_pcs1 (avM q.2 9))))), (pP_int1 (hdP (List.tail (List.tail (pB_pcs1 (avM q.2 9)))))), (pP_int1 (hdP (List.tail (List.tail (List.tail (pB_pcs1 (avM q.2 9))))))), (pP_bool0 (hdP (List.tail (List.tail (List.tail (List.tail (pB_pcs1 (avM q.2 9)))))))), (pP_int1 (hdP (List.tail (List.tail (List.tail (List.tail (List.tail (pB_pcs1 (avM q.2 9))))))))), (pP_int1 (hdP (List.tail (List.tail (List.tail (List.tail (List.tail (List.tail (pB_pcs1 (avM q.2 9)))))))))), (pP_int1 (hdP (List.tail (List.tail (List.tail (List.tail (List.tail (List.tail (List.tail (pB_pcs1 (avM q.2 9))))))))))), (pP_int1 (hdP (List.tail (List.tail (List.tail (List.tail (List.tail (List.tail (List.tail (List.tail (pB_pcs1 (avM q.2 9)))))))))))))
abbrev YsAt_0 : Type := Int × Int × Int × Int × Int × Bool × Int × Int × Int × Int
def XLsAt_0 : XL YsAt_0 := .one XsAt_0a
def IsAt_0 (q : Ext × S) : YsAt_0 := (IsAt_0a q)
theorem XIsAt_0a (y : Int × Int × Int × Int × Int × Bool × Int × Int × Int × Int) : IsAt_0 (xe (XsAt_0a y)) = y := by kernel_rfl
theorem XIsAt_0 (y : YsAt_0) : IsAt_0 (xe (XLsAt_0.fn y)) = y := XIsAt_0a y
noncomputable abbrev LsAt_0 : Q → Option YsAt_0 := lpO env a56.body 0 XLsAt_0
noncomputable abbrev RsAt_0 : Q → Option (Ext × S) := lpR env a56.body 0
theorem LsAt_0a_of {s : Q} {y : Int × Int × Int × Int × Int × Bool × Int × Int × Int × Int} (h : RsAt_0 s = exO (XsAt_0a y)) : LsAt_0 s = some y := lpO_of IsAt_0 XIsAt_0 (y := y) h
theorem UsAt : uniq ((blocksOf a56.body).map (·.1)) = true := by kernel_rfl
def BsAt_0a (_F : FnT) (N : QO) (E : EO) (_L0 : Q → Option YsAt_0) (i0 : Int) (n1 : Nat) (c2 : List PV) (i3 _i4 _i5 _i6 _i7 i8 i9 i10 i11 : Int) : Option (Ext × S) :=
  bif (decide ((0 : Int) < i3)) then
    bif (decide (((0 : Int) ≤ (0 : Int)) ∧ ((0 : Int) < (n1 : Int)))) then
      bindO (intC .i64 (c2[0]?)) fun x0 =>
      bindO (intC .i64 (c2[1]?)) fun x1 =>
      bindO (intC .i64 (c2[2]?)) fun _x2 =>
      bif (decide (x0 ≤ i0)) then
        bif (decide (x1 ≥ i8)) then
          N (TsAt_0b i0 n1 c2 i3 (1 : Int) i8 i9 i10 i11 true (1 : Int) x0 x0 (-1 : Int))
        else N (TsAt_0b i0 n1 c2 i3 (1 : Int) i8 i9 i10 i11 false (0 : Int) (0 : Int) x0 (-1 : Int))
      else N (TsAt_0b i0 n1 c2 i3 (1 : Int) i8 i9 i10 i11 false (0 : Int) (0 : Int) (-1 : Int) (-1 : Int))
    else none
  else E (XsAt_0a (i0, i8, i9, i10, i11, false, (0 : Int), (0 : Int), (-1 : Int), (-1 : Int)))
theorem BsAt_0a_eq (F : FnT) (N : QO) (E : EO) (L0 : Q → Option YsAt_0) (i0 : Int) (n1 : Nat) (c2 : List PV) (i3 i4 i5 i6 i7 i8 i9 i10 i11 : Int) : semB (callP F EsAt 20) s56 (loopT [⟨0, YsAt_0, L0, XLsAt_0⟩]) 400 (blkIn a56.body 0) N E (TsAt_0a i0 n1 c2 i3 i4 i5 i6 i7 i8 i9 i10 i11) = BsAt_0a F N E L0 i0 n1 c2 i3 i4 i5 i6 i7 i8 i9 i10 i11 := by kernel_rfl
theorem RsAt_0a_of  (i0 : Int) (n1 : Nat) (c2 : List PV) (i3 i4 i5 i6 i7 i8 i9 i10 i11 : Int) {r : Ext × S} (h : BsAt_0a (Fn env) RsAt_0 exO LsAt_0 i0 n1 c2 i3 i4 i5 i6 i7 i8 i9 i10 i11 = some r) : RsAt_0 (TsAt_0a i0 n1 c2 i3 i4 i5 i6 i7 i8 i9 i10 i11) = some r :=
  lp_of EsAt_ok (by kernel_rfl) (lo_cons (lpO_ok UsAt) lo_nil) (by kernel_rfl) ((BsAt_0a_eq _ _ _ _ _ _ _ _ _ _ _ _ _ _ _ _).trans h)
def BsAt_0b (_F : FnT) (N : QO) (E : EO) (_L0 : Q → Option YsAt_0) (i0 : Int) (n1 : Nat) (c2 : List PV) (i3 i4 i5 i6 i7 i8 : Int) (b9 : Bool) (i10 i11 i12 i13 : Int) : Option (Ext × S) :=
  bif (decide (i4 < i3)) then
    bif (decide (((0 : Int) ≤ i4) ∧ (i4 < (n1 : Int)))) then
      bindO (intC .i64 (c2[((Int.toNat i4) * 3)]?)) fun x0 =>
      bindO (intC .i64 (c2[(((Int.toNat i4) * 3) + 1)]?)) fun x1 =>
      bindO (intC .i64 (c2[((((Int.toNat i4) * 3) + 1) + 1)]?)) fun x2 =>
      bif (decide (x0 ≤ i0)) then
        bif b9 then
          bif (decide ((w64 (x0 - i12)) > i8)) then
            bif (decide (x1 ≥ i5)) then
              N (TsAt_0b i0 n1 c2 i3 (w64 (i4 + (1 : Int))) i5 i6 i7 i8 true (w64 (i10 + (1 : Int))) x0 x0 (-1 : Int))
            else N (TsAt_0b i0 n1 c2 i3 (w64 (i4 + (1 : Int))) i5 i6 i7 i8 false i10 (0 : Int) x0 (-1 : Int))
          else bif b9 then
            bif (decide (x2 ≥ i6)) then
              bif b9 then
                N (TsAt_0b i0 n1 c2 i3 (w64 (i4 + (1 : Int))) i5 i6 i7 i8 b9 i10 i11 x0 (-1 : Int))
              else bif (decide (x1 ≥ i5)) then
                N (TsAt_0b i0 n1 c2 i3 (w64 (i4 + (1 : Int))) i5 i6 i7 i8 true (w64 (i10 + (1 : Int))) x0 x0 (-1 : Int))
              else N (TsAt_0b i0 n1 c2 i3 (w64 (i4 + (1 : Int))) i5 i6 i7 i8 b9 i10 i11 x0 (-1 : Int))
            else bif (i13 == (-1 : Int)) then
              bif (decide ((w64 (x0 - x0)) ≥ i7)) then
                bif (decide (x1 ≥ i5)) then
                  N (TsAt_0b i0 n1 c2 i3 (w64 (i4 + (1 : Int))) i5 i6 i7 i8 true (w64 (i10 + (1 : Int))) x0 x0 (-1 : Int))
                else N (TsAt_0b i0 n1 c2 i3 (w64 (i4 + (1 : Int))) i5 i6 i7 i8 false i10 (0 : Int) x0 (-1 : Int))
              else bif b9 then
                N (TsAt_0b i0 n1 c2 i3 (w64 (i4 + (1 : Int))) i5 i6 i7 i8 b9 i10 i11 x0 x0)
              else bif (decide (x1 ≥ i5)) then
                N (TsAt_0b i0 n1 c2 i3 (w64 (i4 + (1 : Int))) i5 i6 i7 i8 true (w64 (i10 + (1 : Int))) x0 x0 x0)
              else N (TsAt_0b i0 n1 c2 i3 (w64 (i4 + (1 : Int))) i5 i6 i7 i8 b9 i10 i11 x0 x0)
            else bif (decide ((w64 (x0 - i13)) ≥ i7)) then
              bif (decide (x1 ≥ i5)) then
                N (TsAt_0b i0 n1 c2 i3 (w64 (i4 + (1 : Int))) i5 i6 i7 i8 true (w64 (i10 + (1 : Int))) x0 x0 (-1 : Int))
              else N (TsAt_0b i0 n1 c2 i3 (w64 (i4 + (1 : Int))) i5 i6 i7 i8 false i10 (0 : Int) x0 (-1 : Int))
            else bif b9 then
              N (TsAt_0b i0 n1 c2 i3 (w64 (i4 + (1 : Int))) i5 i6 i7 i8 b9 i10 i11 x0 i13)
            else bif (decide (x1 ≥ i5)) then
              N (TsAt_0b i0 n1 c2 i3 (w64 (i4 + (1 : Int))) i5 i6 i7 i8 true (w64 (i10 + (1 : Int))) x0 x0 i13)
            else N (TsAt_0b i0 n1 c2 i3 (w64 (i4 + (1 : Int))) i5 i6 i7 i8 b9 i10 i11 x0 i13)
          else bif b9 then
            N (TsAt_0b i0 n1 c2 i3 (w64 (i4 + (1 : Int))) i5 i6 i7 i8 b9 i10 i11 x0 i13)
          else bif (decide (x1 ≥ i5)) then
            N (TsAt_0b i0 n1 c2 i3 (w64 (i4 + (1 : Int))) i5 i6 i7 i8 true (w64 (i10 + (1 : Int))) x0 x0 i13)
          else N (TsAt_0b i0 n1 c2 i3 (w64 (i4 + (1 : Int))) i5 i6 i7 i8 b9 i10 i11 x0 i13)
        else bif b9 then
          bif (decide (x2 ≥ i6)) then
            bif b9 then
              N (TsAt_0b i0 n1 c2 i3 (w64 (i4 + (1 : Int))) i5 i6 i7 i8 b9 i10 i11 x0 (-1 : Int))
            else bif (decide (x1 ≥ i5)) then
              N (TsAt_0b i0 n1 c2 i3 (w64 (i4 + (1 : Int))) i5 i6 i7 i8 true (w64 (i10 + (1 : Int))) x0 x0 (-1 : Int))
            else N (TsAt_0b i0 n1 c2 i3 (w64 (i4 + (1 : Int))) i5 i6 i7 i8 b9 i10 i11 x0 (-1 : Int))
          else bif (i13 == (-1 : Int)) then
            bif (decide ((w64 (x0 - x0)) ≥ i7)) then
              bif (decide (x1 ≥ i5)) then
                N (TsAt_0b i0 n1 c2 i3 (w64 (i4 + (1 : Int))) i5 i6 i7 i8 true (w64 (i10 + (1 : Int))) x0 x0 (-1 : Int))
              else N (TsAt_0b i0 n1 c2 i3 (w64 (i4 + (1 : Int))) i5 i6 i7 i8 false i10 (0 : Int) x0 (-1 : Int))
            else bif b9 then
              N (TsAt_0b i0 n1 c2 i3 (w64 (i4 + (1 : Int))) i5 i6 i7 i8 b9 i10 i11 x0 x0)
            else bif (decide (x1 ≥ i5)) then
              N (TsAt_0b i0 n1 c2 i3 (w64 (i4 + (1 : Int))) i5 i6 i7 i8 true (w64 (i10 + (1 : Int))) x0 x0 x0)
            else N (TsAt_0b i0 n1 c2 i3 (w64 (i4 + (1 : Int))) i5 i6 i7 i8 b9 i10 i11 x0 x0)
          else bif (decide ((w64 (x0 - i13)) ≥ i7)) then
            bif (decide (x1 ≥ i5)) then
              N (TsAt_0b i0 n1 c2 i3 (w64 (i4 + (1 : Int))) i5 i6 i7 i8 true (w64 (i10 + (1 : Int))) x0 x0 (-1 : Int))
            else N (TsAt_0b i0 n1 c2 i3 (w64 (i4 + (1 : Int))) i5 i6 i7 i8 false i10 (0 : Int) x0 (-1 : Int))
          else bif b9 then
            N (TsAt_0b i0 n1 c2 i3 (w64 (i4 + (1 : Int))) i5 i6 i7 i8 b9 i10 i11 x0 i13)
          else bif (decide (x1 ≥ i5)) then
            N (TsAt_0b i0 n1 c2 i3 (w64 (i4 + (1 : Int))) i5 i6 i7 i8 true (w64 (i10 + (1 : Int))) x0 x0 i13)
          else N (TsAt_0b i0 n1 c2 i3 (w64 (i4 + (1 : Int))) i5 i6 i7 i8 b9 i10 i11 x0 i13)
        else bif b9 then
          N (TsAt_0b i0 n1 c2 i3 (w64 (i4 + (1 : Int))) i5 i6 i7 i8 b9 i10 i11 x0 i13)
        else bif (decide (x1 ≥ i5)) then
          N (TsAt_0b i0 n1 c2 i3 (w64 (i4 + (1 : Int))) i5 i6 i7 i8 true (w64 (i10 + (1 : Int))) x0 x0 i13)
        else N (TsAt_0b i0 n1 c2 i3 (w64 (i4 + (1 : Int))) i5 i6 i7 i8 b9 i10 i11 x0 i13)
      else N (TsAt_0b i0 n1 c2 i3 (w64 (i4 + (1 : Int))) i5 i6 i7 i8 b9 i10 i11 i12 i13)
    else none
  else E (XsAt_0a (i0, i5, i6, i7, i8, b9, i10, i11, i12, i13))
theorem BsAt_0b_eq (F : FnT) (N : QO) (E : EO) (L0 : Q → Option YsAt_0) (i0 : Int) (n1 : Nat) (c2 : List PV) (i3 i4 i5 i6 i7 i8 : Int) (b9 : Bool) (i10 i11 i12 i13 : Int) : semB (callP F EsAt 20) s56 (loopT [⟨0, YsAt_0, L0, XLsAt_0⟩]) 400 (blkIn a56.body 0) N E (TsAt_0b i0 n1 c2 i3 i4 i5 i6 i7 i8 b9 i10 i11 i12 i13) = BsAt_0b F N E L0 i0 n1 c2 i3 i4 i5 i6 i7 i8 b9 i10 i11 i12 i13 := by kernel_rfl
theorem RsAt_0b_of  (i0 : Int) (n1 : Nat) (c2 : List PV) (i3 i4 i5 i6 i7 i8 : Int) (b9 : Bool) (i10 i11 i12 i13 : Int) {r : Ext × S} (h : BsAt_0b (Fn env) RsAt_0 exO LsAt_0 i0 n1 c2 i3 i4 i5 i6 i7 i8 b9 i10 i11 i12 i13 = some r) : RsAt_0 (TsAt_0b i0 n1 c2 i3 i4 i5 i6 i7 i8 b9 i10 i11 i12 i13) = some r :=
  lp_of EsAt_ok (by kernel_rfl) (lo_cons (lpO_ok UsAt) lo_nil) (by kernel_rfl) ((BsAt_0b_eq _ _ _ _ _ _ _ _ _ _ _ _ _ _ _ _ _ _).trans h)
def tsAt (F : FnT) (L0 : Q → Option YsAt_0) (p0_0 p0_1 p0_2 p0_3 : Int) (p1n : Nat) (p1c : List PV) (p2 : Int) : Option ((Bool) × ((Int) × ((Int) × ((Int) × ((Int) × (Int)))))) :=
  bindO (F 47 (RSh.one (CK.int .i64)) [(PV.agg [(PV.int .i64 p0_0), (PV.int .i64 p0_1), (PV.int .i64 p0_2), (PV.int .i64 p0_3)])]) fun (y0 : (Int)) =>
  bindO (F 105 (RSh.one (CK.int .i64)) [(PV.list p1n p1c)]) fun (y1 : (Int)) =>
  bindO (F 78 (RSh.one (CK.int .i64)) [(PV.int .i64 p2), (PV.int .i64 (0 : Int)), (PV.int .i64 (1000000000000 : Int))]) fun (y2 : (Int)) =>
  bindO (F 73 (RSh.one (CK.int .i64)) [(PV.list 3 [(PV.int .i64 y0), (PV.int .i64 y1), (PV.int .i64 y2)])]) fun (y3 : (Int)) =>
  bif (y3 != (0 : Int)) then
    some (false, ((0 : Int), ((0 : Int), ((0 : Int), ((0 : Int), y3)))))
  else bindO (L0 (TsAt_0a p2 p1n p1c (p1n : Int) p0_0 p0_1 p0_2 p0_3 p0_0 p0_1 p0_2 p0_3)) fun y4 =>
  bif y4.2.2.2.2.2.1 then
    bif (decide ((w64 (y4.1 - y4.2.2.2.2.2.2.2.2.1)) > y4.2.2.2.2.1)) then
      some (false, (y4.2.2.2.2.2.2.1, ((0 : Int), (y4.2.2.2.2.2.2.2.2.1, ((-1 : Int), (0 : Int))))))
    else bif y4.2.2.2.2.2.1 then
      some (true, (y4.2.2.2.2.2.2.1, (y4.2.2.2.2.2.2.2.1, (y4.2.2.2.2.2.2.2.2.1, (y4.2.2.2.2.2.2.2.2.2, (0 : Int))))))
    else some (false, (y4.2.2.2.2.2.2.1, (y4.2.2.2.2.2.2.2.1, (y4.2.2.2.2.2.2.2.2.1, (y4.2.2.2.2.2.2.2.2.2, (0 : Int))))))
  else bif y4.2.2.2.2.2.1 then
    some (true, (y4.2.2.2.2.2.2.1, (y4.2.2.2.2.2.2.2.1, (y4.2.2.2.2.2.2.2.2.1, (y4.2.2.2.2.2.2.2.2.2, (0 : Int))))))
  else some (false, (y4.2.2.2.2.2.2.1, (y4.2.2.2.2.2.2.2.1, (y4.2.2.2.2.2.2.2.2.1, (y4.2.2.2.2.2.2.2.2.2, (0 : Int))))))
theorem tsAt_eq (F : FnT) (L0 : Q → Option YsAt_0) (p0_0 p0_1 p0_2 p0_3 : Int) (p1n : Nat) (p1c : List PV) (p2 : Int) : semF (callP F EsAt 20) s56 (loopT [⟨0, YsAt_0, L0, XLsAt_0⟩]) 400 a56 [PV.agg [PV.int .i64 p0_0, PV.int .i64 p0_1, PV.int .i64 p0_2, PV.int .i64 p0_3], PV.list p1n p1c, PV.int .i64 p2] (fun rv => decR (RSh.tup [(Prod.mk true [CK.bool, (CK.int .i64), (CK.int .i64), (CK.int .i64), (CK.int .i64)]), (Prod.mk false [(CK.int .i64)])]) rv.pv) = tsAt F L0 p0_0 p0_1 p0_2 p0_3 p1n p1c p2 := by kernel_rfl
noncomputable abbrev FsAt (args : List PV) := Fn env 56 (RSh.tup [(Prod.mk true [CK.bool, (CK.int .i64), (CK.int .i64), (CK.int .i64), (CK.int .i64)]), (Prod.mk false [(CK.int .i64)])]) args
theorem FsAt_of  (p0_0 p0_1 p0_2 p0_3 : Int) (p1n : Nat) (p1c : List PV) (p2 : Int) {res : ((Bool) × ((Int) × ((Int) × ((Int) × ((Int) × (Int))))))} (h : tsAt (Fn env) LsAt_0 p0_0 p0_1 p0_2 p0_3 p1n p1c p2 = some res) : FsAt [PV.agg [PV.int .i64 p0_0, PV.int .i64 p0_1, PV.int .i64 p0_2, PV.int .i64 p0_3], PV.list p1n p1c, PV.int .i64 p2] = some res :=
  fn_of EsAt_ok rfl rfl (lo_cons (lpO_ok UsAt) lo_nil) ((tsAt_eq _ _ _ _ _ _ _ _ _).trans h)
end Gv
