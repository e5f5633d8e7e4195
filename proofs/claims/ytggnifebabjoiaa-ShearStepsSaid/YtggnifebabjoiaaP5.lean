/- What the functions do, round by round: P5. -/
import Derived.Test.YtggnifebabjoiaaGvEnv
namespace Gv
open Go
set_option maxRecDepth 100000
def EbWi : List Entry := []
theorem EbWi_ok : ∀ e ∈ EbWi, EntOK env e := ent_nil
def tbWi (_F : FnT) (p0 : Int) (p1 : Int) (p2 : Int) : Option (Bool) :=
  bif (decide (p1 ≤ p0)) then
    bif (decide (p0 ≤ p2)) then
      some true
    else some false
  else some false
theorem tbWi_eq (F : FnT) (p0 : Int) (p1 : Int) (p2 : Int) : semF (callP F EbWi 20) s29 (loopT []) 400 a29 [PV.int .i64 p0, PV.int .i64 p1, PV.int .i64 p2] (fun rv => decR (RSh.one CK.bool) rv.pv) = tbWi F p0 p1 p2 := by kernel_rfl
noncomputable abbrev FbWi (args : List PV) := Fn env 29 (RSh.one CK.bool) args
theorem FbWi_of  (p0 : Int) (p1 : Int) (p2 : Int) {res : (Bool)} (h : tbWi (Fn env) p0 p1 p2 = some res) : FbWi [PV.int .i64 p0, PV.int .i64 p1, PV.int .i64 p2] = some res :=
  fn_of EbWi_ok rfl rfl lo_nil ((tbWi_eq _ _ _ _).trans h)
def EbTick : List Entry := [.out 29 (RSh.one CK.bool)]
theorem EbTick_ok : ∀ e ∈ EbTick, EntOK env e := (ent_out ent_nil)
def tbTick (F : FnT) (p0 : Int) : Option (Bool) :=
  bindO (F 29 (RSh.one CK.bool) [(PV.int .i64 p0), (PV.int .i64 (0 : Int)), (PV.int .i64 (1000000000000 : Int))]) fun (y0 : (Bool)) =>
  bif y0 then
    some true
  else some false
theorem tbTick_eq (F : FnT) (p0 : Int) : semF (callP F EbTick 20) s61 (loopT []) 400 a61 [PV.int .i64 p0] (fun rv => decR (RSh.one CK.bool) rv.pv) = tbTick F p0 := by kernel_rfl
noncomputable abbrev FbTick (args : List PV) := Fn env 61 (RSh.one CK.bool) args
theorem FbTick_of  (p0 : Int) {res : (Bool)} (h : tbTick (Fn env) p0 = some res) : FbTick [PV.int .i64 p0] = some res :=
  fn_of EbTick_ok rfl rfl lo_nil ((tbTick_eq _ _).trans h)
def ErIsL : List Entry := [.out 29 (RSh.one CK.bool)]
theorem ErIsL_ok : ∀ e ∈ ErIsL, EntOK env e := (ent_out ent_nil)
def trIsL (F : FnT) (p0 : Int) : Option (Bool) :=
  bindO (F 29 (RSh.one CK.bool) [(PV.int .i64 p0), (PV.int .i64 (-20000 : Int)), (PV.int .i64 (20000 : Int))]) fun (y0 : (Bool)) =>
  bif y0 then
    some true
  else some false
theorem trIsL_eq (F : FnT) (p0 : Int) : semF (callP F ErIsL 20) s100 (loopT []) 400 a100 [PV.int .i64 p0] (fun rv => decR (RSh.one CK.bool) rv.pv) = trIsL F p0 := by kernel_rfl
noncomputable abbrev FrIsL (args : List PV) := Fn env 100 (RSh.one CK.bool) args
theorem FrIsL_of  (p0 : Int) {res : (Bool)} (h : trIsL (Fn env) p0 = some res) : FrIsL [PV.int .i64 p0] = some res :=
  fn_of ErIsL_ok rfl rfl lo_nil ((trIsL_eq _ _).trans h)
def ErRuE : List Entry := [.out 29 (RSh.one CK.bool)]
theorem ErRuE_ok : ∀ e ∈ ErRuE, EntOK env e := (ent_out ent_nil)
def trRuE (F : FnT) (p0_0 : Int) (p0_1 : Int) (p0_2 : Int) (p0_3 : Int) : Option (Int) :=
  bindO (F 29 (RSh.one CK.bool) [(PV.int .i64 p0_0), (PV.int .i64 (1 : Int)), (PV.int .i64 (20000 : Int))]) fun (y0 : (Bool)) =>
  bif y0 then
    bindO (F 29 (RSh.one CK.bool) [(PV.int .i64 p0_1), (PV.int .i64 (0 : Int)), (PV.int .i64 (20000 : Int))]) fun (y1 : (Bool)) =>
    bif y1 then
      bindO (F 29 (RSh.one CK.bool) [(PV.int .i64 p0_2), (PV.int .i64 (0 : Int)), (PV.int .i64 (100000 : Int))]) fun (y2 : (Bool)) =>
      bif y2 then
        bindO (F 29 (RSh.one CK.bool) [(PV.int .i64 p0_3), (PV.int .i64 (1 : Int)), (PV.int .i64 (100000 : Int))]) fun (y3 : (Bool)) =>
        bif y3 then
          bif (decide (p0_1 > p0_0)) then
            some (9 : Int)
          else some (0 : Int)
        else some (2 : Int)
      else some (2 : Int)
    else some (2 : Int)
  else some (2 : Int)
theorem trRuE_eq (F : FnT) (p0_0 : Int) (p0_1 : Int) (p0_2 : Int) (p0_3 : Int) : semF (callP F ErRuE 20) s48 (loopT []) 400 a48 [PV.agg [PV.int .i64 p0_0, PV.int .i64 p0_1, PV.int .i64 p0_2, PV.int .i64 p0_3]] (fun rv => decR (RSh.one (CK.int .i64)) rv.pv) = trRuE F p0_0 p0_1 p0_2 p0_3 := by kernel_rfl
noncomputable abbrev FrRuE (args : List PV) := Fn env 48 (RSh.one (CK.int .i64)) args
theorem FrRuE_of  (p0_0 : Int) (p0_1 : Int) (p0_2 : Int) (p0_3 : Int) {res : (Int)} (h : trRuE (Fn env) p0_0 p0_1 p0_2 p0_3 = some res) : FrRuE [PV.agg [PV.int .i64 p0_0, PV.int .i64 p0_1, PV.int .i64 p0_2, PV.int .i64 p0_3]] = some res :=
  fn_of ErRuE_ok rfl rfl lo_nil ((trRuE_eq _ _ _ _ _).trans h)
def ErStE : List Entry := [.out 29 (RSh.one CK.bool)]
theorem ErStE_ok : ∀ e ∈ ErStE, EntOK env e := (ent_out ent_nil)
def trStE (F : FnT) (p0_0 : Bool) (p0_1 : Int) (p0_2 : Int) (p0_3 : Int) (p0_4 : Int) : Option (Int) :=
  bindO (F 29 (RSh.one CK.bool) [(PV.int .i64 p0_1), (PV.int .i64 (0 : Int)), (PV.int .i64 (62500 : Int))]) fun (y0 : (Bool)) =>
  bif y0 then
    bindO (F 29 (RSh.one CK.bool) [(PV.int .i64 p0_2), (PV.int .i64 (0 : Int)), (PV.int .i64 (1000000000000 : Int))]) fun (y1 : (Bool)) =>
    bif y1 then
      bindO (F 29 (RSh.one CK.bool) [(PV.int .i64 p0_3), (PV.int .i64 (-1 : Int)), (PV.int .i64 (1000000000000 : Int))]) fun (y2 : (Bool)) =>
      bif y2 then
        bindO (F 29 (RSh.one CK.bool) [(PV.int .i64 p0_4), (PV.int .i64 (-1 : Int)), (PV.int .i64 (1000000000000 : Int))]) fun (y3 : (Bool)) =>
        bif y3 then
          bif p0_0 then
            bif p0_0 then
              bif (p0_1 == (0 : Int)) then
                some (3 : Int)
              else bif (decide (p0_2 > p0_3)) then
                some (3 : Int)
              else bif (decide (p0_4 > p0_3)) then
                some (3 : Int)
              else bif (p0_4 != (-1 : Int)) then
                bif (decide (p0_4 < p0_2)) then
                  some (3 : Int)
                else some (0 : Int)
              else some (0 : Int)
            else some (0 : Int)
          else bif (p0_2 != (0 : Int)) then
            some (3 : Int)
          else bif (p0_4 != (-1 : Int)) then
            some (3 : Int)
          else bif p0_0 then
            bif (p0_1 == (0 : Int)) then
              some (3 : Int)
            else bif (decide (p0_2 > p0_3)) then
              some (3 : Int)
            else bif (decide (p0_4 > p0_3)) then
              some (3 : Int)
            else bif (p0_4 != (-1 : Int)) then
              bif (decide (p0_4 < p0_2)) then
                some (3 : Int)
              else some (0 : Int)
            else some (0 : Int)
          else some (0 : Int)
        else some (2 : Int)
      else some (2 : Int)
    else some (2 : Int)
  else some (2 : Int)
theorem trStE_eq (F : FnT) (p0_0 : Bool) (p0_1 : Int) (p0_2 : Int) (p0_3 : Int) (p0_4 : Int) : semF (callP F ErStE 20) s50 (loopT []) 400 a50 [PV.agg [PV.bool p0_0, PV.int .i64 p0_1, PV.int .i64 p0_2, PV.int .i64 p0_3, PV.int .i64 p0_4]] (fun rv => decR (RSh.one (CK.int .i64)) rv.pv) = trStE F p0_0 p0_1 p0_2 p0_3 p0_4 := by kernel_rfl
noncomputable abbrev FrStE (args : List PV) := Fn env 50 (RSh.one (CK.int .i64)) args
theorem FrStE_of  (p0_0 : Bool) (p0_1 : Int) (p0_2 : Int) (p0_3 : Int) (p0_4 : Int) {res : (Int)} (h : trStE (Fn env) p0_0 p0_1 p0_2 p0_3 p0_4 = some res) : FrStE [PV.agg [PV.bool p0_0, PV.int .i64 p0_1, PV.int .i64 p0_2, PV.int .i64 p0_3, PV.int .i64 p0_4]] = some res :=
  fn_of ErStE_ok rfl rfl lo_nil ((trStE_eq _ _ _ _ _ _).trans h)
def ErEvE : List Entry := [.out 61 (RSh.one CK.bool), .out 100 (RSh.one CK.bool)]
theorem ErEvE_ok : ∀ e ∈ ErEvE, EntOK env e := (ent_out (ent_out ent_nil))
def trEvE (F : FnT) (p0_0 : Int) (p0_1 : Int) (p0_2 : Int) : Option (Int) :=
  bindO (F 61 (RSh.one CK.bool) [(PV.int .i64 p0_0)]) fun (y0 : (Bool)) =>
  bif y0 then
    bindO (F 100 (RSh.one CK.bool) [(PV.int .i64 p0_1)]) fun (y1 : (Bool)) =>
    bif y1 then
      bindO (F 100 (RSh.one CK.bool) [(PV.int .i64 p0_2)]) fun (y2 : (Bool)) =>
      bif y2 then
        bif (decide (p0_1 > p0_2)) then
          some (9 : Int)
        else some (0 : Int)
      else some (2 : Int)
    else some (2 : Int)
  else some (2 : Int)
theorem trEvE_eq (F : FnT) (p0_0 : Int) (p0_1 : Int) (p0_2 : Int) : semF (callP F ErEvE 20) s51 (loopT []) 400 a51 [PV.agg [PV.int .i64 p0_0, PV.int .i64 p0_1, PV.int .i64 p0_2]] (fun rv => decR (RSh.one (CK.int .i64)) rv.pv) = trEvE F p0_0 p0_1 p0_2 := by kernel_rfl
noncomputable abbrev FrEvE (args : List PV) := Fn env 51 (RSh.one (CK.int .i64)) args
theorem FrEvE_of  (p0_0 : Int) (p0_1 : Int) (p0_2 : Int) {res : (Int)} (h : trEvE (Fn env) p0_0 p0_1 p0_2 = some res) : FrEvE [PV.agg [PV.int .i64 p0_0, PV.int .i64 p0_1, PV.int .i64 p0_2]] = some res :=
  fn_of ErEvE_ok rfl rfl lo_nil ((trEvE_eq _ _ _ _).trans h)
def ErCalm : List Entry := []
theorem ErCalm_ok : ∀ e ∈ ErCalm, EntOK env e := ent_nil
def trCalm (_F : FnT) (_p0_0 : Bool) (p0_1 : Int) (_p0_2 : Int) (p0_3 : Int) (_p0_4 : Int) : Option ((Bool) × ((Int) × ((Int) × ((Int) × (Int))))) :=
  some (false, (p0_1, ((0 : Int), (p0_3, (-1 : Int)))))
theorem trCalm_eq (F : FnT) (p0_0 : Bool) (p0_1 : Int) (p0_2 : Int) (p0_3 : Int) (p0_4 : Int) : semF (callP F ErCalm 20) s102 (loopT []) 400 a102 [PV.agg [PV.bool p0_0, PV.int .i64 p0_1, PV.int .i64 p0_2, PV.int .i64 p0_3, PV.int .i64 p0_4]] (fun rv => decR (RSh.agg [CK.bool, (CK.int .i64), (CK.int .i64), (CK.int .i64), (CK.int .i64)]) rv.pv) = trCalm F p0_0 p0_1 p0_2 p0_3 p0_4 := by kernel_rfl
noncomputable abbrev FrCalm (args : List PV) := Fn env 102 (RSh.agg [CK.bool, (CK.int .i64), (CK.int .i64), (CK.int .i64), (CK.int .i64)]) args
theorem FrCalm_of  (p0_0 : Bool) (p0_1 : Int) (p0_2 : Int) (p0_3 : Int) (p0_4 : Int) {res : ((Bool) × ((Int) × ((Int) × ((Int) × (Int)))))} (h : trCalm (Fn env) p0_0 p0_1 p0_2 p0_3 p0_4 = some res) : FrCalm [PV.agg [PV.bool p0_0, PV.int .i64 p0_1, PV.int .i64 p0_2, PV.int .i64 p0_3, PV.int .i64 p0_4]] = some res :=
  fn_of ErCalm_ok rfl rfl lo_nil ((trCalm_eq _ _ _ _ _ _).trans h)
def ErExp : List Entry := [.out 102 (RSh.agg [CK.bool, (CK.int .i64), (CK.int .i64), (CK.int .i64), (CK.int .i64)])]
theorem ErExp_ok : ∀ e ∈ ErExp, EntOK env e := (ent_out ent_nil)
def trExp (F : FnT) (_p0_0 : Int) (_p0_1 : Int) (_p0_2 : Int) (p0_3 : Int) (p1_0 : Bool) (p1_1 : Int) (p1_2 : Int) (p1_3 : Int) (p1_4 : Int) (p2 : Int) : Option ((Bool) × ((Int) × ((Int) × ((Int) × (Int))))) :=
  bif p1_0 then
    bif (decide ((w64 (p2 - p1_3)) > p0_3)) then
      bif p1_0 then
        bindO (F 102 (RSh.agg [CK.bool, (CK.int .i64), (CK.int .i64), (CK.int .i64), (CK.int .i64)]) [(PV.agg [(PV.bool true), (PV.int .i64 p1_1), (PV.int .i64 p1_2), (PV.int .i64 p1_3), (PV.int .i64 p1_4)])]) fun (y0 : ((Bool) × ((Int) × ((Int) × ((Int) × (Int)))))) =>
        some (y0.1, (y0.2.1, (y0.2.2.1, (y0.2.2.2.1, y0.2.2.2.2))))
      else bindO (F 102 (RSh.agg [CK.bool, (CK.int .i64), (CK.int .i64), (CK.int .i64), (CK.int .i64)]) [(PV.agg [(PV.bool false), (PV.int .i64 p1_1), (PV.int .i64 p1_2), (PV.int .i64 p1_3), (PV.int .i64 p1_4)])]) fun (y1 : ((Bool) × ((Int) × ((Int) × ((Int) × (Int)))))) =>
      some (y1.1, (y1.2.1, (y1.2.2.1, (y1.2.2.2.1, y1.2.2.2.2))))
    else bif p1_0 then
      some (true, (p1_1, (p1_2, (p1_3, p1_4))))
    else some (false, (p1_1, (p1_2, (p1_3, p1_4))))
  else bif p1_0 then
    some (true, (p1_1, (p1_2, (p1_3, p1_4))))
  else some (false, (p1_1, (p1_2, (p1_3, p1_4))))
theorem trExp_eq (F : FnT) (p0_0 : Int) (p0_1 : Int) (p0_2 : Int) (p0_3 : Int) (p1_0 : Bool) (p1_1 : Int) (p1_2 : Int) (p1_3 : Int) (p1_4 : Int) (p2 : Int) : semF (callP F ErExp 20) s101 (loopT []) 400 a101 [PV.agg [PV.int .i64 p0_0, PV.int .i64 p0_1, PV.int .i64 p0_2, PV.int .i64 p0_3], PV.agg [PV.bool p1_0, PV.int .i64 p1_1, PV.int .i64 p1_2, PV.int .i64 p1_3, PV.int .i64 p1_4], PV.int .i64 p2] (fun rv => decR (RSh.agg [CK.bool, (CK.int .i64), (CK.int .i64), (CK.int .i64), (CK.int .i64)]) rv.pv) = trExp F p0_0 p0_1 p0_2 p0_3 p1_0 p1_1 p1_2 p1_3 p1_4 p2 := by kernel_rfl
noncomputable abbrev FrExp (args : List PV) := Fn env 101 (RSh.agg [CK.bool, (CK.int .i64), (CK.int .i64), (CK.int .i64), (CK.int .i64)]) args
theorem FrExp_of  (p0_0 : Int) (p0_1 : Int) (p0_2 : Int) (p0_3 : Int) (p1_0 : Bool) (p1_1 : Int) (p1_2 : Int) (p1_3 : Int) (p1_4 : Int) (p2 : Int) {res : ((Bool) × ((Int) × ((Int) × ((Int) × (Int)))))} (h : trExp (Fn env) p0_0 p0_1 p0_2 p0_3 p1_0 p1_1 p1_2 p1_3 p1_4 p2 = some res) : FrExp [PV.agg [PV.int .i64 p0_0, PV.int .i64 p0_1, PV.int .i64 p0_2, PV.int .i64 p0_3], PV.agg [PV.bool p1_0, PV.int .i64 p1_1, PV.int .i64 p1_2, PV.int .i64 p1_3, PV.int .i64 p1_4], PV.int .i64 p2] = some res :=
  fn_of ErExp_ok rfl rfl lo_nil ((trExp_eq _ _ _ _ _ _ _ _ _ _ _).trans h)
def ErNext : List Entry := [.out 101 (RSh.agg [CK.bool, (CK.int .i64), (CK.int .i64), (CK.int .i64), (CK.int .i64)]), .out 102 (RSh.agg [CK.bool, (CK.int .i64), (CK.int .i64), (CK.int .i64), (CK.int .i64)])]
theorem ErNext_ok : ∀ e ∈ ErNext, EntOK env e := (ent_out (ent_out ent_nil))
def trNext (F : FnT) (p0_0 : Int) (p0_1 : Int) (p0_2 : Int) (p0_3 : Int) (p1_0 : Bool) (p1_1 : Int) (p1_2 : Int) (p1_3 : Int) (p1_4 : Int) (p2_0 : Int) (p2_1 : Int) (p2_2 : Int) : Option ((Bool) × ((Int) × ((Int) × ((Int) × ((Int) × (Int)))))) :=
  bif (decide (p2_0 ≤ p1_3)) then
    some (false, ((0 : Int), ((0 : Int), ((0 : Int), ((0 : Int), (9 : Int))))))
  else bif p1_0 then
    bindO (F 101 (RSh.agg [CK.bool, (CK.int .i64), (CK.int .i64), (CK.int .i64), (CK.int .i64)]) [(PV.agg [(PV.int .i64 p0_0), (PV.int .i64 p0_1), (PV.int .i64 p0_2), (PV.int .i64 p0_3)]), (PV.agg [(PV.bool true), (PV.int .i64 p1_1), (PV.int .i64 p1_2), (PV.int .i64 p1_3), (PV.int .i64 p1_4)]), (PV.int .i64 p2_0)]) fun (y0 : ((Bool) × ((Int) × ((Int) × ((Int) × (Int)))))) =>
    bif y0.1 then
      bif (decide (p2_2 < p0_1)) then
        bif (y0.2.2.2.2 == (-1 : Int)) then
          bif (decide ((w64 (p2_0 - p2_0)) ≥ p0_2)) then
            bif y0.1 then
              bindO (F 102 (RSh.agg [CK.bool, (CK.int .i64), (CK.int .i64), (CK.int .i64), (CK.int .i64)]) [(PV.agg [(PV.bool true), (PV.int .i64 y0.2.1), (PV.int .i64 y0.2.2.1), (PV.int .i64 y0.2.2.2.1), (PV.int .i64 p2_0)])]) fun (y1 : ((Bool) × ((Int) × ((Int) × ((Int) × (Int)))))) =>
              bif y1.1 then
                bif y1.1 then
                  some (true, (y1.2.1, (y1.2.2.1, (p2_0, (y1.2.2.2.2, (0 : Int))))))
                else some (false, (y1.2.1, (y1.2.2.1, (p2_0, (y1.2.2.2.2, (0 : Int))))))
              else bif (decide (p2_1 ≥ p0_0)) then
                bif (y1.2.1 == (62500 : Int)) then
                  some (false, ((0 : Int), ((0 : Int), ((0 : Int), ((0 : Int), (15 : Int))))))
                else some (true, ((w64 (y1.2.1 + (1 : Int))), (p2_0, (p2_0, (y1.2.2.2.2, (0 : Int))))))
              else bif y1.1 then
                some (true, (y1.2.1, (y1.2.2.1, (p2_0, (y1.2.2.2.2, (0 : Int))))))
              else some (false, (y1.2.1, (y1.2.2.1, (p2_0, (y1.2.2.2.2, (0 : Int))))))
            else bindO (F 102 (RSh.agg [CK.bool, (CK.int .i64), (CK.int .i64), (CK.int .i64), (CK.int .i64)]) [(PV.agg [(PV.bool false), (PV.int .i64 y0.2.1), (PV.int .i64 y0.2.2.1), (PV.int .i64 y0.2.2.2.1), (PV.int .i64 p2_0)])]) fun (y2 : ((Bool) × ((Int) × ((Int) × ((Int) × (Int)))))) =>
            bif y2.1 then
              bif y2.1 then
                some (true, (y2.2.1, (y2.2.2.1, (p2_0, (y2.2.2.2.2, (0 : Int))))))
              else some (false, (y2.2.1, (y2.2.2.1, (p2_0, (y2.2.2.2.2, (0 : Int))))))
            else bif (decide (p2_1 ≥ p0_0)) then
              bif (y2.2.1 == (62500 : Int)) then
                some (false, ((0 : Int), ((0 : Int), ((0 : Int), ((0 : Int), (15 : Int))))))
              else some (true, ((w64 (y2.2.1 + (1 : Int))), (p2_0, (p2_0, (y2.2.2.2.2, (0 : Int))))))
            else bif y2.1 then
              some (true, (y2.2.1, (y2.2.2.1, (p2_0, (y2.2.2.2.2, (0 : Int))))))
            else some (false, (y2.2.1, (y2.2.2.1, (p2_0, (y2.2.2.2.2, (0 : Int))))))
          else bif y0.1 then
            bif y0.1 then
              some (true, (y0.2.1, (y0.2.2.1, (p2_0, (p2_0, (0 : Int))))))
            else some (false, (y0.2.1, (y0.2.2.1, (p2_0, (p2_0, (0 : Int))))))
          else bif (decide (p2_1 ≥ p0_0)) then
            bif (y0.2.1 == (62500 : Int)) then
              some (false, ((0 : Int), ((0 : Int), ((0 : Int), ((0 : Int), (15 : Int))))))
            else some (true, ((w64 (y0.2.1 + (1 : Int))), (p2_0, (p2_0, (p2_0, (0 : Int))))))
          else bif y0.1 then
            some (true, (y0.2.1, (y0.2.2.1, (p2_0, (p2_0, (0 : Int))))))
          else some (false, (y0.2.1, (y0.2.2.1, (p2_0, (p2_0, (0 : Int))))))
        else bif (decide ((w64 (p2_0 - y0.2.2.2.2)) ≥ p0_2)) then
          bif y0.1 then
            bindO (F 102 (RSh.agg [CK.bool, (CK.int .i64), (CK.int .i64), (CK.int .i64), (CK.int .i64)]) [(PV.agg [(PV.bool true), (PV.int .i64 y0.2.1), (PV.int .i64 y0.2.2.1), (PV.int .i64 y0.2.2.2.1), (PV.int .i64 y0.2.2.2.2)])]) fun (y3 : ((Bool) × ((Int) × ((Int) × ((Int) × (Int)))))) =>
            bif y3.1 then
              bif y3.1 then
                some (true, (y3.2.1, (y3.2.2.1, (p2_0, (y3.2.2.2.2, (0 : Int))))))
              else some (false, (y3.2.1, (y3.2.2.1, (p2_0, (y3.2.2.2.2, (0 : Int))))))
            else bif (decide (p2_1 ≥ p0_0)) then
              bif (y3.2.1 == (62500 : Int)) then
                some (false, ((0 : Int), ((0 : Int), ((0 : Int), ((0 : Int), (15 : Int))))))
              else some (true, ((w64 (y3.2.1 + (1 : Int))), (p2_0, (p2_0, (y3.2.2.2.2, (0 : Int))))))
            else bif y3.1 then
              some (true, (y3.2.1, (y3.2.2.1, (p2_0, (y3.2.2.2.2, (0 : Int))))))
            else some (false, (y3.2.1, (y3.2.2.1, (p2_0, (y3.2.2.2.2, (0 : Int))))))
          else bindO (F 102 (RSh.agg [CK.bool, (CK.int .i64), (CK.int .i64), (CK.int .i64), (CK.int .i64)]) [(PV.agg [(PV.bool false), (PV.int .i64 y0.2.1), (PV.int .i64 y0.2.2.1), (PV.int .i64 y0.2.2.2.1), (PV.int .i64 y0.2.2.2.2)])]) fun (y4 : ((Bool) × ((Int) × ((Int) × ((Int) × (Int)))))) =>
          bif y4.1 then
            bif y4.1 then
              some (true, (y4.2.1, (y4.2.2.1, (p2_0, (y4.2.2.2.2, (0 : Int))))))
            else some (false, (y4.2.1, (y4.2.2.1, (p2_0, (y4.2.2.2.2, (0 : Int))))))
          else bif (decide (p2_1 ≥ p0_0)) then
            bif (y4.2.1 == (62500 : Int)) then
              some (false, ((0 : Int), ((0 : Int), ((0 : Int), ((0 : Int), (15 : Int))))))
            else some (true, ((w64 (y4.2.1 + (1 : Int))), (p2_0, (p2_0, (y4.2.2.2.2, (0 : Int))))))
          else bif y4.1 then
            some (true, (y4.2.1, (y4.2.2.1, (p2_0, (y4.2.2.2.2, (0 : Int))))))
          else some (false, (y4.2.1, (y4.2.2.1, (p2_0, (y4.2.2.2.2, (0 : Int))))))
        else bif y0.1 then
          bif y0.1 then
            some (true, (y0.2.1, (y0.2.2.1, (p2_0, (y0.2.2.2.2, (0 : Int))))))
          else some (false, (y0.2.1, (y0.2.2.1, (p2_0, (y0.2.2.2.2, (0 : Int))))))
        else bif (decide (p2_1 ≥ p0_0)) then
          bif (y0.2.1 == (62500 : Int)) then
            some (false, ((0 : Int), ((0 : Int), ((0 : Int), ((0 : Int), (15 : Int))))))
          else some (true, ((w64 (y0.2.1 + (1 : Int))), (p2_0, (p2_0, (y0.2.2.2.2, (0 : Int))))))
        else bif y0.1 then
          some (true, (y0.2.1, (y0.2.2.1, (p2_0, (y0.2.2.2.2, (0 : Int))))))
        else some (false, (y0.2.1, (y0.2.2.1, (p2_0, (y0.2.2.2.2, (0 : Int))))))
      else bif y0.1 then
        bif y0.1 then
          bif y0.1 then
            some (true, (y0.2.1, (y0.2.2.1, (p2_0, ((-1 : Int), (0 : Int))))))
          else some (false, (y0.2.1, (y0.2.2.1, (p2_0, ((-1 : Int), (0 : Int))))))
        else bif (decide (p2_1 ≥ p0_0)) then
          bif (y0.2.1 == (62500 : Int)) then
            some (false, ((0 : Int), ((0 : Int), ((0 : Int), ((0 : Int), (15 : Int))))))
          else some (true, ((w64 (y0.2.1 + (1 : Int))), (p2_0, (p2_0, ((-1 : Int), (0 : Int))))))
        else bif y0.1 then
          some (true, (y0.2.1, (y0.2.2.1, (p2_0, ((-1 : Int), (0 : Int))))))
        else some (false, (y0.2.1, (y0.2.2.1, (p2_0, ((-1 : Int), (0 : Int))))))
      else bif y0.1 then
        bif y0.1 then
          some (true, (y0.2.1, (y0.2.2.1, (p2_0, (y0.2.2.2.2, (0 : Int))))))
        else some (false, (y0.2.1, (y0.2.2.1, (p2_0, (y0.2.2.2.2, (0 : Int))))))
      else bif (decide (p2_1 ≥ p0_0)) then
        bif (y0.2.1 == (62500 : Int)) then
          some (false, ((0 : Int), ((0 : Int), ((0 : Int), ((0 : Int), (15 : Int))))))
        else some (true, ((w64 (y0.2.1 + (1 : Int))), (p2_0, (p2_0, (y0.2.2.2.2, (0 : Int))))))
      else bif y0.1 then
        some (true, (y0.2.1, (y0.2.2.1, (p2_0, (y0.2.2.2.2, (0 : Int))))))
      else some (false, (y0.2.1, (y0.2.2.1, (p2_0, (y0.2.2.2.2, (0 : Int))))))
    else bif y0.1 then
      bif y0.1 then
        bif y0.1 then
          some (true, (y0.2.1, (y0.2.2.1, (p2_0, ((-1 : Int), (0 : Int))))))
        else some (false, (y0.2.1, (y0.2.2.1, (p2_0, ((-1 : Int), (0 : Int))))))
      else bif (decide (p2_1 ≥ p0_0)) then
        bif (y0.2.1 == (62500 : Int)) then
          some (false, ((0 : Int), ((0 : Int), ((0 : Int), ((0 : Int), (15 : Int))))))
        else some (true, ((w64 (y0.2.1 + (1 : Int))), (p2_0, (p2_0, ((-1 : Int), (0 : Int))))))
      else bif y0.1 then
        some (true, (y0.2.1, (y0.2.2.1, (p2_0, ((-1 : Int), (0 : Int))))))
      else some (false, (y0.2.1, (y0.2.2.1, (p2_0, ((-1 : Int), (0 : Int))))))
    else bif y0.1 then
      bif y0.1 then
        some (true, (y0.2.1, (y0.2.2.1, (p2_0, (y0.2.2.2.2, (0 : Int))))))
      else some (false, (y0.2.1, (y0.2.2.1, (p2_0, (y0.2.2.2.2, (0 : Int))))))
    else bif (decide (p2_1 ≥ p0_0)) then
      bif (y0.2.1 == (62500 : Int)) then
        some (false, ((0 : Int), ((0 : Int), ((0 : Int), ((0 : Int), (15 : Int))))))
      else some (true, ((w64 (y0.2.1 + (1 : Int))), (p2_0, (p2_0, (y0.2.2.2.2, (0 : Int))))))
    else bif y0.1 then
      some (true, (y0.2.1, (y0.2.2.1, (p2_0, (y0.2.2.2.2, (0 : Int))))))
    else some (false, (y0.2.1, (y0.2.2.1, (p2_0, (y0.2.2.2.2, (0 : Int))))))
  else bindO (F 101 (RSh.agg [CK.bool, (CK.int .i64), (CK.int .i64), (CK.int .i64), (CK.int .i64)]) [(PV.agg [(PV.int .i64 p0_0), (PV.int .i64 p0_1), (PV.int .i64 p0_2), (PV.int .i64 p0_3)]), (PV.agg [(PV.bool false), (PV.int .i64 p1_1), (PV.int .i64 p1_2), (PV.int .i64 p1_3), (PV.int .i64 p1_4)]), (PV.int .i64 p2_0)]) fun (y5 : ((Bool) × ((Int) × ((Int) × ((Int) × (Int)))))) =>
  bif y5.1 then
    bif (decide (p2_2 < p0_1)) then
      bif (y5.2.2.2.2 == (-1 : Int)) then
        bif (decide ((w64 (p2_0 - p2_0)) ≥ p0_2)) then
          bif y5.1 then
            bindO (F 102 (RSh.agg [CK.bool, (CK.int .i64), (CK.int .i64), (CK.int .i64), (CK.int .i64)]) [(PV.agg [(PV.bool true), (PV.int .i64 y5.2.1), (PV.int .i64 y5.2.2.1), (PV.int .i64 y5.2.2.2.1), (PV.int .i64 p2_0)])]) fun (y6 : ((Bool) × ((Int) × ((Int) × ((Int) × (Int)))))) =>
            bif y6.1 then
              bif y6.1 then
                some (true, (y6.2.1, (y6.2.2.1, (p2_0, (y6.2.2.2.2, (0 : Int))))))
              else some (false, (y6.2.1, (y6.2.2.1, (p2_0, (y6.2.2.2.2, (0 : Int))))))
            else bif (decide (p2_1 ≥ p0_0)) then
              bif (y6.2.1 == (62500 : Int)) then
                some (false, ((0 : Int), ((0 : Int), ((0 : Int), ((0 : Int), (15 : Int))))))
              else some (true, ((w64 (y6.2.1 + (1 : Int))), (p2_0, (p2_0, (y6.2.2.2.2, (0 : Int))))))
            else bif y6.1 then
              some (true, (y6.2.1, (y6.2.2.1, (p2_0, (y6.2.2.2.2, (0 : Int))))))
            else some (false, (y6.2.1, (y6.2.2.1, (p2_0, (y6.2.2.2.2, (0 : Int))))))
          else bindO (F 102 (RSh.agg [CK.bool, (CK.int .i64), (CK.int .i64), (CK.int .i64), (CK.int .i64)]) [(PV.agg [(PV.bool false), (PV.int .i64 y5.2.1), (PV.int .i64 y5.2.2.1), (PV.int .i64 y5.2.2.2.1), (PV.int .i64 p2_0)])]) fun (y7 : ((Bool) × ((Int) × ((Int) × ((Int) × (Int)))))) =>
          bif y7.1 then
            bif y7.1 then
              some (true, (y7.2.1, (y7.2.2.1, (p2_0, (y7.2.2.2.2, (0 : Int))))))
            else some (false, (y7.2.1, (y7.2.2.1, (p2_0, (y7.2.2.2.2, (0 : Int))))))
          else bif (decide (p2_1 ≥ p0_0)) then
            bif (y7.2.1 == (62500 : Int)) then
              some (false, ((0 : Int), ((0 : Int), ((0 : Int), ((0 : Int), (15 : Int))))))
            else some (true, ((w64 (y7.2.1 + (1 : Int))), (p2_0, (p2_0, (y7.2.2.2.2, (0 : Int))))))
          else bif y7.1 then
            some (true, (y7.2.1, (y7.2.2.1, (p2_0, (y7.2.2.2.2, (0 : Int))))))
          else some (false, (y7.2.1, (y7.2.2.1, (p2_0, (y7.2.2.2.2, (0 : Int))))))
        else bif y5.1 then
          bif y5.1 then
            some (true, (y5.2.1, (y5.2.2.1, (p2_0, (p2_0, (0 : Int))))))
          else some (false, (y5.2.1, (y5.2.2.1, (p2_0, (p2_0, (0 : Int))))))
        else bif (decide (p2_1 ≥ p0_0)) then
          bif (y5.2.1 == (62500 : Int)) then
            some (false, ((0 : Int), ((0 : Int), ((0 : Int), ((0 : Int), (15 : Int))))))
          else some (true, ((w64 (y5.2.1 + (1 : Int))), (p2_0, (p2_0, (p2_0, (0 : Int))))))
        else bif y5.1 then
          some (true, (y5.2.1, (y5.2.2.1, (p2_0, (p2_0, (0 : Int))))))
        else some (false, (y5.2.1, (y5.2.2.1, (p2_0, (p2_0, (0 : Int))))))
      else bif (decide ((w64 (p2_0 - y5.2.2.2.2)) ≥ p0_2)) then
        bif y5.1 then
          bindO (F 102 (RSh.agg [CK.bool, (CK.int .i64), (CK.int .i64), (CK.int .i64), (CK.int .i64)]) [(PV.agg [(PV.bool true), (PV.int .i64 y5.2.1), (PV.int .i64 y5.2.2.1), (PV.int .i64 y5.2.2.2.1), (PV.int .i64 y5.2.2.2.2)])]) fun (y8 : ((Bool) × ((Int) × ((Int) × ((Int) × (Int)))))) =>
          bif y8.1 then
            bif y8.1 then
              some (true, (y8.2.1, (y8.2.2.1, (p2_0, (y8.2.2.2.2, (0 : Int))))))
            else some (false, (y8.2.1, (y8.2.2.1, (p2_0, (y8.2.2.2.2, (0 : Int))))))
          else bif (decide (p2_1 ≥ p0_0)) then
            bif (y8.2.1 == (62500 : Int)) then
              some (false, ((0 : Int), ((0 : Int), ((0 : Int), ((0 : Int), (15 : Int))))))
            else some (true, ((w64 (y8.2.1 + (1 : Int))), (p2_0, (p2_0, (y8.2.2.2.2, (0 : Int))))))
          else bif y8.1 then
            some (true, (y8.2.1, (y8.2.2.1, (p2_0, (y8.2.2.2.2, (0 : Int))))))
          else some (false, (y8.2.1, (y8.2.2.1, (p2_0, (y8.2.2.2.2, (0 : Int))))))
        else bindO (F 102 (RSh.agg [CK.bool, (CK.int .i64), (CK.int .i64), (CK.int .i64), (CK.int .i64)]) [(PV.agg [(PV.bool false), (PV.int .i64 y5.2.1), (PV.int .i64 y5.2.2.1), (PV.int .i64 y5.2.2.2.1), (PV.int .i64 y5.2.2.2.2)])]) fun (y9 : ((Bool) × ((Int) × ((Int) × ((Int) × (Int)))))) =>
        bif y9.1 then
          bif y9.1 then
            some (true, (y9.2.1, (y9.2.2.1, (p2_0, (y9.2.2.2.2, (0 : Int))))))
          else some (false, (y9.2.1, (y9.2.2.1, (p2_0, (y9.2.2.2.2, (0 : Int))))))
        else bif (decide (p2_1 ≥ p0_0)) then
          bif (y9.2.1 == (62500 : Int)) then
            some (false, ((0 : Int), ((0 : Int), ((0 : Int), ((0 : Int), (15 : Int))))))
          else some (true, ((w64 (y9.2.1 + (1 : Int))), (p2_0, (p2_0, (y9.2.2.2.2, (0 : Int))))))
        else bif y9.1 then
          some (true, (y9.2.1, (y9.2.2.1, (p2_0, (y9.2.2.2.2, (0 : Int))))))
        else some (false, (y9.2.1, (y9.2.2.1, (p2_0, (y9.2.2.2.2, (0 : Int))))))
      else bif y5.1 then
        bif y5.1 then
          some (true, (y5.2.1, (y5.2.2.1, (p2_0, (y5.2.2.2.2, (0 : Int))))))
        else some (false, (y5.2.1, (y5.2.2.1, (p2_0, (y5.2.2.2.2, (0 : Int))))))
      else bif (decide (p2_1 ≥ p0_0)) then
        bif (y5.2.1 == (62500 : Int)) then
          some (false, ((0 : Int), ((0 : Int), ((0 : Int), ((0 : Int), (15 : Int))))))
        else some (true, ((w64 (y5.2.1 + (1 : Int))), (p2_0, (p2_0, (y5.2.2.2.2, (0 : Int))))))
      else bif y5.1 then
        some (true, (y5.2.1, (y5.2.2.1, (p2_0, (y5.2.2.2.2, (0 : Int))))))
      else some (false, (y5.2.1, (y5.2.2.1, (p2_0, (y5.2.2.2.2, (0 : Int))))))
    else bif y5.1 then
      bif y5.1 then
        bif y5.1 then
          some (true, (y5.2.1, (y5.2.2.1, (p2_0, ((-1 : Int), (0 : Int))))))
        else some (false, (y5.2.1, (y5.2.2.1, (p2_0, ((-1 : Int), (0 : Int))))))
      else bif (decide (p2_1 ≥ p0_0)) then
        bif (y5.2.1 == (62500 : Int)) then
          some (false, ((0 : Int), ((0 : Int), ((0 : Int), ((0 : Int), (15 : Int))))))
        else some (true, ((w64 (y5.2.1 + (1 : Int))), (p2_0, (p2_0, ((-1 : Int), (0 : Int))))))
      else bif y5.1 then
        some (true, (y5.2.1, (y5.2.2.1, (p2_0, ((-1 : Int), (0 : Int))))))
      else some (false, (y5.2.1, (y5.2.2.1, (p2_0, ((-1 : Int), (0 : Int))))))
    else bif y5.1 then
      bif y5.1 then
        some (true, (y5.2.1, (y5.2.2.1, (p2_0, (y5.2.2.2.2, (0 : Int))))))
      else some (false, (y5.2.1, (y5.2.2.1, (p2_0, (y5.2.2.2.2, (0 : Int))))))
    else bif (decide (p2_1 ≥ p0_0)) then
      bif (y5.2.1 == (62500 : Int)) then
        some (false, ((0 : Int), ((0 : Int), ((0 : Int), ((0 : Int), (15 : Int))))))
      else some (true, ((w64 (y5.2.1 + (1 : Int))), (p2_0, (p2_0, (y5.2.2.2.2, (0 : Int))))))
    else bif y5.1 then
      some (true, (y5.2.1, (y5.2.2.1, (p2_0, (y5.2.2.2.2, (0 : Int))))))
    else some (false, (y5.2.1, (y5.2.2.1, (p2_0, (y5.2.2.2.2, (0 : Int))))))
  else bif y5.1 then
    bif y5.1 then
      bif y5.1 then
        some (true, (y5.2.1, (y5.2.2.1, (p2_0, ((-1 : Int), (0 : Int))))))
      else some (false, (y5.2.1, (y5.2.2.1, (p2_0, ((-1 : Int), (0 : Int))))))
    else bif (decide (p2_1 ≥ p0_0)) then
      bif (y5.2.1 == (62500 : Int)) then
        some (false, ((0 : Int), ((0 : Int), ((0 : Int), ((0 : Int), (15 : Int))))))
      else some (true, ((w64 (y5.2.1 + (1 : Int))), (p2_0, (p2_0, ((-1 : Int), (0 : Int))))))
    else bif y5.1 then
      some (true, (y5.2.1, (y5.2.2.1, (p2_0, ((-1 : Int), (0 : Int))))))
    else some (false, (y5.2.1, (y5.2.2.1, (p2_0, ((-1 : Int), (0 : Int))))))
  else bif y5.1 then
    bif y5.1 then
      some (true, (y5.2.1, (y5.2.2.1, (p2_0, (y5.2.2.2.2, (0 : Int))))))
    else some (false, (y5.2.1, (y5.2.2.1, (p2_0, (y5.2.2.2.2, (0 : Int))))))
  else bif (decide (p2_1 ≥ p0_0)) then
    bif (y5.2.1 == (62500 : Int)) then
      some (false, ((0 : Int), ((0 : Int), ((0 : Int), ((0 : Int), (15 : Int))))))
    else some (true, ((w64 (y5.2.1 + (1 : Int))), (p2_0, (p2_0, (y5.2.2.2.2, (0 : Int))))))
  else bif y5.1 then
    some (true, (y5.2.1, (y5.2.2.1, (p2_0, (y5.2.2.2.2, (0 : Int))))))
  else some (false, (y5.2.1, (y5.2.2.1, (p2_0, (y5.2.2.2.2, (0 : Int))))))
theorem trNext_eq (F : FnT) (p0_0 : Int) (p0_1 : Int) (p0_2 : Int) (p0_3 : Int) (p1_0 : Bool) (p1_1 : Int) (p1_2 : Int) (p1_3 : Int) (p1_4 : Int) (p2_0 : Int) (p2_1 : Int) (p2_2 : Int) : semF (callP F ErNext 20) s52 (loopT []) 400 a52 [PV.agg [PV.int .i64 p0_0, PV.int .i64 p0_1, PV.int .i64 p0_2, PV.int .i64 p0_3], PV.agg [PV.bool p1_0, PV.int .i64 p1_1, PV.int .i64 p1_2, PV.int .i64 p1_3, PV.int .i64 p1_4], PV.agg [PV.int .i64 p2_0, PV.int .i64 p2_1, PV.int .i64 p2_2]] (fun rv => decR (RSh.tup [(Prod.mk true [CK.bool, (CK.int .i64), (CK.int .i64), (CK.int .i64), (CK.int .i64)]), (Prod.mk false [(CK.int .i64)])]) rv.pv) = trNext F p0_0 p0_1 p0_2 p0_3 p1_0 p1_1 p1_2 p1_3 p1_4 p2_0 p2_1 p2_2 := by kernel_rfl
noncomputable abbrev FrNext (args : List PV) := Fn env 52 (RSh.tup [(Prod.mk true [CK.bool, (CK.int .i64), (CK.int .i64), (CK.int .i64), (CK.int .i64)]), (Prod.mk false [(CK.int .i64)])]) args
theorem FrNext_of  (p0_0 : Int) (p0_1 : Int) (p0_2 : Int) (p0_3 : Int) (p1_0 : Bool) (p1_1 : Int) (p1_2 : Int) (p1_3 : Int) (p1_4 : Int) (p2_0 : Int) (p2_1 : Int) (p2_2 : Int) {res : ((Bool) × ((Int) × ((Int) × ((Int) × ((Int) × (Int))))))} (h : trNext (Fn env) p0_0 p0_1 p0_2 p0_3 p1_0 p1_1 p1_2 p1_3 p1_4 p2_0 p2_1 p2_2 = some res) : FrNext [PV.agg [PV.int .i64 p0_0, PV.int .i64 p0_1, PV.int .i64 p0_2, PV.int .i64 p0_3], PV.agg [PV.bool p1_0, PV.int .i64 p1_1, PV.int .i64 p1_2, PV.int .i64 p1_3, PV.int .i64 p1_4], PV.agg [PV.int .i64 p2_0, PV.int .i64 p2_1, PV.int .i64 p2_2]] = some res :=
  fn_of ErNext_ok rfl rfl lo_nil ((trNext_eq _ _ _ _ _ _ _ _ _ _ _ _ _).trans h)
end Gv
