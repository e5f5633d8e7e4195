/- What the functions do, round by round: P5. -/
import Derived.Test.YtggnifebabjoiaaGvEnv
namespace Gv
open Go
set_option maxRecDepth 100000
def EbWi : List Entry := []
theorem EbWi_ok : ∀ e ∈ EbWi, EntOK env e := ent_nil
def tbWi (_F : FnT) (p0 : Int) (p1 : Int) (p2 : Int) : Option (Bool) :=
  bif (decide (p1 ≤ p0)) then
    bif (decide (p0 ≤ p2)) then
      some true
    else some false
  else some false
theorem tbWi_eq (F : FnT) (p0 : Int) (p1 : Int) (p2 : Int) : semF (callP F EbWi 20) s29 (loopT []) 400 a29 [PV.int .i64 p0, PV.int .i64 p1, PV.int .i64 p2] (fun rv => decR (RSh.one CK.bool) rv.pv) = tbWi F p0 p1 p2 := by kernel_rfl
noncomputable abbrev FbWi (args : List PV) := Fn env 29 (RSh.one CK.bool) args
theorem FbWi_of  (p0 : Int) (p1 : Int) (p2 : Int) {res : (Bool)} (h : tbWi (Fn env) p0 p1 p2 = some res) : FbWi [PV.int .i64 p0, PV.int .i64 p1, PV.int .i64 p2] = some res :=
  fn_of EbWi_ok rfl rfl lo_nil ((tbWi_eq _ _ _ _).trans h)
def EbTick : List Entry := [.out 29 (RSh.one CK.bool)]
theorem EbTick_ok : ∀ e ∈ EbTick, EntOK env e := (ent_out ent_nil)
def tbTick (F : FnT) (p0 : Int) : Option (Bool) :=
  bindO (F 29 (RSh.one CK.bool) [(PV.int .i64 p0), (PV.int .i64 (0 : Int)), (PV.int .i64 (1000000000000 : Int))]) fun (y0 : (Bool)) =>
  bif y0 then
    some true
  else some false
theorem tbTick_eq (F : FnT) (p0 : Int) : semF (callP F EbTick 20) s61 (loopT []) 400 a61 [PV.int .i64 p0] (fun rv => decR (RSh.one CK.bool) rv.pv) = tbTick F p0 := by kernel_rfl
noncomputable abbrev FbTick (args : List PV) := Fn env 61 (RSh.one CK.bool) args
theorem FbTick_of  (p0 : Int) {res : (Bool)} (h : tbTick (Fn env) p0 = some res) : FbTick [PV.int .i64 p0] = some res :=
  fn_of EbTick_ok rfl rfl lo_nil ((tbTick_eq _ _).trans h)
def ErIsL : List Entry := [.out 29 (RSh.one CK.bool)]
theorem ErIsL_ok : ∀ e ∈ ErIsL, EntOK env e := (ent_out ent_nil)
def trIsL (F : FnT) (p0 : Int) : Option (Bool) :=
  bindO (F 29 (RSh.one CK.bool) [(PV.int .i64 p0), (PV.int .i64 (-20000 : Int)), (PV.int .i64 (20000 : Int))]) fun (y0 : (Bool)) =>
  bif y0 then
    some true
  else some false
theorem trIsL_eq (F : FnT) (p0 : Int) : semF (callP F ErIsL 20) s100 (loopT []) 400 a100 [PV.int .i64 p0] (fun rv => decR (RSh.one CK.bool) rv.pv) = trIsL F p0 := by kernel_rfl
noncomputable abbrev FrIsL (args : List PV) := Fn env 100 (RSh.one CK.bool) args
theorem FrIsL_of  (p0 : Int) {res : (Bool)} (h : trIsL (Fn env) p0 = some res) : FrIsL [PV.int .i64 p0] = some res :=
  fn_of ErIsL_ok rfl rfl lo_nil ((trIsL_eq _ _).trans h)
def ErRuE : List Entry := [.out 29 (RSh.one CK.bool)]
theorem ErRuE_ok : ∀ e ∈ ErRuE, EntOK env e := (ent_out ent_nil)
def trRuE (F : FnT) (p0_0 : Int) (p0_1 : Int) (p0_2 : Int) (p0_3 : Int) : Option (Int) :=
  bindO (F 29 (RSh.one CK.bool) [(PV.int .i64 p0_0), (PV.int .i64 (1 : Int)), (PV.int .i64 (20000 : Int))]) fun (y0 : (Bool)) =>
  bif y0 then
    bindO (F 29 (RSh.one CK.bool) [(PV.int .i64 p0_1), (PV.int .i64 (0 : Int)), (PV.int .i64 (20000 : Int))]) fun (y1 : (Bool)) =>
    bif y1 then
      bindO (F 29 (RSh.one CK.bool) [(PV.int .i64 p0_2), (PV.int .i64 (0 : Int)), (PV.int .i64 (100000 : Int))]) fun (y2 : (Bool)) =>
      bif y2 then
        bindO (F 29 (RSh.one CK.bool) [(PV.int .i64 p0_3), (PV.int .i64 (1 : Int)), (PV.int .i64 (100000 : Int))]) fun (y3 : (Bool)) =>
        bif y3 then
          bif (decide (p0_1 > p0_0)) then
            some (9 : Int)
          else some (0 : Int)
        else some (2 : Int)
      else some (2 : Int)
    else some (2 : Int)
  else some (2 : Int)
theorem trRuE_eq (F : FnT) (p0_0 : Int) (p0_1 : Int) (p0_2 : Int) (p0_3 : Int) : semF (callP F ErRuE 20) s48 (loopT []) 400 a48 [PV.agg [PV.int .i64 p0_0, PV.int .i64 p0_1, PV.int .i64 p0_2, PV.int .i64 p0_3]] (fun rv => decR (RSh.one (CK.int .i64)) rv.pv) = trRuE F p0_0 p0_1 p0_2 p0_3 := by kernel_rfl
noncomputable abbrev FrRuE (args : List PV) := Fn env 48 (RSh.one (CK.int .i64)) args
theorem FrRuE_of  (p0_0 : Int) (p0_1 : Int) (p0_2 : Int) (p0_3 : Int) {res : (Int)} (h : trRuE (Fn env) p0_0 p0_1 p0_2 p0_3 = some res) : FrRuE [PV.agg [PV.int .i64 p0_0, PV.int .i64 p0_1, PV.int .i64 p0_2, PV.int .i64 p0_3]] = some res :=
  fn_of ErRuE_ok rfl rfl lo_nil ((trRuE_eq _ _ _ _ _).trans h)
def ErEvE : List Entry := [.out 61 (RSh.one CK.bool), .out 100 (RSh.one CK.bool)]
theorem ErEvE_ok : ∀ e ∈ ErEvE, EntOK env e := (ent_out (ent_out ent_nil))
def trEvE (F : FnT) (p0_0 : Int) (p0_1 : Int) (p0_2 : Int) : Option (Int) :=
  bindO (F 61 (RSh.one CK.bool) [(PV.int .i64 p0_0)]) fun (y0 : (Bool)) =>
  bif y0 then
    bindO (F 100 (RSh.one CK.bool) [(PV.int .i64 p0_1)]) fun (y1 : (Bool)) =>
    bif y1 then
      bindO (F 100 (RSh.one CK.bool) [(PV.int .i64 p0_2)]) fun (y2 : (Bool)) =>
      bif y2 then
        bif (decide (p0_1 > p0_2)) then
          some (9 : Int)
        else some (0 : Int)
      else some (2 : Int)
    else some (2 : Int)
  else some (2 : Int)
theorem trEvE_eq (F : FnT) (p0_0 : Int) (p0_1 : Int) (p0_2 : Int) : semF (callP F ErEvE 20) s51 (loopT []) 400 a51 [PV.agg [PV.int .i64 p0_0, PV.int .i64 p0_1, PV.int .i64 p0_2]] (fun rv => decR (RSh.one (CK.int .i64)) rv.pv) = trEvE F p0_0 p0_1 p0_2 := by kernel_rfl
noncomputable abbrev FrEvE (args : List PV) := Fn env 51 (RSh.one (CK.int .i64)) args
theorem FrEvE_of  (p0_0 : Int) (p0_1 : Int) (p0_2 : Int) {res : (Int)} (h : trEvE (Fn env) p0_0 p0_1 p0_2 = some res) : FrEvE [PV.agg [PV.int .i64 p0_0, PV.int .i64 p0_1, PV.int .i64 p0_2]] = some res :=
  fn_of ErEvE_ok rfl rfl lo_nil ((trEvE_eq _ _ _ _).trans h)
def ErFst : List Entry := []
theorem ErFst_ok : ∀ e ∈ ErFst, EntOK env e := ent_nil
def trFst (_F : FnT) : Option ((Bool) × ((Int) × ((Int) × ((Int) × (Int))))) :=
  some (false, ((0 : Int), ((0 : Int), ((-1 : Int), (-1 : Int)))))
theorem trFst_eq (F : FnT) : semF (callP F ErFst 20) s108 (loopT []) 400 a108 [] (fun rv => decR (RSh.agg [CK.bool, (CK.int .i64), (CK.int .i64), (CK.int .i64), (CK.int .i64)]) rv.pv) = trFst F := by kernel_rfl
noncomputable abbrev FrFst (args : List PV) := Fn env 108 (RSh.agg [CK.bool, (CK.int .i64), (CK.int .i64), (CK.int .i64), (CK.int .i64)]) args
theorem FrFst_of  {res : ((Bool) × ((Int) × ((Int) × ((Int) × (Int)))))} (h : trFst (Fn env) = some res) : FrFst [] = some res :=
  fn_of ErFst_ok rfl rfl lo_nil ((trFst_eq _).trans h)
def ErCalm : List Entry := []
theorem ErCalm_ok : ∀ e ∈ ErCalm, EntOK env e := ent_nil
def trCalm (_F : FnT) (_p0_0 : Bool) (p0_1 : Int) (_p0_2 : Int) (p0_3 : Int) (_p0_4 : Int) : Option ((Bool) × ((Int) × ((Int) × ((Int) × (Int))))) :=
  some (false, (p0_1, ((0 : Int), (p0_3, (-1 : Int)))))
theorem trCalm_eq (F : FnT) (p0_0 : Bool) (p0_1 : Int) (p0_2 : Int) (p0_3 : Int) (p0_4 : Int) : semF (callP F ErCalm 20) s102 (loopT []) 400 a102 [PV.agg [PV.bool p0_0, PV.int .i64 p0_1, PV.int .i64 p0_2, PV.int .i64 p0_3, PV.int .i64 p0_4]] (fun rv => decR (RSh.agg [CK.bool, (CK.int .i64), (CK.int .i64), (CK.int .i64), (CK.int .i64)]) rv.pv) = trCalm F p0_0 p0_1 p0_2 p0_3 p0_4 := by kernel_rfl
noncomputable abbrev FrCalm (args : List PV) := Fn env 102 (RSh.agg [CK.bool, (CK.int .i64), (CK.int .i64), (CK.int .i64), (CK.int .i64)]) args
theorem FrCalm_of  (p0_0 : Bool) (p0_1 : Int) (p0_2 : Int) (p0_3 : Int) (p0_4 : Int) {res : ((Bool) × ((Int) × ((Int) × ((Int) × (Int)))))} (h : trCalm (Fn env) p0_0 p0_1 p0_2 p0_3 p0_4 = some res) : FrCalm [PV.agg [PV.bool p0_0, PV.int .i64 p0_1, PV.int .i64 p0_2, PV.int .i64 p0_3, PV.int .i64 p0_4]] = some res :=
  fn_of ErCalm_ok rfl rfl lo_nil ((trCalm_eq _ _ _ _ _ _).trans h)
def ErExp : List Entry := [.out 102 (RSh.agg [CK.bool, (CK.int .i64), (CK.int .i64), (CK.int .i64), (CK.int .i64)])]
theorem ErExp_ok : ∀ e ∈ ErExp, EntOK env e := (ent_out ent_nil)
def trExp (F : FnT) (_p0_0 : Int) (_p0_1 : Int) (_p0_2 : Int) (p0_3 : Int) (p1_0 : Bool) (p1_1 : Int) (p1_2 : Int) (p1_3 : Int) (p1_4 : Int) (p2 : Int) : Option ((Bool) × ((Int) × ((Int) × ((Int) × (Int))))) :=
  bif p1_0 then
    bif (decide ((w64 (p2 - p1_3)) > p0_3)) then
      bif p1_0 then
        bindO (F 102 (RSh.agg [CK.bool, (CK.int .i64), (CK.int .i64), (CK.int .i64), (CK.int .i64)]) [(PV.agg [(PV.bool true), (PV.int .i64 p1_1), (PV.int .i64 p1_2), (PV.int .i64 p1_3), (PV.int .i64 p1_4)])]) fun (y0 : ((Bool) × ((Int) × ((Int) × ((Int) × (Int)))))) =>
        some (y0.1, (y0.2.1, (y0.2.2.1, (y0.2.2.2.1, y0.2.2.2.2))))
      else bindO (F 102 (RSh.agg [CK.bool, (CK.int .i64), (CK.int .i64), (CK.int .i64), (CK.int .i64)]) [(PV.agg [(PV.bool false), (PV.int .i64 p1_1), (PV.int .i64 p1_2), (PV.int .i64 p1_3), (PV.int .i64 p1_4)])]) fun (y1 : ((Bool) × ((Int) × ((Int) × ((Int) × (Int)))))) =>
      some (y1.1, (y1.2.1, (y1.2.2.1, (y1.2.2.2.1, y1.2.2.2.2))))
    else bif p1_0 then
      some (true, (p1_1, (p1_2, (p1_3, p1_4))))
    else some (false, (p1_1, (p1_2, (p1_3, p1_4))))
  else bif p1_0 then
    some (true, (p1_1, (p1_2, (p1_3, p1_4))))
  else some (false, (p1_1, (p1_2, (p1_3, p1_4))))
theorem trExp_eq (F : FnT) (p0_0 : Int) (p0_1 : Int) (p0_2 : Int) (p0_3 : Int) (p1_0 : Bool) (p1_1 : Int) (p1_2 : Int) (p1_3 : Int) (p1_4 : Int) (p2 : Int) : semF (callP F ErExp 20) s101 (loopT []) 400 a101 [PV.agg [PV.int .i64 p0_0, PV.int .i64 p0_1, PV.int .i64 p0_2, PV.int .i64 p0_3], PV.agg [PV.bool p1_0, PV.int .i64 p1_1, PV.int .i64 p1_2, PV.int .i64 p1_3, PV.int .i64 p1_4], PV.int .i64 p2] (fun rv => decR (RSh.agg [CK.bool, (CK.int .i64), (CK.int .i64), (CK.int .i64), (CK.int .i64)]) rv.pv) = trExp F p0_0 p0_1 p0_2 p0_3 p1_0 p1_1 p1_2 p1_3 p1_4 p2 := by kernel_rfl
noncomputable abbrev FrExp (args : List PV) := Fn env 101 (RSh.agg [CK.bool, (CK.int .i64), (CK.int .i64), (CK.int .i64), (CK.int .i64)]) args
theorem FrExp_of  (p0_0 : Int) (p0_1 : Int) (p0_2 : Int) (p0_3 : Int) (p1_0 : Bool) (p1_1 : Int) (p1_2 : Int) (p1_3 : Int) (p1_4 : Int) (p2 : Int) {res : ((Bool) × ((Int) × ((Int) × ((Int) × (Int)))))} (h : trExp (Fn env) p0_0 p0_1 p0_2 p0_3 p1_0 p1_1 p1_2 p1_3 p1_4 p2 = some res) : FrExp [PV.agg [PV.int .i64 p0_0, PV.int .i64 p0_1, PV.int .i64 p0_2, PV.int .i64 p0_3], PV.agg [PV.bool p1_0, PV.int .i64 p1_1, PV.int .i64 p1_2, PV.int .i64 p1_3, PV.int .i64 p1_4], PV.int .i64 p2] = some res :=
  fn_of ErExp_ok rfl rfl lo_nil ((trExp_eq _ _ _ _ _ _ _ _ _ _ _).trans h)
def ErNext : List Entry := [.out 101 (RSh.agg [CK.bool, (CK.int .i64), (CK.int .i64), (CK.int .i64), (CK.int .i64)]), .out 102 (RSh.agg [CK.bool, (CK.int .i64), (CK.int .i64), (CK.int .i64), (CK.int .i64)])]
theorem ErNext_ok : ∀ e ∈ ErNext, EntOK env e := (ent_out (ent_out ent_nil))
def trNext (F : FnT) (p0_0 : Int) (p0_1 : Int) (p0_2 : Int) (p0_3 : Int) (p1_0 : Bool) (p1_1 : Int) (p1_2 : Int) (p1_3 : Int) (p1_4 : Int) (p2_0 : Int) (p2_1 : Int) (p2_2 : Int) : Option ((Bool) × ((Int) × ((Int) × ((Int) × ((Int) × (Int)))))) :=
  bif (decide (p2_0 ≤ p1_3)) then
    some (false, ((0 : Int), ((0 : Int), ((0 : Int), ((0 : Int), (9 : Int))))))
  else bif p1_0 then
    bindO (F 101 (RSh.agg [CK.bool, (CK.int .i64), (CK.int .i64), (CK.int .i64), (CK.int .i64)]) [(PV.agg [(PV.int .i64 p0_0), (PV.int .i64 p0_1), (PV.int .i64 p0_2), (PV.int .i64 p0_3)]), (PV.agg [(PV.bool true), (PV.int .i64 p1_1), (PV.int .i64 p1_2), (PV.int .i64 p1_3), (PV.int .i64 p1_4)]), (PV.int .i64 p2_0)]) fun (y0 : ((Bool) × ((Int) × ((Int) × ((Int) × (Int)))))) =>
    bif y0.1 then
      bif (decide (p2_2 < p0_1)) then
        bif (y0.2.2.2.2 == (-1 : Int)) then
          bif (decide ((w64 (p2_0 - p2_0)) ≥ p0_2)) then
            bif y0.1 then
              bindO (F 102 (RSh.agg [CK.bool, (CK.int .i64), (CK.int .i64), (CK.int .i64), (CK.int .i64)]) [(PV.agg [(PV.bool true), (PV.int .i64 y0.2.1), (PV.int .i64 y0.2.2.1), (PV.int .i64 y0.2.2.2.1), (PV.int .i64 p2_0)])]) fun (y1 : ((Bool) × ((Int) × ((Int) × ((Int) × (Int)))))) =>
              bif y1.1 then
                bif y1.1 then
                  some (true, (y1.2.1, (y1.2.2.1, (p2_0, (y1.2.2.2.2, (0 : Int))))))
                else some (false, (y1.2.1, (y1.2.2.1, (p2_0, (y1.2.2.2.2, (0 : Int))))))
              else bif (decide (p2_1 ≥ p0_0)) then
                bif (y1.2.1 == (62500 : Int)) then
                  some (false, ((0 : Int), ((0 : Int), ((0 : Int), ((0 : Int), (15 : Int))))))
                else some (true, ((w64 (y1.2.1 + (1 : Int))), (p2_0, (p2_0, (y1.2.2.2.2, (0 : Int))))))
              else bif y1.1 then
                some (true, (y1.2.1, (y1.2.2.1, (p2_0, (y1.2.2.2.2, (0 : Int))))))
              else some (false, (y1.2.1, (y1.2.2.1, (p2_0, (y1.2.2.2.2, (0 : Int))))))
            else bindO (F 102 (RSh.agg [CK.bool, (CK.int .i64), (CK.int .i64), (CK.int .i64), (CK.int .i64)]) [(PV.agg [(PV.bool false), (PV.int .i64 y0.2.1), (PV.int .i64 y0.2.2.1), (PV.int .i64 y0.2.2.2.1), (PV.int .i64 p2_0)])]) fun (y2 : ((Bool) × ((Int) × ((Int) × ((Int) × (Int)))))) =>
            bif y2.1 then
              bif y2.1 then
                some (true, (y2.2.1, (y2.2.2.1, (p2_0, (y2.2.2.2.2, (0 : Int))))))
              else some (false, (y2.2.1, (y2.2.2.1, (p2_0, (y2.2.2.2.2, (0 : Int))))))
            else bif (decide (p2_1 ≥ p0_0)) then
              bif (y2.2.1 == (62500 : Int)) then
                some (false, ((0 : Int), ((0 : Int), ((0 : Int), ((0 : Int), (15 : Int))))))
              else some (true, ((w64 (y2.2.1 + (1 : Int))), (p2_0, (p2_0, (y2.2.2.2.2, (0 : Int))))))
            else bif y2.1 then
              some (true, (y2.2.1, (y2.2.2.1, (p2_0, (y2.2.2.2.2, (0 : Int))))))
            else some (false, (y2.2.1, (y2.2.2.1, (p2_0, (y2.2.2.2.2, (0 : Int))))))
          else bif y0.1 then
            bif y0.1 then
              some (true, (y0.2.1, (y0.2.2.1, (p2_0, (p2_0, (0 : Int))))))
            else some (false, (y0.2.1, (y0.2.2.1, (p2_0, (p2_0, (0 : Int))))))
          else bif (decide (p2_1 ≥ p0_0)) then
            bif (y0.2.1 == (62500 : Int)) then
              some (false, ((0 : Int), ((0 : Int), ((0 : Int), ((0 : Int), (15 : Int))))))
            else some (true, ((w64 (y0.2.1 + (1 : Int))), (p2_0, (p2_0, (p2_0, (0 : Int))))))
          else bif y0.1 then
            some (true, (y0.2.1, (y0.2.2.1, (p2_0, (p2_0, (0 : Int))))))
          else some (false, (y0.2.1, (y0.2.2.1, (p2_0, (p2_0, (0 : Int))))))
        else bif (decide ((w64 (p2_0 - y0.2.2.2.2)) ≥ p0_2)) then
          bif y0.1 then
            bindO (F 102 (RSh.agg [CK.bool, (CK.int .i64), (CK.int .i64), (CK.int .i64), (CK.int .i64)]) [(PV.agg [(PV.bool true), (PV.int .i64 y0.2.1), (PV.int .i64 y0.2.2.1), (PV.int .i64 y0.2.2.2.1), (PV.int .i64 y0.2.2.2.2)])]) fun (y3 : ((Bool) × ((Int) × ((Int) × ((Int) × (Int)))))) =>
            bif y3.1 then
              bif y3.1 then
                some (true, (y3.2.1, (y3.2.2.1, (p2_0, (y3.2.2.2.2, (0 : Int))))))
              else some (false, (y3.2.1, (y3.2.2.1, (p2_0, (y3.2.2.2.2, (0 : Int))))))
            else bif (decide (p2_1 ≥ p0_0)) then
              bif (y3.2.1 == (62500 : Int)) then
                some (false, ((0 : Int), ((0 : Int), ((0 : Int), ((0 : Int), (15 : Int))))))
              else some (true, ((w64 (y3.2.1 + (1 : Int))), (p2_0, (p2_0, (y3.2.2.2.2, (0 : Int))))))
            else bif y3.1 then
              some (true, (y3.2.1, (y3.2.2.1, (p2_0, (y3.2.2.2.2, (0 : Int))))))
            else some (false, (y3.2.1, (y3.2.2.1, (p2_0, (y3.2.2.2.2, (0 : Int))))))
          else bindO (F 102 (RSh.agg [CK.bool, (CK.int .i64), (CK.int .i64), (CK.int .i64), (CK.int .i64)]) [(PV.agg [(PV.bool false), (PV.int .i64 y0.2.1), (PV.int .i64 y0.2.2.1), (PV.int .i64 y0.2.2.2.1), (PV.int .i64 y0.2.2.2.2)])]) fun (y4 : ((Bool) × ((Int) × ((Int) × ((Int) × (Int)))))) =>
          bif y4.1 then
            bif y4.1 then
              some (true, (y4.2.1, (y4.2.2.1, (p2_0, (y4.2.2.2.2, (0 : Int))))))
            else some (false, (y4.2.1, (y4.2.2.1, (p2_0, (y4.2.2.2.2, (0 : Int))))))
          else bif (decide (p2_1 ≥ p0_0)) then
            bif (y4.2.1 == (62500 : Int)) then
              some (false, ((0 : Int), ((0 : Int), ((0 : Int), ((0 : Int), (15 : Int))))))
            else some (true, ((w64 (y4.2.1 + (1 : Int))), (p2_0, (p2_0, (y4.2.2.2.2, (0 : Int))))))
          else bif y4.1 then
            some (true, (y4.2.1, (y4.2.2.1, (p2_0, (y4.2.2.2.2, (0 : Int))))))
          else some (false, (y4.2.1, (y4.2.2.1, (p2_0, (y4.2.2.2.2, (0 : Int))))))
        else bif y0.1 then
          bif y0.1 then
            some (true, (y0.2.1, (y0.2.2.1, (p2_0, (y0.2.2.2.2, (0 : Int))))))
          else some (false, (y0.2.1, (y0.2.2.1, (p2_0, (y0.2.2.2.2, (0 : Int))))))
        else bif (decide (p2_1 ≥ p0_0)) then
          bif (y0.2.1 == (62500 : Int)) then
            some (false, ((0 : Int), ((0 : Int), ((0 : Int), ((0 : Int), (15 : Int))))))
          else some (true, ((w64 (y0.2.1 + (1 : Int))), (p2_0, (p2_0, (y0.2.2.2.2, (0 : Int))))))
        else bif y0.1 then
          some (true, (y0.2.1, (y0.2.2.1, (p2_0, (y0.2.2.2.2, (0 : Int))))))
        else some (false, (y0.2.1, (y0.2.2.1, (p2_0, (y0.2.2.2.2, (0 : Int))))))
      else bif y0.1 then
        bif y0.1 then
          bif y0.1 then
            some (true, (y0.2.1, (y0.2.2.1, (p2_0, ((-1 : Int), (0 : Int))))))
          else some (false, (y0.2.1, (y0.2.2.1, (p2_0, ((-1 : Int), (0 : Int))))))
        else bif (decide (p2_1 ≥ p0_0)) then
          bif (y0.2.1 == (62500 : Int)) then
            some (false, ((0 : Int), ((0 : Int), ((0 : Int), ((0 : Int), (15 : Int))))))
          else some (true, ((w64 (y0.2.1 + (1 : Int))), (p2_0, (p2_0, ((-1 : Int), (0 : Int))))))
        else bif y0.1 then
          some (true, (y0.2.1, (y0.2.2.1, (p2_0, ((-1 : Int), (0 : Int))))))
        else some (false, (y0.2.1, (y0.2.2.1, (p2_0, ((-1 : Int), (0 : Int))))))
      else bif y0.1 then
        bif y0.1 then
          some (true, (y0.2.1, (y0.2.2.1, (p2_0, (y0.2.2.2.2, (0 : Int))))))
        else some (false, (y0.2.1, (y0.2.2.1, (p2_0, (y0.2.2.2.2, (0 : Int))))))
      else bif (decide (p2_1 ≥ p0_0)) then
        bif (y0.2.1 == (62500 : Int)) then
          some (false, ((0 : Int), ((0 : Int), ((0 : Int), ((0 : Int), (15 : Int))))))
        else some (true, ((w64 (y0.2.1 + (1 : Int))), (p2_0, (p2_0, (y0.2.2.2.2, (0 : Int))))))
      else bif y0.1 then
        some (true, (y0.2.1, (y0.2.2.1, (p2_0, (y0.2.2.2.2, (0 : Int))))))
      else some (false, (y0.2.1, (y0.2.2.1, (p2_0, (y0.2.2.2.2, (0 : Int))))))
    else bif y0.1 then
      bif y0.1 then
        bif y0.1 then
          some (true, (y0.2.1, (y0.2.2.1, (p2_0, ((-1 : Int), (0 : Int))))))
        else some (false, (y0.2.1, (y0.2.2.1, (p2_0, ((-1 : Int), (0 : Int))))))
      else bif (decide (p2_1 ≥ p0_0)) then
        bif (y0.2.1 == (62500 : Int)) then
          some (false, ((0 : Int), ((0 : Int), ((0 : Int), ((0 : Int), (15 : Int))))))
        else some (true, ((w64 (y0.2.1 + (1 : Int))), (p2_0, (p2_0, ((-1 : Int), (0 : Int))))))
      else bif y0.1 then
        some (true, (y0.2.1, (y0.2.2.1, (p2_0, ((-1 : Int), (0 : Int))))))
      else some (false, (y0.2.1, (y0.2.2.1, (p2_0, ((-1 : Int), (0 : Int))))))
    else bif y0.1 then
      bif y0.1 then
        some (true, (y0.2.1, (y0.2.2.1, (p2_0, (y0.2.2.2.2, (0 : Int))))))
      else some (false, (y0.2.1, (y0.2.2.1, (p2_0, (y0.2.2.2.2, (0 : Int))))))
    else bif (decide (p2_1 ≥ p0_0)) then
      bif (y0.2.1 == (62500 : Int)) then
        some (false, ((0 : Int), ((0 : Int), ((0 : Int), ((0 : Int), (15 : Int))))))
      else some (true, ((w64 (y0.2.1 + (1 : Int))), (p2_0, (p2_0, (y0.2.2.2.2, (0 : Int))))))
    else bif y0.1 then
      some (true, (y0.2.1, (y0.2.2.1, (p2_0, (y0.2.2.2.2, (0 : Int))))))
    else some (false, (y0.2.1, (y0.2.2.1, (p2_0, (y0.2.2.2.2, (0 : Int))))))
  else bindO (F 101 (RSh.agg [CK.bool, (CK.int .i64), (CK.int .i64), (CK.int .i64), (CK.int .i64)]) [(PV.agg [(PV.int .i64 p0_0), (PV.int .i64 p0_1), (PV.int .i64 p0_2), (PV.int .i64 p0_3)]), (PV.agg [(PV.bool false), (PV.int .i64 p1_1), (PV.int .i64 p1_2), (PV.int .i64 p1_3), (PV.int .i64 p1_4)]), (PV.int .i64 p2_0)]) fun (y5 : ((Bool) × ((Int) × ((Int) × ((Int) × (Int)))))) =>
  bif y5.1 then
    bif (decide (p2_2 < p0_1)) then
      bif (y5.2.2.2.2 == (-1 : Int)) then
        bif (decide ((w64 (p2_0 - p2_0)) ≥ p0_2)) then
          bif y5.1 then
            bindO (F 102 (RSh.agg [CK.bool, (CK.int .i64), (CK.int .i64), (CK.int .i64), (CK.int .i64)]) [(PV.agg [(PV.bool true), (PV.int .i64 y5.2.1), (PV.int .i64 y5.2.2.1), (PV.int .i64 y5.2.2.2.1), (PV.int .i64 p2_0)])]) fun (y6 : ((Bool) × ((Int) × ((Int) × ((Int) × (Int)))))) =>
            bif y6.1 then
              bif y6.1 then
                some (true, (y6.2.1, (y6.2.2.1, (p2_0, (y6.2.2.2.2, (0 : Int))))))
              else some (false, (y6.2.1, (y6.2.2.1, (p2_0, (y6.2.2.2.2, (0 : Int))))))
            else bif (decide (p2_1 ≥ p0_0)) then
              bif (y6.2.1 == (62500 : Int)) then
                some (false, ((0 : Int), ((0 : Int), ((0 : Int), ((0 : Int), (15 : Int))))))
              else some (true, ((w64 (y6.2.1 + (1 : Int))), (p2_0, (p2_0, (y6.2.2.2.2, (0 : Int))))))
            else bif y6.1 then
              some (true, (y6.2.1, (y6.2.2.1, (p2_0, (y6.2.2.2.2, (0 : Int))))))
            else some (false, (y6.2.1, (y6.2.2.1, (p2_0, (y6.2.2.2.2, (0 : Int))))))
          else bindO (F 102 (RSh.agg [CK.bool, (CK.int .i64), (CK.int .i64), (CK.int .i64), (CK.int .i64)]) [(PV.agg [(PV.bool false), (PV.int .i64 y5.2.1), (PV.int .i64 y5.2.2.1), (PV.int .i64 y5.2.2.2.1), (PV.int .i64 p2_0)])]) fun (y7 : ((Bool) × ((Int) × ((Int) × ((Int) × (Int)))))) =>
          bif y7.1 then
            bif y7.1 then
              some (true, (y7.2.1, (y7.2.2.1, (p2_0, (y7.2.2.2.2, (0 : Int))))))
            else some (false, (y7.2.1, (y7.2.2.1, (p2_0, (y7.2.2.2.2, (0 : Int))))))
          else bif (decide (p2_1 ≥ p0_0)) then
            bif (y7.2.1 == (62500 : Int)) then
              some (false, ((0 : Int), ((0 : Int), ((0 : Int), ((0 : Int), (15 : Int))))))
            else some (true, ((w64 (y7.2.1 + (1 : Int))), (p2_0, (p2_0, (y7.2.2.2.2, (0 : Int))))))
          else bif y7.1 then
            some (true, (y7.2.1, (y7.2.2.1, (p2_0, (y7.2.2.2.2, (0 : Int))))))
          else some (false, (y7.2.1, (y7.2.2.1, (p2_0, (y7.2.2.2.2, (0 : Int))))))
        else bif y5.1 then
          bif y5.1 then
            some (true, (y5.2.1, (y5.2.2.1, (p2_0, (p2_0, (0 : Int))))))
          else some (false, (y5.2.1, (y5.2.2.1, (p2_0, (p2_0, (0 : Int))))))
        else bif (decide (p2_1 ≥ p0_0)) then
          bif (y5.2.1 == (62500 : Int)) then
            some (false, ((0 : Int), ((0 : Int), ((0 : Int), ((0 : Int), (15 : Int))))))
          else some (true, ((w64 (y5.2.1 + (1 : Int))), (p2_0, (p2_0, (p2_0, (0 : Int))))))
        else bif y5.1 then
          some (true, (y5.2.1, (y5.2.2.1, (p2_0, (p2_0, (0 : Int))))))
        else some (false, (y5.2.1, (y5.2.2.1, (p2_0, (p2_0, (0 : Int))))))
      else bif (decide ((w64 (p2_0 - y5.2.2.2.2)) ≥ p0_2)) then
        bif y5.1 then
          bindO (F 102 (RSh.agg [CK.bool, (CK.int .i64), (CK.int .i64), (CK.int .i64), (CK.int .i64)]) [(PV.agg [(PV.bool true), (PV.int .i64 y5.2.1), (PV.int .i64 y5.2.2.1), (PV.int .i64 y5.2.2.2.1), (PV.int .i64 y5.2.2.2.2)])]) fun (y8 : ((Bool) × ((Int) × ((Int) × ((Int) × (Int)))))) =>
          bif y8.1 then
            bif y8.1 then
              some (true, (y8.2.1, (y8.2.2.1, (p2_0, (y8.2.2.2.2, (0 : Int))))))
            else some (false, (y8.2.1, (y8.2.2.1, (p2_0, (y8.2.2.2.2, (0 : Int))))))
          else bif (decide (p2_1 ≥ p0_0)) then
            bif (y8.2.1 == (62500 : Int)) then
              some (false, ((0 : Int), ((0 : Int), ((0 : Int), ((0 : Int), (15 : Int))))))
            else some (true, ((w64 (y8.2.1 + (1 : Int))), (p2_0, (p2_0, (y8.2.2.2.2, (0 : Int))))))
          else bif y8.1 then
            some (true, (y8.2.1, (y8.2.2.1, (p2_0, (y8.2.2.2.2, (0 : Int))))))
          else some (false, (y8.2.1, (y8.2.2.1, (p2_0, (y8.2.2.2.2, (0 : Int))))))
        else bindO (F 102 (RSh.agg [CK.bool, (CK.int .i64), (CK.int .i64), (CK.int .i64), (CK.int .i64)]) [(PV.agg [(PV.bool false), (PV.int .i64 y5.2.1), (PV.int .i64 y5.2.2.1), (PV.int .i64 y5.2.2.2.1), (PV.int .i64 y5.2.2.2.2)])]) fun (y9 : ((Bool) × ((Int) × ((Int) × ((Int) × (Int)))))) =>
        bif y9.1 then
          bif y9.1 then
            some (true, (y9.2.1, (y9.2.2.1, (p2_0, (y9.2.2.2.2, (0 : Int))))))
          else some (false, (y9.2.1, (y9.2.2.1, (p2_0, (y9.2.2.2.2, (0 : Int))))))
        else bif (decide (p2_1 ≥ p0_0)) then
          bif (y9.2.1 == (62500 : Int)) then
            some (false, ((0 : Int), ((0 : Int), ((0 : Int), ((0 : Int), (15 : Int))))))
          else some (true, ((w64 (y9.2.1 + (1 : Int))), (p2_0, (p2_0, (y9.2.2.2.2, (0 : Int))))))
        else bif y9.1 then
          some (true, (y9.2.1, (y9.2.2.1, (p2_0, (y9.2.2.2.2, (0 : Int))))))
        else some (false, (y9.2.1, (y9.2.2.1, (p2_0, (y9.2.2.2.2, (0 : Int))))))
      else bif y5.1 then
        bif y5.1 then
          some (true, (y5.2.1, (y5.2.2.1, (p2_0, (y5.2.2.2.2, (0 : Int))))))
        else some (false, (y5.2.1, (y5.2.2.1, (p2_0, (y5.2.2.2.2, (0 : Int))))))
      else bif (decide (p2_1 ≥ p0_0)) then
        bif (y5.2.1 == (62500 : Int)) then
          some (false, ((0 : Int), ((0 : Int), ((0 : Int), ((0 : Int), (15 : Int))))))
        else some (true, ((w64 (y5.2.1 + (1 : Int))), (p2_0, (p2_0, (y5.2.2.2.2, (0 : Int))))))
      else bif y5.1 then
        some (true, (y5.2.1, (y5.2.2.1, (p2_0, (y5.2.2.2.2, (0 : Int))))))
      else some (false, (y5.2.1, (y5.2.2.1, (p2_0, (y5.2.2.2.2, (0 : Int))))))
    else bif y5.1 then
      bif y5.1 then
        bif y5.1 then
          some (true, (y5.2.1, (y5.2.2.1, (p2_0, ((-1 : Int), (0 : Int))))))
        else some (false, (y5.2.1, (y5.2.2.1, (p2_0, ((-1 : Int), (0 : Int))))))
      else bif (decide (p2_1 ≥ p0_0)) then
        bif (y5.2.1 == (62500 : Int)) then
          some (false, ((0 : Int), ((0 : Int), ((0 : Int), ((0 : Int), (15 : Int))))))
        else some (true, ((w64 (y5.2.1 + (1 : Int))), (p2_0, (p2_0, ((-1 : Int), (0 : Int))))))
      else bif y5.1 then
        some (true, (y5.2.1, (y5.2.2.1, (p2_0, ((-1 : Int), (0 : Int))))))
      else some (false, (y5.2.1, (y5.2.2.1, (p2_0, ((-1 : Int), (0 : Int))))))
    else bif y5.1 then
      bif y5.1 then
        some (true, (y5.2.1, (y5.2.2.1, (p2_0, (y5.2.2.2.2, (0 : Int))))))
      else some (false, (y5.2.1, (y5.2.2.1, (p2_0, (y5.2.2.2.2, (0 : Int))))))
    else bif (decide (p2_1 ≥ p0_0)) then
      bif (y5.2.1 == (62500 : Int)) then
        some (false, ((0 : Int), ((0 : Int), ((0 : Int), ((0 : Int), (15 : Int))))))
      else some (true, ((w64 (y5.2.1 + (1 : Int))), (p2_0, (p2_0, (y5.2.2.2.2, (0 : Int))))))
    else bif y5.1 then
      some (true, (y5.2.1, (y5.2.2.1, (p2_0, (y5.2.2.2.2, (0 : Int))))))
    else some (false, (y5.2.1, (y5.2.2.1, (p2_0, (y5.2.2.2.2, (0 : Int))))))
  else bif y5.1 then
    bif y5.1 then
      bif y5.1 then
        some (true, (y5.2.1, (y5.2.2.1, (p2_0, ((-1 : Int), (0 : Int))))))
      else some (false, (y5.2.1, (y5.2.2.1, (p2_0, ((-1 : Int), (0 : Int))))))
    else bif (decide (p2_1 ≥ p0_0)) then
      bif (y5.2.1 == (62500 : Int)) then
        some (false, ((0 : Int), ((0 : Int), ((0 : Int), ((0 : Int), (15 : Int))))))
      else some (true, ((w64 (y5.2.1 + (1 : Int))), (p2_0, (p2_0, ((-1 : Int), (0 : Int))))))
    else bif y5.1 then
      some (true, (y5.2.1, (y5.2.2.1, (p2_0, ((-1 : Int), (0 : Int))))))
    else some (false, (y5.2.1, (y5.2.2.1, (p2_0, ((-1 : Int), (0 : Int))))))
  else bif y5.1 then
    bif y5.1 then
      some (true, (y5.2.1, (y5.2.2.1, (p2_0, (y5.2.2.2.2, (0 : Int))))))
    else some (false, (y5.2.1, (y5.2.2.1, (p2_0, (y5.2.2.2.2, (0 : Int))))))
  else bif (decide (p2_1 ≥ p0_0)) then
    bif (y5.2.1 == (62500 : Int)) then
      some (false, ((0 : Int), ((0 : Int), ((0 : Int), ((0 : Int), (15 : Int))))))
    else some (true, ((w64 (y5.2.1 + (1 : Int))), (p2_0, (p2_0, (y5.2.2.2.2, (0 : Int))))))
  else bif y5.1 then
    some (true, (y5.2.1, (y5.2.2.1, (p2_0, (y5.2.2.2.2, (0 : Int))))))
  else some (false, (y5.2.1, (y5.2.2.1, (p2_0, (y5.2.2.2.2, (0 : Int))))))
theorem trNext_eq (F : FnT) (p0_0 : Int) (p0_1 : Int) (p0_2 : Int) (p0_3 : Int) (p1_0 : Bool) (p1_1 : Int) (p1_2 : Int) (p1_3 : Int) (p1_4 : Int) (p2_0 : Int) (p2_1 : Int) (p2_2 : Int) : semF (callP F ErNext 20) s52 (loopT []) 400 a52 [PV.agg [PV.int .i64 p0_0, PV.int .i64 p0_1, PV.int .i64 p0_2, PV.int .i64 p0_3], PV.agg [PV.bool p1_0, PV.int .i64 p1_1, PV.int .i64 p1_2, PV.int .i64 p1_3, PV.int .i64 p1_4], PV.agg [PV.int .i64 p2_0, PV.int .i64 p2_1, PV.int .i64 p2_2]] (fun rv => decR (RSh.tup [(Prod.mk true [CK.bool, (CK.int .i64), (CK.int .i64), (CK.int .i64), (CK.int .i64)]), (Prod.mk false [(CK.int .i64)])]) rv.pv) = trNext F p0_0 p0_1 p0_2 p0_3 p1_0 p1_1 p1_2 p1_3 p1_4 p2_0 p2_1 p2_2 := by kernel_rfl
noncomputable abbrev FrNext (args : List PV) := Fn env 52 (RSh.tup [(Prod.mk true [CK.bool, (CK.int .i64), (CK.int .i64), (CK.int .i64), (CK.int .i64)]), (Prod.mk false [(CK.int .i64)])]) args
theorem FrNext_of  (p0_0 : Int) (p0_1 : Int) (p0_2 : Int) (p0_3 : Int) (p1_0 : Bool) (p1_1 : Int) (p1_2 : Int) (p1_3 : Int) (p1_4 : Int) (p2_0 : Int) (p2_1 : Int) (p2_2 : Int) {res : ((Bool) × ((Int) × ((Int) × ((Int) × ((Int) × (Int))))))} (h : trNext (Fn env) p0_0 p0_1 p0_2 p0_3 p1_0 p1_1 p1_2 p1_3 p1_4 p2_0 p2_1 p2_2 = some res) : FrNext [PV.agg [PV.int .i64 p0_0, PV.int .i64 p0_1, PV.int .i64 p0_2, PV.int .i64 p0_3], PV.agg [PV.bool p1_0, PV.int .i64 p1_1, PV.int .i64 p1_2, PV.int .i64 p1_3, PV.int .i64 p1_4], PV.agg [PV.int .i64 p2_0, PV.int .i64 p2_1, PV.int .i64 p2_2]] = some res :=
  fn_of ErNext_ok rfl rfl lo_nil ((trNext_eq _ _ _ _ _ _ _ _ _ _ _ _ _).trans h)
def ErCE : List Entry := [.out 51 (RSh.one (CK.int .i64))]
theorem ErCE_ok : ∀ e ∈ ErCE, EntOK env e := (ent_out ent_nil)
def TrCE_0a (n0 : Nat) (c1 : List PV) (i2 : Int) : Q := ⟨(tm 41 [(0, (AV.p (PV.list n0 c1))), (4, (AV.p (PV.int .i64 i2)))]), (mm 41 [])⟩
def XrCE_0a (y : Int × Int) : Ext × Q := (Ext.ret, ⟨(tm 41 [(2, (AV.p (PV.int .i64 y.1))), (3, (AV.p (PV.int .i64 y.2)))]), (mm 41 [])⟩)
def IrCE_0a (q : Ext × S) : Int × Int := ((pP_int1 (pA_p (avT q.2 2))), (pP_int1 (pA_p (avT q.2 3))))
def XrCE_0b (_y : Unit) : Ext × Q := (Ext.normal, ⟨(tm 41 []), (mm 41 [])⟩)
def IrCE_0b (_q : Ext × S) : Unit := ()
abbrev YrCE_0 : Type := (Int × Int) ⊕ ((Unit))
def XLrCE_0 : XL YrCE_0 := .more XrCE_0a (.one XrCE_0b)
def IrCE_0 (q : Ext × S) : YrCE_0 := bif (cE q.1 == 2) then (Sum.inl (IrCE_0a q)) else (Sum.inr (IrCE_0b q))
theorem XIrCE_0a (y : Int × Int) : IrCE_0 (xe (XrCE_0a y)) = (Sum.inl y) := rfl
theorem XIrCE_0b (y : Unit) : IrCE_0 (xe (XrCE_0b y)) = (Sum.inr y) := rfl
theorem XIrCE_0 (y : YrCE_0) : IrCE_0 (xe (XLrCE_0.fn y)) = y := (match y with | .inl y => XIrCE_0a y | .inr y => XIrCE_0b y)
noncomputable abbrev LrCE_0 : Q → Option YrCE_0 := lpO env a58.body 0 XLrCE_0
noncomputable abbrev RrCE_0 : Q → Option (Ext × S) := lpR env a58.body 0
theorem UrCE : uniq ((blocksOf a58.body).map (·.1)) = true := by kernel_rfl
def BrCE_0a (F : FnT) (N : QO) (E : EO) (_L0 : Q → Option YrCE_0) (n0 : Nat) (c1 : List PV) (i2 : Int) : Option (Ext × S) :=
  bif (decide (i2 < (n0 : Int))) then
    bif (decide (((0 : Int) ≤ i2) ∧ (i2 < (n0 : Int)))) then
      bindO (intC .i64 (c1[((Int.toNat i2) * 3)]?)) fun x0 =>
      bindO (intC .i64 (c1[(((Int.toNat i2) * 3) + 1)]?)) fun x1 =>
      bindO (intC .i64 (c1[((((Int.toNat i2) * 3) + 1) + 1)]?)) fun x2 =>
      bindO (F 51 (RSh.one (CK.int .i64)) [(PV.agg [(PV.int .i64 x0), (PV.int .i64 x1), (PV.int .i64 x2)])]) fun (y3 : (Int)) =>
      bif (y3 != (0 : Int)) then
        E (XrCE_0a (i2, y3))
      else bif (decide (i2 > (0 : Int))) then
        bif (decide (((0 : Int) ≤ i2) ∧ (i2 < (n0 : Int)))) then
          bindO (intC .i64 (c1[(((Int.toNat i2) * 3) + 0)]?)) fun x4 =>
          bif (decide (((0 : Int) ≤ (w64 (i2 - (1 : Int)))) ∧ ((w64 (i2 - (1 : Int))) < (n0 : Int)))) then
            bindO (intC .i64 (c1[(((Int.toNat (w64 (i2 - (1 : Int)))) * 3) + 0)]?)) fun x5 =>
            bif (decide (x4 ≤ x5)) then
              E (XrCE_0a (i2, (9 : Int)))
            else N (TrCE_0a n0 c1 (w64 (i2 + (1 : Int))))
          else none
        else none
      else N (TrCE_0a n0 c1 (w64 (i2 + (1 : Int))))
    else none
  else E (XrCE_0b ())
theorem BrCE_0a_eq (F : FnT) (N : QO) (E : EO) (L0 : Q → Option YrCE_0) (n0 : Nat) (c1 : List PV) (i2 : Int) : semB (callP F ErCE 20) s58 (loopT [⟨0, YrCE_0, L0, XLrCE_0⟩]) 400 (blkIn a58.body 0) N E (TrCE_0a n0 c1 i2) = BrCE_0a F N E L0 n0 c1 i2 := by kernel_rfl
theorem RrCE_0a_of  (n0 : Nat) (c1 : List PV) (i2 : Int) {r : Ext × S} (h : BrCE_0a (Fn env) RrCE_0 exO LrCE_0 n0 c1 i2 = some r) : RrCE_0 (TrCE_0a n0 c1 i2) = some r :=
  lp_of ErCE_ok (by kernel_rfl) (lo_cons (lpO_ok UrCE) lo_nil) (by kernel_rfl) ((BrCE_0a_eq _ _ _ _ _ _ _).trans h)
def trCE (_F : FnT) (L0 : Q → Option YrCE_0) (p0n : Nat) (p0c : List PV) : Option ((Int) × (Int)) :=
  bif (decide ((p0n : Int) > (40 : Int))) then
    some ((0 : Int), (8 : Int))
  else bindO (L0 (TrCE_0a p0n p0c (0 : Int))) fun z =>
  Sum.elim (fun y0 =>
    some (y0.1, y0.2)) (fun _y1 =>
    some ((0 : Int), (0 : Int))) z
theorem trCE_eq (F : FnT) (L0 : Q → Option YrCE_0) (p0n : Nat) (p0c : List PV) : semF (callP F ErCE 20) s58 (loopT [⟨0, YrCE_0, L0, XLrCE_0⟩]) 400 a58 [PV.list p0n p0c] (fun rv => decR (RSh.tup [(Prod.mk false [(CK.int .i64)]), (Prod.mk false [(CK.int .i64)])]) rv.pv) = trCE F L0 p0n p0c := by kernel_rfl
noncomputable abbrev FrCE (args : List PV) := Fn env 58 (RSh.tup [(Prod.mk false [(CK.int .i64)]), (Prod.mk false [(CK.int .i64)])]) args
theorem FrCE_of  (p0n : Nat) (p0c : List PV) {res : ((Int) × (Int))} (h : trCE (Fn env) LrCE_0 p0n p0c = some res) : FrCE [PV.list p0n p0c] = some res :=
  fn_of ErCE_ok rfl rfl (lo_cons (lpO_ok UrCE) lo_nil) ((trCE_eq _ _ _ _).trans h)
def ErSAt : List Entry := [.out 108 (RSh.agg [CK.bool, (CK.int .i64), (CK.int .i64), (CK.int .i64), (CK.int .i64)]), .out 52 (RSh.tup [(Prod.mk true [CK.bool, (CK.int .i64), (CK.int .i64), (CK.int .i64), (CK.int .i64)]), (Prod.mk false [(CK.int .i64)])]), .out 101 (RSh.agg [CK.bool, (CK.int .i64), (CK.int .i64), (CK.int .i64), (CK.int .i64)])]
theorem ErSAt_ok : ∀ e ∈ ErSAt, EntOK env e := (ent_out (ent_out (ent_out ent_nil)))
def TrSAt_0a (n0 : Nat) (c1 : List PV) (i2 : Int) (i3 : Int) (i4 : Int) (i5 : Int) (i6 : Int) (i7 : Int) (b8 : Bool) (i9 : Int) (i10 : Int) (i11 : Int) (i12 : Int) : Q := ⟨(tm 37 [(1, (AV.p (PV.list n0 c1))), (2, (AV.p (PV.int .i64 i2))), (3, (AV.loc 3 0)), (6, (AV.loc 6 0)), (7, (AV.loc 7 0)), (8, (AV.p (PV.int .i64 i3)))]), (mm 37 [(3, (Bk.pcs true [(PV.int .i64 i4), (PV.int .i64 i5), (PV.int .i64 i6), (PV.int .i64 i7)])), (6, (Bk.pcs true [(PV.bool false), (PV.int .i64 (0 : Int)), (PV.int .i64 (0 : Int)), (PV.int .i64 (0 : Int)), (PV.int .i64 (0 : Int))])), (7, (Bk.pcs true [(PV.bool b8), (PV.int .i64 i9), (PV.int .i64 i10), (PV.int .i64 i11), (PV.int .i64 i12)]))])⟩
def XrSAt_0a (y : Int × Int × Int × Int × Int × Bool × Int × Int × Int × Int) : Ext × Q := (Ext.normal, ⟨(tm 37 [(2, (AV.p (PV.int .i64 y.1))), (3, (AV.loc 3 0)), (6, (AV.loc 6 0)), (7, (AV.loc 7 0))]), (mm 37 [(3, (Bk.pcs true [(PV.int .i64 y.2.1), (PV.int .i64 y.2.2.1), (PV.int .i64 y.2.2.2.1), (PV.int .i64 y.2.2.2.2.1)])), (6, (Bk.pcs true [(PV.bool false), (PV.int .i64 (0 : Int)), (PV.int .i64 (0 : Int)), (PV.int .i64 (0 : Int)), (PV.int .i64 (0 : Int))])), (7, (Bk.pcs true [(PV.bool y.2.2.2.2.2.1), (PV.int .i64 y.2.2.2.2.2.2.1), (PV.int .i64 y.2.2.2.2.2.2.2.1), (PV.int .i64 y.2.2.2.2.2.2.2.2.1), (PV.int .i64 y.2.2.2.2.2.2.2.2.2)]))])⟩)
def IrSAt_0a (q : Ext × S) : Int × Int × Int × Int × Int × Bool × Int × Int × Int × Int := ((pP_int1 (pA_p (avT q.2 2))), (pP_int1 (hdP (pB_pcs1 (avM q.2 3)))), (pP_int1 (hdP (List.tail (pB_pcs1 (avM q.2 3))))), (pP_int1 (hdP (List.tail (List.tail (pB_pcs1 (avM q.2 3)))))), (pP_int1 (hdP (List.tail (List.tail (List.tail (pB_pcs1 (avM q.2 3))))))), (pP_bool0 (hdP (pB_pcs1 (avM q.2 7)))), (pP_int1 (hdP (List.tail (pB_pcs1 (avM q.2 7))))), (pP_int1 (hdP (List.tail (List.tail (pB_pcs1 (avM q.2 7)))))), (pP_int1 (hdP (List.tail (List.tail (List.tail (pB_pcs1 (avM q.2 7))))))), (pP_int1 (hdP (List.tail (List.tail (List.tail (List.tail (pB_pcs1 (avM q.2 7)))))))))
abbrev YrSAt_0 : Type := Int × Int × Int × Int × Int × Bool × Int × Int × Int × Int
def XLrSAt_0 : XL YrSAt_0 := .one XrSAt_0a
def IrSAt_0 (q : Ext × S) : YrSAt_0 := (IrSAt_0a q)
theorem XIrSAt_0a (y : Int × Int × Int × Int × Int × Bool × Int × Int × Int × Int) : IrSAt_0 (xe (XrSAt_0a y)) = y := rfl
theorem XIrSAt_0 (y : YrSAt_0) : IrSAt_0 (xe (XLrSAt_0.fn y)) = y := XIrSAt_0a y
noncomputable abbrev LrSAt_0 : Q → Option YrSAt_0 := lpO env a62.body 0 XLrSAt_0
noncomputable abbrev RrSAt_0 : Q → Option (Ext × S) := lpR env a62.body 0
theorem LrSAt_0a_of {s : Q} {y : Int × Int × Int × Int × Int × Bool × Int × Int × Int × Int} (h : RrSAt_0 s = exO (XrSAt_0a y)) : LrSAt_0 s = some y := lpO_of IrSAt_0 XIrSAt_0 (y := y) h
theorem UrSAt : uniq ((blocksOf a62.body).map (·.1)) = true := by kernel_rfl
def BrSAt_0a (F : FnT) (N : QO) (E : EO) (_L0 : Q → Option YrSAt_0) (n0 : Nat) (c1 : List PV) (i2 : Int) (i3 : Int) (i4 : Int) (i5 : Int) (i6 : Int) (i7 : Int) (b8 : Bool) (i9 : Int) (i10 : Int) (i11 : Int) (i12 : Int) : Option (Ext × S) :=
  bif (decide (i3 < (n0 : Int))) then
    bif (decide (((0 : Int) ≤ i3) ∧ (i3 < (n0 : Int)))) then
      bindO (intC .i64 (c1[(((Int.toNat i3) * 3) + 0)]?)) fun x0 =>
      bif (decide (x0 ≤ i2)) then
        bif b8 then
          bif (decide (((0 : Int) ≤ i3) ∧ (i3 < (n0 : Int)))) then
            bindO (intC .i64 (c1[((Int.toNat i3) * 3)]?)) fun x1 =>
            bindO (intC .i64 (c1[(((Int.toNat i3) * 3) + 1)]?)) fun x2 =>
            bindO (intC .i64 (c1[((((Int.toNat i3) * 3) + 1) + 1)]?)) fun x3 =>
            bindO (F 52 (RSh.tup [(Prod.mk true [CK.bool, (CK.int .i64), (CK.int .i64), (CK.int .i64), (CK.int .i64)]), (Prod.mk false [(CK.int .i64)])]) [(PV.agg [(PV.int .i64 i4), (PV.int .i64 i5), (PV.int .i64 i6), (PV.int .i64 i7)]), (PV.agg [(PV.bool true), (PV.int .i64 i9), (PV.int .i64 i10), (PV.int .i64 i11), (PV.int .i64 i12)]), (PV.agg [(PV.int .i64 x1), (PV.int .i64 x2), (PV.int .i64 x3)])]) fun (y4 : ((Bool) × ((Int) × ((Int) × ((Int) × ((Int) × (Int))))))) =>
            N (TrSAt_0a n0 c1 i2 (w64 (i3 + (1 : Int))) i4 i5 i6 i7 y4.1 y4.2.1 y4.2.2.1 y4.2.2.2.1 y4.2.2.2.2.1)
          else none
        else bif (decide (((0 : Int) ≤ i3) ∧ (i3 < (n0 : Int)))) then
          bindO (intC .i64 (c1[((Int.toNat i3) * 3)]?)) fun x5 =>
          bindO (intC .i64 (c1[(((Int.toNat i3) * 3) + 1)]?)) fun x6 =>
          bindO (intC .i64 (c1[((((Int.toNat i3) * 3) + 1) + 1)]?)) fun x7 =>
          bindO (F 52 (RSh.tup [(Prod.mk true [CK.bool, (CK.int .i64), (CK.int .i64), (CK.int .i64), (CK.int .i64)]), (Prod.mk false [(CK.int .i64)])]) [(PV.agg [(PV.int .i64 i4), (PV.int .i64 i5), (PV.int .i64 i6), (PV.int .i64 i7)]), (PV.agg [(PV.bool false), (PV.int .i64 i9), (PV.int .i64 i10), (PV.int .i64 i11), (PV.int .i64 i12)]), (PV.agg [(PV.int .i64 x5), (PV.int .i64 x6), (PV.int .i64 x7)])]) fun (y8 : ((Bool) × ((Int) × ((Int) × ((Int) × ((Int) × (Int))))))) =>
          N (TrSAt_0a n0 c1 i2 (w64 (i3 + (1 : Int))) i4 i5 i6 i7 y8.1 y8.2.1 y8.2.2.1 y8.2.2.2.1 y8.2.2.2.2.1)
        else none
      else N (TrSAt_0a n0 c1 i2 (w64 (i3 + (1 : Int))) i4 i5 i6 i7 b8 i9 i10 i11 i12)
    else none
  else E (XrSAt_0a (i2, i4, i5, i6, i7, b8, i9, i10, i11, i12))
theorem BrSAt_0a_eq (F : FnT) (N : QO) (E : EO) (L0 : Q → Option YrSAt_0) (n0 : Nat) (c1 : List PV) (i2 : Int) (i3 : Int) (i4 : Int) (i5 : Int) (i6 : Int) (i7 : Int) (b8 : Bool) (i9 : Int) (i10 : Int) (i11 : Int) (i12 : Int) : semB (callP F ErSAt 20) s62 (loopT [⟨0, YrSAt_0, L0, XLrSAt_0⟩]) 400 (blkIn a62.body 0) N E (TrSAt_0a n0 c1 i2 i3 i4 i5 i6 i7 b8 i9 i10 i11 i12) = BrSAt_0a F N E L0 n0 c1 i2 i3 i4 i5 i6 i7 b8 i9 i10 i11 i12 := by kernel_rfl
theorem RrSAt_0a_of  (n0 : Nat) (c1 : List PV) (i2 : Int) (i3 : Int) (i4 : Int) (i5 : Int) (i6 : Int) (i7 : Int) (b8 : Bool) (i9 : Int) (i10 : Int) (i11 : Int) (i12 : Int) {r : Ext × S} (h : BrSAt_0a (Fn env) RrSAt_0 exO LrSAt_0 n0 c1 i2 i3 i4 i5 i6 i7 b8 i9 i10 i11 i12 = some r) : RrSAt_0 (TrSAt_0a n0 c1 i2 i3 i4 i5 i6 i7 b8 i9 i10 i11 i12) = some r :=
  lp_of ErSAt_ok (by kernel_rfl) (lo_cons (lpO_ok UrSAt) lo_nil) (by kernel_rfl) ((BrSAt_0a_eq _ _ _ _ _ _ _ _ _ _ _ _ _ _ _ _ _).trans h)
def trSAt (F : FnT) (L0 : Q → Option YrSAt_0) (p0_0 : Int) (p0_1 : Int) (p0_2 : Int) (p0_3 : Int) (p1n : Nat) (p1c : List PV) (p2 : Int) : Option ((Bool) × ((Int) × ((Int) × ((Int) × (Int))))) :=
  bindO (F 108 (RSh.agg [CK.bool, (CK.int .i64), (CK.int .i64), (CK.int .i64), (CK.int .i64)]) []) fun (y0 : ((Bool) × ((Int) × ((Int) × ((Int) × (Int)))))) =>
  bindO (L0 (TrSAt_0a p1n p1c p2 (0 : Int) p0_0 p0_1 p0_2 p0_3 y0.1 y0.2.1 y0.2.2.1 y0.2.2.2.1 y0.2.2.2.2)) fun y1 =>
  bif y1.2.2.2.2.2.1 then
    bindO (F 101 (RSh.agg [CK.bool, (CK.int .i64), (CK.int .i64), (CK.int .i64), (CK.int .i64)]) [(PV.agg [(PV.int .i64 y1.2.1), (PV.int .i64 y1.2.2.1), (PV.int .i64 y1.2.2.2.1), (PV.int .i64 y1.2.2.2.2.1)]), (PV.agg [(PV.bool true), (PV.int .i64 y1.2.2.2.2.2.2.1), (PV.int .i64 y1.2.2.2.2.2.2.2.1), (PV.int .i64 y1.2.2.2.2.2.2.2.2.1), (PV.int .i64 y1.2.2.2.2.2.2.2.2.2)]), (PV.int .i64 y1.1)]) fun (y2 : ((Bool) × ((Int) × ((Int) × ((Int) × (Int)))))) =>
    some (y2.1, (y2.2.1, (y2.2.2.1, (y2.2.2.2.1, y2.2.2.2.2))))
  else bindO (F 101 (RSh.agg [CK.bool, (CK.int .i64), (CK.int .i64), (CK.int .i64), (CK.int .i64)]) [(PV.agg [(PV.int .i64 y1.2.1), (PV.int .i64 y1.2.2.1), (PV.int .i64 y1.2.2.2.1), (PV.int .i64 y1.2.2.2.2.1)]), (PV.agg [(PV.bool false), (PV.int .i64 y1.2.2.2.2.2.2.1), (PV.int .i64 y1.2.2.2.2.2.2.2.1), (PV.int .i64 y1.2.2.2.2.2.2.2.2.1), (PV.int .i64 y1.2.2.2.2.2.2.2.2.2)]), (PV.int .i64 y1.1)]) fun (y3 : ((Bool) × ((Int) × ((Int) × ((Int) × (Int)))))) =>
  some (y3.1, (y3.2.1, (y3.2.2.1, (y3.2.2.2.1, y3.2.2.2.2))))
theorem trSAt_eq (F : FnT) (L0 : Q → Option YrSAt_0) (p0_0 : Int) (p0_1 : Int) (p0_2 : Int) (p0_3 : Int) (p1n : Nat) (p1c : List PV) (p2 : Int) : semF (callP F ErSAt 20) s62 (loopT [⟨0, YrSAt_0, L0, XLrSAt_0⟩]) 400 a62 [PV.agg [PV.int .i64 p0_0, PV.int .i64 p0_1, PV.int .i64 p0_2, PV.int .i64 p0_3], PV.list p1n p1c, PV.int .i64 p2] (fun rv => decR (RSh.agg [CK.bool, (CK.int .i64), (CK.int .i64), (CK.int .i64), (CK.int .i64)]) rv.pv) = trSAt F L0 p0_0 p0_1 p0_2 p0_3 p1n p1c p2 := by kernel_rfl
noncomputable abbrev FrSAt (args : List PV) := Fn env 62 (RSh.agg [CK.bool, (CK.int .i64), (CK.int .i64), (CK.int .i64), (CK.int .i64)]) args
theorem FrSAt_of  (p0_0 : Int) (p0_1 : Int) (p0_2 : Int) (p0_3 : Int) (p1n : Nat) (p1c : List PV) (p2 : Int) {res : ((Bool) × ((Int) × ((Int) × ((Int) × (Int)))))} (h : trSAt (Fn env) LrSAt_0 p0_0 p0_1 p0_2 p0_3 p1n p1c p2 = some res) : FrSAt [PV.agg [PV.int .i64 p0_0, PV.int .i64 p0_1, PV.int .i64 p0_2, PV.int .i64 p0_3], PV.list p1n p1c, PV.int .i64 p2] = some res :=
  fn_of ErSAt_ok rfl rfl (lo_cons (lpO_ok UrSAt) lo_nil) ((trSAt_eq _ _ _ _ _ _ _ _ _).trans h)
end Gv
