/- What the functions do, round by round: P5. -/
import Derived.Test.YtggnifebabjoiaaGvEnv
namespace Gv
open Go
set_option maxRecDepth 100000
def EbMod : List Entry := []
theorem EbMod_ok : ∀ e ∈ EbMod, EntOK env e := ent_nil
def tbMod (_F : FnT) (p0 : Int) (p1 : Int) : Option (Int) :=
  bif (decide (p1 ≠ (0 : Int))) then
    bif (decide ((Int.tmod p0 p1) < (0 : Int))) then
      some (w64 ((Int.tmod p0 p1) + p1))
    else some (Int.tmod p0 p1)
  else none
theorem tbMod_eq (F : FnT) (p0 : Int) (p1 : Int) : semF (callP F EbMod 20) s18 (loopT []) 400 a18 [PV.int .i64 p0, PV.int .i64 p1] (fun rv => decR (RSh.one (CK.int .i64)) rv.pv) = tbMod F p0 p1 := by kernel_rfl
noncomputable abbrev FbMod (args : List PV) := Fn env 18 (RSh.one (CK.int .i64)) args
theorem FbMod_of  (p0 : Int) (p1 : Int) {res : (Int)} (h : tbMod (Fn env) p0 p1 = some res) : FbMod [PV.int .i64 p0, PV.int .i64 p1] = some res :=
  fn_of EbMod_ok rfl rfl lo_nil ((tbMod_eq _ _ _).trans h)
def EbWi : List Entry := []
theorem EbWi_ok : ∀ e ∈ EbWi, EntOK env e := ent_nil
def tbWi (_F : FnT) (p0 : Int) (p1 : Int) (p2 : Int) : Option (Bool) :=
  bif (decide (p1 ≤ p0)) then
    bif (decide (p0 ≤ p2)) then
      some true
    else some false
  else some false
theorem tbWi_eq (F : FnT) (p0 : Int) (p1 : Int) (p2 : Int) : semF (callP F EbWi 20) s29 (loopT []) 400 a29 [PV.int .i64 p0, PV.int .i64 p1, PV.int .i64 p2] (fun rv => decR (RSh.one CK.bool) rv.pv) = tbWi F p0 p1 p2 := by kernel_rfl
noncomputable abbrev FbWi (args : List PV) := Fn env 29 (RSh.one CK.bool) args
theorem FbWi_of  (p0 : Int) (p1 : Int) (p2 : Int) {res : (Bool)} (h : tbWi (Fn env) p0 p1 p2 = some res) : FbWi [PV.int .i64 p0, PV.int .i64 p1, PV.int .i64 p2] = some res :=
  fn_of EbWi_ok rfl rfl lo_nil ((tbWi_eq _ _ _ _).trans h)
def EbFloor : List Entry := []
theorem EbFloor_ok : ∀ e ∈ EbFloor, EntOK env e := ent_nil
def tbFloor (_F : FnT) (p0 : Int) (p1 : Int) : Option (Int) :=
  bif (decide (p1 ≠ (0 : Int))) then
    bif (decide (p1 ≠ (0 : Int))) then
      bif (decide ((Int.tmod p0 p1) < (0 : Int))) then
        some (w64 ((w64 (Int.tdiv p0 p1)) - (1 : Int)))
      else some (w64 (Int.tdiv p0 p1))
    else none
  else none
theorem tbFloor_eq (F : FnT) (p0 : Int) (p1 : Int) : semF (callP F EbFloor 20) s81 (loopT []) 400 a81 [PV.int .i64 p0, PV.int .i64 p1] (fun rv => decR (RSh.one (CK.int .i64)) rv.pv) = tbFloor F p0 p1 := by kernel_rfl
noncomputable abbrev FbFloor (args : List PV) := Fn env 81 (RSh.one (CK.int .i64)) args
theorem FbFloor_of  (p0 : Int) (p1 : Int) {res : (Int)} (h : tbFloor (Fn env) p0 p1 = some res) : FbFloor [PV.int .i64 p0, PV.int .i64 p1] = some res :=
  fn_of EbFloor_ok rfl rfl lo_nil ((tbFloor_eq _ _ _).trans h)
def EbCeil : List Entry := [.out 81 (RSh.one (CK.int .i64))]
theorem EbCeil_ok : ∀ e ∈ EbCeil, EntOK env e := (ent_out ent_nil)
def tbCeil (F : FnT) (p0 : Int) (p1 : Int) : Option (Int) :=
  bindO (F 81 (RSh.one (CK.int .i64)) [(PV.int .i64 (w64 ((0 : Int) - p0))), (PV.int .i64 p1)]) fun (y0 : (Int)) =>
  some (w64 ((0 : Int) - y0))
theorem tbCeil_eq (F : FnT) (p0 : Int) (p1 : Int) : semF (callP F EbCeil 20) s82 (loopT []) 400 a82 [PV.int .i64 p0, PV.int .i64 p1] (fun rv => decR (RSh.one (CK.int .i64)) rv.pv) = tbCeil F p0 p1 := by kernel_rfl
noncomputable abbrev FbCeil (args : List PV) := Fn env 82 (RSh.one (CK.int .i64)) args
theorem FbCeil_of  (p0 : Int) (p1 : Int) {res : (Int)} (h : tbCeil (Fn env) p0 p1 = some res) : FbCeil [PV.int .i64 p0, PV.int .i64 p1] = some res :=
  fn_of EbCeil_ok rfl rfl lo_nil ((tbCeil_eq _ _ _).trans h)
def ErWind : List Entry := [.out 29 (RSh.one CK.bool)]
theorem ErWind_ok : ∀ e ∈ ErWind, EntOK env e := (ent_out ent_nil)
def trWind (F : FnT) (p0 : Int) : Option (Bool) :=
  bindO (F 29 (RSh.one CK.bool) [(PV.int .i64 p0), (PV.int .i64 (-10000 : Int)), (PV.int .i64 (10000 : Int))]) fun (y0 : (Bool)) =>
  bif y0 then
    some true
  else some false
theorem trWind_eq (F : FnT) (p0 : Int) : semF (callP F ErWind 20) s80 (loopT []) 400 a80 [PV.int .i64 p0] (fun rv => decR (RSh.one CK.bool) rv.pv) = trWind F p0 := by kernel_rfl
noncomputable abbrev FrWind (args : List PV) := Fn env 80 (RSh.one CK.bool) args
theorem FrWind_of  (p0 : Int) {res : (Bool)} (h : trWind (Fn env) p0 = some res) : FrWind [PV.int .i64 p0] = some res :=
  fn_of ErWind_ok rfl rfl lo_nil ((trWind_eq _ _).trans h)
def ErLegE : List Entry := [.out 29 (RSh.one CK.bool)]
theorem ErLegE_ok : ∀ e ∈ ErLegE, EntOK env e := (ent_out ent_nil)
def trLegE (F : FnT) (p0_0 : Int) (p0_1 : Int) (p0_2 : Int) : Option (Int) :=
  bindO (F 29 (RSh.one CK.bool) [(PV.int .i64 p0_0), (PV.int .i64 (-1000 : Int)), (PV.int .i64 (1000 : Int))]) fun (y0 : (Bool)) =>
  bif y0 then
    bindO (F 29 (RSh.one CK.bool) [(PV.int .i64 p0_1), (PV.int .i64 (-1000 : Int)), (PV.int .i64 (1000 : Int))]) fun (y1 : (Bool)) =>
    bif y1 then
      bindO (F 29 (RSh.one CK.bool) [(PV.int .i64 p0_2), (PV.int .i64 (1 : Int)), (PV.int .i64 (1000 : Int))]) fun (y2 : (Bool)) =>
      bif y2 then
        bif ((w64 ((w64 (p0_0 * p0_0)) + (w64 (p0_1 * p0_1)))) != (w64 (p0_2 * p0_2))) then
          some (3 : Int)
        else some (0 : Int)
      else some (2 : Int)
    else some (2 : Int)
  else some (2 : Int)
theorem trLegE_eq (F : FnT) (p0_0 : Int) (p0_1 : Int) (p0_2 : Int) : semF (callP F ErLegE 20) s15 (loopT []) 400 a15 [PV.agg [PV.int .i64 p0_0, PV.int .i64 p0_1, PV.int .i64 p0_2]] (fun rv => decR (RSh.one (CK.int .i64)) rv.pv) = trLegE F p0_0 p0_1 p0_2 := by kernel_rfl
noncomputable abbrev FrLegE (args : List PV) := Fn env 15 (RSh.one (CK.int .i64)) args
theorem FrLegE_of  (p0_0 : Int) (p0_1 : Int) (p0_2 : Int) {res : (Int)} (h : trLegE (Fn env) p0_0 p0_1 p0_2 = some res) : FrLegE [PV.agg [PV.int .i64 p0_0, PV.int .i64 p0_1, PV.int .i64 p0_2]] = some res :=
  fn_of ErLegE_ok rfl rfl lo_nil ((trLegE_eq _ _ _ _).trans h)
def ErBoxE : List Entry := [.out 80 (RSh.one CK.bool)]
theorem ErBoxE_ok : ∀ e ∈ ErBoxE, EntOK env e := (ent_out ent_nil)
def trBoxE (F : FnT) (p0_0 : Int) (p0_1 : Int) (p0_2 : Int) (p0_3 : Int) : Option (Int) :=
  bindO (F 80 (RSh.one CK.bool) [(PV.int .i64 p0_0)]) fun (y0 : (Bool)) =>
  bif y0 then
    bindO (F 80 (RSh.one CK.bool) [(PV.int .i64 p0_1)]) fun (y1 : (Bool)) =>
    bif y1 then
      bindO (F 80 (RSh.one CK.bool) [(PV.int .i64 p0_2)]) fun (y2 : (Bool)) =>
      bif y2 then
        bindO (F 80 (RSh.one CK.bool) [(PV.int .i64 p0_3)]) fun (y3 : (Bool)) =>
        bif y3 then
          bif (decide (p0_0 > p0_1)) then
            some (9 : Int)
          else bif (decide (p0_2 > p0_3)) then
            some (9 : Int)
          else some (0 : Int)
        else some (2 : Int)
      else some (2 : Int)
    else some (2 : Int)
  else some (2 : Int)
theorem trBoxE_eq (F : FnT) (p0_0 : Int) (p0_1 : Int) (p0_2 : Int) (p0_3 : Int) : semF (callP F ErBoxE 20) s17 (loopT []) 400 a17 [PV.agg [PV.int .i64 p0_0, PV.int .i64 p0_1, PV.int .i64 p0_2, PV.int .i64 p0_3]] (fun rv => decR (RSh.one (CK.int .i64)) rv.pv) = trBoxE F p0_0 p0_1 p0_2 p0_3 := by kernel_rfl
noncomputable abbrev FrBoxE (args : List PV) := Fn env 17 (RSh.one (CK.int .i64)) args
theorem FrBoxE_of  (p0_0 : Int) (p0_1 : Int) (p0_2 : Int) (p0_3 : Int) {res : (Int)} (h : trBoxE (Fn env) p0_0 p0_1 p0_2 p0_3 = some res) : FrBoxE [PV.agg [PV.int .i64 p0_0, PV.int .i64 p0_1, PV.int .i64 p0_2, PV.int .i64 p0_3]] = some res :=
  fn_of ErBoxE_ok rfl rfl lo_nil ((trBoxE_eq _ _ _ _ _).trans h)
def ErHead : List Entry := [.out 81 (RSh.one (CK.int .i64)), .out 82 (RSh.one (CK.int .i64))]
theorem ErHead_ok : ∀ e ∈ ErHead, EntOK env e := (ent_out (ent_out ent_nil))
def TrHead_0a (i0 : Int) (i1 : Int) (i2 : Int) (i3 : Int) (i4 : Int) (i5 : Int) (i6 : Int) (i7 : Int) (i8 : Int) (i9 : Int) (i10 : Int) : Q := ⟨(tm 69 [(2, (AV.loc 2 0)), (4, (AV.loc 4 0)), (5, (AV.loc 5 0)), (6, (AV.loc 6 0)), (7, (AV.loc 7 0)), (8, (AV.p (PV.int .i64 (0 : Int))))]), (mm 69 [(2, (Bk.pcs true [(PV.int .i64 i0), (PV.int .i64 i1), (PV.int .i64 i2)])), (3, (Bk.pcs true [(PV.int .i64 i3), (PV.int .i64 i4), (PV.int .i64 i5), (PV.int .i64 i6)])), (4, (Bk.pcs true [(PV.int .i64 (0 : Int)), (PV.int .i64 (0 : Int))])), (5, (Bk.pcs true [(PV.int .i64 (0 : Int)), (PV.int .i64 (0 : Int))])), (6, (Bk.pcs true [(PV.int .i64 i7), (PV.int .i64 i8)])), (7, (Bk.pcs true [(PV.int .i64 i9), (PV.int .i64 i10)]))])⟩
def TrHead_0b (i0 : Int) (i1 : Int) (i2 : Int) (i3 : Int) (i4 : Int) (i5 : Int) (i6 : Int) (i7 : Int) (i8 : Int) (i9 : Int) : Q := ⟨(tm 69 [(2, (AV.loc 2 0)), (4, (AV.loc 4 0)), (5, (AV.loc 5 0)), (6, (AV.loc 6 0)), (7, (AV.loc 7 0)), (8, (AV.p (PV.int .i64 i0)))]), (mm 69 [(2, (Bk.pcs true [(PV.int .i64 i1), (PV.int .i64 i2), (PV.int .i64 i3)])), (4, (Bk.pcs true [(PV.int .i64 (0 : Int)), (PV.int .i64 (0 : Int))])), (5, (Bk.pcs true [(PV.int .i64 i4), (PV.int .i64 i5)])), (6, (Bk.pcs true [(PV.int .i64 i6), (PV.int .i64 i7)])), (7, (Bk.pcs true [(PV.int .i64 i8), (PV.int .i64 i9)]))])⟩
def XrHead_0a (y : Int × Int × Int × Int × Int × Int × Int × Int × Int) : Ext × Q := (Ext.normal, ⟨(tm 69 [(4, (AV.loc 4 0)), (5, (AV.loc 5 0))]), (mm 69 [(2, (Bk.pcs true [(PV.int .i64 y.1), (PV.int .i64 y.2.1), (PV.int .i64 y.2.2.1)])), (4, (Bk.pcs true [(PV.int .i64 (0 : Int)), (PV.int .i64 (0 : Int))])), (5, (Bk.pcs true [(PV.int .i64 y.2.2.2.1), (PV.int .i64 y.2.2.2.2.1)])), (6, (Bk.pcs true [(PV.int .i64 y.2.2.2.2.2.1), (PV.int .i64 y.2.2.2.2.2.2.1)])), (7, (Bk.pcs true [(PV.int .i64 y.2.2.2.2.2.2.2.1), (PV.int .i64 y.2.2.2.2.2.2.2.2)]))])⟩)
def IrHead_0a (q : Ext × S) : Int × Int × Int × Int × Int × Int × Int × Int × Int := ((pP_int1 (hdP (pB_pcs1 (avM q.2 2)))), (pP_int1 (hdP (List.tail (pB_pcs1 (avM q.2 2))))), (pP_int1 (hdP (List.tail (List.tail (pB_pcs1 (avM q.2 2)))))), (pP_int1 (hdP (pB_pcs1 (avM q.2 5)))), (pP_int1 (hdP (List.tail (pB_pcs1 (avM q.2 5))))), (pP_int1 (hdP (pB_pcs1 (avM q.2 6)))), (pP_int1 (hdP (List.tail (pB_pcs1 (avM q.2 6))))), (pP_int1 (hdP (pB_pcs1 (avM q.2 7)))), (pP_int1 (hdP (List.tail (pB_pcs1 (avM q.2 7))))))
abbrev YrHead_0 : Type := Int × Int × Int × Int × Int × Int × Int × Int × Int
def XLrHead_0 : XL YrHead_0 := .one XrHead_0a
def IrHead_0 (q : Ext × S) : YrHead_0 := (IrHead_0a q)
theorem XIrHead_0a (y : Int × Int × Int × Int × Int × Int × Int × Int × Int) : IrHead_0 (xe (XrHead_0a y)) = y := rfl
theorem XIrHead_0 (y : YrHead_0) : IrHead_0 (xe (XLrHead_0.fn y)) = y := XIrHead_0a y
noncomputable abbrev LrHead_0 : Q → Option YrHead_0 := lpO env a19.body 0 XLrHead_0
noncomputable abbrev RrHead_0 : Q → Option (Ext × S) := lpR env a19.body 0
theorem LrHead_0a_of {s : Q} {y : Int × Int × Int × Int × Int × Int × Int × Int × Int} (h : RrHead_0 s = exO (XrHead_0a y)) : LrHead_0 s = some y := lpO_of IrHead_0 XIrHead_0 (y := y) h
theorem UrHead : uniq ((blocksOf a19.body).map (·.1)) = true := by kernel_rfl
def BrHead_0a (F : FnT) (N : QO) (_E : EO) (_L0 : Q → Option YrHead_0) (i0 : Int) (i1 : Int) (i2 : Int) (_i3 : Int) (_i4 : Int) (_i5 : Int) (_i6 : Int) (i7 : Int) (i8 : Int) (i9 : Int) (i10 : Int) : Option (Ext × S) :=
  bindO (F 81 (RSh.one (CK.int .i64)) [(PV.int .i64 (w64 ((0 : Int) - (w64 ((w64 (i0 * i7)) + (w64 (i1 * i9))))))), (PV.int .i64 i2)]) fun (y0 : (Int)) =>
  bindO (F 82 (RSh.one (CK.int .i64)) [(PV.int .i64 (w64 ((0 : Int) - (w64 ((w64 (i0 * i7)) + (w64 (i1 * i9))))))), (PV.int .i64 i2)]) fun (y1 : (Int)) =>
  N (TrHead_0b (1 : Int) i0 i1 i2 (if (y0 < y0) then y0 else y0) (if (y1 > y1) then y1 else y1) i7 i8 i9 i10)
theorem BrHead_0a_eq (F : FnT) (N : QO) (E : EO) (L0 : Q → Option YrHead_0) (i0 : Int) (i1 : Int) (i2 : Int) (i3 : Int) (i4 : Int) (i5 : Int) (i6 : Int) (i7 : Int) (i8 : Int) (i9 : Int) (i10 : Int) : semB (callP F ErHead 20) s19 (loopT [⟨0, YrHead_0, L0, XLrHead_0⟩]) 400 (blkIn a19.body 0) N E (TrHead_0a i0 i1 i2 i3 i4 i5 i6 i7 i8 i9 i10) = BrHead_0a F N E L0 i0 i1 i2 i3 i4 i5 i6 i7 i8 i9 i10 := by kernel_rfl
theorem RrHead_0a_of  (i0 : Int) (i1 : Int) (i2 : Int) (i3 : Int) (i4 : Int) (i5 : Int) (i6 : Int) (i7 : Int) (i8 : Int) (i9 : Int) (i10 : Int) {r : Ext × S} (h : BrHead_0a (Fn env) RrHead_0 exO LrHead_0 i0 i1 i2 i3 i4 i5 i6 i7 i8 i9 i10 = some r) : RrHead_0 (TrHead_0a i0 i1 i2 i3 i4 i5 i6 i7 i8 i9 i10) = some r :=
  lp_of ErHead_ok (by kernel_rfl) (lo_cons (lpO_ok UrHead) lo_nil) (by kernel_rfl) ((BrHead_0a_eq _ _ _ _ _ _ _ _ _ _ _ _ _ _ _).trans h)
def BrHead_0b (F : FnT) (N : QO) (E : EO) (_L0 : Q → Option YrHead_0) (i0 : Int) (i1 : Int) (i2 : Int) (i3 : Int) (i4 : Int) (i5 : Int) (i6 : Int) (i7 : Int) (i8 : Int) (i9 : Int) : Option (Ext × S) :=
  bif (decide (i0 < (4 : Int))) then
    bif (decide (((0 : Int) ≤ (w64 (Int.tdiv i0 (2 : Int)))) ∧ ((w64 (Int.tdiv i0 (2 : Int))) < (2 : Int)))) then
      bindO (intC .i64 ([(PV.int .i64 i6), (PV.int .i64 i7)][(0 + ((Int.toNat (w64 (Int.tdiv i0 (2 : Int)))) * 1))]?)) fun x0 =>
      bif (decide (((0 : Int) ≤ (Int.tmod i0 (2 : Int))) ∧ ((Int.tmod i0 (2 : Int)) < (2 : Int)))) then
        bindO (intC .i64 ([(PV.int .i64 i8), (PV.int .i64 i9)][(0 + ((Int.toNat (Int.tmod i0 (2 : Int))) * 1))]?)) fun x1 =>
        bindO (F 81 (RSh.one (CK.int .i64)) [(PV.int .i64 (w64 ((0 : Int) - (w64 ((w64 (i1 * x0)) + (w64 (i2 * x1))))))), (PV.int .i64 i3)]) fun (y2 : (Int)) =>
        bindO (F 82 (RSh.one (CK.int .i64)) [(PV.int .i64 (w64 ((0 : Int) - (w64 ((w64 (i1 * x0)) + (w64 (i2 * x1))))))), (PV.int .i64 i3)]) fun (y3 : (Int)) =>
        bif (i0 == (0 : Int)) then
          N (TrHead_0b (w64 (i0 + (1 : Int))) i1 i2 i3 (if (y2 < y2) then y2 else y2) (if (y3 > y3) then y3 else y3) i6 i7 i8 i9)
        else N (TrHead_0b (w64 (i0 + (1 : Int))) i1 i2 i3 (if (y2 < i4) then y2 else i4) (if (y3 > i5) then y3 else i5) i6 i7 i8 i9)
      else none
    else none
  else E (XrHead_0a (i1, i2, i3, i4, i5, i6, i7, i8, i9))
theorem BrHead_0b_eq (F : FnT) (N : QO) (E : EO) (L0 : Q → Option YrHead_0) (i0 : Int) (i1 : Int) (i2 : Int) (i3 : Int) (i4 : Int) (i5 : Int) (i6 : Int) (i7 : Int) (i8 : Int) (i9 : Int) : semB (callP F ErHead 20) s19 (loopT [⟨0, YrHead_0, L0, XLrHead_0⟩]) 400 (blkIn a19.body 0) N E (TrHead_0b i0 i1 i2 i3 i4 i5 i6 i7 i8 i9) = BrHead_0b F N E L0 i0 i1 i2 i3 i4 i5 i6 i7 i8 i9 := by kernel_rfl
theorem RrHead_0b_of  (i0 : Int) (i1 : Int) (i2 : Int) (i3 : Int) (i4 : Int) (i5 : Int) (i6 : Int) (i7 : Int) (i8 : Int) (i9 : Int) {r : Ext × S} (h : BrHead_0b (Fn env) RrHead_0 exO LrHead_0 i0 i1 i2 i3 i4 i5 i6 i7 i8 i9 = some r) : RrHead_0 (TrHead_0b i0 i1 i2 i3 i4 i5 i6 i7 i8 i9) = some r :=
  lp_of ErHead_ok (by kernel_rfl) (lo_cons (lpO_ok UrHead) lo_nil) (by kernel_rfl) ((BrHead_0b_eq _ _ _ _ _ _ _ _ _ _ _ _ _ _).trans h)
def trHead (_F : FnT) (L0 : Q → Option YrHead_0) (p0_0 : Int) (p0_1 : Int) (p0_2 : Int) (p1_0 : Int) (p1_1 : Int) (p1_2 : Int) (p1_3 : Int) : Option ((Int) × (Int)) :=
  bindO (L0 (TrHead_0a p0_0 p0_1 p0_2 p1_0 p1_1 p1_2 p1_3 p1_0 p1_1 p1_2 p1_3)) fun y0 =>
  some (y0.2.2.2.1, y0.2.2.2.2.1)
theorem trHead_eq (F : FnT) (L0 : Q → Option YrHead_0) (p0_0 : Int) (p0_1 : Int) (p0_2 : Int) (p1_0 : Int) (p1_1 : Int) (p1_2 : Int) (p1_3 : Int) : semF (callP F ErHead 20) s19 (loopT [⟨0, YrHead_0, L0, XLrHead_0⟩]) 400 a19 [PV.agg [PV.int .i64 p0_0, PV.int .i64 p0_1, PV.int .i64 p0_2], PV.agg [PV.int .i64 p1_0, PV.int .i64 p1_1, PV.int .i64 p1_2, PV.int .i64 p1_3]] (fun rv => decR (RSh.agg [(CK.int .i64), (CK.int .i64)]) rv.pv) = trHead F L0 p0_0 p0_1 p0_2 p1_0 p1_1 p1_2 p1_3 := by kernel_rfl
noncomputable abbrev FrHead (args : List PV) := Fn env 19 (RSh.agg [(CK.int .i64), (CK.int .i64)]) args
theorem FrHead_of  (p0_0 : Int) (p0_1 : Int) (p0_2 : Int) (p1_0 : Int) (p1_1 : Int) (p1_2 : Int) (p1_3 : Int) {res : ((Int) × (Int))} (h : trHead (Fn env) LrHead_0 p0_0 p0_1 p0_2 p1_0 p1_1 p1_2 p1_3 = some res) : FrHead [PV.agg [PV.int .i64 p0_0, PV.int .i64 p0_1, PV.int .i64 p0_2], PV.agg [PV.int .i64 p1_0, PV.int .i64 p1_1, PV.int .i64 p1_2, PV.int .i64 p1_3]] = some res :=
  fn_of ErHead_ok rfl rfl (lo_cons (lpO_ok UrHead) lo_nil) ((trHead_eq _ _ _ _ _ _ _ _ _).trans h)
end Gv
