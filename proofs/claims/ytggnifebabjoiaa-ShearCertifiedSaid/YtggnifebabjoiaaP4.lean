/- What the functions do, round by round: P4. -/
import Derived.Test.YtggnifebabjoiaaGvEnv
namespace Gv
open Go
set_option maxRecDepth 100000
def EtE : List Entry := [.out 112 (RSh.one (CK.int .i64)), .out 78 (RSh.one (CK.int .i64)), .out 73 (RSh.one (CK.int .i64))]
theorem EtE_ok : ∀ e ∈ EtE, EntOK env e := (ent_out (ent_out (ent_out ent_nil)))
def ttE (F : FnT) (p0_0 p0_1 p0_2 p0_3 : Int) : Option (Int) :=
  bindO (F 112 (RSh.one (CK.int .i64)) [(PV.int .i64 p0_0)]) fun (y0 : (Int)) =>
  bindO (F 78 (RSh.one (CK.int .i64)) [(PV.int .i64 p0_1), (PV.int .i64 (0 : Int)), (PV.int .i64 (62500 : Int))]) fun (y1 : (Int)) =>
  bindO (F 78 (RSh.one (CK.int .i64)) [(PV.int .i64 p0_3), (PV.int .i64 (0 : Int)), (PV.int .i64 (62500 : Int))]) fun (y2 : (Int)) =>
  bindO (F 78 (RSh.one (CK.int .i64)) [(PV.int .i64 p0_2), (PV.int .i64 (0 : Int)), (PV.int .i64 (2 : Int))]) fun (y3 : (Int)) =>
  bindO (F 73 (RSh.one (CK.int .i64)) [(PV.list 4 [(PV.int .i64 y0), (PV.int .i64 y1), (PV.int .i64 y2), (PV.int .i64 y3)])]) fun (y4 : (Int)) =>
  some y4
theorem ttE_eq (F : FnT) (p0_0 p0_1 p0_2 p0_3 : Int) : semF (callP F EtE 20) s109 (loopT []) 400 a109 [PV.agg [PV.int .i64 p0_0, PV.int .i64 p0_1, PV.int .i64 p0_2, PV.int .i64 p0_3]] (fun rv => decR (RSh.one (CK.int .i64)) rv.pv) = ttE F p0_0 p0_1 p0_2 p0_3 := by kernel_rfl
noncomputable abbrev FtE (args : List PV) := Fn env 109 (RSh.one (CK.int .i64)) args
theorem FtE_of  (p0_0 p0_1 p0_2 p0_3 : Int) {res : (Int)} (h : ttE (Fn env) p0_0 p0_1 p0_2 p0_3 = some res) : FtE [PV.agg [PV.int .i64 p0_0, PV.int .i64 p0_1, PV.int .i64 p0_2, PV.int .i64 p0_3]] = some res :=
  fn_of EtE_ok rfl rfl lo_nil ((ttE_eq _ _ _ _ _).trans h)
def EisPrv : List Entry := []
theorem EisPrv_ok : ∀ e ∈ EisPrv, EntOK env e := ent_nil
def TisPrv_0a (i0 i1 i2 i3 i4 i5 i6 i7 i8 i9 i10 i11 i12 i13 : Int) : Q := ⟨(tm 21 [(3, (AV.p (PV.int .i64 (0 : Int)))), (6, (AV.p (PV.agg [(PV.int .i64 i0), (PV.int .i64 i1), (PV.int .i64 i2), (PV.int .i64 i3), (PV.int .i64 i4), (PV.int .i64 i5), (PV.int .i64 i6)]))), (7, (AV.p (PV.int .i64 (0 : Int))))]), (mm 21 [(1, (Bk.pcs true [(PV.int .i64 i7), (PV.int .i64 i8), (PV.int .i64 i9), (PV.int .i64 i10), (PV.int .i64 i11), (PV.int .i64 i12), (PV.int .i64 i13)]))])⟩
def TisPrv_0b (i0 i1 i2 i3 i4 i5 i6 i7 i8 : Int) : Q := ⟨(tm 21 [(3, (AV.p (PV.int .i64 i0))), (6, (AV.p (PV.agg [(PV.int .i64 i1), (PV.int .i64 i2), (PV.int .i64 i3), (PV.int .i64 i4), (PV.int .i64 i5), (PV.int .i64 i6), (PV.int .i64 i7)]))), (7, (AV.p (PV.int .i64 i8)))]), (mm 21 [])⟩
def XisPrv_0a (y : Int) : Ext × Q := (Ext.normal, ⟨(tm 21 [(3, (AV.p (PV.int .i64 y)))]), (mm 21 [])⟩)
def IisPrv_0a (q : Ext × S) : Int := (pP_int1 (pA_p (avT q.2 3)))
abbrev YisPrv_0 : Type := Int
def XLisPrv_0 : XL YisPrv_0 := .one XisPrv_0a
def IisPrv_0 (q : Ext × S) : YisPrv_0 := (IisPrv_0a q)
theorem XIisPrv_0a (y : Int) : IisPrv_0 (xe (XisPrv_0a y)) = y := by kernel_rfl
theorem XIisPrv_0 (y : YisPrv_0) : IisPrv_0 (xe (XLisPrv_0.fn y)) = y := XIisPrv_0a y
noncomputable abbrev LisPrv_0 : Q → Option YisPrv_0 := lpO env a110.body 0 XLisPrv_0
noncomputable abbrev RisPrv_0 : Q → Option (Ext × S) := lpR env a110.body 0
theorem LisPrv_0a_of {s : Q} {y : Int} (h : RisPrv_0 s = exO (XisPrv_0a y)) : LisPrv_0 s = some y := lpO_of IisPrv_0 XIisPrv_0 (y := y) h
theorem UisPrv : uniq ((blocksOf a110.body).map (·.1)) = true := by kernel_rfl
def BisPrv_0a (_F : FnT) (N : QO) (_E : EO) (_L0 : Q → Option YisPrv_0) (i0 i1 i2 i3 i4 i5 i6 _i7 _i8 _i9 _i10 _i11 _i12 _i13 : Int) : Option (Ext × S) :=
  N (TisPrv_0b (w64 ((0 : Int) + (w64 ((1 : Int) * i0)))) i0 i1 i2 i3 i4 i5 i6 (1 : Int))
theorem BisPrv_0a_eq (F : FnT) (N : QO) (E : EO) (L0 : Q → Option YisPrv_0) (i0 i1 i2 i3 i4 i5 i6 i7 i8 i9 i10 i11 i12 i13 : Int) : semB (callP F EisPrv 20) s110 (loopT [⟨0, YisPrv_0, L0, XLisPrv_0⟩]) 400 (blkIn a110.body 0) N E (TisPrv_0a i0 i1 i2 i3 i4 i5 i6 i7 i8 i9 i10 i11 i12 i13) = BisPrv_0a F N E L0 i0 i1 i2 i3 i4 i5 i6 i7 i8 i9 i10 i11 i12 i13 := by kernel_rfl
theorem RisPrv_0a_of  (i0 i1 i2 i3 i4 i5 i6 i7 i8 i9 i10 i11 i12 i13 : Int) {r : Ext × S} (h : BisPrv_0a (Fn env) RisPrv_0 exO LisPrv_0 i0 i1 i2 i3 i4 i5 i6 i7 i8 i9 i10 i11 i12 i13 = some r) : RisPrv_0 (TisPrv_0a i0 i1 i2 i3 i4 i5 i6 i7 i8 i9 i10 i11 i12 i13) = some r :=
  lp_of EisPrv_ok (by kernel_rfl) (lo_cons (lpO_ok UisPrv) lo_nil) (by kernel_rfl) ((BisPrv_0a_eq _ _ _ _ _ _ _ _ _ _ _ _ _ _ _ _ _ _).trans h)
def BisPrv_0b (_F : FnT) (N : QO) (E : EO) (_L0 : Q → Option YisPrv_0) (i0 i1 i2 i3 i4 i5 i6 i7 i8 : Int) : Option (Ext × S) :=
  bif (decide (i8 < (7 : Int))) then
    bif (decide (((0 : Int) ≤ i8) ∧ (i8 < (7 : Int)))) then
      bindO (intC .i64 ([(PV.int .i64 i1), (PV.int .i64 i2), (PV.int .i64 i3), (PV.int .i64 i4), (PV.int .i64 i5), (PV.int .i64 i6), (PV.int .i64 i7)][((Int.toNat i8) * 1)]?)) fun x0 =>
      N (TisPrv_0b (w64 (i0 + (w64 ((w64 (i8 + (1 : Int))) * x0)))) i1 i2 i3 i4 i5 i6 i7 (w64 (i8 + (1 : Int))))
    else none
  else E (XisPrv_0a i0)
theorem BisPrv_0b_eq (F : FnT) (N : QO) (E : EO) (L0 : Q → Option YisPrv_0) (i0 i1 i2 i3 i4 i5 i6 i7 i8 : Int) : semB (callP F EisPrv 20) s110 (loopT [⟨0, YisPrv_0, L0, XLisPrv_0⟩]) 400 (blkIn a110.body 0) N E (TisPrv_0b i0 i1 i2 i3 i4 i5 i6 i7 i8) = BisPrv_0b F N E L0 i0 i1 i2 i3 i4 i5 i6 i7 i8 := by kernel_rfl
theorem RisPrv_0b_of  (i0 i1 i2 i3 i4 i5 i6 i7 i8 : Int) {r : Ext × S} (h : BisPrv_0b (Fn env) RisPrv_0 exO LisPrv_0 i0 i1 i2 i3 i4 i5 i6 i7 i8 = some r) : RisPrv_0 (TisPrv_0b i0 i1 i2 i3 i4 i5 i6 i7 i8) = some r :=
  lp_of EisPrv_ok (by kernel_rfl) (lo_cons (lpO_ok UisPrv) lo_nil) (by kernel_rfl) ((BisPrv_0b_eq _ _ _ _ _ _ _ _ _ _ _ _ _).trans h)
def tisPrv (_F : FnT) (L0 : Q → Option YisPrv_0) (p0_0 p0_1 p0_2 p0_3 p0_4 p0_5 p0_6 : Int) : Option (Bool) :=
  bindO (L0 (TisPrv_0a p0_0 p0_1 p0_2 p0_3 p0_4 p0_5 p0_6 p0_0 p0_1 p0_2 p0_3 p0_4 p0_5 p0_6)) fun y0 =>
  bif ((Int.tmod y0 (251 : Int)) == (0 : Int)) then
    some true
  else some false
theorem tisPrv_eq (F : FnT) (L0 : Q → Option YisPrv_0) (p0_0 p0_1 p0_2 p0_3 p0_4 p0_5 p0_6 : Int) : semF (callP F EisPrv 20) s110 (loopT [⟨0, YisPrv_0, L0, XLisPrv_0⟩]) 400 a110 [PV.agg [PV.int .i64 p0_0, PV.int .i64 p0_1, PV.int .i64 p0_2, PV.int .i64 p0_3, PV.int .i64 p0_4, PV.int .i64 p0_5, PV.int .i64 p0_6]] (fun rv => decR (RSh.one CK.bool) rv.pv) = tisPrv F L0 p0_0 p0_1 p0_2 p0_3 p0_4 p0_5 p0_6 := by kernel_rfl
noncomputable abbrev FisPrv (args : List PV) := Fn env 110 (RSh.one CK.bool) args
theorem FisPrv_of  (p0_0 p0_1 p0_2 p0_3 p0_4 p0_5 p0_6 : Int) {res : (Bool)} (h : tisPrv (Fn env) LisPrv_0 p0_0 p0_1 p0_2 p0_3 p0_4 p0_5 p0_6 = some res) : FisPrv [PV.agg [PV.int .i64 p0_0, PV.int .i64 p0_1, PV.int .i64 p0_2, PV.int .i64 p0_3, PV.int .i64 p0_4, PV.int .i64 p0_5, PV.int .i64 p0_6]] = some res :=
  fn_of EisPrv_ok rfl rfl (lo_cons (lpO_ok UisPrv) lo_nil) ((tisPrv_eq _ _ _ _ _ _ _ _ _).trans h)
def Eenc : List Entry := [.out 109 (RSh.one (CK.int .i64)), .out 110 (RSh.one CK.bool)]
theorem Eenc_ok : ∀ e ∈ Eenc, EntOK env e := (ent_out (ent_out ent_nil))
def Tenc_0a (i0 i1 i2 i3 i4 i5 i6 i7 i8 i9 : Int) : Q := ⟨(tm 37 [(2, (AV.loc 2 0)), (5, (AV.loc 5 0))]), (mm 37 [(1, (Bk.pcs true [(PV.int .i64 i0), (PV.int .i64 i1), (PV.int .i64 i2), (PV.int .i64 i3)])), (2, (Bk.pcs true [(PV.int .i64 (0 : Int)), (PV.int .i64 (0 : Int)), (PV.int .i64 (0 : Int)), (PV.int .i64 (0 : Int)), (PV.int .i64 (0 : Int)), (PV.int .i64 (0 : Int)), (PV.int .i64 (0 : Int))])), (5, (Bk.pcs true [(PV.int .i64 i4), (PV.int .i64 i5), (PV.int .i64 i6), (PV.int .i64 i7), (PV.int .i64 i8), (PV.int .i64 i9), (PV.int .i64 (0 : Int))]))])⟩
def Tenc_0b (i0 i1 i2 i3 i4 i5 i6 : Int) : Q := ⟨(tm 37 [(2, (AV.loc 2 0)), (5, (AV.loc 5 0))]), (mm 37 [(2, (Bk.pcs true [(PV.int .i64 (0 : Int)), (PV.int .i64 (0 : Int)), (PV.int .i64 (0 : Int)), (PV.int .i64 (0 : Int)), (PV.int .i64 (0 : Int)), (PV.int .i64 (0 : Int)), (PV.int .i64 (0 : Int))])), (5, (Bk.pcs true [(PV.int .i64 i0), (PV.int .i64 i1), (PV.int .i64 i2), (PV.int .i64 i3), (PV.int .i64 i4), (PV.int .i64 i5), (PV.int .i64 i6)]))])⟩
def Xenc_0a (y : Int × Int × Int × Int × Int × Int × Int) : Ext × Q := (Ext.normal, ⟨(tm 37 [(2, (AV.loc 2 0)), (5, (AV.loc 5 0))]), (mm 37 [(2, (Bk.pcs true [(PV.int .i64 (0 : Int)), (PV.int .i64 (0 : Int)), (PV.int .i64 (0 : Int)), (PV.int .i64 (0 : Int)), (PV.int .i64 (0 : Int)), (PV.int .i64 (0 : Int)), (PV.int .i64 (0 : Int))])), (5, (Bk.pcs true [(PV.int .i64 y.1), (PV.int .i64 y.2.1), (PV.int .i64 y.2.2.1), (PV.int .i64 y.2.2.2.1), (PV.int .i64 y.2.2.2.2.1), (PV.int .i64 y.2.2.2.2.2.1), (PV.int .i64 y.2.2.2.2.2.2)]))])⟩)
def Ienc_0a (q : Ext × S) : Int × Int × Int × Int × Int × Int × Int := ((pP_int1 (hdP (pB_pcs1 (avM q.2 5)))), (pP_int1 (hdP (List.tail (pB_pcs1 (avM q.2 5))))), (pP_int1 (hdP (List.tail (List.tail (pB_pcs1 (avM q.2 5)))))), (pP_int1 (hdP (List.tail (List.tail (List.tail (pB_pcs1 (avM q.2 5))))))), (pP_int1 (hdP (List.tail (List.tail (List.tail (List.tail (pB_pcs1 (avM q.2 5)))))))), (pP_int1 (hdP (List.tail (List.tail (List.tail (List.tail (List.tail (pB_pcs1 (avM q.2 5))))))))), (pP_int1 (hdP (List.tail (List.tail (List.tail (List.tail (List.tail (List.tail (pB_pcs1 (avM q.2 5)))))))))))
abbrev Yenc_0 : Type := Int × Int × Int × Int × Int × Int × Int
def XLenc_0 : XL Yenc_0 := .one Xenc_0a
def Ienc_0 (q : Ext × S) : Yenc_0 := (Ienc_0a q)
theorem XIenc_0a (y : Int × Int × Int × Int × Int × Int × Int) : Ienc_0 (xe (Xenc_0a y)) = y := by kernel_rfl
theorem XIenc_0 (y : Yenc_0) : Ienc_0 (xe (XLenc_0.fn y)) = y := XIenc_0a y
noncomputable abbrev Lenc_0 : Q → Option Yenc_0 := lpO env a65.body 0 XLenc_0
noncomputable abbrev Renc_0 : Q → Option (Ext × S) := lpR env a65.body 0
theorem Lenc_0a_of {s : Q} {y : Int × Int × Int × Int × Int × Int × Int} (h : Renc_0 s = exO (Xenc_0a y)) : Lenc_0 s = some y := lpO_of Ienc_0 XIenc_0 (y := y) h
theorem Uenc : uniq ((blocksOf a65.body).map (·.1)) = true := by kernel_rfl
def Benc_0a (F : FnT) (N : QO) (E : EO) (_L0 : Q → Option Yenc_0) (_i0 _i1 _i2 _i3 i4 i5 i6 i7 i8 i9 : Int) : Option (Ext × S) :=
  bindO (F 110 (RSh.one CK.bool) [(PV.agg [(PV.int .i64 i4), (PV.int .i64 i5), (PV.int .i64 i6), (PV.int .i64 i7), (PV.int .i64 i8), (PV.int .i64 i9), (PV.int .i64 (0 : Int))])]) fun (y0 : (Bool)) =>
  bif y0 then
    E (Xenc_0a (i4, i5, i6, i7, i8, i9, (0 : Int)))
  else N (Tenc_0b i4 i5 i6 i7 i8 i9 (1 : Int))
theorem Benc_0a_eq (F : FnT) (N : QO) (E : EO) (L0 : Q → Option Yenc_0) (i0 i1 i2 i3 i4 i5 i6 i7 i8 i9 : Int) : semB (callP F Eenc 20) s65 (loopT [⟨0, Yenc_0, L0, XLenc_0⟩]) 400 (blkIn a65.body 0) N E (Tenc_0a i0 i1 i2 i3 i4 i5 i6 i7 i8 i9) = Benc_0a F N E L0 i0 i1 i2 i3 i4 i5 i6 i7 i8 i9 := by kernel_rfl
theorem Renc_0a_of  (i0 i1 i2 i3 i4 i5 i6 i7 i8 i9 : Int) {r : Ext × S} (h : Benc_0a (Fn env) Renc_0 exO Lenc_0 i0 i1 i2 i3 i4 i5 i6 i7 i8 i9 = some r) : Renc_0 (Tenc_0a i0 i1 i2 i3 i4 i5 i6 i7 i8 i9) = some r :=
  lp_of Eenc_ok (by kernel_rfl) (lo_cons (lpO_ok Uenc) lo_nil) (by kernel_rfl) ((Benc_0a_eq _ _ _ _ _ _ _ _ _ _ _ _ _ _).trans h)
def Benc_0b (F : FnT) (N : QO) (E : EO) (_L0 : Q → Option Yenc_0) (i0 i1 i2 i3 i4 i5 i6 : Int) : Option (Ext × S) :=
  bindO (F 110 (RSh.one CK.bool) [(PV.agg [(PV.int .i64 i0), (PV.int .i64 i1), (PV.int .i64 i2), (PV.int .i64 i3), (PV.int .i64 i4), (PV.int .i64 i5), (PV.int .i64 i6)])]) fun (y0 : (Bool)) =>
  bif y0 then
    E (Xenc_0a (i0, i1, i2, i3, i4, i5, i6))
  else N (Tenc_0b i0 i1 i2 i3 i4 i5 (w64 (i6 + (1 : Int))))
theorem Benc_0b_eq (F : FnT) (N : QO) (E : EO) (L0 : Q → Option Yenc_0) (i0 i1 i2 i3 i4 i5 i6 : Int) : semB (callP F Eenc 20) s65 (loopT [⟨0, Yenc_0, L0, XLenc_0⟩]) 400 (blkIn a65.body 0) N E (Tenc_0b i0 i1 i2 i3 i4 i5 i6) = Benc_0b F N E L0 i0 i1 i2 i3 i4 i5 i6 := by kernel_rfl
theorem Renc_0b_of  (i0 i1 i2 i3 i4 i5 i6 : Int) {r : Ext × S} (h : Benc_0b (Fn env) Renc_0 exO Lenc_0 i0 i1 i2 i3 i4 i5 i6 = some r) : Renc_0 (Tenc_0b i0 i1 i2 i3 i4 i5 i6) = some r :=
  lp_of Eenc_ok (by kernel_rfl) (lo_cons (lpO_ok Uenc) lo_nil) (by kernel_rfl) ((Benc_0b_eq _ _ _ _ _ _ _ _ _ _ _).trans h)
def tenc (F : FnT) (L0 : Q → Option Yenc_0) (p0_0 p0_1 p0_2 p0_3 : Int) : Option ((Int) × ((Int) × ((Int) × ((Int) × ((Int) × ((Int) × ((Int) × (Int)))))))) :=
  bindO (F 109 (RSh.one (CK.int .i64)) [(PV.agg [(PV.int .i64 p0_0), (PV.int .i64 p0_1), (PV.int .i64 p0_2), (PV.int .i64 p0_3)])]) fun (y0 : (Int)) =>
  bif (y0 != (0 : Int)) then
    some ((0 : Int), ((0 : Int), ((0 : Int), ((0 : Int), ((0 : Int), ((0 : Int), ((0 : Int), y0)))))))
  else bindO (L0 (Tenc_0a p0_0 p0_1 p0_2 p0_3 p0_0 (w64 (Int.tdiv p0_1 (251 : Int))) (Int.tmod p0_1 (251 : Int)) p0_2 (w64 (Int.tdiv p0_3 (251 : Int))) (Int.tmod p0_3 (251 : Int)))) fun y1 =>
  some (y1.1, (y1.2.1, (y1.2.2.1, (y1.2.2.2.1, (y1.2.2.2.2.1, (y1.2.2.2.2.2.1, (y1.2.2.2.2.2.2, (0 : Int))))))))
theorem tenc_eq (F : FnT) (L0 : Q → Option Yenc_0) (p0_0 p0_1 p0_2 p0_3 : Int) : semF (callP F Eenc 20) s65 (loopT [⟨0, Yenc_0, L0, XLenc_0⟩]) 400 a65 [PV.agg [PV.int .i64 p0_0, PV.int .i64 p0_1, PV.int .i64 p0_2, PV.int .i64 p0_3]] (fun rv => decR (RSh.tup [(Prod.mk true [(CK.int .i64), (CK.int .i64), (CK.int .i64), (CK.int .i64), (CK.int .i64), (CK.int .i64), (CK.int .i64)]), (Prod.mk false [(CK.int .i64)])]) rv.pv) = tenc F L0 p0_0 p0_1 p0_2 p0_3 := by kernel_rfl
noncomputable abbrev Fenc (args : List PV) := Fn env 65 (RSh.tup [(Prod.mk true [(CK.int .i64), (CK.int .i64), (CK.int .i64), (CK.int .i64), (CK.int .i64), (CK.int .i64), (CK.int .i64)]), (Prod.mk false [(CK.int .i64)])]) args
theorem Fenc_of  (p0_0 p0_1 p0_2 p0_3 : Int) {res : ((Int) × ((Int) × ((Int) × ((Int) × ((Int) × ((Int) × ((Int) × (Int))))))))} (h : tenc (Fn env) Lenc_0 p0_0 p0_1 p0_2 p0_3 = some res) : Fenc [PV.agg [PV.int .i64 p0_0, PV.int .i64 p0_1, PV.int .i64 p0_2, PV.int .i64 p0_3]] = some res :=
  fn_of Eenc_ok rfl rfl (lo_cons (lpO_ok Uenc) lo_nil) ((tenc_eq _ _ _ _ _ _).trans h)
end Gv
