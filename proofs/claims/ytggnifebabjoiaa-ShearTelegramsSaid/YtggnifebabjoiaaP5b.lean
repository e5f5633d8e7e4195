/- What the functions do, round by round: P5b. -/
import Derived.Test.YtggnifebabjoiaaGvEnv
namespace Gv
open Go
set_option maxRecDepth 100000
def ErTE : List Entry := [.out 29 (RSh.one CK.bool)]
theorem ErTE_ok : ∀ e ∈ ErTE, EntOK env e := (ent_out ent_nil)
def trTE (F : FnT) (p0_0 : Int) (p0_1 : Int) (p0_2 : Int) (p0_3 : Int) : Option (Int) :=
  bindO (F 29 (RSh.one CK.bool) [(PV.int .i64 p0_0), (PV.int .i64 (0 : Int)), (PV.int .i64 (250 : Int))]) fun (y0 : (Bool)) =>
  bif y0 then
    bindO (F 29 (RSh.one CK.bool) [(PV.int .i64 p0_1), (PV.int .i64 (0 : Int)), (PV.int .i64 (62500 : Int))]) fun (y1 : (Bool)) =>
    bif y1 then
      bindO (F 29 (RSh.one CK.bool) [(PV.int .i64 p0_3), (PV.int .i64 (0 : Int)), (PV.int .i64 (62500 : Int))]) fun (y2 : (Bool)) =>
      bif y2 then
        bindO (F 29 (RSh.one CK.bool) [(PV.int .i64 p0_2), (PV.int .i64 (0 : Int)), (PV.int .i64 (2 : Int))]) fun (y3 : (Bool)) =>
        bif y3 then
          some (0 : Int)
        else some (2 : Int)
      else some (2 : Int)
    else some (2 : Int)
  else some (2 : Int)
theorem trTE_eq (F : FnT) (p0_0 : Int) (p0_1 : Int) (p0_2 : Int) (p0_3 : Int) : semF (callP F ErTE 20) s67 (loopT []) 400 a67 [PV.agg [PV.int .i64 p0_0, PV.int .i64 p0_1, PV.int .i64 p0_2, PV.int .i64 p0_3]] (fun rv => decR (RSh.one (CK.int .i64)) rv.pv) = trTE F p0_0 p0_1 p0_2 p0_3 := by kernel_rfl
noncomputable abbrev FrTE (args : List PV) := Fn env 67 (RSh.one (CK.int .i64)) args
theorem FrTE_of  (p0_0 : Int) (p0_1 : Int) (p0_2 : Int) (p0_3 : Int) {res : (Int)} (h : trTE (Fn env) p0_0 p0_1 p0_2 p0_3 = some res) : FrTE [PV.agg [PV.int .i64 p0_0, PV.int .i64 p0_1, PV.int .i64 p0_2, PV.int .i64 p0_3]] = some res :=
  fn_of ErTE_ok rfl rfl lo_nil ((trTE_eq _ _ _ _ _).trans h)
def ErSum : List Entry := []
theorem ErSum_ok : ∀ e ∈ ErSum, EntOK env e := ent_nil
def TrSum_0a (i0 : Int) (i1 : Int) (i2 : Int) (i3 : Int) (i4 : Int) (i5 : Int) (i6 : Int) (i7 : Int) (i8 : Int) : Q := ⟨(tm 18 [(1, (AV.loc 1 0)), (3, (AV.p (PV.int .i64 i0))), (4, (AV.p (PV.int .i64 i1)))]), (mm 18 [(1, (Bk.pcs true [(PV.int .i64 i2), (PV.int .i64 i3), (PV.int .i64 i4), (PV.int .i64 i5), (PV.int .i64 i6), (PV.int .i64 i7), (PV.int .i64 i8)]))])⟩
def XrSum_0a (y : Int × Int × Int × Int × Int × Int × Int × Int) : Ext × Q := (Ext.normal, ⟨(tm 18 [(3, (AV.p (PV.int .i64 y.1)))]), (mm 18 [(1, (Bk.pcs true [(PV.int .i64 y.2.1), (PV.int .i64 y.2.2.1), (PV.int .i64 y.2.2.2.1), (PV.int .i64 y.2.2.2.2.1), (PV.int .i64 y.2.2.2.2.2.1), (PV.int .i64 y.2.2.2.2.2.2.1), (PV.int .i64 y.2.2.2.2.2.2.2)]))])⟩)
def IrSum_0a (q : Ext × S) : Int × Int × Int × Int × Int × Int × Int × Int := ((pP_int1 (pA_p (avT q.2 3))), (pP_int1 (hdP (pB_pcs1 (avM q.2 1)))), (pP_int1 (hdP (List.tail (pB_pcs1 (avM q.2 1))))), (pP_int1 (hdP (List.tail (List.tail (pB_pcs1 (avM q.2 1)))))), (pP_int1 (hdP (List.tail (List.tail (List.tail (pB_pcs1 (avM q.2 1))))))), (pP_int1 (hdP (List.tail (List.tail (List.tail (List.tail (pB_pcs1 (avM q.2 1)))))))), (pP_int1 (hdP (List.tail (List.tail (List.tail (List.tail (List.tail (pB_pcs1 (avM q.2 1))))))))), (pP_int1 (hdP (List.tail (List.tail (List.tail (List.tail (List.tail (List.tail (pB_pcs1 (avM q.2 1)))))))))))
abbrev YrSum_0 : Type := Int × Int × Int × Int × Int × Int × Int × Int
def XLrSum_0 : XL YrSum_0 := .one XrSum_0a
def IrSum_0 (q : Ext × S) : YrSum_0 := (IrSum_0a q)
theorem XIrSum_0a (y : Int × Int × Int × Int × Int × Int × Int × Int) : IrSum_0 (xe (XrSum_0a y)) = y := rfl
theorem XIrSum_0 (y : YrSum_0) : IrSum_0 (xe (XLrSum_0.fn y)) = y := XIrSum_0a y
noncomputable abbrev LrSum_0 : Q → Option YrSum_0 := lpO env a113.body 0 XLrSum_0
noncomputable abbrev RrSum_0 : Q → Option (Ext × S) := lpR env a113.body 0
theorem LrSum_0a_of {s : Q} {y : Int × Int × Int × Int × Int × Int × Int × Int} (h : RrSum_0 s = exO (XrSum_0a y)) : LrSum_0 s = some y := lpO_of IrSum_0 XIrSum_0 (y := y) h
theorem UrSum : uniq ((blocksOf a113.body).map (·.1)) = true := by kernel_rfl
def BrSum_0a (_F : FnT) (N : QO) (E : EO) (_L0 : Q → Option YrSum_0) (i0 : Int) (i1 : Int) (i2 : Int) (i3 : Int) (i4 : Int) (i5 : Int) (i6 : Int) (i7 : Int) (i8 : Int) : Option (Ext × S) :=
  bif (decide (i1 < (7 : Int))) then
    bif (decide (((0 : Int) ≤ i1) ∧ (i1 < (7 : Int)))) then
      bindO (intC .i64 ([(PV.int .i64 i2), (PV.int .i64 i3), (PV.int .i64 i4), (PV.int .i64 i5), (PV.int .i64 i6), (PV.int .i64 i7), (PV.int .i64 i8)][(0 + ((Int.toNat i1) * 1))]?)) fun x0 =>
      N (TrSum_0a (w64 (i0 + (w64 ((w64 (i1 + (1 : Int))) * x0)))) (w64 (i1 + (1 : Int))) i2 i3 i4 i5 i6 i7 i8)
    else none
  else E (XrSum_0a (i0, i2, i3, i4, i5, i6, i7, i8))
theorem BrSum_0a_eq (F : FnT) (N : QO) (E : EO) (L0 : Q → Option YrSum_0) (i0 : Int) (i1 : Int) (i2 : Int) (i3 : Int) (i4 : Int) (i5 : Int) (i6 : Int) (i7 : Int) (i8 : Int) : semB (callP F ErSum 20) s113 (loopT [⟨0, YrSum_0, L0, XLrSum_0⟩]) 400 (blkIn a113.body 0) N E (TrSum_0a i0 i1 i2 i3 i4 i5 i6 i7 i8) = BrSum_0a F N E L0 i0 i1 i2 i3 i4 i5 i6 i7 i8 := by kernel_rfl
theorem RrSum_0a_of  (i0 : Int) (i1 : Int) (i2 : Int) (i3 : Int) (i4 : Int) (i5 : Int) (i6 : Int) (i7 : Int) (i8 : Int) {r : Ext × S} (h : BrSum_0a (Fn env) RrSum_0 exO LrSum_0 i0 i1 i2 i3 i4 i5 i6 i7 i8 = some r) : RrSum_0 (TrSum_0a i0 i1 i2 i3 i4 i5 i6 i7 i8) = some r :=
  lp_of ErSum_ok (by kernel_rfl) (lo_cons (lpO_ok UrSum) lo_nil) (by kernel_rfl) ((BrSum_0a_eq _ _ _ _ _ _ _ _ _ _ _ _ _).trans h)
def trSum (_F : FnT) (L0 : Q → Option YrSum_0) (p0_0 : Int) (p0_1 : Int) (p0_2 : Int) (p0_3 : Int) (p0_4 : Int) (p0_5 : Int) (p0_6 : Int) : Option (Int) :=
  bindO (L0 (TrSum_0a (0 : Int) (0 : Int) p0_0 p0_1 p0_2 p0_3 p0_4 p0_5 p0_6)) fun y0 =>
  some y0.1
theorem trSum_eq (F : FnT) (L0 : Q → Option YrSum_0) (p0_0 : Int) (p0_1 : Int) (p0_2 : Int) (p0_3 : Int) (p0_4 : Int) (p0_5 : Int) (p0_6 : Int) : semF (callP F ErSum 20) s113 (loopT [⟨0, YrSum_0, L0, XLrSum_0⟩]) 400 a113 [PV.agg [PV.int .i64 p0_0, PV.int .i64 p0_1, PV.int .i64 p0_2, PV.int .i64 p0_3, PV.int .i64 p0_4, PV.int .i64 p0_5, PV.int .i64 p0_6]] (fun rv => decR (RSh.one (CK.int .i64)) rv.pv) = trSum F L0 p0_0 p0_1 p0_2 p0_3 p0_4 p0_5 p0_6 := by kernel_rfl
noncomputable abbrev FrSum (args : List PV) := Fn env 113 (RSh.one (CK.int .i64)) args
theorem FrSum_of  (p0_0 : Int) (p0_1 : Int) (p0_2 : Int) (p0_3 : Int) (p0_4 : Int) (p0_5 : Int) (p0_6 : Int) {res : (Int)} (h : trSum (Fn env) LrSum_0 p0_0 p0_1 p0_2 p0_3 p0_4 p0_5 p0_6 = some res) : FrSum [PV.agg [PV.int .i64 p0_0, PV.int .i64 p0_1, PV.int .i64 p0_2, PV.int .i64 p0_3, PV.int .i64 p0_4, PV.int .i64 p0_5, PV.int .i64 p0_6]] = some res :=
  fn_of ErSum_ok rfl rfl (lo_cons (lpO_ok UrSum) lo_nil) ((trSum_eq _ _ _ _ _ _ _ _ _).trans h)
def ErWords : List Entry := [.out 113 (RSh.one (CK.int .i64))]
theorem ErWords_ok : ∀ e ∈ ErWords, EntOK env e := (ent_out ent_nil)
def TrWords_0a (i0 : Int) (i1 : Int) (i2 : Int) (i3 : Int) (i4 : Int) (i5 : Int) (i6 : Int) (i7 : Int) (i8 : Int) (i9 : Int) : Q := ⟨(tm 41 [(2, (AV.loc 2 0)), (3, (AV.p (PV.int .i64 (251 : Int)))), (4, (AV.loc 4 0)), (5, (AV.p (PV.int .i64 (0 : Int))))]), (mm 41 [(1, (Bk.pcs true [(PV.int .i64 i0), (PV.int .i64 i1), (PV.int .i64 i2), (PV.int .i64 i3)])), (2, (Bk.pcs true [(PV.int .i64 (0 : Int)), (PV.int .i64 (0 : Int)), (PV.int .i64 (0 : Int)), (PV.int .i64 (0 : Int)), (PV.int .i64 (0 : Int)), (PV.int .i64 (0 : Int)), (PV.int .i64 (0 : Int))])), (4, (Bk.pcs true [(PV.int .i64 i4), (PV.int .i64 i5), (PV.int .i64 i6), (PV.int .i64 i7), (PV.int .i64 i8), (PV.int .i64 i9), (PV.int .i64 (0 : Int))]))])⟩
def TrWords_0b (i0 : Int) (i1 : Int) (i2 : Int) (i3 : Int) (i4 : Int) (i5 : Int) (i6 : Int) (i7 : Int) : Q := ⟨(tm 41 [(2, (AV.loc 2 0)), (3, (AV.p (PV.int .i64 (251 : Int)))), (4, (AV.loc 4 0)), (5, (AV.p (PV.int .i64 i0)))]), (mm 41 [(2, (Bk.pcs true [(PV.int .i64 (0 : Int)), (PV.int .i64 (0 : Int)), (PV.int .i64 (0 : Int)), (PV.int .i64 (0 : Int)), (PV.int .i64 (0 : Int)), (PV.int .i64 (0 : Int)), (PV.int .i64 (0 : Int))])), (4, (Bk.pcs true [(PV.int .i64 i1), (PV.int .i64 i2), (PV.int .i64 i3), (PV.int .i64 i4), (PV.int .i64 i5), (PV.int .i64 i6), (PV.int .i64 i7)]))])⟩
def XrWords_0a (y : Int × Int × Int × Int × Int × Int × Int) : Ext × Q := (Ext.ret, ⟨(tm 41 [(2, (AV.loc 2 0))]), (mm 41 [(2, (Bk.pcs true [(PV.int .i64 y.1), (PV.int .i64 y.2.1), (PV.int .i64 y.2.2.1), (PV.int .i64 y.2.2.2.1), (PV.int .i64 y.2.2.2.2.1), (PV.int .i64 y.2.2.2.2.2.1), (PV.int .i64 y.2.2.2.2.2.2)]))])⟩)
def IrWords_0a (q : Ext × S) : Int × Int × Int × Int × Int × Int × Int := ((pP_int1 (hdP (pB_pcs1 (avM q.2 2)))), (pP_int1 (hdP (List.tail (pB_pcs1 (avM q.2 2))))), (pP_int1 (hdP (List.tail (List.tail (pB_pcs1 (avM q.2 2)))))), (pP_int1 (hdP (List.tail (List.tail (List.tail (pB_pcs1 (avM q.2 2))))))), (pP_int1 (hdP (List.tail (List.tail (List.tail (List.tail (pB_pcs1 (avM q.2 2)))))))), (pP_int1 (hdP (List.tail (List.tail (List.tail (List.tail (List.tail (pB_pcs1 (avM q.2 2))))))))), (pP_int1 (hdP (List.tail (List.tail (List.tail (List.tail (List.tail (List.tail (pB_pcs1 (avM q.2 2)))))))))))
def XrWords_0b (y : Int × Int × Int × Int × Int × Int × Int) : Ext × Q := (Ext.normal, ⟨(tm 41 [(2, (AV.loc 2 0)), (4, (AV.loc 4 0))]), (mm 41 [(2, (Bk.pcs true [(PV.int .i64 (0 : Int)), (PV.int .i64 (0 : Int)), (PV.int .i64 (0 : Int)), (PV.int .i64 (0 : Int)), (PV.int .i64 (0 : Int)), (PV.int .i64 (0 : Int)), (PV.int .i64 (0 : Int))])), (4, (Bk.pcs true [(PV.int .i64 y.1), (PV.int .i64 y.2.1), (PV.int .i64 y.2.2.1), (PV.int .i64 y.2.2.2.1), (PV.int .i64 y.2.2.2.2.1), (PV.int .i64 y.2.2.2.2.2.1), (PV.int .i64 y.2.2.2.2.2.2)]))])⟩)
def IrWords_0b (q : Ext × S) : Int × Int × Int × Int × Int × Int × Int := ((pP_int1 (hdP (pB_pcs1 (avM q.2 4)))), (pP_int1 (hdP (List.tail (pB_pcs1 (avM q.2 4))))), (pP_int1 (hdP (List.tail (List.tail (pB_pcs1 (avM q.2 4)))))), (pP_int1 (hdP (List.tail (List.tail (List.tail (pB_pcs1 (avM q.2 4))))))), (pP_int1 (hdP (List.tail (List.tail (List.tail (List.tail (pB_pcs1 (avM q.2 4)))))))), (pP_int1 (hdP (List.tail (List.tail (List.tail (List.tail (List.tail (pB_pcs1 (avM q.2 4))))))))), (pP_int1 (hdP (List.tail (List.tail (List.tail (List.tail (List.tail (List.tail (pB_pcs1 (avM q.2 4)))))))))))
abbrev YrWords_0 : Type := (Int × Int × Int × Int × Int × Int × Int) ⊕ ((Int × Int × Int × Int × Int × Int × Int))
def XLrWords_0 : XL YrWords_0 := .more XrWords_0a (.one XrWords_0b)
def IrWords_0 (q : Ext × S) : YrWords_0 := bif (cE q.1 == 2) then (Sum.inl (IrWords_0a q)) else (Sum.inr (IrWords_0b q))
theorem XIrWords_0a (y : Int × Int × Int × Int × Int × Int × Int) : IrWords_0 (xe (XrWords_0a y)) = (Sum.inl y) := rfl
theorem XIrWords_0b (y : Int × Int × Int × Int × Int × Int × Int) : IrWords_0 (xe (XrWords_0b y)) = (Sum.inr y) := rfl
theorem XIrWords_0 (y : YrWords_0) : IrWords_0 (xe (XLrWords_0.fn y)) = y := (match y with | .inl y => XIrWords_0a y | .inr y => XIrWords_0b y)
noncomputable abbrev LrWords_0 : Q → Option YrWords_0 := lpO env a68.body 0 XLrWords_0
noncomputable abbrev RrWords_0 : Q → Option (Ext × S) := lpR env a68.body 0
theorem LrWords_0a_of {s : Q} {y : Int × Int × Int × Int × Int × Int × Int} (h : RrWords_0 s = exO (XrWords_0a y)) : LrWords_0 s = some (Sum.inl y) := lpO_of IrWords_0 XIrWords_0 (y := (Sum.inl y)) h
theorem UrWords : uniq ((blocksOf a68.body).map (·.1)) = true := by kernel_rfl
def BrWords_0a (F : FnT) (N : QO) (E : EO) (_L0 : Q → Option YrWords_0) (_i0 : Int) (_i1 : Int) (_i2 : Int) (_i3 : Int) (i4 : Int) (i5 : Int) (i6 : Int) (i7 : Int) (i8 : Int) (i9 : Int) : Option (Ext × S) :=
  bindO (F 113 (RSh.one (CK.int .i64)) [(PV.agg [(PV.int .i64 i4), (PV.int .i64 i5), (PV.int .i64 i6), (PV.int .i64 i7), (PV.int .i64 i8), (PV.int .i64 i9), (PV.int .i64 (0 : Int))])]) fun (y0 : (Int)) =>
  bif ((Int.tmod y0 (251 : Int)) == (0 : Int)) then
    E (XrWords_0a (i4, i5, i6, i7, i8, i9, (0 : Int)))
  else N (TrWords_0b (1 : Int) i4 i5 i6 i7 i8 i9 (0 : Int))
theorem BrWords_0a_eq (F : FnT) (N : QO) (E : EO) (L0 : Q → Option YrWords_0) (i0 : Int) (i1 : Int) (i2 : Int) (i3 : Int) (i4 : Int) (i5 : Int) (i6 : Int) (i7 : Int) (i8 : Int) (i9 : Int) : semB (callP F ErWords 20) s68 (loopT [⟨0, YrWords_0, L0, XLrWords_0⟩]) 400 (blkIn a68.body 0) N E (TrWords_0a i0 i1 i2 i3 i4 i5 i6 i7 i8 i9) = BrWords_0a F N E L0 i0 i1 i2 i3 i4 i5 i6 i7 i8 i9 := by kernel_rfl
theorem RrWords_0a_of  (i0 : Int) (i1 : Int) (i2 : Int) (i3 : Int) (i4 : Int) (i5 : Int) (i6 : Int) (i7 : Int) (i8 : Int) (i9 : Int) {r : Ext × S} (h : BrWords_0a (Fn env) RrWords_0 exO LrWords_0 i0 i1 i2 i3 i4 i5 i6 i7 i8 i9 = some r) : RrWords_0 (TrWords_0a i0 i1 i2 i3 i4 i5 i6 i7 i8 i9) = some r :=
  lp_of ErWords_ok (by kernel_rfl) (lo_cons (lpO_ok UrWords) lo_nil) (by kernel_rfl) ((BrWords_0a_eq _ _ _ _ _ _ _ _ _ _ _ _ _ _).trans h)
def BrWords_0b (F : FnT) (N : QO) (E : EO) (_L0 : Q → Option YrWords_0) (i0 : Int) (i1 : Int) (i2 : Int) (i3 : Int) (i4 : Int) (i5 : Int) (i6 : Int) (i7 : Int) : Option (Ext × S) :=
  bif (decide (i0 < (251 : Int))) then
    bindO (F 113 (RSh.one (CK.int .i64)) [(PV.agg [(PV.int .i64 i1), (PV.int .i64 i2), (PV.int .i64 i3), (PV.int .i64 i4), (PV.int .i64 i5), (PV.int .i64 i6), (PV.int .i64 i0)])]) fun (y0 : (Int)) =>
    bif ((Int.tmod y0 (251 : Int)) == (0 : Int)) then
      E (XrWords_0a (i1, i2, i3, i4, i5, i6, i0))
    else N (TrWords_0b (w64 (i0 + (1 : Int))) i1 i2 i3 i4 i5 i6 i0)
  else E (XrWords_0b (i1, i2, i3, i4, i5, i6, i7))
theorem BrWords_0b_eq (F : FnT) (N : QO) (E : EO) (L0 : Q → Option YrWords_0) (i0 : Int) (i1 : Int) (i2 : Int) (i3 : Int) (i4 : Int) (i5 : Int) (i6 : Int) (i7 : Int) : semB (callP F ErWords 20) s68 (loopT [⟨0, YrWords_0, L0, XLrWords_0⟩]) 400 (blkIn a68.body 0) N E (TrWords_0b i0 i1 i2 i3 i4 i5 i6 i7) = BrWords_0b F N E L0 i0 i1 i2 i3 i4 i5 i6 i7 := by kernel_rfl
theorem RrWords_0b_of  (i0 : Int) (i1 : Int) (i2 : Int) (i3 : Int) (i4 : Int) (i5 : Int) (i6 : Int) (i7 : Int) {r : Ext × S} (h : BrWords_0b (Fn env) RrWords_0 exO LrWords_0 i0 i1 i2 i3 i4 i5 i6 i7 = some r) : RrWords_0 (TrWords_0b i0 i1 i2 i3 i4 i5 i6 i7) = some r :=
  lp_of ErWords_ok (by kernel_rfl) (lo_cons (lpO_ok UrWords) lo_nil) (by kernel_rfl) ((BrWords_0b_eq _ _ _ _ _ _ _ _ _ _ _ _).trans h)
def trWords (_F : FnT) (L0 : Q → Option YrWords_0) (p0_0 : Int) (p0_1 : Int) (p0_2 : Int) (p0_3 : Int) : Option ((Int) × ((Int) × ((Int) × ((Int) × ((Int) × ((Int) × (Int))))))) :=
  bindO (L0 (TrWords_0a p0_0 p0_1 p0_2 p0_3 p0_0 (w64 (Int.tdiv p0_1 (251 : Int))) (Int.tmod p0_1 (251 : Int)) p0_2 (w64 (Int.tdiv p0_3 (251 : Int))) (Int.tmod p0_3 (251 : Int)))) fun z =>
  Sum.elim (fun y0 =>
    some (y0.1, (y0.2.1, (y0.2.2.1, (y0.2.2.2.1, (y0.2.2.2.2.1, (y0.2.2.2.2.2.1, y0.2.2.2.2.2.2))))))) (fun y1 =>
    some (y1.1, (y1.2.1, (y1.2.2.1, (y1.2.2.2.1, (y1.2.2.2.2.1, (y1.2.2.2.2.2.1, y1.2.2.2.2.2.2))))))) z
theorem trWords_eq (F : FnT) (L0 : Q → Option YrWords_0) (p0_0 : Int) (p0_1 : Int) (p0_2 : Int) (p0_3 : Int) : semF (callP F ErWords 20) s68 (loopT [⟨0, YrWords_0, L0, XLrWords_0⟩]) 400 a68 [PV.agg [PV.int .i64 p0_0, PV.int .i64 p0_1, PV.int .i64 p0_2, PV.int .i64 p0_3]] (fun rv => decR (RSh.agg [(CK.int .i64), (CK.int .i64), (CK.int .i64), (CK.int .i64), (CK.int .i64), (CK.int .i64), (CK.int .i64)]) rv.pv) = trWords F L0 p0_0 p0_1 p0_2 p0_3 := by kernel_rfl
noncomputable abbrev FrWords (args : List PV) := Fn env 68 (RSh.agg [(CK.int .i64), (CK.int .i64), (CK.int .i64), (CK.int .i64), (CK.int .i64), (CK.int .i64), (CK.int .i64)]) args
theorem FrWords_of  (p0_0 : Int) (p0_1 : Int) (p0_2 : Int) (p0_3 : Int) {res : ((Int) × ((Int) × ((Int) × ((Int) × ((Int) × ((Int) × (Int)))))))} (h : trWords (Fn env) LrWords_0 p0_0 p0_1 p0_2 p0_3 = some res) : FrWords [PV.agg [PV.int .i64 p0_0, PV.int .i64 p0_1, PV.int .i64 p0_2, PV.int .i64 p0_3]] = some res :=
  fn_of ErWords_ok rfl rfl (lo_cons (lpO_ok UrWords) lo_nil) ((trWords_eq _ _ _ _ _ _).trans h)
def ErDec : List Entry := [.out 29 (RSh.one CK.bool), .out 113 (RSh.one (CK.int .i64)), .out 67 (RSh.one (CK.int .i64))]
theorem ErDec_ok : ∀ e ∈ ErDec, EntOK env e := (ent_out (ent_out (ent_out ent_nil)))
def TrDec_0a (i0 : Int) (i1 : Int) (i2 : Int) (i3 : Int) (i4 : Int) (i5 : Int) (i6 : Int) (i7 : Int) : Q := ⟨(tm 46 [(1, (AV.loc 1 0)), (2, (AV.loc 2 0)), (4, (AV.p (PV.int .i64 i0)))]), (mm 46 [(1, (Bk.pcs true [(PV.int .i64 i1), (PV.int .i64 i2), (PV.int .i64 i3), (PV.int .i64 i4), (PV.int .i64 i5), (PV.int .i64 i6), (PV.int .i64 i7)])), (2, (Bk.pcs true [(PV.int .i64 (0 : Int)), (PV.int .i64 (0 : Int)), (PV.int .i64 (0 : Int)), (PV.int .i64 (0 : Int))]))])⟩
def XrDec_0a (_y : Unit) : Ext × Q := (Ext.ret, ⟨(tm 46 [(2, (AV.loc 2 0)), (3, (AV.p (PV.int .i64 (2 : Int))))]), (mm 46 [(2, (Bk.pcs true [(PV.int .i64 (0 : Int)), (PV.int .i64 (0 : Int)), (PV.int .i64 (0 : Int)), (PV.int .i64 (0 : Int))]))])⟩)
def IrDec_0a (_q : Ext × S) : Unit := ()
def XrDec_0b (y : Int × Int × Int × Int × Int × Int × Int) : Ext × Q := (Ext.normal, ⟨(tm 46 [(1, (AV.loc 1 0)), (2, (AV.loc 2 0))]), (mm 46 [(1, (Bk.pcs true [(PV.int .i64 y.1), (PV.int .i64 y.2.1), (PV.int .i64 y.2.2.1), (PV.int .i64 y.2.2.2.1), (PV.int .i64 y.2.2.2.2.1), (PV.int .i64 y.2.2.2.2.2.1), (PV.int .i64 y.2.2.2.2.2.2)])), (2, (Bk.pcs true [(PV.int .i64 (0 : Int)), (PV.int .i64 (0 : Int)), (PV.int .i64 (0 : Int)), (PV.int .i64 (0 : Int))]))])⟩)
def IrDec_0b (q : Ext × S) : Int × Int × Int × Int × Int × Int × Int := ((pP_int1 (hdP (pB_pcs1 (avM q.2 1)))), (pP_int1 (hdP (List.tail (pB_pcs1 (avM q.2 1))))), (pP_int1 (hdP (List.tail (List.tail (pB_pcs1 (avM q.2 1)))))), (pP_int1 (hdP (List.tail (List.tail (List.tail (pB_pcs1 (avM q.2 1))))))), (pP_int1 (hdP (List.tail (List.tail (List.tail (List.tail (pB_pcs1 (avM q.2 1)))))))), (pP_int1 (hdP (List.tail (List.tail (List.tail (List.tail (List.tail (pB_pcs1 (avM q.2 1))))))))), (pP_int1 (hdP (List.tail (List.tail (List.tail (List.tail (List.tail (List.tail (pB_pcs1 (avM q.2 1)))))))))))
abbrev YrDec_0 : Type := (Unit) ⊕ ((Int × Int × Int × Int × Int × Int × Int))
def XLrDec_0 : XL YrDec_0 := .more XrDec_0a (.one XrDec_0b)
def IrDec_0 (q : Ext × S) : YrDec_0 := bif (cE q.1 == 2) then (Sum.inl (IrDec_0a q)) else (Sum.inr (IrDec_0b q))
theorem XIrDec_0a (y : Unit) : IrDec_0 (xe (XrDec_0a y)) = (Sum.inl y) := rfl
theorem XIrDec_0b (y : Int × Int × Int × Int × Int × Int × Int) : IrDec_0 (xe (XrDec_0b y)) = (Sum.inr y) := rfl
theorem XIrDec_0 (y : YrDec_0) : IrDec_0 (xe (XLrDec_0.fn y)) = y := (match y with | .inl y => XIrDec_0a y | .inr y => XIrDec_0b y)
noncomputable abbrev LrDec_0 : Q → Option YrDec_0 := lpO env a69.body 0 XLrDec_0
noncomputable abbrev RrDec_0 : Q → Option (Ext × S) := lpR env a69.body 0
theorem UrDec : uniq ((blocksOf a69.body).map (·.1)) = true := by kernel_rfl
def BrDec_0a (F : FnT) (N : QO) (E : EO) (_L0 : Q → Option YrDec_0) (i0 : Int) (i1 : Int) (i2 : Int) (i3 : Int) (i4 : Int) (i5 : Int) (i6 : Int) (i7 : Int) : Option (Ext × S) :=
  bif (decide (i0 < (7 : Int))) then
    bif (decide (((0 : Int) ≤ i0) ∧ (i0 < (7 : Int)))) then
      bindO (intC .i64 ([(PV.int .i64 i1), (PV.int .i64 i2), (PV.int .i64 i3), (PV.int .i64 i4), (PV.int .i64 i5), (PV.int .i64 i6), (PV.int .i64 i7)][(0 + ((Int.toNat i0) * 1))]?)) fun x0 =>
      bindO (F 29 (RSh.one CK.bool) [(PV.int .i64 x0), (PV.int .i64 (0 : Int)), (PV.int .i64 (250 : Int))]) fun (y1 : (Bool)) =>
      bif y1 then
        N (TrDec_0a (w64 (i0 + (1 : Int))) i1 i2 i3 i4 i5 i6 i7)
      else E (XrDec_0a ())
    else none
  else E (XrDec_0b (i1, i2, i3, i4, i5, i6, i7))
theorem BrDec_0a_eq (F : FnT) (N : QO) (E : EO) (L0 : Q → Option YrDec_0) (i0 : Int) (i1 : Int) (i2 : Int) (i3 : Int) (i4 : Int) (i5 : Int) (i6 : Int) (i7 : Int) : semB (callP F ErDec 20) s69 (loopT [⟨0, YrDec_0, L0, XLrDec_0⟩]) 400 (blkIn a69.body 0) N E (TrDec_0a i0 i1 i2 i3 i4 i5 i6 i7) = BrDec_0a F N E L0 i0 i1 i2 i3 i4 i5 i6 i7 := by kernel_rfl
theorem RrDec_0a_of  (i0 : Int) (i1 : Int) (i2 : Int) (i3 : Int) (i4 : Int) (i5 : Int) (i6 : Int) (i7 : Int) {r : Ext × S} (h : BrDec_0a (Fn env) RrDec_0 exO LrDec_0 i0 i1 i2 i3 i4 i5 i6 i7 = some r) : RrDec_0 (TrDec_0a i0 i1 i2 i3 i4 i5 i6 i7) = some r :=
  lp_of ErDec_ok (by kernel_rfl) (lo_cons (lpO_ok UrDec) lo_nil) (by kernel_rfl) ((BrDec_0a_eq _ _ _ _ _ _ _ _ _ _ _ _).trans h)
def trDec (F : FnT) (L0 : Q → Option YrDec_0) (p0_0 : Int) (p0_1 : Int) (p0_2 : Int) (p0_3 : Int) (p0_4 : Int) (p0_5 : Int) (p0_6 : Int) : Option ((Int) × ((Int) × ((Int) × ((Int) × (Int))))) :=
  bindO (L0 (TrDec_0a (0 : Int) p0_0 p0_1 p0_2 p0_3 p0_4 p0_5 p0_6)) fun z =>
  Sum.elim (fun _y0 =>
    some ((0 : Int), ((0 : Int), ((0 : Int), ((0 : Int), (2 : Int)))))) (fun y1 =>
    bindO (F 113 (RSh.one (CK.int .i64)) [(PV.agg [(PV.int .i64 y1.1), (PV.int .i64 y1.2.1), (PV.int .i64 y1.2.2.1), (PV.int .i64 y1.2.2.2.1), (PV.int .i64 y1.2.2.2.2.1), (PV.int .i64 y1.2.2.2.2.2.1), (PV.int .i64 y1.2.2.2.2.2.2)])]) fun (y2 : (Int)) =>
    bif ((Int.tmod y2 (251 : Int)) != (0 : Int)) then
      some ((0 : Int), ((0 : Int), ((0 : Int), ((0 : Int), (17 : Int)))))
    else bindO (F 67 (RSh.one (CK.int .i64)) [(PV.agg [(PV.int .i64 y1.1), (PV.int .i64 (w64 ((w64 (y1.2.1 * (251 : Int))) + y1.2.2.1))), (PV.int .i64 y1.2.2.2.1), (PV.int .i64 (w64 ((w64 (y1.2.2.2.2.1 * (251 : Int))) + y1.2.2.2.2.2.1)))])]) fun (y3 : (Int)) =>
    bif (y3 != (0 : Int)) then
      some ((0 : Int), ((0 : Int), ((0 : Int), ((0 : Int), y3))))
    else some (y1.1, ((w64 ((w64 (y1.2.1 * (251 : Int))) + y1.2.2.1)), (y1.2.2.2.1, ((w64 ((w64 (y1.2.2.2.2.1 * (251 : Int))) + y1.2.2.2.2.2.1)), (0 : Int)))))) z
theorem trDec_eq (F : FnT) (L0 : Q → Option YrDec_0) (p0_0 : Int) (p0_1 : Int) (p0_2 : Int) (p0_3 : Int) (p0_4 : Int) (p0_5 : Int) (p0_6 : Int) : semF (callP F ErDec 20) s69 (loopT [⟨0, YrDec_0, L0, XLrDec_0⟩]) 400 a69 [PV.agg [PV.int .i64 p0_0, PV.int .i64 p0_1, PV.int .i64 p0_2, PV.int .i64 p0_3, PV.int .i64 p0_4, PV.int .i64 p0_5, PV.int .i64 p0_6]] (fun rv => decR (RSh.tup [(Prod.mk true [(CK.int .i64), (CK.int .i64), (CK.int .i64), (CK.int .i64)]), (Prod.mk false [(CK.int .i64)])]) rv.pv) = trDec F L0 p0_0 p0_1 p0_2 p0_3 p0_4 p0_5 p0_6 := by kernel_rfl
noncomputable abbrev FrDec (args : List PV) := Fn env 69 (RSh.tup [(Prod.mk true [(CK.int .i64), (CK.int .i64), (CK.int .i64), (CK.int .i64)]), (Prod.mk false [(CK.int .i64)])]) args
theorem FrDec_of  (p0_0 : Int) (p0_1 : Int) (p0_2 : Int) (p0_3 : Int) (p0_4 : Int) (p0_5 : Int) (p0_6 : Int) {res : ((Int) × ((Int) × ((Int) × ((Int) × (Int)))))} (h : trDec (Fn env) LrDec_0 p0_0 p0_1 p0_2 p0_3 p0_4 p0_5 p0_6 = some res) : FrDec [PV.agg [PV.int .i64 p0_0, PV.int .i64 p0_1, PV.int .i64 p0_2, PV.int .i64 p0_3, PV.int .i64 p0_4, PV.int .i64 p0_5, PV.int .i64 p0_6]] = some res :=
  fn_of ErDec_ok rfl rfl (lo_cons (lpO_ok UrDec) lo_nil) ((trDec_eq _ _ _ _ _ _ _ _ _).trans h)
end Gv
