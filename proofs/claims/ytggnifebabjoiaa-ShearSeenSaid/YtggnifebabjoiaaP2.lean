/- What the functions do, round by round: P2. -/
import Derived.Test.YtggnifebabjoiaaGvEnv
namespace Gv
open Go
set_option maxRecDepth 100000
def ErDn : List Entry := []
theorem ErDn_ok : ∀ e ∈ ErDn, EntOK env e := ent_nil
def trDn (_F : FnT) (p0 : Int) (p1 : Int) : Option (Int) :=
  bif (decide (p1 ≠ (0 : Int))) then
    bif (decide ((w64 ((w64 (Int.tdiv p0 p1)) * p1)) > p0)) then
      some (w64 ((w64 (Int.tdiv p0 p1)) - (1 : Int)))
    else some (w64 (Int.tdiv p0 p1))
  else none
theorem trDn_eq (F : FnT) (p0 : Int) (p1 : Int) : semF (callP F ErDn 20) s76 (loopT []) 400 a76 [PV.int .i64 p0, PV.int .i64 p1] (fun rv => decR (RSh.one (CK.int .i64)) rv.pv) = trDn F p0 p1 := by kernel_rfl
noncomputable abbrev FrDn (args : List PV) := Fn env 76 (RSh.one (CK.int .i64)) args
theorem FrDn_of  (p0 : Int) (p1 : Int) {res : (Int)} (h : trDn (Fn env) p0 p1 = some res) : FrDn [PV.int .i64 p0, PV.int .i64 p1] = some res :=
  fn_of ErDn_ok rfl rfl lo_nil ((trDn_eq _ _ _).trans h)
def ErUp : List Entry := [.out 76 (RSh.one (CK.int .i64))]
theorem ErUp_ok : ∀ e ∈ ErUp, EntOK env e := (ent_out ent_nil)
def trUp (F : FnT) (p0 : Int) (p1 : Int) : Option (Int) :=
  bindO (F 76 (RSh.one (CK.int .i64)) [(PV.int .i64 (w64 ((0 : Int) - p0))), (PV.int .i64 p1)]) fun (y0 : (Int)) =>
  some (w64 ((0 : Int) - y0))
theorem trUp_eq (F : FnT) (p0 : Int) (p1 : Int) : semF (callP F ErUp 20) s77 (loopT []) 400 a77 [PV.int .i64 p0, PV.int .i64 p1] (fun rv => decR (RSh.one (CK.int .i64)) rv.pv) = trUp F p0 p1 := by kernel_rfl
noncomputable abbrev FrUp (args : List PV) := Fn env 77 (RSh.one (CK.int .i64)) args
theorem FrUp_of  (p0 : Int) (p1 : Int) {res : (Int)} (h : trUp (Fn env) p0 p1 = some res) : FrUp [PV.int .i64 p0, PV.int .i64 p1] = some res :=
  fn_of ErUp_ok rfl rfl lo_nil ((trUp_eq _ _ _).trans h)
def EblindIn : List Entry := [.inl 95 a95 s95, .out 87 (RSh.one (CK.int .i64)), .out 74 (RSh.one (CK.int .i64)), .out 86 (RSh.one (CK.int .i64)), .out 73 (RSh.one (CK.int .i64))]
theorem EblindIn_ok : ∀ e ∈ EblindIn, EntOK env e := (ent_inl rfl (ent_out (ent_out (ent_out (ent_out ent_nil)))))
def TblindIn_0a (i0 : Int) (i1 : Int) (n2 : Nat) (c3 : List PV) (i4 : Int) (i5 : Int) (i6 : Int) (i7 : Int) : Q := ⟨(tm 57 [(2, (AV.p (PV.int .i64 i0))), (4, (AV.loc 4 0)), (9, AV.nilS), (10, (AV.p (PV.int .i64 i1))), (27, (AV.p (PV.list n2 c3))), (28, (AV.p (PV.int .i64 i4))), (29, (AV.p (PV.int .i64 i5)))]), (mm 57 [(4, (Bk.pcs true [(PV.int .i64 i6), (PV.int .i64 i7)]))])⟩
def TblindIn_0b (i0 : Int) (n1 : Nat) (c2 : List PV) (i3 : Int) (n4 : Nat) (c5 : List PV) (i6 : Int) (i7 : Int) (i8 : Int) (i9 : Int) (n10 : Nat) : Q := ⟨(tm 57 [(2, (AV.p (PV.int .i64 i0))), (4, (AV.loc 4 0)), (9, (AV.app 43 n1 2 c2)), (10, (AV.p (PV.int .i64 i3))), (27, (AV.p (PV.list n4 c5))), (28, (AV.p (PV.int .i64 i6))), (29, (AV.p (PV.int .i64 i7)))]), (mm 57 [(4, (Bk.pcs true [(PV.int .i64 i8), (PV.int .i64 i9)])), (43, (Bk.buf n10))])⟩
def XblindIn_0a (y : Int × Int × Int) : Ext × Q := (Ext.normal, ⟨(tm 57 [(4, (AV.loc 4 0)), (9, AV.nilS), (10, (AV.p (PV.int .i64 y.1)))]), (mm 57 [(4, (Bk.pcs true [(PV.int .i64 y.2.1), (PV.int .i64 y.2.2)]))])⟩)
def IblindIn_0a (q : Ext × S) : Int × Int × Int := ((pP_int1 (pA_p (avT q.2 10))), (pP_int1 (hdP (pB_pcs1 (avM q.2 4)))), (pP_int1 (hdP (List.tail (pB_pcs1 (avM q.2 4))))))
def XblindIn_0b (y : Nat × List PV × Int × Int × Int × Nat) : Ext × Q := (Ext.normal, ⟨(tm 57 [(4, (AV.loc 4 0)), (9, (AV.app 43 y.1 2 y.2.1)), (10, (AV.p (PV.int .i64 y.2.2.1)))]), (mm 57 [(4, (Bk.pcs true [(PV.int .i64 y.2.2.2.1), (PV.int .i64 y.2.2.2.2.1)])), (43, (Bk.buf y.2.2.2.2.2))])⟩)
def IblindIn_0b (q : Ext × S) : Nat × List PV × Int × Int × Int × Nat := ((pA_app1 (avT q.2 9)), (pA_app3 (avT q.2 9)), (pP_int1 (pA_p (avT q.2 10))), (pP_int1 (hdP (pB_pcs1 (avM q.2 4)))), (pP_int1 (hdP (List.tail (pB_pcs1 (avM q.2 4))))), (pB_buf0 (avM q.2 43)))
abbrev YblindIn_0 : Type := (Int × Int × Int) ⊕ ((Nat × List PV × Int × Int × Int × Nat))
def XLblindIn_0 : XL YblindIn_0 := .more XblindIn_0a (.one XblindIn_0b)
def IblindIn_0 (q : Ext × S) : YblindIn_0 := bif (cA (avT q.2 9) == 1) then (Sum.inl (IblindIn_0a q)) else (Sum.inr (IblindIn_0b q))
theorem XIblindIn_0a (y : Int × Int × Int) : IblindIn_0 (xe (XblindIn_0a y)) = (Sum.inl y) := rfl
theorem XIblindIn_0b (y : Nat × List PV × Int × Int × Int × Nat) : IblindIn_0 (xe (XblindIn_0b y)) = (Sum.inr y) := rfl
theorem XIblindIn_0 (y : YblindIn_0) : IblindIn_0 (xe (XLblindIn_0.fn y)) = y := (match y with | .inl y => XIblindIn_0a y | .inr y => XIblindIn_0b y)
noncomputable abbrev LblindIn_0 : Q → Option YblindIn_0 := lpO env a39.body 0 XLblindIn_0
noncomputable abbrev RblindIn_0 : Q → Option (Ext × S) := lpR env a39.body 0
theorem UblindIn : uniq ((blocksOf a39.body).map (·.1)) = true := by kernel_rfl
def BblindIn_0a (_F : FnT) (N : QO) (E : EO) (_L0 : Q → Option YblindIn_0) (i0 : Int) (i1 : Int) (n2 : Nat) (c3 : List PV) (i4 : Int) (i5 : Int) (i6 : Int) (i7 : Int) : Option (Ext × S) :=
  bif (decide (i5 < i4)) then
    bif (decide (((0 : Int) ≤ i5) ∧ (i5 < (n2 : Int)))) then
      bindO (intC .i64 (c3[((Int.toNat i5) * 3)]?)) fun x0 =>
      bindO (intC .i64 (c3[(((Int.toNat i5) * 3) + 1)]?)) fun _x1 =>
      bindO (intC .i64 (c3[((((Int.toNat i5) * 3) + 1) + 1)]?)) fun _x2 =>
      bif (decide (i1 > (if ((w64 ((w64 (x0 - i0)) - (1 : Int))) < i7) then (w64 ((w64 (x0 - i0)) - (1 : Int))) else i7))) then
        N (TblindIn_0a i0 (if ((w64 ((w64 (x0 + i0)) + (1 : Int))) > i1) then (w64 ((w64 (x0 + i0)) + (1 : Int))) else i1) n2 c3 i4 (w64 (i5 + (1 : Int))) i6 i7)
      else N (TblindIn_0b i0 1 [(PV.int .i64 i1), (PV.int .i64 (if ((w64 ((w64 (x0 - i0)) - (1 : Int))) < i7) then (w64 ((w64 (x0 - i0)) - (1 : Int))) else i7))] (if ((w64 ((w64 (x0 + i0)) + (1 : Int))) > i1) then (w64 ((w64 (x0 + i0)) + (1 : Int))) else i1) n2 c3 i4 (w64 (i5 + (1 : Int))) i6 i7 1)
    else none
  else E (XblindIn_0a (i1, i6, i7))
theorem BblindIn_0a_eq (F : FnT) (N : QO) (E : EO) (L0 : Q → Option YblindIn_0) (i0 : Int) (i1 : Int) (n2 : Nat) (c3 : List PV) (i4 : Int) (i5 : Int) (i6 : Int) (i7 : Int) : semB (callP F EblindIn 20) s39 (loopT [⟨0, YblindIn_0, L0, XLblindIn_0⟩]) 400 (blkIn a39.body 0) N E (TblindIn_0a i0 i1 n2 c3 i4 i5 i6 i7) = BblindIn_0a F N E L0 i0 i1 n2 c3 i4 i5 i6 i7 := by kernel_rfl
theorem RblindIn_0a_of  (i0 : Int) (i1 : Int) (n2 : Nat) (c3 : List PV) (i4 : Int) (i5 : Int) (i6 : Int) (i7 : Int) {r : Ext × S} (h : BblindIn_0a (Fn env) RblindIn_0 exO LblindIn_0 i0 i1 n2 c3 i4 i5 i6 i7 = some r) : RblindIn_0 (TblindIn_0a i0 i1 n2 c3 i4 i5 i6 i7) = some r :=
  lp_of EblindIn_ok (by kernel_rfl) (lo_cons (lpO_ok UblindIn) lo_nil) (by kernel_rfl) ((BblindIn_0a_eq _ _ _ _ _ _ _ _ _ _ _ _).trans h)
def BblindIn_0b (_F : FnT) (N : QO) (E : EO) (_L0 : Q → Option YblindIn_0) (i0 : Int) (n1 : Nat) (c2 : List PV) (i3 : Int) (n4 : Nat) (c5 : List PV) (i6 : Int) (i7 : Int) (i8 : Int) (i9 : Int) (n10 : Nat) : Option (Ext × S) :=
  bif (decide (i7 < i6)) then
    bif (decide (((0 : Int) ≤ i7) ∧ (i7 < (n4 : Int)))) then
      bindO (intC .i64 (c5[((Int.toNat i7) * 3)]?)) fun x0 =>
      bindO (intC .i64 (c5[(((Int.toNat i7) * 3) + 1)]?)) fun _x1 =>
      bindO (intC .i64 (c5[((((Int.toNat i7) * 3) + 1) + 1)]?)) fun _x2 =>
      bif (decide (i3 > (if ((w64 ((w64 (x0 - i0)) - (1 : Int))) < i9) then (w64 ((w64 (x0 - i0)) - (1 : Int))) else i9))) then
        N (TblindIn_0b i0 n1 c2 (if ((w64 ((w64 (x0 + i0)) + (1 : Int))) > i3) then (w64 ((w64 (x0 + i0)) + (1 : Int))) else i3) n4 c5 i6 (w64 (i7 + (1 : Int))) i8 i9 n10)
      else bif (decide ((n10 = n1) ∧ ((n1 + 1) ≤ big))) then
        N (TblindIn_0b i0 (n1 + 1) (c2 ++ [(PV.int .i64 i3), (PV.int .i64 (if ((w64 ((w64 (x0 - i0)) - (1 : Int))) < i9) then (w64 ((w64 (x0 - i0)) - (1 : Int))) else i9))]) (if ((w64 ((w64 (x0 + i0)) + (1 : Int))) > i3) then (w64 ((w64 (x0 + i0)) + (1 : Int))) else i3) n4 c5 i6 (w64 (i7 + (1 : Int))) i8 i9 (n1 + 1))
      else none
    else none
  else E (XblindIn_0b (n1, c2, i3, i8, i9, n10))
theorem BblindIn_0b_eq (F : FnT) (N : QO) (E : EO) (L0 : Q → Option YblindIn_0) (i0 : Int) (n1 : Nat) (c2 : List PV) (i3 : Int) (n4 : Nat) (c5 : List PV) (i6 : Int) (i7 : Int) (i8 : Int) (i9 : Int) (n10 : Nat) : semB (callP F EblindIn 20) s39 (loopT [⟨0, YblindIn_0, L0, XLblindIn_0⟩]) 400 (blkIn a39.body 0) N E (TblindIn_0b i0 n1 c2 i3 n4 c5 i6 i7 i8 i9 n10) = BblindIn_0b F N E L0 i0 n1 c2 i3 n4 c5 i6 i7 i8 i9 n10 := by kernel_rfl
theorem RblindIn_0b_of  (i0 : Int) (n1 : Nat) (c2 : List PV) (i3 : Int) (n4 : Nat) (c5 : List PV) (i6 : Int) (i7 : Int) (i8 : Int) (i9 : Int) (n10 : Nat) {r : Ext × S} (h : BblindIn_0b (Fn env) RblindIn_0 exO LblindIn_0 i0 n1 c2 i3 n4 c5 i6 i7 i8 i9 n10 = some r) : RblindIn_0 (TblindIn_0b i0 n1 c2 i3 n4 c5 i6 i7 i8 i9 n10) = some r :=
  lp_of EblindIn_ok (by kernel_rfl) (lo_cons (lpO_ok UblindIn) lo_nil) (by kernel_rfl) ((BblindIn_0b_eq _ _ _ _ _ _ _ _ _ _ _ _ _ _ _).trans h)
def tblindIn (F : FnT) (L0 : Q → Option YblindIn_0) (p0n : Nat) (p0c : List PV) (p1_0 : Int) (p1_1 : Int) (p2 : Int) : Option (((Nat) × (List PV)) × (Int)) :=
  bindO (F 87 (RSh.one (CK.int .i64)) [(PV.list p0n p0c)]) fun (y0 : (Int)) =>
  bindO (F 74 (RSh.one (CK.int .i64)) [(PV.int .i64 (0 : Int)), (PV.int .i64 (50000 : Int)), (PV.list 1 [(PV.int .i64 p1_0), (PV.int .i64 p1_1)])]) fun (y1 : (Int)) =>
  bindO (F 86 (RSh.one (CK.int .i64)) [(PV.int .i64 p2)]) fun (y2 : (Int)) =>
  bindO (F 73 (RSh.one (CK.int .i64)) [(PV.list 3 [(PV.int .i64 y0), (PV.int .i64 y1), (PV.int .i64 y2)])]) fun (y3 : (Int)) =>
  bif (y3 != (0 : Int)) then
    some ((0, []), y3)
  else bindO (L0 (TblindIn_0a p2 p1_0 p0n p0c (p0n : Int) (0 : Int) p1_0 p1_1)) fun z =>
  Sum.elim (fun y4 =>
    bif (decide (y4.1 > y4.2.2)) then
      some ((0, []), (0 : Int))
    else some ((1, [(PV.int .i64 y4.1), (PV.int .i64 y4.2.2)]), (0 : Int))) (fun y5 =>
    bif (decide (y5.2.2.1 > y5.2.2.2.2.1)) then
      some ((y5.1, y5.2.1), (0 : Int))
    else bif (decide ((y5.2.2.2.2.2 = y5.1) ∧ ((y5.1 + 1) ≤ big))) then
      some (((y5.1 + 1), (y5.2.1 ++ [(PV.int .i64 y5.2.2.1), (PV.int .i64 y5.2.2.2.2.1)])), (0 : Int))
    else none) z
theorem tblindIn_eq (F : FnT) (L0 : Q → Option YblindIn_0) (p0n : Nat) (p0c : List PV) (p1_0 : Int) (p1_1 : Int) (p2 : Int) : semF (callP F EblindIn 20) s39 (loopT [⟨0, YblindIn_0, L0, XLblindIn_0⟩]) 400 a39 [PV.list p0n p0c, PV.agg [PV.int .i64 p1_0, PV.int .i64 p1_1], PV.int .i64 p2] (fun rv => decR (RSh.tup [(Prod.mk false [CK.list]), (Prod.mk false [(CK.int .i64)])]) rv.pv) = tblindIn F L0 p0n p0c p1_0 p1_1 p2 := by kernel_rfl
noncomputable abbrev FblindIn (args : List PV) := Fn env 39 (RSh.tup [(Prod.mk false [CK.list]), (Prod.mk false [(CK.int .i64)])]) args
theorem FblindIn_of  (p0n : Nat) (p0c : List PV) (p1_0 : Int) (p1_1 : Int) (p2 : Int) {res : (((Nat) × (List PV)) × (Int))} (h : tblindIn (Fn env) LblindIn_0 p0n p0c p1_0 p1_1 p2 = some res) : FblindIn [PV.list p0n p0c, PV.agg [PV.int .i64 p1_0, PV.int .i64 p1_1], PV.int .i64 p2] = some res :=
  fn_of EblindIn_ok rfl rfl (lo_cons (lpO_ok UblindIn) lo_nil) ((tblindIn_eq _ _ _ _ _ _ _).trans h)
def EleadOf : List Entry := [.out 86 (RSh.one (CK.int .i64)), .out 74 (RSh.one (CK.int .i64)), .out 73 (RSh.one (CK.int .i64)), .out 76 (RSh.one (CK.int .i64)), .out 77 (RSh.one (CK.int .i64))]
theorem EleadOf_ok : ∀ e ∈ EleadOf, EntOK env e := (ent_out (ent_out (ent_out (ent_out (ent_out ent_nil)))))
def tleadOf (F : FnT) (p0 : Int) (p1_0 : Int) (p1_1 : Int) : Option ((Int) × ((Int) × (Int))) :=
  bindO (F 86 (RSh.one (CK.int .i64)) [(PV.int .i64 p0)]) fun (y0 : (Int)) =>
  bindO (F 74 (RSh.one (CK.int .i64)) [(PV.int .i64 (1 : Int)), (PV.int .i64 (1000 : Int)), (PV.list 1 [(PV.int .i64 p1_0), (PV.int .i64 p1_1)])]) fun (y1 : (Int)) =>
  bindO (F 73 (RSh.one (CK.int .i64)) [(PV.list 2 [(PV.int .i64 y0), (PV.int .i64 y1)])]) fun (y2 : (Int)) =>
  bif (y2 != (0 : Int)) then
    some ((0 : Int), ((0 : Int), y2))
  else bindO (F 76 (RSh.one (CK.int .i64)) [(PV.int .i64 p0), (PV.int .i64 p1_1)]) fun (y3 : (Int)) =>
  bindO (F 77 (RSh.one (CK.int .i64)) [(PV.int .i64 p0), (PV.int .i64 p1_0)]) fun (y4 : (Int)) =>
  some (y3, (y4, (0 : Int)))
theorem tleadOf_eq (F : FnT) (p0 : Int) (p1_0 : Int) (p1_1 : Int) : semF (callP F EleadOf 20) s40 (loopT []) 400 a40 [PV.int .i64 p0, PV.agg [PV.int .i64 p1_0, PV.int .i64 p1_1]] (fun rv => decR (RSh.tup [(Prod.mk true [(CK.int .i64), (CK.int .i64)]), (Prod.mk false [(CK.int .i64)])]) rv.pv) = tleadOf F p0 p1_0 p1_1 := by kernel_rfl
noncomputable abbrev FleadOf (args : List PV) := Fn env 40 (RSh.tup [(Prod.mk true [(CK.int .i64), (CK.int .i64)]), (Prod.mk false [(CK.int .i64)])]) args
theorem FleadOf_of  (p0 : Int) (p1_0 : Int) (p1_1 : Int) {res : ((Int) × ((Int) × (Int)))} (h : tleadOf (Fn env) p0 p1_0 p1_1 = some res) : FleadOf [PV.int .i64 p0, PV.agg [PV.int .i64 p1_0, PV.int .i64 p1_1]] = some res :=
  fn_of EleadOf_ok rfl rfl lo_nil ((tleadOf_eq _ _ _ _).trans h)
end Gv
