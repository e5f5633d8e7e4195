/- What the functions do, round by round: P20. -/
import Derived.Test.YtojjhhhbdcopmaaP1
namespace Gv
open Go
set_option maxRecDepth 100000

/-! ### concatG -/

def EconcatG : List Entry := [.inl 145 a145 s145]
theorem EconcatG_ok : ∀ e ∈ EconcatG, EntOK env e := (ent_inl rfl ent_nil)
def TconcatG_0a (n0 : Nat) (c1 : List PV) (i2 : Int) (n3 : Nat) (c4 : List PV) (i5 : Int) (i6 : Int) : Q := ⟨(tm 36 [(0, (AV.p (PV.list n0 c1))), (3, (AV.p (PV.int IntKind.i64 i2))), (9, (AV.p (PV.list n3 c4))), (10, (AV.p (PV.int IntKind.i64 i5))), (11, (AV.p (PV.int IntKind.i64 i6)))]), (mm 36 [])⟩
def XconcatG_0a (y : Nat × List PV × Int) : Ext × Q := (Ext.normal, ⟨(tm 36 [(0, (AV.p (PV.list y.1 y.2.1))), (3, (AV.p (PV.int IntKind.i64 y.2.2)))]), (mm 36 [])⟩)
def IconcatG_0a (q : Ext × S) : Nat × List PV × Int := ((pP_list0 (pA_p (avT q.2 0))), (pP_list1 (pA_p (avT q.2 0))), (pP_int1 (pA_p (avT q.2 3))))
abbrev YconcatG_0 : Type := Nat × List PV × Int
def XLconcatG_0 : XL YconcatG_0 := .one XconcatG_0a
def IconcatG_0 (q : Ext × S) : YconcatG_0 := (IconcatG_0a q)
theorem XIconcatG_0a (y : Nat × List PV × Int) : IconcatG_0 (xe (XconcatG_0a y)) = y := rfl
theorem XIconcatG_0 (y : YconcatG_0) : IconcatG_0 (xe (XLconcatG_0.fn y)) = y := XIconcatG_0a y
noncomputable abbrev LconcatG_0 : Q → Option YconcatG_0 := lpO env a115.body 0 XLconcatG_0
noncomputable abbrev RconcatG_0 : Q → Option (Ext × S) := lpR env a115.body 0
theorem LconcatG_0a_of {s : Q} {y : Nat × List PV × Int} (h : RconcatG_0 s = exO (XconcatG_0a y)) : LconcatG_0 s = some y := lpO_of IconcatG_0 XIconcatG_0 (y := y) h
def TconcatG_2a (n0 : Nat) (c1 : List PV) (i2 : Int) (i3 : Int) : Q := ⟨(tm 36 [(6, AV.nilS), (25, (AV.p (PV.list n0 c1))), (26, (AV.p (PV.int IntKind.i64 i2))), (27, (AV.p (PV.int IntKind.i64 i3)))]), (mm 36 [])⟩
def TconcatG_2b (n0 : Nat) (c1 : List PV) (n2 : Nat) (c3 : List PV) (i4 : Int) (i5 : Int) (n6 : Nat) : Q := ⟨(tm 36 [(6, (AV.app 33 n0 2 c1)), (25, (AV.p (PV.list n2 c3))), (26, (AV.p (PV.int IntKind.i64 i4))), (27, (AV.p (PV.int IntKind.i64 i5)))]), (mm 36 [(33, (Bk.buf n6))])⟩
def TconcatG_2c (n0 : Nat) (c1 : List PV) (n2 : Nat) (c3 : List PV) (i4 : Int) (i5 : Int) (n6 : Nat) : Q := ⟨(tm 36 [(6, (AV.app 24 n0 2 c1)), (25, (AV.p (PV.list n2 c3))), (26, (AV.p (PV.int IntKind.i64 i4))), (27, (AV.p (PV.int IntKind.i64 i5)))]), (mm 36 [(24, (Bk.buf n6))])⟩
def XconcatG_2a (_y : Unit) : Ext × Q := (Ext.normal, ⟨(tm 36 [(6, AV.nilS)]), (mm 36 [])⟩)
def IconcatG_2a (_q : Ext × S) : Unit := ()
def XconcatG_2b (y : Nat × List PV × Nat) : Ext × Q := (Ext.normal, ⟨(tm 36 [(6, (AV.app 33 y.1 2 y.2.1))]), (mm 36 [(33, (Bk.buf y.2.2))])⟩)
def IconcatG_2b (q : Ext × S) : Nat × List PV × Nat := ((pA_app1 (avT q.2 6)), (pA_app3 (avT q.2 6)), (pB_buf0 (avM q.2 33)))
def XconcatG_2c (y : Nat × List PV × Nat) : Ext × Q := (Ext.normal, ⟨(tm 36 [(6, (AV.app 24 y.1 2 y.2.1))]), (mm 36 [(24, (Bk.buf y.2.2))])⟩)
def IconcatG_2c (q : Ext × S) : Nat × List PV × Nat := ((pA_app1 (avT q.2 6)), (pA_app3 (avT q.2 6)), (pB_buf0 (avM q.2 24)))
abbrev YconcatG_2 : Type := (Unit) ⊕ ((Nat × List PV × Nat) ⊕ ((Nat × List PV × Nat)))
def XLconcatG_2 : XL YconcatG_2 := .more XconcatG_2a (.more XconcatG_2b (.one XconcatG_2c))
def IconcatG_2 (q : Ext × S) : YconcatG_2 := bif (cA (avT q.2 6) == 1) then (Sum.inl (IconcatG_2a q)) else bif (cB (avM q.2 24) == 0) then (Sum.inr (Sum.inl (IconcatG_2b q))) else (Sum.inr (Sum.inr (IconcatG_2c q)))
theorem XIconcatG_2a (y : Unit) : IconcatG_2 (xe (XconcatG_2a y)) = (Sum.inl y) := rfl
theorem XIconcatG_2b (y : Nat × List PV × Nat) : IconcatG_2 (xe (XconcatG_2b y)) = (Sum.inr (Sum.inl y)) := rfl
theorem XIconcatG_2c (y : Nat × List PV × Nat) : IconcatG_2 (xe (XconcatG_2c y)) = (Sum.inr (Sum.inr y)) := rfl
theorem XIconcatG_2 (y : YconcatG_2) : IconcatG_2 (xe (XLconcatG_2.fn y)) = y := (match y with | .inl y => XIconcatG_2a y | .inr y => (match y with | .inl y => XIconcatG_2b y | .inr y => XIconcatG_2c y))
noncomputable abbrev LconcatG_2 : Q → Option YconcatG_2 := lpO env a115.body 2 XLconcatG_2
noncomputable abbrev RconcatG_2 : Q → Option (Ext × S) := lpR env a115.body 2
theorem LconcatG_2a_of {s : Q} {y : Unit} (h : RconcatG_2 s = exO (XconcatG_2a y)) : LconcatG_2 s = some (Sum.inl y) := lpO_of IconcatG_2 XIconcatG_2 (y := (Sum.inl y)) h
theorem LconcatG_2b_of {s : Q} {y : Nat × List PV × Nat} (h : RconcatG_2 s = exO (XconcatG_2b y)) : LconcatG_2 s = some (Sum.inr (Sum.inl y)) := lpO_of IconcatG_2 XIconcatG_2 (y := (Sum.inr (Sum.inl y))) h
theorem LconcatG_2c_of {s : Q} {y : Nat × List PV × Nat} (h : RconcatG_2 s = exO (XconcatG_2c y)) : LconcatG_2 s = some (Sum.inr (Sum.inr y)) := lpO_of IconcatG_2 XIconcatG_2 (y := (Sum.inr (Sum.inr y))) h
theorem UconcatG : uniq ((blocksOf a115.body).map (·.1)) = true := by kernel_rfl
def BconcatG_0a (_F : FnT) (N : Q → Option (Ext × S)) (E : Ext × Q → Option (Ext × S)) (_L0 : Q → Option YconcatG_0) (_L2 : Q → Option YconcatG_2) (n0 : Nat) (c1 : List PV) (i2 : Int) (n3 : Nat) (c4 : List PV) (i5 : Int) (i6 : Int) : Option (Ext × S) :=
  bif (decide (i6 < i5)) then
    bif (decide (((0 : Int) ≤ i6) ∧ (i6 < (n3 : Int)))) then
      bindO (listC (c4[((Int.toNat i6) * 1)]?)) fun x0 =>
      bif (decide ((w64 (i2 + (x0.1 : Int))) < (0 : Int))) then
        none
      else N (TconcatG_0a n0 c1 (w64 (i2 + (x0.1 : Int))) n3 c4 i5 (w64 (i6 + (1 : Int))))
    else none
  else E (XconcatG_0a (n0, c1, i2))
theorem BconcatG_0a_eq (F : FnT) (N : Q → Option (Ext × S)) (E : Ext × Q → Option (Ext × S)) (L0 : Q → Option YconcatG_0) (L2 : Q → Option YconcatG_2) (n0 : Nat) (c1 : List PV) (i2 : Int) (n3 : Nat) (c4 : List PV) (i5 : Int) (i6 : Int) : semB (callP F EconcatG 20) s115 (loopT [⟨0, YconcatG_0, L0, XLconcatG_0⟩, ⟨2, YconcatG_2, L2, XLconcatG_2⟩]) 400 (blkIn a115.body 0) N E (TconcatG_0a n0 c1 i2 n3 c4 i5 i6) = BconcatG_0a F N E L0 L2 n0 c1 i2 n3 c4 i5 i6 := by kernel_rfl
theorem RconcatG_0a_of  (n0 : Nat) (c1 : List PV) (i2 : Int) (n3 : Nat) (c4 : List PV) (i5 : Int) (i6 : Int) {r : Ext × S} (h : BconcatG_0a (Fn env) RconcatG_0 exO LconcatG_0 LconcatG_2 n0 c1 i2 n3 c4 i5 i6 = some r) : RconcatG_0 (TconcatG_0a n0 c1 i2 n3 c4 i5 i6) = some r :=
  lp_of EconcatG_ok (by kernel_rfl) (lo_cons (lpO_ok UconcatG) (lo_cons (lpO_ok UconcatG) lo_nil)) (by kernel_rfl) ((BconcatG_0a_eq _ _ _ _ _ _ _ _ _ _ _ _).trans h)
def BconcatG_2a (_F : FnT) (N : Q → Option (Ext × S)) (E : Ext × Q → Option (Ext × S)) (_L0 : Q → Option YconcatG_0) (_L2 : Q → Option YconcatG_2) (n0 : Nat) (c1 : List PV) (i2 : Int) (i3 : Int) : Option (Ext × S) :=
  bif (decide (i3 < i2)) then
    bif (decide (((0 : Int) ≤ i3) ∧ (i3 < (n0 : Int)))) then
      bindO (listC (c1[((Int.toNat i3) * 1)]?)) fun x0 =>
      bif (decide (x0.1 = 0)) then
        N (TconcatG_2a n0 c1 i2 (w64 (i3 + (1 : Int))))
      else bif (decide ((List.length x0.2) = (x0.1 * 2))) then
        bif (decide (x0.1 ≤ big)) then
          N (TconcatG_2b x0.1 x0.2 n0 c1 i2 (w64 (i3 + (1 : Int))) x0.1)
        else none
      else none
    else none
  else E (XconcatG_2a ())
theorem BconcatG_2a_eq (F : FnT) (N : Q → Option (Ext × S)) (E : Ext × Q → Option (Ext × S)) (L0 : Q → Option YconcatG_0) (L2 : Q → Option YconcatG_2) (n0 : Nat) (c1 : List PV) (i2 : Int) (i3 : Int) : semB (callP F EconcatG 20) s115 (loopT [⟨0, YconcatG_0, L0, XLconcatG_0⟩, ⟨2, YconcatG_2, L2, XLconcatG_2⟩]) 400 (blkIn a115.body 2) N E (TconcatG_2a n0 c1 i2 i3) = BconcatG_2a F N E L0 L2 n0 c1 i2 i3 := by kernel_rfl
theorem RconcatG_2a_of  (n0 : Nat) (c1 : List PV) (i2 : Int) (i3 : Int) {r : Ext × S} (h : BconcatG_2a (Fn env) RconcatG_2 exO LconcatG_0 LconcatG_2 n0 c1 i2 i3 = some r) : RconcatG_2 (TconcatG_2a n0 c1 i2 i3) = some r :=
  lp_of EconcatG_ok (by kernel_rfl) (lo_cons (lpO_ok UconcatG) (lo_cons (lpO_ok UconcatG) lo_nil)) (by kernel_rfl) ((BconcatG_2a_eq _ _ _ _ _ _ _ _ _).trans h)
def BconcatG_2b (_F : FnT) (N : Q → Option (Ext × S)) (E : Ext × Q → Option (Ext × S)) (_L0 : Q → Option YconcatG_0) (_L2 : Q → Option YconcatG_2) (n0 : Nat) (c1 : List PV) (n2 : Nat) (c3 : List PV) (i4 : Int) (i5 : Int) (n6 : Nat) : Option (Ext × S) :=
  bif (decide (i5 < i4)) then
    bif (decide (((0 : Int) ≤ i5) ∧ (i5 < (n2 : Int)))) then
      bindO (listC (c3[((Int.toNat i5) * 1)]?)) fun x0 =>
      bif (decide (x0.1 = 0)) then
        N (TconcatG_2b n0 c1 n2 c3 i4 (w64 (i5 + (1 : Int))) n6)
      else bif (decide ((List.length x0.2) = (x0.1 * 2))) then
        bif (decide ((n6 = n0) ∧ ((n0 + x0.1) ≤ big))) then
          N (TconcatG_2b (n0 + x0.1) (c1 ++ x0.2) n2 c3 i4 (w64 (i5 + (1 : Int))) (n0 + x0.1))
        else none
      else none
    else none
  else E (XconcatG_2b (n0, c1, n6))
theorem BconcatG_2b_eq (F : FnT) (N : Q → Option (Ext × S)) (E : Ext × Q → Option (Ext × S)) (L0 : Q → Option YconcatG_0) (L2 : Q → Option YconcatG_2) (n0 : Nat) (c1 : List PV) (n2 : Nat) (c3 : List PV) (i4 : Int) (i5 : Int) (n6 : Nat) : semB (callP F EconcatG 20) s115 (loopT [⟨0, YconcatG_0, L0, XLconcatG_0⟩, ⟨2, YconcatG_2, L2, XLconcatG_2⟩]) 400 (blkIn a115.body 2) N E (TconcatG_2b n0 c1 n2 c3 i4 i5 n6) = BconcatG_2b F N E L0 L2 n0 c1 n2 c3 i4 i5 n6 := by kernel_rfl
theorem RconcatG_2b_of  (n0 : Nat) (c1 : List PV) (n2 : Nat) (c3 : List PV) (i4 : Int) (i5 : Int) (n6 : Nat) {r : Ext × S} (h : BconcatG_2b (Fn env) RconcatG_2 exO LconcatG_0 LconcatG_2 n0 c1 n2 c3 i4 i5 n6 = some r) : RconcatG_2 (TconcatG_2b n0 c1 n2 c3 i4 i5 n6) = some r :=
  lp_of EconcatG_ok (by kernel_rfl) (lo_cons (lpO_ok UconcatG) (lo_cons (lpO_ok UconcatG) lo_nil)) (by kernel_rfl) ((BconcatG_2b_eq _ _ _ _ _ _ _ _ _ _ _ _).trans h)
def BconcatG_2c (_F : FnT) (N : Q → Option (Ext × S)) (E : Ext × Q → Option (Ext × S)) (_L0 : Q → Option YconcatG_0) (_L2 : Q → Option YconcatG_2) (n0 : Nat) (c1 : List PV) (n2 : Nat) (c3 : List PV) (i4 : Int) (i5 : Int) (n6 : Nat) : Option (Ext × S) :=
  bif (decide (i5 < i4)) then
    bif (decide (((0 : Int) ≤ i5) ∧ (i5 < (n2 : Int)))) then
      bindO (listC (c3[((Int.toNat i5) * 1)]?)) fun x0 =>
      bif (decide (x0.1 = 0)) then
        N (TconcatG_2c n0 c1 n2 c3 i4 (w64 (i5 + (1 : Int))) n6)
      else bif (decide ((List.length x0.2) = (x0.1 * 2))) then
        bif (decide ((n6 = n0) ∧ ((n0 + x0.1) ≤ big))) then
          N (TconcatG_2c (n0 + x0.1) (c1 ++ x0.2) n2 c3 i4 (w64 (i5 + (1 : Int))) (n0 + x0.1))
        else none
      else none
    else none
  else E (XconcatG_2c (n0, c1, n6))
theorem BconcatG_2c_eq (F : FnT) (N : Q → Option (Ext × S)) (E : Ext × Q → Option (Ext × S)) (L0 : Q → Option YconcatG_0) (L2 : Q → Option YconcatG_2) (n0 : Nat) (c1 : List PV) (n2 : Nat) (c3 : List PV) (i4 : Int) (i5 : Int) (n6 : Nat) : semB (callP F EconcatG 20) s115 (loopT [⟨0, YconcatG_0, L0, XLconcatG_0⟩, ⟨2, YconcatG_2, L2, XLconcatG_2⟩]) 400 (blkIn a115.body 2) N E (TconcatG_2c n0 c1 n2 c3 i4 i5 n6) = BconcatG_2c F N E L0 L2 n0 c1 n2 c3 i4 i5 n6 := by kernel_rfl
theorem RconcatG_2c_of  (n0 : Nat) (c1 : List PV) (n2 : Nat) (c3 : List PV) (i4 : Int) (i5 : Int) (n6 : Nat) {r : Ext × S} (h : BconcatG_2c (Fn env) RconcatG_2 exO LconcatG_0 LconcatG_2 n0 c1 n2 c3 i4 i5 n6 = some r) : RconcatG_2 (TconcatG_2c n0 c1 n2 c3 i4 i5 n6) = some r :=
  lp_of EconcatG_ok (by kernel_rfl) (lo_cons (lpO_ok UconcatG) (lo_cons (lpO_ok UconcatG) lo_nil)) (by kernel_rfl) ((BconcatG_2c_eq _ _ _ _ _ _ _ _ _ _ _ _).trans h)
def tconcatG (_F : FnT) (L0 : Q → Option YconcatG_0) (L2 : Q → Option YconcatG_2) (p0n : Nat) (p0c : List PV) : Option ((Nat) × (List PV)) :=
  bindO (L0 (TconcatG_0a p0n p0c (0 : Int) p0n p0c (p0n : Int) (0 : Int))) fun y0 =>
  bif (decide (y0.2.2 = (0 : Int))) then
    bindO (L2 (TconcatG_2a y0.1 y0.2.1 (y0.1 : Int) (0 : Int))) fun z =>
    Sum.elim (fun _y1 =>
      some (0, [])) (fun z0 => Sum.elim (fun y2 =>
      bif (decide (y2.2.2 = y2.1)) then
        some (y2.1, y2.2.1)
      else none) (fun y3 =>
      bif (decide (y3.2.2 = y3.1)) then
        some (y3.1, y3.2.1)
      else none) z0) z
  else bif (decide (((0 : Int) < y0.2.2) ∧ (y0.2.2 ≤ (big : Int)))) then
    bindO (L2 (TconcatG_2c 0 [] y0.1 y0.2.1 (y0.1 : Int) (0 : Int) 0)) fun z =>
    Sum.elim (fun _y4 =>
      some (0, [])) (fun z0 => Sum.elim (fun y5 =>
      bif (decide (y5.2.2 = y5.1)) then
        some (y5.1, y5.2.1)
      else none) (fun y6 =>
      bif (decide (y6.2.2 = y6.1)) then
        some (y6.1, y6.2.1)
      else none) z0) z
  else none
theorem tconcatG_eq (F : FnT) (L0 : Q → Option YconcatG_0) (L2 : Q → Option YconcatG_2) (p0n : Nat) (p0c : List PV) : semF (callP F EconcatG 20) s115 (loopT [⟨0, YconcatG_0, L0, XLconcatG_0⟩, ⟨2, YconcatG_2, L2, XLconcatG_2⟩]) 400 a115 [PV.list p0n p0c] (fun rv => decR (RSh.one CK.list) rv.pv) = tconcatG F L0 L2 p0n p0c := by kernel_rfl
noncomputable abbrev FconcatG (args : List PV) := Fn env 115 (RSh.one CK.list) args
theorem FconcatG_of  (p0n : Nat) (p0c : List PV) {res : ((Nat) × (List PV))} (h : tconcatG (Fn env) LconcatG_0 LconcatG_2 p0n p0c = some res) : FconcatG [PV.list p0n p0c] = some res :=
  fn_of EconcatG_ok rfl rfl (lo_cons (lpO_ok UconcatG) (lo_cons (lpO_ok UconcatG) lo_nil)) ((tconcatG_eq _ _ _ _ _).trans h)

/-! ### pulse_corrs_1 -/

def Epulse_corrs_1 : List Entry := [.out 110 (RSh.agg [(CK.int IntKind.i64), (CK.int IntKind.i64)])]
theorem Epulse_corrs_1_ok : ∀ e ∈ Epulse_corrs_1, EntOK env e := (ent_out ent_nil)
def Tpulse_corrs_1_0a (n0 : Nat) (c1 : List PV) (i2 : Int) (i3 : Int) (i4 : Int) (c5 : List (Option Nat)) (n6 : Nat) (n7 : Nat) (c8 : List PV) : Q := ⟨(tm 19 [(0, AV.yv), (2, (AV.p (PV.imm [(PV.list n0 c1)] 0))), (3, (AV.p (PV.imm [(PV.int IntKind.i64 i2)] 0))), (6, (AV.p (PV.int IntKind.i64 i3))), (7, (AV.p (PV.int IntKind.i64 i4)))]), (mm 19 [(0, (Bk.log c5 n6 n7 c8))])⟩
def Xpulse_corrs_1_0a (y : List (Option Nat) × Nat × Nat × List PV) : Ext × Q := (Ext.ret, ⟨(tm 19 []), (mm 19 [(0, (Bk.log y.1 y.2.1 y.2.2.1 y.2.2.2))])⟩)
def Ipulse_corrs_1_0a (q : Ext × S) : List (Option Nat) × Nat × Nat × List PV := ((pB_log0 (avM q.2 0)), (pB_log1 (avM q.2 0)), (pB_log2 (avM q.2 0)), (pB_log3 (avM q.2 0)))
def Xpulse_corrs_1_0b (y : List (Option Nat) × Nat × Nat × List PV) : Ext × Q := (Ext.normal, ⟨(tm 19 []), (mm 19 [(0, (Bk.log y.1 y.2.1 y.2.2.1 y.2.2.2))])⟩)
def Ipulse_corrs_1_0b (q : Ext × S) : List (Option Nat) × Nat × Nat × List PV := ((pB_log0 (avM q.2 0)), (pB_log1 (avM q.2 0)), (pB_log2 (avM q.2 0)), (pB_log3 (avM q.2 0)))
abbrev Ypulse_corrs_1_0 : Type := (List (Option Nat) × Nat × Nat × List PV) ⊕ ((List (Option Nat) × Nat × Nat × List PV))
def XLpulse_corrs_1_0 : XL Ypulse_corrs_1_0 := .more Xpulse_corrs_1_0a (.one Xpulse_corrs_1_0b)
def Ipulse_corrs_1_0 (q : Ext × S) : Ypulse_corrs_1_0 := bif (cE q.1 == 2) then (Sum.inl (Ipulse_corrs_1_0a q)) else (Sum.inr (Ipulse_corrs_1_0b q))
theorem XIpulse_corrs_1_0a (y : List (Option Nat) × Nat × Nat × List PV) : Ipulse_corrs_1_0 (xe (Xpulse_corrs_1_0a y)) = (Sum.inl y) := rfl
theorem XIpulse_corrs_1_0b (y : List (Option Nat) × Nat × Nat × List PV) : Ipulse_corrs_1_0 (xe (Xpulse_corrs_1_0b y)) = (Sum.inr y) := rfl
theorem XIpulse_corrs_1_0 (y : Ypulse_corrs_1_0) : Ipulse_corrs_1_0 (xe (XLpulse_corrs_1_0.fn y)) = y := (match y with | .inl y => XIpulse_corrs_1_0a y | .inr y => XIpulse_corrs_1_0b y)
noncomputable abbrev Lpulse_corrs_1_0 : Q → Option Ypulse_corrs_1_0 := lpO env a146.body 0 XLpulse_corrs_1_0
noncomputable abbrev Rpulse_corrs_1_0 : Q → Option (Ext × S) := lpR env a146.body 0
theorem Lpulse_corrs_1_0a_of {s : Q} {y : List (Option Nat) × Nat × Nat × List PV} (h : Rpulse_corrs_1_0 s = exO (Xpulse_corrs_1_0a y)) : Lpulse_corrs_1_0 s = some (Sum.inl y) := lpO_of Ipulse_corrs_1_0 XIpulse_corrs_1_0 (y := (Sum.inl y)) h
theorem Lpulse_corrs_1_0b_of {s : Q} {y : List (Option Nat) × Nat × Nat × List PV} (h : Rpulse_corrs_1_0 s = exO (Xpulse_corrs_1_0b y)) : Lpulse_corrs_1_0 s = some (Sum.inr y) := lpO_of Ipulse_corrs_1_0 XIpulse_corrs_1_0 (y := (Sum.inr y)) h
theorem Upulse_corrs_1 : uniq ((blocksOf a146.body).map (·.1)) = true := by kernel_rfl
def Bpulse_corrs_1_0a (F : FnT) (N : Q → Option (Ext × S)) (E : Ext × Q → Option (Ext × S)) (_L0 : Q → Option Ypulse_corrs_1_0) (n0 : Nat) (c1 : List PV) (i2 : Int) (i3 : Int) (i4 : Int) (c5 : List (Option Nat)) (n6 : Nat) (n7 : Nat) (c8 : List PV) : Option (Ext × S) :=
  bif (decide (i4 < i3)) then
    bindO (F 110 (RSh.agg [(CK.int IntKind.i64), (CK.int IntKind.i64)]) [(PV.list (Prod.mk n0 c1).1 (Prod.mk n0 c1).2), (PV.int IntKind.i64 i4), (PV.int IntKind.i64 i2)]) fun (y0 : ((Int) × (Int))) =>
    bif (decide (n7 ≤ n6)) then
      bif (Gv.shapeOK c5 [(PV.int IntKind.i64 i4), (Gv.encR (RSh.agg [(CK.int IntKind.i64), (CK.int IntKind.i64)]) y0)]) then
        bif (n7 != n6) then
          N (Tpulse_corrs_1_0a n0 c1 i2 i3 (w64 (i4 + (1 : Int))) c5 n6 (n7 + 1) (c8 ++ [(PV.int IntKind.i64 i4), (PV.int IntKind.i64 y0.1), (PV.int IntKind.i64 y0.2)]))
        else E (Xpulse_corrs_1_0a (c5, n6, (n7 + 1), (c8 ++ [(PV.int IntKind.i64 i4), (PV.int IntKind.i64 y0.1), (PV.int IntKind.i64 y0.2)])))
      else none
    else none
  else E (Xpulse_corrs_1_0b (c5, n6, n7, c8))
theorem Bpulse_corrs_1_0a_eq (F : FnT) (N : Q → Option (Ext × S)) (E : Ext × Q → Option (Ext × S)) (L0 : Q → Option Ypulse_corrs_1_0) (n0 : Nat) (c1 : List PV) (i2 : Int) (i3 : Int) (i4 : Int) (c5 : List (Option Nat)) (n6 : Nat) (n7 : Nat) (c8 : List PV) : semB (callP F Epulse_corrs_1 20) s146 (loopT [⟨0, Ypulse_corrs_1_0, L0, XLpulse_corrs_1_0⟩]) 400 (blkIn a146.body 0) N E (Tpulse_corrs_1_0a n0 c1 i2 i3 i4 c5 n6 n7 c8) = Bpulse_corrs_1_0a F N E L0 n0 c1 i2 i3 i4 c5 n6 n7 c8 := by kernel_rfl
theorem Rpulse_corrs_1_0a_of  (n0 : Nat) (c1 : List PV) (i2 : Int) (i3 : Int) (i4 : Int) (c5 : List (Option Nat)) (n6 : Nat) (n7 : Nat) (c8 : List PV) {r : Ext × S} (h : Bpulse_corrs_1_0a (Fn env) Rpulse_corrs_1_0 exO Lpulse_corrs_1_0 n0 c1 i2 i3 i4 c5 n6 n7 c8 = some r) : Rpulse_corrs_1_0 (Tpulse_corrs_1_0a n0 c1 i2 i3 i4 c5 n6 n7 c8) = some r :=
  lp_of Epulse_corrs_1_ok (by kernel_rfl) (lo_cons (lpO_ok Upulse_corrs_1) lo_nil) (by kernel_rfl) ((Bpulse_corrs_1_0a_eq _ _ _ _ _ _ _ _ _ _ _ _ _).trans h)
def tpulse_corrs_1 (_F : FnT) (L0 : Q → Option Ypulse_corrs_1_0)(k : Nat) (a : Int) (n : Nat) (cs : List PV) (b : Int) : Option ((Nat) × (List PV)) :=
  bindO (L0 (Tpulse_corrs_1_0a n cs b a (0 : Int) [Option.none, (Option.some 2)] k 0 [])) fun z =>
  Sum.elim (fun y0 =>
    some (y0.2.2.1, y0.2.2.2)) (fun y1 =>
    some (y1.2.2.1, y1.2.2.2)) z
theorem tpulse_corrs_1_eq (F : FnT) (L0 : Q → Option Ypulse_corrs_1_0)(k : Nat) (a : Int) (n : Nat) (cs : List PV) (b : Int) : semF (callP F Epulse_corrs_1 20) s146 (loopT [⟨0, Ypulse_corrs_1_0, L0, XLpulse_corrs_1_0⟩]) 400 a146 [.it [none, some 2] (k + 1), .imm [.int .i64 a] 0, .imm [.list n cs] 0, .imm [.int .i64 b] 0] (fun rv => decR (RSh.one CK.list) rv.pv) = tpulse_corrs_1 F L0 k a n cs b := by kernel_rfl
noncomputable abbrev Fpulse_corrs_1 (args : List PV) := Fn env 146 (RSh.one CK.list) args
theorem Fpulse_corrs_1_of (k : Nat) (a : Int) (n : Nat) (cs : List PV) (b : Int) {res : ((Nat) × (List PV))} (h : tpulse_corrs_1 (Fn env) Lpulse_corrs_1_0 k a n cs b = some res) : Fpulse_corrs_1 [.it [none, some 2] (k + 1), .imm [.int .i64 a] 0, .imm [.list n cs] 0, .imm [.int .i64 b] 0] = some res :=
  fn_of Epulse_corrs_1_ok rfl rfl (lo_cons (lpO_ok Upulse_corrs_1) lo_nil) ((tpulse_corrs_1_eq _ _ _ _ _ _ _).trans h)

/-! ### pulse_CheckSum -/

def Epulse_CheckSum : List Entry := [.inl 90 a90 s90, .out 89 (RSh.tup [(Prod.mk false [(CK.int IntKind.i64)]), (Prod.mk false [(CK.int IntKind.i64)])]), .out 92 (RSh.one (CK.int IntKind.i64)), .out 105 (RSh.one (CK.int IntKind.i64)), .out 91 (RSh.one (CK.int IntKind.i64)), .out 113 (RSh.tup [(Prod.mk false [(CK.int IntKind.i64)]), (Prod.mk false [(CK.int IntKind.i64)])])]
theorem Epulse_CheckSum_ok : ∀ e ∈ Epulse_CheckSum, EntOK env e := (ent_inl rfl (ent_out (ent_out (ent_out (ent_out (ent_out ent_nil))))))
theorem Upulse_CheckSum : uniq ((blocksOf a53.body).map (·.1)) = true := by kernel_rfl
def tpulse_CheckSum (F : FnT) (p0_0n : Nat) (p0_0c : List PV) (p0_1n : Nat) (p0_1c : List PV) (p0_2 : Int) : Option ((Int) × (Int)) :=
  bindO (F 89 (RSh.tup [(Prod.mk false [(CK.int IntKind.i64)]), (Prod.mk false [(CK.int IntKind.i64)])]) [(PV.list p0_0n p0_0c), (PV.int IntKind.i64 (12 : Int)), (PV.fn 138 [(PV.imm [(PV.int IntKind.i64 (1000000000000 : Int))] 0)])]) fun (y0 : ((Int) × (Int))) =>
  bif (y0.2 != (0 : Int)) then
    some (y0.1, y0.2)
  else bindO (F 92 (RSh.one (CK.int IntKind.i64)) [(PV.int IntKind.i64 p0_2), (PV.int IntKind.i64 (0 : Int)), (PV.int IntKind.i64 (1000000000000 : Int))]) fun (y1 : (Int)) =>
  bif ((p0_1n : Int) != (if ((w64 ((p0_0n : Int) - (1 : Int))) < p0_2) then (w64 ((p0_0n : Int) - (1 : Int))) else p0_2)) then
    bindO (F 105 (RSh.one (CK.int IntKind.i64)) [(PV.bool true), (PV.int IntKind.i64 (10 : Int))]) fun (y2 : (Int)) =>
    bindO (F 91 (RSh.one (CK.int IntKind.i64)) [(PV.list 2 [(PV.int IntKind.i64 y1), (PV.int IntKind.i64 y2)])]) fun (y3 : (Int)) =>
    bif (y3 != (0 : Int)) then
      some ((0 : Int), y3)
    else bindO (F 113 (RSh.tup [(Prod.mk false [(CK.int IntKind.i64)]), (Prod.mk false [(CK.int IntKind.i64)])]) [(PV.list p0_1n p0_1c), (PV.fn 138 [(PV.imm [(PV.int IntKind.i64 (1000 : Int))] 0)])]) fun (y4 : ((Int) × (Int))) =>
    some (y4.1, y4.2)
  else bindO (F 105 (RSh.one (CK.int IntKind.i64)) [(PV.bool false), (PV.int IntKind.i64 (10 : Int))]) fun (y5 : (Int)) =>
  bindO (F 91 (RSh.one (CK.int IntKind.i64)) [(PV.list 2 [(PV.int IntKind.i64 y1), (PV.int IntKind.i64 y5)])]) fun (y6 : (Int)) =>
  bif (y6 != (0 : Int)) then
    some ((0 : Int), y6)
  else bindO (F 113 (RSh.tup [(Prod.mk false [(CK.int IntKind.i64)]), (Prod.mk false [(CK.int IntKind.i64)])]) [(PV.list p0_1n p0_1c), (PV.fn 138 [(PV.imm [(PV.int IntKind.i64 (1000 : Int))] 0)])]) fun (y7 : ((Int) × (Int))) =>
  some (y7.1, y7.2)
theorem tpulse_CheckSum_eq (F : FnT) (p0_0n : Nat) (p0_0c : List PV) (p0_1n : Nat) (p0_1c : List PV) (p0_2 : Int) : semF (callP F Epulse_CheckSum 20) s53 (loopT []) 400 a53 [PV.agg [PV.list p0_0n p0_0c, PV.list p0_1n p0_1c, PV.int IntKind.i64 p0_2]] (fun rv => decR (RSh.tup [(Prod.mk false [(CK.int IntKind.i64)]), (Prod.mk false [(CK.int IntKind.i64)])]) rv.pv) = tpulse_CheckSum F p0_0n p0_0c p0_1n p0_1c p0_2 := by kernel_rfl
noncomputable abbrev Fpulse_CheckSum (args : List PV) := Fn env 53 (RSh.tup [(Prod.mk false [(CK.int IntKind.i64)]), (Prod.mk false [(CK.int IntKind.i64)])]) args
theorem Fpulse_CheckSum_of  (p0_0n : Nat) (p0_0c : List PV) (p0_1n : Nat) (p0_1c : List PV) (p0_2 : Int) {res : ((Int) × (Int))} (h : tpulse_CheckSum (Fn env) p0_0n p0_0c p0_1n p0_1c p0_2 = some res) : Fpulse_CheckSum [PV.agg [PV.list p0_0n p0_0c, PV.list p0_1n p0_1c, PV.int IntKind.i64 p0_2]] = some res :=
  fn_of Epulse_CheckSum_ok rfl rfl lo_nil ((tpulse_CheckSum_eq _ _ _ _ _ _).trans h)

/-! ### pulse_sumError -/

def Epulse_sumError : List Entry := [.out 53 (RSh.tup [(Prod.mk false [(CK.int IntKind.i64)]), (Prod.mk false [(CK.int IntKind.i64)])])]
theorem Epulse_sumError_ok : ∀ e ∈ Epulse_sumError, EntOK env e := (ent_out ent_nil)
theorem Upulse_sumError : uniq ((blocksOf a114.body).map (·.1)) = true := by kernel_rfl
def tpulse_sumError (F : FnT) (p0_0n : Nat) (p0_0c : List PV) (p0_1n : Nat) (p0_1c : List PV) (p0_2 : Int) : Option (Int) :=
  bindO (F 53 (RSh.tup [(Prod.mk false [(CK.int IntKind.i64)]), (Prod.mk false [(CK.int IntKind.i64)])]) [(PV.agg [(PV.list p0_0n p0_0c), (PV.list p0_1n p0_1c), (PV.int IntKind.i64 p0_2)])]) fun (y0 : ((Int) × (Int))) =>
  some y0.2
theorem tpulse_sumError_eq (F : FnT) (p0_0n : Nat) (p0_0c : List PV) (p0_1n : Nat) (p0_1c : List PV) (p0_2 : Int) : semF (callP F Epulse_sumError 20) s114 (loopT []) 400 a114 [PV.agg [PV.list p0_0n p0_0c, PV.list p0_1n p0_1c, PV.int IntKind.i64 p0_2]] (fun rv => decR (RSh.one (CK.int IntKind.i64)) rv.pv) = tpulse_sumError F p0_0n p0_0c p0_1n p0_1c p0_2 := by kernel_rfl
noncomputable abbrev Fpulse_sumError (args : List PV) := Fn env 114 (RSh.one (CK.int IntKind.i64)) args
theorem Fpulse_sumError_of  (p0_0n : Nat) (p0_0c : List PV) (p0_1n : Nat) (p0_1c : List PV) (p0_2 : Int) {res : (Int)} (h : tpulse_sumError (Fn env) p0_0n p0_0c p0_1n p0_1c p0_2 = some res) : Fpulse_sumError [PV.agg [PV.list p0_0n p0_0c, PV.list p0_1n p0_1c, PV.int IntKind.i64 p0_2]] = some res :=
  fn_of Epulse_sumError_ok rfl rfl lo_nil ((tpulse_sumError_eq _ _ _ _ _ _).trans h)

/-! ### glidepathref01_CopySum -/

def Eglidepathref01_CopySum : List Entry := [.out 19 (RSh.one CK.list)]
theorem Eglidepathref01_CopySum_ok : ∀ e ∈ Eglidepathref01_CopySum, EntOK env e := (ent_out ent_nil)
theorem Uglidepathref01_CopySum : uniq ((blocksOf a54.body).map (·.1)) = true := by kernel_rfl
def tglidepathref01_CopySum (F : FnT) (p0_0n : Nat) (p0_0c : List PV) (p0_1n : Nat) (p0_1c : List PV) (p0_2 : Int) : Option (((Nat) × (List PV)) × (((Nat) × (List PV)) × (Int))) :=
  bindO (F 19 (RSh.one CK.list) [(PV.list p0_0n p0_0c)]) fun (y0 : ((Nat) × (List PV))) =>
  bindO (F 19 (RSh.one CK.list) [(PV.list p0_1n p0_1c)]) fun (y1 : ((Nat) × (List PV))) =>
  some ((y0.1, y0.2), ((y1.1, y1.2), p0_2))
theorem tglidepathref01_CopySum_eq (F : FnT) (p0_0n : Nat) (p0_0c : List PV) (p0_1n : Nat) (p0_1c : List PV) (p0_2 : Int) : semF (callP F Eglidepathref01_CopySum 20) s54 (loopT []) 400 a54 [PV.agg [PV.list p0_0n p0_0c, PV.list p0_1n p0_1c, PV.int IntKind.i64 p0_2]] (fun rv => decR (RSh.agg [CK.list, CK.list, (CK.int IntKind.i64)]) rv.pv) = tglidepathref01_CopySum F p0_0n p0_0c p0_1n p0_1c p0_2 := by kernel_rfl
noncomputable abbrev Fglidepathref01_CopySum (args : List PV) := Fn env 54 (RSh.agg [CK.list, CK.list, (CK.int IntKind.i64)]) args
theorem Fglidepathref01_CopySum_of  (p0_0n : Nat) (p0_0c : List PV) (p0_1n : Nat) (p0_1c : List PV) (p0_2 : Int) {res : (((Nat) × (List PV)) × (((Nat) × (List PV)) × (Int)))} (h : tglidepathref01_CopySum (Fn env) p0_0n p0_0c p0_1n p0_1c p0_2 = some res) : Fglidepathref01_CopySum [PV.agg [PV.list p0_0n p0_0c, PV.list p0_1n p0_1c, PV.int IntKind.i64 p0_2]] = some res :=
  fn_of Eglidepathref01_CopySum_ok rfl rfl lo_nil ((tglidepathref01_CopySum_eq _ _ _ _ _ _).trans h)

/-! ### glidepathref01_CheckSum -/

def Eglidepathref01_CheckSum : List Entry := [.out 102 (RSh.one CK.bool), .out 26 (RSh.one CK.bool)]
theorem Eglidepathref01_CheckSum_ok : ∀ e ∈ Eglidepathref01_CheckSum, EntOK env e := (ent_out (ent_out ent_nil))
def Tglidepathref01_CheckSum_0a (i0 : Int) (n1 : Nat) (c2 : List PV) (n3 : Nat) (c4 : List PV) (i5 : Int) : Q := ⟨(tm 59 [(1, (AV.loc 1 0)), (4, (AV.p (PV.int IntKind.i64 i0)))]), (mm 59 [(1, (Bk.cells true [(AV.p (PV.list n1 c2)), (AV.p (PV.list n3 c4)), (AV.p (PV.int IntKind.i64 i5))]))])⟩
def Xglidepathref01_CheckSum_0a (y : Int) : Ext × Q := (Ext.ret, ⟨(tm 59 [(2, (AV.p (PV.int IntKind.i64 y))), (3, (AV.p (PV.int IntKind.i64 (2 : Int))))]), (mm 59 [])⟩)
def Iglidepathref01_CheckSum_0a (q : Ext × S) : Int := (pP_int1 (pA_p (avT q.2 2)))
def Xglidepathref01_CheckSum_0b (y : Nat × List PV × Nat × List PV × Int) : Ext × Q := (Ext.normal, ⟨(tm 59 [(1, (AV.loc 1 0))]), (mm 59 [(1, (Bk.cells true [(AV.p (PV.list y.1 y.2.1)), (AV.p (PV.list y.2.2.1 y.2.2.2.1)), (AV.p (PV.int IntKind.i64 y.2.2.2.2))]))])⟩)
def Iglidepathref01_CheckSum_0b (q : Ext × S) : Nat × List PV × Nat × List PV × Int := ((pP_list0 (pA_p (hdA (pB_cells1 (avM q.2 1))))), (pP_list1 (pA_p (hdA (pB_cells1 (avM q.2 1))))), (pP_list0 (pA_p (hdA (List.tail (pB_cells1 (avM q.2 1)))))), (pP_list1 (pA_p (hdA (List.tail (pB_cells1 (avM q.2 1)))))), (pP_int1 (pA_p (hdA (List.tail (List.tail (pB_cells1 (avM q.2 1))))))))
abbrev Yglidepathref01_CheckSum_0 : Type := (Int) ⊕ ((Nat × List PV × Nat × List PV × Int))
def XLglidepathref01_CheckSum_0 : XL Yglidepathref01_CheckSum_0 := .more Xglidepathref01_CheckSum_0a (.one Xglidepathref01_CheckSum_0b)
def Iglidepathref01_CheckSum_0 (q : Ext × S) : Yglidepathref01_CheckSum_0 := bif (cE q.1 == 2) then (Sum.inl (Iglidepathref01_CheckSum_0a q)) else (Sum.inr (Iglidepathref01_CheckSum_0b q))
theorem XIglidepathref01_CheckSum_0a (y : Int) : Iglidepathref01_CheckSum_0 (xe (Xglidepathref01_CheckSum_0a y)) = (Sum.inl y) := rfl
theorem XIglidepathref01_CheckSum_0b (y : Nat × List PV × Nat × List PV × Int) : Iglidepathref01_CheckSum_0 (xe (Xglidepathref01_CheckSum_0b y)) = (Sum.inr y) := rfl
theorem XIglidepathref01_CheckSum_0 (y : Yglidepathref01_CheckSum_0) : Iglidepathref01_CheckSum_0 (xe (XLglidepathref01_CheckSum_0.fn y)) = y := (match y with | .inl y => XIglidepathref01_CheckSum_0a y | .inr y => XIglidepathref01_CheckSum_0b y)
noncomputable abbrev Lglidepathref01_CheckSum_0 : Q → Option Yglidepathref01_CheckSum_0 := lpO env a57.body 0 XLglidepathref01_CheckSum_0
noncomputable abbrev Rglidepathref01_CheckSum_0 : Q → Option (Ext × S) := lpR env a57.body 0
theorem Lglidepathref01_CheckSum_0a_of {s : Q} {y : Int} (h : Rglidepathref01_CheckSum_0 s = exO (Xglidepathref01_CheckSum_0a y)) : Lglidepathref01_CheckSum_0 s = some (Sum.inl y) := lpO_of Iglidepathref01_CheckSum_0 XIglidepathref01_CheckSum_0 (y := (Sum.inl y)) h
theorem Lglidepathref01_CheckSum_0b_of {s : Q} {y : Nat × List PV × Nat × List PV × Int} (h : Rglidepathref01_CheckSum_0 s = exO (Xglidepathref01_CheckSum_0b y)) : Lglidepathref01_CheckSum_0 s = some (Sum.inr y) := lpO_of Iglidepathref01_CheckSum_0 XIglidepathref01_CheckSum_0 (y := (Sum.inr y)) h
def Tglidepathref01_CheckSum_2a (i0 : Int) (n1 : Nat) (c2 : List PV) (n3 : Nat) (c4 : List PV) (i5 : Int) : Q := ⟨(tm 59 [(1, (AV.loc 1 0)), (5, (AV.p (PV.int IntKind.i64 i0)))]), (mm 59 [(1, (Bk.cells true [(AV.p (PV.list n1 c2)), (AV.p (PV.list n3 c4)), (AV.p (PV.int IntKind.i64 i5))]))])⟩
def Xglidepathref01_CheckSum_2a (y : Int) : Ext × Q := (Ext.ret, ⟨(tm 59 [(2, (AV.p (PV.int IntKind.i64 y))), (3, (AV.p (PV.int IntKind.i64 (2 : Int))))]), (mm 59 [])⟩)
def Iglidepathref01_CheckSum_2a (q : Ext × S) : Int := (pP_int1 (pA_p (avT q.2 2)))
def Xglidepathref01_CheckSum_2b (y : Nat × List PV × Nat × List PV × Int) : Ext × Q := (Ext.normal, ⟨(tm 59 []), (mm 59 [(1, (Bk.cells true [(AV.p (PV.list y.1 y.2.1)), (AV.p (PV.list y.2.2.1 y.2.2.2.1)), (AV.p (PV.int IntKind.i64 y.2.2.2.2))]))])⟩)
def Iglidepathref01_CheckSum_2b (q : Ext × S) : Nat × List PV × Nat × List PV × Int := ((pP_list0 (pA_p (hdA (pB_cells1 (avM q.2 1))))), (pP_list1 (pA_p (hdA (pB_cells1 (avM q.2 1))))), (pP_list0 (pA_p (hdA (List.tail (pB_cells1 (avM q.2 1)))))), (pP_list1 (pA_p (hdA (List.tail (pB_cells1 (avM q.2 1)))))), (pP_int1 (pA_p (hdA (List.tail (List.tail (pB_cells1 (avM q.2 1))))))))
abbrev Yglidepathref01_CheckSum_2 : Type := (Int) ⊕ ((Nat × List PV × Nat × List PV × Int))
def XLglidepathref01_CheckSum_2 : XL Yglidepathref01_CheckSum_2 := .more Xglidepathref01_CheckSum_2a (.one Xglidepathref01_CheckSum_2b)
def Iglidepathref01_CheckSum_2 (q : Ext × S) : Yglidepathref01_CheckSum_2 := bif (cE q.1 == 2) then (Sum.inl (Iglidepathref01_CheckSum_2a q)) else (Sum.inr (Iglidepathref01_CheckSum_2b q))
theorem XIglidepathref01_CheckSum_2a (y : Int) : Iglidepathref01_CheckSum_2 (xe (Xglidepathref01_CheckSum_2a y)) = (Sum.inl y) := rfl
theorem XIglidepathref01_CheckSum_2b (y : Nat × List PV × Nat × List PV × Int) : Iglidepathref01_CheckSum_2 (xe (Xglidepathref01_CheckSum_2b y)) = (Sum.inr y) := rfl
theorem XIglidepathref01_CheckSum_2 (y : Yglidepathref01_CheckSum_2) : Iglidepathref01_CheckSum_2 (xe (XLglidepathref01_CheckSum_2.fn y)) = y := (match y with | .inl y => XIglidepathref01_CheckSum_2a y | .inr y => XIglidepathref01_CheckSum_2b y)
noncomputable abbrev Lglidepathref01_CheckSum_2 : Q → Option Yglidepathref01_CheckSum_2 := lpO env a57.body 2 XLglidepathref01_CheckSum_2
noncomputable abbrev Rglidepathref01_CheckSum_2 : Q → Option (Ext × S) := lpR env a57.body 2
theorem Lglidepathref01_CheckSum_2a_of {s : Q} {y : Int} (h : Rglidepathref01_CheckSum_2 s = exO (Xglidepathref01_CheckSum_2a y)) : Lglidepathref01_CheckSum_2 s = some (Sum.inl y) := lpO_of Iglidepathref01_CheckSum_2 XIglidepathref01_CheckSum_2 (y := (Sum.inl y)) h
theorem Lglidepathref01_CheckSum_2b_of {s : Q} {y : Nat × List PV × Nat × List PV × Int} (h : Rglidepathref01_CheckSum_2 s = exO (Xglidepathref01_CheckSum_2b y)) : Lglidepathref01_CheckSum_2 s = some (Sum.inr y) := lpO_of Iglidepathref01_CheckSum_2 XIglidepathref01_CheckSum_2 (y := (Sum.inr y)) h
theorem Uglidepathref01_CheckSum : uniq ((blocksOf a57.body).map (·.1)) = true := by kernel_rfl
def Bglidepathref01_CheckSum_0a (F : FnT) (N : Q → Option (Ext × S)) (E : Ext × Q → Option (Ext × S)) (_L0 : Q → Option Yglidepathref01_CheckSum_0) (_L2 : Q → Option Yglidepathref01_CheckSum_2) (i0 : Int) (n1 : Nat) (c2 : List PV) (n3 : Nat) (c4 : List PV) (i5 : Int) : Option (Ext × S) :=
  bif (decide (i0 < (n1 : Int))) then
    bif (decide (((0 : Int) ≤ i0) ∧ (i0 < (n1 : Int)))) then
      bindO (intC IntKind.i64 (c2[((Int.toNat i0) * 2)]?)) fun x0 =>
      bindO (intC IntKind.i64 (c2[(((Int.toNat i0) * 2) + 1)]?)) fun x1 =>
      bindO (F 102 (RSh.one CK.bool) [(PV.agg [(PV.int IntKind.i64 x0), (PV.int IntKind.i64 x1)]), (PV.int IntKind.i64 (1000000000000 : Int))]) fun (y2 : (Bool)) =>
      bif y2 then
        N (Tglidepathref01_CheckSum_0a (w64 (i0 + (1 : Int))) n1 c2 n3 c4 i5)
      else E (Xglidepathref01_CheckSum_0a i0)
    else none
  else E (Xglidepathref01_CheckSum_0b (n1, c2, n3, c4, i5))
theorem Bglidepathref01_CheckSum_0a_eq (F : FnT) (N : Q → Option (Ext × S)) (E : Ext × Q → Option (Ext × S)) (L0 : Q → Option Yglidepathref01_CheckSum_0) (L2 : Q → Option Yglidepathref01_CheckSum_2) (i0 : Int) (n1 : Nat) (c2 : List PV) (n3 : Nat) (c4 : List PV) (i5 : Int) : semB (callP F Eglidepathref01_CheckSum 20) s57 (loopT [⟨0, Yglidepathref01_CheckSum_0, L0, XLglidepathref01_CheckSum_0⟩, ⟨2, Yglidepathref01_CheckSum_2, L2, XLglidepathref01_CheckSum_2⟩]) 400 (blkIn a57.body 0) N E (Tglidepathref01_CheckSum_0a i0 n1 c2 n3 c4 i5) = Bglidepathref01_CheckSum_0a F N E L0 L2 i0 n1 c2 n3 c4 i5 := by kernel_rfl
theorem Rglidepathref01_CheckSum_0a_of  (i0 : Int) (n1 : Nat) (c2 : List PV) (n3 : Nat) (c4 : List PV) (i5 : Int) {r : Ext × S} (h : Bglidepathref01_CheckSum_0a (Fn env) Rglidepathref01_CheckSum_0 exO Lglidepathref01_CheckSum_0 Lglidepathref01_CheckSum_2 i0 n1 c2 n3 c4 i5 = some r) : Rglidepathref01_CheckSum_0 (Tglidepathref01_CheckSum_0a i0 n1 c2 n3 c4 i5) = some r :=
  lp_of Eglidepathref01_CheckSum_ok (by kernel_rfl) (lo_cons (lpO_ok Uglidepathref01_CheckSum) (lo_cons (lpO_ok Uglidepathref01_CheckSum) lo_nil)) (by kernel_rfl) ((Bglidepathref01_CheckSum_0a_eq _ _ _ _ _ _ _ _ _ _ _).trans h)
def Bglidepathref01_CheckSum_2a (F : FnT) (N : Q → Option (Ext × S)) (E : Ext × Q → Option (Ext × S)) (_L0 : Q → Option Yglidepathref01_CheckSum_0) (_L2 : Q → Option Yglidepathref01_CheckSum_2) (i0 : Int) (n1 : Nat) (c2 : List PV) (n3 : Nat) (c4 : List PV) (i5 : Int) : Option (Ext × S) :=
  bif (decide (i0 < (n3 : Int))) then
    bif (decide (((0 : Int) ≤ i0) ∧ (i0 < (n3 : Int)))) then
      bindO (intC IntKind.i64 (c4[((Int.toNat i0) * 2)]?)) fun x0 =>
      bindO (intC IntKind.i64 (c4[(((Int.toNat i0) * 2) + 1)]?)) fun x1 =>
      bindO (F 102 (RSh.one CK.bool) [(PV.agg [(PV.int IntKind.i64 x0), (PV.int IntKind.i64 x1)]), (PV.int IntKind.i64 (1000 : Int))]) fun (y2 : (Bool)) =>
      bif y2 then
        N (Tglidepathref01_CheckSum_2a (w64 (i0 + (1 : Int))) n1 c2 n3 c4 i5)
      else E (Xglidepathref01_CheckSum_2a i0)
    else none
  else E (Xglidepathref01_CheckSum_2b (n1, c2, n3, c4, i5))
theorem Bglidepathref01_CheckSum_2a_eq (F : FnT) (N : Q → Option (Ext × S)) (E : Ext × Q → Option (Ext × S)) (L0 : Q → Option Yglidepathref01_CheckSum_0) (L2 : Q → Option Yglidepathref01_CheckSum_2) (i0 : Int) (n1 : Nat) (c2 : List PV) (n3 : Nat) (c4 : List PV) (i5 : Int) : semB (callP F Eglidepathref01_CheckSum 20) s57 (loopT [⟨0, Yglidepathref01_CheckSum_0, L0, XLglidepathref01_CheckSum_0⟩, ⟨2, Yglidepathref01_CheckSum_2, L2, XLglidepathref01_CheckSum_2⟩]) 400 (blkIn a57.body 2) N E (Tglidepathref01_CheckSum_2a i0 n1 c2 n3 c4 i5) = Bglidepathref01_CheckSum_2a F N E L0 L2 i0 n1 c2 n3 c4 i5 := by kernel_rfl
theorem Rglidepathref01_CheckSum_2a_of  (i0 : Int) (n1 : Nat) (c2 : List PV) (n3 : Nat) (c4 : List PV) (i5 : Int) {r : Ext × S} (h : Bglidepathref01_CheckSum_2a (Fn env) Rglidepathref01_CheckSum_2 exO Lglidepathref01_CheckSum_0 Lglidepathref01_CheckSum_2 i0 n1 c2 n3 c4 i5 = some r) : Rglidepathref01_CheckSum_2 (Tglidepathref01_CheckSum_2a i0 n1 c2 n3 c4 i5) = some r :=
  lp_of Eglidepathref01_CheckSum_ok (by kernel_rfl) (lo_cons (lpO_ok Uglidepathref01_CheckSum) (lo_cons (lpO_ok Uglidepathref01_CheckSum) lo_nil)) (by kernel_rfl) ((Bglidepathref01_CheckSum_2a_eq _ _ _ _ _ _ _ _ _ _ _).trans h)
def tglidepathref01_CheckSum (F : FnT) (L0 : Q → Option Yglidepathref01_CheckSum_0) (L2 : Q → Option Yglidepathref01_CheckSum_2) (p0_0n : Nat) (p0_0c : List PV) (p0_1n : Nat) (p0_1c : List PV) (p0_2 : Int) : Option ((Int) × (Int)) :=
  bif ((p0_0n : Int) == (0 : Int)) then
    some ((0 : Int), (10 : Int))
  else bif (decide ((p0_0n : Int) > (12 : Int))) then
    some ((0 : Int), (8 : Int))
  else bindO (L0 (Tglidepathref01_CheckSum_0a (0 : Int) p0_0n p0_0c p0_1n p0_1c p0_2)) fun z =>
  Sum.elim (fun y0 =>
    some (y0, (2 : Int))) (fun y1 =>
    bindO (F 26 (RSh.one CK.bool) [(PV.int IntKind.i64 y1.2.2.2.2), (PV.int IntKind.i64 (0 : Int)), (PV.int IntKind.i64 (1000000000000 : Int))]) fun (y2 : (Bool)) =>
    bif y2 then
      bif ((y1.2.2.1 : Int) != (if ((w64 ((y1.1 : Int) - (1 : Int))) < y1.2.2.2.2) then (w64 ((y1.1 : Int) - (1 : Int))) else y1.2.2.2.2)) then
        some ((0 : Int), (10 : Int))
      else bindO (L2 (Tglidepathref01_CheckSum_2a (0 : Int) y1.1 y1.2.1 y1.2.2.1 y1.2.2.2.1 y1.2.2.2.2)) fun z =>
      Sum.elim (fun y3 =>
        some (y3, (2 : Int))) (fun _y4 =>
        some ((0 : Int), (0 : Int))) z
    else some ((0 : Int), (2 : Int))) z
theorem tglidepathref01_CheckSum_eq (F : FnT) (L0 : Q → Option Yglidepathref01_CheckSum_0) (L2 : Q → Option Yglidepathref01_CheckSum_2) (p0_0n : Nat) (p0_0c : List PV) (p0_1n : Nat) (p0_1c : List PV) (p0_2 : Int) : semF (callP F Eglidepathref01_CheckSum 20) s57 (loopT [⟨0, Yglidepathref01_CheckSum_0, L0, XLglidepathref01_CheckSum_0⟩, ⟨2, Yglidepathref01_CheckSum_2, L2, XLglidepathref01_CheckSum_2⟩]) 400 a57 [PV.agg [PV.list p0_0n p0_0c, PV.list p0_1n p0_1c, PV.int IntKind.i64 p0_2]] (fun rv => decR (RSh.tup [(Prod.mk false [(CK.int IntKind.i64)]), (Prod.mk false [(CK.int IntKind.i64)])]) rv.pv) = tglidepathref01_CheckSum F L0 L2 p0_0n p0_0c p0_1n p0_1c p0_2 := by kernel_rfl
noncomputable abbrev Fglidepathref01_CheckSum (args : List PV) := Fn env 57 (RSh.tup [(Prod.mk false [(CK.int IntKind.i64)]), (Prod.mk false [(CK.int IntKind.i64)])]) args
theorem Fglidepathref01_CheckSum_of  (p0_0n : Nat) (p0_0c : List PV) (p0_1n : Nat) (p0_1c : List PV) (p0_2 : Int) {res : ((Int) × (Int))} (h : tglidepathref01_CheckSum (Fn env) Lglidepathref01_CheckSum_0 Lglidepathref01_CheckSum_2 p0_0n p0_0c p0_1n p0_1c p0_2 = some res) : Fglidepathref01_CheckSum [PV.agg [PV.list p0_0n p0_0c, PV.list p0_1n p0_1c, PV.int IntKind.i64 p0_2]] = some res :=
  fn_of Eglidepathref01_CheckSum_ok rfl rfl (lo_cons (lpO_ok Uglidepathref01_CheckSum) (lo_cons (lpO_ok Uglidepathref01_CheckSum) lo_nil)) ((tglidepathref01_CheckSum_eq _ _ _ _ _ _ _ _).trans h)

/-! ### glidepathref01_SumErr -/

def Eglidepathref01_SumErr : List Entry := [.out 57 (RSh.tup [(Prod.mk false [(CK.int IntKind.i64)]), (Prod.mk false [(CK.int IntKind.i64)])])]
theorem Eglidepathref01_SumErr_ok : ∀ e ∈ Eglidepathref01_SumErr, EntOK env e := (ent_out ent_nil)
theorem Uglidepathref01_SumErr : uniq ((blocksOf a62.body).map (·.1)) = true := by kernel_rfl
def tglidepathref01_SumErr (F : FnT) (p0_0n : Nat) (p0_0c : List PV) (p0_1n : Nat) (p0_1c : List PV) (p0_2 : Int) : Option (Int) :=
  bindO (F 57 (RSh.tup [(Prod.mk false [(CK.int IntKind.i64)]), (Prod.mk false [(CK.int IntKind.i64)])]) [(PV.agg [(PV.list p0_0n p0_0c), (PV.list p0_1n p0_1c), (PV.int IntKind.i64 p0_2)])]) fun (y0 : ((Int) × (Int))) =>
  some y0.2
theorem tglidepathref01_SumErr_eq (F : FnT) (p0_0n : Nat) (p0_0c : List PV) (p0_1n : Nat) (p0_1c : List PV) (p0_2 : Int) : semF (callP F Eglidepathref01_SumErr 20) s62 (loopT []) 400 a62 [PV.agg [PV.list p0_0n p0_0c, PV.list p0_1n p0_1c, PV.int IntKind.i64 p0_2]] (fun rv => decR (RSh.one (CK.int IntKind.i64)) rv.pv) = tglidepathref01_SumErr F p0_0n p0_0c p0_1n p0_1c p0_2 := by kernel_rfl
noncomputable abbrev Fglidepathref01_SumErr (args : List PV) := Fn env 62 (RSh.one (CK.int IntKind.i64)) args
theorem Fglidepathref01_SumErr_of  (p0_0n : Nat) (p0_0c : List PV) (p0_1n : Nat) (p0_1c : List PV) (p0_2 : Int) {res : (Int)} (h : tglidepathref01_SumErr (Fn env) p0_0n p0_0c p0_1n p0_1c p0_2 = some res) : Fglidepathref01_SumErr [PV.agg [PV.list p0_0n p0_0c, PV.list p0_1n p0_1c, PV.int IntKind.i64 p0_2]] = some res :=
  fn_of Eglidepathref01_SumErr_ok rfl rfl lo_nil ((tglidepathref01_SumErr_eq _ _ _ _ _ _).trans h)

/-! ### glidepathbase_GSub -/

def Eglidepathbase_GSub : List Entry := []
theorem Eglidepathbase_GSub_ok : ∀ e ∈ Eglidepathbase_GSub, EntOK env e := ent_nil
theorem Uglidepathbase_GSub : uniq ((blocksOf a119.body).map (·.1)) = true := by kernel_rfl
def tglidepathbase_GSub (_F : FnT) (p0_0 : Int) (p0_1 : Int) (p1_0 : Int) (p1_1 : Int) : Option ((Int) × (Int)) :=
  some ((w64 (p0_0 - p1_0)), (w64 (p0_1 - p1_1)))
theorem tglidepathbase_GSub_eq (F : FnT) (p0_0 : Int) (p0_1 : Int) (p1_0 : Int) (p1_1 : Int) : semF (callP F Eglidepathbase_GSub 20) s119 (loopT []) 400 a119 [PV.agg [PV.int IntKind.i64 p0_0, PV.int IntKind.i64 p0_1], PV.agg [PV.int IntKind.i64 p1_0, PV.int IntKind.i64 p1_1]] (fun rv => decR (RSh.agg [(CK.int IntKind.i64), (CK.int IntKind.i64)]) rv.pv) = tglidepathbase_GSub F p0_0 p0_1 p1_0 p1_1 := by kernel_rfl
noncomputable abbrev Fglidepathbase_GSub (args : List PV) := Fn env 119 (RSh.agg [(CK.int IntKind.i64), (CK.int IntKind.i64)]) args
theorem Fglidepathbase_GSub_of  (p0_0 : Int) (p0_1 : Int) (p1_0 : Int) (p1_1 : Int) {res : ((Int) × (Int))} (h : tglidepathbase_GSub (Fn env) p0_0 p0_1 p1_0 p1_1 = some res) : Fglidepathbase_GSub [PV.agg [PV.int IntKind.i64 p0_0, PV.int IntKind.i64 p0_1], PV.agg [PV.int IntKind.i64 p1_0, PV.int IntKind.i64 p1_1]] = some res :=
  fn_of Eglidepathbase_GSub_ok rfl rfl lo_nil ((tglidepathbase_GSub_eq _ _ _ _ _).trans h)

/-! ### glidepathref01_SameSum -/

def Eglidepathref01_SameSum : List Entry := [.out 32 (RSh.one CK.bool)]
theorem Eglidepathref01_SameSum_ok : ∀ e ∈ Eglidepathref01_SameSum, EntOK env e := (ent_out ent_nil)
theorem Uglidepathref01_SameSum : uniq ((blocksOf a59.body).map (·.1)) = true := by kernel_rfl
def tglidepathref01_SameSum (F : FnT) (p0_0n : Nat) (p0_0c : List PV) (p0_1n : Nat) (p0_1c : List PV) (p0_2 : Int) (p1_0n : Nat) (p1_0c : List PV) (p1_1n : Nat) (p1_1c : List PV) (p1_2 : Int) : Option (Bool) :=
  bif (p0_2 == p1_2) then
    bindO (F 32 (RSh.one CK.bool) [(PV.list p0_0n p0_0c), (PV.list p1_0n p1_0c)]) fun (y0 : (Bool)) =>
    bif y0 then
      bindO (F 32 (RSh.one CK.bool) [(PV.list p0_1n p0_1c), (PV.list p1_1n p1_1c)]) fun (y1 : (Bool)) =>
      bif y1 then
        some true
      else some false
    else some false
  else some false
theorem tglidepathref01_SameSum_eq (F : FnT) (p0_0n : Nat) (p0_0c : List PV) (p0_1n : Nat) (p0_1c : List PV) (p0_2 : Int) (p1_0n : Nat) (p1_0c : List PV) (p1_1n : Nat) (p1_1c : List PV) (p1_2 : Int) : semF (callP F Eglidepathref01_SameSum 20) s59 (loopT []) 400 a59 [PV.agg [PV.list p0_0n p0_0c, PV.list p0_1n p0_1c, PV.int IntKind.i64 p0_2], PV.agg [PV.list p1_0n p1_0c, PV.list p1_1n p1_1c, PV.int IntKind.i64 p1_2]] (fun rv => decR (RSh.one CK.bool) rv.pv) = tglidepathref01_SameSum F p0_0n p0_0c p0_1n p0_1c p0_2 p1_0n p1_0c p1_1n p1_1c p1_2 := by kernel_rfl
noncomputable abbrev Fglidepathref01_SameSum (args : List PV) := Fn env 59 (RSh.one CK.bool) args
theorem Fglidepathref01_SameSum_of  (p0_0n : Nat) (p0_0c : List PV) (p0_1n : Nat) (p0_1c : List PV) (p0_2 : Int) (p1_0n : Nat) (p1_0c : List PV) (p1_1n : Nat) (p1_1c : List PV) (p1_2 : Int) {res : (Bool)} (h : tglidepathref01_SameSum (Fn env) p0_0n p0_0c p0_1n p0_1c p0_2 p1_0n p1_0c p1_1n p1_1c p1_2 = some res) : Fglidepathref01_SameSum [PV.agg [PV.list p0_0n p0_0c, PV.list p0_1n p0_1c, PV.int IntKind.i64 p0_2], PV.agg [PV.list p1_0n p1_0c, PV.list p1_1n p1_1c, PV.int IntKind.i64 p1_2]] = some res :=
  fn_of Eglidepathref01_SameSum_ok rfl rfl lo_nil ((tglidepathref01_SameSum_eq _ _ _ _ _ _ _ _ _ _ _).trans h)

/-! ### glidepathlaw01_both -/

def Eglidepathlaw01_both : List Entry := []
theorem Eglidepathlaw01_both_ok : ∀ e ∈ Eglidepathlaw01_both, EntOK env e := ent_nil
theorem Uglidepathlaw01_both : uniq ((blocksOf a29.body).map (·.1)) = true := by kernel_rfl
def tglidepathlaw01_both (_F : FnT) (p0 : Int) (p1 : Int) : Option (Int) :=
  bif (p0 != (0 : Int)) then
    some p0
  else some p1
theorem tglidepathlaw01_both_eq (F : FnT) (p0 : Int) (p1 : Int) : semF (callP F Eglidepathlaw01_both 20) s29 (loopT []) 400 a29 [PV.int IntKind.i64 p0, PV.int IntKind.i64 p1] (fun rv => decR (RSh.one (CK.int IntKind.i64)) rv.pv) = tglidepathlaw01_both F p0 p1 := by kernel_rfl
noncomputable abbrev Fglidepathlaw01_both (args : List PV) := Fn env 29 (RSh.one (CK.int IntKind.i64)) args
theorem Fglidepathlaw01_both_of  (p0 : Int) (p1 : Int) {res : (Int)} (h : tglidepathlaw01_both (Fn env) p0 p1 = some res) : Fglidepathlaw01_both [PV.int IntKind.i64 p0, PV.int IntKind.i64 p1] = some res :=
  fn_of Eglidepathlaw01_both_ok rfl rfl lo_nil ((tglidepathlaw01_both_eq _ _ _).trans h)

end Gv
