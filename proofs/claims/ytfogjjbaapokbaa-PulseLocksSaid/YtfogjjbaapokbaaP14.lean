/- What the functions do, round by round: P14. -/
import Derived.Test.YtfogjjbaapokbaaP13
namespace Gv
open Go
set_option maxRecDepth 100000

/-! ### glidepathref01_PolynomialErr -/

def Eglidepathref01_PolynomialErr : List Entry := [.out 26 (RSh.one CK.bool)]
theorem Eglidepathref01_PolynomialErr_ok : ∀ e ∈ Eglidepathref01_PolynomialErr, EntOK env e := (ent_out ent_nil)
def Tglidepathref01_PolynomialErr_0a (n0 : Nat) (c1 : List PV) (i2 : Int) : Q := ⟨(tm 22 [(0,(AV.p (PV.list n0 c1))),(3,(AV.p (PV.int IntKind.i64 i2)))]),(mm 22 [])⟩
def Xglidepathref01_PolynomialErr_0a (y : Unit) : Ext × Q := (Ext.ret,⟨(tm 22 [(2,(AV.p (PV.int IntKind.i64 (2 : Int))))]),(mm 22 [])⟩)
def Iglidepathref01_PolynomialErr_0a (q : Ext × S) : Unit := ()
def Xglidepathref01_PolynomialErr_0b (y : Unit) : Ext × Q := (Ext.normal,⟨(tm 22 []),(mm 22 [])⟩)
def Iglidepathref01_PolynomialErr_0b (q : Ext × S) : Unit := ()
abbrev Yglidepathref01_PolynomialErr_0 : Type := (Unit) ⊕ ((Unit))
def XLglidepathref01_PolynomialErr_0 : XL Yglidepathref01_PolynomialErr_0 := .more Xglidepathref01_PolynomialErr_0a (.one Xglidepathref01_PolynomialErr_0b)
def Iglidepathref01_PolynomialErr_0 (q : Ext × S) : Yglidepathref01_PolynomialErr_0 := bif (cE q.1 == 2) then (Sum.inl (Iglidepathref01_PolynomialErr_0a q)) else (Sum.inr (Iglidepathref01_PolynomialErr_0b q))
theorem XIglidepathref01_PolynomialErr_0a (y : Unit) : Iglidepathref01_PolynomialErr_0 (xe (Xglidepathref01_PolynomialErr_0a y)) = (Sum.inl y) := rfl
theorem XIglidepathref01_PolynomialErr_0b (y : Unit) : Iglidepathref01_PolynomialErr_0 (xe (Xglidepathref01_PolynomialErr_0b y)) = (Sum.inr y) := rfl
theorem XIglidepathref01_PolynomialErr_0 (y : Yglidepathref01_PolynomialErr_0) : Iglidepathref01_PolynomialErr_0 (xe (XLglidepathref01_PolynomialErr_0.fn y)) = y := (match y with | .inl y => XIglidepathref01_PolynomialErr_0a y | .inr y => XIglidepathref01_PolynomialErr_0b y)
noncomputable abbrev Lglidepathref01_PolynomialErr_0 : Q → Option Yglidepathref01_PolynomialErr_0 := lpO env a81.body 0 XLglidepathref01_PolynomialErr_0
noncomputable abbrev Rglidepathref01_PolynomialErr_0 : Q → Option (Ext × S) := lpR env a81.body 0
theorem Lglidepathref01_PolynomialErr_0a_of {s : Q} {y : Unit} (h : Rglidepathref01_PolynomialErr_0 s = exO (Xglidepathref01_PolynomialErr_0a y)) : Lglidepathref01_PolynomialErr_0 s = some (Sum.inl y) := lpO_of Iglidepathref01_PolynomialErr_0 XIglidepathref01_PolynomialErr_0 (y := (Sum.inl y)) h
theorem Lglidepathref01_PolynomialErr_0b_of {s : Q} {y : Unit} (h : Rglidepathref01_PolynomialErr_0 s = exO (Xglidepathref01_PolynomialErr_0b y)) : Lglidepathref01_PolynomialErr_0 s = some (Sum.inr y) := lpO_of Iglidepathref01_PolynomialErr_0 XIglidepathref01_PolynomialErr_0 (y := (Sum.inr y)) h
theorem Uglidepathref01_PolynomialErr : uniq ((blocksOf a81.body).map (·.1)) = true := by kernel_rfl
def Bglidepathref01_PolynomialErr_0a (F : FnT) (N : Q → Option (Ext × S)) (E : Ext × Q → Option (Ext × S)) (L0 : Q → Option Yglidepathref01_PolynomialErr_0) (n0 : Nat) (c1 : List PV) (i2 : Int) : Option (Ext × S) :=
  bif (decide (i2 < (n0 : Int))) then
    bif (decide (((0 : Int) ≤ i2) ∧ (i2 < (n0 : Int)))) then
      bindO (intC IntKind.i64 (c1[((Int.toNat i2) * 1)]?)) fun x0 =>
      bindO (F 26 (RSh.one CK.bool) [(PV.int IntKind.i64 x0), (PV.int IntKind.i64 (-60 : Int)), (PV.int IntKind.i64 (60 : Int))]) fun (y1 : (Bool)) =>
      bif y1 then
        N (Tglidepathref01_PolynomialErr_0a n0 c1 (w64 (i2 + (1 : Int))))
      else E (Xglidepathref01_PolynomialErr_0a ())
    else none
  else E (Xglidepathref01_PolynomialErr_0b ())
theorem Bglidepathref01_PolynomialErr_0a_eq (F : FnT) (N : Q → Option (Ext × S)) (E : Ext × Q → Option (Ext × S)) (L0 : Q → Option Yglidepathref01_PolynomialErr_0) (n0 : Nat) (c1 : List PV) (i2 : Int) : semB (callP F Eglidepathref01_PolynomialErr 20) s81 (loopT [⟨0, Yglidepathref01_PolynomialErr_0, L0, XLglidepathref01_PolynomialErr_0⟩]) 400 (blkIn a81.body 0) N E (Tglidepathref01_PolynomialErr_0a n0 c1 i2) = Bglidepathref01_PolynomialErr_0a F N E L0 n0 c1 i2 := by kernel_rfl
theorem Rglidepathref01_PolynomialErr_0a_of  (n0 : Nat) (c1 : List PV) (i2 : Int) {r : Ext × S} (h : Bglidepathref01_PolynomialErr_0a (Fn env) Rglidepathref01_PolynomialErr_0 exO Lglidepathref01_PolynomialErr_0 n0 c1 i2 = some r) : Rglidepathref01_PolynomialErr_0 (Tglidepathref01_PolynomialErr_0a n0 c1 i2) = some r :=
  lp_of Eglidepathref01_PolynomialErr_ok (by kernel_rfl) (lo_cons (lpO_ok Uglidepathref01_PolynomialErr) lo_nil) (by kernel_rfl) ((Bglidepathref01_PolynomialErr_0a_eq _ _ _ _ _ _ _).trans h)
def tglidepathref01_PolynomialErr (F : FnT) (L0 : Q → Option Yglidepathref01_PolynomialErr_0) (p0n : Nat) (p0c : List PV) : Option (Int) :=
  bif ((p0n : Int) == (0 : Int)) then
    some (10 : Int)
  else bif (decide ((p0n : Int) > (4 : Int))) then
    some (8 : Int)
  else bindO (L0 (Tglidepathref01_PolynomialErr_0a p0n p0c (0 : Int))) fun z =>
  Sum.elim (fun y0 =>
    some (2 : Int)) (fun y1 =>
    some (0 : Int)) z
theorem tglidepathref01_PolynomialErr_eq (F : FnT) (L0 : Q → Option Yglidepathref01_PolynomialErr_0) (p0n : Nat) (p0c : List PV) : semF (callP F Eglidepathref01_PolynomialErr 20) s81 (loopT [⟨0, Yglidepathref01_PolynomialErr_0, L0, XLglidepathref01_PolynomialErr_0⟩]) 400 a81 [PV.list p0n p0c] (fun rv => decR (RSh.one (CK.int IntKind.i64)) rv.pv) = tglidepathref01_PolynomialErr F L0 p0n p0c := by kernel_rfl
noncomputable abbrev Fglidepathref01_PolynomialErr (args : List PV) := Fn env 81 (RSh.one (CK.int IntKind.i64)) args
theorem Fglidepathref01_PolynomialErr_of  (p0n : Nat) (p0c : List PV) {res : (Int)} (h : tglidepathref01_PolynomialErr (Fn env) Lglidepathref01_PolynomialErr_0 p0n p0c = some res) : Fglidepathref01_PolynomialErr [PV.list p0n p0c] = some res :=
  fn_of Eglidepathref01_PolynomialErr_ok rfl rfl (lo_cons (lpO_ok Uglidepathref01_PolynomialErr) lo_nil) ((tglidepathref01_PolynomialErr_eq _ _ _ _).trans h)

/-! ### glidepathbase_Lists -/

def Eglidepathbase_Lists : List Entry := [.out 27 (RSh.one CK.bool)]
theorem Eglidepathbase_Lists_ok : ∀ e ∈ Eglidepathbase_Lists, EntOK env e := (ent_out ent_nil)
def Tglidepathbase_Lists_0a (n0 : Nat) (c1 : List PV) (n2 : Nat) (c3 : List PV) (i4 : Int) : Q := ⟨(tm 27 [(0,(AV.p (PV.list n0 c1))),(1,(AV.p (PV.list n2 c3))),(5,(AV.p (PV.int IntKind.i64 i4)))]),(mm 27 [])⟩
def Xglidepathbase_Lists_0a (y : Unit) : Ext × Q := (Ext.ret,⟨(tm 27 [(4,(AV.p (PV.bool false)))]),(mm 27 [])⟩)
def Iglidepathbase_Lists_0a (q : Ext × S) : Unit := ()
def Xglidepathbase_Lists_0b (y : Unit) : Ext × Q := (Ext.normal,⟨(tm 27 []),(mm 27 [])⟩)
def Iglidepathbase_Lists_0b (q : Ext × S) : Unit := ()
abbrev Yglidepathbase_Lists_0 : Type := (Unit) ⊕ ((Unit))
def XLglidepathbase_Lists_0 : XL Yglidepathbase_Lists_0 := .more Xglidepathbase_Lists_0a (.one Xglidepathbase_Lists_0b)
def Iglidepathbase_Lists_0 (q : Ext × S) : Yglidepathbase_Lists_0 := bif (cE q.1 == 2) then (Sum.inl (Iglidepathbase_Lists_0a q)) else (Sum.inr (Iglidepathbase_Lists_0b q))
theorem XIglidepathbase_Lists_0a (y : Unit) : Iglidepathbase_Lists_0 (xe (Xglidepathbase_Lists_0a y)) = (Sum.inl y) := rfl
theorem XIglidepathbase_Lists_0b (y : Unit) : Iglidepathbase_Lists_0 (xe (Xglidepathbase_Lists_0b y)) = (Sum.inr y) := rfl
theorem XIglidepathbase_Lists_0 (y : Yglidepathbase_Lists_0) : Iglidepathbase_Lists_0 (xe (XLglidepathbase_Lists_0.fn y)) = y := (match y with | .inl y => XIglidepathbase_Lists_0a y | .inr y => XIglidepathbase_Lists_0b y)
noncomputable abbrev Lglidepathbase_Lists_0 : Q → Option Yglidepathbase_Lists_0 := lpO env a82.body 0 XLglidepathbase_Lists_0
noncomputable abbrev Rglidepathbase_Lists_0 : Q → Option (Ext × S) := lpR env a82.body 0
theorem Lglidepathbase_Lists_0a_of {s : Q} {y : Unit} (h : Rglidepathbase_Lists_0 s = exO (Xglidepathbase_Lists_0a y)) : Lglidepathbase_Lists_0 s = some (Sum.inl y) := lpO_of Iglidepathbase_Lists_0 XIglidepathbase_Lists_0 (y := (Sum.inl y)) h
theorem Lglidepathbase_Lists_0b_of {s : Q} {y : Unit} (h : Rglidepathbase_Lists_0 s = exO (Xglidepathbase_Lists_0b y)) : Lglidepathbase_Lists_0 s = some (Sum.inr y) := lpO_of Iglidepathbase_Lists_0 XIglidepathbase_Lists_0 (y := (Sum.inr y)) h
theorem Uglidepathbase_Lists : uniq ((blocksOf a82.body).map (·.1)) = true := by kernel_rfl
def Bglidepathbase_Lists_0a (F : FnT) (N : Q → Option (Ext × S)) (E : Ext × Q → Option (Ext × S)) (L0 : Q → Option Yglidepathbase_Lists_0) (n0 : Nat) (c1 : List PV) (n2 : Nat) (c3 : List PV) (i4 : Int) : Option (Ext × S) :=
  bif (decide (i4 < (n0 : Int))) then
    bif (decide (((0 : Int) ≤ i4) ∧ (i4 < (n0 : Int)))) then
      bindO (listC (c1[((Int.toNat i4) * 1)]?)) fun x0 =>
      bif (decide (((0 : Int) ≤ i4) ∧ (i4 < (n2 : Int)))) then
        bindO (listC (c3[((Int.toNat i4) * 1)]?)) fun x1 =>
        bindO (F 27 (RSh.one CK.bool) [(PV.list x0.1 x0.2), (PV.list x1.1 x1.2)]) fun (y2 : (Bool)) =>
        bif y2 then
          N (Tglidepathbase_Lists_0a n0 c1 n2 c3 (w64 (i4 + (1 : Int))))
        else E (Xglidepathbase_Lists_0a ())
      else none
    else none
  else E (Xglidepathbase_Lists_0b ())
theorem Bglidepathbase_Lists_0a_eq (F : FnT) (N : Q → Option (Ext × S)) (E : Ext × Q → Option (Ext × S)) (L0 : Q → Option Yglidepathbase_Lists_0) (n0 : Nat) (c1 : List PV) (n2 : Nat) (c3 : List PV) (i4 : Int) : semB (callP F Eglidepathbase_Lists 20) s82 (loopT [⟨0, Yglidepathbase_Lists_0, L0, XLglidepathbase_Lists_0⟩]) 400 (blkIn a82.body 0) N E (Tglidepathbase_Lists_0a n0 c1 n2 c3 i4) = Bglidepathbase_Lists_0a F N E L0 n0 c1 n2 c3 i4 := by kernel_rfl
theorem Rglidepathbase_Lists_0a_of  (n0 : Nat) (c1 : List PV) (n2 : Nat) (c3 : List PV) (i4 : Int) {r : Ext × S} (h : Bglidepathbase_Lists_0a (Fn env) Rglidepathbase_Lists_0 exO Lglidepathbase_Lists_0 n0 c1 n2 c3 i4 = some r) : Rglidepathbase_Lists_0 (Tglidepathbase_Lists_0a n0 c1 n2 c3 i4) = some r :=
  lp_of Eglidepathbase_Lists_ok (by kernel_rfl) (lo_cons (lpO_ok Uglidepathbase_Lists) lo_nil) (by kernel_rfl) ((Bglidepathbase_Lists_0a_eq _ _ _ _ _ _ _ _ _).trans h)
def tglidepathbase_Lists (F : FnT) (L0 : Q → Option Yglidepathbase_Lists_0) (p0n : Nat) (p0c : List PV) (p1n : Nat) (p1c : List PV) : Option (Bool) :=
  bif ((p0n : Int) != (p1n : Int)) then
    some false
  else bindO (L0 (Tglidepathbase_Lists_0a p0n p0c p1n p1c (0 : Int))) fun z =>
  Sum.elim (fun y0 =>
    some false) (fun y1 =>
    some true) z
theorem tglidepathbase_Lists_eq (F : FnT) (L0 : Q → Option Yglidepathbase_Lists_0) (p0n : Nat) (p0c : List PV) (p1n : Nat) (p1c : List PV) : semF (callP F Eglidepathbase_Lists 20) s82 (loopT [⟨0, Yglidepathbase_Lists_0, L0, XLglidepathbase_Lists_0⟩]) 400 a82 [PV.list p0n p0c, PV.list p1n p1c] (fun rv => decR (RSh.one CK.bool) rv.pv) = tglidepathbase_Lists F L0 p0n p0c p1n p1c := by kernel_rfl
noncomputable abbrev Fglidepathbase_Lists (args : List PV) := Fn env 82 (RSh.one CK.bool) args
theorem Fglidepathbase_Lists_of  (p0n : Nat) (p0c : List PV) (p1n : Nat) (p1c : List PV) {res : (Bool)} (h : tglidepathbase_Lists (Fn env) Lglidepathbase_Lists_0 p0n p0c p1n p1c = some res) : Fglidepathbase_Lists [PV.list p0n p0c, PV.list p1n p1c] = some res :=
  fn_of Eglidepathbase_Lists_ok rfl rfl (lo_cons (lpO_ok Uglidepathbase_Lists) lo_nil) ((tglidepathbase_Lists_eq _ _ _ _ _ _).trans h)

/-! ### glidepathref01_Rows -/

def Eglidepathref01_Rows : List Entry := [.out 78 (RSh.one CK.list), .out 76 (RSh.one (CK.int IntKind.i64))]
theorem Eglidepathref01_Rows_ok : ∀ e ∈ Eglidepathref01_Rows, EntOK env e := (ent_out (ent_out ent_nil))
def Tglidepathref01_Rows_0a (n0 : Nat) (c1 : List PV) : Q := ⟨(tm 69 [(3,(AV.lit 1 1 [(PV.list n0 c1)]))]),(mm 69 [])⟩
def Tglidepathref01_Rows_0b (n0 : Nat) (c1 : List PV) (n2 : Nat) : Q := ⟨(tm 69 [(3,(AV.app 68 n0 1 c1))]),(mm 69 [(68,(Bk.buf n2))])⟩
def Xglidepathref01_Rows_0a (y : Nat × List PV) : Ext × Q := (Ext.ret,⟨(tm 69 [(2,(AV.lit 1 1 [(PV.list y.1 y.2)]))]),(mm 69 [])⟩)
def Iglidepathref01_Rows_0a (q : Ext × S) : Nat × List PV := ((pP_list0 (hdP (pA_lit2 (avT q.2 2)))), (pP_list1 (hdP (pA_lit2 (avT q.2 2)))))
def Xglidepathref01_Rows_0b (y : Nat × List PV × Nat) : Ext × Q := (Ext.ret,⟨(tm 69 [(2,(AV.app 68 y.1 1 y.2.1))]),(mm 69 [(68,(Bk.buf y.2.2))])⟩)
def Iglidepathref01_Rows_0b (q : Ext × S) : Nat × List PV × Nat := ((pA_app1 (avT q.2 2)), (pA_app3 (avT q.2 2)), (pB_buf0 (avM q.2 68)))
abbrev Yglidepathref01_Rows_0 : Type := (Nat × List PV) ⊕ ((Nat × List PV × Nat))
def XLglidepathref01_Rows_0 : XL Yglidepathref01_Rows_0 := .more Xglidepathref01_Rows_0a (.one Xglidepathref01_Rows_0b)
def Iglidepathref01_Rows_0 (q : Ext × S) : Yglidepathref01_Rows_0 := bif (cA (avT q.2 2) == 4) then (Sum.inl (Iglidepathref01_Rows_0a q)) else (Sum.inr (Iglidepathref01_Rows_0b q))
theorem XIglidepathref01_Rows_0a (y : Nat × List PV) : Iglidepathref01_Rows_0 (xe (Xglidepathref01_Rows_0a y)) = (Sum.inl y) := rfl
theorem XIglidepathref01_Rows_0b (y : Nat × List PV × Nat) : Iglidepathref01_Rows_0 (xe (Xglidepathref01_Rows_0b y)) = (Sum.inr y) := rfl
theorem XIglidepathref01_Rows_0 (y : Yglidepathref01_Rows_0) : Iglidepathref01_Rows_0 (xe (XLglidepathref01_Rows_0.fn y)) = y := (match y with | .inl y => XIglidepathref01_Rows_0a y | .inr y => XIglidepathref01_Rows_0b y)
noncomputable abbrev Lglidepathref01_Rows_0 : Q → Option Yglidepathref01_Rows_0 := lpO env a83.body 0 XLglidepathref01_Rows_0
noncomputable abbrev Rglidepathref01_Rows_0 : Q → Option (Ext × S) := lpR env a83.body 0
theorem Lglidepathref01_Rows_0a_of {s : Q} {y : Nat × List PV} (h : Rglidepathref01_Rows_0 s = exO (Xglidepathref01_Rows_0a y)) : Lglidepathref01_Rows_0 s = some (Sum.inl y) := lpO_of Iglidepathref01_Rows_0 XIglidepathref01_Rows_0 (y := (Sum.inl y)) h
theorem Lglidepathref01_Rows_0b_of {s : Q} {y : Nat × List PV × Nat} (h : Rglidepathref01_Rows_0 s = exO (Xglidepathref01_Rows_0b y)) : Lglidepathref01_Rows_0 s = some (Sum.inr y) := lpO_of Iglidepathref01_Rows_0 XIglidepathref01_Rows_0 (y := (Sum.inr y)) h
def Tglidepathref01_Rows_2a (n0 : Nat) (c1 : List PV) (n2 : Nat) (c3 : List PV) (i4 : Int) : Q := ⟨(tm 69 [(3,(AV.lit 1 1 [(PV.list n0 c1)])),(4,(AV.p (PV.list n2 c3))),(5,(AV.p (PV.int IntKind.i64 i4))),(6,AV.nilS),(7,(AV.p (PV.int IntKind.i64 (0 : Int))))]),(mm 69 [])⟩
def Tglidepathref01_Rows_2b (n0 : Nat) (c1 : List PV) (n2 : Nat) (c3 : List PV) (i4 : Int) (n5 : Nat) (c6 : List PV) (i7 : Int) (n8 : Nat) : Q := ⟨(tm 69 [(3,(AV.lit 1 1 [(PV.list n0 c1)])),(4,(AV.p (PV.list n2 c3))),(5,(AV.p (PV.int IntKind.i64 i4))),(6,(AV.app 64 n5 1 c6)),(7,(AV.p (PV.int IntKind.i64 i7)))]),(mm 69 [(64,(Bk.buf n8))])⟩
def Tglidepathref01_Rows_2c (n0 : Nat) (c1 : List PV) (n2 : Nat) (c3 : List PV) (i4 : Int) (n5 : Nat) : Q := ⟨(tm 69 [(3,(AV.app 68 n0 1 c1)),(4,(AV.p (PV.list n2 c3))),(5,(AV.p (PV.int IntKind.i64 i4))),(6,AV.nilS),(7,(AV.p (PV.int IntKind.i64 (0 : Int))))]),(mm 69 [(68,(Bk.buf n5))])⟩
def Tglidepathref01_Rows_2d (n0 : Nat) (c1 : List PV) (n2 : Nat) (c3 : List PV) (i4 : Int) (n5 : Nat) (c6 : List PV) (i7 : Int) (n8 : Nat) (n9 : Nat) : Q := ⟨(tm 69 [(3,(AV.app 68 n0 1 c1)),(4,(AV.p (PV.list n2 c3))),(5,(AV.p (PV.int IntKind.i64 i4))),(6,(AV.app 64 n5 1 c6)),(7,(AV.p (PV.int IntKind.i64 i7)))]),(mm 69 [(64,(Bk.buf n8)),(68,(Bk.buf n9))])⟩
def Xglidepathref01_Rows_2a (y : Nat × List PV) : Ext × Q := (Ext.normal,⟨(tm 69 [(3,(AV.lit 1 1 [(PV.list y.1 y.2)])),(6,AV.nilS)]),(mm 69 [])⟩)
def Iglidepathref01_Rows_2a (q : Ext × S) : Nat × List PV := ((pP_list0 (hdP (pA_lit2 (avT q.2 3)))), (pP_list1 (hdP (pA_lit2 (avT q.2 3)))))
def Xglidepathref01_Rows_2b (y : Nat × List PV × Nat × List PV × Nat) : Ext × Q := (Ext.normal,⟨(tm 69 [(3,(AV.lit 1 1 [(PV.list y.1 y.2.1)])),(6,(AV.app 64 y.2.2.1 1 y.2.2.2.1))]),(mm 69 [(64,(Bk.buf y.2.2.2.2))])⟩)
def Iglidepathref01_Rows_2b (q : Ext × S) : Nat × List PV × Nat × List PV × Nat := ((pP_list0 (hdP (pA_lit2 (avT q.2 3)))), (pP_list1 (hdP (pA_lit2 (avT q.2 3)))), (pA_app1 (avT q.2 6)), (pA_app3 (avT q.2 6)), (pB_buf0 (avM q.2 64)))
def Xglidepathref01_Rows_2c (y : Nat × List PV × Nat) : Ext × Q := (Ext.normal,⟨(tm 69 [(3,(AV.app 68 y.1 1 y.2.1)),(6,AV.nilS)]),(mm 69 [(68,(Bk.buf y.2.2))])⟩)
def Iglidepathref01_Rows_2c (q : Ext × S) : Nat × List PV × Nat := ((pA_app1 (avT q.2 3)), (pA_app3 (avT q.2 3)), (pB_buf0 (avM q.2 68)))
def Xglidepathref01_Rows_2d (y : Nat × List PV × Nat × List PV × Nat × Nat) : Ext × Q := (Ext.normal,⟨(tm 69 [(3,(AV.app 68 y.1 1 y.2.1)),(6,(AV.app 64 y.2.2.1 1 y.2.2.2.1))]),(mm 69 [(64,(Bk.buf y.2.2.2.2.1)),(68,(Bk.buf y.2.2.2.2.2))])⟩)
def Iglidepathref01_Rows_2d (q : Ext × S) : Nat × List PV × Nat × List PV × Nat × Nat := ((pA_app1 (avT q.2 3)), (pA_app3 (avT q.2 3)), (pA_app1 (avT q.2 6)), (pA_app3 (avT q.2 6)), (pB_buf0 (avM q.2 64)), (pB_buf0 (avM q.2 68)))
abbrev Yglidepathref01_Rows_2 : Type := (Nat × List PV) ⊕ ((Nat × List PV × Nat × List PV × Nat) ⊕ ((Nat × List PV × Nat) ⊕ ((Nat × List PV × Nat × List PV × Nat × Nat))))
def XLglidepathref01_Rows_2 : XL Yglidepathref01_Rows_2 := .more Xglidepathref01_Rows_2a (.more Xglidepathref01_Rows_2b (.more Xglidepathref01_Rows_2c (.one Xglidepathref01_Rows_2d)))
def Iglidepathref01_Rows_2 (q : Ext × S) : Yglidepathref01_Rows_2 := bif (cA (avT q.2 6) == 1) && (cA (avT q.2 3) == 4) then (Sum.inl (Iglidepathref01_Rows_2a q)) else bif (cA (avT q.2 3) == 4) then (Sum.inr (Sum.inl (Iglidepathref01_Rows_2b q))) else bif (cA (avT q.2 6) == 1) then (Sum.inr (Sum.inr (Sum.inl (Iglidepathref01_Rows_2c q)))) else (Sum.inr (Sum.inr (Sum.inr (Iglidepathref01_Rows_2d q))))
theorem XIglidepathref01_Rows_2a (y : Nat × List PV) : Iglidepathref01_Rows_2 (xe (Xglidepathref01_Rows_2a y)) = (Sum.inl y) := rfl
theorem XIglidepathref01_Rows_2b (y : Nat × List PV × Nat × List PV × Nat) : Iglidepathref01_Rows_2 (xe (Xglidepathref01_Rows_2b y)) = (Sum.inr (Sum.inl y)) := rfl
theorem XIglidepathref01_Rows_2c (y : Nat × List PV × Nat) : Iglidepathref01_Rows_2 (xe (Xglidepathref01_Rows_2c y)) = (Sum.inr (Sum.inr (Sum.inl y))) := rfl
theorem XIglidepathref01_Rows_2d (y : Nat × List PV × Nat × List PV × Nat × Nat) : Iglidepathref01_Rows_2 (xe (Xglidepathref01_Rows_2d y)) = (Sum.inr (Sum.inr (Sum.inr y))) := rfl
theorem XIglidepathref01_Rows_2 (y : Yglidepathref01_Rows_2) : Iglidepathref01_Rows_2 (xe (XLglidepathref01_Rows_2.fn y)) = y := (match y with | .inl y => XIglidepathref01_Rows_2a y | .inr y => (match y with | .inl y => XIglidepathref01_Rows_2b y | .inr y => (match y with | .inl y => XIglidepathref01_Rows_2c y | .inr y => XIglidepathref01_Rows_2d y)))
noncomputable abbrev Lglidepathref01_Rows_2 : Q → Option Yglidepathref01_Rows_2 := lpO env a83.body 2 XLglidepathref01_Rows_2
noncomputable abbrev Rglidepathref01_Rows_2 : Q → Option (Ext × S) := lpR env a83.body 2
theorem Lglidepathref01_Rows_2a_of {s : Q} {y : Nat × List PV} (h : Rglidepathref01_Rows_2 s = exO (Xglidepathref01_Rows_2a y)) : Lglidepathref01_Rows_2 s = some (Sum.inl y) := lpO_of Iglidepathref01_Rows_2 XIglidepathref01_Rows_2 (y := (Sum.inl y)) h
theorem Lglidepathref01_Rows_2b_of {s : Q} {y : Nat × List PV × Nat × List PV × Nat} (h : Rglidepathref01_Rows_2 s = exO (Xglidepathref01_Rows_2b y)) : Lglidepathref01_Rows_2 s = some (Sum.inr (Sum.inl y)) := lpO_of Iglidepathref01_Rows_2 XIglidepathref01_Rows_2 (y := (Sum.inr (Sum.inl y))) h
theorem Lglidepathref01_Rows_2c_of {s : Q} {y : Nat × List PV × Nat} (h : Rglidepathref01_Rows_2 s = exO (Xglidepathref01_Rows_2c y)) : Lglidepathref01_Rows_2 s = some (Sum.inr (Sum.inr (Sum.inl y))) := lpO_of Iglidepathref01_Rows_2 XIglidepathref01_Rows_2 (y := (Sum.inr (Sum.inr (Sum.inl y)))) h
theorem Lglidepathref01_Rows_2d_of {s : Q} {y : Nat × List PV × Nat × List PV × Nat × Nat} (h : Rglidepathref01_Rows_2 s = exO (Xglidepathref01_Rows_2d y)) : Lglidepathref01_Rows_2 s = some (Sum.inr (Sum.inr (Sum.inr y))) := lpO_of Iglidepathref01_Rows_2 XIglidepathref01_Rows_2 (y := (Sum.inr (Sum.inr (Sum.inr y)))) h
theorem Uglidepathref01_Rows : uniq ((blocksOf a83.body).map (·.1)) = true := by kernel_rfl
def Bglidepathref01_Rows_0a (F : FnT) (N : Q → Option (Ext × S)) (E : Ext × Q → Option (Ext × S)) (L0 : Q → Option Yglidepathref01_Rows_0) (L2 : Q → Option Yglidepathref01_Rows_2) (n0 : Nat) (c1 : List PV) : Option (Ext × S) :=
  bif ((w64 (((Prod.mk n0 c1).1 : Int) - (1 : Int))) == (0 : Int)) then
    E (Xglidepathref01_Rows_0a (n0, c1))
  else bif (decide (((0 : Int) ≤ (w64 (((Prod.mk n0 c1).1 : Int) - (1 : Int)))) ∧ ((w64 (((Prod.mk n0 c1).1 : Int) - (1 : Int))) < ((Prod.mk n0 c1).1 : Int)))) then
    bindO (intC IntKind.i64 ((Prod.mk n0 c1).2[((Int.toNat (w64 (((Prod.mk n0 c1).1 : Int) - (1 : Int)))) * 1)]?)) fun x0 =>
    bindO (F 76 (RSh.one (CK.int IntKind.i64)) [(PV.int IntKind.i64 x0)]) fun (y1 : (Int)) =>
    bif (decide (((0 : Int) ≤ (0 : Int)) ∧ ((0 : Int) < ((Prod.mk n0 c1).1 : Int)))) then
      bindO (intC IntKind.i64 ((Prod.mk n0 c1).2[0]?)) fun x2 =>
      bindO (F 76 (RSh.one (CK.int IntKind.i64)) [(PV.int IntKind.i64 x2)]) fun (y3 : (Int)) =>
      bif (decide (y1 ≤ y3)) then
        E (Xglidepathref01_Rows_0a (n0, c1))
      else bindO (L2 (Tglidepathref01_Rows_2a n0 c1 (Prod.mk n0 c1).1 (Prod.mk n0 c1).2 (w64 (((Prod.mk n0 c1).1 : Int) - (1 : Int))))) fun z =>
      Sum.elim (fun y4 =>
        N (Tglidepathref01_Rows_0b 2 [(PV.list y4.1 y4.2), (PV.list 0 [])] 2)) (fun z0 => Sum.elim (fun y5 =>
        N (Tglidepathref01_Rows_0b 2 [(PV.list y5.1 y5.2.1), (PV.list y5.2.2.1 y5.2.2.2.1)] 2)) (fun z1 => Sum.elim (fun y6 =>
        bif (decide ((y6.2.2 = y6.1) ∧ ((y6.1 + 1) ≤ big))) then
          N (Tglidepathref01_Rows_0b (y6.1 + 1) (y6.2.1 ++ [(PV.list 0 [])]) (y6.1 + 1))
        else none) (fun y7 =>
        bif (decide ((y7.2.2.2.2.2 = y7.1) ∧ ((y7.1 + 1) ≤ big))) then
          N (Tglidepathref01_Rows_0b (y7.1 + 1) (y7.2.1 ++ [(PV.list y7.2.2.1 y7.2.2.2.1)]) (y7.1 + 1))
        else none) z1) z0) z
    else none
  else none
theorem Bglidepathref01_Rows_0a_eq (F : FnT) (N : Q → Option (Ext × S)) (E : Ext × Q → Option (Ext × S)) (L0 : Q → Option Yglidepathref01_Rows_0) (L2 : Q → Option Yglidepathref01_Rows_2) (n0 : Nat) (c1 : List PV) : semB (callP F Eglidepathref01_Rows 20) s83 (loopT [⟨0, Yglidepathref01_Rows_0, L0, XLglidepathref01_Rows_0⟩, ⟨2, Yglidepathref01_Rows_2, L2, XLglidepathref01_Rows_2⟩]) 400 (blkIn a83.body 0) N E (Tglidepathref01_Rows_0a n0 c1) = Bglidepathref01_Rows_0a F N E L0 L2 n0 c1 := by kernel_rfl
theorem Rglidepathref01_Rows_0a_of  (n0 : Nat) (c1 : List PV) {r : Ext × S} (h : Bglidepathref01_Rows_0a (Fn env) Rglidepathref01_Rows_0 exO Lglidepathref01_Rows_0 Lglidepathref01_Rows_2 n0 c1 = some r) : Rglidepathref01_Rows_0 (Tglidepathref01_Rows_0a n0 c1) = some r :=
  lp_of Eglidepathref01_Rows_ok (by kernel_rfl) (lo_cons (lpO_ok Uglidepathref01_Rows) (lo_cons (lpO_ok Uglidepathref01_Rows) lo_nil)) (by kernel_rfl) ((Bglidepathref01_Rows_0a_eq _ _ _ _ _ _ _).trans h)
def Bglidepathref01_Rows_0b (F : FnT) (N : Q → Option (Ext × S)) (E : Ext × Q → Option (Ext × S)) (L0 : Q → Option Yglidepathref01_Rows_0) (L2 : Q → Option Yglidepathref01_Rows_2) (n0 : Nat) (c1 : List PV) (n2 : Nat) : Option (Ext × S) :=
  bif (decide (((0 : Int) ≤ (w64 ((n0 : Int) - (1 : Int)))) ∧ ((w64 ((n0 : Int) - (1 : Int))) < (n0 : Int)))) then
    bindO (listC (c1[((Int.toNat (w64 ((n0 : Int) - (1 : Int)))) * 1)]?)) fun x0 =>
    bif ((w64 ((x0.1 : Int) - (1 : Int))) == (0 : Int)) then
      E (Xglidepathref01_Rows_0b (n0, c1, n2))
    else bif (decide (((0 : Int) ≤ (w64 ((x0.1 : Int) - (1 : Int)))) ∧ ((w64 ((x0.1 : Int) - (1 : Int))) < (x0.1 : Int)))) then
      bindO (intC IntKind.i64 (x0.2[((Int.toNat (w64 ((x0.1 : Int) - (1 : Int)))) * 1)]?)) fun x1 =>
      bindO (F 76 (RSh.one (CK.int IntKind.i64)) [(PV.int IntKind.i64 x1)]) fun (y2 : (Int)) =>
      bif (decide (((0 : Int) ≤ (0 : Int)) ∧ ((0 : Int) < (x0.1 : Int)))) then
        bindO (intC IntKind.i64 (x0.2[0]?)) fun x3 =>
        bindO (F 76 (RSh.one (CK.int IntKind.i64)) [(PV.int IntKind.i64 x3)]) fun (y4 : (Int)) =>
        bif (decide (y2 ≤ y4)) then
          E (Xglidepathref01_Rows_0b (n0, c1, n2))
        else bindO (L2 (Tglidepathref01_Rows_2c n0 c1 x0.1 x0.2 (w64 ((x0.1 : Int) - (1 : Int))) n2)) fun z =>
        Sum.elim (fun y5 =>
          N (Tglidepathref01_Rows_0b 2 [(PV.list y5.1 y5.2), (PV.list 0 [])] 2)) (fun z0 => Sum.elim (fun y6 =>
          N (Tglidepathref01_Rows_0b 2 [(PV.list y6.1 y6.2.1), (PV.list y6.2.2.1 y6.2.2.2.1)] 2)) (fun z1 => Sum.elim (fun y7 =>
          bif (decide ((y7.2.2 = y7.1) ∧ ((y7.1 + 1) ≤ big))) then
            N (Tglidepathref01_Rows_0b (y7.1 + 1) (y7.2.1 ++ [(PV.list 0 [])]) (y7.1 + 1))
          else none) (fun y8 =>
          bif (decide ((y8.2.2.2.2.2 = y8.1) ∧ ((y8.1 + 1) ≤ big))) then
            N (Tglidepathref01_Rows_0b (y8.1 + 1) (y8.2.1 ++ [(PV.list y8.2.2.1 y8.2.2.2.1)]) (y8.1 + 1))
          else none) z1) z0) z
      else none
    else none
  else none
theorem Bglidepathref01_Rows_0b_eq (F : FnT) (N : Q → Option (Ext × S)) (E : Ext × Q → Option (Ext × S)) (L0 : Q → Option Yglidepathref01_Rows_0) (L2 : Q → Option Yglidepathref01_Rows_2) (n0 : Nat) (c1 : List PV) (n2 : Nat) : semB (callP F Eglidepathref01_Rows 20) s83 (loopT [⟨0, Yglidepathref01_Rows_0, L0, XLglidepathref01_Rows_0⟩, ⟨2, Yglidepathref01_Rows_2, L2, XLglidepathref01_Rows_2⟩]) 400 (blkIn a83.body 0) N E (Tglidepathref01_Rows_0b n0 c1 n2) = Bglidepathref01_Rows_0b F N E L0 L2 n0 c1 n2 := by kernel_rfl
theorem Rglidepathref01_Rows_0b_of  (n0 : Nat) (c1 : List PV) (n2 : Nat) {r : Ext × S} (h : Bglidepathref01_Rows_0b (Fn env) Rglidepathref01_Rows_0 exO Lglidepathref01_Rows_0 Lglidepathref01_Rows_2 n0 c1 n2 = some r) : Rglidepathref01_Rows_0 (Tglidepathref01_Rows_0b n0 c1 n2) = some r :=
  lp_of Eglidepathref01_Rows_ok (by kernel_rfl) (lo_cons (lpO_ok Uglidepathref01_Rows) (lo_cons (lpO_ok Uglidepathref01_Rows) lo_nil)) (by kernel_rfl) ((Bglidepathref01_Rows_0b_eq _ _ _ _ _ _ _ _).trans h)
def Bglidepathref01_Rows_2a (F : FnT) (N : Q → Option (Ext × S)) (E : Ext × Q → Option (Ext × S)) (L0 : Q → Option Yglidepathref01_Rows_0) (L2 : Q → Option Yglidepathref01_Rows_2) (n0 : Nat) (c1 : List PV) (n2 : Nat) (c3 : List PV) (i4 : Int) : Option (Ext × S) :=
  bif (decide ((0 : Int) < i4)) then
    bif (decide (((0 : Int) ≤ i4) ∧ (i4 < (n2 : Int)))) then
      bindO (intC IntKind.i64 (c3[((Int.toNat i4) * 1)]?)) fun x0 =>
      bif (decide (((0 : Int) ≤ (w64 ((0 : Int) + (1 : Int)))) ∧ ((w64 ((0 : Int) + (1 : Int))) < (n2 : Int)))) then
        bindO (intC IntKind.i64 (c3[1]?)) fun x1 =>
        bif (decide (((0 : Int) ≤ (0 : Int)) ∧ ((0 : Int) < (n2 : Int)))) then
          bindO (intC IntKind.i64 (c3[0]?)) fun x2 =>
          bif (decide (((0 : Int) ≤ (w64 ((w64 (i4 - (1 : Int))) - (0 : Int)))) ∧ ((w64 ((w64 (i4 - (1 : Int))) - (0 : Int))) < (n2 : Int)))) then
            bindO (intC IntKind.i64 (c3[((Int.toNat (w64 ((w64 (i4 - (1 : Int))) - (0 : Int)))) * 1)]?)) fun x3 =>
            N (Tglidepathref01_Rows_2b n0 c1 n2 c3 i4 1 [(PV.int IntKind.i64 (w64 ((w64 (x0 * x1)) - (w64 (x2 * x3)))))] (1 : Int) 1)
          else none
        else none
      else none
    else none
  else E (Xglidepathref01_Rows_2a (n0, c1))
theorem Bglidepathref01_Rows_2a_eq (F : FnT) (N : Q → Option (Ext × S)) (E : Ext × Q → Option (Ext × S)) (L0 : Q → Option Yglidepathref01_Rows_0) (L2 : Q → Option Yglidepathref01_Rows_2) (n0 : Nat) (c1 : List PV) (n2 : Nat) (c3 : List PV) (i4 : Int) : semB (callP F Eglidepathref01_Rows 20) s83 (loopT [⟨0, Yglidepathref01_Rows_0, L0, XLglidepathref01_Rows_0⟩, ⟨2, Yglidepathref01_Rows_2, L2, XLglidepathref01_Rows_2⟩]) 400 (blkIn a83.body 2) N E (Tglidepathref01_Rows_2a n0 c1 n2 c3 i4) = Bglidepathref01_Rows_2a F N E L0 L2 n0 c1 n2 c3 i4 := by kernel_rfl
theorem Rglidepathref01_Rows_2a_of  (n0 : Nat) (c1 : List PV) (n2 : Nat) (c3 : List PV) (i4 : Int) {r : Ext × S} (h : Bglidepathref01_Rows_2a (Fn env) Rglidepathref01_Rows_2 exO Lglidepathref01_Rows_0 Lglidepathref01_Rows_2 n0 c1 n2 c3 i4 = some r) : Rglidepathref01_Rows_2 (Tglidepathref01_Rows_2a n0 c1 n2 c3 i4) = some r :=
  lp_of Eglidepathref01_Rows_ok (by kernel_rfl) (lo_cons (lpO_ok Uglidepathref01_Rows) (lo_cons (lpO_ok Uglidepathref01_Rows) lo_nil)) (by kernel_rfl) ((Bglidepathref01_Rows_2a_eq _ _ _ _ _ _ _ _ _ _).trans h)
def Bglidepathref01_Rows_2b (F : FnT) (N : Q → Option (Ext × S)) (E : Ext × Q → Option (Ext × S)) (L0 : Q → Option Yglidepathref01_Rows_0) (L2 : Q → Option Yglidepathref01_Rows_2) (n0 : Nat) (c1 : List PV) (n2 : Nat) (c3 : List PV) (i4 : Int) (n5 : Nat) (c6 : List PV) (i7 : Int) (n8 : Nat) : Option (Ext × S) :=
  bif (decide (i7 < i4)) then
    bif (decide (((0 : Int) ≤ i4) ∧ (i4 < (n2 : Int)))) then
      bindO (intC IntKind.i64 (c3[((Int.toNat i4) * 1)]?)) fun x0 =>
      bif (decide (((0 : Int) ≤ (w64 (i7 + (1 : Int)))) ∧ ((w64 (i7 + (1 : Int))) < (n2 : Int)))) then
        bindO (intC IntKind.i64 (c3[((Int.toNat (w64 (i7 + (1 : Int)))) * 1)]?)) fun x1 =>
        bif (decide (((0 : Int) ≤ (0 : Int)) ∧ ((0 : Int) < (n2 : Int)))) then
          bindO (intC IntKind.i64 (c3[0]?)) fun x2 =>
          bif (decide (((0 : Int) ≤ (w64 ((w64 (i4 - (1 : Int))) - i7))) ∧ ((w64 ((w64 (i4 - (1 : Int))) - i7)) < (n2 : Int)))) then
            bindO (intC IntKind.i64 (c3[((Int.toNat (w64 ((w64 (i4 - (1 : Int))) - i7))) * 1)]?)) fun x3 =>
            bif (decide ((n8 = n5) ∧ ((n5 + 1) ≤ big))) then
              N (Tglidepathref01_Rows_2b n0 c1 n2 c3 i4 (n5 + 1) (c6 ++ [(PV.int IntKind.i64 (w64 ((w64 (x0 * x1)) - (w64 (x2 * x3)))))]) (w64 (i7 + (1 : Int))) (n5 + 1))
            else none
          else none
        else none
      else none
    else none
  else E (Xglidepathref01_Rows_2b (n0, c1, n5, c6, n8))
theorem Bglidepathref01_Rows_2b_eq (F : FnT) (N : Q → Option (Ext × S)) (E : Ext × Q → Option (Ext × S)) (L0 : Q → Option Yglidepathref01_Rows_0) (L2 : Q → Option Yglidepathref01_Rows_2) (n0 : Nat) (c1 : List PV) (n2 : Nat) (c3 : List PV) (i4 : Int) (n5 : Nat) (c6 : List PV) (i7 : Int) (n8 : Nat) : semB (callP F Eglidepathref01_Rows 20) s83 (loopT [⟨0, Yglidepathref01_Rows_0, L0, XLglidepathref01_Rows_0⟩, ⟨2, Yglidepathref01_Rows_2, L2, XLglidepathref01_Rows_2⟩]) 400 (blkIn a83.body 2) N E (Tglidepathref01_Rows_2b n0 c1 n2 c3 i4 n5 c6 i7 n8) = Bglidepathref01_Rows_2b F N E L0 L2 n0 c1 n2 c3 i4 n5 c6 i7 n8 := by kernel_rfl
theorem Rglidepathref01_Rows_2b_of  (n0 : Nat) (c1 : List PV) (n2 : Nat) (c3 : List PV) (i4 : Int) (n5 : Nat) (c6 : List PV) (i7 : Int) (n8 : Nat) {r : Ext × S} (h : Bglidepathref01_Rows_2b (Fn env) Rglidepathref01_Rows_2 exO Lglidepathref01_Rows_0 Lglidepathref01_Rows_2 n0 c1 n2 c3 i4 n5 c6 i7 n8 = some r) : Rglidepathref01_Rows_2 (Tglidepathref01_Rows_2b n0 c1 n2 c3 i4 n5 c6 i7 n8) = some r :=
  lp_of Eglidepathref01_Rows_ok (by kernel_rfl) (lo_cons (lpO_ok Uglidepathref01_Rows) (lo_cons (lpO_ok Uglidepathref01_Rows) lo_nil)) (by kernel_rfl) ((Bglidepathref01_Rows_2b_eq _ _ _ _ _ _ _ _ _ _ _ _ _ _).trans h)
def Bglidepathref01_Rows_2c (F : FnT) (N : Q → Option (Ext × S)) (E : Ext × Q → Option (Ext × S)) (L0 : Q → Option Yglidepathref01_Rows_0) (L2 : Q → Option Yglidepathref01_Rows_2) (n0 : Nat) (c1 : List PV) (n2 : Nat) (c3 : List PV) (i4 : Int) (n5 : Nat) : Option (Ext × S) :=
  bif (decide ((0 : Int) < i4)) then
    bif (decide (((0 : Int) ≤ i4) ∧ (i4 < (n2 : Int)))) then
      bindO (intC IntKind.i64 (c3[((Int.toNat i4) * 1)]?)) fun x0 =>
      bif (decide (((0 : Int) ≤ (w64 ((0 : Int) + (1 : Int)))) ∧ ((w64 ((0 : Int) + (1 : Int))) < (n2 : Int)))) then
        bindO (intC IntKind.i64 (c3[1]?)) fun x1 =>
        bif (decide (((0 : Int) ≤ (0 : Int)) ∧ ((0 : Int) < (n2 : Int)))) then
          bindO (intC IntKind.i64 (c3[0]?)) fun x2 =>
          bif (decide (((0 : Int) ≤ (w64 ((w64 (i4 - (1 : Int))) - (0 : Int)))) ∧ ((w64 ((w64 (i4 - (1 : Int))) - (0 : Int))) < (n2 : Int)))) then
            bindO (intC IntKind.i64 (c3[((Int.toNat (w64 ((w64 (i4 - (1 : Int))) - (0 : Int)))) * 1)]?)) fun x3 =>
            N (Tglidepathref01_Rows_2d n0 c1 n2 c3 i4 1 [(PV.int IntKind.i64 (w64 ((w64 (x0 * x1)) - (w64 (x2 * x3)))))] (1 : Int) 1 n5)
          else none
        else none
      else none
    else none
  else E (Xglidepathref01_Rows_2c (n0, c1, n5))
theorem Bglidepathref01_Rows_2c_eq (F : FnT) (N : Q → Option (Ext × S)) (E : Ext × Q → Option (Ext × S)) (L0 : Q → Option Yglidepathref01_Rows_0) (L2 : Q → Option Yglidepathref01_Rows_2) (n0 : Nat) (c1 : List PV) (n2 : Nat) (c3 : List PV) (i4 : Int) (n5 : Nat) : semB (callP F Eglidepathref01_Rows 20) s83 (loopT [⟨0, Yglidepathref01_Rows_0, L0, XLglidepathref01_Rows_0⟩, ⟨2, Yglidepathref01_Rows_2, L2, XLglidepathref01_Rows_2⟩]) 400 (blkIn a83.body 2) N E (Tglidepathref01_Rows_2c n0 c1 n2 c3 i4 n5) = Bglidepathref01_Rows_2c F N E L0 L2 n0 c1 n2 c3 i4 n5 := by kernel_rfl
theorem Rglidepathref01_Rows_2c_of  (n0 : Nat) (c1 : List PV) (n2 : Nat) (c3 : List PV) (i4 : Int) (n5 : Nat) {r : Ext × S} (h : Bglidepathref01_Rows_2c (Fn env) Rglidepathref01_Rows_2 exO Lglidepathref01_Rows_0 Lglidepathref01_Rows_2 n0 c1 n2 c3 i4 n5 = some r) : Rglidepathref01_Rows_2 (Tglidepathref01_Rows_2c n0 c1 n2 c3 i4 n5) = some r :=
  lp_of Eglidepathref01_Rows_ok (by kernel_rfl) (lo_cons (lpO_ok Uglidepathref01_Rows) (lo_cons (lpO_ok Uglidepathref01_Rows) lo_nil)) (by kernel_rfl) ((Bglidepathref01_Rows_2c_eq _ _ _ _ _ _ _ _ _ _ _).trans h)
def Bglidepathref01_Rows_2d (F : FnT) (N : Q → Option (Ext × S)) (E : Ext × Q → Option (Ext × S)) (L0 : Q → Option Yglidepathref01_Rows_0) (L2 : Q → Option Yglidepathref01_Rows_2) (n0 : Nat) (c1 : List PV) (n2 : Nat) (c3 : List PV) (i4 : Int) (n5 : Nat) (c6 : List PV) (i7 : Int) (n8 : Nat) (n9 : Nat) : Option (Ext × S) :=
  bif (decide (i7 < i4)) then
    bif (decide (((0 : Int) ≤ i4) ∧ (i4 < (n2 : Int)))) then
      bindO (intC IntKind.i64 (c3[((Int.toNat i4) * 1)]?)) fun x0 =>
      bif (decide (((0 : Int) ≤ (w64 (i7 + (1 : Int)))) ∧ ((w64 (i7 + (1 : Int))) < (n2 : Int)))) then
        bindO (intC IntKind.i64 (c3[((Int.toNat (w64 (i7 + (1 : Int)))) * 1)]?)) fun x1 =>
        bif (decide (((0 : Int) ≤ (0 : Int)) ∧ ((0 : Int) < (n2 : Int)))) then
          bindO (intC IntKind.i64 (c3[0]?)) fun x2 =>
          bif (decide (((0 : Int) ≤ (w64 ((w64 (i4 - (1 : Int))) - i7))) ∧ ((w64 ((w64 (i4 - (1 : Int))) - i7)) < (n2 : Int)))) then
            bindO (intC IntKind.i64 (c3[((Int.toNat (w64 ((w64 (i4 - (1 : Int))) - i7))) * 1)]?)) fun x3 =>
            bif (decide ((n8 = n5) ∧ ((n5 + 1) ≤ big))) then
              N (Tglidepathref01_Rows_2d n0 c1 n2 c3 i4 (n5 + 1) (c6 ++ [(PV.int IntKind.i64 (w64 ((w64 (x0 * x1)) - (w64 (x2 * x3)))))]) (w64 (i7 + (1 : Int))) (n5 + 1) n9)
            else none
          else none
        else none
      else none
    else none
  else E (Xglidepathref01_Rows_2d (n0, c1, n5, c6, n8, n9))
theorem Bglidepathref01_Rows_2d_eq (F : FnT) (N : Q → Option (Ext × S)) (E : Ext × Q → Option (Ext × S)) (L0 : Q → Option Yglidepathref01_Rows_0) (L2 : Q → Option Yglidepathref01_Rows_2) (n0 : Nat) (c1 : List PV) (n2 : Nat) (c3 : List PV) (i4 : Int) (n5 : Nat) (c6 : List PV) (i7 : Int) (n8 : Nat) (n9 : Nat) : semB (callP F Eglidepathref01_Rows 20) s83 (loopT [⟨0, Yglidepathref01_Rows_0, L0, XLglidepathref01_Rows_0⟩, ⟨2, Yglidepathref01_Rows_2, L2, XLglidepathref01_Rows_2⟩]) 400 (blkIn a83.body 2) N E (Tglidepathref01_Rows_2d n0 c1 n2 c3 i4 n5 c6 i7 n8 n9) = Bglidepathref01_Rows_2d F N E L0 L2 n0 c1 n2 c3 i4 n5 c6 i7 n8 n9 := by kernel_rfl
theorem Rglidepathref01_Rows_2d_of  (n0 : Nat) (c1 : List PV) (n2 : Nat) (c3 : List PV) (i4 : Int) (n5 : Nat) (c6 : List PV) (i7 : Int) (n8 : Nat) (n9 : Nat) {r : Ext × S} (h : Bglidepathref01_Rows_2d (Fn env) Rglidepathref01_Rows_2 exO Lglidepathref01_Rows_0 Lglidepathref01_Rows_2 n0 c1 n2 c3 i4 n5 c6 i7 n8 n9 = some r) : Rglidepathref01_Rows_2 (Tglidepathref01_Rows_2d n0 c1 n2 c3 i4 n5 c6 i7 n8 n9) = some r :=
  lp_of Eglidepathref01_Rows_ok (by kernel_rfl) (lo_cons (lpO_ok Uglidepathref01_Rows) (lo_cons (lpO_ok Uglidepathref01_Rows) lo_nil)) (by kernel_rfl) ((Bglidepathref01_Rows_2d_eq _ _ _ _ _ _ _ _ _ _ _ _ _ _ _).trans h)
def tglidepathref01_Rows (F : FnT) (L0 : Q → Option Yglidepathref01_Rows_0) (L2 : Q → Option Yglidepathref01_Rows_2) (p0n : Nat) (p0c : List PV) : Option ((Nat) × (List PV)) :=
  bindO (F 78 (RSh.one CK.list) [(PV.list p0n p0c)]) fun (y0 : ((Nat) × (List PV))) =>
  bindO (L0 (Tglidepathref01_Rows_0a y0.1 y0.2)) fun z =>
  Sum.elim (fun y1 =>
    some (1, [(PV.list y1.1 y1.2)])) (fun y2 =>
    bif (decide (y2.2.2 = y2.1)) then
      some (y2.1, y2.2.1)
    else none) z
theorem tglidepathref01_Rows_eq (F : FnT) (L0 : Q → Option Yglidepathref01_Rows_0) (L2 : Q → Option Yglidepathref01_Rows_2) (p0n : Nat) (p0c : List PV) : semF (callP F Eglidepathref01_Rows 20) s83 (loopT [⟨0, Yglidepathref01_Rows_0, L0, XLglidepathref01_Rows_0⟩, ⟨2, Yglidepathref01_Rows_2, L2, XLglidepathref01_Rows_2⟩]) 400 a83 [PV.list p0n p0c] (fun rv => decR (RSh.one CK.list) rv.pv) = tglidepathref01_Rows F L0 L2 p0n p0c := by kernel_rfl
noncomputable abbrev Fglidepathref01_Rows (args : List PV) := Fn env 83 (RSh.one CK.list) args
theorem Fglidepathref01_Rows_of  (p0n : Nat) (p0c : List PV) {res : ((Nat) × (List PV))} (h : tglidepathref01_Rows (Fn env) Lglidepathref01_Rows_0 Lglidepathref01_Rows_2 p0n p0c = some res) : Fglidepathref01_Rows [PV.list p0n p0c] = some res :=
  fn_of Eglidepathref01_Rows_ok rfl rfl (lo_cons (lpO_ok Uglidepathref01_Rows) (lo_cons (lpO_ok Uglidepathref01_Rows) lo_nil)) ((tglidepathref01_Rows_eq _ _ _ _ _).trans h)

/-! ### glidepathref01_Locked -/

def Eglidepathref01_Locked : List Entry := [.out 83 (RSh.one CK.list)]
theorem Eglidepathref01_Locked_ok : ∀ e ∈ Eglidepathref01_Locked, EntOK env e := (ent_out ent_nil)
theorem Uglidepathref01_Locked : uniq ((blocksOf a84.body).map (·.1)) = true := by kernel_rfl
def tglidepathref01_Locked (F : FnT) (p0n : Nat) (p0c : List PV) : Option (Bool) :=
  bindO (F 83 (RSh.one CK.list) [(PV.list p0n p0c)]) fun (y0 : ((Nat) × (List PV))) =>
  bif (decide (((0 : Int) ≤ (w64 ((y0.1 : Int) - (1 : Int)))) ∧ ((w64 ((y0.1 : Int) - (1 : Int))) < (y0.1 : Int)))) then
    bindO (listC (y0.2[((Int.toNat (w64 ((y0.1 : Int) - (1 : Int)))) * 1)]?)) fun x1 =>
    bif ((x1.1 : Int) == (1 : Int)) then
      bif (decide (((0 : Int) ≤ (0 : Int)) ∧ ((0 : Int) < (x1.1 : Int)))) then
        bindO (intC IntKind.i64 (x1.2[0]?)) fun x2 =>
        bif (x2 != (0 : Int)) then
          some true
        else some false
      else none
    else some false
  else none
theorem tglidepathref01_Locked_eq (F : FnT) (p0n : Nat) (p0c : List PV) : semF (callP F Eglidepathref01_Locked 20) s84 (loopT []) 400 a84 [PV.list p0n p0c] (fun rv => decR (RSh.one CK.bool) rv.pv) = tglidepathref01_Locked F p0n p0c := by kernel_rfl
noncomputable abbrev Fglidepathref01_Locked (args : List PV) := Fn env 84 (RSh.one CK.bool) args
theorem Fglidepathref01_Locked_of  (p0n : Nat) (p0c : List PV) {res : (Bool)} (h : tglidepathref01_Locked (Fn env) p0n p0c = some res) : Fglidepathref01_Locked [PV.list p0n p0c] = some res :=
  fn_of Eglidepathref01_Locked_ok rfl rfl lo_nil ((tglidepathref01_Locked_eq _ _ _).trans h)

/-! ### glidepathref01_MarginErr -/

def Eglidepathref01_MarginErr : List Entry := [.out 81 (RSh.one (CK.int IntKind.i64)), .out 26 (RSh.one CK.bool), .out 84 (RSh.one CK.bool)]
theorem Eglidepathref01_MarginErr_ok : ∀ e ∈ Eglidepathref01_MarginErr, EntOK env e := (ent_out (ent_out (ent_out ent_nil)))
theorem Uglidepathref01_MarginErr : uniq ((blocksOf a85.body).map (·.1)) = true := by kernel_rfl
def tglidepathref01_MarginErr (F : FnT) (p0n : Nat) (p0c : List PV) (p1n : Nat) (p1c : List PV) (p2 : Int) : Option (Int) :=
  bindO (F 81 (RSh.one (CK.int IntKind.i64)) [(PV.list p0n p0c)]) fun (y0 : (Int)) =>
  bif (y0 != (0 : Int)) then
    some y0
  else bindO (F 81 (RSh.one (CK.int IntKind.i64)) [(PV.list p1n p1c)]) fun (y1 : (Int)) =>
  bif (y1 != (0 : Int)) then
    some y1
  else bif ((p0n : Int) != (p1n : Int)) then
    some (13 : Int)
  else bindO (F 26 (RSh.one CK.bool) [(PV.int IntKind.i64 p2), (PV.int IntKind.i64 (0 : Int)), (PV.int IntKind.i64 (60 : Int))]) fun (y2 : (Bool)) =>
  bif y2 then
    bindO (F 84 (RSh.one CK.bool) [(PV.list p0n p0c)]) fun (y3 : (Bool)) =>
    bif y3 then
      some (0 : Int)
    else some (18 : Int)
  else some (2 : Int)
theorem tglidepathref01_MarginErr_eq (F : FnT) (p0n : Nat) (p0c : List PV) (p1n : Nat) (p1c : List PV) (p2 : Int) : semF (callP F Eglidepathref01_MarginErr 20) s85 (loopT []) 400 a85 [PV.list p0n p0c, PV.list p1n p1c, PV.int IntKind.i64 p2] (fun rv => decR (RSh.one (CK.int IntKind.i64)) rv.pv) = tglidepathref01_MarginErr F p0n p0c p1n p1c p2 := by kernel_rfl
noncomputable abbrev Fglidepathref01_MarginErr (args : List PV) := Fn env 85 (RSh.one (CK.int IntKind.i64)) args
theorem Fglidepathref01_MarginErr_of  (p0n : Nat) (p0c : List PV) (p1n : Nat) (p1c : List PV) (p2 : Int) {res : (Int)} (h : tglidepathref01_MarginErr (Fn env) p0n p0c p1n p1c p2 = some res) : Fglidepathref01_MarginErr [PV.list p0n p0c, PV.list p1n p1c, PV.int IntKind.i64 p2] = some res :=
  fn_of Eglidepathref01_MarginErr_ok rfl rfl lo_nil ((tglidepathref01_MarginErr_eq _ _ _ _ _ _).trans h)

/-! ### glidepathref01_Margin -/

def Eglidepathref01_Margin : List Entry := [.out 137 (RSh.one CK.list), .out 81 (RSh.one (CK.int IntKind.i64)), .out 84 (RSh.one CK.bool)]
theorem Eglidepathref01_Margin_ok : ∀ e ∈ Eglidepathref01_Margin, EntOK env e := (ent_out (ent_out (ent_out ent_nil)))
def Tglidepathref01_Margin_0a (n0 : Nat) (c1 : List PV) (n2 : Nat) (c3 : List PV) (i4 : Int) (i5 : Int) : Q := ⟨(tm 29 [(0,(AV.p (PV.list n0 c1))),(1,(AV.p (PV.list n2 c3))),(2,(AV.p (PV.int IntKind.i64 i4))),(7,(AV.p (PV.int IntKind.i64 i5)))]),(mm 29 [])⟩
def Xglidepathref01_Margin_0a (y : Int) : Ext × Q := (Ext.ret,⟨(tm 29 [(6,(AV.p (PV.int IntKind.i64 y)))]),(mm 29 [])⟩)
def Iglidepathref01_Margin_0a (q : Ext × S) : Int := (pP_int1 (pA_p (avT q.2 6)))
def Xglidepathref01_Margin_0b (y : Int) : Ext × Q := (Ext.normal,⟨(tm 29 [(7,(AV.p (PV.int IntKind.i64 y)))]),(mm 29 [])⟩)
def Iglidepathref01_Margin_0b (q : Ext × S) : Int := (pP_int1 (pA_p (avT q.2 7)))
abbrev Yglidepathref01_Margin_0 : Type := (Int) ⊕ ((Int))
def XLglidepathref01_Margin_0 : XL Yglidepathref01_Margin_0 := .more Xglidepathref01_Margin_0a (.one Xglidepathref01_Margin_0b)
def Iglidepathref01_Margin_0 (q : Ext × S) : Yglidepathref01_Margin_0 := bif (cE q.1 == 2) then (Sum.inl (Iglidepathref01_Margin_0a q)) else (Sum.inr (Iglidepathref01_Margin_0b q))
theorem XIglidepathref01_Margin_0a (y : Int) : Iglidepathref01_Margin_0 (xe (Xglidepathref01_Margin_0a y)) = (Sum.inl y) := rfl
theorem XIglidepathref01_Margin_0b (y : Int) : Iglidepathref01_Margin_0 (xe (Xglidepathref01_Margin_0b y)) = (Sum.inr y) := rfl
theorem XIglidepathref01_Margin_0 (y : Yglidepathref01_Margin_0) : Iglidepathref01_Margin_0 (xe (XLglidepathref01_Margin_0.fn y)) = y := (match y with | .inl y => XIglidepathref01_Margin_0a y | .inr y => XIglidepathref01_Margin_0b y)
noncomputable abbrev Lglidepathref01_Margin_0 : Q → Option Yglidepathref01_Margin_0 := lpO env a86.body 0 XLglidepathref01_Margin_0
noncomputable abbrev Rglidepathref01_Margin_0 : Q → Option (Ext × S) := lpR env a86.body 0
theorem Lglidepathref01_Margin_0a_of {s : Q} {y : Int} (h : Rglidepathref01_Margin_0 s = exO (Xglidepathref01_Margin_0a y)) : Lglidepathref01_Margin_0 s = some (Sum.inl y) := lpO_of Iglidepathref01_Margin_0 XIglidepathref01_Margin_0 (y := (Sum.inl y)) h
theorem Lglidepathref01_Margin_0b_of {s : Q} {y : Int} (h : Rglidepathref01_Margin_0 s = exO (Xglidepathref01_Margin_0b y)) : Lglidepathref01_Margin_0 s = some (Sum.inr y) := lpO_of Iglidepathref01_Margin_0 XIglidepathref01_Margin_0 (y := (Sum.inr y)) h
theorem Uglidepathref01_Margin : uniq ((blocksOf a86.body).map (·.1)) = true := by kernel_rfl
def Bglidepathref01_Margin_0a (F : FnT) (N : Q → Option (Ext × S)) (E : Ext × Q → Option (Ext × S)) (L0 : Q → Option Yglidepathref01_Margin_0) (n0 : Nat) (c1 : List PV) (n2 : Nat) (c3 : List PV) (i4 : Int) (i5 : Int) : Option (Ext × S) :=
  bif (decide (i5 < i4)) then
    bindO (F 137 (RSh.one CK.list) [(PV.list n0 c1), (PV.list n2 c3), (PV.int IntKind.i64 (w64 (i5 + (1 : Int))))]) fun (y0 : ((Nat) × (List PV))) =>
    bindO (F 81 (RSh.one (CK.int IntKind.i64)) [(PV.list y0.1 y0.2)]) fun (y1 : (Int)) =>
    bif (y1 != (0 : Int)) then
      E (Xglidepathref01_Margin_0a i5)
    else bindO (F 84 (RSh.one CK.bool) [(PV.list y0.1 y0.2)]) fun (y2 : (Bool)) =>
    bif y2 then
      N (Tglidepathref01_Margin_0a n0 c1 n2 c3 i4 (w64 (i5 + (1 : Int))))
    else E (Xglidepathref01_Margin_0a i5)
  else E (Xglidepathref01_Margin_0b i5)
theorem Bglidepathref01_Margin_0a_eq (F : FnT) (N : Q → Option (Ext × S)) (E : Ext × Q → Option (Ext × S)) (L0 : Q → Option Yglidepathref01_Margin_0) (n0 : Nat) (c1 : List PV) (n2 : Nat) (c3 : List PV) (i4 : Int) (i5 : Int) : semB (callP F Eglidepathref01_Margin 20) s86 (loopT [⟨0, Yglidepathref01_Margin_0, L0, XLglidepathref01_Margin_0⟩]) 400 (blkIn a86.body 0) N E (Tglidepathref01_Margin_0a n0 c1 n2 c3 i4 i5) = Bglidepathref01_Margin_0a F N E L0 n0 c1 n2 c3 i4 i5 := by kernel_rfl
theorem Rglidepathref01_Margin_0a_of  (n0 : Nat) (c1 : List PV) (n2 : Nat) (c3 : List PV) (i4 : Int) (i5 : Int) {r : Ext × S} (h : Bglidepathref01_Margin_0a (Fn env) Rglidepathref01_Margin_0 exO Lglidepathref01_Margin_0 n0 c1 n2 c3 i4 i5 = some r) : Rglidepathref01_Margin_0 (Tglidepathref01_Margin_0a n0 c1 n2 c3 i4 i5) = some r :=
  lp_of Eglidepathref01_Margin_ok (by kernel_rfl) (lo_cons (lpO_ok Uglidepathref01_Margin) lo_nil) (by kernel_rfl) ((Bglidepathref01_Margin_0a_eq _ _ _ _ _ _ _ _ _ _).trans h)
def tglidepathref01_Margin (F : FnT) (L0 : Q → Option Yglidepathref01_Margin_0) (p0n : Nat) (p0c : List PV) (p1n : Nat) (p1c : List PV) (p2 : Int) : Option (Int) :=
  bindO (L0 (Tglidepathref01_Margin_0a p0n p0c p1n p1c p2 (0 : Int))) fun z =>
  Sum.elim (fun y0 =>
    some y0) (fun y1 =>
    some y1) z
theorem tglidepathref01_Margin_eq (F : FnT) (L0 : Q → Option Yglidepathref01_Margin_0) (p0n : Nat) (p0c : List PV) (p1n : Nat) (p1c : List PV) (p2 : Int) : semF (callP F Eglidepathref01_Margin 20) s86 (loopT [⟨0, Yglidepathref01_Margin_0, L0, XLglidepathref01_Margin_0⟩]) 400 a86 [PV.list p0n p0c, PV.list p1n p1c, PV.int IntKind.i64 p2] (fun rv => decR (RSh.one (CK.int IntKind.i64)) rv.pv) = tglidepathref01_Margin F L0 p0n p0c p1n p1c p2 := by kernel_rfl
noncomputable abbrev Fglidepathref01_Margin (args : List PV) := Fn env 86 (RSh.one (CK.int IntKind.i64)) args
theorem Fglidepathref01_Margin_of  (p0n : Nat) (p0c : List PV) (p1n : Nat) (p1c : List PV) (p2 : Int) {res : (Int)} (h : tglidepathref01_Margin (Fn env) Lglidepathref01_Margin_0 p0n p0c p1n p1c p2 = some res) : Fglidepathref01_Margin [PV.list p0n p0c, PV.list p1n p1c, PV.int IntKind.i64 p2] = some res :=
  fn_of Eglidepathref01_Margin_ok rfl rfl (lo_cons (lpO_ok Uglidepathref01_Margin) lo_nil) ((tglidepathref01_Margin_eq _ _ _ _ _ _ _).trans h)

/-! ### glidepathlaw01_PulseLocks -/

def Eglidepathlaw01_PulseLocks : List Entry := [.out 15 (RSh.one CK.bool), .out 78 (RSh.one CK.list), .out 77 (RSh.tup [(Prod.mk false [CK.list]), (Prod.mk false [(CK.int IntKind.i64)])]), .out 79 (RSh.tup [(Prod.mk false [CK.bool]), (Prod.mk false [(CK.int IntKind.i64)])]), .out 80 (RSh.tup [(Prod.mk false [(CK.int IntKind.i64)]), (Prod.mk false [(CK.int IntKind.i64)])]), .out 81 (RSh.one (CK.int IntKind.i64)), .out 83 (RSh.one CK.list), .out 82 (RSh.one CK.bool), .out 84 (RSh.one CK.bool), .out 85 (RSh.one (CK.int IntKind.i64)), .out 86 (RSh.one (CK.int IntKind.i64))]
theorem Eglidepathlaw01_PulseLocks_ok : ∀ e ∈ Eglidepathlaw01_PulseLocks, EntOK env e := (ent_out (ent_out (ent_out (ent_out (ent_out (ent_out (ent_out (ent_out (ent_out (ent_out (ent_out ent_nil)))))))))))
def Tglidepathlaw01_PulseLocks_1000032a (n0 : Nat) (c1 : List PV) (n2 : Nat) (c3 : List PV) (i4 : Int) : Q := ⟨(tm 116 [(0,(AV.p (PV.list n0 c1))),(1,(AV.p (PV.list n2 c3))),(2,(AV.p (PV.int IntKind.i64 i4)))]),(mm 116 [])⟩
def Xglidepathlaw01_PulseLocks_1000032a (y : Unit) : Ext × Q := (Ext.ret,⟨(tm 116 [(6,(AV.p (PV.bool true)))]),(mm 116 [])⟩)
def Iglidepathlaw01_PulseLocks_1000032a (q : Ext × S) : Unit := ()
def Xglidepathlaw01_PulseLocks_1000032b (y : Nat × List PV × Nat × List PV × Int) : Ext × Q := (Ext.normal,⟨(tm 116 [(0,(AV.p (PV.list y.1 y.2.1))),(1,(AV.p (PV.list y.2.2.1 y.2.2.2.1))),(2,(AV.p (PV.int IntKind.i64 y.2.2.2.2)))]),(mm 116 [])⟩)
def Iglidepathlaw01_PulseLocks_1000032b (q : Ext × S) : Nat × List PV × Nat × List PV × Int := ((pP_list0 (pA_p (avT q.2 0))), (pP_list1 (pA_p (avT q.2 0))), (pP_list0 (pA_p (avT q.2 1))), (pP_list1 (pA_p (avT q.2 1))), (pP_int1 (pA_p (avT q.2 2))))
abbrev Yglidepathlaw01_PulseLocks_1000032 : Type := (Unit) ⊕ ((Nat × List PV × Nat × List PV × Int))
def XLglidepathlaw01_PulseLocks_1000032 : XL Yglidepathlaw01_PulseLocks_1000032 := .more Xglidepathlaw01_PulseLocks_1000032a (.one Xglidepathlaw01_PulseLocks_1000032b)
def Iglidepathlaw01_PulseLocks_1000032 (q : Ext × S) : Yglidepathlaw01_PulseLocks_1000032 := bif (cE q.1 == 2) then (Sum.inl (Iglidepathlaw01_PulseLocks_1000032a q)) else (Sum.inr (Iglidepathlaw01_PulseLocks_1000032b q))
theorem XIglidepathlaw01_PulseLocks_1000032a (y : Unit) : Iglidepathlaw01_PulseLocks_1000032 (xe (Xglidepathlaw01_PulseLocks_1000032a y)) = (Sum.inl y) := rfl
theorem XIglidepathlaw01_PulseLocks_1000032b (y : Nat × List PV × Nat × List PV × Int) : Iglidepathlaw01_PulseLocks_1000032 (xe (Xglidepathlaw01_PulseLocks_1000032b y)) = (Sum.inr y) := rfl
theorem XIglidepathlaw01_PulseLocks_1000032 (y : Yglidepathlaw01_PulseLocks_1000032) : Iglidepathlaw01_PulseLocks_1000032 (xe (XLglidepathlaw01_PulseLocks_1000032.fn y)) = y := (match y with | .inl y => XIglidepathlaw01_PulseLocks_1000032a y | .inr y => XIglidepathlaw01_PulseLocks_1000032b y)
noncomputable abbrev Lglidepathlaw01_PulseLocks_1000032 : Q → Option Yglidepathlaw01_PulseLocks_1000032 := lpO env a14.body 1000032 XLglidepathlaw01_PulseLocks_1000032
noncomputable abbrev Rglidepathlaw01_PulseLocks_1000032 : Q → Option (Ext × S) := lpR env a14.body 1000032
theorem Lglidepathlaw01_PulseLocks_1000032a_of {s : Q} {y : Unit} (h : Rglidepathlaw01_PulseLocks_1000032 s = exO (Xglidepathlaw01_PulseLocks_1000032a y)) : Lglidepathlaw01_PulseLocks_1000032 s = some (Sum.inl y) := lpO_of Iglidepathlaw01_PulseLocks_1000032 XIglidepathlaw01_PulseLocks_1000032 (y := (Sum.inl y)) h
theorem Lglidepathlaw01_PulseLocks_1000032b_of {s : Q} {y : Nat × List PV × Nat × List PV × Int} (h : Rglidepathlaw01_PulseLocks_1000032 s = exO (Xglidepathlaw01_PulseLocks_1000032b y)) : Lglidepathlaw01_PulseLocks_1000032 s = some (Sum.inr y) := lpO_of Iglidepathlaw01_PulseLocks_1000032 XIglidepathlaw01_PulseLocks_1000032 (y := (Sum.inr y)) h
def Tglidepathlaw01_PulseLocks_1000019a (n0 : Nat) (c1 : List PV) (n2 : Nat) (c3 : List PV) (i4 : Int) (n5 : Nat) (c6 : List PV) (i7 : Int) (b8 : Bool) (i9 : Int) (i10 : Int) (i11 : Int) : Q := ⟨(tm 116 [(0,(AV.p (PV.list n0 c1))),(1,(AV.p (PV.list n2 c3))),(2,(AV.p (PV.int IntKind.i64 i4))),(7,(AV.p (PV.list n5 c6))),(8,(AV.p (PV.int IntKind.i64 i7))),(9,(AV.p (PV.bool b8))),(10,(AV.p (PV.int IntKind.i64 i9))),(11,(AV.p (PV.int IntKind.i64 i10))),(12,(AV.p (PV.int IntKind.i64 i11)))]),(mm 116 [])⟩
def Xglidepathlaw01_PulseLocks_1000019a (y : Unit) : Ext × Q := (Ext.ret,⟨(tm 116 [(6,(AV.p (PV.bool false)))]),(mm 116 [])⟩)
def Iglidepathlaw01_PulseLocks_1000019a (q : Ext × S) : Unit := ()
def Xglidepathlaw01_PulseLocks_1000019b (y : Nat × List PV × Nat × List PV × Int × Int × Int) : Ext × Q := (Ext.normal,⟨(tm 116 [(0,(AV.p (PV.list y.1 y.2.1))),(1,(AV.p (PV.list y.2.2.1 y.2.2.2.1))),(2,(AV.p (PV.int IntKind.i64 y.2.2.2.2.1))),(11,(AV.p (PV.int IntKind.i64 y.2.2.2.2.2.1))),(12,(AV.p (PV.int IntKind.i64 y.2.2.2.2.2.2)))]),(mm 116 [])⟩)
def Iglidepathlaw01_PulseLocks_1000019b (q : Ext × S) : Nat × List PV × Nat × List PV × Int × Int × Int := ((pP_list0 (pA_p (avT q.2 0))), (pP_list1 (pA_p (avT q.2 0))), (pP_list0 (pA_p (avT q.2 1))), (pP_list1 (pA_p (avT q.2 1))), (pP_int1 (pA_p (avT q.2 2))), (pP_int1 (pA_p (avT q.2 11))), (pP_int1 (pA_p (avT q.2 12))))
abbrev Yglidepathlaw01_PulseLocks_1000019 : Type := (Unit) ⊕ ((Nat × List PV × Nat × List PV × Int × Int × Int))
def XLglidepathlaw01_PulseLocks_1000019 : XL Yglidepathlaw01_PulseLocks_1000019 := .more Xglidepathlaw01_PulseLocks_1000019a (.one Xglidepathlaw01_PulseLocks_1000019b)
def Iglidepathlaw01_PulseLocks_1000019 (q : Ext × S) : Yglidepathlaw01_PulseLocks_1000019 := bif (cE q.1 == 2) then (Sum.inl (Iglidepathlaw01_PulseLocks_1000019a q)) else (Sum.inr (Iglidepathlaw01_PulseLocks_1000019b q))
theorem XIglidepathlaw01_PulseLocks_1000019a (y : Unit) : Iglidepathlaw01_PulseLocks_1000019 (xe (Xglidepathlaw01_PulseLocks_1000019a y)) = (Sum.inl y) := rfl
theorem XIglidepathlaw01_PulseLocks_1000019b (y : Nat × List PV × Nat × List PV × Int × Int × Int) : Iglidepathlaw01_PulseLocks_1000019 (xe (Xglidepathlaw01_PulseLocks_1000019b y)) = (Sum.inr y) := rfl
theorem XIglidepathlaw01_PulseLocks_1000019 (y : Yglidepathlaw01_PulseLocks_1000019) : Iglidepathlaw01_PulseLocks_1000019 (xe (XLglidepathlaw01_PulseLocks_1000019.fn y)) = y := (match y with | .inl y => XIglidepathlaw01_PulseLocks_1000019a y | .inr y => XIglidepathlaw01_PulseLocks_1000019b y)
noncomputable abbrev Lglidepathlaw01_PulseLocks_1000019 : Q → Option Yglidepathlaw01_PulseLocks_1000019 := lpO env a14.body 1000019 XLglidepathlaw01_PulseLocks_1000019
noncomputable abbrev Rglidepathlaw01_PulseLocks_1000019 : Q → Option (Ext × S) := lpR env a14.body 1000019
theorem Lglidepathlaw01_PulseLocks_1000019a_of {s : Q} {y : Unit} (h : Rglidepathlaw01_PulseLocks_1000019 s = exO (Xglidepathlaw01_PulseLocks_1000019a y)) : Lglidepathlaw01_PulseLocks_1000019 s = some (Sum.inl y) := lpO_of Iglidepathlaw01_PulseLocks_1000019 XIglidepathlaw01_PulseLocks_1000019 (y := (Sum.inl y)) h
theorem Lglidepathlaw01_PulseLocks_1000019b_of {s : Q} {y : Nat × List PV × Nat × List PV × Int × Int × Int} (h : Rglidepathlaw01_PulseLocks_1000019 s = exO (Xglidepathlaw01_PulseLocks_1000019b y)) : Lglidepathlaw01_PulseLocks_1000019 s = some (Sum.inr y) := lpO_of Iglidepathlaw01_PulseLocks_1000019 XIglidepathlaw01_PulseLocks_1000019 (y := (Sum.inr y)) h
theorem Uglidepathlaw01_PulseLocks : uniq ((blocksOf a14.body).map (·.1)) = true := by kernel_rfl
def Bglidepathlaw01_PulseLocks_1000032a (F : FnT) (N : Q → Option (Ext × S)) (E : Ext × Q → Option (Ext × S)) (L1000032 : Q → Option Yglidepathlaw01_PulseLocks_1000032) (L1000019 : Q → Option Yglidepathlaw01_PulseLocks_1000019) (n0 : Nat) (c1 : List PV) (n2 : Nat) (c3 : List PV) (i4 : Int) : Option (Ext × S) :=
  bif (decide ((n0 : Int) > (6 : Int))) then
    E (Xglidepathlaw01_PulseLocks_1000032a ())
  else bif (decide ((n2 : Int) > (6 : Int))) then
    E (Xglidepathlaw01_PulseLocks_1000032a ())
  else E (Xglidepathlaw01_PulseLocks_1000032b (n0, c1, n2, c3, i4))
theorem Bglidepathlaw01_PulseLocks_1000032a_eq (F : FnT) (N : Q → Option (Ext × S)) (E : Ext × Q → Option (Ext × S)) (L1000032 : Q → Option Yglidepathlaw01_PulseLocks_1000032) (L1000019 : Q → Option Yglidepathlaw01_PulseLocks_1000019) (n0 : Nat) (c1 : List PV) (n2 : Nat) (c3 : List PV) (i4 : Int) : semN (callP F Eglidepathlaw01_PulseLocks 20) s14 (loopT [⟨1000032, Yglidepathlaw01_PulseLocks_1000032, L1000032, XLglidepathlaw01_PulseLocks_1000032⟩, ⟨1000019, Yglidepathlaw01_PulseLocks_1000019, L1000019, XLglidepathlaw01_PulseLocks_1000019⟩]) 400 (blkIn a14.body 1000032) E (Tglidepathlaw01_PulseLocks_1000032a n0 c1 n2 c3 i4) = Bglidepathlaw01_PulseLocks_1000032a F N E L1000032 L1000019 n0 c1 n2 c3 i4 := by kernel_rfl
theorem Rglidepathlaw01_PulseLocks_1000032a_of  (n0 : Nat) (c1 : List PV) (n2 : Nat) (c3 : List PV) (i4 : Int) {r : Ext × S} (h : Bglidepathlaw01_PulseLocks_1000032a (Fn env) Rglidepathlaw01_PulseLocks_1000032 exO Lglidepathlaw01_PulseLocks_1000032 Lglidepathlaw01_PulseLocks_1000019 n0 c1 n2 c3 i4 = some r) : Rglidepathlaw01_PulseLocks_1000032 (Tglidepathlaw01_PulseLocks_1000032a n0 c1 n2 c3 i4) = some r :=
  nd_of Eglidepathlaw01_PulseLocks_ok (by kernel_rfl) (lo_cons (lpO_ok Uglidepathlaw01_PulseLocks) (lo_cons (lpO_ok Uglidepathlaw01_PulseLocks) lo_nil)) (by kernel_rfl) ((Bglidepathlaw01_PulseLocks_1000032a_eq _ Rglidepathlaw01_PulseLocks_1000032 _ _ _ _ _ _ _ _).trans h)
def Bglidepathlaw01_PulseLocks_1000019a (F : FnT) (N : Q → Option (Ext × S)) (E : Ext × Q → Option (Ext × S)) (L1000032 : Q → Option Yglidepathlaw01_PulseLocks_1000032) (L1000019 : Q → Option Yglidepathlaw01_PulseLocks_1000019) (n0 : Nat) (c1 : List PV) (n2 : Nat) (c3 : List PV) (i4 : Int) (n5 : Nat) (c6 : List PV) (i7 : Int) (b8 : Bool) (i9 : Int) (i10 : Int) (i11 : Int) : Option (Ext × S) :=
  bindO (F 81 (RSh.one (CK.int IntKind.i64)) [(PV.list n0 c1)]) fun (y0 : (Int)) =>
  bif (y0 != (0 : Int)) then
    bif (i7 != y0) then
      E (Xglidepathlaw01_PulseLocks_1000019a ())
    else bif ((n5 : Int) != (0 : Int)) then
      E (Xglidepathlaw01_PulseLocks_1000019a ())
    else bif (i9 != y0) then
      E (Xglidepathlaw01_PulseLocks_1000019a ())
    else bif b8 then
      E (Xglidepathlaw01_PulseLocks_1000019a ())
    else bif (y0 == (0 : Int)) then
      bif (i7 != (0 : Int)) then
        E (Xglidepathlaw01_PulseLocks_1000019a ())
      else bindO (F 83 (RSh.one CK.list) [(PV.list n0 c1)]) fun (y1 : ((Nat) × (List PV))) =>
      bindO (F 82 (RSh.one CK.bool) [(PV.list n5 c6), (PV.list y1.1 y1.2)]) fun (y2 : (Bool)) =>
      bif y2 then
        bif (i9 != (0 : Int)) then
          E (Xglidepathlaw01_PulseLocks_1000019a ())
        else bif b8 then
          bindO (F 84 (RSh.one CK.bool) [(PV.list n0 c1)]) fun (y3 : (Bool)) =>
          bif y3 then
            E (Xglidepathlaw01_PulseLocks_1000019b (n0, c1, n2, c3, i4, i10, i11))
          else E (Xglidepathlaw01_PulseLocks_1000019a ())
        else bindO (F 84 (RSh.one CK.bool) [(PV.list n0 c1)]) fun (y4 : (Bool)) =>
        bif y4 then
          E (Xglidepathlaw01_PulseLocks_1000019a ())
        else E (Xglidepathlaw01_PulseLocks_1000019b (n0, c1, n2, c3, i4, i10, i11))
      else E (Xglidepathlaw01_PulseLocks_1000019a ())
    else E (Xglidepathlaw01_PulseLocks_1000019b (n0, c1, n2, c3, i4, i10, i11))
  else bif (y0 == (0 : Int)) then
    bif (i7 != (0 : Int)) then
      E (Xglidepathlaw01_PulseLocks_1000019a ())
    else bindO (F 83 (RSh.one CK.list) [(PV.list n0 c1)]) fun (y5 : ((Nat) × (List PV))) =>
    bindO (F 82 (RSh.one CK.bool) [(PV.list n5 c6), (PV.list y5.1 y5.2)]) fun (y6 : (Bool)) =>
    bif y6 then
      bif (i9 != (0 : Int)) then
        E (Xglidepathlaw01_PulseLocks_1000019a ())
      else bif b8 then
        bindO (F 84 (RSh.one CK.bool) [(PV.list n0 c1)]) fun (y7 : (Bool)) =>
        bif y7 then
          E (Xglidepathlaw01_PulseLocks_1000019b (n0, c1, n2, c3, i4, i10, i11))
        else E (Xglidepathlaw01_PulseLocks_1000019a ())
      else bindO (F 84 (RSh.one CK.bool) [(PV.list n0 c1)]) fun (y8 : (Bool)) =>
      bif y8 then
        E (Xglidepathlaw01_PulseLocks_1000019a ())
      else E (Xglidepathlaw01_PulseLocks_1000019b (n0, c1, n2, c3, i4, i10, i11))
    else E (Xglidepathlaw01_PulseLocks_1000019a ())
  else E (Xglidepathlaw01_PulseLocks_1000019b (n0, c1, n2, c3, i4, i10, i11))
theorem Bglidepathlaw01_PulseLocks_1000019a_eq (F : FnT) (N : Q → Option (Ext × S)) (E : Ext × Q → Option (Ext × S)) (L1000032 : Q → Option Yglidepathlaw01_PulseLocks_1000032) (L1000019 : Q → Option Yglidepathlaw01_PulseLocks_1000019) (n0 : Nat) (c1 : List PV) (n2 : Nat) (c3 : List PV) (i4 : Int) (n5 : Nat) (c6 : List PV) (i7 : Int) (b8 : Bool) (i9 : Int) (i10 : Int) (i11 : Int) : semN (callP F Eglidepathlaw01_PulseLocks 20) s14 (loopT [⟨1000032, Yglidepathlaw01_PulseLocks_1000032, L1000032, XLglidepathlaw01_PulseLocks_1000032⟩, ⟨1000019, Yglidepathlaw01_PulseLocks_1000019, L1000019, XLglidepathlaw01_PulseLocks_1000019⟩]) 400 (blkIn a14.body 1000019) E (Tglidepathlaw01_PulseLocks_1000019a n0 c1 n2 c3 i4 n5 c6 i7 b8 i9 i10 i11) = Bglidepathlaw01_PulseLocks_1000019a F N E L1000032 L1000019 n0 c1 n2 c3 i4 n5 c6 i7 b8 i9 i10 i11 := by kernel_rfl
theorem Rglidepathlaw01_PulseLocks_1000019a_of  (n0 : Nat) (c1 : List PV) (n2 : Nat) (c3 : List PV) (i4 : Int) (n5 : Nat) (c6 : List PV) (i7 : Int) (b8 : Bool) (i9 : Int) (i10 : Int) (i11 : Int) {r : Ext × S} (h : Bglidepathlaw01_PulseLocks_1000019a (Fn env) Rglidepathlaw01_PulseLocks_1000019 exO Lglidepathlaw01_PulseLocks_1000032 Lglidepathlaw01_PulseLocks_1000019 n0 c1 n2 c3 i4 n5 c6 i7 b8 i9 i10 i11 = some r) : Rglidepathlaw01_PulseLocks_1000019 (Tglidepathlaw01_PulseLocks_1000019a n0 c1 n2 c3 i4 n5 c6 i7 b8 i9 i10 i11) = some r :=
  nd_of Eglidepathlaw01_PulseLocks_ok (by kernel_rfl) (lo_cons (lpO_ok Uglidepathlaw01_PulseLocks) (lo_cons (lpO_ok Uglidepathlaw01_PulseLocks) lo_nil)) (by kernel_rfl) ((Bglidepathlaw01_PulseLocks_1000019a_eq _ Rglidepathlaw01_PulseLocks_1000019 _ _ _ _ _ _ _ _ _ _ _ _ _ _ _).trans h)
def tglidepathlaw01_PulseLocks (F : FnT) (L1000032 : Q → Option Yglidepathlaw01_PulseLocks_1000032) (L1000019 : Q → Option Yglidepathlaw01_PulseLocks_1000019) (p0n : Nat) (p0c : List PV) (p1n : Nat) (p1c : List PV) (p2 : Int) : Option (Bool) :=
  bindO (F 15 (RSh.one CK.bool) []) fun (y0 : (Bool)) =>
  bif y0 then
    bindO (L1000032 (Tglidepathlaw01_PulseLocks_1000032a p0n p0c p1n p1c p2)) fun z =>
    Sum.elim (fun y1 =>
      some true) (fun y2 =>
      bindO (F 78 (RSh.one CK.list) [(PV.list y2.1 y2.2.1)]) fun (y3 : ((Nat) × (List PV))) =>
      bindO (F 77 (RSh.tup [(Prod.mk false [CK.list]), (Prod.mk false [(CK.int IntKind.i64)])]) [(PV.list y3.1 y3.2)]) fun (y4 : (((Nat) × (List PV)) × (Int))) =>
      bindO (F 78 (RSh.one CK.list) [(PV.list y2.1 y2.2.1)]) fun (y5 : ((Nat) × (List PV))) =>
      bindO (F 79 (RSh.tup [(Prod.mk false [CK.bool]), (Prod.mk false [(CK.int IntKind.i64)])]) [(PV.list y5.1 y5.2)]) fun (y6 : ((Bool) × (Int))) =>
      bif y6.1 then
        bindO (F 78 (RSh.one CK.list) [(PV.list y2.1 y2.2.1)]) fun (y7 : ((Nat) × (List PV))) =>
        bindO (F 78 (RSh.one CK.list) [(PV.list y2.2.2.1 y2.2.2.2.1)]) fun (y8 : ((Nat) × (List PV))) =>
        bindO (F 80 (RSh.tup [(Prod.mk false [(CK.int IntKind.i64)]), (Prod.mk false [(CK.int IntKind.i64)])]) [(PV.list y7.1 y7.2), (PV.list y8.1 y8.2), (PV.int IntKind.i64 y2.2.2.2.2)]) fun (y9 : ((Int) × (Int))) =>
        bindO (L1000019 (Tglidepathlaw01_PulseLocks_1000019a y2.1 y2.2.1 y2.2.2.1 y2.2.2.2.1 y2.2.2.2.2 y4.1.1 y4.1.2 y4.2 true y6.2 y9.1 y9.2)) fun z =>
        Sum.elim (fun y10 =>
          some false) (fun y11 =>
          bindO (F 85 (RSh.one (CK.int IntKind.i64)) [(PV.list y11.1 y11.2.1), (PV.list y11.2.2.1 y11.2.2.2.1), (PV.int IntKind.i64 y11.2.2.2.2.1)]) fun (y12 : (Int)) =>
          bif (y12 != (0 : Int)) then
            bif (y11.2.2.2.2.2.2 == y12) then
              bif (y11.2.2.2.2.2.1 == (0 : Int)) then
                some true
              else some false
            else some false
          else bif (y11.2.2.2.2.2.2 == (0 : Int)) then
            bindO (F 86 (RSh.one (CK.int IntKind.i64)) [(PV.list y11.1 y11.2.1), (PV.list y11.2.2.1 y11.2.2.2.1), (PV.int IntKind.i64 y11.2.2.2.2.1)]) fun (y13 : (Int)) =>
            bif (y11.2.2.2.2.2.1 == y13) then
              some true
            else some false
          else some false) z
      else bindO (F 78 (RSh.one CK.list) [(PV.list y2.1 y2.2.1)]) fun (y14 : ((Nat) × (List PV))) =>
      bindO (F 78 (RSh.one CK.list) [(PV.list y2.2.2.1 y2.2.2.2.1)]) fun (y15 : ((Nat) × (List PV))) =>
      bindO (F 80 (RSh.tup [(Prod.mk false [(CK.int IntKind.i64)]), (Prod.mk false [(CK.int IntKind.i64)])]) [(PV.list y14.1 y14.2), (PV.list y15.1 y15.2), (PV.int IntKind.i64 y2.2.2.2.2)]) fun (y16 : ((Int) × (Int))) =>
      bindO (L1000019 (Tglidepathlaw01_PulseLocks_1000019a y2.1 y2.2.1 y2.2.2.1 y2.2.2.2.1 y2.2.2.2.2 y4.1.1 y4.1.2 y4.2 false y6.2 y16.1 y16.2)) fun z =>
      Sum.elim (fun y17 =>
        some false) (fun y18 =>
        bindO (F 85 (RSh.one (CK.int IntKind.i64)) [(PV.list y18.1 y18.2.1), (PV.list y18.2.2.1 y18.2.2.2.1), (PV.int IntKind.i64 y18.2.2.2.2.1)]) fun (y19 : (Int)) =>
        bif (y19 != (0 : Int)) then
          bif (y18.2.2.2.2.2.2 == y19) then
            bif (y18.2.2.2.2.2.1 == (0 : Int)) then
              some true
            else some false
          else some false
        else bif (y18.2.2.2.2.2.2 == (0 : Int)) then
          bindO (F 86 (RSh.one (CK.int IntKind.i64)) [(PV.list y18.1 y18.2.1), (PV.list y18.2.2.1 y18.2.2.2.1), (PV.int IntKind.i64 y18.2.2.2.2.1)]) fun (y20 : (Int)) =>
          bif (y18.2.2.2.2.2.1 == y20) then
            some true
          else some false
        else some false) z) z
  else some false
theorem tglidepathlaw01_PulseLocks_eq (F : FnT) (L1000032 : Q → Option Yglidepathlaw01_PulseLocks_1000032) (L1000019 : Q → Option Yglidepathlaw01_PulseLocks_1000019) (p0n : Nat) (p0c : List PV) (p1n : Nat) (p1c : List PV) (p2 : Int) : semF (callP F Eglidepathlaw01_PulseLocks 20) s14 (loopT [⟨1000032, Yglidepathlaw01_PulseLocks_1000032, L1000032, XLglidepathlaw01_PulseLocks_1000032⟩, ⟨1000019, Yglidepathlaw01_PulseLocks_1000019, L1000019, XLglidepathlaw01_PulseLocks_1000019⟩]) 400 a14 [PV.list p0n p0c, PV.list p1n p1c, PV.int IntKind.i64 p2] (fun rv => decR (RSh.one CK.bool) rv.pv) = tglidepathlaw01_PulseLocks F L1000032 L1000019 p0n p0c p1n p1c p2 := by kernel_rfl
noncomputable abbrev Fglidepathlaw01_PulseLocks (args : List PV) := Fn env 14 (RSh.one CK.bool) args
theorem Fglidepathlaw01_PulseLocks_of  (p0n : Nat) (p0c : List PV) (p1n : Nat) (p1c : List PV) (p2 : Int) {res : (Bool)} (h : tglidepathlaw01_PulseLocks (Fn env) Lglidepathlaw01_PulseLocks_1000032 Lglidepathlaw01_PulseLocks_1000019 p0n p0c p1n p1c p2 = some res) : Fglidepathlaw01_PulseLocks [PV.list p0n p0c, PV.list p1n p1c, PV.int IntKind.i64 p2] = some res :=
  fn_of Eglidepathlaw01_PulseLocks_ok rfl rfl (lo_cons (lpO_ok Uglidepathlaw01_PulseLocks) (lo_cons (lpO_ok Uglidepathlaw01_PulseLocks) lo_nil)) ((tglidepathlaw01_PulseLocks_eq _ _ _ _ _ _ _ _).trans h)

end Gv
