/- What the functions do, round by round: CE1. -/
import Derived.Test.YtkbahledgljaoaaCQ2
namespace Gv
open Go
set_option maxRecDepth 100000

/-! ### cloud_shotsError_1 -/

def Ecloud_shotsError_1 : List Entry := [.out 56 (RSh.one (CK.int IntKind.i64)), .out 62 (RSh.one (CK.int IntKind.i64)), .out 54 (RSh.one (CK.int IntKind.i64))]
theorem Ecloud_shotsError_1_ok : ∀ e ∈ Ecloud_shotsError_1, EntOK env e := (ent_out (ent_out (ent_out ent_nil)))
theorem Ucloud_shotsError_1 : uniq ((blocksOf a109.body).map (·.1)) = true := by kernel_rfl
def tcloud_shotsError_1 (F : FnT)(_n : Nat) (_cs : List PV) (a b c : Int) : Option (Int) :=
  bindO (F 56 (RSh.one (CK.int IntKind.i64)) [(PV.int IntKind.i64 a), (PV.int IntKind.i64 (0 : Int)), (PV.int IntKind.i64 (1000000 : Int))]) fun (y0 : (Int)) =>
  bindO (F 56 (RSh.one (CK.int IntKind.i64)) [(PV.int IntKind.i64 b), (PV.int IntKind.i64 (0 : Int)), (PV.int IntKind.i64 (1000000 : Int))]) fun (y1 : (Int)) =>
  bindO (F 56 (RSh.one (CK.int IntKind.i64)) [(PV.int IntKind.i64 c), (PV.int IntKind.i64 (0 : Int)), (PV.int IntKind.i64 (10000 : Int))]) fun (y2 : (Int)) =>
  bif (decide (a ≥ b)) then
    bindO (F 62 (RSh.one (CK.int IntKind.i64)) [(PV.bool true), (PV.int IntKind.i64 (9 : Int))]) fun (y3 : (Int)) =>
    bindO (F 54 (RSh.one (CK.int IntKind.i64)) [(PV.list 4 [(PV.int IntKind.i64 y0), (PV.int IntKind.i64 y1), (PV.int IntKind.i64 y2), (PV.int IntKind.i64 y3)])]) fun (y4 : (Int)) =>
    some y4
  else bindO (F 62 (RSh.one (CK.int IntKind.i64)) [(PV.bool false), (PV.int IntKind.i64 (9 : Int))]) fun (y5 : (Int)) =>
  bindO (F 54 (RSh.one (CK.int IntKind.i64)) [(PV.list 4 [(PV.int IntKind.i64 y0), (PV.int IntKind.i64 y1), (PV.int IntKind.i64 y2), (PV.int IntKind.i64 y5)])]) fun (y6 : (Int)) =>
  some y6
theorem tcloud_shotsError_1_eq (F : FnT)(n : Nat) (cs : List PV) (a b c : Int) : semF (callP F Ecloud_shotsError_1 20) s109 (loopT []) 400 a109 [.list n cs, .agg [.int .i64 a, .int .i64 b, .int .i64 c]] (fun rv => decR (RSh.one (CK.int IntKind.i64)) rv.pv) = tcloud_shotsError_1 F n cs a b c := by kernel_rfl
noncomputable abbrev Fcloud_shotsError_1 (args : List PV) := Fn env 109 (RSh.one (CK.int IntKind.i64)) args
theorem Fcloud_shotsError_1_of (n : Nat) (cs : List PV) (a b c : Int) {res : (Int)} (h : tcloud_shotsError_1 (Fn env) n cs a b c = some res) : Fcloud_shotsError_1 [.list n cs, .agg [.int .i64 a, .int .i64 b, .int .i64 c]] = some res :=
  fn_of Ecloud_shotsError_1_ok rfl rfl lo_nil ((tcloud_shotsError_1_eq _ _ _ _ _ _).trans h)

/-! ### cloud_itemError_shots -/

def Ecloud_itemError_shots : List Entry := [.out 109 (RSh.one (CK.int IntKind.i64))]
theorem Ecloud_itemError_shots_ok : ∀ e ∈ Ecloud_itemError_shots, EntOK env e := (ent_out ent_nil)
def Tcloud_itemError_shots_0a (n0 : Nat) (c1 : List PV) (n2 : Nat) (c3 : List PV) (i4 : Int) (i5 : Int) : Q := ⟨(tm 27 [(0, (AV.p (PV.list n0 c1))), (1, (AV.p (PV.fn 109 []))), (9, (AV.p (PV.list n2 c3))), (10, (AV.p (PV.int IntKind.i64 i4))), (11, (AV.p (PV.int IntKind.i64 i5)))]), (mm 27 [])⟩
def Xcloud_itemError_shots_0a (y : Int × Int) : Ext × Q := (Ext.ret, ⟨(tm 27 [(4, (AV.p (PV.int IntKind.i64 y.1))), (5, (AV.p (PV.int IntKind.i64 y.2)))]), (mm 27 [])⟩)
def Icloud_itemError_shots_0a (q : Ext × S) : Int × Int := ((pP_int1 (pA_p (avT q.2 4))), (pP_int1 (pA_p (avT q.2 5))))
def Xcloud_itemError_shots_0b (_y : Unit) : Ext × Q := (Ext.normal, ⟨(tm 27 []), (mm 27 [])⟩)
def Icloud_itemError_shots_0b (_q : Ext × S) : Unit := ()
abbrev Ycloud_itemError_shots_0 : Type := (Int × Int) ⊕ ((Unit))
def XLcloud_itemError_shots_0 : XL Ycloud_itemError_shots_0 := .more Xcloud_itemError_shots_0a (.one Xcloud_itemError_shots_0b)
def Icloud_itemError_shots_0 (q : Ext × S) : Ycloud_itemError_shots_0 := bif (cE q.1 == 2) then (Sum.inl (Icloud_itemError_shots_0a q)) else (Sum.inr (Icloud_itemError_shots_0b q))
theorem XIcloud_itemError_shots_0a (y : Int × Int) : Icloud_itemError_shots_0 (xe (Xcloud_itemError_shots_0a y)) = (Sum.inl y) := rfl
theorem XIcloud_itemError_shots_0b (y : Unit) : Icloud_itemError_shots_0 (xe (Xcloud_itemError_shots_0b y)) = (Sum.inr y) := rfl
theorem XIcloud_itemError_shots_0 (y : Ycloud_itemError_shots_0) : Icloud_itemError_shots_0 (xe (XLcloud_itemError_shots_0.fn y)) = y := (match y with | .inl y => XIcloud_itemError_shots_0a y | .inr y => XIcloud_itemError_shots_0b y)
noncomputable abbrev Lcloud_itemError_shots_0 : Q → Option Ycloud_itemError_shots_0 := lpO env a117.body 0 XLcloud_itemError_shots_0
noncomputable abbrev Rcloud_itemError_shots_0 : Q → Option (Ext × S) := lpR env a117.body 0
theorem Lcloud_itemError_shots_0a_of {s : Q} {y : Int × Int} (h : Rcloud_itemError_shots_0 s = exO (Xcloud_itemError_shots_0a y)) : Lcloud_itemError_shots_0 s = some (Sum.inl y) := lpO_of Icloud_itemError_shots_0 XIcloud_itemError_shots_0 (y := (Sum.inl y)) h
theorem Lcloud_itemError_shots_0b_of {s : Q} {y : Unit} (h : Rcloud_itemError_shots_0 s = exO (Xcloud_itemError_shots_0b y)) : Lcloud_itemError_shots_0 s = some (Sum.inr y) := lpO_of Icloud_itemError_shots_0 XIcloud_itemError_shots_0 (y := (Sum.inr y)) h
theorem Ucloud_itemError_shots : uniq ((blocksOf a117.body).map (·.1)) = true := by kernel_rfl
def Bcloud_itemError_shots_0a (F : FnT) (N : Q → Option (Ext × S)) (E : Ext × Q → Option (Ext × S)) (_L0 : Q → Option Ycloud_itemError_shots_0) (n0 : Nat) (c1 : List PV) (n2 : Nat) (c3 : List PV) (i4 : Int) (i5 : Int) : Option (Ext × S) :=
  bif (decide (i5 < i4)) then
    bif (decide (((0 : Int) ≤ i5) ∧ (i5 < (n2 : Int)))) then
      bindO (intC IntKind.i64 (c3[((Int.toNat i5) * 3)]?)) fun x0 =>
      bindO (intC IntKind.i64 (c3[(((Int.toNat i5) * 3) + 1)]?)) fun x1 =>
      bindO (intC IntKind.i64 (c3[((((Int.toNat i5) * 3) + 1) + 1)]?)) fun x2 =>
      bif (decide (((0 : Int) ≤ i5) ∧ (i5 ≤ ((Prod.mk n0 c1).1 : Int)))) then
        bif (decide ((0 = (Int.toNat i5)) ∨ (((0 * 3) + (((Int.toNat i5) - 0) * 3)) ≤ (List.length c1)))) then
          bindO (F 109 (RSh.one (CK.int IntKind.i64)) [(PV.list ((Int.toNat i5) - 0) (List.take (((Int.toNat i5) - 0) * 3) (List.drop 0 c1))), (PV.agg [(PV.int IntKind.i64 x0), (PV.int IntKind.i64 x1), (PV.int IntKind.i64 x2)])]) fun (y3 : (Int)) =>
          bif (y3 != (0 : Int)) then
            E (Xcloud_itemError_shots_0a (i5, y3))
          else N (Tcloud_itemError_shots_0a n0 c1 n2 c3 i4 (w64 (i5 + (1 : Int))))
        else none
      else none
    else none
  else E (Xcloud_itemError_shots_0b ())
theorem Bcloud_itemError_shots_0a_eq (F : FnT) (N : Q → Option (Ext × S)) (E : Ext × Q → Option (Ext × S)) (L0 : Q → Option Ycloud_itemError_shots_0) (n0 : Nat) (c1 : List PV) (n2 : Nat) (c3 : List PV) (i4 : Int) (i5 : Int) : semB (callP F Ecloud_itemError_shots 20) s117 (loopT [⟨0, Ycloud_itemError_shots_0, L0, XLcloud_itemError_shots_0⟩]) 400 (blkIn a117.body 0) N E (Tcloud_itemError_shots_0a n0 c1 n2 c3 i4 i5) = Bcloud_itemError_shots_0a F N E L0 n0 c1 n2 c3 i4 i5 := by kernel_rfl
theorem Rcloud_itemError_shots_0a_of  (n0 : Nat) (c1 : List PV) (n2 : Nat) (c3 : List PV) (i4 : Int) (i5 : Int) {r : Ext × S} (h : Bcloud_itemError_shots_0a (Fn env) Rcloud_itemError_shots_0 exO Lcloud_itemError_shots_0 n0 c1 n2 c3 i4 i5 = some r) : Rcloud_itemError_shots_0 (Tcloud_itemError_shots_0a n0 c1 n2 c3 i4 i5) = some r :=
  lp_of Ecloud_itemError_shots_ok (by kernel_rfl) (lo_cons (lpO_ok Ucloud_itemError_shots) lo_nil) (by kernel_rfl) ((Bcloud_itemError_shots_0a_eq _ _ _ _ _ _ _ _ _ _).trans h)
def tcloud_itemError_shots (_F : FnT) (L0 : Q → Option Ycloud_itemError_shots_0)(n : Nat) (cs : List PV) : Option ((Int) × (Int)) :=
  bindO (L0 (Tcloud_itemError_shots_0a n cs n cs (n : Int) (0 : Int))) fun z =>
  Sum.elim (fun y0 =>
    some (y0.1, y0.2)) (fun _y1 =>
    some ((0 : Int), (0 : Int))) z
theorem tcloud_itemError_shots_eq (F : FnT) (L0 : Q → Option Ycloud_itemError_shots_0)(n : Nat) (cs : List PV) : semF (callP F Ecloud_itemError_shots 20) s117 (loopT [⟨0, Ycloud_itemError_shots_0, L0, XLcloud_itemError_shots_0⟩]) 400 a117 [.list n cs, .fn 109 []] (fun rv => decR (RSh.tup [(Prod.mk false [(CK.int IntKind.i64)]), (Prod.mk false [(CK.int IntKind.i64)])]) rv.pv) = tcloud_itemError_shots F L0 n cs := by kernel_rfl
noncomputable abbrev Fcloud_itemError_shots (args : List PV) := Fn env 117 (RSh.tup [(Prod.mk false [(CK.int IntKind.i64)]), (Prod.mk false [(CK.int IntKind.i64)])]) args
theorem Fcloud_itemError_shots_of (n : Nat) (cs : List PV) {res : ((Int) × (Int))} (h : tcloud_itemError_shots (Fn env) Lcloud_itemError_shots_0 n cs = some res) : Fcloud_itemError_shots [.list n cs, .fn 109 []] = some res :=
  fn_of Ecloud_itemError_shots_ok rfl rfl (lo_cons (lpO_ok Ucloud_itemError_shots) lo_nil) ((tcloud_itemError_shots_eq _ _ _ _).trans h)

/-! ### cloud_listError_shots -/

def Ecloud_listError_shots : List Entry := [.out 117 (RSh.tup [(Prod.mk false [(CK.int IntKind.i64)]), (Prod.mk false [(CK.int IntKind.i64)])])]
theorem Ecloud_listError_shots_ok : ∀ e ∈ Ecloud_listError_shots, EntOK env e := (ent_out ent_nil)
theorem Ucloud_listError_shots : uniq ((blocksOf a108.body).map (·.1)) = true := by kernel_rfl
def tcloud_listError_shots (F : FnT)(n : Nat) (cs : List PV) (m : Int) : Option ((Int) × (Int)) :=
  bif (decide ((n : Int) > m)) then
    some ((0 : Int), (8 : Int))
  else bindO (F 117 (RSh.tup [(Prod.mk false [(CK.int IntKind.i64)]), (Prod.mk false [(CK.int IntKind.i64)])]) [(PV.list n cs), (PV.fn 109 [])]) fun (y0 : ((Int) × (Int))) =>
  some (y0.1, y0.2)
theorem tcloud_listError_shots_eq (F : FnT)(n : Nat) (cs : List PV) (m : Int) : semF (callP F Ecloud_listError_shots 20) s108 (loopT []) 400 a108 [.list n cs, .int .i64 m, .fn 109 []] (fun rv => decR (RSh.tup [(Prod.mk false [(CK.int IntKind.i64)]), (Prod.mk false [(CK.int IntKind.i64)])]) rv.pv) = tcloud_listError_shots F n cs m := by kernel_rfl
noncomputable abbrev Fcloud_listError_shots (args : List PV) := Fn env 108 (RSh.tup [(Prod.mk false [(CK.int IntKind.i64)]), (Prod.mk false [(CK.int IntKind.i64)])]) args
theorem Fcloud_listError_shots_of (n : Nat) (cs : List PV) (m : Int) {res : ((Int) × (Int))} (h : tcloud_listError_shots (Fn env) n cs m = some res) : Fcloud_listError_shots [.list n cs, .int .i64 m, .fn 109 []] = some res :=
  fn_of Ecloud_listError_shots_ok rfl rfl lo_nil ((tcloud_listError_shots_eq _ _ _ _).trans h)

/-! ### cloud_shotsError -/

def Ecloud_shotsError : List Entry := [.out 108 (RSh.tup [(Prod.mk false [(CK.int IntKind.i64)]), (Prod.mk false [(CK.int IntKind.i64)])])]
theorem Ecloud_shotsError_ok : ∀ e ∈ Ecloud_shotsError, EntOK env e := (ent_out ent_nil)
theorem Ucloud_shotsError : uniq ((blocksOf a83.body).map (·.1)) = true := by kernel_rfl
def tcloud_shotsError (F : FnT) (p0n : Nat) (p0c : List PV) : Option (Int) :=
  bindO (F 108 (RSh.tup [(Prod.mk false [(CK.int IntKind.i64)]), (Prod.mk false [(CK.int IntKind.i64)])]) [(PV.list p0n p0c), (PV.int IntKind.i64 (20 : Int)), (PV.fn 109 [])]) fun (y0 : ((Int) × (Int))) =>
  some y0.2
theorem tcloud_shotsError_eq (F : FnT) (p0n : Nat) (p0c : List PV) : semF (callP F Ecloud_shotsError 20) s83 (loopT []) 400 a83 [PV.list p0n p0c] (fun rv => decR (RSh.one (CK.int IntKind.i64)) rv.pv) = tcloud_shotsError F p0n p0c := by kernel_rfl
noncomputable abbrev Fcloud_shotsError (args : List PV) := Fn env 83 (RSh.one (CK.int IntKind.i64)) args
theorem Fcloud_shotsError_of  (p0n : Nat) (p0c : List PV) {res : (Int)} (h : tcloud_shotsError (Fn env) p0n p0c = some res) : Fcloud_shotsError [PV.list p0n p0c] = some res :=
  fn_of Ecloud_shotsError_ok rfl rfl lo_nil ((tcloud_shotsError_eq _ _ _).trans h)

/-! ### cloud_windowError -/

def Ecloud_windowError : List Entry := [.out 56 (RSh.one (CK.int IntKind.i64))]
theorem Ecloud_windowError_ok : ∀ e ∈ Ecloud_windowError, EntOK env e := (ent_out ent_nil)
theorem Ucloud_windowError : uniq ((blocksOf a84.body).map (·.1)) = true := by kernel_rfl
def tcloud_windowError (F : FnT) (p0 : Int) : Option (Int) :=
  bindO (F 56 (RSh.one (CK.int IntKind.i64)) [(PV.int IntKind.i64 p0), (PV.int IntKind.i64 (1 : Int)), (PV.int IntKind.i64 (1000000 : Int))]) fun (y0 : (Int)) =>
  some y0
theorem tcloud_windowError_eq (F : FnT) (p0 : Int) : semF (callP F Ecloud_windowError 20) s84 (loopT []) 400 a84 [PV.int IntKind.i64 p0] (fun rv => decR (RSh.one (CK.int IntKind.i64)) rv.pv) = tcloud_windowError F p0 := by kernel_rfl
noncomputable abbrev Fcloud_windowError (args : List PV) := Fn env 84 (RSh.one (CK.int IntKind.i64)) args
theorem Fcloud_windowError_of  (p0 : Int) {res : (Int)} (h : tcloud_windowError (Fn env) p0 = some res) : Fcloud_windowError [PV.int IntKind.i64 p0] = some res :=
  fn_of Ecloud_windowError_ok rfl rfl lo_nil ((tcloud_windowError_eq _ _).trans h)

/-! ### cloud_energyBefore -/

def Ecloud_energyBefore : List Entry := []
theorem Ecloud_energyBefore_ok : ∀ e ∈ Ecloud_energyBefore, EntOK env e := ent_nil
def Tcloud_energyBefore_0a (i0 : Int) (i1 : Int) (i2 : Int) (n3 : Nat) (c4 : List PV) (i5 : Int) (i6 : Int) : Q := ⟨(tm 37 [(1, (AV.p (PV.int IntKind.i64 i0))), (2, (AV.p (PV.int IntKind.i64 i1))), (7, (AV.p (PV.int IntKind.i64 i2))), (11, (AV.p (PV.list n3 c4))), (12, (AV.p (PV.int IntKind.i64 i5))), (13, (AV.p (PV.int IntKind.i64 i6)))]), (mm 37 [])⟩
def Xcloud_energyBefore_0a (y : Int) : Ext × Q := (Ext.normal, ⟨(tm 37 [(7, (AV.p (PV.int IntKind.i64 y)))]), (mm 37 [])⟩)
def Icloud_energyBefore_0a (q : Ext × S) : Int := (pP_int1 (pA_p (avT q.2 7)))
abbrev Ycloud_energyBefore_0 : Type := Int
def XLcloud_energyBefore_0 : XL Ycloud_energyBefore_0 := .one Xcloud_energyBefore_0a
def Icloud_energyBefore_0 (q : Ext × S) : Ycloud_energyBefore_0 := (Icloud_energyBefore_0a q)
theorem XIcloud_energyBefore_0a (y : Int) : Icloud_energyBefore_0 (xe (Xcloud_energyBefore_0a y)) = y := rfl
theorem XIcloud_energyBefore_0 (y : Ycloud_energyBefore_0) : Icloud_energyBefore_0 (xe (XLcloud_energyBefore_0.fn y)) = y := XIcloud_energyBefore_0a y
noncomputable abbrev Lcloud_energyBefore_0 : Q → Option Ycloud_energyBefore_0 := lpO env a86.body 0 XLcloud_energyBefore_0
noncomputable abbrev Rcloud_energyBefore_0 : Q → Option (Ext × S) := lpR env a86.body 0
theorem Lcloud_energyBefore_0a_of {s : Q} {y : Int} (h : Rcloud_energyBefore_0 s = exO (Xcloud_energyBefore_0a y)) : Lcloud_energyBefore_0 s = some y := lpO_of Icloud_energyBefore_0 XIcloud_energyBefore_0 (y := y) h
theorem Ucloud_energyBefore : uniq ((blocksOf a86.body).map (·.1)) = true := by kernel_rfl
def Bcloud_energyBefore_0a (_F : FnT) (N : Q → Option (Ext × S)) (E : Ext × Q → Option (Ext × S)) (_L0 : Q → Option Ycloud_energyBefore_0) (i0 : Int) (i1 : Int) (i2 : Int) (n3 : Nat) (c4 : List PV) (i5 : Int) (i6 : Int) : Option (Ext × S) :=
  bif (decide (i6 < i5)) then
    bif (decide (((0 : Int) ≤ i6) ∧ (i6 < (n3 : Int)))) then
      bindO (intC IntKind.i64 (c4[((Int.toNat i6) * 3)]?)) fun x0 =>
      bindO (intC IntKind.i64 (c4[(((Int.toNat i6) * 3) + 1)]?)) fun x1 =>
      bindO (intC IntKind.i64 (c4[((((Int.toNat i6) * 3) + 1) + 1)]?)) fun x2 =>
      N (Tcloud_energyBefore_0a i0 i1 (w64 (i2 + (w64 (x2 * (if ((w64 ((if (i0 < x1) then i0 else x1) - (if ((w64 (i0 - i1)) > x0) then (w64 (i0 - i1)) else x0))) > (0 : Int)) then (w64 ((if (i0 < x1) then i0 else x1) - (if ((w64 (i0 - i1)) > x0) then (w64 (i0 - i1)) else x0))) else (0 : Int)))))) n3 c4 i5 (w64 (i6 + (1 : Int))))
    else none
  else E (Xcloud_energyBefore_0a i2)
theorem Bcloud_energyBefore_0a_eq (F : FnT) (N : Q → Option (Ext × S)) (E : Ext × Q → Option (Ext × S)) (L0 : Q → Option Ycloud_energyBefore_0) (i0 : Int) (i1 : Int) (i2 : Int) (n3 : Nat) (c4 : List PV) (i5 : Int) (i6 : Int) : semB (callP F Ecloud_energyBefore 20) s86 (loopT [⟨0, Ycloud_energyBefore_0, L0, XLcloud_energyBefore_0⟩]) 400 (blkIn a86.body 0) N E (Tcloud_energyBefore_0a i0 i1 i2 n3 c4 i5 i6) = Bcloud_energyBefore_0a F N E L0 i0 i1 i2 n3 c4 i5 i6 := by kernel_rfl
theorem Rcloud_energyBefore_0a_of  (i0 : Int) (i1 : Int) (i2 : Int) (n3 : Nat) (c4 : List PV) (i5 : Int) (i6 : Int) {r : Ext × S} (h : Bcloud_energyBefore_0a (Fn env) Rcloud_energyBefore_0 exO Lcloud_energyBefore_0 i0 i1 i2 n3 c4 i5 i6 = some r) : Rcloud_energyBefore_0 (Tcloud_energyBefore_0a i0 i1 i2 n3 c4 i5 i6) = some r :=
  lp_of Ecloud_energyBefore_ok (by kernel_rfl) (lo_cons (lpO_ok Ucloud_energyBefore) lo_nil) (by kernel_rfl) ((Bcloud_energyBefore_0a_eq _ _ _ _ _ _ _ _ _ _ _).trans h)
def tcloud_energyBefore (_F : FnT) (L0 : Q → Option Ycloud_energyBefore_0) (p0n : Nat) (p0c : List PV) (p1 : Int) (p2 : Int) : Option (Int) :=
  bindO (L0 (Tcloud_energyBefore_0a p1 p2 (0 : Int) p0n p0c (p0n : Int) (0 : Int))) fun y0 =>
  some y0
theorem tcloud_energyBefore_eq (F : FnT) (L0 : Q → Option Ycloud_energyBefore_0) (p0n : Nat) (p0c : List PV) (p1 : Int) (p2 : Int) : semF (callP F Ecloud_energyBefore 20) s86 (loopT [⟨0, Ycloud_energyBefore_0, L0, XLcloud_energyBefore_0⟩]) 400 a86 [PV.list p0n p0c, PV.int IntKind.i64 p1, PV.int IntKind.i64 p2] (fun rv => decR (RSh.one (CK.int IntKind.i64)) rv.pv) = tcloud_energyBefore F L0 p0n p0c p1 p2 := by kernel_rfl
noncomputable abbrev Fcloud_energyBefore (args : List PV) := Fn env 86 (RSh.one (CK.int IntKind.i64)) args
theorem Fcloud_energyBefore_of  (p0n : Nat) (p0c : List PV) (p1 : Int) (p2 : Int) {res : (Int)} (h : tcloud_energyBefore (Fn env) Lcloud_energyBefore_0 p0n p0c p1 p2 = some res) : Fcloud_energyBefore [PV.list p0n p0c, PV.int IntKind.i64 p1, PV.int IntKind.i64 p2] = some res :=
  fn_of Ecloud_energyBefore_ok rfl rfl (lo_cons (lpO_ok Ucloud_energyBefore) lo_nil) ((tcloud_energyBefore_eq _ _ _ _ _ _).trans h)

/-! ### cloud_ExposureOf -/

def Ecloud_ExposureOf : List Entry := [.out 83 (RSh.one (CK.int IntKind.i64)), .out 84 (RSh.one (CK.int IntKind.i64)), .out 54 (RSh.one (CK.int IntKind.i64)), .out 85 (RSh.one CK.list), .out 86 (RSh.one (CK.int IntKind.i64))]
theorem Ecloud_ExposureOf_ok : ∀ e ∈ Ecloud_ExposureOf, EntOK env e := (ent_out (ent_out (ent_out (ent_out (ent_out ent_nil)))))
def Tcloud_ExposureOf_0a (n0 : Nat) (c1 : List PV) (i2 : Int) (i3 : Int) (n4 : Nat) (c5 : List PV) (i6 : Int) (i7 : Int) : Q := ⟨(tm 35 [(0, (AV.p (PV.list n0 c1))), (1, (AV.p (PV.int IntKind.i64 i2))), (7, (AV.p (PV.int IntKind.i64 i3))), (21, (AV.p (PV.list n4 c5))), (22, (AV.p (PV.int IntKind.i64 i6))), (23, (AV.p (PV.int IntKind.i64 i7)))]), (mm 35 [])⟩
def Xcloud_ExposureOf_0a (y : Int) : Ext × Q := (Ext.normal, ⟨(tm 35 [(7, (AV.p (PV.int IntKind.i64 y)))]), (mm 35 [])⟩)
def Icloud_ExposureOf_0a (q : Ext × S) : Int := (pP_int1 (pA_p (avT q.2 7)))
abbrev Ycloud_ExposureOf_0 : Type := Int
def XLcloud_ExposureOf_0 : XL Ycloud_ExposureOf_0 := .one Xcloud_ExposureOf_0a
def Icloud_ExposureOf_0 (q : Ext × S) : Ycloud_ExposureOf_0 := (Icloud_ExposureOf_0a q)
theorem XIcloud_ExposureOf_0a (y : Int) : Icloud_ExposureOf_0 (xe (Xcloud_ExposureOf_0a y)) = y := rfl
theorem XIcloud_ExposureOf_0 (y : Ycloud_ExposureOf_0) : Icloud_ExposureOf_0 (xe (XLcloud_ExposureOf_0.fn y)) = y := XIcloud_ExposureOf_0a y
noncomputable abbrev Lcloud_ExposureOf_0 : Q → Option Ycloud_ExposureOf_0 := lpO env a41.body 0 XLcloud_ExposureOf_0
noncomputable abbrev Rcloud_ExposureOf_0 : Q → Option (Ext × S) := lpR env a41.body 0
theorem Lcloud_ExposureOf_0a_of {s : Q} {y : Int} (h : Rcloud_ExposureOf_0 s = exO (Xcloud_ExposureOf_0a y)) : Lcloud_ExposureOf_0 s = some y := lpO_of Icloud_ExposureOf_0 XIcloud_ExposureOf_0 (y := y) h
theorem Ucloud_ExposureOf : uniq ((blocksOf a41.body).map (·.1)) = true := by kernel_rfl
def Bcloud_ExposureOf_0a (F : FnT) (N : Q → Option (Ext × S)) (E : Ext × Q → Option (Ext × S)) (_L0 : Q → Option Ycloud_ExposureOf_0) (n0 : Nat) (c1 : List PV) (i2 : Int) (i3 : Int) (n4 : Nat) (c5 : List PV) (i6 : Int) (i7 : Int) : Option (Ext × S) :=
  bif (decide (i7 < i6)) then
    bif (decide (((0 : Int) ≤ i7) ∧ (i7 < (n4 : Int)))) then
      bindO (intC IntKind.i64 (c5[((Int.toNat i7) * 1)]?)) fun x0 =>
      bindO (F 86 (RSh.one (CK.int IntKind.i64)) [(PV.list n0 c1), (PV.int IntKind.i64 x0), (PV.int IntKind.i64 i2)]) fun (y1 : (Int)) =>
      N (Tcloud_ExposureOf_0a n0 c1 i2 (if (y1 > i3) then y1 else i3) n4 c5 i6 (w64 (i7 + (1 : Int))))
    else none
  else E (Xcloud_ExposureOf_0a i3)
theorem Bcloud_ExposureOf_0a_eq (F : FnT) (N : Q → Option (Ext × S)) (E : Ext × Q → Option (Ext × S)) (L0 : Q → Option Ycloud_ExposureOf_0) (n0 : Nat) (c1 : List PV) (i2 : Int) (i3 : Int) (n4 : Nat) (c5 : List PV) (i6 : Int) (i7 : Int) : semB (callP F Ecloud_ExposureOf 20) s41 (loopT [⟨0, Ycloud_ExposureOf_0, L0, XLcloud_ExposureOf_0⟩]) 400 (blkIn a41.body 0) N E (Tcloud_ExposureOf_0a n0 c1 i2 i3 n4 c5 i6 i7) = Bcloud_ExposureOf_0a F N E L0 n0 c1 i2 i3 n4 c5 i6 i7 := by kernel_rfl
theorem Rcloud_ExposureOf_0a_of  (n0 : Nat) (c1 : List PV) (i2 : Int) (i3 : Int) (n4 : Nat) (c5 : List PV) (i6 : Int) (i7 : Int) {r : Ext × S} (h : Bcloud_ExposureOf_0a (Fn env) Rcloud_ExposureOf_0 exO Lcloud_ExposureOf_0 n0 c1 i2 i3 n4 c5 i6 i7 = some r) : Rcloud_ExposureOf_0 (Tcloud_ExposureOf_0a n0 c1 i2 i3 n4 c5 i6 i7) = some r :=
  lp_of Ecloud_ExposureOf_ok (by kernel_rfl) (lo_cons (lpO_ok Ucloud_ExposureOf) lo_nil) (by kernel_rfl) ((Bcloud_ExposureOf_0a_eq _ _ _ _ _ _ _ _ _ _ _ _).trans h)
def tcloud_ExposureOf (F : FnT) (L0 : Q → Option Ycloud_ExposureOf_0) (p0n : Nat) (p0c : List PV) (p1 : Int) : Option ((Int) × (Int)) :=
  bindO (F 83 (RSh.one (CK.int IntKind.i64)) [(PV.list p0n p0c)]) fun (y0 : (Int)) =>
  bindO (F 84 (RSh.one (CK.int IntKind.i64)) [(PV.int IntKind.i64 p1)]) fun (y1 : (Int)) =>
  bindO (F 54 (RSh.one (CK.int IntKind.i64)) [(PV.list 2 [(PV.int IntKind.i64 y0), (PV.int IntKind.i64 y1)])]) fun (y2 : (Int)) =>
  bif (y2 != (0 : Int)) then
    some ((0 : Int), y2)
  else bindO (F 85 (RSh.one CK.list) [(PV.list p0n p0c), (PV.int IntKind.i64 p1)]) fun (y3 : ((Nat) × (List PV))) =>
  bindO (L0 (Tcloud_ExposureOf_0a p0n p0c p1 (0 : Int) y3.1 y3.2 (y3.1 : Int) (0 : Int))) fun y4 =>
  some (y4, (0 : Int))
theorem tcloud_ExposureOf_eq (F : FnT) (L0 : Q → Option Ycloud_ExposureOf_0) (p0n : Nat) (p0c : List PV) (p1 : Int) : semF (callP F Ecloud_ExposureOf 20) s41 (loopT [⟨0, Ycloud_ExposureOf_0, L0, XLcloud_ExposureOf_0⟩]) 400 a41 [PV.list p0n p0c, PV.int IntKind.i64 p1] (fun rv => decR (RSh.tup [(Prod.mk false [(CK.int IntKind.i64)]), (Prod.mk false [(CK.int IntKind.i64)])]) rv.pv) = tcloud_ExposureOf F L0 p0n p0c p1 := by kernel_rfl
noncomputable abbrev Fcloud_ExposureOf (args : List PV) := Fn env 41 (RSh.tup [(Prod.mk false [(CK.int IntKind.i64)]), (Prod.mk false [(CK.int IntKind.i64)])]) args
theorem Fcloud_ExposureOf_of  (p0n : Nat) (p0c : List PV) (p1 : Int) {res : ((Int) × (Int))} (h : tcloud_ExposureOf (Fn env) Lcloud_ExposureOf_0 p0n p0c p1 = some res) : Fcloud_ExposureOf [PV.list p0n p0c, PV.int IntKind.i64 p1] = some res :=
  fn_of Ecloud_ExposureOf_ok rfl rfl (lo_cons (lpO_ok Ucloud_ExposureOf) lo_nil) ((tcloud_ExposureOf_eq _ _ _ _ _).trans h)

/-! ### glidepathref08_CopyShots -/

def Eglidepathref08_CopyShots : List Entry := []
theorem Eglidepathref08_CopyShots_ok : ∀ e ∈ Eglidepathref08_CopyShots, EntOK env e := ent_nil
theorem Uglidepathref08_CopyShots : uniq ((blocksOf a42.body).map (·.1)) = true := by kernel_rfl
def tglidepathref08_CopyShots (_F : FnT) (p0n : Nat) (p0c : List PV) : Option ((Nat) × (List PV)) :=
  bif (decide (p0n = 0)) then
    some (0, [])
  else bif (decide ((List.length p0c) = (p0n * 3))) then
    bif (decide ((0 = 0) ∧ ((0 + p0n) ≤ big))) then
      bif (decide ((0 + p0n) = (0 + p0n))) then
        some ((0 + p0n), ([] ++ p0c))
      else none
    else none
  else none
theorem tglidepathref08_CopyShots_eq (F : FnT) (p0n : Nat) (p0c : List PV) : semF (callP F Eglidepathref08_CopyShots 20) s42 (loopT []) 400 a42 [PV.list p0n p0c] (fun rv => decR (RSh.one CK.list) rv.pv) = tglidepathref08_CopyShots F p0n p0c := by kernel_rfl
noncomputable abbrev Fglidepathref08_CopyShots (args : List PV) := Fn env 42 (RSh.one CK.list) args
theorem Fglidepathref08_CopyShots_of  (p0n : Nat) (p0c : List PV) {res : ((Nat) × (List PV))} (h : tglidepathref08_CopyShots (Fn env) p0n p0c = some res) : Fglidepathref08_CopyShots [PV.list p0n p0c] = some res :=
  fn_of Eglidepathref08_CopyShots_ok rfl rfl lo_nil ((tglidepathref08_CopyShots_eq _ _ _).trans h)

/-! ### rS -/

def ErS : List Entry := [.out 14 (RSh.one CK.bool)]
theorem ErS_ok : ∀ e ∈ ErS, EntOK env e := (ent_out ent_nil)
def TrS_0a (n0 : Nat) (c1 : List PV) (i2 : Int) : Q := ⟨(tm 49 [(0, (AV.p (PV.list n0 c1))), (3, (AV.p (PV.int IntKind.i64 i2)))]), (mm 49 [])⟩
def XrS_0a (y : Int) : Ext × Q := (Ext.ret, ⟨(tm 49 [(2, (AV.p (PV.int IntKind.i64 y)))]), (mm 49 [])⟩)
def IrS_0a (q : Ext × S) : Int := (pP_int1 (pA_p (avT q.2 2)))
def XrS_0b (_y : Unit) : Ext × Q := (Ext.normal, ⟨(tm 49 []), (mm 49 [])⟩)
def IrS_0b (_q : Ext × S) : Unit := ()
abbrev YrS_0 : Type := (Int) ⊕ ((Unit))
def XLrS_0 : XL YrS_0 := .more XrS_0a (.one XrS_0b)
def IrS_0 (q : Ext × S) : YrS_0 := bif (cE q.1 == 2) then (Sum.inl (IrS_0a q)) else (Sum.inr (IrS_0b q))
theorem XIrS_0a (y : Int) : IrS_0 (xe (XrS_0a y)) = (Sum.inl y) := rfl
theorem XIrS_0b (y : Unit) : IrS_0 (xe (XrS_0b y)) = (Sum.inr y) := rfl
theorem XIrS_0 (y : YrS_0) : IrS_0 (xe (XLrS_0.fn y)) = y := (match y with | .inl y => XIrS_0a y | .inr y => XIrS_0b y)
noncomputable abbrev LrS_0 : Q → Option YrS_0 := lpO env a44.body 0 XLrS_0
noncomputable abbrev RrS_0 : Q → Option (Ext × S) := lpR env a44.body 0
theorem LrS_0a_of {s : Q} {y : Int} (h : RrS_0 s = exO (XrS_0a y)) : LrS_0 s = some (Sum.inl y) := lpO_of IrS_0 XIrS_0 (y := (Sum.inl y)) h
theorem LrS_0b_of {s : Q} {y : Unit} (h : RrS_0 s = exO (XrS_0b y)) : LrS_0 s = some (Sum.inr y) := lpO_of IrS_0 XIrS_0 (y := (Sum.inr y)) h
theorem UrS : uniq ((blocksOf a44.body).map (·.1)) = true := by kernel_rfl
def BrS_0a (F : FnT) (N : Q → Option (Ext × S)) (E : Ext × Q → Option (Ext × S)) (_L0 : Q → Option YrS_0) (n0 : Nat) (c1 : List PV) (i2 : Int) : Option (Ext × S) :=
  bif (decide (i2 < (n0 : Int))) then
    bif (decide (((0 : Int) ≤ i2) ∧ (i2 < (n0 : Int)))) then
      bindO (intC IntKind.i64 (c1[(((Int.toNat i2) * 3) + 0)]?)) fun x0 =>
      bindO (F 14 (RSh.one CK.bool) [(PV.int IntKind.i64 x0), (PV.int IntKind.i64 (0 : Int)), (PV.int IntKind.i64 (1000000 : Int))]) fun (y1 : (Bool)) =>
      bif y1 then
        bif (decide (((0 : Int) ≤ i2) ∧ (i2 < (n0 : Int)))) then
          bindO (intC IntKind.i64 (c1[(((Int.toNat i2) * 3) + 1)]?)) fun x2 =>
          bindO (F 14 (RSh.one CK.bool) [(PV.int IntKind.i64 x2), (PV.int IntKind.i64 (0 : Int)), (PV.int IntKind.i64 (1000000 : Int))]) fun (y3 : (Bool)) =>
          bif y3 then
            bif (decide (((0 : Int) ≤ i2) ∧ (i2 < (n0 : Int)))) then
              bindO (intC IntKind.i64 (c1[(((Int.toNat i2) * 3) + 2)]?)) fun x4 =>
              bindO (F 14 (RSh.one CK.bool) [(PV.int IntKind.i64 x4), (PV.int IntKind.i64 (0 : Int)), (PV.int IntKind.i64 (10000 : Int))]) fun (y5 : (Bool)) =>
              bif y5 then
                bif (decide (((0 : Int) ≤ i2) ∧ (i2 < (n0 : Int)))) then
                  bindO (intC IntKind.i64 (c1[(((Int.toNat i2) * 3) + 0)]?)) fun x6 =>
                  bif (decide (((0 : Int) ≤ i2) ∧ (i2 < (n0 : Int)))) then
                    bindO (intC IntKind.i64 (c1[(((Int.toNat i2) * 3) + 1)]?)) fun x7 =>
                    bif (decide (x6 ≥ x7)) then
                      E (XrS_0a (9 : Int))
                    else N (TrS_0a n0 c1 (w64 (i2 + (1 : Int))))
                  else none
                else none
              else E (XrS_0a (2 : Int))
            else none
          else E (XrS_0a (2 : Int))
        else none
      else E (XrS_0a (2 : Int))
    else none
  else E (XrS_0b ())
theorem BrS_0a_eq (F : FnT) (N : Q → Option (Ext × S)) (E : Ext × Q → Option (Ext × S)) (L0 : Q → Option YrS_0) (n0 : Nat) (c1 : List PV) (i2 : Int) : semB (callP F ErS 20) s44 (loopT [⟨0, YrS_0, L0, XLrS_0⟩]) 400 (blkIn a44.body 0) N E (TrS_0a n0 c1 i2) = BrS_0a F N E L0 n0 c1 i2 := by kernel_rfl
theorem RrS_0a_of  (n0 : Nat) (c1 : List PV) (i2 : Int) {r : Ext × S} (h : BrS_0a (Fn env) RrS_0 exO LrS_0 n0 c1 i2 = some r) : RrS_0 (TrS_0a n0 c1 i2) = some r :=
  lp_of ErS_ok (by kernel_rfl) (lo_cons (lpO_ok UrS) lo_nil) (by kernel_rfl) ((BrS_0a_eq _ _ _ _ _ _ _).trans h)
def trS (_F : FnT) (L0 : Q → Option YrS_0) (p0n : Nat) (p0c : List PV) : Option (Int) :=
  bif (decide ((p0n : Int) > (20 : Int))) then
    some (8 : Int)
  else bindO (L0 (TrS_0a p0n p0c (0 : Int))) fun z =>
  Sum.elim (fun y0 =>
    some y0) (fun _y1 =>
    some (0 : Int)) z
theorem trS_eq (F : FnT) (L0 : Q → Option YrS_0) (p0n : Nat) (p0c : List PV) : semF (callP F ErS 20) s44 (loopT [⟨0, YrS_0, L0, XLrS_0⟩]) 400 a44 [PV.list p0n p0c] (fun rv => decR (RSh.one (CK.int IntKind.i64)) rv.pv) = trS F L0 p0n p0c := by kernel_rfl
noncomputable abbrev FrS (args : List PV) := Fn env 44 (RSh.one (CK.int IntKind.i64)) args
theorem FrS_of  (p0n : Nat) (p0c : List PV) {res : (Int)} (h : trS (Fn env) LrS_0 p0n p0c = some res) : FrS [PV.list p0n p0c] = some res :=
  fn_of ErS_ok rfl rfl (lo_cons (lpO_ok UrS) lo_nil) ((trS_eq _ _ _ _).trans h)

/-! ### glidepathref08_WindowErr -/

def Eglidepathref08_WindowErr : List Entry := [.out 14 (RSh.one CK.bool)]
theorem Eglidepathref08_WindowErr_ok : ∀ e ∈ Eglidepathref08_WindowErr, EntOK env e := (ent_out ent_nil)
theorem Uglidepathref08_WindowErr : uniq ((blocksOf a45.body).map (·.1)) = true := by kernel_rfl
def tglidepathref08_WindowErr (F : FnT) (p0 : Int) : Option (Int) :=
  bindO (F 14 (RSh.one CK.bool) [(PV.int IntKind.i64 p0), (PV.int IntKind.i64 (1 : Int)), (PV.int IntKind.i64 (1000000 : Int))]) fun (y0 : (Bool)) =>
  bif y0 then
    some (0 : Int)
  else some (2 : Int)
theorem tglidepathref08_WindowErr_eq (F : FnT) (p0 : Int) : semF (callP F Eglidepathref08_WindowErr 20) s45 (loopT []) 400 a45 [PV.int IntKind.i64 p0] (fun rv => decR (RSh.one (CK.int IntKind.i64)) rv.pv) = tglidepathref08_WindowErr F p0 := by kernel_rfl
noncomputable abbrev Fglidepathref08_WindowErr (args : List PV) := Fn env 45 (RSh.one (CK.int IntKind.i64)) args
theorem Fglidepathref08_WindowErr_of  (p0 : Int) {res : (Int)} (h : tglidepathref08_WindowErr (Fn env) p0 = some res) : Fglidepathref08_WindowErr [PV.int IntKind.i64 p0] = some res :=
  fn_of Eglidepathref08_WindowErr_ok rfl rfl lo_nil ((tglidepathref08_WindowErr_eq _ _).trans h)

/-! ### rE -/

def ErE : List Entry := []
theorem ErE_ok : ∀ e ∈ ErE, EntOK env e := ent_nil
def TrE_0a (n0 : Nat) (c1 : List PV) (i2 : Int) (i3 : Int) (i4 : Int) (i5 : Int) : Q := ⟨(tm 44 [(0, (AV.p (PV.list n0 c1))), (1, (AV.p (PV.int IntKind.i64 i2))), (2, (AV.p (PV.int IntKind.i64 i3))), (7, (AV.p (PV.int IntKind.i64 i4))), (8, (AV.p (PV.int IntKind.i64 i5)))]), (mm 44 [])⟩
def XrE_0a (y : Int) : Ext × Q := (Ext.normal, ⟨(tm 44 [(7, (AV.p (PV.int IntKind.i64 y)))]), (mm 44 [])⟩)
def IrE_0a (q : Ext × S) : Int := (pP_int1 (pA_p (avT q.2 7)))
abbrev YrE_0 : Type := Int
def XLrE_0 : XL YrE_0 := .one XrE_0a
def IrE_0 (q : Ext × S) : YrE_0 := (IrE_0a q)
theorem XIrE_0a (y : Int) : IrE_0 (xe (XrE_0a y)) = y := rfl
theorem XIrE_0 (y : YrE_0) : IrE_0 (xe (XLrE_0.fn y)) = y := XIrE_0a y
noncomputable abbrev LrE_0 : Q → Option YrE_0 := lpO env a48.body 0 XLrE_0
noncomputable abbrev RrE_0 : Q → Option (Ext × S) := lpR env a48.body 0
theorem LrE_0a_of {s : Q} {y : Int} (h : RrE_0 s = exO (XrE_0a y)) : LrE_0 s = some y := lpO_of IrE_0 XIrE_0 (y := y) h
theorem UrE : uniq ((blocksOf a48.body).map (·.1)) = true := by kernel_rfl
def BrE_0a (_F : FnT) (N : Q → Option (Ext × S)) (E : Ext × Q → Option (Ext × S)) (_L0 : Q → Option YrE_0) (n0 : Nat) (c1 : List PV) (i2 : Int) (i3 : Int) (i4 : Int) (i5 : Int) : Option (Ext × S) :=
  bif (decide (i5 < (n0 : Int))) then
    bif (decide (((0 : Int) ≤ i5) ∧ (i5 < (n0 : Int)))) then
      bindO (intC IntKind.i64 (c1[(((Int.toNat i5) * 3) + 2)]?)) fun x0 =>
      bif (decide (((0 : Int) ≤ i5) ∧ (i5 < (n0 : Int)))) then
        bindO (intC IntKind.i64 (c1[(((Int.toNat i5) * 3) + 1)]?)) fun x1 =>
        bif (decide (((0 : Int) ≤ i5) ∧ (i5 < (n0 : Int)))) then
          bindO (intC IntKind.i64 (c1[(((Int.toNat i5) * 3) + 0)]?)) fun x2 =>
          N (TrE_0a n0 c1 i2 i3 (w64 (i4 + (w64 (x0 * (if ((w64 ((if ((w64 (i3 + (1 : Int))) < x1) then (w64 (i3 + (1 : Int))) else x1) - (if ((w64 ((w64 (i3 + (1 : Int))) - i2)) > x2) then (w64 ((w64 (i3 + (1 : Int))) - i2)) else x2))) > (0 : Int)) then (w64 ((if ((w64 (i3 + (1 : Int))) < x1) then (w64 (i3 + (1 : Int))) else x1) - (if ((w64 ((w64 (i3 + (1 : Int))) - i2)) > x2) then (w64 ((w64 (i3 + (1 : Int))) - i2)) else x2))) else (0 : Int)))))) (w64 (i5 + (1 : Int))))
        else none
      else none
    else none
  else E (XrE_0a i4)
theorem BrE_0a_eq (F : FnT) (N : Q → Option (Ext × S)) (E : Ext × Q → Option (Ext × S)) (L0 : Q → Option YrE_0) (n0 : Nat) (c1 : List PV) (i2 : Int) (i3 : Int) (i4 : Int) (i5 : Int) : semB (callP F ErE 20) s48 (loopT [⟨0, YrE_0, L0, XLrE_0⟩]) 400 (blkIn a48.body 0) N E (TrE_0a n0 c1 i2 i3 i4 i5) = BrE_0a F N E L0 n0 c1 i2 i3 i4 i5 := by kernel_rfl
theorem RrE_0a_of  (n0 : Nat) (c1 : List PV) (i2 : Int) (i3 : Int) (i4 : Int) (i5 : Int) {r : Ext × S} (h : BrE_0a (Fn env) RrE_0 exO LrE_0 n0 c1 i2 i3 i4 i5 = some r) : RrE_0 (TrE_0a n0 c1 i2 i3 i4 i5) = some r :=
  lp_of ErE_ok (by kernel_rfl) (lo_cons (lpO_ok UrE) lo_nil) (by kernel_rfl) ((BrE_0a_eq _ _ _ _ _ _ _ _ _ _).trans h)
def trE (_F : FnT) (L0 : Q → Option YrE_0) (p0n : Nat) (p0c : List PV) (p1 : Int) (p2 : Int) : Option (Int) :=
  bindO (L0 (TrE_0a p0n p0c p1 p2 (0 : Int) (0 : Int))) fun y0 =>
  some y0
theorem trE_eq (F : FnT) (L0 : Q → Option YrE_0) (p0n : Nat) (p0c : List PV) (p1 : Int) (p2 : Int) : semF (callP F ErE 20) s48 (loopT [⟨0, YrE_0, L0, XLrE_0⟩]) 400 a48 [PV.list p0n p0c, PV.int IntKind.i64 p1, PV.int IntKind.i64 p2] (fun rv => decR (RSh.one (CK.int IntKind.i64)) rv.pv) = trE F L0 p0n p0c p1 p2 := by kernel_rfl
noncomputable abbrev FrE (args : List PV) := Fn env 48 (RSh.one (CK.int IntKind.i64)) args
theorem FrE_of  (p0n : Nat) (p0c : List PV) (p1 : Int) (p2 : Int) {res : (Int)} (h : trE (Fn env) LrE_0 p0n p0c p1 p2 = some res) : FrE [PV.list p0n p0c, PV.int IntKind.i64 p1, PV.int IntKind.i64 p2] = some res :=
  fn_of ErE_ok rfl rfl (lo_cons (lpO_ok UrE) lo_nil) ((trE_eq _ _ _ _ _ _).trans h)

/-! ### glidepathbase_Floor -/

def Eglidepathbase_Floor : List Entry := []
theorem Eglidepathbase_Floor_ok : ∀ e ∈ Eglidepathbase_Floor, EntOK env e := ent_nil
theorem Uglidepathbase_Floor : uniq ((blocksOf a92.body).map (·.1)) = true := by kernel_rfl
def tglidepathbase_Floor (_F : FnT) (p0 : Int) (p1 : Int) : Option (Int) :=
  bif (decide (p1 ≠ (0 : Int))) then
    bif (decide (p1 ≠ (0 : Int))) then
      bif (decide ((Int.tmod p0 p1) < (0 : Int))) then
        some (w64 ((w64 (Int.tdiv p0 p1)) - (1 : Int)))
      else some (w64 (Int.tdiv p0 p1))
    else none
  else none
theorem tglidepathbase_Floor_eq (F : FnT) (p0 : Int) (p1 : Int) : semF (callP F Eglidepathbase_Floor 20) s92 (loopT []) 400 a92 [PV.int IntKind.i64 p0, PV.int IntKind.i64 p1] (fun rv => decR (RSh.one (CK.int IntKind.i64)) rv.pv) = tglidepathbase_Floor F p0 p1 := by kernel_rfl
noncomputable abbrev Fglidepathbase_Floor (args : List PV) := Fn env 92 (RSh.one (CK.int IntKind.i64)) args
theorem Fglidepathbase_Floor_of  (p0 : Int) (p1 : Int) {res : (Int)} (h : tglidepathbase_Floor (Fn env) p0 p1 = some res) : Fglidepathbase_Floor [PV.int IntKind.i64 p0, PV.int IntKind.i64 p1] = some res :=
  fn_of Eglidepathbase_Floor_ok rfl rfl lo_nil ((tglidepathbase_Floor_eq _ _ _).trans h)

/-! ### rX -/

def ErX : List Entry := [.out 91 (RSh.one CK.list), .out 48 (RSh.one (CK.int IntKind.i64))]
theorem ErX_ok : ∀ e ∈ ErX, EntOK env e := (ent_out (ent_out ent_nil))
def TrX_0a (n0 : Nat) (c1 : List PV) (i2 : Int) (i3 : Int) (n4 : Nat) (c5 : List PV) (i6 : Int) : Q := ⟨(tm 27 [(0, (AV.p (PV.list n0 c1))), (1, (AV.p (PV.int IntKind.i64 i2))), (5, (AV.p (PV.int IntKind.i64 i3))), (6, (AV.p (PV.list n4 c5))), (7, (AV.p (PV.int IntKind.i64 i6)))]), (mm 27 [])⟩
def XrX_0a (y : Int) : Ext × Q := (Ext.normal, ⟨(tm 27 [(5, (AV.p (PV.int IntKind.i64 y)))]), (mm 27 [])⟩)
def IrX_0a (q : Ext × S) : Int := (pP_int1 (pA_p (avT q.2 5)))
abbrev YrX_0 : Type := Int
def XLrX_0 : XL YrX_0 := .one XrX_0a
def IrX_0 (q : Ext × S) : YrX_0 := (IrX_0a q)
theorem XIrX_0a (y : Int) : IrX_0 (xe (XrX_0a y)) = y := rfl
theorem XIrX_0 (y : YrX_0) : IrX_0 (xe (XLrX_0.fn y)) = y := XIrX_0a y
noncomputable abbrev LrX_0 : Q → Option YrX_0 := lpO env a46.body 0 XLrX_0
noncomputable abbrev RrX_0 : Q → Option (Ext × S) := lpR env a46.body 0
theorem LrX_0a_of {s : Q} {y : Int} (h : RrX_0 s = exO (XrX_0a y)) : LrX_0 s = some y := lpO_of IrX_0 XIrX_0 (y := y) h
theorem UrX : uniq ((blocksOf a46.body).map (·.1)) = true := by kernel_rfl
def BrX_0a (F : FnT) (N : Q → Option (Ext × S)) (E : Ext × Q → Option (Ext × S)) (_L0 : Q → Option YrX_0) (n0 : Nat) (c1 : List PV) (i2 : Int) (i3 : Int) (n4 : Nat) (c5 : List PV) (i6 : Int) : Option (Ext × S) :=
  bif (decide (i6 < (n4 : Int))) then
    bif (decide (((0 : Int) ≤ i6) ∧ (i6 < (n4 : Int)))) then
      bindO (intC IntKind.i64 (c5[((Int.toNat i6) * 1)]?)) fun x0 =>
      bindO (F 48 (RSh.one (CK.int IntKind.i64)) [(PV.list n0 c1), (PV.int IntKind.i64 i2), (PV.int IntKind.i64 x0)]) fun (y1 : (Int)) =>
      N (TrX_0a n0 c1 i2 (if (y1 > i3) then y1 else i3) n4 c5 (w64 (i6 + (1 : Int))))
    else none
  else E (XrX_0a i3)
theorem BrX_0a_eq (F : FnT) (N : Q → Option (Ext × S)) (E : Ext × Q → Option (Ext × S)) (L0 : Q → Option YrX_0) (n0 : Nat) (c1 : List PV) (i2 : Int) (i3 : Int) (n4 : Nat) (c5 : List PV) (i6 : Int) : semB (callP F ErX 20) s46 (loopT [⟨0, YrX_0, L0, XLrX_0⟩]) 400 (blkIn a46.body 0) N E (TrX_0a n0 c1 i2 i3 n4 c5 i6) = BrX_0a F N E L0 n0 c1 i2 i3 n4 c5 i6 := by kernel_rfl
theorem RrX_0a_of  (n0 : Nat) (c1 : List PV) (i2 : Int) (i3 : Int) (n4 : Nat) (c5 : List PV) (i6 : Int) {r : Ext × S} (h : BrX_0a (Fn env) RrX_0 exO LrX_0 n0 c1 i2 i3 n4 c5 i6 = some r) : RrX_0 (TrX_0a n0 c1 i2 i3 n4 c5 i6) = some r :=
  lp_of ErX_ok (by kernel_rfl) (lo_cons (lpO_ok UrX) lo_nil) (by kernel_rfl) ((BrX_0a_eq _ _ _ _ _ _ _ _ _ _ _).trans h)
def trX (F : FnT) (L0 : Q → Option YrX_0) (p0n : Nat) (p0c : List PV) (p1 : Int) : Option (Int) :=
  bindO (F 91 (RSh.one CK.list) [(PV.list p0n p0c), (PV.int IntKind.i64 p1)]) fun (y0 : ((Nat) × (List PV))) =>
  bindO (L0 (TrX_0a p0n p0c p1 (0 : Int) y0.1 y0.2 (0 : Int))) fun y1 =>
  some y1
theorem trX_eq (F : FnT) (L0 : Q → Option YrX_0) (p0n : Nat) (p0c : List PV) (p1 : Int) : semF (callP F ErX 20) s46 (loopT [⟨0, YrX_0, L0, XLrX_0⟩]) 400 a46 [PV.list p0n p0c, PV.int IntKind.i64 p1] (fun rv => decR (RSh.one (CK.int IntKind.i64)) rv.pv) = trX F L0 p0n p0c p1 := by kernel_rfl
noncomputable abbrev FrX (args : List PV) := Fn env 46 (RSh.one (CK.int IntKind.i64)) args
theorem FrX_of  (p0n : Nat) (p0c : List PV) (p1 : Int) {res : (Int)} (h : trX (Fn env) LrX_0 p0n p0c p1 = some res) : FrX [PV.list p0n p0c, PV.int IntKind.i64 p1] = some res :=
  fn_of ErX_ok rfl rfl (lo_cons (lpO_ok UrX) lo_nil) ((trX_eq _ _ _ _ _).trans h)

/-! ### rU -/

def ErU : List Entry := [.out 91 (RSh.one CK.list), .out 48 (RSh.one (CK.int IntKind.i64)), .out 92 (RSh.one (CK.int IntKind.i64))]
theorem ErU_ok : ∀ e ∈ ErU, EntOK env e := (ent_out (ent_out (ent_out ent_nil)))
def TrU_0a (n0 : Nat) (c1 : List PV) (n2 : Nat) (c3 : List PV) (i4 : Int) (i5 : Int) (i6 : Int) : Q := ⟨(tm 69 [(0, (AV.p (PV.list n0 c1))), (3, (AV.loc 3 0)), (6, (AV.p (PV.list n2 c3))), (7, (AV.p (PV.int IntKind.i64 i4)))]), (mm 69 [(3, (Bk.pcs true [(PV.int IntKind.i64 i5), (PV.int IntKind.i64 i6)]))])⟩
def XrU_0a (y : Int) : Ext × Q := (Ext.ret, ⟨(tm 69 [(4, (AV.p (PV.int IntKind.i64 y))), (5, (AV.p (PV.bool true)))]), (mm 69 [])⟩)
def IrU_0a (q : Ext × S) : Int := (pP_int1 (pA_p (avT q.2 4)))
def XrU_0b (y : Int × Int) : Ext × Q := (Ext.normal, ⟨(tm 69 []), (mm 69 [(3, (Bk.pcs true [(PV.int IntKind.i64 y.1), (PV.int IntKind.i64 y.2)]))])⟩)
def IrU_0b (q : Ext × S) : Int × Int := ((pP_int1 (hdP (pB_pcs1 (avM q.2 3)))), (pP_int1 (hdP (List.tail (pB_pcs1 (avM q.2 3))))))
abbrev YrU_0 : Type := (Int) ⊕ ((Int × Int))
def XLrU_0 : XL YrU_0 := .more XrU_0a (.one XrU_0b)
def IrU_0 (q : Ext × S) : YrU_0 := bif (cE q.1 == 2) then (Sum.inl (IrU_0a q)) else (Sum.inr (IrU_0b q))
theorem XIrU_0a (y : Int) : IrU_0 (xe (XrU_0a y)) = (Sum.inl y) := rfl
theorem XIrU_0b (y : Int × Int) : IrU_0 (xe (XrU_0b y)) = (Sum.inr y) := rfl
theorem XIrU_0 (y : YrU_0) : IrU_0 (xe (XLrU_0.fn y)) = y := (match y with | .inl y => XIrU_0a y | .inr y => XIrU_0b y)
noncomputable abbrev LrU_0 : Q → Option YrU_0 := lpO env a47.body 0 XLrU_0
noncomputable abbrev RrU_0 : Q → Option (Ext × S) := lpR env a47.body 0
theorem LrU_0a_of {s : Q} {y : Int} (h : RrU_0 s = exO (XrU_0a y)) : LrU_0 s = some (Sum.inl y) := lpO_of IrU_0 XIrU_0 (y := (Sum.inl y)) h
theorem LrU_0b_of {s : Q} {y : Int × Int} (h : RrU_0 s = exO (XrU_0b y)) : LrU_0 s = some (Sum.inr y) := lpO_of IrU_0 XIrU_0 (y := (Sum.inr y)) h
theorem UrU : uniq ((blocksOf a47.body).map (·.1)) = true := by kernel_rfl
def BrU_0a (F : FnT) (N : Q → Option (Ext × S)) (E : Ext × Q → Option (Ext × S)) (_L0 : Q → Option YrU_0) (n0 : Nat) (c1 : List PV) (n2 : Nat) (c3 : List PV) (i4 : Int) (i5 : Int) (i6 : Int) : Option (Ext × S) :=
  bif (decide (i4 < (n2 : Int))) then
    bif (decide (((0 : Int) ≤ (w64 (i4 - (1 : Int)))) ∧ ((w64 (i4 - (1 : Int))) < (n2 : Int)))) then
      bindO (intC IntKind.i64 (c3[((Int.toNat (w64 (i4 - (1 : Int)))) * 1)]?)) fun x0 =>
      bindO (F 48 (RSh.one (CK.int IntKind.i64)) [(PV.list n0 c1), (PV.int IntKind.i64 i5), (PV.int IntKind.i64 x0)]) fun (y1 : (Int)) =>
      bif (decide (((0 : Int) ≤ i4) ∧ (i4 < (n2 : Int)))) then
        bindO (intC IntKind.i64 (c3[((Int.toNat i4) * 1)]?)) fun x2 =>
        bindO (F 48 (RSh.one (CK.int IntKind.i64)) [(PV.list n0 c1), (PV.int IntKind.i64 i5), (PV.int IntKind.i64 x2)]) fun (y3 : (Int)) =>
        bif (decide (y3 ≤ i6)) then
          N (TrU_0a n0 c1 n2 c3 (w64 (i4 + (1 : Int))) i5 i6)
        else bif (decide (((0 : Int) ≤ i4) ∧ (i4 < (n2 : Int)))) then
          bindO (intC IntKind.i64 (c3[((Int.toNat i4) * 1)]?)) fun x4 =>
          bif (decide (((0 : Int) ≤ (w64 (i4 - (1 : Int)))) ∧ ((w64 (i4 - (1 : Int))) < (n2 : Int)))) then
            bindO (intC IntKind.i64 (c3[((Int.toNat (w64 (i4 - (1 : Int)))) * 1)]?)) fun x5 =>
            bif (decide ((w64 (x4 - x5)) ≠ (0 : Int))) then
              bif (decide (((0 : Int) ≤ (w64 (i4 - (1 : Int)))) ∧ ((w64 (i4 - (1 : Int))) < (n2 : Int)))) then
                bindO (intC IntKind.i64 (c3[((Int.toNat (w64 (i4 - (1 : Int)))) * 1)]?)) fun x6 =>
                bindO (F 92 (RSh.one (CK.int IntKind.i64)) [(PV.int IntKind.i64 (w64 (i6 - y1))), (PV.int IntKind.i64 (w64 (Int.tdiv (w64 (y3 - y1)) (w64 (x4 - x5)))))]) fun (y7 : (Int)) =>
                E (XrU_0a (w64 ((w64 (x6 + y7)) + (1 : Int))))
              else none
            else none
          else none
        else none
      else none
    else none
  else E (XrU_0b (i5, i6))
theorem BrU_0a_eq (F : FnT) (N : Q → Option (Ext × S)) (E : Ext × Q → Option (Ext × S)) (L0 : Q → Option YrU_0) (n0 : Nat) (c1 : List PV) (n2 : Nat) (c3 : List PV) (i4 : Int) (i5 : Int) (i6 : Int) : semB (callP F ErU 20) s47 (loopT [⟨0, YrU_0, L0, XLrU_0⟩]) 400 (blkIn a47.body 0) N E (TrU_0a n0 c1 n2 c3 i4 i5 i6) = BrU_0a F N E L0 n0 c1 n2 c3 i4 i5 i6 := by kernel_rfl
theorem RrU_0a_of  (n0 : Nat) (c1 : List PV) (n2 : Nat) (c3 : List PV) (i4 : Int) (i5 : Int) (i6 : Int) {r : Ext × S} (h : BrU_0a (Fn env) RrU_0 exO LrU_0 n0 c1 n2 c3 i4 i5 i6 = some r) : RrU_0 (TrU_0a n0 c1 n2 c3 i4 i5 i6) = some r :=
  lp_of ErU_ok (by kernel_rfl) (lo_cons (lpO_ok UrU) lo_nil) (by kernel_rfl) ((BrU_0a_eq _ _ _ _ _ _ _ _ _ _ _).trans h)
def trU (F : FnT) (L0 : Q → Option YrU_0) (p0n : Nat) (p0c : List PV) (p1_0 : Int) (p1_1 : Int) : Option ((Int) × (Bool)) :=
  bindO (F 91 (RSh.one CK.list) [(PV.list p0n p0c), (PV.int IntKind.i64 p1_0)]) fun (y0 : ((Nat) × (List PV))) =>
  bindO (L0 (TrU_0a p0n p0c y0.1 y0.2 (1 : Int) p1_0 p1_1)) fun z =>
  Sum.elim (fun y1 =>
    some (y1, true)) (fun _y2 =>
    some ((0 : Int), false)) z
theorem trU_eq (F : FnT) (L0 : Q → Option YrU_0) (p0n : Nat) (p0c : List PV) (p1_0 : Int) (p1_1 : Int) : semF (callP F ErU 20) s47 (loopT [⟨0, YrU_0, L0, XLrU_0⟩]) 400 a47 [PV.list p0n p0c, PV.agg [PV.int IntKind.i64 p1_0, PV.int IntKind.i64 p1_1]] (fun rv => decR (RSh.tup [(Prod.mk false [(CK.int IntKind.i64)]), (Prod.mk false [CK.bool])]) rv.pv) = trU F L0 p0n p0c p1_0 p1_1 := by kernel_rfl
noncomputable abbrev FrU (args : List PV) := Fn env 47 (RSh.tup [(Prod.mk false [(CK.int IntKind.i64)]), (Prod.mk false [CK.bool])]) args
theorem FrU_of  (p0n : Nat) (p0c : List PV) (p1_0 : Int) (p1_1 : Int) {res : ((Int) × (Bool))} (h : trU (Fn env) LrU_0 p0n p0c p1_0 p1_1 = some res) : FrU [PV.list p0n p0c, PV.agg [PV.int IntKind.i64 p1_0, PV.int IntKind.i64 p1_1]] = some res :=
  fn_of ErU_ok rfl rfl (lo_cons (lpO_ok UrU) lo_nil) ((trU_eq _ _ _ _ _ _).trans h)

end Gv
