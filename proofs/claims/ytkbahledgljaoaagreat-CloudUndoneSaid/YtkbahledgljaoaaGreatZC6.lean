/- What the functions do, round by round: ZC6. -/
import Derived.Test.YtkbahledgljaoaaGreatZC5
namespace Gv
open Go
set_option maxRecDepth 100000

/-! ### cloud_partError -/

def Ecloud_partError : List Entry := [.out 71 (RSh.one (CK.int IntKind.i64)), .out 69 (RSh.one (CK.int IntKind.i64)), .out 62 (RSh.one (CK.int IntKind.i64)), .out 116 (RSh.one (CK.int IntKind.i64))]
theorem Ecloud_partError_ok : ∀ e ∈ Ecloud_partError, EntOK env e := (ent_out (ent_out (ent_out (ent_out ent_nil))))
theorem Ucloud_partError : uniq ((blocksOf a74.body).map (·.1)) = true := by kernel_rfl
def tcloud_partError (F : FnT) (p0_0 : Int) (p0_1 : Int) : Option (Int) :=
  bif (decide (p0_1 ≤ (0 : Int))) then
    bindO (F 71 (RSh.one (CK.int IntKind.i64)) [(PV.bool true), (PV.int IntKind.i64 (3 : Int))]) fun (y0 : (Int)) =>
    bindO (F 69 (RSh.one (CK.int IntKind.i64)) [(PV.int IntKind.i64 p0_0), (PV.int IntKind.i64 (0 : Int)), (PV.int IntKind.i64 p0_1)]) fun (y1 : (Int)) =>
    bif (decide (p0_1 > (1000000000 : Int))) then
      bindO (F 71 (RSh.one (CK.int IntKind.i64)) [(PV.bool true), (PV.int IntKind.i64 (2 : Int))]) fun (y2 : (Int)) =>
      bindO (F 62 (RSh.one (CK.int IntKind.i64)) [(PV.list 3 [(PV.int IntKind.i64 y0), (PV.int IntKind.i64 y1), (PV.int IntKind.i64 y2)])]) fun (y3 : (Int)) =>
      some y3
    else bindO (F 71 (RSh.one (CK.int IntKind.i64)) [(PV.bool false), (PV.int IntKind.i64 (2 : Int))]) fun (y4 : (Int)) =>
    bindO (F 62 (RSh.one (CK.int IntKind.i64)) [(PV.list 3 [(PV.int IntKind.i64 y0), (PV.int IntKind.i64 y1), (PV.int IntKind.i64 y4)])]) fun (y5 : (Int)) =>
    some y5
  else bindO (F 116 (RSh.one (CK.int IntKind.i64)) [(PV.int IntKind.i64 p0_0), (PV.int IntKind.i64 p0_1)]) fun (y6 : (Int)) =>
  bif (y6 != (1 : Int)) then
    bindO (F 71 (RSh.one (CK.int IntKind.i64)) [(PV.bool true), (PV.int IntKind.i64 (3 : Int))]) fun (y7 : (Int)) =>
    bindO (F 69 (RSh.one (CK.int IntKind.i64)) [(PV.int IntKind.i64 p0_0), (PV.int IntKind.i64 (0 : Int)), (PV.int IntKind.i64 p0_1)]) fun (y8 : (Int)) =>
    bif (decide (p0_1 > (1000000000 : Int))) then
      bindO (F 71 (RSh.one (CK.int IntKind.i64)) [(PV.bool true), (PV.int IntKind.i64 (2 : Int))]) fun (y9 : (Int)) =>
      bindO (F 62 (RSh.one (CK.int IntKind.i64)) [(PV.list 3 [(PV.int IntKind.i64 y7), (PV.int IntKind.i64 y8), (PV.int IntKind.i64 y9)])]) fun (y10 : (Int)) =>
      some y10
    else bindO (F 71 (RSh.one (CK.int IntKind.i64)) [(PV.bool false), (PV.int IntKind.i64 (2 : Int))]) fun (y11 : (Int)) =>
    bindO (F 62 (RSh.one (CK.int IntKind.i64)) [(PV.list 3 [(PV.int IntKind.i64 y7), (PV.int IntKind.i64 y8), (PV.int IntKind.i64 y11)])]) fun (y12 : (Int)) =>
    some y12
  else bindO (F 71 (RSh.one (CK.int IntKind.i64)) [(PV.bool false), (PV.int IntKind.i64 (3 : Int))]) fun (y13 : (Int)) =>
  bindO (F 69 (RSh.one (CK.int IntKind.i64)) [(PV.int IntKind.i64 p0_0), (PV.int IntKind.i64 (0 : Int)), (PV.int IntKind.i64 p0_1)]) fun (y14 : (Int)) =>
  bif (decide (p0_1 > (1000000000 : Int))) then
    bindO (F 71 (RSh.one (CK.int IntKind.i64)) [(PV.bool true), (PV.int IntKind.i64 (2 : Int))]) fun (y15 : (Int)) =>
    bindO (F 62 (RSh.one (CK.int IntKind.i64)) [(PV.list 3 [(PV.int IntKind.i64 y13), (PV.int IntKind.i64 y14), (PV.int IntKind.i64 y15)])]) fun (y16 : (Int)) =>
    some y16
  else bindO (F 71 (RSh.one (CK.int IntKind.i64)) [(PV.bool false), (PV.int IntKind.i64 (2 : Int))]) fun (y17 : (Int)) =>
  bindO (F 62 (RSh.one (CK.int IntKind.i64)) [(PV.list 3 [(PV.int IntKind.i64 y13), (PV.int IntKind.i64 y14), (PV.int IntKind.i64 y17)])]) fun (y18 : (Int)) =>
  some y18
theorem tcloud_partError_eq (F : FnT) (p0_0 : Int) (p0_1 : Int) : semF (callP F Ecloud_partError 20) s74 (loopT []) 400 a74 [PV.agg [PV.int IntKind.i64 p0_0, PV.int IntKind.i64 p0_1]] (fun rv => decR (RSh.one (CK.int IntKind.i64)) rv.pv) = tcloud_partError F p0_0 p0_1 := by kernel_rfl
noncomputable abbrev Fcloud_partError (args : List PV) := Fn env 74 (RSh.one (CK.int IntKind.i64)) args
theorem Fcloud_partError_of  (p0_0 : Int) (p0_1 : Int) {res : (Int)} (h : tcloud_partError (Fn env) p0_0 p0_1 = some res) : Fcloud_partError [PV.agg [PV.int IntKind.i64 p0_0, PV.int IntKind.i64 p0_1]] = some res :=
  fn_of Ecloud_partError_ok rfl rfl lo_nil ((tcloud_partError_eq _ _ _).trans h)

/-! ### cloud_Attenuated_1 -/

def Ecloud_Attenuated_1 : List Entry := [.out 74 (RSh.one (CK.int IntKind.i64))]
theorem Ecloud_Attenuated_1_ok : ∀ e ∈ Ecloud_Attenuated_1, EntOK env e := (ent_out ent_nil)
theorem Ucloud_Attenuated_1 : uniq ((blocksOf a73.body).map (·.1)) = true := by kernel_rfl
def tcloud_Attenuated_1 (F : FnT)(_n : Nat) (_cs : List PV) (a b : Int) : Option (Int) :=
  bindO (F 74 (RSh.one (CK.int IntKind.i64)) [(PV.agg [(PV.int IntKind.i64 a), (PV.int IntKind.i64 b)])]) fun (y0 : (Int)) =>
  some y0
theorem tcloud_Attenuated_1_eq (F : FnT)(n : Nat) (cs : List PV) (a b : Int) : semF (callP F Ecloud_Attenuated_1 20) s73 (loopT []) 400 a73 [.list n cs, .agg [.int .i64 a, .int .i64 b]] (fun rv => decR (RSh.one (CK.int IntKind.i64)) rv.pv) = tcloud_Attenuated_1 F n cs a b := by kernel_rfl
noncomputable abbrev Fcloud_Attenuated_1 (args : List PV) := Fn env 73 (RSh.one (CK.int IntKind.i64)) args
theorem Fcloud_Attenuated_1_of (n : Nat) (cs : List PV) (a b : Int) {res : (Int)} (h : tcloud_Attenuated_1 (Fn env) n cs a b = some res) : Fcloud_Attenuated_1 [.list n cs, .agg [.int .i64 a, .int .i64 b]] = some res :=
  fn_of Ecloud_Attenuated_1_ok rfl rfl lo_nil ((tcloud_Attenuated_1_eq _ _ _ _ _).trans h)

/-! ### cloud_itemError_fracs -/

def Ecloud_itemError_fracs : List Entry := [.out 73 (RSh.one (CK.int IntKind.i64))]
theorem Ecloud_itemError_fracs_ok : ∀ e ∈ Ecloud_itemError_fracs, EntOK env e := (ent_out ent_nil)
def Tcloud_itemError_fracs_0a (n0 : Nat) (c1 : List PV) (n2 : Nat) (c3 : List PV) (i4 : Int) (i5 : Int) : Q := ⟨(tm 27 [(0, (AV.p (PV.list n0 c1))), (1, (AV.p (PV.fn 73 []))), (9, (AV.p (PV.list n2 c3))), (10, (AV.p (PV.int IntKind.i64 i4))), (11, (AV.p (PV.int IntKind.i64 i5)))]), (mm 27 [])⟩
def Xcloud_itemError_fracs_0a (y : Int × Int) : Ext × Q := (Ext.ret, ⟨(tm 27 [(4, (AV.p (PV.int IntKind.i64 y.1))), (5, (AV.p (PV.int IntKind.i64 y.2)))]), (mm 27 [])⟩)
def Icloud_itemError_fracs_0a (q : Ext × S) : Int × Int := ((pP_int1 (pA_p (avT q.2 4))), (pP_int1 (pA_p (avT q.2 5))))
def Xcloud_itemError_fracs_0b (_y : Unit) : Ext × Q := (Ext.normal, ⟨(tm 27 []), (mm 27 [])⟩)
def Icloud_itemError_fracs_0b (_q : Ext × S) : Unit := ()
abbrev Ycloud_itemError_fracs_0 : Type := (Int × Int) ⊕ ((Unit))
def XLcloud_itemError_fracs_0 : XL Ycloud_itemError_fracs_0 := .more Xcloud_itemError_fracs_0a (.one Xcloud_itemError_fracs_0b)
def Icloud_itemError_fracs_0 (q : Ext × S) : Ycloud_itemError_fracs_0 := bif (cE q.1 == 2) then (Sum.inl (Icloud_itemError_fracs_0a q)) else (Sum.inr (Icloud_itemError_fracs_0b q))
theorem XIcloud_itemError_fracs_0a (y : Int × Int) : Icloud_itemError_fracs_0 (xe (Xcloud_itemError_fracs_0a y)) = (Sum.inl y) := rfl
theorem XIcloud_itemError_fracs_0b (y : Unit) : Icloud_itemError_fracs_0 (xe (Xcloud_itemError_fracs_0b y)) = (Sum.inr y) := rfl
theorem XIcloud_itemError_fracs_0 (y : Ycloud_itemError_fracs_0) : Icloud_itemError_fracs_0 (xe (XLcloud_itemError_fracs_0.fn y)) = y := (match y with | .inl y => XIcloud_itemError_fracs_0a y | .inr y => XIcloud_itemError_fracs_0b y)
noncomputable abbrev Lcloud_itemError_fracs_0 : Q → Option Ycloud_itemError_fracs_0 := lpO env a143.body 0 XLcloud_itemError_fracs_0
noncomputable abbrev Rcloud_itemError_fracs_0 : Q → Option (Ext × S) := lpR env a143.body 0
theorem Lcloud_itemError_fracs_0a_of {s : Q} {y : Int × Int} (h : Rcloud_itemError_fracs_0 s = exO (Xcloud_itemError_fracs_0a y)) : Lcloud_itemError_fracs_0 s = some (Sum.inl y) := lpO_of Icloud_itemError_fracs_0 XIcloud_itemError_fracs_0 (y := (Sum.inl y)) h
theorem Lcloud_itemError_fracs_0b_of {s : Q} {y : Unit} (h : Rcloud_itemError_fracs_0 s = exO (Xcloud_itemError_fracs_0b y)) : Lcloud_itemError_fracs_0 s = some (Sum.inr y) := lpO_of Icloud_itemError_fracs_0 XIcloud_itemError_fracs_0 (y := (Sum.inr y)) h
theorem Ucloud_itemError_fracs : uniq ((blocksOf a143.body).map (·.1)) = true := by kernel_rfl
def Bcloud_itemError_fracs_0a (F : FnT) (N : Q → Option (Ext × S)) (E : Ext × Q → Option (Ext × S)) (_L0 : Q → Option Ycloud_itemError_fracs_0) (n0 : Nat) (c1 : List PV) (n2 : Nat) (c3 : List PV) (i4 : Int) (i5 : Int) : Option (Ext × S) :=
  bif (decide (i5 < i4)) then
    bif (decide (((0 : Int) ≤ i5) ∧ (i5 < (n2 : Int)))) then
      bindO (intC IntKind.i64 (c3[((Int.toNat i5) * 2)]?)) fun x0 =>
      bindO (intC IntKind.i64 (c3[(((Int.toNat i5) * 2) + 1)]?)) fun x1 =>
      bif (decide (((0 : Int) ≤ i5) ∧ (i5 ≤ ((Prod.mk n0 c1).1 : Int)))) then
        bif (decide ((0 = (Int.toNat i5)) ∨ (((0 * 2) + (((Int.toNat i5) - 0) * 2)) ≤ (List.length c1)))) then
          bindO (F 73 (RSh.one (CK.int IntKind.i64)) [(PV.list ((Int.toNat i5) - 0) (List.take (((Int.toNat i5) - 0) * 2) (List.drop 0 c1))), (PV.agg [(PV.int IntKind.i64 x0), (PV.int IntKind.i64 x1)])]) fun (y2 : (Int)) =>
          bif (y2 != (0 : Int)) then
            E (Xcloud_itemError_fracs_0a (i5, y2))
          else N (Tcloud_itemError_fracs_0a n0 c1 n2 c3 i4 (w64 (i5 + (1 : Int))))
        else none
      else none
    else none
  else E (Xcloud_itemError_fracs_0b ())
theorem Bcloud_itemError_fracs_0a_eq (F : FnT) (N : Q → Option (Ext × S)) (E : Ext × Q → Option (Ext × S)) (L0 : Q → Option Ycloud_itemError_fracs_0) (n0 : Nat) (c1 : List PV) (n2 : Nat) (c3 : List PV) (i4 : Int) (i5 : Int) : semB (callP F Ecloud_itemError_fracs 20) s143 (loopT [⟨0, Ycloud_itemError_fracs_0, L0, XLcloud_itemError_fracs_0⟩]) 400 (blkIn a143.body 0) N E (Tcloud_itemError_fracs_0a n0 c1 n2 c3 i4 i5) = Bcloud_itemError_fracs_0a F N E L0 n0 c1 n2 c3 i4 i5 := by kernel_rfl
theorem Rcloud_itemError_fracs_0a_of  (n0 : Nat) (c1 : List PV) (n2 : Nat) (c3 : List PV) (i4 : Int) (i5 : Int) {r : Ext × S} (h : Bcloud_itemError_fracs_0a (Fn env) Rcloud_itemError_fracs_0 exO Lcloud_itemError_fracs_0 n0 c1 n2 c3 i4 i5 = some r) : Rcloud_itemError_fracs_0 (Tcloud_itemError_fracs_0a n0 c1 n2 c3 i4 i5) = some r :=
  lp_of Ecloud_itemError_fracs_ok (by kernel_rfl) (lo_cons (lpO_ok Ucloud_itemError_fracs) lo_nil) (by kernel_rfl) ((Bcloud_itemError_fracs_0a_eq _ _ _ _ _ _ _ _ _ _).trans h)
def tcloud_itemError_fracs (_F : FnT) (L0 : Q → Option Ycloud_itemError_fracs_0)(n : Nat) (cs : List PV) : Option ((Int) × (Int)) :=
  bindO (L0 (Tcloud_itemError_fracs_0a n cs n cs (n : Int) (0 : Int))) fun z =>
  Sum.elim (fun y0 =>
    some (y0.1, y0.2)) (fun _y1 =>
    some ((0 : Int), (0 : Int))) z
theorem tcloud_itemError_fracs_eq (F : FnT) (L0 : Q → Option Ycloud_itemError_fracs_0)(n : Nat) (cs : List PV) : semF (callP F Ecloud_itemError_fracs 20) s143 (loopT [⟨0, Ycloud_itemError_fracs_0, L0, XLcloud_itemError_fracs_0⟩]) 400 a143 [.list n cs, .fn 73 []] (fun rv => decR (RSh.tup [(Prod.mk false [(CK.int IntKind.i64)]), (Prod.mk false [(CK.int IntKind.i64)])]) rv.pv) = tcloud_itemError_fracs F L0 n cs := by kernel_rfl
noncomputable abbrev Fcloud_itemError_fracs (args : List PV) := Fn env 143 (RSh.tup [(Prod.mk false [(CK.int IntKind.i64)]), (Prod.mk false [(CK.int IntKind.i64)])]) args
theorem Fcloud_itemError_fracs_of (n : Nat) (cs : List PV) {res : ((Int) × (Int))} (h : tcloud_itemError_fracs (Fn env) Lcloud_itemError_fracs_0 n cs = some res) : Fcloud_itemError_fracs [.list n cs, .fn 73 []] = some res :=
  fn_of Ecloud_itemError_fracs_ok rfl rfl (lo_cons (lpO_ok Ucloud_itemError_fracs) lo_nil) ((tcloud_itemError_fracs_eq _ _ _ _).trans h)

/-! ### cloud_listError_fracs -/

def Ecloud_listError_fracs : List Entry := [.out 143 (RSh.tup [(Prod.mk false [(CK.int IntKind.i64)]), (Prod.mk false [(CK.int IntKind.i64)])])]
theorem Ecloud_listError_fracs_ok : ∀ e ∈ Ecloud_listError_fracs, EntOK env e := (ent_out ent_nil)
theorem Ucloud_listError_fracs : uniq ((blocksOf a115.body).map (·.1)) = true := by kernel_rfl
def tcloud_listError_fracs (F : FnT)(n : Nat) (cs : List PV) (m : Int) : Option ((Int) × (Int)) :=
  bif (decide ((n : Int) > m)) then
    some ((0 : Int), (8 : Int))
  else bindO (F 143 (RSh.tup [(Prod.mk false [(CK.int IntKind.i64)]), (Prod.mk false [(CK.int IntKind.i64)])]) [(PV.list n cs), (PV.fn 73 [])]) fun (y0 : ((Int) × (Int))) =>
  some (y0.1, y0.2)
theorem tcloud_listError_fracs_eq (F : FnT)(n : Nat) (cs : List PV) (m : Int) : semF (callP F Ecloud_listError_fracs 20) s115 (loopT []) 400 a115 [.list n cs, .int .i64 m, .fn 73 []] (fun rv => decR (RSh.tup [(Prod.mk false [(CK.int IntKind.i64)]), (Prod.mk false [(CK.int IntKind.i64)])]) rv.pv) = tcloud_listError_fracs F n cs m := by kernel_rfl
noncomputable abbrev Fcloud_listError_fracs (args : List PV) := Fn env 115 (RSh.tup [(Prod.mk false [(CK.int IntKind.i64)]), (Prod.mk false [(CK.int IntKind.i64)])]) args
theorem Fcloud_listError_fracs_of (n : Nat) (cs : List PV) (m : Int) {res : ((Int) × (Int))} (h : tcloud_listError_fracs (Fn env) n cs m = some res) : Fcloud_listError_fracs [.list n cs, .int .i64 m, .fn 73 []] = some res :=
  fn_of Ecloud_listError_fracs_ok rfl rfl lo_nil ((tcloud_listError_fracs_eq _ _ _ _).trans h)

/-! ### cloud_filledError_fracs -/

def Ecloud_filledError_fracs : List Entry := [.out 115 (RSh.tup [(Prod.mk false [(CK.int IntKind.i64)]), (Prod.mk false [(CK.int IntKind.i64)])])]
theorem Ecloud_filledError_fracs_ok : ∀ e ∈ Ecloud_filledError_fracs, EntOK env e := (ent_out ent_nil)
theorem Ucloud_filledError_fracs : uniq ((blocksOf a72.body).map (·.1)) = true := by kernel_rfl
def tcloud_filledError_fracs (F : FnT)(n : Nat) (cs : List PV) (m : Int) : Option ((Int) × (Int)) :=
  bif ((n : Int) == (0 : Int)) then
    some ((0 : Int), (10 : Int))
  else bindO (F 115 (RSh.tup [(Prod.mk false [(CK.int IntKind.i64)]), (Prod.mk false [(CK.int IntKind.i64)])]) [(PV.list n cs), (PV.int IntKind.i64 m), (PV.fn 73 [])]) fun (y0 : ((Int) × (Int))) =>
  some (y0.1, y0.2)
theorem tcloud_filledError_fracs_eq (F : FnT)(n : Nat) (cs : List PV) (m : Int) : semF (callP F Ecloud_filledError_fracs 20) s72 (loopT []) 400 a72 [.list n cs, .int .i64 m, .fn 73 []] (fun rv => decR (RSh.tup [(Prod.mk false [(CK.int IntKind.i64)]), (Prod.mk false [(CK.int IntKind.i64)])]) rv.pv) = tcloud_filledError_fracs F n cs m := by kernel_rfl
noncomputable abbrev Fcloud_filledError_fracs (args : List PV) := Fn env 72 (RSh.tup [(Prod.mk false [(CK.int IntKind.i64)]), (Prod.mk false [(CK.int IntKind.i64)])]) args
theorem Fcloud_filledError_fracs_of (n : Nat) (cs : List PV) (m : Int) {res : ((Int) × (Int))} (h : tcloud_filledError_fracs (Fn env) n cs m = some res) : Fcloud_filledError_fracs [.list n cs, .int .i64 m, .fn 73 []] = some res :=
  fn_of Ecloud_filledError_fracs_ok rfl rfl lo_nil ((tcloud_filledError_fracs_eq _ _ _ _).trans h)

/-! ### cloud_isLarge -/

def Ecloud_isLarge : List Entry := []
theorem Ecloud_isLarge_ok : ∀ e ∈ Ecloud_isLarge, EntOK env e := ent_nil
theorem Ucloud_isLarge : uniq ((blocksOf a117.body).map (·.1)) = true := by kernel_rfl
def tcloud_isLarge (_F : FnT) (p0 : Int) (p1 : Int) : Option (Bool) :=
  bif (decide (p0 > (0 : Int))) then
    bif (decide (p0 ≠ (0 : Int))) then
      bif (decide (p1 > (w64 (Int.tdiv (1000000000 : Int) p0)))) then
        some true
      else some false
    else none
  else some false
theorem tcloud_isLarge_eq (F : FnT) (p0 : Int) (p1 : Int) : semF (callP F Ecloud_isLarge 20) s117 (loopT []) 400 a117 [PV.int IntKind.i64 p0, PV.int IntKind.i64 p1] (fun rv => decR (RSh.one CK.bool) rv.pv) = tcloud_isLarge F p0 p1 := by kernel_rfl
noncomputable abbrev Fcloud_isLarge (args : List PV) := Fn env 117 (RSh.one CK.bool) args
theorem Fcloud_isLarge_of  (p0 : Int) (p1 : Int) {res : (Bool)} (h : tcloud_isLarge (Fn env) p0 p1 = some res) : Fcloud_isLarge [PV.int IntKind.i64 p0, PV.int IntKind.i64 p1] = some res :=
  fn_of Ecloud_isLarge_ok rfl rfl lo_nil ((tcloud_isLarge_eq _ _ _).trans h)

/-! ### cloud_product -/

def Ecloud_product : List Entry := [.out 112 (RSh.agg [(CK.int IntKind.i64), (CK.int IntKind.i64)]), .out 117 (RSh.one CK.bool)]
theorem Ecloud_product_ok : ∀ e ∈ Ecloud_product, EntOK env e := (ent_out (ent_out ent_nil))
theorem Ucloud_product : uniq ((blocksOf a75.body).map (·.1)) = true := by kernel_rfl
def tcloud_product (F : FnT) (p0_0 : Int) (p0_1 : Int) (p1_0 : Int) (p1_1 : Int) : Option ((Int) × ((Int) × (Int))) :=
  bindO (F 112 (RSh.agg [(CK.int IntKind.i64), (CK.int IntKind.i64)]) [(PV.int IntKind.i64 p0_0), (PV.int IntKind.i64 p1_1)]) fun (y0 : ((Int) × (Int))) =>
  bindO (F 112 (RSh.agg [(CK.int IntKind.i64), (CK.int IntKind.i64)]) [(PV.int IntKind.i64 p1_0), (PV.int IntKind.i64 p0_1)]) fun (y1 : ((Int) × (Int))) =>
  bindO (F 117 (RSh.one CK.bool) [(PV.int IntKind.i64 y0.1), (PV.int IntKind.i64 y1.1)]) fun (y2 : (Bool)) =>
  bif y2 then
    some ((0 : Int), ((0 : Int), (8 : Int)))
  else bindO (F 117 (RSh.one CK.bool) [(PV.int IntKind.i64 y0.2), (PV.int IntKind.i64 y1.2)]) fun (y3 : (Bool)) =>
  bif y3 then
    some ((0 : Int), ((0 : Int), (8 : Int)))
  else some ((w64 (y0.1 * y1.1)), ((w64 (y0.2 * y1.2)), (0 : Int)))
theorem tcloud_product_eq (F : FnT) (p0_0 : Int) (p0_1 : Int) (p1_0 : Int) (p1_1 : Int) : semF (callP F Ecloud_product 20) s75 (loopT []) 400 a75 [PV.agg [PV.int IntKind.i64 p0_0, PV.int IntKind.i64 p0_1], PV.agg [PV.int IntKind.i64 p1_0, PV.int IntKind.i64 p1_1]] (fun rv => decR (RSh.tup [(Prod.mk true [(CK.int IntKind.i64), (CK.int IntKind.i64)]), (Prod.mk false [(CK.int IntKind.i64)])]) rv.pv) = tcloud_product F p0_0 p0_1 p1_0 p1_1 := by kernel_rfl
noncomputable abbrev Fcloud_product (args : List PV) := Fn env 75 (RSh.tup [(Prod.mk true [(CK.int IntKind.i64), (CK.int IntKind.i64)]), (Prod.mk false [(CK.int IntKind.i64)])]) args
theorem Fcloud_product_of  (p0_0 : Int) (p0_1 : Int) (p1_0 : Int) (p1_1 : Int) {res : ((Int) × ((Int) × (Int)))} (h : tcloud_product (Fn env) p0_0 p0_1 p1_0 p1_1 = some res) : Fcloud_product [PV.agg [PV.int IntKind.i64 p0_0, PV.int IntKind.i64 p0_1], PV.agg [PV.int IntKind.i64 p1_0, PV.int IntKind.i64 p1_1]] = some res :=
  fn_of Ecloud_product_ok rfl rfl lo_nil ((tcloud_product_eq _ _ _ _ _).trans h)

/-! ### cloud_restAfter -/

def Ecloud_restAfter : List Entry := [.out 112 (RSh.agg [(CK.int IntKind.i64), (CK.int IntKind.i64)])]
theorem Ecloud_restAfter_ok : ∀ e ∈ Ecloud_restAfter, EntOK env e := (ent_out ent_nil)
theorem Ucloud_restAfter : uniq ((blocksOf a76.body).map (·.1)) = true := by kernel_rfl
def tcloud_restAfter (F : FnT) (p0_0 : Int) (p0_1 : Int) (p1_0 : Int) (p1_1 : Int) (p2_0 : Int) (p2_1 : Int) : Option ((Int) × (Int)) :=
  bif (p1_0 == (0 : Int)) then
    some (p0_0, p0_1)
  else bindO (F 112 (RSh.agg [(CK.int IntKind.i64), (CK.int IntKind.i64)]) [(PV.int IntKind.i64 (w64 (p2_0 * (w64 (p1_1 - p1_0))))), (PV.int IntKind.i64 (w64 (p2_1 * p1_0)))]) fun (y0 : ((Int) × (Int))) =>
  some (y0.1, y0.2)
theorem tcloud_restAfter_eq (F : FnT) (p0_0 : Int) (p0_1 : Int) (p1_0 : Int) (p1_1 : Int) (p2_0 : Int) (p2_1 : Int) : semF (callP F Ecloud_restAfter 20) s76 (loopT []) 400 a76 [PV.agg [PV.int IntKind.i64 p0_0, PV.int IntKind.i64 p0_1], PV.agg [PV.int IntKind.i64 p1_0, PV.int IntKind.i64 p1_1], PV.agg [PV.int IntKind.i64 p2_0, PV.int IntKind.i64 p2_1]] (fun rv => decR (RSh.agg [(CK.int IntKind.i64), (CK.int IntKind.i64)]) rv.pv) = tcloud_restAfter F p0_0 p0_1 p1_0 p1_1 p2_0 p2_1 := by kernel_rfl
noncomputable abbrev Fcloud_restAfter (args : List PV) := Fn env 76 (RSh.agg [(CK.int IntKind.i64), (CK.int IntKind.i64)]) args
theorem Fcloud_restAfter_of  (p0_0 : Int) (p0_1 : Int) (p1_0 : Int) (p1_1 : Int) (p2_0 : Int) (p2_1 : Int) {res : ((Int) × (Int))} (h : tcloud_restAfter (Fn env) p0_0 p0_1 p1_0 p1_1 p2_0 p2_1 = some res) : Fcloud_restAfter [PV.agg [PV.int IntKind.i64 p0_0, PV.int IntKind.i64 p0_1], PV.agg [PV.int IntKind.i64 p1_0, PV.int IntKind.i64 p1_1], PV.agg [PV.int IntKind.i64 p2_0, PV.int IntKind.i64 p2_1]] = some res :=
  fn_of Ecloud_restAfter_ok rfl rfl lo_nil ((tcloud_restAfter_eq _ _ _ _ _ _ _).trans h)

/-! ### cloud_Attenuated -/

def Ecloud_Attenuated : List Entry := [.out 72 (RSh.tup [(Prod.mk false [(CK.int IntKind.i64)]), (Prod.mk false [(CK.int IntKind.i64)])]), .out 64 (RSh.one (CK.int IntKind.i64)), .out 62 (RSh.one (CK.int IntKind.i64)), .out 75 (RSh.tup [(Prod.mk true [(CK.int IntKind.i64), (CK.int IntKind.i64)]), (Prod.mk false [(CK.int IntKind.i64)])]), .out 76 (RSh.agg [(CK.int IntKind.i64), (CK.int IntKind.i64)])]
theorem Ecloud_Attenuated_ok : ∀ e ∈ Ecloud_Attenuated, EntOK env e := (ent_out (ent_out (ent_out (ent_out (ent_out ent_nil)))))
def Tcloud_Attenuated_0a (n0 : Nat) (n1 : Nat) (c2 : List PV) (i3 : Int) (i4 : Int) (i5 : Int) (i6 : Int) (c7 : List PV) : Q := ⟨(tm 59 [(9, (AV.msl 30 0 n0 2)), (10, (AV.loc 10 0)), (33, (AV.p (PV.list n1 c2))), (34, (AV.p (PV.int IntKind.i64 i3))), (35, (AV.p (PV.int IntKind.i64 i4)))]), (mm 59 [(10, (Bk.pcs true [(PV.int IntKind.i64 i5), (PV.int IntKind.i64 i6)])), (30, (Bk.pcs true c7))])⟩
def Xcloud_Attenuated_0a (y : Int × List PV) : Ext × Q := (Ext.ret, ⟨(tm 59 [(4, AV.nilS), (5, (AV.p (PV.int IntKind.i64 y.1)))]), (mm 59 [(30, (Bk.pcs true y.2))])⟩)
def Icloud_Attenuated_0a (q : Ext × S) : Int × List PV := ((pP_int1 (pA_p (avT q.2 5))), (pB_pcs1 (avM q.2 30)))
def Xcloud_Attenuated_0b (y : Nat × Int × Int × List PV) : Ext × Q := (Ext.normal, ⟨(tm 59 [(9, (AV.msl 30 0 y.1 2))]), (mm 59 [(10, (Bk.pcs true [(PV.int IntKind.i64 y.2.1), (PV.int IntKind.i64 y.2.2.1)])), (30, (Bk.pcs true y.2.2.2))])⟩)
def Icloud_Attenuated_0b (q : Ext × S) : Nat × Int × Int × List PV := ((pA_msl2 (avT q.2 9)), (pP_int1 (hdP (pB_pcs1 (avM q.2 10)))), (pP_int1 (hdP (List.tail (pB_pcs1 (avM q.2 10))))), (pB_pcs1 (avM q.2 30)))
abbrev Ycloud_Attenuated_0 : Type := (Int × List PV) ⊕ ((Nat × Int × Int × List PV))
def XLcloud_Attenuated_0 : XL Ycloud_Attenuated_0 := .more Xcloud_Attenuated_0a (.one Xcloud_Attenuated_0b)
def Icloud_Attenuated_0 (q : Ext × S) : Ycloud_Attenuated_0 := bif (cE q.1 == 2) then (Sum.inl (Icloud_Attenuated_0a q)) else (Sum.inr (Icloud_Attenuated_0b q))
theorem XIcloud_Attenuated_0a (y : Int × List PV) : Icloud_Attenuated_0 (xe (Xcloud_Attenuated_0a y)) = (Sum.inl y) := (show Icloud_Attenuated_0 (xe (Xcloud_Attenuated_0a y)) = (Sum.inl (y.1, ((y.2.map AV.p).map pA_p))) from rfl).trans (by simp only [map_back])
theorem XIcloud_Attenuated_0b (y : Nat × Int × Int × List PV) : Icloud_Attenuated_0 (xe (Xcloud_Attenuated_0b y)) = (Sum.inr y) := (show Icloud_Attenuated_0 (xe (Xcloud_Attenuated_0b y)) = (Sum.inr (y.1, y.2.1, y.2.2.1, ((y.2.2.2.map AV.p).map pA_p))) from rfl).trans (by simp only [map_back])
theorem XIcloud_Attenuated_0 (y : Ycloud_Attenuated_0) : Icloud_Attenuated_0 (xe (XLcloud_Attenuated_0.fn y)) = y := (match y with | .inl y => XIcloud_Attenuated_0a y | .inr y => XIcloud_Attenuated_0b y)
noncomputable abbrev Lcloud_Attenuated_0 : Q → Option Ycloud_Attenuated_0 := lpO env a24.body 0 XLcloud_Attenuated_0
noncomputable abbrev Rcloud_Attenuated_0 : Q → Option (Ext × S) := lpR env a24.body 0
theorem Lcloud_Attenuated_0a_of {s : Q} {y : Int × List PV} (h : Rcloud_Attenuated_0 s = exO (Xcloud_Attenuated_0a y)) : Lcloud_Attenuated_0 s = some (Sum.inl y) := lpO_of Icloud_Attenuated_0 XIcloud_Attenuated_0 (y := (Sum.inl y)) h
theorem Lcloud_Attenuated_0b_of {s : Q} {y : Nat × Int × Int × List PV} (h : Rcloud_Attenuated_0 s = exO (Xcloud_Attenuated_0b y)) : Lcloud_Attenuated_0 s = some (Sum.inr y) := lpO_of Icloud_Attenuated_0 XIcloud_Attenuated_0 (y := (Sum.inr y)) h
theorem Ucloud_Attenuated : uniq ((blocksOf a24.body).map (·.1)) = true := by kernel_rfl
def Bcloud_Attenuated_0a (F : FnT) (N : Q → Option (Ext × S)) (E : Ext × Q → Option (Ext × S)) (_L0 : Q → Option Ycloud_Attenuated_0) (n0 : Nat) (n1 : Nat) (c2 : List PV) (i3 : Int) (i4 : Int) (i5 : Int) (i6 : Int) (c7 : List PV) : Option (Ext × S) :=
  bif (decide (i4 < i3)) then
    bif (decide (((0 : Int) ≤ i4) ∧ (i4 < (n1 : Int)))) then
      bindO (intC IntKind.i64 (c2[((Int.toNat i4) * 2)]?)) fun x0 =>
      bindO (intC IntKind.i64 (c2[(((Int.toNat i4) * 2) + 1)]?)) fun x1 =>
      bindO (F 75 (RSh.tup [(Prod.mk true [(CK.int IntKind.i64), (CK.int IntKind.i64)]), (Prod.mk false [(CK.int IntKind.i64)])]) [(PV.agg [(PV.int IntKind.i64 x0), (PV.int IntKind.i64 x1)]), (PV.agg [(PV.int IntKind.i64 i5), (PV.int IntKind.i64 i6)])]) fun (y2 : ((Int) × ((Int) × (Int)))) =>
      bif (y2.2.2 != (0 : Int)) then
        E (Xcloud_Attenuated_0a (y2.2.2, c7))
      else bif (decide (((0 : Int) ≤ i4) ∧ (i4 < (n0 : Int)))) then
        bindO (Gv.overO c7 (0 + ((Int.toNat i4) * 2)) [(PV.int IntKind.i64 y2.1), (PV.int IntKind.i64 y2.2.1)]) fun x3 =>
        bindO (F 76 (RSh.agg [(CK.int IntKind.i64), (CK.int IntKind.i64)]) [(PV.agg [(PV.int IntKind.i64 i5), (PV.int IntKind.i64 i6)]), (PV.agg [(PV.int IntKind.i64 x0), (PV.int IntKind.i64 x1)]), (PV.agg [(PV.int IntKind.i64 y2.1), (PV.int IntKind.i64 y2.2.1)])]) fun (y4 : ((Int) × (Int))) =>
        N (Tcloud_Attenuated_0a n0 n1 c2 i3 (w64 (i4 + (1 : Int))) y4.1 y4.2 x3)
      else none
    else none
  else E (Xcloud_Attenuated_0b (n0, i5, i6, c7))
theorem Bcloud_Attenuated_0a_eq (F : FnT) (N : Q → Option (Ext × S)) (E : Ext × Q → Option (Ext × S)) (L0 : Q → Option Ycloud_Attenuated_0) (n0 : Nat) (n1 : Nat) (c2 : List PV) (i3 : Int) (i4 : Int) (i5 : Int) (i6 : Int) (c7 : List PV) : semB (callP F Ecloud_Attenuated 20) s24 (loopT [⟨0, Ycloud_Attenuated_0, L0, XLcloud_Attenuated_0⟩]) 400 (blkIn a24.body 0) N E (Tcloud_Attenuated_0a n0 n1 c2 i3 i4 i5 i6 c7) = Bcloud_Attenuated_0a F N E L0 n0 n1 c2 i3 i4 i5 i6 c7 := by kernel_rfl
theorem Rcloud_Attenuated_0a_of  (n0 : Nat) (n1 : Nat) (c2 : List PV) (i3 : Int) (i4 : Int) (i5 : Int) (i6 : Int) (c7 : List PV) {r : Ext × S} (h : Bcloud_Attenuated_0a (Fn env) Rcloud_Attenuated_0 exO Lcloud_Attenuated_0 n0 n1 c2 i3 i4 i5 i6 c7 = some r) : Rcloud_Attenuated_0 (Tcloud_Attenuated_0a n0 n1 c2 i3 i4 i5 i6 c7) = some r :=
  lp_of Ecloud_Attenuated_ok (by kernel_rfl) (lo_cons (lpO_ok Ucloud_Attenuated) lo_nil) (by kernel_rfl) ((Bcloud_Attenuated_0a_eq _ _ _ _ _ _ _ _ _ _ _ _).trans h)
def tcloud_Attenuated (F : FnT) (L0 : Q → Option Ycloud_Attenuated_0) (p0n : Nat) (p0c : List PV) (p1 : Int) : Option (((Nat) × (List PV)) × (Int)) :=
  bindO (F 72 (RSh.tup [(Prod.mk false [(CK.int IntKind.i64)]), (Prod.mk false [(CK.int IntKind.i64)])]) [(PV.list p0n p0c), (PV.int IntKind.i64 (24 : Int)), (PV.fn 73 [])]) fun (y0 : ((Int) × (Int))) =>
  bindO (F 64 (RSh.one (CK.int IntKind.i64)) [(PV.int IntKind.i64 p1)]) fun (y1 : (Int)) =>
  bindO (F 62 (RSh.one (CK.int IntKind.i64)) [(PV.list 2 [(PV.int IntKind.i64 y0.2), (PV.int IntKind.i64 y1)])]) fun (y2 : (Int)) =>
  bif (y2 != (0 : Int)) then
    some ((0, []), y2)
  else bif (decide (((p0n : Int) = (p0n : Int)) ∧ (((0 : Int) ≤ (p0n : Int)) ∧ ((p0n : Int) ≤ (big : Int))))) then
    bindO (L0 (Tcloud_Attenuated_0a (Int.toNat (p0n : Int)) p0n p0c (p0n : Int) (0 : Int) p1 (1 : Int) (rep [(PV.int IntKind.i64 (0 : Int)), (PV.int IntKind.i64 (0 : Int))] (Int.toNat (p0n : Int))))) fun z =>
    Sum.elim (fun y3 =>
      some ((0, []), y3.1)) (fun y4 =>
      bif (decide ((0 + (y4.1 * 2)) ≤ (List.length y4.2.2.2))) then
        some ((y4.1, (List.take (y4.1 * 2) (List.drop 0 y4.2.2.2))), (0 : Int))
      else none) z
  else none
theorem tcloud_Attenuated_eq (F : FnT) (L0 : Q → Option Ycloud_Attenuated_0) (p0n : Nat) (p0c : List PV) (p1 : Int) : semF (callP F Ecloud_Attenuated 20) s24 (loopT [⟨0, Ycloud_Attenuated_0, L0, XLcloud_Attenuated_0⟩]) 400 a24 [PV.list p0n p0c, PV.int IntKind.i64 p1] (fun rv => decR (RSh.tup [(Prod.mk false [CK.list]), (Prod.mk false [(CK.int IntKind.i64)])]) rv.pv) = tcloud_Attenuated F L0 p0n p0c p1 := by kernel_rfl
noncomputable abbrev Fcloud_Attenuated (args : List PV) := Fn env 24 (RSh.tup [(Prod.mk false [CK.list]), (Prod.mk false [(CK.int IntKind.i64)])]) args
theorem Fcloud_Attenuated_of  (p0n : Nat) (p0c : List PV) (p1 : Int) {res : (((Nat) × (List PV)) × (Int))} (h : tcloud_Attenuated (Fn env) Lcloud_Attenuated_0 p0n p0c p1 = some res) : Fcloud_Attenuated [PV.list p0n p0c, PV.int IntKind.i64 p1] = some res :=
  fn_of Ecloud_Attenuated_ok rfl rfl (lo_cons (lpO_ok Ucloud_Attenuated) lo_nil) ((tcloud_Attenuated_eq _ _ _ _ _).trans h)

/-! ### cloud_UndoneIn -/

def Ecloud_UndoneIn : List Entry := [.out 63 (RSh.one (CK.int IntKind.i64)), .out 64 (RSh.one (CK.int IntKind.i64)), .out 71 (RSh.one (CK.int IntKind.i64)), .out 62 (RSh.one (CK.int IntKind.i64)), .out 65 (RSh.one (CK.int IntKind.i64)), .out 66 (RSh.one CK.list)]
theorem Ecloud_UndoneIn_ok : ∀ e ∈ Ecloud_UndoneIn, EntOK env e := (ent_out (ent_out (ent_out (ent_out (ent_out (ent_out ent_nil))))))
def Tcloud_UndoneIn_0a (n0 : Nat) (c1 : List PV) (n2 : Nat) (c3 : List PV) (n4 : Nat) (i5 : Int) (i6 : Int) (i7 : Int) (c8 : List PV) : Q := ⟨(tm 70 [(9, (AV.p (PV.list n0 c1))), (10, (AV.p (PV.list n2 c3))), (11, (AV.msl 50 0 n4 4)), (52, (AV.p (PV.int IntKind.i64 i5))), (53, (AV.p (PV.int IntKind.i64 (0 : Int))))]), (mm 70 [(3, (Bk.pcs true [(PV.int IntKind.i64 i6), (PV.int IntKind.i64 i7)])), (50, (Bk.pcs true c8))])⟩
def Tcloud_UndoneIn_0b (n0 : Nat) (c1 : List PV) (n2 : Nat) (c3 : List PV) (n4 : Nat) (i5 : Int) (i6 : Int) (c7 : List PV) : Q := ⟨(tm 70 [(9, (AV.p (PV.list n0 c1))), (10, (AV.p (PV.list n2 c3))), (11, (AV.msl 50 0 n4 4)), (52, (AV.p (PV.int IntKind.i64 i5))), (53, (AV.p (PV.int IntKind.i64 i6)))]), (mm 70 [(50, (Bk.pcs true c7))])⟩
def Xcloud_UndoneIn_0a (y : Nat × List PV) : Ext × Q := (Ext.normal, ⟨(tm 70 [(11, (AV.msl 50 0 y.1 4))]), (mm 70 [(50, (Bk.pcs true y.2))])⟩)
def Icloud_UndoneIn_0a (q : Ext × S) : Nat × List PV := ((pA_msl2 (avT q.2 11)), (pB_pcs1 (avM q.2 50)))
abbrev Ycloud_UndoneIn_0 : Type := Nat × List PV
def XLcloud_UndoneIn_0 : XL Ycloud_UndoneIn_0 := .one Xcloud_UndoneIn_0a
def Icloud_UndoneIn_0 (q : Ext × S) : Ycloud_UndoneIn_0 := (Icloud_UndoneIn_0a q)
theorem XIcloud_UndoneIn_0a (y : Nat × List PV) : Icloud_UndoneIn_0 (xe (Xcloud_UndoneIn_0a y)) = y := (show Icloud_UndoneIn_0 (xe (Xcloud_UndoneIn_0a y)) = (y.1, ((y.2.map AV.p).map pA_p)) from rfl).trans (by simp only [map_back])
theorem XIcloud_UndoneIn_0 (y : Ycloud_UndoneIn_0) : Icloud_UndoneIn_0 (xe (XLcloud_UndoneIn_0.fn y)) = y := XIcloud_UndoneIn_0a y
noncomputable abbrev Lcloud_UndoneIn_0 : Q → Option Ycloud_UndoneIn_0 := lpO env a23.body 0 XLcloud_UndoneIn_0
noncomputable abbrev Rcloud_UndoneIn_0 : Q → Option (Ext × S) := lpR env a23.body 0
theorem Lcloud_UndoneIn_0a_of {s : Q} {y : Nat × List PV} (h : Rcloud_UndoneIn_0 s = exO (Xcloud_UndoneIn_0a y)) : Lcloud_UndoneIn_0 s = some y := lpO_of Icloud_UndoneIn_0 XIcloud_UndoneIn_0 (y := y) h
theorem Ucloud_UndoneIn : uniq ((blocksOf a23.body).map (·.1)) = true := by kernel_rfl
def Bcloud_UndoneIn_0a (_F : FnT) (N : Q → Option (Ext × S)) (E : Ext × Q → Option (Ext × S)) (_L0 : Q → Option Ycloud_UndoneIn_0) (n0 : Nat) (c1 : List PV) (n2 : Nat) (c3 : List PV) (n4 : Nat) (i5 : Int) (_i6 : Int) (_i7 : Int) (c8 : List PV) : Option (Ext × S) :=
  bif (decide ((0 : Int) < i5)) then
    bif (decide (((0 : Int) ≤ (0 : Int)) ∧ ((0 : Int) < (n0 : Int)))) then
      bindO (intC IntKind.i64 (c1[0]?)) fun x0 =>
      bindO (intC IntKind.i64 (c1[1]?)) fun x1 =>
      bif (decide (((0 : Int) ≤ (0 : Int)) ∧ ((0 : Int) < (n2 : Int)))) then
        bindO (intC IntKind.i64 (c3[0]?)) fun x2 =>
        bindO (intC IntKind.i64 (c3[1]?)) fun x3 =>
        bif (decide (((0 : Int) ≤ (0 : Int)) ∧ ((0 : Int) < (n4 : Int)))) then
          bindO (Gv.overO c8 0 [(PV.int IntKind.i64 x0), (PV.int IntKind.i64 x1), (PV.int IntKind.i64 x2), (PV.int IntKind.i64 x3)]) fun x4 =>
          N (Tcloud_UndoneIn_0b n0 c1 n2 c3 n4 i5 (1 : Int) x4)
        else none
      else none
    else none
  else E (Xcloud_UndoneIn_0a (n4, c8))
theorem Bcloud_UndoneIn_0a_eq (F : FnT) (N : Q → Option (Ext × S)) (E : Ext × Q → Option (Ext × S)) (L0 : Q → Option Ycloud_UndoneIn_0) (n0 : Nat) (c1 : List PV) (n2 : Nat) (c3 : List PV) (n4 : Nat) (i5 : Int) (i6 : Int) (i7 : Int) (c8 : List PV) : semB (callP F Ecloud_UndoneIn 20) s23 (loopT [⟨0, Ycloud_UndoneIn_0, L0, XLcloud_UndoneIn_0⟩]) 400 (blkIn a23.body 0) N E (Tcloud_UndoneIn_0a n0 c1 n2 c3 n4 i5 i6 i7 c8) = Bcloud_UndoneIn_0a F N E L0 n0 c1 n2 c3 n4 i5 i6 i7 c8 := by kernel_rfl
theorem Rcloud_UndoneIn_0a_of  (n0 : Nat) (c1 : List PV) (n2 : Nat) (c3 : List PV) (n4 : Nat) (i5 : Int) (i6 : Int) (i7 : Int) (c8 : List PV) {r : Ext × S} (h : Bcloud_UndoneIn_0a (Fn env) Rcloud_UndoneIn_0 exO Lcloud_UndoneIn_0 n0 c1 n2 c3 n4 i5 i6 i7 c8 = some r) : Rcloud_UndoneIn_0 (Tcloud_UndoneIn_0a n0 c1 n2 c3 n4 i5 i6 i7 c8) = some r :=
  lp_of Ecloud_UndoneIn_ok (by kernel_rfl) (lo_cons (lpO_ok Ucloud_UndoneIn) lo_nil) (by kernel_rfl) ((Bcloud_UndoneIn_0a_eq _ _ _ _ _ _ _ _ _ _ _ _ _).trans h)
def Bcloud_UndoneIn_0b (_F : FnT) (N : Q → Option (Ext × S)) (E : Ext × Q → Option (Ext × S)) (_L0 : Q → Option Ycloud_UndoneIn_0) (n0 : Nat) (c1 : List PV) (n2 : Nat) (c3 : List PV) (n4 : Nat) (i5 : Int) (i6 : Int) (c7 : List PV) : Option (Ext × S) :=
  bif (decide (i6 < i5)) then
    bif (decide (((0 : Int) ≤ i6) ∧ (i6 < (n0 : Int)))) then
      bindO (intC IntKind.i64 (c1[((Int.toNat i6) * 2)]?)) fun x0 =>
      bindO (intC IntKind.i64 (c1[(((Int.toNat i6) * 2) + 1)]?)) fun x1 =>
      bif (decide (((0 : Int) ≤ i6) ∧ (i6 < (n2 : Int)))) then
        bindO (intC IntKind.i64 (c3[((Int.toNat i6) * 2)]?)) fun x2 =>
        bindO (intC IntKind.i64 (c3[(((Int.toNat i6) * 2) + 1)]?)) fun x3 =>
        bif (decide (((0 : Int) ≤ i6) ∧ (i6 < (n4 : Int)))) then
          bindO (Gv.overO c7 (0 + ((Int.toNat i6) * 4)) [(PV.int IntKind.i64 x0), (PV.int IntKind.i64 x1), (PV.int IntKind.i64 x2), (PV.int IntKind.i64 x3)]) fun x4 =>
          N (Tcloud_UndoneIn_0b n0 c1 n2 c3 n4 i5 (w64 (i6 + (1 : Int))) x4)
        else none
      else none
    else none
  else E (Xcloud_UndoneIn_0a (n4, c7))
theorem Bcloud_UndoneIn_0b_eq (F : FnT) (N : Q → Option (Ext × S)) (E : Ext × Q → Option (Ext × S)) (L0 : Q → Option Ycloud_UndoneIn_0) (n0 : Nat) (c1 : List PV) (n2 : Nat) (c3 : List PV) (n4 : Nat) (i5 : Int) (i6 : Int) (c7 : List PV) : semB (callP F Ecloud_UndoneIn 20) s23 (loopT [⟨0, Ycloud_UndoneIn_0, L0, XLcloud_UndoneIn_0⟩]) 400 (blkIn a23.body 0) N E (Tcloud_UndoneIn_0b n0 c1 n2 c3 n4 i5 i6 c7) = Bcloud_UndoneIn_0b F N E L0 n0 c1 n2 c3 n4 i5 i6 c7 := by kernel_rfl
theorem Rcloud_UndoneIn_0b_of  (n0 : Nat) (c1 : List PV) (n2 : Nat) (c3 : List PV) (n4 : Nat) (i5 : Int) (i6 : Int) (c7 : List PV) {r : Ext × S} (h : Bcloud_UndoneIn_0b (Fn env) Rcloud_UndoneIn_0 exO Lcloud_UndoneIn_0 n0 c1 n2 c3 n4 i5 i6 c7 = some r) : Rcloud_UndoneIn_0 (Tcloud_UndoneIn_0b n0 c1 n2 c3 n4 i5 i6 c7) = some r :=
  lp_of Ecloud_UndoneIn_ok (by kernel_rfl) (lo_cons (lpO_ok Ucloud_UndoneIn) lo_nil) (by kernel_rfl) ((Bcloud_UndoneIn_0b_eq _ _ _ _ _ _ _ _ _ _ _ _).trans h)
def tcloud_UndoneIn (F : FnT) (L0 : Q → Option Ycloud_UndoneIn_0) (p0n : Nat) (p0c : List PV) (p1_0 : Int) (p1_1 : Int) : Option (((Nat) × (List PV)) × (Int)) :=
  bindO (F 63 (RSh.one (CK.int IntKind.i64)) [(PV.list p0n p0c)]) fun (y0 : (Int)) =>
  bindO (F 64 (RSh.one (CK.int IntKind.i64)) [(PV.int IntKind.i64 p1_0)]) fun (y1 : (Int)) =>
  bindO (F 64 (RSh.one (CK.int IntKind.i64)) [(PV.int IntKind.i64 p1_1)]) fun (y2 : (Int)) =>
  bif (decide (p1_0 > p1_1)) then
    bindO (F 71 (RSh.one (CK.int IntKind.i64)) [(PV.bool true), (PV.int IntKind.i64 (9 : Int))]) fun (y3 : (Int)) =>
    bindO (F 62 (RSh.one (CK.int IntKind.i64)) [(PV.list 4 [(PV.int IntKind.i64 y0), (PV.int IntKind.i64 y1), (PV.int IntKind.i64 y2), (PV.int IntKind.i64 y3)])]) fun (y4 : (Int)) =>
    bif (y4 != (0 : Int)) then
      some ((0, []), y4)
    else bindO (F 65 (RSh.one (CK.int IntKind.i64)) [(PV.list p0n p0c), (PV.int IntKind.i64 p1_0)]) fun (y5 : (Int)) =>
    bif (y5 != (0 : Int)) then
      some ((0, []), y5)
    else bindO (F 66 (RSh.one CK.list) [(PV.list p0n p0c), (PV.int IntKind.i64 p1_1)]) fun (y6 : ((Nat) × (List PV))) =>
    bindO (F 66 (RSh.one CK.list) [(PV.list p0n p0c), (PV.int IntKind.i64 p1_0)]) fun (y7 : ((Nat) × (List PV))) =>
    bif (decide (((p0n : Int) = (p0n : Int)) ∧ (((0 : Int) ≤ (p0n : Int)) ∧ ((p0n : Int) ≤ (big : Int))))) then
      bindO (L0 (Tcloud_UndoneIn_0a y6.1 y6.2 y7.1 y7.2 (Int.toNat (p0n : Int)) ((Int.toNat (p0n : Int)) : Int) p1_0 p1_1 (rep [(PV.int IntKind.i64 (0 : Int)), (PV.int IntKind.i64 (0 : Int)), (PV.int IntKind.i64 (0 : Int)), (PV.int IntKind.i64 (0 : Int))] (Int.toNat (p0n : Int))))) fun y8 =>
      bif (decide ((0 + (y8.1 * 4)) ≤ (List.length y8.2))) then
        some ((y8.1, (List.take (y8.1 * 4) (List.drop 0 y8.2))), (0 : Int))
      else none
    else none
  else bindO (F 71 (RSh.one (CK.int IntKind.i64)) [(PV.bool false), (PV.int IntKind.i64 (9 : Int))]) fun (y9 : (Int)) =>
  bindO (F 62 (RSh.one (CK.int IntKind.i64)) [(PV.list 4 [(PV.int IntKind.i64 y0), (PV.int IntKind.i64 y1), (PV.int IntKind.i64 y2), (PV.int IntKind.i64 y9)])]) fun (y10 : (Int)) =>
  bif (y10 != (0 : Int)) then
    some ((0, []), y10)
  else bindO (F 65 (RSh.one (CK.int IntKind.i64)) [(PV.list p0n p0c), (PV.int IntKind.i64 p1_0)]) fun (y11 : (Int)) =>
  bif (y11 != (0 : Int)) then
    some ((0, []), y11)
  else bindO (F 66 (RSh.one CK.list) [(PV.list p0n p0c), (PV.int IntKind.i64 p1_1)]) fun (y12 : ((Nat) × (List PV))) =>
  bindO (F 66 (RSh.one CK.list) [(PV.list p0n p0c), (PV.int IntKind.i64 p1_0)]) fun (y13 : ((Nat) × (List PV))) =>
  bif (decide (((p0n : Int) = (p0n : Int)) ∧ (((0 : Int) ≤ (p0n : Int)) ∧ ((p0n : Int) ≤ (big : Int))))) then
    bindO (L0 (Tcloud_UndoneIn_0a y12.1 y12.2 y13.1 y13.2 (Int.toNat (p0n : Int)) ((Int.toNat (p0n : Int)) : Int) p1_0 p1_1 (rep [(PV.int IntKind.i64 (0 : Int)), (PV.int IntKind.i64 (0 : Int)), (PV.int IntKind.i64 (0 : Int)), (PV.int IntKind.i64 (0 : Int))] (Int.toNat (p0n : Int))))) fun y14 =>
    bif (decide ((0 + (y14.1 * 4)) ≤ (List.length y14.2))) then
      some ((y14.1, (List.take (y14.1 * 4) (List.drop 0 y14.2))), (0 : Int))
    else none
  else none
theorem tcloud_UndoneIn_eq (F : FnT) (L0 : Q → Option Ycloud_UndoneIn_0) (p0n : Nat) (p0c : List PV) (p1_0 : Int) (p1_1 : Int) : semF (callP F Ecloud_UndoneIn 20) s23 (loopT [⟨0, Ycloud_UndoneIn_0, L0, XLcloud_UndoneIn_0⟩]) 400 a23 [PV.list p0n p0c, PV.agg [PV.int IntKind.i64 p1_0, PV.int IntKind.i64 p1_1]] (fun rv => decR (RSh.tup [(Prod.mk false [CK.list]), (Prod.mk false [(CK.int IntKind.i64)])]) rv.pv) = tcloud_UndoneIn F L0 p0n p0c p1_0 p1_1 := by kernel_rfl
noncomputable abbrev Fcloud_UndoneIn (args : List PV) := Fn env 23 (RSh.tup [(Prod.mk false [CK.list]), (Prod.mk false [(CK.int IntKind.i64)])]) args
theorem Fcloud_UndoneIn_of  (p0n : Nat) (p0c : List PV) (p1_0 : Int) (p1_1 : Int) {res : (((Nat) × (List PV)) × (Int))} (h : tcloud_UndoneIn (Fn env) Lcloud_UndoneIn_0 p0n p0c p1_0 p1_1 = some res) : Fcloud_UndoneIn [PV.list p0n p0c, PV.agg [PV.int IntKind.i64 p1_0, PV.int IntKind.i64 p1_1]] = some res :=
  fn_of Ecloud_UndoneIn_ok rfl rfl (lo_cons (lpO_ok Ucloud_UndoneIn) lo_nil) ((tcloud_UndoneIn_eq _ _ _ _ _ _).trans h)

/-! ### b_IsLowest -/

def Eb_IsLowest : List Entry := [.out 114 (RSh.one (CK.int IntKind.i64))]
theorem Eb_IsLowest_ok : ∀ e ∈ Eb_IsLowest, EntOK env e := (ent_out ent_nil)
theorem Ub_IsLowest : uniq ((blocksOf a82.body).map (·.1)) = true := by kernel_rfl
def tb_IsLowest (F : FnT) (p0_0 : Int) (p0_1 : Int) : Option (Bool) :=
  bif (decide (p0_1 > (0 : Int))) then
    bindO (F 114 (RSh.one (CK.int IntKind.i64)) [(PV.int IntKind.i64 p0_0), (PV.int IntKind.i64 p0_1)]) fun (y0 : (Int)) =>
    bif (y0 == (1 : Int)) then
      some true
    else some false
  else some false
theorem tb_IsLowest_eq (F : FnT) (p0_0 : Int) (p0_1 : Int) : semF (callP F Eb_IsLowest 20) s82 (loopT []) 400 a82 [PV.agg [PV.int IntKind.i64 p0_0, PV.int IntKind.i64 p0_1]] (fun rv => decR (RSh.one CK.bool) rv.pv) = tb_IsLowest F p0_0 p0_1 := by kernel_rfl
noncomputable abbrev Fb_IsLowest (args : List PV) := Fn env 82 (RSh.one CK.bool) args
theorem Fb_IsLowest_of  (p0_0 : Int) (p0_1 : Int) {res : (Bool)} (h : tb_IsLowest (Fn env) p0_0 p0_1 = some res) : Fb_IsLowest [PV.agg [PV.int IntKind.i64 p0_0, PV.int IntKind.i64 p0_1]] = some res :=
  fn_of Eb_IsLowest_ok rfl rfl lo_nil ((tb_IsLowest_eq _ _ _).trans h)

/-! ### r8_PartErr -/

def Er8_PartErr : List Entry := [.out 82 (RSh.one CK.bool), .out 31 (RSh.one CK.bool)]
theorem Er8_PartErr_ok : ∀ e ∈ Er8_PartErr, EntOK env e := (ent_out (ent_out ent_nil))
theorem Ur8_PartErr : uniq ((blocksOf a32.body).map (·.1)) = true := by kernel_rfl
def tr8_PartErr (F : FnT) (p0_0 : Int) (p0_1 : Int) : Option (Int) :=
  bindO (F 82 (RSh.one CK.bool) [(PV.agg [(PV.int IntKind.i64 p0_0), (PV.int IntKind.i64 p0_1)])]) fun (y0 : (Bool)) =>
  bif y0 then
    bindO (F 31 (RSh.one CK.bool) [(PV.int IntKind.i64 p0_0), (PV.int IntKind.i64 (0 : Int)), (PV.int IntKind.i64 p0_1)]) fun (y1 : (Bool)) =>
    bif y1 then
      bif (decide (p0_1 > (1000000000 : Int))) then
        some (2 : Int)
      else some (0 : Int)
    else some (2 : Int)
  else some (3 : Int)
theorem tr8_PartErr_eq (F : FnT) (p0_0 : Int) (p0_1 : Int) : semF (callP F Er8_PartErr 20) s32 (loopT []) 400 a32 [PV.agg [PV.int IntKind.i64 p0_0, PV.int IntKind.i64 p0_1]] (fun rv => decR (RSh.one (CK.int IntKind.i64)) rv.pv) = tr8_PartErr F p0_0 p0_1 := by kernel_rfl
noncomputable abbrev Fr8_PartErr (args : List PV) := Fn env 32 (RSh.one (CK.int IntKind.i64)) args
theorem Fr8_PartErr_of  (p0_0 : Int) (p0_1 : Int) {res : (Int)} (h : tr8_PartErr (Fn env) p0_0 p0_1 = some res) : Fr8_PartErr [PV.agg [PV.int IntKind.i64 p0_0, PV.int IntKind.i64 p0_1]] = some res :=
  fn_of Er8_PartErr_ok rfl rfl lo_nil ((tr8_PartErr_eq _ _ _).trans h)

/-! ### b_Cmp -/

def Eb_Cmp : List Entry := []
theorem Eb_Cmp_ok : ∀ e ∈ Eb_Cmp, EntOK env e := ent_nil
theorem Ub_Cmp : uniq ((blocksOf a33.body).map (·.1)) = true := by kernel_rfl
def tb_Cmp (_F : FnT) (p0_0 : Int) (p0_1 : Int) (p1_0 : Int) (p1_1 : Int) : Option (Int) :=
  bif (decide ((w64 (p0_0 * p1_1)) < (w64 (p1_0 * p0_1)))) then
    some (-1 : Int)
  else bif (decide ((w64 (p0_0 * p1_1)) > (w64 (p1_0 * p0_1)))) then
    some (1 : Int)
  else some (0 : Int)
theorem tb_Cmp_eq (F : FnT) (p0_0 : Int) (p0_1 : Int) (p1_0 : Int) (p1_1 : Int) : semF (callP F Eb_Cmp 20) s33 (loopT []) 400 a33 [PV.agg [PV.int IntKind.i64 p0_0, PV.int IntKind.i64 p0_1], PV.agg [PV.int IntKind.i64 p1_0, PV.int IntKind.i64 p1_1]] (fun rv => decR (RSh.one (CK.int IntKind.i64)) rv.pv) = tb_Cmp F p0_0 p0_1 p1_0 p1_1 := by kernel_rfl
noncomputable abbrev Fb_Cmp (args : List PV) := Fn env 33 (RSh.one (CK.int IntKind.i64)) args
theorem Fb_Cmp_of  (p0_0 : Int) (p0_1 : Int) (p1_0 : Int) (p1_1 : Int) {res : (Int)} (h : tb_Cmp (Fn env) p0_0 p0_1 p1_0 p1_1 = some res) : Fb_Cmp [PV.agg [PV.int IntKind.i64 p0_0, PV.int IntKind.i64 p0_1], PV.agg [PV.int IntKind.i64 p1_0, PV.int IntKind.i64 p1_1]] = some res :=
  fn_of Eb_Cmp_ok rfl rfl lo_nil ((tb_Cmp_eq _ _ _ _ _).trans h)

/-! ### b_Whole -/

def Eb_Whole : List Entry := []
theorem Eb_Whole_ok : ∀ e ∈ Eb_Whole, EntOK env e := ent_nil
theorem Ub_Whole : uniq ((blocksOf a34.body).map (·.1)) = true := by kernel_rfl
def tb_Whole (_F : FnT) (p0 : Int) : Option ((Int) × (Int)) :=
  some (p0, (1 : Int))
theorem tb_Whole_eq (F : FnT) (p0 : Int) : semF (callP F Eb_Whole 20) s34 (loopT []) 400 a34 [PV.int IntKind.i64 p0] (fun rv => decR (RSh.agg [(CK.int IntKind.i64), (CK.int IntKind.i64)]) rv.pv) = tb_Whole F p0 := by kernel_rfl
noncomputable abbrev Fb_Whole (args : List PV) := Fn env 34 (RSh.agg [(CK.int IntKind.i64), (CK.int IntKind.i64)]) args
theorem Fb_Whole_of  (p0 : Int) {res : ((Int) × (Int))} (h : tb_Whole (Fn env) p0 = some res) : Fb_Whole [PV.int IntKind.i64 p0] = some res :=
  fn_of Eb_Whole_ok rfl rfl lo_nil ((tb_Whole_eq _ _).trans h)

/-! ### b_CopyFracs -/

def Eb_CopyFracs : List Entry := []
theorem Eb_CopyFracs_ok : ∀ e ∈ Eb_CopyFracs, EntOK env e := ent_nil
theorem Ub_CopyFracs : uniq ((blocksOf a25.body).map (·.1)) = true := by kernel_rfl
def tb_CopyFracs (_F : FnT) (p0n : Nat) (p0c : List PV) : Option ((Nat) × (List PV)) :=
  bif (decide (p0n = 0)) then
    some (0, [])
  else bif (decide ((List.length p0c) = (p0n * 2))) then
    bif (decide ((0 = 0) ∧ ((0 + p0n) ≤ big))) then
      bif (decide ((0 + p0n) = (0 + p0n))) then
        some ((0 + p0n), ([] ++ p0c))
      else none
    else none
  else none
theorem tb_CopyFracs_eq (F : FnT) (p0n : Nat) (p0c : List PV) : semF (callP F Eb_CopyFracs 20) s25 (loopT []) 400 a25 [PV.list p0n p0c] (fun rv => decR (RSh.one CK.list) rv.pv) = tb_CopyFracs F p0n p0c := by kernel_rfl
noncomputable abbrev Fb_CopyFracs (args : List PV) := Fn env 25 (RSh.one CK.list) args
theorem Fb_CopyFracs_of  (p0n : Nat) (p0c : List PV) {res : ((Nat) × (List PV))} (h : tb_CopyFracs (Fn env) p0n p0c = some res) : Fb_CopyFracs [PV.list p0n p0c] = some res :=
  fn_of Eb_CopyFracs_ok rfl rfl lo_nil ((tb_CopyFracs_eq _ _ _).trans h)

end Gv
