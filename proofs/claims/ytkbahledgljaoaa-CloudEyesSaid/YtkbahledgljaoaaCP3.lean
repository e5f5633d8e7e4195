/- What the functions do, round by round: CP3. -/
import Derived.Test.YtkbahledgljaoaaCP1
namespace Gv
open Go
set_option maxRecDepth 100000

/-! ### cloud_firstError_4 -/

def Ecloud_firstError_4 : List Entry := []
theorem Ecloud_firstError_4_ok : ∀ e ∈ Ecloud_firstError_4, EntOK env e := ent_nil
theorem Ucloud_firstError_4 : uniq ((blocksOf a54.body).map (·.1)) = true := by kernel_rfl
def tcloud_firstError_4 (F : FnT)(e0 e1 e2 e3 : Int) : Option (Int) :=
  bif (e0 != (0 : Int)) then
    some e0
  else bif (e1 != (0 : Int)) then
    some e1
  else bif (e2 != (0 : Int)) then
    some e2
  else bif (e3 != (0 : Int)) then
    some e3
  else some (0 : Int)
theorem tcloud_firstError_4_eq (F : FnT)(e0 e1 e2 e3 : Int) : semF (callP F Ecloud_firstError_4 20) s54 (loopT []) 400 a54 [.list 4 [.int .i64 e0, .int .i64 e1, .int .i64 e2, .int .i64 e3]] (fun rv => decR (RSh.one (CK.int IntKind.i64)) rv.pv) = tcloud_firstError_4 F e0 e1 e2 e3 := by kernel_rfl
noncomputable abbrev Fcloud_firstError_4 (args : List PV) := Fn env 54 (RSh.one (CK.int IntKind.i64)) args
theorem Fcloud_firstError_4_of (e0 e1 e2 e3 : Int) {res : (Int)} (h : tcloud_firstError_4 (Fn env) e0 e1 e2 e3 = some res) : Fcloud_firstError_4 [.list 4 [.int .i64 e0, .int .i64 e1, .int .i64 e2, .int .i64 e3]] = some res :=
  fn_of Ecloud_firstError_4_ok rfl rfl lo_nil ((tcloud_firstError_4_eq _ _ _ _ _).trans h)

/-! ### cloud_CheckLayers_1 -/

def Ecloud_CheckLayers_1 : List Entry := [.out 56 (RSh.one (CK.int IntKind.i64)), .out 62 (RSh.one (CK.int IntKind.i64)), .out 54 (RSh.one (CK.int IntKind.i64))]
theorem Ecloud_CheckLayers_1_ok : ∀ e ∈ Ecloud_CheckLayers_1, EntOK env e := (ent_out (ent_out (ent_out ent_nil)))
theorem Ucloud_CheckLayers_1 : uniq ((blocksOf a74.body).map (·.1)) = true := by kernel_rfl
def tcloud_CheckLayers_1 (F : FnT)(n : Nat) (cs : List PV) (a b c : Int) : Option (Int) :=
  bindO (F 56 (RSh.one (CK.int IntKind.i64)) [(PV.int IntKind.i64 a), (PV.int IntKind.i64 (0 : Int)), (PV.int IntKind.i64 (20000 : Int))]) fun (y0 : (Int)) =>
  bindO (F 56 (RSh.one (CK.int IntKind.i64)) [(PV.int IntKind.i64 b), (PV.int IntKind.i64 (0 : Int)), (PV.int IntKind.i64 (20000 : Int))]) fun (y1 : (Int)) =>
  bindO (F 56 (RSh.one (CK.int IntKind.i64)) [(PV.int IntKind.i64 c), (PV.int IntKind.i64 (0 : Int)), (PV.int IntKind.i64 (8 : Int))]) fun (y2 : (Int)) =>
  bif (decide (a ≥ b)) then
    bindO (F 62 (RSh.one (CK.int IntKind.i64)) [(PV.bool true), (PV.int IntKind.i64 (9 : Int))]) fun (y3 : (Int)) =>
    bindO (F 54 (RSh.one (CK.int IntKind.i64)) [(PV.list 4 [(PV.int IntKind.i64 y0), (PV.int IntKind.i64 y1), (PV.int IntKind.i64 y2), (PV.int IntKind.i64 y3)])]) fun (y4 : (Int)) =>
    some y4
  else bindO (F 62 (RSh.one (CK.int IntKind.i64)) [(PV.bool false), (PV.int IntKind.i64 (9 : Int))]) fun (y5 : (Int)) =>
  bindO (F 54 (RSh.one (CK.int IntKind.i64)) [(PV.list 4 [(PV.int IntKind.i64 y0), (PV.int IntKind.i64 y1), (PV.int IntKind.i64 y2), (PV.int IntKind.i64 y5)])]) fun (y6 : (Int)) =>
  some y6
theorem tcloud_CheckLayers_1_eq (F : FnT)(n : Nat) (cs : List PV) (a b c : Int) : semF (callP F Ecloud_CheckLayers_1 20) s74 (loopT []) 400 a74 [.list n cs, .agg [.int .i64 a, .int .i64 b, .int .i64 c]] (fun rv => decR (RSh.one (CK.int IntKind.i64)) rv.pv) = tcloud_CheckLayers_1 F n cs a b c := by kernel_rfl
noncomputable abbrev Fcloud_CheckLayers_1 (args : List PV) := Fn env 74 (RSh.one (CK.int IntKind.i64)) args
theorem Fcloud_CheckLayers_1_of (n : Nat) (cs : List PV) (a b c : Int) {res : (Int)} (h : tcloud_CheckLayers_1 (Fn env) n cs a b c = some res) : Fcloud_CheckLayers_1 [.list n cs, .agg [.int .i64 a, .int .i64 b, .int .i64 c]] = some res :=
  fn_of Ecloud_CheckLayers_1_ok rfl rfl lo_nil ((tcloud_CheckLayers_1_eq _ _ _ _ _ _).trans h)

/-! ### cloud_itemError_layers -/

def Ecloud_itemError_layers : List Entry := [.out 74 (RSh.one (CK.int IntKind.i64))]
theorem Ecloud_itemError_layers_ok : ∀ e ∈ Ecloud_itemError_layers, EntOK env e := (ent_out ent_nil)
def Tcloud_itemError_layers_0a (n0 : Nat) (c1 : List PV) (n2 : Nat) (c3 : List PV) (i4 : Int) (i5 : Int) : Q := ⟨(tm 27 [(0, (AV.p (PV.list n0 c1))), (1, (AV.p (PV.fn 74 []))), (9, (AV.p (PV.list n2 c3))), (10, (AV.p (PV.int IntKind.i64 i4))), (11, (AV.p (PV.int IntKind.i64 i5)))]), (mm 27 [])⟩
def Xcloud_itemError_layers_0a (y : Int × Int) : Ext × Q := (Ext.ret, ⟨(tm 27 [(4, (AV.p (PV.int IntKind.i64 y.1))), (5, (AV.p (PV.int IntKind.i64 y.2)))]), (mm 27 [])⟩)
def Icloud_itemError_layers_0a (q : Ext × S) : Int × Int := ((pP_int1 (pA_p (avT q.2 4))), (pP_int1 (pA_p (avT q.2 5))))
def Xcloud_itemError_layers_0b (y : Unit) : Ext × Q := (Ext.normal, ⟨(tm 27 []), (mm 27 [])⟩)
def Icloud_itemError_layers_0b (q : Ext × S) : Unit := ()
abbrev Ycloud_itemError_layers_0 : Type := (Int × Int) ⊕ ((Unit))
def XLcloud_itemError_layers_0 : XL Ycloud_itemError_layers_0 := .more Xcloud_itemError_layers_0a (.one Xcloud_itemError_layers_0b)
def Icloud_itemError_layers_0 (q : Ext × S) : Ycloud_itemError_layers_0 := bif (cE q.1 == 2) then (Sum.inl (Icloud_itemError_layers_0a q)) else (Sum.inr (Icloud_itemError_layers_0b q))
theorem XIcloud_itemError_layers_0a (y : Int × Int) : Icloud_itemError_layers_0 (xe (Xcloud_itemError_layers_0a y)) = (Sum.inl y) := rfl
theorem XIcloud_itemError_layers_0b (y : Unit) : Icloud_itemError_layers_0 (xe (Xcloud_itemError_layers_0b y)) = (Sum.inr y) := rfl
theorem XIcloud_itemError_layers_0 (y : Ycloud_itemError_layers_0) : Icloud_itemError_layers_0 (xe (XLcloud_itemError_layers_0.fn y)) = y := (match y with | .inl y => XIcloud_itemError_layers_0a y | .inr y => XIcloud_itemError_layers_0b y)
noncomputable abbrev Lcloud_itemError_layers_0 : Q → Option Ycloud_itemError_layers_0 := lpO env a101.body 0 XLcloud_itemError_layers_0
noncomputable abbrev Rcloud_itemError_layers_0 : Q → Option (Ext × S) := lpR env a101.body 0
theorem Lcloud_itemError_layers_0a_of {s : Q} {y : Int × Int} (h : Rcloud_itemError_layers_0 s = exO (Xcloud_itemError_layers_0a y)) : Lcloud_itemError_layers_0 s = some (Sum.inl y) := lpO_of Icloud_itemError_layers_0 XIcloud_itemError_layers_0 (y := (Sum.inl y)) h
theorem Lcloud_itemError_layers_0b_of {s : Q} {y : Unit} (h : Rcloud_itemError_layers_0 s = exO (Xcloud_itemError_layers_0b y)) : Lcloud_itemError_layers_0 s = some (Sum.inr y) := lpO_of Icloud_itemError_layers_0 XIcloud_itemError_layers_0 (y := (Sum.inr y)) h
theorem Ucloud_itemError_layers : uniq ((blocksOf a101.body).map (·.1)) = true := by kernel_rfl
def Bcloud_itemError_layers_0a (F : FnT) (N : Q → Option (Ext × S)) (E : Ext × Q → Option (Ext × S)) (L0 : Q → Option Ycloud_itemError_layers_0) (n0 : Nat) (c1 : List PV) (n2 : Nat) (c3 : List PV) (i4 : Int) (i5 : Int) : Option (Ext × S) :=
  bif (decide (i5 < i4)) then
    bif (decide (((0 : Int) ≤ i5) ∧ (i5 < (n2 : Int)))) then
      bindO (intC IntKind.i64 (c3[((Int.toNat i5) * 3)]?)) fun x0 =>
      bindO (intC IntKind.i64 (c3[(((Int.toNat i5) * 3) + 1)]?)) fun x1 =>
      bindO (intC IntKind.i64 (c3[((((Int.toNat i5) * 3) + 1) + 1)]?)) fun x2 =>
      bif (decide (((0 : Int) ≤ i5) ∧ (i5 ≤ ((Prod.mk n0 c1).1 : Int)))) then
        bif (decide ((0 = (Int.toNat i5)) ∨ (((0 * 3) + (((Int.toNat i5) - 0) * 3)) ≤ (List.length c1)))) then
          bindO (F 74 (RSh.one (CK.int IntKind.i64)) [(PV.list ((Int.toNat i5) - 0) (List.take (((Int.toNat i5) - 0) * 3) (List.drop 0 c1))), (PV.agg [(PV.int IntKind.i64 x0), (PV.int IntKind.i64 x1), (PV.int IntKind.i64 x2)])]) fun (y3 : (Int)) =>
          bif (y3 != (0 : Int)) then
            E (Xcloud_itemError_layers_0a (i5, y3))
          else N (Tcloud_itemError_layers_0a n0 c1 n2 c3 i4 (w64 (i5 + (1 : Int))))
        else none
      else none
    else none
  else E (Xcloud_itemError_layers_0b ())
theorem Bcloud_itemError_layers_0a_eq (F : FnT) (N : Q → Option (Ext × S)) (E : Ext × Q → Option (Ext × S)) (L0 : Q → Option Ycloud_itemError_layers_0) (n0 : Nat) (c1 : List PV) (n2 : Nat) (c3 : List PV) (i4 : Int) (i5 : Int) : semB (callP F Ecloud_itemError_layers 20) s101 (loopT [⟨0, Ycloud_itemError_layers_0, L0, XLcloud_itemError_layers_0⟩]) 400 (blkIn a101.body 0) N E (Tcloud_itemError_layers_0a n0 c1 n2 c3 i4 i5) = Bcloud_itemError_layers_0a F N E L0 n0 c1 n2 c3 i4 i5 := by kernel_rfl
theorem Rcloud_itemError_layers_0a_of  (n0 : Nat) (c1 : List PV) (n2 : Nat) (c3 : List PV) (i4 : Int) (i5 : Int) {r : Ext × S} (h : Bcloud_itemError_layers_0a (Fn env) Rcloud_itemError_layers_0 exO Lcloud_itemError_layers_0 n0 c1 n2 c3 i4 i5 = some r) : Rcloud_itemError_layers_0 (Tcloud_itemError_layers_0a n0 c1 n2 c3 i4 i5) = some r :=
  lp_of Ecloud_itemError_layers_ok (by kernel_rfl) (lo_cons (lpO_ok Ucloud_itemError_layers) lo_nil) (by kernel_rfl) ((Bcloud_itemError_layers_0a_eq _ _ _ _ _ _ _ _ _ _).trans h)
def tcloud_itemError_layers (F : FnT) (L0 : Q → Option Ycloud_itemError_layers_0)(n : Nat) (cs : List PV) : Option ((Int) × (Int)) :=
  bindO (L0 (Tcloud_itemError_layers_0a n cs n cs (n : Int) (0 : Int))) fun z =>
  Sum.elim (fun y0 =>
    some (y0.1, y0.2)) (fun y1 =>
    some ((0 : Int), (0 : Int))) z
theorem tcloud_itemError_layers_eq (F : FnT) (L0 : Q → Option Ycloud_itemError_layers_0)(n : Nat) (cs : List PV) : semF (callP F Ecloud_itemError_layers 20) s101 (loopT [⟨0, Ycloud_itemError_layers_0, L0, XLcloud_itemError_layers_0⟩]) 400 a101 [.list n cs, .fn 74 []] (fun rv => decR (RSh.tup [(Prod.mk false [(CK.int IntKind.i64)]), (Prod.mk false [(CK.int IntKind.i64)])]) rv.pv) = tcloud_itemError_layers F L0 n cs := by kernel_rfl
noncomputable abbrev Fcloud_itemError_layers (args : List PV) := Fn env 101 (RSh.tup [(Prod.mk false [(CK.int IntKind.i64)]), (Prod.mk false [(CK.int IntKind.i64)])]) args
theorem Fcloud_itemError_layers_of (n : Nat) (cs : List PV) {res : ((Int) × (Int))} (h : tcloud_itemError_layers (Fn env) Lcloud_itemError_layers_0 n cs = some res) : Fcloud_itemError_layers [.list n cs, .fn 74 []] = some res :=
  fn_of Ecloud_itemError_layers_ok rfl rfl (lo_cons (lpO_ok Ucloud_itemError_layers) lo_nil) ((tcloud_itemError_layers_eq _ _ _ _).trans h)

/-! ### cloud_listError_layers -/

def Ecloud_listError_layers : List Entry := [.out 101 (RSh.tup [(Prod.mk false [(CK.int IntKind.i64)]), (Prod.mk false [(CK.int IntKind.i64)])])]
theorem Ecloud_listError_layers_ok : ∀ e ∈ Ecloud_listError_layers, EntOK env e := (ent_out ent_nil)
theorem Ucloud_listError_layers : uniq ((blocksOf a73.body).map (·.1)) = true := by kernel_rfl
def tcloud_listError_layers (F : FnT)(n : Nat) (cs : List PV) (m : Int) : Option ((Int) × (Int)) :=
  bif (decide ((n : Int) > m)) then
    some ((0 : Int), (8 : Int))
  else bindO (F 101 (RSh.tup [(Prod.mk false [(CK.int IntKind.i64)]), (Prod.mk false [(CK.int IntKind.i64)])]) [(PV.list n cs), (PV.fn 74 [])]) fun (y0 : ((Int) × (Int))) =>
  some (y0.1, y0.2)
theorem tcloud_listError_layers_eq (F : FnT)(n : Nat) (cs : List PV) (m : Int) : semF (callP F Ecloud_listError_layers 20) s73 (loopT []) 400 a73 [.list n cs, .int .i64 m, .fn 74 []] (fun rv => decR (RSh.tup [(Prod.mk false [(CK.int IntKind.i64)]), (Prod.mk false [(CK.int IntKind.i64)])]) rv.pv) = tcloud_listError_layers F n cs m := by kernel_rfl
noncomputable abbrev Fcloud_listError_layers (args : List PV) := Fn env 73 (RSh.tup [(Prod.mk false [(CK.int IntKind.i64)]), (Prod.mk false [(CK.int IntKind.i64)])]) args
theorem Fcloud_listError_layers_of (n : Nat) (cs : List PV) (m : Int) {res : ((Int) × (Int))} (h : tcloud_listError_layers (Fn env) n cs m = some res) : Fcloud_listError_layers [.list n cs, .int .i64 m, .fn 74 []] = some res :=
  fn_of Ecloud_listError_layers_ok rfl rfl lo_nil ((tcloud_listError_layers_eq _ _ _ _).trans h)

/-! ### cloud_CheckLayers -/

def Ecloud_CheckLayers : List Entry := [.out 73 (RSh.tup [(Prod.mk false [(CK.int IntKind.i64)]), (Prod.mk false [(CK.int IntKind.i64)])])]
theorem Ecloud_CheckLayers_ok : ∀ e ∈ Ecloud_CheckLayers, EntOK env e := (ent_out ent_nil)
theorem Ucloud_CheckLayers : uniq ((blocksOf a33.body).map (·.1)) = true := by kernel_rfl
def tcloud_CheckLayers (F : FnT) (p0n : Nat) (p0c : List PV) : Option ((Int) × (Int)) :=
  bindO (F 73 (RSh.tup [(Prod.mk false [(CK.int IntKind.i64)]), (Prod.mk false [(CK.int IntKind.i64)])]) [(PV.list p0n p0c), (PV.int IntKind.i64 (10 : Int)), (PV.fn 74 [])]) fun (y0 : ((Int) × (Int))) =>
  some (y0.1, y0.2)
theorem tcloud_CheckLayers_eq (F : FnT) (p0n : Nat) (p0c : List PV) : semF (callP F Ecloud_CheckLayers 20) s33 (loopT []) 400 a33 [PV.list p0n p0c] (fun rv => decR (RSh.tup [(Prod.mk false [(CK.int IntKind.i64)]), (Prod.mk false [(CK.int IntKind.i64)])]) rv.pv) = tcloud_CheckLayers F p0n p0c := by kernel_rfl
noncomputable abbrev Fcloud_CheckLayers (args : List PV) := Fn env 33 (RSh.tup [(Prod.mk false [(CK.int IntKind.i64)]), (Prod.mk false [(CK.int IntKind.i64)])]) args
theorem Fcloud_CheckLayers_of  (p0n : Nat) (p0c : List PV) {res : ((Int) × (Int))} (h : tcloud_CheckLayers (Fn env) p0n p0c = some res) : Fcloud_CheckLayers [PV.list p0n p0c] = some res :=
  fn_of Ecloud_CheckLayers_ok rfl rfl lo_nil ((tcloud_CheckLayers_eq _ _ _).trans h)

/-! ### glidepathref08_CopyLayers -/

def Eglidepathref08_CopyLayers : List Entry := []
theorem Eglidepathref08_CopyLayers_ok : ∀ e ∈ Eglidepathref08_CopyLayers, EntOK env e := ent_nil
theorem Uglidepathref08_CopyLayers : uniq ((blocksOf a34.body).map (·.1)) = true := by kernel_rfl
def tglidepathref08_CopyLayers (F : FnT) (p0n : Nat) (p0c : List PV) : Option ((Nat) × (List PV)) :=
  bif (decide (p0n = 0)) then
    some (0, [])
  else bif (decide ((List.length p0c) = (p0n * 3))) then
    bif (decide ((0 = 0) ∧ ((0 + p0n) ≤ big))) then
      bif (decide ((0 + p0n) = (0 + p0n))) then
        some ((0 + p0n), ([] ++ p0c))
      else none
    else none
  else none
theorem tglidepathref08_CopyLayers_eq (F : FnT) (p0n : Nat) (p0c : List PV) : semF (callP F Eglidepathref08_CopyLayers 20) s34 (loopT []) 400 a34 [PV.list p0n p0c] (fun rv => decR (RSh.one CK.list) rv.pv) = tglidepathref08_CopyLayers F p0n p0c := by kernel_rfl
noncomputable abbrev Fglidepathref08_CopyLayers (args : List PV) := Fn env 34 (RSh.one CK.list) args
theorem Fglidepathref08_CopyLayers_of  (p0n : Nat) (p0c : List PV) {res : ((Nat) × (List PV))} (h : tglidepathref08_CopyLayers (Fn env) p0n p0c = some res) : Fglidepathref08_CopyLayers [PV.list p0n p0c] = some res :=
  fn_of Eglidepathref08_CopyLayers_ok rfl rfl lo_nil ((tglidepathref08_CopyLayers_eq _ _ _).trans h)

/-! ### glidepathref08_CheckLayers -/

def Eglidepathref08_CheckLayers : List Entry := [.out 14 (RSh.one CK.bool)]
theorem Eglidepathref08_CheckLayers_ok : ∀ e ∈ Eglidepathref08_CheckLayers, EntOK env e := (ent_out ent_nil)
def Tglidepathref08_CheckLayers_0a (n0 : Nat) (c1 : List PV) (i2 : Int) : Q := ⟨(tm 52 [(0, (AV.p (PV.list n0 c1))), (4, (AV.p (PV.int IntKind.i64 i2)))]), (mm 52 [])⟩
def Xglidepathref08_CheckLayers_0a (y : Int × Int) : Ext × Q := (Ext.ret, ⟨(tm 52 [(2, (AV.p (PV.int IntKind.i64 y.1))), (3, (AV.p (PV.int IntKind.i64 y.2)))]), (mm 52 [])⟩)
def Iglidepathref08_CheckLayers_0a (q : Ext × S) : Int × Int := ((pP_int1 (pA_p (avT q.2 2))), (pP_int1 (pA_p (avT q.2 3))))
def Xglidepathref08_CheckLayers_0b (y : Unit) : Ext × Q := (Ext.normal, ⟨(tm 52 []), (mm 52 [])⟩)
def Iglidepathref08_CheckLayers_0b (q : Ext × S) : Unit := ()
abbrev Yglidepathref08_CheckLayers_0 : Type := (Int × Int) ⊕ ((Unit))
def XLglidepathref08_CheckLayers_0 : XL Yglidepathref08_CheckLayers_0 := .more Xglidepathref08_CheckLayers_0a (.one Xglidepathref08_CheckLayers_0b)
def Iglidepathref08_CheckLayers_0 (q : Ext × S) : Yglidepathref08_CheckLayers_0 := bif (cE q.1 == 2) then (Sum.inl (Iglidepathref08_CheckLayers_0a q)) else (Sum.inr (Iglidepathref08_CheckLayers_0b q))
theorem XIglidepathref08_CheckLayers_0a (y : Int × Int) : Iglidepathref08_CheckLayers_0 (xe (Xglidepathref08_CheckLayers_0a y)) = (Sum.inl y) := rfl
theorem XIglidepathref08_CheckLayers_0b (y : Unit) : Iglidepathref08_CheckLayers_0 (xe (Xglidepathref08_CheckLayers_0b y)) = (Sum.inr y) := rfl
theorem XIglidepathref08_CheckLayers_0 (y : Yglidepathref08_CheckLayers_0) : Iglidepathref08_CheckLayers_0 (xe (XLglidepathref08_CheckLayers_0.fn y)) = y := (match y with | .inl y => XIglidepathref08_CheckLayers_0a y | .inr y => XIglidepathref08_CheckLayers_0b y)
noncomputable abbrev Lglidepathref08_CheckLayers_0 : Q → Option Yglidepathref08_CheckLayers_0 := lpO env a37.body 0 XLglidepathref08_CheckLayers_0
noncomputable abbrev Rglidepathref08_CheckLayers_0 : Q → Option (Ext × S) := lpR env a37.body 0
theorem Lglidepathref08_CheckLayers_0a_of {s : Q} {y : Int × Int} (h : Rglidepathref08_CheckLayers_0 s = exO (Xglidepathref08_CheckLayers_0a y)) : Lglidepathref08_CheckLayers_0 s = some (Sum.inl y) := lpO_of Iglidepathref08_CheckLayers_0 XIglidepathref08_CheckLayers_0 (y := (Sum.inl y)) h
theorem Lglidepathref08_CheckLayers_0b_of {s : Q} {y : Unit} (h : Rglidepathref08_CheckLayers_0 s = exO (Xglidepathref08_CheckLayers_0b y)) : Lglidepathref08_CheckLayers_0 s = some (Sum.inr y) := lpO_of Iglidepathref08_CheckLayers_0 XIglidepathref08_CheckLayers_0 (y := (Sum.inr y)) h
theorem Uglidepathref08_CheckLayers : uniq ((blocksOf a37.body).map (·.1)) = true := by kernel_rfl
def Bglidepathref08_CheckLayers_0a (F : FnT) (N : Q → Option (Ext × S)) (E : Ext × Q → Option (Ext × S)) (L0 : Q → Option Yglidepathref08_CheckLayers_0) (n0 : Nat) (c1 : List PV) (i2 : Int) : Option (Ext × S) :=
  bif (decide (i2 < (n0 : Int))) then
    bif (decide (((0 : Int) ≤ i2) ∧ (i2 < (n0 : Int)))) then
      bindO (intC IntKind.i64 (c1[(((Int.toNat i2) * 3) + 0)]?)) fun x0 =>
      bindO (F 14 (RSh.one CK.bool) [(PV.int IntKind.i64 x0), (PV.int IntKind.i64 (0 : Int)), (PV.int IntKind.i64 (20000 : Int))]) fun (y1 : (Bool)) =>
      bif y1 then
        bif (decide (((0 : Int) ≤ i2) ∧ (i2 < (n0 : Int)))) then
          bindO (intC IntKind.i64 (c1[(((Int.toNat i2) * 3) + 1)]?)) fun x2 =>
          bindO (F 14 (RSh.one CK.bool) [(PV.int IntKind.i64 x2), (PV.int IntKind.i64 (0 : Int)), (PV.int IntKind.i64 (20000 : Int))]) fun (y3 : (Bool)) =>
          bif y3 then
            bif (decide (((0 : Int) ≤ i2) ∧ (i2 < (n0 : Int)))) then
              bindO (intC IntKind.i64 (c1[(((Int.toNat i2) * 3) + 2)]?)) fun x4 =>
              bindO (F 14 (RSh.one CK.bool) [(PV.int IntKind.i64 x4), (PV.int IntKind.i64 (0 : Int)), (PV.int IntKind.i64 (8 : Int))]) fun (y5 : (Bool)) =>
              bif y5 then
                bif (decide (((0 : Int) ≤ i2) ∧ (i2 < (n0 : Int)))) then
                  bindO (intC IntKind.i64 (c1[(((Int.toNat i2) * 3) + 0)]?)) fun x6 =>
                  bif (decide (((0 : Int) ≤ i2) ∧ (i2 < (n0 : Int)))) then
                    bindO (intC IntKind.i64 (c1[(((Int.toNat i2) * 3) + 1)]?)) fun x7 =>
                    bif (decide (x6 ≥ x7)) then
                      E (Xglidepathref08_CheckLayers_0a (i2, (9 : Int)))
                    else N (Tglidepathref08_CheckLayers_0a n0 c1 (w64 (i2 + (1 : Int))))
                  else none
                else none
              else E (Xglidepathref08_CheckLayers_0a (i2, (2 : Int)))
            else none
          else E (Xglidepathref08_CheckLayers_0a (i2, (2 : Int)))
        else none
      else E (Xglidepathref08_CheckLayers_0a (i2, (2 : Int)))
    else none
  else E (Xglidepathref08_CheckLayers_0b ())
theorem Bglidepathref08_CheckLayers_0a_eq (F : FnT) (N : Q → Option (Ext × S)) (E : Ext × Q → Option (Ext × S)) (L0 : Q → Option Yglidepathref08_CheckLayers_0) (n0 : Nat) (c1 : List PV) (i2 : Int) : semB (callP F Eglidepathref08_CheckLayers 20) s37 (loopT [⟨0, Yglidepathref08_CheckLayers_0, L0, XLglidepathref08_CheckLayers_0⟩]) 400 (blkIn a37.body 0) N E (Tglidepathref08_CheckLayers_0a n0 c1 i2) = Bglidepathref08_CheckLayers_0a F N E L0 n0 c1 i2 := by kernel_rfl
theorem Rglidepathref08_CheckLayers_0a_of  (n0 : Nat) (c1 : List PV) (i2 : Int) {r : Ext × S} (h : Bglidepathref08_CheckLayers_0a (Fn env) Rglidepathref08_CheckLayers_0 exO Lglidepathref08_CheckLayers_0 n0 c1 i2 = some r) : Rglidepathref08_CheckLayers_0 (Tglidepathref08_CheckLayers_0a n0 c1 i2) = some r :=
  lp_of Eglidepathref08_CheckLayers_ok (by kernel_rfl) (lo_cons (lpO_ok Uglidepathref08_CheckLayers) lo_nil) (by kernel_rfl) ((Bglidepathref08_CheckLayers_0a_eq _ _ _ _ _ _ _).trans h)
def tglidepathref08_CheckLayers (F : FnT) (L0 : Q → Option Yglidepathref08_CheckLayers_0) (p0n : Nat) (p0c : List PV) : Option ((Int) × (Int)) :=
  bif (decide ((p0n : Int) > (10 : Int))) then
    some ((0 : Int), (8 : Int))
  else bindO (L0 (Tglidepathref08_CheckLayers_0a p0n p0c (0 : Int))) fun z =>
  Sum.elim (fun y0 =>
    some (y0.1, y0.2)) (fun y1 =>
    some ((0 : Int), (0 : Int))) z
theorem tglidepathref08_CheckLayers_eq (F : FnT) (L0 : Q → Option Yglidepathref08_CheckLayers_0) (p0n : Nat) (p0c : List PV) : semF (callP F Eglidepathref08_CheckLayers 20) s37 (loopT [⟨0, Yglidepathref08_CheckLayers_0, L0, XLglidepathref08_CheckLayers_0⟩]) 400 a37 [PV.list p0n p0c] (fun rv => decR (RSh.tup [(Prod.mk false [(CK.int IntKind.i64)]), (Prod.mk false [(CK.int IntKind.i64)])]) rv.pv) = tglidepathref08_CheckLayers F L0 p0n p0c := by kernel_rfl
noncomputable abbrev Fglidepathref08_CheckLayers (args : List PV) := Fn env 37 (RSh.tup [(Prod.mk false [(CK.int IntKind.i64)]), (Prod.mk false [(CK.int IntKind.i64)])]) args
theorem Fglidepathref08_CheckLayers_of  (p0n : Nat) (p0c : List PV) {res : ((Int) × (Int))} (h : tglidepathref08_CheckLayers (Fn env) Lglidepathref08_CheckLayers_0 p0n p0c = some res) : Fglidepathref08_CheckLayers [PV.list p0n p0c] = some res :=
  fn_of Eglidepathref08_CheckLayers_ok rfl rfl (lo_cons (lpO_ok Uglidepathref08_CheckLayers) lo_nil) ((tglidepathref08_CheckLayers_eq _ _ _ _).trans h)

/-! ### glidepathref08_Middle -/

def Eglidepathref08_Middle : List Entry := []
theorem Eglidepathref08_Middle_ok : ∀ e ∈ Eglidepathref08_Middle, EntOK env e := ent_nil
def Tglidepathref08_Middle_0a (n0 : Nat) (c1 : List PV) (i2 : Int) : Q := ⟨(tm 60 [(0, (AV.p (PV.list n0 c1))), (3, (AV.p (PV.int IntKind.i64 i2)))]), (mm 60 [])⟩
def Xglidepathref08_Middle_0a (y : Unit) : Ext × Q := (Ext.normal, ⟨(tm 60 []), (mm 60 [])⟩)
def Iglidepathref08_Middle_0a (q : Ext × S) : Unit := ()
def Xglidepathref08_Middle_0b (y : Int) : Ext × Q := (Ext.ret, ⟨(tm 60 [(2, (AV.p (PV.int IntKind.i64 y)))]), (mm 60 [])⟩)
def Iglidepathref08_Middle_0b (q : Ext × S) : Int := (pP_int1 (pA_p (avT q.2 2)))
abbrev Yglidepathref08_Middle_0 : Type := (Unit) ⊕ ((Int))
def XLglidepathref08_Middle_0 : XL Yglidepathref08_Middle_0 := .more Xglidepathref08_Middle_0a (.one Xglidepathref08_Middle_0b)
def Iglidepathref08_Middle_0 (q : Ext × S) : Yglidepathref08_Middle_0 := bif (cE q.1 == 0) then (Sum.inl (Iglidepathref08_Middle_0a q)) else (Sum.inr (Iglidepathref08_Middle_0b q))
theorem XIglidepathref08_Middle_0a (y : Unit) : Iglidepathref08_Middle_0 (xe (Xglidepathref08_Middle_0a y)) = (Sum.inl y) := rfl
theorem XIglidepathref08_Middle_0b (y : Int) : Iglidepathref08_Middle_0 (xe (Xglidepathref08_Middle_0b y)) = (Sum.inr y) := rfl
theorem XIglidepathref08_Middle_0 (y : Yglidepathref08_Middle_0) : Iglidepathref08_Middle_0 (xe (XLglidepathref08_Middle_0.fn y)) = y := (match y with | .inl y => XIglidepathref08_Middle_0a y | .inr y => XIglidepathref08_Middle_0b y)
noncomputable abbrev Lglidepathref08_Middle_0 : Q → Option Yglidepathref08_Middle_0 := lpO env a39.body 0 XLglidepathref08_Middle_0
noncomputable abbrev Rglidepathref08_Middle_0 : Q → Option (Ext × S) := lpR env a39.body 0
theorem Lglidepathref08_Middle_0a_of {s : Q} {y : Unit} (h : Rglidepathref08_Middle_0 s = exO (Xglidepathref08_Middle_0a y)) : Lglidepathref08_Middle_0 s = some (Sum.inl y) := lpO_of Iglidepathref08_Middle_0 XIglidepathref08_Middle_0 (y := (Sum.inl y)) h
theorem Lglidepathref08_Middle_0b_of {s : Q} {y : Int} (h : Rglidepathref08_Middle_0 s = exO (Xglidepathref08_Middle_0b y)) : Lglidepathref08_Middle_0 s = some (Sum.inr y) := lpO_of Iglidepathref08_Middle_0 XIglidepathref08_Middle_0 (y := (Sum.inr y)) h
def Tglidepathref08_Middle_2a (n0 : Nat) (c1 : List PV) (i2 : Int) (i3 : Int) (i4 : Int) (i5 : Int) : Q := ⟨(tm 60 [(0, (AV.p (PV.list n0 c1))), (3, (AV.p (PV.int IntKind.i64 i2))), (4, (AV.p (PV.int IntKind.i64 i3))), (5, (AV.p (PV.int IntKind.i64 i4))), (6, (AV.p (PV.int IntKind.i64 i5)))]), (mm 60 [])⟩
def Xglidepathref08_Middle_2a (y : Nat × List PV × Int × Int × Int) : Ext × Q := (Ext.normal, ⟨(tm 60 [(0, (AV.p (PV.list y.1 y.2.1))), (3, (AV.p (PV.int IntKind.i64 y.2.2.1))), (4, (AV.p (PV.int IntKind.i64 y.2.2.2.1))), (5, (AV.p (PV.int IntKind.i64 y.2.2.2.2)))]), (mm 60 [])⟩)
def Iglidepathref08_Middle_2a (q : Ext × S) : Nat × List PV × Int × Int × Int := ((pP_list0 (pA_p (avT q.2 0))), (pP_list1 (pA_p (avT q.2 0))), (pP_int1 (pA_p (avT q.2 3))), (pP_int1 (pA_p (avT q.2 4))), (pP_int1 (pA_p (avT q.2 5))))
abbrev Yglidepathref08_Middle_2 : Type := Nat × List PV × Int × Int × Int
def XLglidepathref08_Middle_2 : XL Yglidepathref08_Middle_2 := .one Xglidepathref08_Middle_2a
def Iglidepathref08_Middle_2 (q : Ext × S) : Yglidepathref08_Middle_2 := (Iglidepathref08_Middle_2a q)
theorem XIglidepathref08_Middle_2a (y : Nat × List PV × Int × Int × Int) : Iglidepathref08_Middle_2 (xe (Xglidepathref08_Middle_2a y)) = y := rfl
theorem XIglidepathref08_Middle_2 (y : Yglidepathref08_Middle_2) : Iglidepathref08_Middle_2 (xe (XLglidepathref08_Middle_2.fn y)) = y := XIglidepathref08_Middle_2a y
noncomputable abbrev Lglidepathref08_Middle_2 : Q → Option Yglidepathref08_Middle_2 := lpO env a39.body 2 XLglidepathref08_Middle_2
noncomputable abbrev Rglidepathref08_Middle_2 : Q → Option (Ext × S) := lpR env a39.body 2
theorem Lglidepathref08_Middle_2a_of {s : Q} {y : Nat × List PV × Int × Int × Int} (h : Rglidepathref08_Middle_2 s = exO (Xglidepathref08_Middle_2a y)) : Lglidepathref08_Middle_2 s = some y := lpO_of Iglidepathref08_Middle_2 XIglidepathref08_Middle_2 (y := y) h
theorem Uglidepathref08_Middle : uniq ((blocksOf a39.body).map (·.1)) = true := by kernel_rfl
def Bglidepathref08_Middle_0a (F : FnT) (N : Q → Option (Ext × S)) (E : Ext × Q → Option (Ext × S)) (L0 : Q → Option Yglidepathref08_Middle_0) (L2 : Q → Option Yglidepathref08_Middle_2) (n0 : Nat) (c1 : List PV) (i2 : Int) : Option (Ext × S) :=
  bif (decide (i2 < (n0 : Int))) then
    bindO (L2 (Tglidepathref08_Middle_2a n0 c1 i2 (0 : Int) (0 : Int) (0 : Int))) fun y0 =>
    bif (decide (y0.2.2.2.1 ≤ (w64 (Int.tdiv (w64 ((y0.1 : Int) - (1 : Int))) (2 : Int))))) then
      bif (decide ((w64 (Int.tdiv (w64 ((y0.1 : Int) - (1 : Int))) (2 : Int))) < (w64 (y0.2.2.2.1 + y0.2.2.2.2)))) then
        bif (decide (((0 : Int) ≤ y0.2.2.1) ∧ (y0.2.2.1 < (y0.1 : Int)))) then
          bindO (intC IntKind.i64 (y0.2.1[((Int.toNat y0.2.2.1) * 1)]?)) fun x1 =>
          E (Xglidepathref08_Middle_0b x1)
        else none
      else N (Tglidepathref08_Middle_0a y0.1 y0.2.1 (w64 (y0.2.2.1 + (1 : Int))))
    else N (Tglidepathref08_Middle_0a y0.1 y0.2.1 (w64 (y0.2.2.1 + (1 : Int))))
  else E (Xglidepathref08_Middle_0a ())
theorem Bglidepathref08_Middle_0a_eq (F : FnT) (N : Q → Option (Ext × S)) (E : Ext × Q → Option (Ext × S)) (L0 : Q → Option Yglidepathref08_Middle_0) (L2 : Q → Option Yglidepathref08_Middle_2) (n0 : Nat) (c1 : List PV) (i2 : Int) : semB (callP F Eglidepathref08_Middle 20) s39 (loopT [⟨0, Yglidepathref08_Middle_0, L0, XLglidepathref08_Middle_0⟩, ⟨2, Yglidepathref08_Middle_2, L2, XLglidepathref08_Middle_2⟩]) 400 (blkIn a39.body 0) N E (Tglidepathref08_Middle_0a n0 c1 i2) = Bglidepathref08_Middle_0a F N E L0 L2 n0 c1 i2 := by kernel_rfl
theorem Rglidepathref08_Middle_0a_of  (n0 : Nat) (c1 : List PV) (i2 : Int) {r : Ext × S} (h : Bglidepathref08_Middle_0a (Fn env) Rglidepathref08_Middle_0 exO Lglidepathref08_Middle_0 Lglidepathref08_Middle_2 n0 c1 i2 = some r) : Rglidepathref08_Middle_0 (Tglidepathref08_Middle_0a n0 c1 i2) = some r :=
  lp_of Eglidepathref08_Middle_ok (by kernel_rfl) (lo_cons (lpO_ok Uglidepathref08_Middle) (lo_cons (lpO_ok Uglidepathref08_Middle) lo_nil)) (by kernel_rfl) ((Bglidepathref08_Middle_0a_eq _ _ _ _ _ _ _ _).trans h)
def Bglidepathref08_Middle_2a (F : FnT) (N : Q → Option (Ext × S)) (E : Ext × Q → Option (Ext × S)) (L0 : Q → Option Yglidepathref08_Middle_0) (L2 : Q → Option Yglidepathref08_Middle_2) (n0 : Nat) (c1 : List PV) (i2 : Int) (i3 : Int) (i4 : Int) (i5 : Int) : Option (Ext × S) :=
  bif (decide (i5 < (n0 : Int))) then
    bif (decide (((0 : Int) ≤ i5) ∧ (i5 < (n0 : Int)))) then
      bindO (intC IntKind.i64 (c1[((Int.toNat i5) * 1)]?)) fun x0 =>
      bif (decide (((0 : Int) ≤ i2) ∧ (i2 < (n0 : Int)))) then
        bindO (intC IntKind.i64 (c1[((Int.toNat i2) * 1)]?)) fun x1 =>
        bif (decide (x0 < x1)) then
          bif (decide (((0 : Int) ≤ i5) ∧ (i5 < (n0 : Int)))) then
            bindO (intC IntKind.i64 (c1[((Int.toNat i5) * 1)]?)) fun x2 =>
            bif (decide (((0 : Int) ≤ i2) ∧ (i2 < (n0 : Int)))) then
              bindO (intC IntKind.i64 (c1[((Int.toNat i2) * 1)]?)) fun x3 =>
              bif (x2 == x3) then
                N (Tglidepathref08_Middle_2a n0 c1 i2 (w64 (i3 + (1 : Int))) (w64 (i4 + (1 : Int))) (w64 (i5 + (1 : Int))))
              else N (Tglidepathref08_Middle_2a n0 c1 i2 (w64 (i3 + (1 : Int))) i4 (w64 (i5 + (1 : Int))))
            else none
          else none
        else bif (decide (((0 : Int) ≤ i5) ∧ (i5 < (n0 : Int)))) then
          bindO (intC IntKind.i64 (c1[((Int.toNat i5) * 1)]?)) fun x4 =>
          bif (decide (((0 : Int) ≤ i2) ∧ (i2 < (n0 : Int)))) then
            bindO (intC IntKind.i64 (c1[((Int.toNat i2) * 1)]?)) fun x5 =>
            bif (x4 == x5) then
              N (Tglidepathref08_Middle_2a n0 c1 i2 i3 (w64 (i4 + (1 : Int))) (w64 (i5 + (1 : Int))))
            else N (Tglidepathref08_Middle_2a n0 c1 i2 i3 i4 (w64 (i5 + (1 : Int))))
          else none
        else none
      else none
    else none
  else E (Xglidepathref08_Middle_2a (n0, c1, i2, i3, i4))
theorem Bglidepathref08_Middle_2a_eq (F : FnT) (N : Q → Option (Ext × S)) (E : Ext × Q → Option (Ext × S)) (L0 : Q → Option Yglidepathref08_Middle_0) (L2 : Q → Option Yglidepathref08_Middle_2) (n0 : Nat) (c1 : List PV) (i2 : Int) (i3 : Int) (i4 : Int) (i5 : Int) : semB (callP F Eglidepathref08_Middle 20) s39 (loopT [⟨0, Yglidepathref08_Middle_0, L0, XLglidepathref08_Middle_0⟩, ⟨2, Yglidepathref08_Middle_2, L2, XLglidepathref08_Middle_2⟩]) 400 (blkIn a39.body 2) N E (Tglidepathref08_Middle_2a n0 c1 i2 i3 i4 i5) = Bglidepathref08_Middle_2a F N E L0 L2 n0 c1 i2 i3 i4 i5 := by kernel_rfl
theorem Rglidepathref08_Middle_2a_of  (n0 : Nat) (c1 : List PV) (i2 : Int) (i3 : Int) (i4 : Int) (i5 : Int) {r : Ext × S} (h : Bglidepathref08_Middle_2a (Fn env) Rglidepathref08_Middle_2 exO Lglidepathref08_Middle_0 Lglidepathref08_Middle_2 n0 c1 i2 i3 i4 i5 = some r) : Rglidepathref08_Middle_2 (Tglidepathref08_Middle_2a n0 c1 i2 i3 i4 i5) = some r :=
  lp_of Eglidepathref08_Middle_ok (by kernel_rfl) (lo_cons (lpO_ok Uglidepathref08_Middle) (lo_cons (lpO_ok Uglidepathref08_Middle) lo_nil)) (by kernel_rfl) ((Bglidepathref08_Middle_2a_eq _ _ _ _ _ _ _ _ _ _ _).trans h)
def tglidepathref08_Middle (F : FnT) (L0 : Q → Option Yglidepathref08_Middle_0) (L2 : Q → Option Yglidepathref08_Middle_2) (p0n : Nat) (p0c : List PV) : Option (Int) :=
  bindO (L0 (Tglidepathref08_Middle_0a p0n p0c (0 : Int))) fun z =>
  Sum.elim (fun y0 =>
    some (0 : Int)) (fun y1 =>
    some y1) z
theorem tglidepathref08_Middle_eq (F : FnT) (L0 : Q → Option Yglidepathref08_Middle_0) (L2 : Q → Option Yglidepathref08_Middle_2) (p0n : Nat) (p0c : List PV) : semF (callP F Eglidepathref08_Middle 20) s39 (loopT [⟨0, Yglidepathref08_Middle_0, L0, XLglidepathref08_Middle_0⟩, ⟨2, Yglidepathref08_Middle_2, L2, XLglidepathref08_Middle_2⟩]) 400 a39 [PV.list p0n p0c] (fun rv => decR (RSh.one (CK.int IntKind.i64)) rv.pv) = tglidepathref08_Middle F L0 L2 p0n p0c := by kernel_rfl
noncomputable abbrev Fglidepathref08_Middle (args : List PV) := Fn env 39 (RSh.one (CK.int IntKind.i64)) args
theorem Fglidepathref08_Middle_of  (p0n : Nat) (p0c : List PV) {res : (Int)} (h : tglidepathref08_Middle (Fn env) Lglidepathref08_Middle_0 Lglidepathref08_Middle_2 p0n p0c = some res) : Fglidepathref08_Middle [PV.list p0n p0c] = some res :=
  fn_of Eglidepathref08_Middle_ok rfl rfl (lo_cons (lpO_ok Uglidepathref08_Middle) (lo_cons (lpO_ok Uglidepathref08_Middle) lo_nil)) ((tglidepathref08_Middle_eq _ _ _ _ _).trans h)

/-! ### glidepathref08_Ceiling -/

def Eglidepathref08_Ceiling : List Entry := []
theorem Eglidepathref08_Ceiling_ok : ∀ e ∈ Eglidepathref08_Ceiling, EntOK env e := ent_nil
def Tglidepathref08_Ceiling_0a (n0 : Nat) (c1 : List PV) (i2 : Int) (i3 : Int) (b4 : Bool) (i5 : Int) : Q := ⟨(tm 82 [(0, (AV.p (PV.list n0 c1))), (1, (AV.p (PV.int IntKind.i64 i2))), (6, (AV.p (PV.int IntKind.i64 i3))), (7, (AV.p (PV.bool b4))), (8, (AV.p (PV.int IntKind.i64 i5)))]), (mm 82 [])⟩
def Xglidepathref08_Ceiling_0a (y : Int × Bool) : Ext × Q := (Ext.normal, ⟨(tm 82 [(6, (AV.p (PV.int IntKind.i64 y.1))), (7, (AV.p (PV.bool y.2)))]), (mm 82 [])⟩)
def Iglidepathref08_Ceiling_0a (q : Ext × S) : Int × Bool := ((pP_int1 (pA_p (avT q.2 6))), (pP_bool0 (pA_p (avT q.2 7))))
abbrev Yglidepathref08_Ceiling_0 : Type := Int × Bool
def XLglidepathref08_Ceiling_0 : XL Yglidepathref08_Ceiling_0 := .one Xglidepathref08_Ceiling_0a
def Iglidepathref08_Ceiling_0 (q : Ext × S) : Yglidepathref08_Ceiling_0 := (Iglidepathref08_Ceiling_0a q)
theorem XIglidepathref08_Ceiling_0a (y : Int × Bool) : Iglidepathref08_Ceiling_0 (xe (Xglidepathref08_Ceiling_0a y)) = y := rfl
theorem XIglidepathref08_Ceiling_0 (y : Yglidepathref08_Ceiling_0) : Iglidepathref08_Ceiling_0 (xe (XLglidepathref08_Ceiling_0.fn y)) = y := XIglidepathref08_Ceiling_0a y
noncomputable abbrev Lglidepathref08_Ceiling_0 : Q → Option Yglidepathref08_Ceiling_0 := lpO env a40.body 0 XLglidepathref08_Ceiling_0
noncomputable abbrev Rglidepathref08_Ceiling_0 : Q → Option (Ext × S) := lpR env a40.body 0
theorem Lglidepathref08_Ceiling_0a_of {s : Q} {y : Int × Bool} (h : Rglidepathref08_Ceiling_0 s = exO (Xglidepathref08_Ceiling_0a y)) : Lglidepathref08_Ceiling_0 s = some y := lpO_of Iglidepathref08_Ceiling_0 XIglidepathref08_Ceiling_0 (y := y) h
def Tglidepathref08_Ceiling_2a (n0 : Nat) (c1 : List PV) (i2 : Int) (i3 : Int) (b4 : Bool) (i5 : Int) (i6 : Int) (i7 : Int) : Q := ⟨(tm 82 [(0, (AV.p (PV.list n0 c1))), (1, (AV.p (PV.int IntKind.i64 i2))), (6, (AV.p (PV.int IntKind.i64 i3))), (7, (AV.p (PV.bool b4))), (8, (AV.p (PV.int IntKind.i64 i5))), (9, (AV.p (PV.int IntKind.i64 i6))), (10, (AV.p (PV.int IntKind.i64 i7)))]), (mm 82 [])⟩
def Xglidepathref08_Ceiling_2a (y : Nat × List PV × Int × Int × Bool × Int × Int) : Ext × Q := (Ext.normal, ⟨(tm 82 [(0, (AV.p (PV.list y.1 y.2.1))), (1, (AV.p (PV.int IntKind.i64 y.2.2.1))), (6, (AV.p (PV.int IntKind.i64 y.2.2.2.1))), (7, (AV.p (PV.bool y.2.2.2.2.1))), (8, (AV.p (PV.int IntKind.i64 y.2.2.2.2.2.1))), (9, (AV.p (PV.int IntKind.i64 y.2.2.2.2.2.2)))]), (mm 82 [])⟩)
def Iglidepathref08_Ceiling_2a (q : Ext × S) : Nat × List PV × Int × Int × Bool × Int × Int := ((pP_list0 (pA_p (avT q.2 0))), (pP_list1 (pA_p (avT q.2 0))), (pP_int1 (pA_p (avT q.2 1))), (pP_int1 (pA_p (avT q.2 6))), (pP_bool0 (pA_p (avT q.2 7))), (pP_int1 (pA_p (avT q.2 8))), (pP_int1 (pA_p (avT q.2 9))))
abbrev Yglidepathref08_Ceiling_2 : Type := Nat × List PV × Int × Int × Bool × Int × Int
def XLglidepathref08_Ceiling_2 : XL Yglidepathref08_Ceiling_2 := .one Xglidepathref08_Ceiling_2a
def Iglidepathref08_Ceiling_2 (q : Ext × S) : Yglidepathref08_Ceiling_2 := (Iglidepathref08_Ceiling_2a q)
theorem XIglidepathref08_Ceiling_2a (y : Nat × List PV × Int × Int × Bool × Int × Int) : Iglidepathref08_Ceiling_2 (xe (Xglidepathref08_Ceiling_2a y)) = y := rfl
theorem XIglidepathref08_Ceiling_2 (y : Yglidepathref08_Ceiling_2) : Iglidepathref08_Ceiling_2 (xe (XLglidepathref08_Ceiling_2.fn y)) = y := XIglidepathref08_Ceiling_2a y
noncomputable abbrev Lglidepathref08_Ceiling_2 : Q → Option Yglidepathref08_Ceiling_2 := lpO env a40.body 2 XLglidepathref08_Ceiling_2
noncomputable abbrev Rglidepathref08_Ceiling_2 : Q → Option (Ext × S) := lpR env a40.body 2
theorem Lglidepathref08_Ceiling_2a_of {s : Q} {y : Nat × List PV × Int × Int × Bool × Int × Int} (h : Rglidepathref08_Ceiling_2 s = exO (Xglidepathref08_Ceiling_2a y)) : Lglidepathref08_Ceiling_2 s = some y := lpO_of Iglidepathref08_Ceiling_2 XIglidepathref08_Ceiling_2 (y := y) h
theorem Uglidepathref08_Ceiling : uniq ((blocksOf a40.body).map (·.1)) = true := by kernel_rfl
def Bglidepathref08_Ceiling_0a (F : FnT) (N : Q → Option (Ext × S)) (E : Ext × Q → Option (Ext × S)) (L0 : Q → Option Yglidepathref08_Ceiling_0) (L2 : Q → Option Yglidepathref08_Ceiling_2) (n0 : Nat) (c1 : List PV) (i2 : Int) (i3 : Int) (b4 : Bool) (i5 : Int) : Option (Ext × S) :=
  bif (decide (i5 < (n0 : Int))) then
    bindO (L2 (Tglidepathref08_Ceiling_2a n0 c1 i2 i3 b4 i5 (0 : Int) (0 : Int))) fun y0 =>
    bif (decide (y0.2.2.2.2.2.2 ≥ y0.2.2.1)) then
      bif y0.2.2.2.2.1 then
        bif (decide (((0 : Int) ≤ y0.2.2.2.2.2.1) ∧ (y0.2.2.2.2.2.1 < (y0.1 : Int)))) then
          bindO (intC IntKind.i64 (y0.2.1[(((Int.toNat y0.2.2.2.2.2.1) * 3) + 0)]?)) fun x1 =>
          bif (decide (x1 < y0.2.2.2.1)) then
            bif (decide (((0 : Int) ≤ y0.2.2.2.2.2.1) ∧ (y0.2.2.2.2.2.1 < (y0.1 : Int)))) then
              bindO (intC IntKind.i64 (y0.2.1[(((Int.toNat y0.2.2.2.2.2.1) * 3) + 0)]?)) fun x2 =>
              N (Tglidepathref08_Ceiling_0a y0.1 y0.2.1 y0.2.2.1 x2 true (w64 (y0.2.2.2.2.2.1 + (1 : Int))))
            else none
          else N (Tglidepathref08_Ceiling_0a y0.1 y0.2.1 y0.2.2.1 y0.2.2.2.1 y0.2.2.2.2.1 (w64 (y0.2.2.2.2.2.1 + (1 : Int))))
        else none
      else bif (decide (((0 : Int) ≤ y0.2.2.2.2.2.1) ∧ (y0.2.2.2.2.2.1 < (y0.1 : Int)))) then
        bindO (intC IntKind.i64 (y0.2.1[(((Int.toNat y0.2.2.2.2.2.1) * 3) + 0)]?)) fun x3 =>
        N (Tglidepathref08_Ceiling_0a y0.1 y0.2.1 y0.2.2.1 x3 true (w64 (y0.2.2.2.2.2.1 + (1 : Int))))
      else none
    else N (Tglidepathref08_Ceiling_0a y0.1 y0.2.1 y0.2.2.1 y0.2.2.2.1 y0.2.2.2.2.1 (w64 (y0.2.2.2.2.2.1 + (1 : Int))))
  else E (Xglidepathref08_Ceiling_0a (i3, b4))
theorem Bglidepathref08_Ceiling_0a_eq (F : FnT) (N : Q → Option (Ext × S)) (E : Ext × Q → Option (Ext × S)) (L0 : Q → Option Yglidepathref08_Ceiling_0) (L2 : Q → Option Yglidepathref08_Ceiling_2) (n0 : Nat) (c1 : List PV) (i2 : Int) (i3 : Int) (b4 : Bool) (i5 : Int) : semB (callP F Eglidepathref08_Ceiling 20) s40 (loopT [⟨0, Yglidepathref08_Ceiling_0, L0, XLglidepathref08_Ceiling_0⟩, ⟨2, Yglidepathref08_Ceiling_2, L2, XLglidepathref08_Ceiling_2⟩]) 400 (blkIn a40.body 0) N E (Tglidepathref08_Ceiling_0a n0 c1 i2 i3 b4 i5) = Bglidepathref08_Ceiling_0a F N E L0 L2 n0 c1 i2 i3 b4 i5 := by kernel_rfl
theorem Rglidepathref08_Ceiling_0a_of  (n0 : Nat) (c1 : List PV) (i2 : Int) (i3 : Int) (b4 : Bool) (i5 : Int) {r : Ext × S} (h : Bglidepathref08_Ceiling_0a (Fn env) Rglidepathref08_Ceiling_0 exO Lglidepathref08_Ceiling_0 Lglidepathref08_Ceiling_2 n0 c1 i2 i3 b4 i5 = some r) : Rglidepathref08_Ceiling_0 (Tglidepathref08_Ceiling_0a n0 c1 i2 i3 b4 i5) = some r :=
  lp_of Eglidepathref08_Ceiling_ok (by kernel_rfl) (lo_cons (lpO_ok Uglidepathref08_Ceiling) (lo_cons (lpO_ok Uglidepathref08_Ceiling) lo_nil)) (by kernel_rfl) ((Bglidepathref08_Ceiling_0a_eq _ _ _ _ _ _ _ _ _ _ _).trans h)
def Bglidepathref08_Ceiling_2a (F : FnT) (N : Q → Option (Ext × S)) (E : Ext × Q → Option (Ext × S)) (L0 : Q → Option Yglidepathref08_Ceiling_0) (L2 : Q → Option Yglidepathref08_Ceiling_2) (n0 : Nat) (c1 : List PV) (i2 : Int) (i3 : Int) (b4 : Bool) (i5 : Int) (i6 : Int) (i7 : Int) : Option (Ext × S) :=
  bif (decide (i7 < (n0 : Int))) then
    bif (decide (((0 : Int) ≤ i7) ∧ (i7 < (n0 : Int)))) then
      bindO (intC IntKind.i64 (c1[(((Int.toNat i7) * 3) + 0)]?)) fun x0 =>
      bif (decide (((0 : Int) ≤ i5) ∧ (i5 < (n0 : Int)))) then
        bindO (intC IntKind.i64 (c1[(((Int.toNat i5) * 3) + 0)]?)) fun x1 =>
        bif (decide (x0 < x1)) then
          bif (decide (((0 : Int) ≤ i7) ∧ (i7 < (n0 : Int)))) then
            bindO (intC IntKind.i64 (c1[(((Int.toNat i7) * 3) + 2)]?)) fun x2 =>
            N (Tglidepathref08_Ceiling_2a n0 c1 i2 i3 b4 i5 (w64 (i6 + x2)) (w64 (i7 + (1 : Int))))
          else none
        else bif (decide (((0 : Int) ≤ i7) ∧ (i7 < (n0 : Int)))) then
          bindO (intC IntKind.i64 (c1[(((Int.toNat i7) * 3) + 0)]?)) fun x3 =>
          bif (decide (((0 : Int) ≤ i5) ∧ (i5 < (n0 : Int)))) then
            bindO (intC IntKind.i64 (c1[(((Int.toNat i5) * 3) + 0)]?)) fun x4 =>
            bif (x3 == x4) then
              bif (decide (i7 ≤ i5)) then
                bif (decide (((0 : Int) ≤ i7) ∧ (i7 < (n0 : Int)))) then
                  bindO (intC IntKind.i64 (c1[(((Int.toNat i7) * 3) + 2)]?)) fun x5 =>
                  N (Tglidepathref08_Ceiling_2a n0 c1 i2 i3 b4 i5 (w64 (i6 + x5)) (w64 (i7 + (1 : Int))))
                else none
              else N (Tglidepathref08_Ceiling_2a n0 c1 i2 i3 b4 i5 i6 (w64 (i7 + (1 : Int))))
            else N (Tglidepathref08_Ceiling_2a n0 c1 i2 i3 b4 i5 i6 (w64 (i7 + (1 : Int))))
          else none
        else none
      else none
    else none
  else E (Xglidepathref08_Ceiling_2a (n0, c1, i2, i3, b4, i5, i6))
theorem Bglidepathref08_Ceiling_2a_eq (F : FnT) (N : Q → Option (Ext × S)) (E : Ext × Q → Option (Ext × S)) (L0 : Q → Option Yglidepathref08_Ceiling_0) (L2 : Q → Option Yglidepathref08_Ceiling_2) (n0 : Nat) (c1 : List PV) (i2 : Int) (i3 : Int) (b4 : Bool) (i5 : Int) (i6 : Int) (i7 : Int) : semB (callP F Eglidepathref08_Ceiling 20) s40 (loopT [⟨0, Yglidepathref08_Ceiling_0, L0, XLglidepathref08_Ceiling_0⟩, ⟨2, Yglidepathref08_Ceiling_2, L2, XLglidepathref08_Ceiling_2⟩]) 400 (blkIn a40.body 2) N E (Tglidepathref08_Ceiling_2a n0 c1 i2 i3 b4 i5 i6 i7) = Bglidepathref08_Ceiling_2a F N E L0 L2 n0 c1 i2 i3 b4 i5 i6 i7 := by kernel_rfl
theorem Rglidepathref08_Ceiling_2a_of  (n0 : Nat) (c1 : List PV) (i2 : Int) (i3 : Int) (b4 : Bool) (i5 : Int) (i6 : Int) (i7 : Int) {r : Ext × S} (h : Bglidepathref08_Ceiling_2a (Fn env) Rglidepathref08_Ceiling_2 exO Lglidepathref08_Ceiling_0 Lglidepathref08_Ceiling_2 n0 c1 i2 i3 b4 i5 i6 i7 = some r) : Rglidepathref08_Ceiling_2 (Tglidepathref08_Ceiling_2a n0 c1 i2 i3 b4 i5 i6 i7) = some r :=
  lp_of Eglidepathref08_Ceiling_ok (by kernel_rfl) (lo_cons (lpO_ok Uglidepathref08_Ceiling) (lo_cons (lpO_ok Uglidepathref08_Ceiling) lo_nil)) (by kernel_rfl) ((Bglidepathref08_Ceiling_2a_eq _ _ _ _ _ _ _ _ _ _ _ _ _).trans h)
def tglidepathref08_Ceiling (F : FnT) (L0 : Q → Option Yglidepathref08_Ceiling_0) (L2 : Q → Option Yglidepathref08_Ceiling_2) (p0n : Nat) (p0c : List PV) (p1 : Int) : Option ((Int) × (Bool)) :=
  bindO (L0 (Tglidepathref08_Ceiling_0a p0n p0c p1 (0 : Int) false (0 : Int))) fun y0 =>
  bif y0.2 then
    some (y0.1, true)
  else some (y0.1, false)
theorem tglidepathref08_Ceiling_eq (F : FnT) (L0 : Q → Option Yglidepathref08_Ceiling_0) (L2 : Q → Option Yglidepathref08_Ceiling_2) (p0n : Nat) (p0c : List PV) (p1 : Int) : semF (callP F Eglidepathref08_Ceiling 20) s40 (loopT [⟨0, Yglidepathref08_Ceiling_0, L0, XLglidepathref08_Ceiling_0⟩, ⟨2, Yglidepathref08_Ceiling_2, L2, XLglidepathref08_Ceiling_2⟩]) 400 a40 [PV.list p0n p0c, PV.int IntKind.i64 p1] (fun rv => decR (RSh.tup [(Prod.mk false [(CK.int IntKind.i64)]), (Prod.mk false [CK.bool])]) rv.pv) = tglidepathref08_Ceiling F L0 L2 p0n p0c p1 := by kernel_rfl
noncomputable abbrev Fglidepathref08_Ceiling (args : List PV) := Fn env 40 (RSh.tup [(Prod.mk false [(CK.int IntKind.i64)]), (Prod.mk false [CK.bool])]) args
theorem Fglidepathref08_Ceiling_of  (p0n : Nat) (p0c : List PV) (p1 : Int) {res : ((Int) × (Bool))} (h : tglidepathref08_Ceiling (Fn env) Lglidepathref08_Ceiling_0 Lglidepathref08_Ceiling_2 p0n p0c p1 = some res) : Fglidepathref08_Ceiling [PV.list p0n p0c, PV.int IntKind.i64 p1] = some res :=
  fn_of Eglidepathref08_Ceiling_ok rfl rfl (lo_cons (lpO_ok Uglidepathref08_Ceiling) (lo_cons (lpO_ok Uglidepathref08_Ceiling) lo_nil)) ((tglidepathref08_Ceiling_eq _ _ _ _ _ _).trans h)

end Gv
