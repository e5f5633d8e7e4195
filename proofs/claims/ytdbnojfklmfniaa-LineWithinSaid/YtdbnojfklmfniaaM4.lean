/- What the functions do, round by round: M4. -/
import Derived.Test.YtdbnojfklmfniaaM2
namespace Gv
open Go
set_option maxRecDepth 100000

/-! ### refEstimate0 -/

def ErefEstimate0 : List Entry := [.out 19 (RSh.one (CK.int IntKind.i64)), .out 18 (RSh.agg [(CK.int IntKind.i64), (CK.int IntKind.i64)]), .out 74 (RSh.one (CK.int IntKind.i64))]
theorem ErefEstimate0_ok : ∀ e ∈ ErefEstimate0, EntOK env e := (ent_out (ent_out (ent_out ent_nil)))
theorem UrefEstimate0 : uniq ((blocksOf a81.body).map (·.1)) = true := by kernel_rfl
def trefEstimate0 (F : FnT)(n : Nat) (cs : List PV) : Option ((Int) × (Int)) :=
  bindO (F 19 (RSh.one (CK.int IntKind.i64)) [(PV.list n cs)]) fun (y0 : (Int)) =>
  bif (y0 == (0 : Int)) then
    bindO (F 18 (RSh.agg [(CK.int IntKind.i64), (CK.int IntKind.i64)]) [(PV.int IntKind.i64 (0 : Int))]) fun (y1 : ((Int) × (Int))) =>
    some (y1.1, y1.2)
  else bindO (F 74 (RSh.one (CK.int IntKind.i64)) [(PV.list n cs)]) fun (y2 : (Int)) =>
  bindO (F 18 (RSh.agg [(CK.int IntKind.i64), (CK.int IntKind.i64)]) [(PV.int IntKind.i64 y2)]) fun (y3 : ((Int) × (Int))) =>
  some (y3.1, y3.2)
theorem trefEstimate0_eq (F : FnT)(n : Nat) (cs : List PV) : semF (callP F ErefEstimate0 20) s81 (loopT []) 400 a81 [.list n cs, .int .i64 0] (fun rv => decR (RSh.agg [(CK.int IntKind.i64), (CK.int IntKind.i64)]) rv.pv) = trefEstimate0 F n cs := by kernel_rfl
noncomputable abbrev FrefEstimate0 (args : List PV) := Fn env 81 (RSh.agg [(CK.int IntKind.i64), (CK.int IntKind.i64)]) args
theorem FrefEstimate0_of (n : Nat) (cs : List PV) {res : ((Int) × (Int))} (h : trefEstimate0 (Fn env) n cs = some res) : FrefEstimate0 [.list n cs, .int .i64 0] = some res :=
  fn_of ErefEstimate0_ok rfl rfl lo_nil ((trefEstimate0_eq _ _ _).trans h)

/-! ### refEstimate1 -/

def ErefEstimate1 : List Entry := [.out 19 (RSh.one (CK.int IntKind.i64)), .out 18 (RSh.agg [(CK.int IntKind.i64), (CK.int IntKind.i64)]), .out 74 (RSh.one (CK.int IntKind.i64)), .out 116 (RSh.tup [(Prod.mk true [(CK.int IntKind.i64), (CK.int IntKind.i64)]), (Prod.mk false [CK.bool])])]
theorem ErefEstimate1_ok : ∀ e ∈ ErefEstimate1, EntOK env e := (ent_out (ent_out (ent_out (ent_out ent_nil))))
theorem UrefEstimate1 : uniq ((blocksOf a81.body).map (·.1)) = true := by kernel_rfl
def trefEstimate1 (F : FnT)(n : Nat) (cs : List PV) : Option ((Int) × (Int)) :=
  bindO (F 19 (RSh.one (CK.int IntKind.i64)) [(PV.list n cs)]) fun (y0 : (Int)) =>
  bif (y0 == (0 : Int)) then
    bindO (F 18 (RSh.agg [(CK.int IntKind.i64), (CK.int IntKind.i64)]) [(PV.int IntKind.i64 (0 : Int))]) fun (y1 : ((Int) × (Int))) =>
    some (y1.1, y1.2)
  else bindO (F 74 (RSh.one (CK.int IntKind.i64)) [(PV.list n cs)]) fun (_y2 : (Int)) =>
  bindO (F 116 (RSh.tup [(Prod.mk true [(CK.int IntKind.i64), (CK.int IntKind.i64)]), (Prod.mk false [CK.bool])]) [(PV.list n cs), (PV.int IntKind.i64 (0 : Int)), (PV.int IntKind.i64 (w64 ((n : Int) - (1 : Int))))]) fun (y3 : ((Int) × ((Int) × (Bool)))) =>
  bif y3.2.2 then
    some (y3.1, y3.2.1)
  else some (y3.1, y3.2.1)
theorem trefEstimate1_eq (F : FnT)(n : Nat) (cs : List PV) : semF (callP F ErefEstimate1 20) s81 (loopT []) 400 a81 [.list n cs, .int .i64 1] (fun rv => decR (RSh.agg [(CK.int IntKind.i64), (CK.int IntKind.i64)]) rv.pv) = trefEstimate1 F n cs := by kernel_rfl
noncomputable abbrev FrefEstimate1 (args : List PV) := Fn env 81 (RSh.agg [(CK.int IntKind.i64), (CK.int IntKind.i64)]) args
theorem FrefEstimate1_of (n : Nat) (cs : List PV) {res : ((Int) × (Int))} (h : trefEstimate1 (Fn env) n cs = some res) : FrefEstimate1 [.list n cs, .int .i64 1] = some res :=
  fn_of ErefEstimate1_ok rfl rfl lo_nil ((trefEstimate1_eq _ _ _).trans h)

/-! ### refEstimate2 -/

def ErefEstimate2 : List Entry := [.out 19 (RSh.one (CK.int IntKind.i64)), .out 18 (RSh.agg [(CK.int IntKind.i64), (CK.int IntKind.i64)]), .out 74 (RSh.one (CK.int IntKind.i64)), .out 21 (RSh.agg [(CK.int IntKind.i64), (CK.int IntKind.i64)])]
theorem ErefEstimate2_ok : ∀ e ∈ ErefEstimate2, EntOK env e := (ent_out (ent_out (ent_out (ent_out ent_nil))))
theorem UrefEstimate2 : uniq ((blocksOf a81.body).map (·.1)) = true := by kernel_rfl
def trefEstimate2 (F : FnT)(n : Nat) (cs : List PV) : Option ((Int) × (Int)) :=
  bindO (F 19 (RSh.one (CK.int IntKind.i64)) [(PV.list n cs)]) fun (y0 : (Int)) =>
  bif (y0 == (0 : Int)) then
    bindO (F 18 (RSh.agg [(CK.int IntKind.i64), (CK.int IntKind.i64)]) [(PV.int IntKind.i64 (0 : Int))]) fun (y1 : ((Int) × (Int))) =>
    some (y1.1, y1.2)
  else bindO (F 74 (RSh.one (CK.int IntKind.i64)) [(PV.list n cs)]) fun (y2 : (Int)) =>
  bif (y2 == (0 : Int)) then
    bindO (F 18 (RSh.agg [(CK.int IntKind.i64), (CK.int IntKind.i64)]) [(PV.int IntKind.i64 y2)]) fun (y3 : ((Int) × (Int))) =>
    some (y3.1, y3.2)
  else bif (y2 == (w64 ((n : Int) - (1 : Int)))) then
    bindO (F 18 (RSh.agg [(CK.int IntKind.i64), (CK.int IntKind.i64)]) [(PV.int IntKind.i64 y2)]) fun (y4 : ((Int) × (Int))) =>
    some (y4.1, y4.2)
  else bif (decide (((0 : Int) ≤ y2) ∧ (y2 < (n : Int)))) then
    bindO (intC IntKind.i64 (cs[((Int.toNat y2) * 1)]?)) fun x5 =>
    bif (decide (((0 : Int) ≤ (w64 (y2 - (1 : Int)))) ∧ ((w64 (y2 - (1 : Int))) < (n : Int)))) then
      bindO (intC IntKind.i64 (cs[((Int.toNat (w64 (y2 - (1 : Int)))) * 1)]?)) fun x6 =>
      bif (decide (((0 : Int) ≤ (w64 (y2 + (1 : Int)))) ∧ ((w64 (y2 + (1 : Int))) < (n : Int)))) then
        bindO (intC IntKind.i64 (cs[((Int.toNat (w64 (y2 + (1 : Int)))) * 1)]?)) fun x7 =>
        bif (decide ((w64 ((w64 ((w64 ((2 : Int) * x5)) - x6)) - x7)) ≤ (0 : Int))) then
          bindO (F 18 (RSh.agg [(CK.int IntKind.i64), (CK.int IntKind.i64)]) [(PV.int IntKind.i64 y2)]) fun (y8 : ((Int) × (Int))) =>
          some (y8.1, y8.2)
        else bif (decide (((0 : Int) ≤ (w64 (y2 + (1 : Int)))) ∧ ((w64 (y2 + (1 : Int))) < (n : Int)))) then
          bindO (intC IntKind.i64 (cs[((Int.toNat (w64 (y2 + (1 : Int)))) * 1)]?)) fun x9 =>
          bif (decide (((0 : Int) ≤ (w64 (y2 - (1 : Int)))) ∧ ((w64 (y2 - (1 : Int))) < (n : Int)))) then
            bindO (intC IntKind.i64 (cs[((Int.toNat (w64 (y2 - (1 : Int)))) * 1)]?)) fun x10 =>
            bindO (F 21 (RSh.agg [(CK.int IntKind.i64), (CK.int IntKind.i64)]) [(PV.int IntKind.i64 (w64 ((w64 ((w64 ((w64 ((2 : Int) * (w64 ((w64 ((w64 ((2 : Int) * x5)) - x6)) - x7)))) * y2)) + x9)) - x10))), (PV.int IntKind.i64 (w64 ((2 : Int) * (w64 ((w64 ((w64 ((2 : Int) * x5)) - x6)) - x7)))))]) fun (y11 : ((Int) × (Int))) =>
            some (y11.1, y11.2)
          else none
        else none
      else none
    else none
  else none
theorem trefEstimate2_eq (F : FnT)(n : Nat) (cs : List PV) : semF (callP F ErefEstimate2 20) s81 (loopT []) 400 a81 [.list n cs, .int .i64 2] (fun rv => decR (RSh.agg [(CK.int IntKind.i64), (CK.int IntKind.i64)]) rv.pv) = trefEstimate2 F n cs := by kernel_rfl
noncomputable abbrev FrefEstimate2 (args : List PV) := Fn env 81 (RSh.agg [(CK.int IntKind.i64), (CK.int IntKind.i64)]) args
theorem FrefEstimate2_of (n : Nat) (cs : List PV) {res : ((Int) × (Int))} (h : trefEstimate2 (Fn env) n cs = some res) : FrefEstimate2 [.list n cs, .int .i64 2] = some res :=
  fn_of ErefEstimate2_ok rfl rfl lo_nil ((trefEstimate2_eq _ _ _).trans h)

/-! ### refEstimate3 -/

def ErefEstimate3 : List Entry := [.out 19 (RSh.one (CK.int IntKind.i64)), .out 18 (RSh.agg [(CK.int IntKind.i64), (CK.int IntKind.i64)]), .out 74 (RSh.one (CK.int IntKind.i64))]
theorem ErefEstimate3_ok : ∀ e ∈ ErefEstimate3, EntOK env e := (ent_out (ent_out (ent_out ent_nil)))
def TrefEstimate3_1a (n0 : Nat) (c1 : List PV) (i2 : Int) (i3 : Int) : Q := ⟨(tm 102 [(0, (AV.p (PV.list n0 c1))), (4, (AV.loc 4 0)), (5, (AV.p (PV.int IntKind.i64 i2))), (9, (AV.p (PV.int IntKind.i64 i3)))]), (mm 102 [(4, (Bk.pcs true [(PV.int IntKind.i64 (0 : Int)), (PV.int IntKind.i64 (0 : Int))]))])⟩
def XrefEstimate3_1a (y : Int × Int) : Ext × Q := (Ext.ret, ⟨(tm 102 [(4, (AV.loc 4 0))]), (mm 102 [(4, (Bk.pcs true [(PV.int IntKind.i64 y.1), (PV.int IntKind.i64 y.2)]))])⟩)
def IrefEstimate3_1a (q : Ext × S) : Int × Int := ((pP_int1 (hdP (pB_pcs1 (avM q.2 4)))), (pP_int1 (hdP (List.tail (pB_pcs1 (avM q.2 4))))))
def XrefEstimate3_1b (y : Int) : Ext × Q := (Ext.normal, ⟨(tm 102 [(4, (AV.loc 4 0)), (5, (AV.p (PV.int IntKind.i64 y)))]), (mm 102 [(4, (Bk.pcs true [(PV.int IntKind.i64 (0 : Int)), (PV.int IntKind.i64 (0 : Int))]))])⟩)
def IrefEstimate3_1b (q : Ext × S) : Int := (pP_int1 (pA_p (avT q.2 5)))
abbrev YrefEstimate3_1 : Type := (Int × Int) ⊕ ((Int))
def XLrefEstimate3_1 : XL YrefEstimate3_1 := .more XrefEstimate3_1a (.one XrefEstimate3_1b)
def IrefEstimate3_1 (q : Ext × S) : YrefEstimate3_1 := bif (cE q.1 == 2) then (Sum.inl (IrefEstimate3_1a q)) else (Sum.inr (IrefEstimate3_1b q))
theorem XIrefEstimate3_1a (y : Int × Int) : IrefEstimate3_1 (xe (XrefEstimate3_1a y)) = (Sum.inl y) := rfl
theorem XIrefEstimate3_1b (y : Int) : IrefEstimate3_1 (xe (XrefEstimate3_1b y)) = (Sum.inr y) := rfl
theorem XIrefEstimate3_1 (y : YrefEstimate3_1) : IrefEstimate3_1 (xe (XLrefEstimate3_1.fn y)) = y := (match y with | .inl y => XIrefEstimate3_1a y | .inr y => XIrefEstimate3_1b y)
noncomputable abbrev LrefEstimate3_1 : Q → Option YrefEstimate3_1 := lpO env a81.body 1 XLrefEstimate3_1
noncomputable abbrev RrefEstimate3_1 : Q → Option (Ext × S) := lpR env a81.body 1
theorem LrefEstimate3_1a_of {s : Q} {y : Int × Int} (h : RrefEstimate3_1 s = exO (XrefEstimate3_1a y)) : LrefEstimate3_1 s = some (Sum.inl y) := lpO_of IrefEstimate3_1 XIrefEstimate3_1 (y := (Sum.inl y)) h
theorem LrefEstimate3_1b_of {s : Q} {y : Int} (h : RrefEstimate3_1 s = exO (XrefEstimate3_1b y)) : LrefEstimate3_1 s = some (Sum.inr y) := lpO_of IrefEstimate3_1 XIrefEstimate3_1 (y := (Sum.inr y)) h
theorem UrefEstimate3 : uniq ((blocksOf a81.body).map (·.1)) = true := by kernel_rfl
def BrefEstimate3_1a (F : FnT) (N : Q → Option (Ext × S)) (E : Ext × Q → Option (Ext × S)) (_L1 : Q → Option YrefEstimate3_1) (n0 : Nat) (c1 : List PV) (i2 : Int) (i3 : Int) : Option (Ext × S) :=
  bif (decide (i3 < (n0 : Int))) then
    bif (decide (((0 : Int) ≤ (w64 (i3 + (1 : Int)))) ∧ ((w64 (i3 + (1 : Int))) ≤ ((Prod.mk n0 c1).1 : Int)))) then
      bif (decide ((0 = (Int.toNat (w64 (i3 + (1 : Int))))) ∨ (((0 * 1) + (((Int.toNat (w64 (i3 + (1 : Int)))) - 0) * 1)) ≤ (List.length c1)))) then
        bindO (F 19 (RSh.one (CK.int IntKind.i64)) [(PV.list ((Int.toNat (w64 (i3 + (1 : Int)))) - 0) (List.take (((Int.toNat (w64 (i3 + (1 : Int)))) - 0) * 1) (List.drop 0 c1)))]) fun (y0 : (Int)) =>
        bindO (F 19 (RSh.one (CK.int IntKind.i64)) [(PV.list n0 c1)]) fun (y1 : (Int)) =>
        bif (decide ((w64 ((2 : Int) * y0)) ≥ y1)) then
          bindO (F 18 (RSh.agg [(CK.int IntKind.i64), (CK.int IntKind.i64)]) [(PV.int IntKind.i64 i3)]) fun (y2 : ((Int) × (Int))) =>
          E (XrefEstimate3_1a (y2.1, y2.2))
        else N (TrefEstimate3_1a n0 c1 i2 (w64 (i3 + (1 : Int))))
      else none
    else none
  else E (XrefEstimate3_1b i2)
theorem BrefEstimate3_1a_eq (F : FnT) (N : Q → Option (Ext × S)) (E : Ext × Q → Option (Ext × S)) (L1 : Q → Option YrefEstimate3_1) (n0 : Nat) (c1 : List PV) (i2 : Int) (i3 : Int) : semB (callP F ErefEstimate3 20) s81 (loopT [⟨1, YrefEstimate3_1, L1, XLrefEstimate3_1⟩]) 400 (blkIn a81.body 1) N E (TrefEstimate3_1a n0 c1 i2 i3) = BrefEstimate3_1a F N E L1 n0 c1 i2 i3 := by kernel_rfl
theorem RrefEstimate3_1a_of  (n0 : Nat) (c1 : List PV) (i2 : Int) (i3 : Int) {r : Ext × S} (h : BrefEstimate3_1a (Fn env) RrefEstimate3_1 exO LrefEstimate3_1 n0 c1 i2 i3 = some r) : RrefEstimate3_1 (TrefEstimate3_1a n0 c1 i2 i3) = some r :=
  lp_of ErefEstimate3_ok (by kernel_rfl) (lo_cons (lpO_ok UrefEstimate3) lo_nil) (by kernel_rfl) ((BrefEstimate3_1a_eq _ _ _ _ _ _ _ _).trans h)
def trefEstimate3 (F : FnT) (L1 : Q → Option YrefEstimate3_1)(n : Nat) (cs : List PV) : Option ((Int) × (Int)) :=
  bindO (F 19 (RSh.one (CK.int IntKind.i64)) [(PV.list n cs)]) fun (y0 : (Int)) =>
  bif (y0 == (0 : Int)) then
    bindO (F 18 (RSh.agg [(CK.int IntKind.i64), (CK.int IntKind.i64)]) [(PV.int IntKind.i64 (0 : Int))]) fun (y1 : ((Int) × (Int))) =>
    some (y1.1, y1.2)
  else bindO (F 74 (RSh.one (CK.int IntKind.i64)) [(PV.list n cs)]) fun (y2 : (Int)) =>
  bindO (L1 (TrefEstimate3_1a n cs y2 (0 : Int))) fun z =>
  Sum.elim (fun y3 =>
    some (y3.1, y3.2)) (fun y4 =>
    bindO (F 18 (RSh.agg [(CK.int IntKind.i64), (CK.int IntKind.i64)]) [(PV.int IntKind.i64 y4)]) fun (y5 : ((Int) × (Int))) =>
    some (y5.1, y5.2)) z
theorem trefEstimate3_eq (F : FnT) (L1 : Q → Option YrefEstimate3_1)(n : Nat) (cs : List PV) : semF (callP F ErefEstimate3 20) s81 (loopT [⟨1, YrefEstimate3_1, L1, XLrefEstimate3_1⟩]) 400 a81 [.list n cs, .int .i64 3] (fun rv => decR (RSh.agg [(CK.int IntKind.i64), (CK.int IntKind.i64)]) rv.pv) = trefEstimate3 F L1 n cs := by kernel_rfl
noncomputable abbrev FrefEstimate3 (args : List PV) := Fn env 81 (RSh.agg [(CK.int IntKind.i64), (CK.int IntKind.i64)]) args
theorem FrefEstimate3_of (n : Nat) (cs : List PV) {res : ((Int) × (Int))} (h : trefEstimate3 (Fn env) LrefEstimate3_1 n cs = some res) : FrefEstimate3 [.list n cs, .int .i64 3] = some res :=
  fn_of ErefEstimate3_ok rfl rfl (lo_cons (lpO_ok UrefEstimate3) lo_nil) ((trefEstimate3_eq _ _ _ _).trans h)

end Gv
