/- What the functions do, round by round: M13. -/
import Derived.Test.YtkbbilbpejbmiaaM2
namespace Gv
open Go
set_option maxRecDepth 100000

/-! ### RfCheckNoise -/

def ERfCheckNoise : List Entry := [.out 8 (RSh.one CK.bool)]
theorem ERfCheckNoise_ok : ∀ e ∈ ERfCheckNoise, EntOK env e := (ent_out ent_nil)
def TRfCheckNoise_0a (i0 : Int) (n1 : Nat) (c2 : List PV) : Q := ⟨(tm 28 [(1, (AV.loc 1 0)), (4, (AV.p (PV.int IntKind.i64 i0)))]), (mm 28 [(1, (Bk.cells true [(AV.p (PV.list n1 c2))]))])⟩
def XRfCheckNoise_0a (y : Int) : Ext × Q := (Ext.ret, ⟨(tm 28 [(2, (AV.p (PV.int IntKind.i64 y))), (3, (AV.p (PV.int IntKind.i64 (2 : Int))))]), (mm 28 [])⟩)
def IRfCheckNoise_0a (q : Ext × S) : Int := (pP_int1 (pA_p (avT q.2 2)))
def XRfCheckNoise_0b (y : Nat × List PV) : Ext × Q := (Ext.normal, ⟨(tm 28 []), (mm 28 [(1, (Bk.cells true [(AV.p (PV.list y.1 y.2))]))])⟩)
def IRfCheckNoise_0b (q : Ext × S) : Nat × List PV := ((pP_list0 (pA_p (hdA (pB_cells1 (avM q.2 1))))), (pP_list1 (pA_p (hdA (pB_cells1 (avM q.2 1))))))
abbrev YRfCheckNoise_0 : Type := (Int) ⊕ ((Nat × List PV))
def XLRfCheckNoise_0 : XL YRfCheckNoise_0 := .more XRfCheckNoise_0a (.one XRfCheckNoise_0b)
def IRfCheckNoise_0 (q : Ext × S) : YRfCheckNoise_0 := bif (cE q.1 == 2) then (Sum.inl (IRfCheckNoise_0a q)) else (Sum.inr (IRfCheckNoise_0b q))
theorem XIRfCheckNoise_0a (y : Int) : IRfCheckNoise_0 (xe (XRfCheckNoise_0a y)) = (Sum.inl y) := rfl
theorem XIRfCheckNoise_0b (y : Nat × List PV) : IRfCheckNoise_0 (xe (XRfCheckNoise_0b y)) = (Sum.inr y) := rfl
theorem XIRfCheckNoise_0 (y : YRfCheckNoise_0) : IRfCheckNoise_0 (xe (XLRfCheckNoise_0.fn y)) = y := (match y with | .inl y => XIRfCheckNoise_0a y | .inr y => XIRfCheckNoise_0b y)
noncomputable abbrev LRfCheckNoise_0 : Q → Option YRfCheckNoise_0 := lpO env a34.body 0 XLRfCheckNoise_0
noncomputable abbrev RRfCheckNoise_0 : Q → Option (Ext × S) := lpR env a34.body 0
theorem LRfCheckNoise_0a_of {s : Q} {y : Int} (h : RRfCheckNoise_0 s = exO (XRfCheckNoise_0a y)) : LRfCheckNoise_0 s = some (Sum.inl y) := lpO_of IRfCheckNoise_0 XIRfCheckNoise_0 (y := (Sum.inl y)) h
theorem LRfCheckNoise_0b_of {s : Q} {y : Nat × List PV} (h : RRfCheckNoise_0 s = exO (XRfCheckNoise_0b y)) : LRfCheckNoise_0 s = some (Sum.inr y) := lpO_of IRfCheckNoise_0 XIRfCheckNoise_0 (y := (Sum.inr y)) h
theorem URfCheckNoise : uniq ((blocksOf a34.body).map (·.1)) = true := by kernel_rfl
def BRfCheckNoise_0a (F : FnT) (N : Q → Option (Ext × S)) (E : Ext × Q → Option (Ext × S)) (L0 : Q → Option YRfCheckNoise_0) (i0 : Int) (n1 : Nat) (c2 : List PV) : Option (Ext × S) :=
  bif (decide (i0 < (n1 : Int))) then
    bif (decide (((0 : Int) ≤ i0) ∧ (i0 < (n1 : Int)))) then
      bindO (intC IntKind.i64 (c2[((Int.toNat i0) * 1)]?)) fun x0 =>
      bindO (F 8 (RSh.one CK.bool) [(PV.int IntKind.i64 x0), (PV.int IntKind.i64 (0 : Int)), (PV.int IntKind.i64 (1000 : Int))]) fun (y1 : (Bool)) =>
      bif y1 then
        N (TRfCheckNoise_0a (w64 (i0 + (1 : Int))) n1 c2)
      else E (XRfCheckNoise_0a i0)
    else none
  else E (XRfCheckNoise_0b (n1, c2))
theorem BRfCheckNoise_0a_eq (F : FnT) (N : Q → Option (Ext × S)) (E : Ext × Q → Option (Ext × S)) (L0 : Q → Option YRfCheckNoise_0) (i0 : Int) (n1 : Nat) (c2 : List PV) : semB (callP F ERfCheckNoise 20) s34 (loopT [⟨0, YRfCheckNoise_0, L0, XLRfCheckNoise_0⟩]) 400 (blkIn a34.body 0) N E (TRfCheckNoise_0a i0 n1 c2) = BRfCheckNoise_0a F N E L0 i0 n1 c2 := by kernel_rfl
theorem RRfCheckNoise_0a_of  (i0 : Int) (n1 : Nat) (c2 : List PV) {r : Ext × S} (h : BRfCheckNoise_0a (Fn env) RRfCheckNoise_0 exO LRfCheckNoise_0 i0 n1 c2 = some r) : RRfCheckNoise_0 (TRfCheckNoise_0a i0 n1 c2) = some r :=
  lp_of ERfCheckNoise_ok (by kernel_rfl) (lo_cons (lpO_ok URfCheckNoise) lo_nil) (by kernel_rfl) ((BRfCheckNoise_0a_eq _ _ _ _ _ _ _).trans h)
def tRfCheckNoise (F : FnT) (L0 : Q → Option YRfCheckNoise_0) (p0_0n : Nat) (p0_0c : List PV) : Option ((Int) × (Int)) :=
  bif ((p0_0n : Int) == (0 : Int)) then
    some ((0 : Int), (10 : Int))
  else bif (decide ((p0_0n : Int) > (4 : Int))) then
    some ((0 : Int), (8 : Int))
  else bindO (L0 (TRfCheckNoise_0a (0 : Int) p0_0n p0_0c)) fun z =>
  Sum.elim (fun y0 =>
    some (y0, (2 : Int))) (fun y1 =>
    some ((0 : Int), (0 : Int))) z
theorem tRfCheckNoise_eq (F : FnT) (L0 : Q → Option YRfCheckNoise_0) (p0_0n : Nat) (p0_0c : List PV) : semF (callP F ERfCheckNoise 20) s34 (loopT [⟨0, YRfCheckNoise_0, L0, XLRfCheckNoise_0⟩]) 400 a34 [PV.agg [PV.list p0_0n p0_0c]] (fun rv => decR (RSh.tup [(Prod.mk false [(CK.int IntKind.i64)]), (Prod.mk false [(CK.int IntKind.i64)])]) rv.pv) = tRfCheckNoise F L0 p0_0n p0_0c := by kernel_rfl
noncomputable abbrev FRfCheckNoise (args : List PV) := Fn env 34 (RSh.tup [(Prod.mk false [(CK.int IntKind.i64)]), (Prod.mk false [(CK.int IntKind.i64)])]) args
theorem FRfCheckNoise_of  (p0_0n : Nat) (p0_0c : List PV) {res : ((Int) × (Int))} (h : tRfCheckNoise (Fn env) LRfCheckNoise_0 p0_0n p0_0c = some res) : FRfCheckNoise [PV.agg [PV.list p0_0n p0_0c]] = some res :=
  fn_of ERfCheckNoise_ok rfl rfl (lo_cons (lpO_ok URfCheckNoise) lo_nil) ((tRfCheckNoise_eq _ _ _ _).trans h)

/-! ### RfNoiseErr -/

def ERfNoiseErr : List Entry := [.out 34 (RSh.tup [(Prod.mk false [(CK.int IntKind.i64)]), (Prod.mk false [(CK.int IntKind.i64)])])]
theorem ERfNoiseErr_ok : ∀ e ∈ ERfNoiseErr, EntOK env e := (ent_out ent_nil)
theorem URfNoiseErr : uniq ((blocksOf a7.body).map (·.1)) = true := by kernel_rfl
def tRfNoiseErr (F : FnT) (p0_0n : Nat) (p0_0c : List PV) : Option (Int) :=
  bindO (F 34 (RSh.tup [(Prod.mk false [(CK.int IntKind.i64)]), (Prod.mk false [(CK.int IntKind.i64)])]) [(PV.agg [(PV.list p0_0n p0_0c)])]) fun (y0 : ((Int) × (Int))) =>
  some y0.2
theorem tRfNoiseErr_eq (F : FnT) (p0_0n : Nat) (p0_0c : List PV) : semF (callP F ERfNoiseErr 20) s7 (loopT []) 400 a7 [PV.agg [PV.list p0_0n p0_0c]] (fun rv => decR (RSh.one (CK.int IntKind.i64)) rv.pv) = tRfNoiseErr F p0_0n p0_0c := by kernel_rfl
noncomputable abbrev FRfNoiseErr (args : List PV) := Fn env 7 (RSh.one (CK.int IntKind.i64)) args
theorem FRfNoiseErr_of  (p0_0n : Nat) (p0_0c : List PV) {res : (Int)} (h : tRfNoiseErr (Fn env) p0_0n p0_0c = some res) : FRfNoiseErr [PV.agg [PV.list p0_0n p0_0c]] = some res :=
  fn_of ERfNoiseErr_ok rfl rfl lo_nil ((tRfNoiseErr_eq _ _ _).trans h)

/-! ### BsIsLowest -/

def EBsIsLowest : List Entry := [.out 56 (RSh.one (CK.int IntKind.i64))]
theorem EBsIsLowest_ok : ∀ e ∈ EBsIsLowest, EntOK env e := (ent_out ent_nil)
theorem UBsIsLowest : uniq ((blocksOf a51.body).map (·.1)) = true := by kernel_rfl
def tBsIsLowest (F : FnT) (p0_0 : Int) (p0_1 : Int) : Option (Bool) :=
  bif (decide (p0_1 > (0 : Int))) then
    bindO (F 56 (RSh.one (CK.int IntKind.i64)) [(PV.int IntKind.i64 p0_0), (PV.int IntKind.i64 p0_1)]) fun (y0 : (Int)) =>
    bif (y0 == (1 : Int)) then
      some true
    else some false
  else some false
theorem tBsIsLowest_eq (F : FnT) (p0_0 : Int) (p0_1 : Int) : semF (callP F EBsIsLowest 20) s51 (loopT []) 400 a51 [PV.agg [PV.int IntKind.i64 p0_0, PV.int IntKind.i64 p0_1]] (fun rv => decR (RSh.one CK.bool) rv.pv) = tBsIsLowest F p0_0 p0_1 := by kernel_rfl
noncomputable abbrev FBsIsLowest (args : List PV) := Fn env 51 (RSh.one CK.bool) args
theorem FBsIsLowest_of  (p0_0 : Int) (p0_1 : Int) {res : (Bool)} (h : tBsIsLowest (Fn env) p0_0 p0_1 = some res) : FBsIsLowest [PV.agg [PV.int IntKind.i64 p0_0, PV.int IntKind.i64 p0_1]] = some res :=
  fn_of EBsIsLowest_ok rfl rfl lo_nil ((tBsIsLowest_eq _ _ _).trans h)

/-! ### BsIsSmall -/

def EBsIsSmall : List Entry := [.out 8 (RSh.one CK.bool)]
theorem EBsIsSmall_ok : ∀ e ∈ EBsIsSmall, EntOK env e := (ent_out ent_nil)
theorem UBsIsSmall : uniq ((blocksOf a52.body).map (·.1)) = true := by kernel_rfl
def tBsIsSmall (F : FnT) (p0_0 : Int) (p0_1 : Int) : Option (Bool) :=
  bindO (F 8 (RSh.one CK.bool) [(PV.int IntKind.i64 p0_0), (PV.int IntKind.i64 (-1000000000 : Int)), (PV.int IntKind.i64 (1000000000 : Int))]) fun (y0 : (Bool)) =>
  bif y0 then
    bindO (F 8 (RSh.one CK.bool) [(PV.int IntKind.i64 p0_1), (PV.int IntKind.i64 (1 : Int)), (PV.int IntKind.i64 (1000000000 : Int))]) fun (y1 : (Bool)) =>
    bif y1 then
      some true
    else some false
  else some false
theorem tBsIsSmall_eq (F : FnT) (p0_0 : Int) (p0_1 : Int) : semF (callP F EBsIsSmall 20) s52 (loopT []) 400 a52 [PV.agg [PV.int IntKind.i64 p0_0, PV.int IntKind.i64 p0_1]] (fun rv => decR (RSh.one CK.bool) rv.pv) = tBsIsSmall F p0_0 p0_1 := by kernel_rfl
noncomputable abbrev FBsIsSmall (args : List PV) := Fn env 52 (RSh.one CK.bool) args
theorem FBsIsSmall_of  (p0_0 : Int) (p0_1 : Int) {res : (Bool)} (h : tBsIsSmall (Fn env) p0_0 p0_1 = some res) : FBsIsSmall [PV.agg [PV.int IntKind.i64 p0_0, PV.int IntKind.i64 p0_1]] = some res :=
  fn_of EBsIsSmall_ok rfl rfl lo_nil ((tBsIsSmall_eq _ _ _).trans h)

/-! ### RfFracErr -/

def ERfFracErr : List Entry := [.out 51 (RSh.one CK.bool), .out 52 (RSh.one CK.bool)]
theorem ERfFracErr_ok : ∀ e ∈ ERfFracErr, EntOK env e := (ent_out (ent_out ent_nil))
theorem URfFracErr : uniq ((blocksOf a80.body).map (·.1)) = true := by kernel_rfl
def tRfFracErr (F : FnT) (p0_0 : Int) (p0_1 : Int) : Option (Int) :=
  bindO (F 51 (RSh.one CK.bool) [(PV.agg [(PV.int IntKind.i64 p0_0), (PV.int IntKind.i64 p0_1)])]) fun (y0 : (Bool)) =>
  bif y0 then
    bindO (F 52 (RSh.one CK.bool) [(PV.agg [(PV.int IntKind.i64 p0_0), (PV.int IntKind.i64 p0_1)])]) fun (y1 : (Bool)) =>
    bif y1 then
      some (0 : Int)
    else some (2 : Int)
  else some (3 : Int)
theorem tRfFracErr_eq (F : FnT) (p0_0 : Int) (p0_1 : Int) : semF (callP F ERfFracErr 20) s80 (loopT []) 400 a80 [PV.agg [PV.int IntKind.i64 p0_0, PV.int IntKind.i64 p0_1]] (fun rv => decR (RSh.one (CK.int IntKind.i64)) rv.pv) = tRfFracErr F p0_0 p0_1 := by kernel_rfl
noncomputable abbrev FRfFracErr (args : List PV) := Fn env 80 (RSh.one (CK.int IntKind.i64)) args
theorem FRfFracErr_of  (p0_0 : Int) (p0_1 : Int) {res : (Int)} (h : tRfFracErr (Fn env) p0_0 p0_1 = some res) : FRfFracErr [PV.agg [PV.int IntKind.i64 p0_0, PV.int IntKind.i64 p0_1]] = some res :=
  fn_of ERfFracErr_ok rfl rfl lo_nil ((tRfFracErr_eq _ _ _).trans h)

/-! ### RfTruthErr -/

def ERfTruthErr : List Entry := [.out 80 (RSh.one (CK.int IntKind.i64)), .out 8 (RSh.one CK.bool)]
theorem ERfTruthErr_ok : ∀ e ∈ ERfTruthErr, EntOK env e := (ent_out (ent_out ent_nil))
theorem URfTruthErr : uniq ((blocksOf a50.body).map (·.1)) = true := by kernel_rfl
def tRfTruthErr (F : FnT) (p0_0 : Int) (p0_1 : Int) : Option (Int) :=
  bindO (F 80 (RSh.one (CK.int IntKind.i64)) [(PV.agg [(PV.int IntKind.i64 p0_0), (PV.int IntKind.i64 p0_1)])]) fun (y0 : (Int)) =>
  bif (y0 != (0 : Int)) then
    some y0
  else bindO (F 8 (RSh.one CK.bool) [(PV.int IntKind.i64 p0_0), (PV.int IntKind.i64 (-100 : Int)), (PV.int IntKind.i64 (100 : Int))]) fun (y1 : (Bool)) =>
  bif y1 then
    bif (decide (p0_1 > (100 : Int))) then
      some (2 : Int)
    else some (0 : Int)
  else some (2 : Int)
theorem tRfTruthErr_eq (F : FnT) (p0_0 : Int) (p0_1 : Int) : semF (callP F ERfTruthErr 20) s50 (loopT []) 400 a50 [PV.agg [PV.int IntKind.i64 p0_0, PV.int IntKind.i64 p0_1]] (fun rv => decR (RSh.one (CK.int IntKind.i64)) rv.pv) = tRfTruthErr F p0_0 p0_1 := by kernel_rfl
noncomputable abbrev FRfTruthErr (args : List PV) := Fn env 50 (RSh.one (CK.int IntKind.i64)) args
theorem FRfTruthErr_of  (p0_0 : Int) (p0_1 : Int) {res : (Int)} (h : tRfTruthErr (Fn env) p0_0 p0_1 = some res) : FRfTruthErr [PV.agg [PV.int IntKind.i64 p0_0, PV.int IntKind.i64 p0_1]] = some res :=
  fn_of ERfTruthErr_ok rfl rfl lo_nil ((tRfTruthErr_eq _ _ _).trans h)

/-! ### RfCases -/

def ERfCases : List Entry := []
theorem ERfCases_ok : ∀ e ∈ ERfCases, EntOK env e := ent_nil
def TRfCases_0a (i0 : Int) (i1 : Int) (i2 : Int) (n3 : Nat) (c4 : List PV) : Q := ⟨(tm 20 [(1, (AV.p (PV.int IntKind.i64 i0))), (2, (AV.loc 2 0)), (5, (AV.p (PV.int IntKind.i64 i1))), (6, (AV.p (PV.int IntKind.i64 i2)))]), (mm 20 [(2, (Bk.cells true [(AV.p (PV.list n3 c4))]))])⟩
def XRfCases_0a (y : Unit) : Ext × Q := (Ext.ret, ⟨(tm 20 [(4, (AV.p (PV.int IntKind.i64 (4097 : Int))))]), (mm 20 [])⟩)
def IRfCases_0a (q : Ext × S) : Unit := ()
def XRfCases_0b (y : Int × Nat × List PV) : Ext × Q := (Ext.normal, ⟨(tm 20 [(5, (AV.p (PV.int IntKind.i64 y.1)))]), (mm 20 [(2, (Bk.cells true [(AV.p (PV.list y.2.1 y.2.2))]))])⟩)
def IRfCases_0b (q : Ext × S) : Int × Nat × List PV := ((pP_int1 (pA_p (avT q.2 5))), (pP_list0 (pA_p (hdA (pB_cells1 (avM q.2 2))))), (pP_list1 (pA_p (hdA (pB_cells1 (avM q.2 2))))))
abbrev YRfCases_0 : Type := (Unit) ⊕ ((Int × Nat × List PV))
def XLRfCases_0 : XL YRfCases_0 := .more XRfCases_0a (.one XRfCases_0b)
def IRfCases_0 (q : Ext × S) : YRfCases_0 := bif (cE q.1 == 2) then (Sum.inl (IRfCases_0a q)) else (Sum.inr (IRfCases_0b q))
theorem XIRfCases_0a (y : Unit) : IRfCases_0 (xe (XRfCases_0a y)) = (Sum.inl y) := rfl
theorem XIRfCases_0b (y : Int × Nat × List PV) : IRfCases_0 (xe (XRfCases_0b y)) = (Sum.inr y) := rfl
theorem XIRfCases_0 (y : YRfCases_0) : IRfCases_0 (xe (XLRfCases_0.fn y)) = y := (match y with | .inl y => XIRfCases_0a y | .inr y => XIRfCases_0b y)
noncomputable abbrev LRfCases_0 : Q → Option YRfCases_0 := lpO env a9.body 0 XLRfCases_0
noncomputable abbrev RRfCases_0 : Q → Option (Ext × S) := lpR env a9.body 0
theorem LRfCases_0a_of {s : Q} {y : Unit} (h : RRfCases_0 s = exO (XRfCases_0a y)) : LRfCases_0 s = some (Sum.inl y) := lpO_of IRfCases_0 XIRfCases_0 (y := (Sum.inl y)) h
theorem LRfCases_0b_of {s : Q} {y : Int × Nat × List PV} (h : RRfCases_0 s = exO (XRfCases_0b y)) : LRfCases_0 s = some (Sum.inr y) := lpO_of IRfCases_0 XIRfCases_0 (y := (Sum.inr y)) h
theorem URfCases : uniq ((blocksOf a9.body).map (·.1)) = true := by kernel_rfl
def BRfCases_0a (F : FnT) (N : Q → Option (Ext × S)) (E : Ext × Q → Option (Ext × S)) (L0 : Q → Option YRfCases_0) (i0 : Int) (i1 : Int) (i2 : Int) (n3 : Nat) (c4 : List PV) : Option (Ext × S) :=
  bif (decide (i2 < i0)) then
    bif (decide ((w64 (i1 * (n3 : Int))) > (4096 : Int))) then
      E (XRfCases_0a ())
    else N (TRfCases_0a i0 (w64 (i1 * (n3 : Int))) (w64 (i2 + (1 : Int))) n3 c4)
  else E (XRfCases_0b (i1, n3, c4))
theorem BRfCases_0a_eq (F : FnT) (N : Q → Option (Ext × S)) (E : Ext × Q → Option (Ext × S)) (L0 : Q → Option YRfCases_0) (i0 : Int) (i1 : Int) (i2 : Int) (n3 : Nat) (c4 : List PV) : semB (callP F ERfCases 20) s9 (loopT [⟨0, YRfCases_0, L0, XLRfCases_0⟩]) 400 (blkIn a9.body 0) N E (TRfCases_0a i0 i1 i2 n3 c4) = BRfCases_0a F N E L0 i0 i1 i2 n3 c4 := by kernel_rfl
theorem RRfCases_0a_of  (i0 : Int) (i1 : Int) (i2 : Int) (n3 : Nat) (c4 : List PV) {r : Ext × S} (h : BRfCases_0a (Fn env) RRfCases_0 exO LRfCases_0 i0 i1 i2 n3 c4 = some r) : RRfCases_0 (TRfCases_0a i0 i1 i2 n3 c4) = some r :=
  lp_of ERfCases_ok (by kernel_rfl) (lo_cons (lpO_ok URfCases) lo_nil) (by kernel_rfl) ((BRfCases_0a_eq _ _ _ _ _ _ _ _ _).trans h)
def tRfCases (F : FnT) (L0 : Q → Option YRfCases_0) (p0_0n : Nat) (p0_0c : List PV) (p1 : Int) : Option (Int) :=
  bindO (L0 (TRfCases_0a p1 (1 : Int) (0 : Int) p0_0n p0_0c)) fun z =>
  Sum.elim (fun y0 =>
    some (4097 : Int)) (fun y1 =>
    some y1.1) z
theorem tRfCases_eq (F : FnT) (L0 : Q → Option YRfCases_0) (p0_0n : Nat) (p0_0c : List PV) (p1 : Int) : semF (callP F ERfCases 20) s9 (loopT [⟨0, YRfCases_0, L0, XLRfCases_0⟩]) 400 a9 [PV.agg [PV.list p0_0n p0_0c], PV.int IntKind.i64 p1] (fun rv => decR (RSh.one (CK.int IntKind.i64)) rv.pv) = tRfCases F L0 p0_0n p0_0c p1 := by kernel_rfl
noncomputable abbrev FRfCases (args : List PV) := Fn env 9 (RSh.one (CK.int IntKind.i64)) args
theorem FRfCases_of  (p0_0n : Nat) (p0_0c : List PV) (p1 : Int) {res : (Int)} (h : tRfCases (Fn env) LRfCases_0 p0_0n p0_0c p1 = some res) : FRfCases [PV.agg [PV.list p0_0n p0_0c], PV.int IntKind.i64 p1] = some res :=
  fn_of ERfCases_ok rfl rfl (lo_cons (lpO_ok URfCases) lo_nil) ((tRfCases_eq _ _ _ _ _).trans h)

/-! ### RfCaseErr -/

def ERfCaseErr : List Entry := [.out 49 (RSh.one (CK.int IntKind.i64)), .out 7 (RSh.one (CK.int IntKind.i64)), .out 9 (RSh.one (CK.int IntKind.i64)), .out 50 (RSh.one (CK.int IntKind.i64))]
theorem ERfCaseErr_ok : ∀ e ∈ ERfCaseErr, EntOK env e := (ent_out (ent_out (ent_out (ent_out ent_nil))))
def TRfCaseErr_0a (i0 : Int) (n1 : Nat) (c2 : List PV) (n3 : Nat) (c4 : List PV) (i5 : Int) (i6 : Int) : Q := ⟨(tm 41 [(1, (AV.loc 1 0)), (5, (AV.p (PV.int IntKind.i64 i0)))]), (mm 41 [(1, (Bk.cells true [(AV.p (PV.list n1 c2)), (AV.p (PV.list n3 c4)), (AV.p (PV.int IntKind.i64 i5)), (AV.p (PV.int IntKind.i64 i6))]))])⟩
def XRfCaseErr_0a (y : Unit) : Ext × Q := (Ext.ret, ⟨(tm 41 [(2, (AV.p (PV.int IntKind.i64 (2 : Int))))]), (mm 41 [])⟩)
def IRfCaseErr_0a (q : Ext × S) : Unit := ()
def XRfCaseErr_0b (y : Nat × List PV × Nat × List PV × Int × Int) : Ext × Q := (Ext.normal, ⟨(tm 41 [(1, (AV.loc 1 0))]), (mm 41 [(1, (Bk.cells true [(AV.p (PV.list y.1 y.2.1)), (AV.p (PV.list y.2.2.1 y.2.2.2.1)), (AV.p (PV.int IntKind.i64 y.2.2.2.2.1)), (AV.p (PV.int IntKind.i64 y.2.2.2.2.2))]))])⟩)
def IRfCaseErr_0b (q : Ext × S) : Nat × List PV × Nat × List PV × Int × Int := ((pP_list0 (pA_p (hdA (pB_cells1 (avM q.2 1))))), (pP_list1 (pA_p (hdA (pB_cells1 (avM q.2 1))))), (pP_list0 (pA_p (hdA (List.tail (pB_cells1 (avM q.2 1)))))), (pP_list1 (pA_p (hdA (List.tail (pB_cells1 (avM q.2 1)))))), (pP_int1 (pA_p (hdA (List.tail (List.tail (pB_cells1 (avM q.2 1))))))), (pP_int1 (pA_p (hdA (List.tail (List.tail (List.tail (pB_cells1 (avM q.2 1)))))))))
abbrev YRfCaseErr_0 : Type := (Unit) ⊕ ((Nat × List PV × Nat × List PV × Int × Int))
def XLRfCaseErr_0 : XL YRfCaseErr_0 := .more XRfCaseErr_0a (.one XRfCaseErr_0b)
def IRfCaseErr_0 (q : Ext × S) : YRfCaseErr_0 := bif (cE q.1 == 2) then (Sum.inl (IRfCaseErr_0a q)) else (Sum.inr (IRfCaseErr_0b q))
theorem XIRfCaseErr_0a (y : Unit) : IRfCaseErr_0 (xe (XRfCaseErr_0a y)) = (Sum.inl y) := rfl
theorem XIRfCaseErr_0b (y : Nat × List PV × Nat × List PV × Int × Int) : IRfCaseErr_0 (xe (XRfCaseErr_0b y)) = (Sum.inr y) := rfl
theorem XIRfCaseErr_0 (y : YRfCaseErr_0) : IRfCaseErr_0 (xe (XLRfCaseErr_0.fn y)) = y := (match y with | .inl y => XIRfCaseErr_0a y | .inr y => XIRfCaseErr_0b y)
noncomputable abbrev LRfCaseErr_0 : Q → Option YRfCaseErr_0 := lpO env a18.body 0 XLRfCaseErr_0
noncomputable abbrev RRfCaseErr_0 : Q → Option (Ext × S) := lpR env a18.body 0
theorem LRfCaseErr_0a_of {s : Q} {y : Unit} (h : RRfCaseErr_0 s = exO (XRfCaseErr_0a y)) : LRfCaseErr_0 s = some (Sum.inl y) := lpO_of IRfCaseErr_0 XIRfCaseErr_0 (y := (Sum.inl y)) h
theorem LRfCaseErr_0b_of {s : Q} {y : Nat × List PV × Nat × List PV × Int × Int} (h : RRfCaseErr_0 s = exO (XRfCaseErr_0b y)) : LRfCaseErr_0 s = some (Sum.inr y) := lpO_of IRfCaseErr_0 XIRfCaseErr_0 (y := (Sum.inr y)) h
theorem URfCaseErr : uniq ((blocksOf a18.body).map (·.1)) = true := by kernel_rfl
def BRfCaseErr_0a (F : FnT) (N : Q → Option (Ext × S)) (E : Ext × Q → Option (Ext × S)) (L0 : Q → Option YRfCaseErr_0) (i0 : Int) (n1 : Nat) (c2 : List PV) (n3 : Nat) (c4 : List PV) (i5 : Int) (i6 : Int) : Option (Ext × S) :=
  bif (decide (i0 < (n1 : Int))) then
    bif (decide (((0 : Int) ≤ i0) ∧ (i0 < (n1 : Int)))) then
      bindO (intC IntKind.i64 (c2[((Int.toNat i0) * 1)]?)) fun x0 =>
      bif (decide (x0 > (9000 : Int))) then
        E (XRfCaseErr_0a ())
      else N (TRfCaseErr_0a (w64 (i0 + (1 : Int))) n1 c2 n3 c4 i5 i6)
    else none
  else E (XRfCaseErr_0b (n1, c2, n3, c4, i5, i6))
theorem BRfCaseErr_0a_eq (F : FnT) (N : Q → Option (Ext × S)) (E : Ext × Q → Option (Ext × S)) (L0 : Q → Option YRfCaseErr_0) (i0 : Int) (n1 : Nat) (c2 : List PV) (n3 : Nat) (c4 : List PV) (i5 : Int) (i6 : Int) : semB (callP F ERfCaseErr 20) s18 (loopT [⟨0, YRfCaseErr_0, L0, XLRfCaseErr_0⟩]) 400 (blkIn a18.body 0) N E (TRfCaseErr_0a i0 n1 c2 n3 c4 i5 i6) = BRfCaseErr_0a F N E L0 i0 n1 c2 n3 c4 i5 i6 := by kernel_rfl
theorem RRfCaseErr_0a_of  (i0 : Int) (n1 : Nat) (c2 : List PV) (n3 : Nat) (c4 : List PV) (i5 : Int) (i6 : Int) {r : Ext × S} (h : BRfCaseErr_0a (Fn env) RRfCaseErr_0 exO LRfCaseErr_0 i0 n1 c2 n3 c4 i5 i6 = some r) : RRfCaseErr_0 (TRfCaseErr_0a i0 n1 c2 n3 c4 i5 i6) = some r :=
  lp_of ERfCaseErr_ok (by kernel_rfl) (lo_cons (lpO_ok URfCaseErr) lo_nil) (by kernel_rfl) ((BRfCaseErr_0a_eq _ _ _ _ _ _ _ _ _ _ _).trans h)
def tRfCaseErr (F : FnT) (L0 : Q → Option YRfCaseErr_0) (p0_0n : Nat) (p0_0c : List PV) (p0_1n : Nat) (p0_1c : List PV) (p0_2 : Int) (p0_3 : Int) : Option (Int) :=
  bindO (F 49 (RSh.one (CK.int IntKind.i64)) [(PV.list p0_0n p0_0c)]) fun (y0 : (Int)) =>
  bif (y0 != (0 : Int)) then
    some y0
  else bindO (F 7 (RSh.one (CK.int IntKind.i64)) [(PV.agg [(PV.list p0_1n p0_1c)])]) fun (y1 : (Int)) =>
  bif (y1 != (0 : Int)) then
    some y1
  else bindO (L0 (TRfCaseErr_0a (0 : Int) p0_0n p0_0c p0_1n p0_1c p0_2 p0_3)) fun z =>
  Sum.elim (fun y2 =>
    some (2 : Int)) (fun y3 =>
    bindO (F 9 (RSh.one (CK.int IntKind.i64)) [(PV.agg [(PV.list y3.2.2.1 y3.2.2.2.1)]), (PV.int IntKind.i64 (y3.1 : Int))]) fun (y4 : (Int)) =>
    bif (decide (y4 > (4096 : Int))) then
      some (8 : Int)
    else bindO (F 50 (RSh.one (CK.int IntKind.i64)) [(PV.agg [(PV.int IntKind.i64 y3.2.2.2.2.1), (PV.int IntKind.i64 y3.2.2.2.2.2)])]) fun (y5 : (Int)) =>
    some y5) z
theorem tRfCaseErr_eq (F : FnT) (L0 : Q → Option YRfCaseErr_0) (p0_0n : Nat) (p0_0c : List PV) (p0_1n : Nat) (p0_1c : List PV) (p0_2 : Int) (p0_3 : Int) : semF (callP F ERfCaseErr 20) s18 (loopT [⟨0, YRfCaseErr_0, L0, XLRfCaseErr_0⟩]) 400 a18 [PV.agg [PV.list p0_0n p0_0c, PV.list p0_1n p0_1c, PV.int IntKind.i64 p0_2, PV.int IntKind.i64 p0_3]] (fun rv => decR (RSh.one (CK.int IntKind.i64)) rv.pv) = tRfCaseErr F L0 p0_0n p0_0c p0_1n p0_1c p0_2 p0_3 := by kernel_rfl
noncomputable abbrev FRfCaseErr (args : List PV) := Fn env 18 (RSh.one (CK.int IntKind.i64)) args
theorem FRfCaseErr_of  (p0_0n : Nat) (p0_0c : List PV) (p0_1n : Nat) (p0_1c : List PV) (p0_2 : Int) (p0_3 : Int) {res : (Int)} (h : tRfCaseErr (Fn env) LRfCaseErr_0 p0_0n p0_0c p0_1n p0_1c p0_2 p0_3 = some res) : FRfCaseErr [PV.agg [PV.list p0_0n p0_0c, PV.list p0_1n p0_1c, PV.int IntKind.i64 p0_2, PV.int IntKind.i64 p0_3]] = some res :=
  fn_of ERfCaseErr_ok rfl rfl (lo_cons (lpO_ok URfCaseErr) lo_nil) ((tRfCaseErr_eq _ _ _ _ _ _ _ _).trans h)

/-! ### RfNoisy -/

def ERfNoisy : List Entry := []
theorem ERfNoisy_ok : ∀ e ∈ ERfNoisy, EntOK env e := ent_nil
def TRfNoisy_0a (n0 : Nat) (c1 : List PV) (i2 : Int) (n3 : Nat) (c4 : List PV) : Q := ⟨(tm 38 [(0, (AV.p (PV.list n0 c1))), (2, (AV.p (PV.int IntKind.i64 i2))), (4, (AV.loc 4 0)), (7, AV.nilS), (8, (AV.p (PV.int IntKind.i64 (0 : Int))))]), (mm 38 [(4, (Bk.cells true [(AV.p (PV.list n3 c4))]))])⟩
def TRfNoisy_0b (n0 : Nat) (c1 : List PV) (i2 : Int) (n3 : Nat) (c4 : List PV) (i5 : Int) (n6 : Nat) (c7 : List PV) (n8 : Nat) : Q := ⟨(tm 38 [(0, (AV.p (PV.list n0 c1))), (2, (AV.p (PV.int IntKind.i64 i2))), (4, (AV.loc 4 0)), (7, (AV.app 31 n3 1 c4)), (8, (AV.p (PV.int IntKind.i64 i5)))]), (mm 38 [(4, (Bk.cells true [(AV.p (PV.list n6 c7))])), (31, (Bk.buf n8))])⟩
def XRfNoisy_0a (y : Nat × List PV) : Ext × Q := (Ext.normal, ⟨(tm 38 [(7, AV.nilS)]), (mm 38 [(4, (Bk.cells true [(AV.p (PV.list y.1 y.2))]))])⟩)
def IRfNoisy_0a (q : Ext × S) : Nat × List PV := ((pP_list0 (pA_p (hdA (pB_cells1 (avM q.2 4))))), (pP_list1 (pA_p (hdA (pB_cells1 (avM q.2 4))))))
def XRfNoisy_0b (y : Nat × List PV × Nat × List PV × Nat) : Ext × Q := (Ext.normal, ⟨(tm 38 [(7, (AV.app 31 y.1 1 y.2.1))]), (mm 38 [(4, (Bk.cells true [(AV.p (PV.list y.2.2.1 y.2.2.2.1))])), (31, (Bk.buf y.2.2.2.2))])⟩)
def IRfNoisy_0b (q : Ext × S) : Nat × List PV × Nat × List PV × Nat := ((pA_app1 (avT q.2 7)), (pA_app3 (avT q.2 7)), (pP_list0 (pA_p (hdA (pB_cells1 (avM q.2 4))))), (pP_list1 (pA_p (hdA (pB_cells1 (avM q.2 4))))), (pB_buf0 (avM q.2 31)))
abbrev YRfNoisy_0 : Type := (Nat × List PV) ⊕ ((Nat × List PV × Nat × List PV × Nat))
def XLRfNoisy_0 : XL YRfNoisy_0 := .more XRfNoisy_0a (.one XRfNoisy_0b)
def IRfNoisy_0 (q : Ext × S) : YRfNoisy_0 := bif (cA (avT q.2 7) == 1) then (Sum.inl (IRfNoisy_0a q)) else (Sum.inr (IRfNoisy_0b q))
theorem XIRfNoisy_0a (y : Nat × List PV) : IRfNoisy_0 (xe (XRfNoisy_0a y)) = (Sum.inl y) := rfl
theorem XIRfNoisy_0b (y : Nat × List PV × Nat × List PV × Nat) : IRfNoisy_0 (xe (XRfNoisy_0b y)) = (Sum.inr y) := rfl
theorem XIRfNoisy_0 (y : YRfNoisy_0) : IRfNoisy_0 (xe (XLRfNoisy_0.fn y)) = y := (match y with | .inl y => XIRfNoisy_0a y | .inr y => XIRfNoisy_0b y)
noncomputable abbrev LRfNoisy_0 : Q → Option YRfNoisy_0 := lpO env a77.body 0 XLRfNoisy_0
noncomputable abbrev RRfNoisy_0 : Q → Option (Ext × S) := lpR env a77.body 0
theorem LRfNoisy_0a_of {s : Q} {y : Nat × List PV} (h : RRfNoisy_0 s = exO (XRfNoisy_0a y)) : LRfNoisy_0 s = some (Sum.inl y) := lpO_of IRfNoisy_0 XIRfNoisy_0 (y := (Sum.inl y)) h
theorem LRfNoisy_0b_of {s : Q} {y : Nat × List PV × Nat × List PV × Nat} (h : RRfNoisy_0 s = exO (XRfNoisy_0b y)) : LRfNoisy_0 s = some (Sum.inr y) := lpO_of IRfNoisy_0 XIRfNoisy_0 (y := (Sum.inr y)) h
theorem URfNoisy : uniq ((blocksOf a77.body).map (·.1)) = true := by kernel_rfl
def BRfNoisy_0a (F : FnT) (N : Q → Option (Ext × S)) (E : Ext × Q → Option (Ext × S)) (L0 : Q → Option YRfNoisy_0) (n0 : Nat) (c1 : List PV) (i2 : Int) (n3 : Nat) (c4 : List PV) : Option (Ext × S) :=
  bif (decide ((0 : Int) < (n0 : Int))) then
    bif (decide (((0 : Int) ≤ (0 : Int)) ∧ ((0 : Int) < (n0 : Int)))) then
      bindO (intC IntKind.i64 (c1[0]?)) fun x0 =>
      bif (decide ((n3 : Int) ≠ (0 : Int))) then
        bif (decide (((0 : Int) ≤ (Int.tmod i2 (n3 : Int))) ∧ ((Int.tmod i2 (n3 : Int)) < (n3 : Int)))) then
          bindO (intC IntKind.i64 (c4[((Int.toNat (Int.tmod i2 (n3 : Int))) * 1)]?)) fun x1 =>
          bif (decide ((n3 : Int) ≠ (0 : Int))) then
            N (TRfNoisy_0b n0 c1 (w64 (Int.tdiv i2 (n3 : Int))) 1 [(PV.int IntKind.i64 (w64 (x0 + x1)))] (1 : Int) n3 c4 1)
          else none
        else none
      else none
    else none
  else E (XRfNoisy_0a (n3, c4))
theorem BRfNoisy_0a_eq (F : FnT) (N : Q → Option (Ext × S)) (E : Ext × Q → Option (Ext × S)) (L0 : Q → Option YRfNoisy_0) (n0 : Nat) (c1 : List PV) (i2 : Int) (n3 : Nat) (c4 : List PV) : semB (callP F ERfNoisy 20) s77 (loopT [⟨0, YRfNoisy_0, L0, XLRfNoisy_0⟩]) 400 (blkIn a77.body 0) N E (TRfNoisy_0a n0 c1 i2 n3 c4) = BRfNoisy_0a F N E L0 n0 c1 i2 n3 c4 := by kernel_rfl
theorem RRfNoisy_0a_of  (n0 : Nat) (c1 : List PV) (i2 : Int) (n3 : Nat) (c4 : List PV) {r : Ext × S} (h : BRfNoisy_0a (Fn env) RRfNoisy_0 exO LRfNoisy_0 n0 c1 i2 n3 c4 = some r) : RRfNoisy_0 (TRfNoisy_0a n0 c1 i2 n3 c4) = some r :=
  lp_of ERfNoisy_ok (by kernel_rfl) (lo_cons (lpO_ok URfNoisy) lo_nil) (by kernel_rfl) ((BRfNoisy_0a_eq _ _ _ _ _ _ _ _ _).trans h)
def BRfNoisy_0b (F : FnT) (N : Q → Option (Ext × S)) (E : Ext × Q → Option (Ext × S)) (L0 : Q → Option YRfNoisy_0) (n0 : Nat) (c1 : List PV) (i2 : Int) (n3 : Nat) (c4 : List PV) (i5 : Int) (n6 : Nat) (c7 : List PV) (n8 : Nat) : Option (Ext × S) :=
  bif (decide (i5 < (n0 : Int))) then
    bif (decide (((0 : Int) ≤ i5) ∧ (i5 < (n0 : Int)))) then
      bindO (intC IntKind.i64 (c1[((Int.toNat i5) * 1)]?)) fun x0 =>
      bif (decide ((n6 : Int) ≠ (0 : Int))) then
        bif (decide (((0 : Int) ≤ (Int.tmod i2 (n6 : Int))) ∧ ((Int.tmod i2 (n6 : Int)) < (n6 : Int)))) then
          bindO (intC IntKind.i64 (c7[((Int.toNat (Int.tmod i2 (n6 : Int))) * 1)]?)) fun x1 =>
          bif (decide ((n8 = n3) ∧ ((n3 + 1) ≤ big))) then
            bif (decide ((n6 : Int) ≠ (0 : Int))) then
              N (TRfNoisy_0b n0 c1 (w64 (Int.tdiv i2 (n6 : Int))) (n3 + 1) (c4 ++ [(PV.int IntKind.i64 (w64 (x0 + x1)))]) (w64 (i5 + (1 : Int))) n6 c7 (n3 + 1))
            else none
          else none
        else none
      else none
    else none
  else E (XRfNoisy_0b (n3, c4, n6, c7, n8))
theorem BRfNoisy_0b_eq (F : FnT) (N : Q → Option (Ext × S)) (E : Ext × Q → Option (Ext × S)) (L0 : Q → Option YRfNoisy_0) (n0 : Nat) (c1 : List PV) (i2 : Int) (n3 : Nat) (c4 : List PV) (i5 : Int) (n6 : Nat) (c7 : List PV) (n8 : Nat) : semB (callP F ERfNoisy 20) s77 (loopT [⟨0, YRfNoisy_0, L0, XLRfNoisy_0⟩]) 400 (blkIn a77.body 0) N E (TRfNoisy_0b n0 c1 i2 n3 c4 i5 n6 c7 n8) = BRfNoisy_0b F N E L0 n0 c1 i2 n3 c4 i5 n6 c7 n8 := by kernel_rfl
theorem RRfNoisy_0b_of  (n0 : Nat) (c1 : List PV) (i2 : Int) (n3 : Nat) (c4 : List PV) (i5 : Int) (n6 : Nat) (c7 : List PV) (n8 : Nat) {r : Ext × S} (h : BRfNoisy_0b (Fn env) RRfNoisy_0 exO LRfNoisy_0 n0 c1 i2 n3 c4 i5 n6 c7 n8 = some r) : RRfNoisy_0 (TRfNoisy_0b n0 c1 i2 n3 c4 i5 n6 c7 n8) = some r :=
  lp_of ERfNoisy_ok (by kernel_rfl) (lo_cons (lpO_ok URfNoisy) lo_nil) (by kernel_rfl) ((BRfNoisy_0b_eq _ _ _ _ _ _ _ _ _ _ _ _ _).trans h)
def tRfNoisy (F : FnT) (L0 : Q → Option YRfNoisy_0) (p0n : Nat) (p0c : List PV) (p1_0n : Nat) (p1_0c : List PV) (p2 : Int) : Option ((Nat) × (List PV)) :=
  bindO (L0 (TRfNoisy_0a p0n p0c p2 p1_0n p1_0c)) fun z =>
  Sum.elim (fun y0 =>
    some (0, [])) (fun y1 =>
    bif (decide (y1.2.2.2.2 = y1.1)) then
      some (y1.1, y1.2.1)
    else none) z
theorem tRfNoisy_eq (F : FnT) (L0 : Q → Option YRfNoisy_0) (p0n : Nat) (p0c : List PV) (p1_0n : Nat) (p1_0c : List PV) (p2 : Int) : semF (callP F ERfNoisy 20) s77 (loopT [⟨0, YRfNoisy_0, L0, XLRfNoisy_0⟩]) 400 a77 [PV.list p0n p0c, PV.agg [PV.list p1_0n p1_0c], PV.int IntKind.i64 p2] (fun rv => decR (RSh.one CK.list) rv.pv) = tRfNoisy F L0 p0n p0c p1_0n p1_0c p2 := by kernel_rfl
noncomputable abbrev FRfNoisy (args : List PV) := Fn env 77 (RSh.one CK.list) args
theorem FRfNoisy_of  (p0n : Nat) (p0c : List PV) (p1_0n : Nat) (p1_0c : List PV) (p2 : Int) {res : ((Nat) × (List PV))} (h : tRfNoisy (Fn env) LRfNoisy_0 p0n p0c p1_0n p1_0c p2 = some res) : FRfNoisy [PV.list p0n p0c, PV.agg [PV.list p1_0n p1_0c], PV.int IntKind.i64 p2] = some res :=
  fn_of ERfNoisy_ok rfl rfl (lo_cons (lpO_ok URfNoisy) lo_nil) ((tRfNoisy_eq _ _ _ _ _ _ _).trans h)

/-! ### RfCopyNoise -/

def ERfCopyNoise : List Entry := [.out 41 (RSh.one CK.list)]
theorem ERfCopyNoise_ok : ∀ e ∈ ERfCopyNoise, EntOK env e := (ent_out ent_nil)
theorem URfCopyNoise : uniq ((blocksOf a11.body).map (·.1)) = true := by kernel_rfl
def tRfCopyNoise (F : FnT) (p0_0n : Nat) (p0_0c : List PV) : Option ((Nat) × (List PV)) :=
  bindO (F 41 (RSh.one CK.list) [(PV.list p0_0n p0_0c)]) fun (y0 : ((Nat) × (List PV))) =>
  some (y0.1, y0.2)
theorem tRfCopyNoise_eq (F : FnT) (p0_0n : Nat) (p0_0c : List PV) : semF (callP F ERfCopyNoise 20) s11 (loopT []) 400 a11 [PV.agg [PV.list p0_0n p0_0c]] (fun rv => decR (RSh.agg [CK.list]) rv.pv) = tRfCopyNoise F p0_0n p0_0c := by kernel_rfl
noncomputable abbrev FRfCopyNoise (args : List PV) := Fn env 11 (RSh.agg [CK.list]) args
theorem FRfCopyNoise_of  (p0_0n : Nat) (p0_0c : List PV) {res : ((Nat) × (List PV))} (h : tRfCopyNoise (Fn env) p0_0n p0_0c = some res) : FRfCopyNoise [PV.agg [PV.list p0_0n p0_0c]] = some res :=
  fn_of ERfCopyNoise_ok rfl rfl lo_nil ((tRfCopyNoise_eq _ _ _).trans h)

/-! ### RfCopyCase -/

def ERfCopyCase : List Entry := [.out 41 (RSh.one CK.list), .out 11 (RSh.agg [CK.list])]
theorem ERfCopyCase_ok : ∀ e ∈ ERfCopyCase, EntOK env e := (ent_out (ent_out ent_nil))
theorem URfCopyCase : uniq ((blocksOf a21.body).map (·.1)) = true := by kernel_rfl
def tRfCopyCase (F : FnT) (p0_0n : Nat) (p0_0c : List PV) (p0_1n : Nat) (p0_1c : List PV) (p0_2 : Int) (p0_3 : Int) : Option (((Nat) × (List PV)) × (((Nat) × (List PV)) × ((Int) × (Int)))) :=
  bindO (F 41 (RSh.one CK.list) [(PV.list p0_0n p0_0c)]) fun (y0 : ((Nat) × (List PV))) =>
  bindO (F 11 (RSh.agg [CK.list]) [(PV.agg [(PV.list p0_1n p0_1c)])]) fun (y1 : ((Nat) × (List PV))) =>
  some ((y0.1, y0.2), ((y1.1, y1.2), (p0_2, p0_3)))
theorem tRfCopyCase_eq (F : FnT) (p0_0n : Nat) (p0_0c : List PV) (p0_1n : Nat) (p0_1c : List PV) (p0_2 : Int) (p0_3 : Int) : semF (callP F ERfCopyCase 20) s21 (loopT []) 400 a21 [PV.agg [PV.list p0_0n p0_0c, PV.list p0_1n p0_1c, PV.int IntKind.i64 p0_2, PV.int IntKind.i64 p0_3]] (fun rv => decR (RSh.agg [CK.list, CK.list, (CK.int IntKind.i64), (CK.int IntKind.i64)]) rv.pv) = tRfCopyCase F p0_0n p0_0c p0_1n p0_1c p0_2 p0_3 := by kernel_rfl
noncomputable abbrev FRfCopyCase (args : List PV) := Fn env 21 (RSh.agg [CK.list, CK.list, (CK.int IntKind.i64), (CK.int IntKind.i64)]) args
theorem FRfCopyCase_of  (p0_0n : Nat) (p0_0c : List PV) (p0_1n : Nat) (p0_1c : List PV) (p0_2 : Int) (p0_3 : Int) {res : (((Nat) × (List PV)) × (((Nat) × (List PV)) × ((Int) × (Int))))} (h : tRfCopyCase (Fn env) p0_0n p0_0c p0_1n p0_1c p0_2 p0_3 = some res) : FRfCopyCase [PV.agg [PV.list p0_0n p0_0c, PV.list p0_1n p0_1c, PV.int IntKind.i64 p0_2, PV.int IntKind.i64 p0_3]] = some res :=
  fn_of ERfCopyCase_ok rfl rfl lo_nil ((tRfCopyCase_eq _ _ _ _ _ _ _).trans h)

end Gv
