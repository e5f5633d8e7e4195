/- What the functions do, round by round: M1. -/
import Derived.Test.YtkbbilbpejbmiaaGvEnv
namespace Gv
open Go
set_option maxRecDepth 100000

/-! ### line_errorIf -/

def Eline_errorIf : List Entry := []
theorem Eline_errorIf_ok : ∀ e ∈ Eline_errorIf, EntOK env e := ent_nil
theorem Uline_errorIf : uniq ((blocksOf a60.body).map (·.1)) = true := by kernel_rfl
def tline_errorIf (F : FnT) (p0 : Bool) (p1 : Int) : Option (Int) :=
  bif p0 then
    some p1
  else some (0 : Int)
theorem tline_errorIf_eq (F : FnT) (p0 : Bool) (p1 : Int) : semF (callP F Eline_errorIf 20) s60 (loopT []) 400 a60 [PV.bool p0, PV.int IntKind.i64 p1] (fun rv => decR (RSh.one (CK.int IntKind.i64)) rv.pv) = tline_errorIf F p0 p1 := by kernel_rfl
noncomputable abbrev Fline_errorIf (args : List PV) := Fn env 60 (RSh.one (CK.int IntKind.i64)) args
theorem Fline_errorIf_of  (p0 : Bool) (p1 : Int) {res : (Int)} (h : tline_errorIf (Fn env) p0 p1 = some res) : Fline_errorIf [PV.bool p0, PV.int IntKind.i64 p1] = some res :=
  fn_of Eline_errorIf_ok rfl rfl lo_nil ((tline_errorIf_eq _ _ _).trans h)

/-! ### line_outside_1 -/

def Eline_outside_1 : List Entry := []
theorem Eline_outside_1_ok : ∀ e ∈ Eline_outside_1, EntOK env e := ent_nil
theorem Uline_outside_1 : uniq ((blocksOf a100.body).map (·.1)) = true := by kernel_rfl
def tline_outside_1 (F : FnT)(x lo hi : Int) : Option (Bool) :=
  bif (decide (x < lo)) then
    some true
  else bif (decide (x > hi)) then
    some true
  else some false
theorem tline_outside_1_eq (F : FnT)(x lo hi : Int) : semF (callP F Eline_outside_1 20) s100 (loopT []) 400 a100 [.int .i64 x, .imm [.int .i64 lo] 0, .imm [.int .i64 hi] 0] (fun rv => decR (RSh.one CK.bool) rv.pv) = tline_outside_1 F x lo hi := by kernel_rfl
noncomputable abbrev Fline_outside_1 (args : List PV) := Fn env 100 (RSh.one CK.bool) args
theorem Fline_outside_1_of (x lo hi : Int) {res : (Bool)} (h : tline_outside_1 (Fn env) x lo hi = some res) : Fline_outside_1 [.int .i64 x, .imm [.int .i64 lo] 0, .imm [.int .i64 hi] 0] = some res :=
  fn_of Eline_outside_1_ok rfl rfl lo_nil ((tline_outside_1_eq _ _ _ _).trans h)

/-! ### line_rangeError -/

def Eline_rangeError : List Entry := [.inl 73 a73 s73, .inl 60 a60 s60, .out 100 (RSh.one CK.bool)]
theorem Eline_rangeError_ok : ∀ e ∈ Eline_rangeError, EntOK env e := (ent_inl rfl (ent_inl rfl (ent_out ent_nil)))
theorem Uline_rangeError : uniq ((blocksOf a42.body).map (·.1)) = true := by kernel_rfl
def tline_rangeError (F : FnT) (p0 : Int) (p1 : Int) (p2 : Int) : Option (Int) :=
  bindO (F 100 (RSh.one CK.bool) [(PV.int IntKind.i64 p0), (PV.imm [(PV.int IntKind.i64 p1)] 0), (PV.imm [(PV.int IntKind.i64 p2)] 0)]) fun (y0 : (Bool)) =>
  bif y0 then
    some (2 : Int)
  else some (0 : Int)
theorem tline_rangeError_eq (F : FnT) (p0 : Int) (p1 : Int) (p2 : Int) : semF (callP F Eline_rangeError 20) s42 (loopT []) 400 a42 [PV.int IntKind.i64 p0, PV.int IntKind.i64 p1, PV.int IntKind.i64 p2] (fun rv => decR (RSh.one (CK.int IntKind.i64)) rv.pv) = tline_rangeError F p0 p1 p2 := by kernel_rfl
noncomputable abbrev Fline_rangeError (args : List PV) := Fn env 42 (RSh.one (CK.int IntKind.i64)) args
theorem Fline_rangeError_of  (p0 : Int) (p1 : Int) (p2 : Int) {res : (Int)} (h : tline_rangeError (Fn env) p0 p1 p2 = some res) : Fline_rangeError [PV.int IntKind.i64 p0, PV.int IntKind.i64 p1, PV.int IntKind.i64 p2] = some res :=
  fn_of Eline_rangeError_ok rfl rfl lo_nil ((tline_rangeError_eq _ _ _ _).trans h)

/-! ### line_firstError_2 -/

def Eline_firstError_2 : List Entry := []
theorem Eline_firstError_2_ok : ∀ e ∈ Eline_firstError_2, EntOK env e := ent_nil
theorem Uline_firstError_2 : uniq ((blocksOf a35.body).map (·.1)) = true := by kernel_rfl
def tline_firstError_2 (F : FnT)(e0 e1 : Int) : Option (Int) :=
  bif (e0 != (0 : Int)) then
    some e0
  else bif (e1 != (0 : Int)) then
    some e1
  else some (0 : Int)
theorem tline_firstError_2_eq (F : FnT)(e0 e1 : Int) : semF (callP F Eline_firstError_2 20) s35 (loopT []) 400 a35 [.list 2 [.int .i64 e0, .int .i64 e1]] (fun rv => decR (RSh.one (CK.int IntKind.i64)) rv.pv) = tline_firstError_2 F e0 e1 := by kernel_rfl
noncomputable abbrev Fline_firstError_2 (args : List PV) := Fn env 35 (RSh.one (CK.int IntKind.i64)) args
theorem Fline_firstError_2_of (e0 e1 : Int) {res : (Int)} (h : tline_firstError_2 (Fn env) e0 e1 = some res) : Fline_firstError_2 [.list 2 [.int .i64 e0, .int .i64 e1]] = some res :=
  fn_of Eline_firstError_2_ok rfl rfl lo_nil ((tline_firstError_2_eq _ _ _).trans h)

/-! ### line_firstError_3 -/

def Eline_firstError_3 : List Entry := []
theorem Eline_firstError_3_ok : ∀ e ∈ Eline_firstError_3, EntOK env e := ent_nil
theorem Uline_firstError_3 : uniq ((blocksOf a35.body).map (·.1)) = true := by kernel_rfl
def tline_firstError_3 (F : FnT)(e0 e1 e2 : Int) : Option (Int) :=
  bif (e0 != (0 : Int)) then
    some e0
  else bif (e1 != (0 : Int)) then
    some e1
  else bif (e2 != (0 : Int)) then
    some e2
  else some (0 : Int)
theorem tline_firstError_3_eq (F : FnT)(e0 e1 e2 : Int) : semF (callP F Eline_firstError_3 20) s35 (loopT []) 400 a35 [.list 3 [.int .i64 e0, .int .i64 e1, .int .i64 e2]] (fun rv => decR (RSh.one (CK.int IntKind.i64)) rv.pv) = tline_firstError_3 F e0 e1 e2 := by kernel_rfl
noncomputable abbrev Fline_firstError_3 (args : List PV) := Fn env 35 (RSh.one (CK.int IntKind.i64)) args
theorem Fline_firstError_3_of (e0 e1 e2 : Int) {res : (Int)} (h : tline_firstError_3 (Fn env) e0 e1 e2 = some res) : Fline_firstError_3 [.list 3 [.int .i64 e0, .int .i64 e1, .int .i64 e2]] = some res :=
  fn_of Eline_firstError_3_ok rfl rfl lo_nil ((tline_firstError_3_eq _ _ _ _).trans h)

/-! ### line_firstError_4 -/

def Eline_firstError_4 : List Entry := []
theorem Eline_firstError_4_ok : ∀ e ∈ Eline_firstError_4, EntOK env e := ent_nil
theorem Uline_firstError_4 : uniq ((blocksOf a35.body).map (·.1)) = true := by kernel_rfl
def tline_firstError_4 (F : FnT)(e0 e1 e2 e3 : Int) : Option (Int) :=
  bif (e0 != (0 : Int)) then
    some e0
  else bif (e1 != (0 : Int)) then
    some e1
  else bif (e2 != (0 : Int)) then
    some e2
  else bif (e3 != (0 : Int)) then
    some e3
  else some (0 : Int)
theorem tline_firstError_4_eq (F : FnT)(e0 e1 e2 e3 : Int) : semF (callP F Eline_firstError_4 20) s35 (loopT []) 400 a35 [.list 4 [.int .i64 e0, .int .i64 e1, .int .i64 e2, .int .i64 e3]] (fun rv => decR (RSh.one (CK.int IntKind.i64)) rv.pv) = tline_firstError_4 F e0 e1 e2 e3 := by kernel_rfl
noncomputable abbrev Fline_firstError_4 (args : List PV) := Fn env 35 (RSh.one (CK.int IntKind.i64)) args
theorem Fline_firstError_4_of (e0 e1 e2 e3 : Int) {res : (Int)} (h : tline_firstError_4 (Fn env) e0 e1 e2 e3 = some res) : Fline_firstError_4 [.list 4 [.int .i64 e0, .int .i64 e1, .int .i64 e2, .int .i64 e3]] = some res :=
  fn_of Eline_firstError_4_ok rfl rfl lo_nil ((tline_firstError_4_eq _ _ _ _ _).trans h)

/-! ### line_IndexFunc_out -/

def Eline_IndexFunc_out : List Entry := [.out 100 (RSh.one CK.bool)]
theorem Eline_IndexFunc_out_ok : ∀ e ∈ Eline_IndexFunc_out, EntOK env e := (ent_out ent_nil)
def Tline_IndexFunc_out_0a (n0 : Nat) (c1 : List PV) (i2 : Int) (i3 : Int) (i4 : Int) (i5 : Int) : Q := ⟨(tm 19 [(0, (AV.p (PV.list n0 c1))), (1, (AV.p (PV.fn 100 [(PV.imm [(PV.int IntKind.i64 i2)] 0), (PV.imm [(PV.int IntKind.i64 i3)] 0)]))), (7, (AV.p (PV.int IntKind.i64 i4))), (8, (AV.p (PV.int IntKind.i64 i5)))]), (mm 19 [])⟩
def Xline_IndexFunc_out_0a (y : Int) : Ext × Q := (Ext.ret, ⟨(tm 19 [(4, (AV.p (PV.int IntKind.i64 y)))]), (mm 19 [])⟩)
def Iline_IndexFunc_out_0a (q : Ext × S) : Int := (pP_int1 (pA_p (avT q.2 4)))
def Xline_IndexFunc_out_0b (y : Unit) : Ext × Q := (Ext.normal, ⟨(tm 19 []), (mm 19 [])⟩)
def Iline_IndexFunc_out_0b (q : Ext × S) : Unit := ()
abbrev Yline_IndexFunc_out_0 : Type := (Int) ⊕ ((Unit))
def XLline_IndexFunc_out_0 : XL Yline_IndexFunc_out_0 := .more Xline_IndexFunc_out_0a (.one Xline_IndexFunc_out_0b)
def Iline_IndexFunc_out_0 (q : Ext × S) : Yline_IndexFunc_out_0 := bif (cE q.1 == 2) then (Sum.inl (Iline_IndexFunc_out_0a q)) else (Sum.inr (Iline_IndexFunc_out_0b q))
theorem XIline_IndexFunc_out_0a (y : Int) : Iline_IndexFunc_out_0 (xe (Xline_IndexFunc_out_0a y)) = (Sum.inl y) := rfl
theorem XIline_IndexFunc_out_0b (y : Unit) : Iline_IndexFunc_out_0 (xe (Xline_IndexFunc_out_0b y)) = (Sum.inr y) := rfl
theorem XIline_IndexFunc_out_0 (y : Yline_IndexFunc_out_0) : Iline_IndexFunc_out_0 (xe (XLline_IndexFunc_out_0.fn y)) = y := (match y with | .inl y => XIline_IndexFunc_out_0a y | .inr y => XIline_IndexFunc_out_0b y)
noncomputable abbrev Lline_IndexFunc_out_0 : Q → Option Yline_IndexFunc_out_0 := lpO env a104.body 0 XLline_IndexFunc_out_0
noncomputable abbrev Rline_IndexFunc_out_0 : Q → Option (Ext × S) := lpR env a104.body 0
theorem Lline_IndexFunc_out_0a_of {s : Q} {y : Int} (h : Rline_IndexFunc_out_0 s = exO (Xline_IndexFunc_out_0a y)) : Lline_IndexFunc_out_0 s = some (Sum.inl y) := lpO_of Iline_IndexFunc_out_0 XIline_IndexFunc_out_0 (y := (Sum.inl y)) h
theorem Lline_IndexFunc_out_0b_of {s : Q} {y : Unit} (h : Rline_IndexFunc_out_0 s = exO (Xline_IndexFunc_out_0b y)) : Lline_IndexFunc_out_0 s = some (Sum.inr y) := lpO_of Iline_IndexFunc_out_0 XIline_IndexFunc_out_0 (y := (Sum.inr y)) h
theorem Uline_IndexFunc_out : uniq ((blocksOf a104.body).map (·.1)) = true := by kernel_rfl
def Bline_IndexFunc_out_0a (F : FnT) (N : Q → Option (Ext × S)) (E : Ext × Q → Option (Ext × S)) (L0 : Q → Option Yline_IndexFunc_out_0) (n0 : Nat) (c1 : List PV) (i2 : Int) (i3 : Int) (i4 : Int) (i5 : Int) : Option (Ext × S) :=
  bif (decide (i5 < i4)) then
    bif (decide (((0 : Int) ≤ i5) ∧ (i5 < (n0 : Int)))) then
      bindO (intC IntKind.i64 (c1[((Int.toNat i5) * 1)]?)) fun x0 =>
      bindO (F 100 (RSh.one CK.bool) [(PV.int IntKind.i64 x0), (PV.imm [(PV.int IntKind.i64 i2)] 0), (PV.imm [(PV.int IntKind.i64 i3)] 0)]) fun (y1 : (Bool)) =>
      bif y1 then
        E (Xline_IndexFunc_out_0a i5)
      else N (Tline_IndexFunc_out_0a n0 c1 i2 i3 i4 (w64 (i5 + (1 : Int))))
    else none
  else E (Xline_IndexFunc_out_0b ())
theorem Bline_IndexFunc_out_0a_eq (F : FnT) (N : Q → Option (Ext × S)) (E : Ext × Q → Option (Ext × S)) (L0 : Q → Option Yline_IndexFunc_out_0) (n0 : Nat) (c1 : List PV) (i2 : Int) (i3 : Int) (i4 : Int) (i5 : Int) : semB (callP F Eline_IndexFunc_out 20) s104 (loopT [⟨0, Yline_IndexFunc_out_0, L0, XLline_IndexFunc_out_0⟩]) 400 (blkIn a104.body 0) N E (Tline_IndexFunc_out_0a n0 c1 i2 i3 i4 i5) = Bline_IndexFunc_out_0a F N E L0 n0 c1 i2 i3 i4 i5 := by kernel_rfl
theorem Rline_IndexFunc_out_0a_of  (n0 : Nat) (c1 : List PV) (i2 : Int) (i3 : Int) (i4 : Int) (i5 : Int) {r : Ext × S} (h : Bline_IndexFunc_out_0a (Fn env) Rline_IndexFunc_out_0 exO Lline_IndexFunc_out_0 n0 c1 i2 i3 i4 i5 = some r) : Rline_IndexFunc_out_0 (Tline_IndexFunc_out_0a n0 c1 i2 i3 i4 i5) = some r :=
  lp_of Eline_IndexFunc_out_ok (by kernel_rfl) (lo_cons (lpO_ok Uline_IndexFunc_out) lo_nil) (by kernel_rfl) ((Bline_IndexFunc_out_0a_eq _ _ _ _ _ _ _ _ _ _).trans h)
def tline_IndexFunc_out (F : FnT) (L0 : Q → Option Yline_IndexFunc_out_0)(n : Nat) (cs : List PV) (lo hi : Int) : Option (Int) :=
  bindO (L0 (Tline_IndexFunc_out_0a n cs lo hi (n : Int) (0 : Int))) fun z =>
  Sum.elim (fun y0 =>
    some y0) (fun y1 =>
    some (-1 : Int)) z
theorem tline_IndexFunc_out_eq (F : FnT) (L0 : Q → Option Yline_IndexFunc_out_0)(n : Nat) (cs : List PV) (lo hi : Int) : semF (callP F Eline_IndexFunc_out 20) s104 (loopT [⟨0, Yline_IndexFunc_out_0, L0, XLline_IndexFunc_out_0⟩]) 400 a104 [.list n cs, .fn 100 [.imm [.int .i64 lo] 0, .imm [.int .i64 hi] 0]] (fun rv => decR (RSh.one (CK.int IntKind.i64)) rv.pv) = tline_IndexFunc_out F L0 n cs lo hi := by kernel_rfl
noncomputable abbrev Fline_IndexFunc_out (args : List PV) := Fn env 104 (RSh.one (CK.int IntKind.i64)) args
theorem Fline_IndexFunc_out_of (n : Nat) (cs : List PV) (lo hi : Int) {res : (Int)} (h : tline_IndexFunc_out (Fn env) Lline_IndexFunc_out_0 n cs lo hi = some res) : Fline_IndexFunc_out [.list n cs, .fn 100 [.imm [.int .i64 lo] 0, .imm [.int .i64 hi] 0]] = some res :=
  fn_of Eline_IndexFunc_out_ok rfl rfl (lo_cons (lpO_ok Uline_IndexFunc_out) lo_nil) ((tline_IndexFunc_out_eq _ _ _ _ _ _).trans h)

/-! ### line_numbersError -/

def Eline_numbersError : List Entry := [.inl 60 a60 s60, .out 35 (RSh.one (CK.int IntKind.i64)), .out 104 (RSh.one (CK.int IntKind.i64))]
theorem Eline_numbersError_ok : ∀ e ∈ Eline_numbersError, EntOK env e := (ent_inl rfl (ent_out (ent_out ent_nil)))
theorem Uline_numbersError : uniq ((blocksOf a99.body).map (·.1)) = true := by kernel_rfl
def tline_numbersError (F : FnT)(n : Nat) (cs : List PV) (m lo hi : Int) : Option ((Int) × (Int)) :=
  bif ((n : Int) == (0 : Int)) then
    bif (decide ((n : Int) > m)) then
      bindO (F 35 (RSh.one (CK.int IntKind.i64)) [(PV.list 2 [(PV.int IntKind.i64 (10 : Int)), (PV.int IntKind.i64 (8 : Int))])]) fun (y0 : (Int)) =>
      bif (y0 != (0 : Int)) then
        some ((0 : Int), y0)
      else bindO (F 104 (RSh.one (CK.int IntKind.i64)) [(PV.list n cs), (PV.fn 100 [(PV.imm [(PV.int IntKind.i64 lo)] 0), (PV.imm [(PV.int IntKind.i64 hi)] 0)])]) fun (y1 : (Int)) =>
      bif (decide (y1 ≥ (0 : Int))) then
        some (y1, (2 : Int))
      else some ((0 : Int), (0 : Int))
    else bindO (F 35 (RSh.one (CK.int IntKind.i64)) [(PV.list 2 [(PV.int IntKind.i64 (10 : Int)), (PV.int IntKind.i64 (0 : Int))])]) fun (y2 : (Int)) =>
    bif (y2 != (0 : Int)) then
      some ((0 : Int), y2)
    else bindO (F 104 (RSh.one (CK.int IntKind.i64)) [(PV.list n cs), (PV.fn 100 [(PV.imm [(PV.int IntKind.i64 lo)] 0), (PV.imm [(PV.int IntKind.i64 hi)] 0)])]) fun (y3 : (Int)) =>
    bif (decide (y3 ≥ (0 : Int))) then
      some (y3, (2 : Int))
    else some ((0 : Int), (0 : Int))
  else bif (decide ((n : Int) > m)) then
    bindO (F 35 (RSh.one (CK.int IntKind.i64)) [(PV.list 2 [(PV.int IntKind.i64 (0 : Int)), (PV.int IntKind.i64 (8 : Int))])]) fun (y4 : (Int)) =>
    bif (y4 != (0 : Int)) then
      some ((0 : Int), y4)
    else bindO (F 104 (RSh.one (CK.int IntKind.i64)) [(PV.list n cs), (PV.fn 100 [(PV.imm [(PV.int IntKind.i64 lo)] 0), (PV.imm [(PV.int IntKind.i64 hi)] 0)])]) fun (y5 : (Int)) =>
    bif (decide (y5 ≥ (0 : Int))) then
      some (y5, (2 : Int))
    else some ((0 : Int), (0 : Int))
  else bindO (F 35 (RSh.one (CK.int IntKind.i64)) [(PV.list 2 [(PV.int IntKind.i64 (0 : Int)), (PV.int IntKind.i64 (0 : Int))])]) fun (y6 : (Int)) =>
  bif (y6 != (0 : Int)) then
    some ((0 : Int), y6)
  else bindO (F 104 (RSh.one (CK.int IntKind.i64)) [(PV.list n cs), (PV.fn 100 [(PV.imm [(PV.int IntKind.i64 lo)] 0), (PV.imm [(PV.int IntKind.i64 hi)] 0)])]) fun (y7 : (Int)) =>
  bif (decide (y7 ≥ (0 : Int))) then
    some (y7, (2 : Int))
  else some ((0 : Int), (0 : Int))
theorem tline_numbersError_eq (F : FnT)(n : Nat) (cs : List PV) (m lo hi : Int) : semF (callP F Eline_numbersError 20) s99 (loopT []) 400 a99 [.list n cs, .int .i64 m, .fn 100 [.imm [.int .i64 lo] 0, .imm [.int .i64 hi] 0]] (fun rv => decR (RSh.tup [(Prod.mk false [(CK.int IntKind.i64)]), (Prod.mk false [(CK.int IntKind.i64)])]) rv.pv) = tline_numbersError F n cs m lo hi := by kernel_rfl
noncomputable abbrev Fline_numbersError (args : List PV) := Fn env 99 (RSh.tup [(Prod.mk false [(CK.int IntKind.i64)]), (Prod.mk false [(CK.int IntKind.i64)])]) args
theorem Fline_numbersError_of (n : Nat) (cs : List PV) (m lo hi : Int) {res : ((Int) × (Int))} (h : tline_numbersError (Fn env) n cs m lo hi = some res) : Fline_numbersError [.list n cs, .int .i64 m, .fn 100 [.imm [.int .i64 lo] 0, .imm [.int .i64 hi] 0]] = some res :=
  fn_of Eline_numbersError_ok rfl rfl lo_nil ((tline_numbersError_eq _ _ _ _ _ _).trans h)

/-! ### line_CheckSpectrum -/

def Eline_CheckSpectrum : List Entry := [.inl 73 a73 s73, .out 99 (RSh.tup [(Prod.mk false [(CK.int IntKind.i64)]), (Prod.mk false [(CK.int IntKind.i64)])])]
theorem Eline_CheckSpectrum_ok : ∀ e ∈ Eline_CheckSpectrum, EntOK env e := (ent_inl rfl (ent_out ent_nil))
theorem Uline_CheckSpectrum : uniq ((blocksOf a84.body).map (·.1)) = true := by kernel_rfl
def tline_CheckSpectrum (F : FnT) (p0n : Nat) (p0c : List PV) : Option ((Int) × (Int)) :=
  bindO (F 99 (RSh.tup [(Prod.mk false [(CK.int IntKind.i64)]), (Prod.mk false [(CK.int IntKind.i64)])]) [(PV.list p0n p0c), (PV.int IntKind.i64 (16 : Int)), (PV.fn 100 [(PV.imm [(PV.int IntKind.i64 (0 : Int))] 0), (PV.imm [(PV.int IntKind.i64 (10000 : Int))] 0)])]) fun (y0 : ((Int) × (Int))) =>
  some (y0.1, y0.2)
theorem tline_CheckSpectrum_eq (F : FnT) (p0n : Nat) (p0c : List PV) : semF (callP F Eline_CheckSpectrum 20) s84 (loopT []) 400 a84 [PV.list p0n p0c] (fun rv => decR (RSh.tup [(Prod.mk false [(CK.int IntKind.i64)]), (Prod.mk false [(CK.int IntKind.i64)])]) rv.pv) = tline_CheckSpectrum F p0n p0c := by kernel_rfl
noncomputable abbrev Fline_CheckSpectrum (args : List PV) := Fn env 84 (RSh.tup [(Prod.mk false [(CK.int IntKind.i64)]), (Prod.mk false [(CK.int IntKind.i64)])]) args
theorem Fline_CheckSpectrum_of  (p0n : Nat) (p0c : List PV) {res : ((Int) × (Int))} (h : tline_CheckSpectrum (Fn env) p0n p0c = some res) : Fline_CheckSpectrum [PV.list p0n p0c] = some res :=
  fn_of Eline_CheckSpectrum_ok rfl rfl lo_nil ((tline_CheckSpectrum_eq _ _ _).trans h)

/-! ### line_spectrumError -/

def Eline_spectrumError : List Entry := [.out 84 (RSh.tup [(Prod.mk false [(CK.int IntKind.i64)]), (Prod.mk false [(CK.int IntKind.i64)])])]
theorem Eline_spectrumError_ok : ∀ e ∈ Eline_spectrumError, EntOK env e := (ent_out ent_nil)
theorem Uline_spectrumError : uniq ((blocksOf a57.body).map (·.1)) = true := by kernel_rfl
def tline_spectrumError (F : FnT) (p0n : Nat) (p0c : List PV) : Option (Int) :=
  bindO (F 84 (RSh.tup [(Prod.mk false [(CK.int IntKind.i64)]), (Prod.mk false [(CK.int IntKind.i64)])]) [(PV.list p0n p0c)]) fun (y0 : ((Int) × (Int))) =>
  some y0.2
theorem tline_spectrumError_eq (F : FnT) (p0n : Nat) (p0c : List PV) : semF (callP F Eline_spectrumError 20) s57 (loopT []) 400 a57 [PV.list p0n p0c] (fun rv => decR (RSh.one (CK.int IntKind.i64)) rv.pv) = tline_spectrumError F p0n p0c := by kernel_rfl
noncomputable abbrev Fline_spectrumError (args : List PV) := Fn env 57 (RSh.one (CK.int IntKind.i64)) args
theorem Fline_spectrumError_of  (p0n : Nat) (p0c : List PV) {res : (Int)} (h : tline_spectrumError (Fn env) p0n p0c = some res) : Fline_spectrumError [PV.list p0n p0c] = some res :=
  fn_of Eline_spectrumError_ok rfl rfl lo_nil ((tline_spectrumError_eq _ _ _).trans h)

/-! ### line_MaxS -/

def Eline_MaxS : List Entry := []
theorem Eline_MaxS_ok : ∀ e ∈ Eline_MaxS, EntOK env e := ent_nil
def Tline_MaxS_0a (n0 : Nat) (c1 : List PV) (i2 : Int) (i3 : Int) : Q := ⟨(tm 25 [(0, (AV.p (PV.list n0 c1))), (3, (AV.p (PV.int IntKind.i64 i2))), (4, (AV.p (PV.int IntKind.i64 i3)))]), (mm 25 [])⟩
def Xline_MaxS_0a (y : Int) : Ext × Q := (Ext.normal, ⟨(tm 25 [(3, (AV.p (PV.int IntKind.i64 y)))]), (mm 25 [])⟩)
def Iline_MaxS_0a (q : Ext × S) : Int := (pP_int1 (pA_p (avT q.2 3)))
abbrev Yline_MaxS_0 : Type := Int
def XLline_MaxS_0 : XL Yline_MaxS_0 := .one Xline_MaxS_0a
def Iline_MaxS_0 (q : Ext × S) : Yline_MaxS_0 := (Iline_MaxS_0a q)
theorem XIline_MaxS_0a (y : Int) : Iline_MaxS_0 (xe (Xline_MaxS_0a y)) = y := rfl
theorem XIline_MaxS_0 (y : Yline_MaxS_0) : Iline_MaxS_0 (xe (XLline_MaxS_0.fn y)) = y := XIline_MaxS_0a y
noncomputable abbrev Lline_MaxS_0 : Q → Option Yline_MaxS_0 := lpO env a105.body 0 XLline_MaxS_0
noncomputable abbrev Rline_MaxS_0 : Q → Option (Ext × S) := lpR env a105.body 0
theorem Lline_MaxS_0a_of {s : Q} {y : Int} (h : Rline_MaxS_0 s = exO (Xline_MaxS_0a y)) : Lline_MaxS_0 s = some y := lpO_of Iline_MaxS_0 XIline_MaxS_0 (y := y) h
theorem Uline_MaxS : uniq ((blocksOf a105.body).map (·.1)) = true := by kernel_rfl
def Bline_MaxS_0a (F : FnT) (N : Q → Option (Ext × S)) (E : Ext × Q → Option (Ext × S)) (L0 : Q → Option Yline_MaxS_0) (n0 : Nat) (c1 : List PV) (i2 : Int) (i3 : Int) : Option (Ext × S) :=
  bif (decide (i3 < (n0 : Int))) then
    bif (decide (((0 : Int) ≤ i3) ∧ (i3 < (n0 : Int)))) then
      bindO (intC IntKind.i64 (c1[((Int.toNat i3) * 1)]?)) fun x0 =>
      N (Tline_MaxS_0a n0 c1 (if (x0 > i2) then x0 else i2) (w64 (i3 + (1 : Int))))
    else none
  else E (Xline_MaxS_0a i2)
theorem Bline_MaxS_0a_eq (F : FnT) (N : Q → Option (Ext × S)) (E : Ext × Q → Option (Ext × S)) (L0 : Q → Option Yline_MaxS_0) (n0 : Nat) (c1 : List PV) (i2 : Int) (i3 : Int) : semB (callP F Eline_MaxS 20) s105 (loopT [⟨0, Yline_MaxS_0, L0, XLline_MaxS_0⟩]) 400 (blkIn a105.body 0) N E (Tline_MaxS_0a n0 c1 i2 i3) = Bline_MaxS_0a F N E L0 n0 c1 i2 i3 := by kernel_rfl
theorem Rline_MaxS_0a_of  (n0 : Nat) (c1 : List PV) (i2 : Int) (i3 : Int) {r : Ext × S} (h : Bline_MaxS_0a (Fn env) Rline_MaxS_0 exO Lline_MaxS_0 n0 c1 i2 i3 = some r) : Rline_MaxS_0 (Tline_MaxS_0a n0 c1 i2 i3) = some r :=
  lp_of Eline_MaxS_ok (by kernel_rfl) (lo_cons (lpO_ok Uline_MaxS) lo_nil) (by kernel_rfl) ((Bline_MaxS_0a_eq _ _ _ _ _ _ _ _).trans h)
def tline_MaxS (F : FnT) (L0 : Q → Option Yline_MaxS_0) (p0n : Nat) (p0c : List PV) : Option (Int) :=
  bif (decide ((p0n : Int) < (1 : Int))) then
    none
  else bif (decide (((0 : Int) ≤ (0 : Int)) ∧ ((0 : Int) < (p0n : Int)))) then
    bindO (intC IntKind.i64 (p0c[0]?)) fun x0 =>
    bindO (L0 (Tline_MaxS_0a p0n p0c x0 (1 : Int))) fun y1 =>
    some y1
  else none
theorem tline_MaxS_eq (F : FnT) (L0 : Q → Option Yline_MaxS_0) (p0n : Nat) (p0c : List PV) : semF (callP F Eline_MaxS 20) s105 (loopT [⟨0, Yline_MaxS_0, L0, XLline_MaxS_0⟩]) 400 a105 [PV.list p0n p0c] (fun rv => decR (RSh.one (CK.int IntKind.i64)) rv.pv) = tline_MaxS F L0 p0n p0c := by kernel_rfl
noncomputable abbrev Fline_MaxS (args : List PV) := Fn env 105 (RSh.one (CK.int IntKind.i64)) args
theorem Fline_MaxS_of  (p0n : Nat) (p0c : List PV) {res : (Int)} (h : tline_MaxS (Fn env) Lline_MaxS_0 p0n p0c = some res) : Fline_MaxS [PV.list p0n p0c] = some res :=
  fn_of Eline_MaxS_ok rfl rfl (lo_cons (lpO_ok Uline_MaxS) lo_nil) ((tline_MaxS_eq _ _ _ _).trans h)

/-! ### line_IndexS -/

def Eline_IndexS : List Entry := []
theorem Eline_IndexS_ok : ∀ e ∈ Eline_IndexS, EntOK env e := ent_nil
def Tline_IndexS_0a (n0 : Nat) (c1 : List PV) (i2 : Int) (i3 : Int) (i4 : Int) : Q := ⟨(tm 19 [(0, (AV.p (PV.list n0 c1))), (1, (AV.p (PV.int IntKind.i64 i2))), (7, (AV.p (PV.int IntKind.i64 i3))), (8, (AV.p (PV.int IntKind.i64 i4)))]), (mm 19 [])⟩
def Xline_IndexS_0a (y : Int) : Ext × Q := (Ext.ret, ⟨(tm 19 [(4, (AV.p (PV.int IntKind.i64 y)))]), (mm 19 [])⟩)
def Iline_IndexS_0a (q : Ext × S) : Int := (pP_int1 (pA_p (avT q.2 4)))
def Xline_IndexS_0b (y : Unit) : Ext × Q := (Ext.normal, ⟨(tm 19 []), (mm 19 [])⟩)
def Iline_IndexS_0b (q : Ext × S) : Unit := ()
abbrev Yline_IndexS_0 : Type := (Int) ⊕ ((Unit))
def XLline_IndexS_0 : XL Yline_IndexS_0 := .more Xline_IndexS_0a (.one Xline_IndexS_0b)
def Iline_IndexS_0 (q : Ext × S) : Yline_IndexS_0 := bif (cE q.1 == 2) then (Sum.inl (Iline_IndexS_0a q)) else (Sum.inr (Iline_IndexS_0b q))
theorem XIline_IndexS_0a (y : Int) : Iline_IndexS_0 (xe (Xline_IndexS_0a y)) = (Sum.inl y) := rfl
theorem XIline_IndexS_0b (y : Unit) : Iline_IndexS_0 (xe (Xline_IndexS_0b y)) = (Sum.inr y) := rfl
theorem XIline_IndexS_0 (y : Yline_IndexS_0) : Iline_IndexS_0 (xe (XLline_IndexS_0.fn y)) = y := (match y with | .inl y => XIline_IndexS_0a y | .inr y => XIline_IndexS_0b y)
noncomputable abbrev Lline_IndexS_0 : Q → Option Yline_IndexS_0 := lpO env a110.body 0 XLline_IndexS_0
noncomputable abbrev Rline_IndexS_0 : Q → Option (Ext × S) := lpR env a110.body 0
theorem Lline_IndexS_0a_of {s : Q} {y : Int} (h : Rline_IndexS_0 s = exO (Xline_IndexS_0a y)) : Lline_IndexS_0 s = some (Sum.inl y) := lpO_of Iline_IndexS_0 XIline_IndexS_0 (y := (Sum.inl y)) h
theorem Lline_IndexS_0b_of {s : Q} {y : Unit} (h : Rline_IndexS_0 s = exO (Xline_IndexS_0b y)) : Lline_IndexS_0 s = some (Sum.inr y) := lpO_of Iline_IndexS_0 XIline_IndexS_0 (y := (Sum.inr y)) h
theorem Uline_IndexS : uniq ((blocksOf a110.body).map (·.1)) = true := by kernel_rfl
def Bline_IndexS_0a (F : FnT) (N : Q → Option (Ext × S)) (E : Ext × Q → Option (Ext × S)) (L0 : Q → Option Yline_IndexS_0) (n0 : Nat) (c1 : List PV) (i2 : Int) (i3 : Int) (i4 : Int) : Option (Ext × S) :=
  bif (decide (i4 < i3)) then
    bif (decide (((0 : Int) ≤ i4) ∧ (i4 < (n0 : Int)))) then
      bindO (intC IntKind.i64 (c1[((Int.toNat i4) * 1)]?)) fun x0 =>
      bif (i2 == x0) then
        E (Xline_IndexS_0a i4)
      else N (Tline_IndexS_0a n0 c1 i2 i3 (w64 (i4 + (1 : Int))))
    else none
  else E (Xline_IndexS_0b ())
theorem Bline_IndexS_0a_eq (F : FnT) (N : Q → Option (Ext × S)) (E : Ext × Q → Option (Ext × S)) (L0 : Q → Option Yline_IndexS_0) (n0 : Nat) (c1 : List PV) (i2 : Int) (i3 : Int) (i4 : Int) : semB (callP F Eline_IndexS 20) s110 (loopT [⟨0, Yline_IndexS_0, L0, XLline_IndexS_0⟩]) 400 (blkIn a110.body 0) N E (Tline_IndexS_0a n0 c1 i2 i3 i4) = Bline_IndexS_0a F N E L0 n0 c1 i2 i3 i4 := by kernel_rfl
theorem Rline_IndexS_0a_of  (n0 : Nat) (c1 : List PV) (i2 : Int) (i3 : Int) (i4 : Int) {r : Ext × S} (h : Bline_IndexS_0a (Fn env) Rline_IndexS_0 exO Lline_IndexS_0 n0 c1 i2 i3 i4 = some r) : Rline_IndexS_0 (Tline_IndexS_0a n0 c1 i2 i3 i4) = some r :=
  lp_of Eline_IndexS_ok (by kernel_rfl) (lo_cons (lpO_ok Uline_IndexS) lo_nil) (by kernel_rfl) ((Bline_IndexS_0a_eq _ _ _ _ _ _ _ _ _).trans h)
def tline_IndexS (F : FnT) (L0 : Q → Option Yline_IndexS_0) (p0n : Nat) (p0c : List PV) (p1 : Int) : Option (Int) :=
  bindO (L0 (Tline_IndexS_0a p0n p0c p1 (p0n : Int) (0 : Int))) fun z =>
  Sum.elim (fun y0 =>
    some y0) (fun y1 =>
    some (-1 : Int)) z
theorem tline_IndexS_eq (F : FnT) (L0 : Q → Option Yline_IndexS_0) (p0n : Nat) (p0c : List PV) (p1 : Int) : semF (callP F Eline_IndexS 20) s110 (loopT [⟨0, Yline_IndexS_0, L0, XLline_IndexS_0⟩]) 400 a110 [PV.list p0n p0c, PV.int IntKind.i64 p1] (fun rv => decR (RSh.one (CK.int IntKind.i64)) rv.pv) = tline_IndexS F L0 p0n p0c p1 := by kernel_rfl
noncomputable abbrev Fline_IndexS (args : List PV) := Fn env 110 (RSh.one (CK.int IntKind.i64)) args
theorem Fline_IndexS_of  (p0n : Nat) (p0c : List PV) (p1 : Int) {res : (Int)} (h : tline_IndexS (Fn env) Lline_IndexS_0 p0n p0c p1 = some res) : Fline_IndexS [PV.list p0n p0c, PV.int IntKind.i64 p1] = some res :=
  fn_of Eline_IndexS_ok rfl rfl (lo_cons (lpO_ok Uline_IndexS) lo_nil) ((tline_IndexS_eq _ _ _ _ _).trans h)

/-! ### line_peak -/

def Eline_peak : List Entry := [.out 105 (RSh.one (CK.int IntKind.i64)), .out 110 (RSh.one (CK.int IntKind.i64))]
theorem Eline_peak_ok : ∀ e ∈ Eline_peak, EntOK env e := (ent_out (ent_out ent_nil))
theorem Uline_peak : uniq ((blocksOf a106.body).map (·.1)) = true := by kernel_rfl
def tline_peak (F : FnT) (p0n : Nat) (p0c : List PV) : Option (Int) :=
  bindO (F 105 (RSh.one (CK.int IntKind.i64)) [(PV.list p0n p0c)]) fun (y0 : (Int)) =>
  bindO (F 110 (RSh.one (CK.int IntKind.i64)) [(PV.list p0n p0c), (PV.int IntKind.i64 y0)]) fun (y1 : (Int)) =>
  some y1
theorem tline_peak_eq (F : FnT) (p0n : Nat) (p0c : List PV) : semF (callP F Eline_peak 20) s106 (loopT []) 400 a106 [PV.list p0n p0c] (fun rv => decR (RSh.one (CK.int IntKind.i64)) rv.pv) = tline_peak F p0n p0c := by kernel_rfl
noncomputable abbrev Fline_peak (args : List PV) := Fn env 106 (RSh.one (CK.int IntKind.i64)) args
theorem Fline_peak_of  (p0n : Nat) (p0c : List PV) {res : (Int)} (h : tline_peak (Fn env) p0n p0c = some res) : Fline_peak [PV.list p0n p0c] = some res :=
  fn_of Eline_peak_ok rfl rfl lo_nil ((tline_peak_eq _ _ _).trans h)

/-! ### BsWithin -/

def EBsWithin : List Entry := []
theorem EBsWithin_ok : ∀ e ∈ EBsWithin, EntOK env e := ent_nil
theorem UBsWithin : uniq ((blocksOf a8.body).map (·.1)) = true := by kernel_rfl
def tBsWithin (F : FnT) (p0 : Int) (p1 : Int) (p2 : Int) : Option (Bool) :=
  bif (decide (p1 ≤ p0)) then
    bif (decide (p0 ≤ p2)) then
      some true
    else some false
  else some false
theorem tBsWithin_eq (F : FnT) (p0 : Int) (p1 : Int) (p2 : Int) : semF (callP F EBsWithin 20) s8 (loopT []) 400 a8 [PV.int IntKind.i64 p0, PV.int IntKind.i64 p1, PV.int IntKind.i64 p2] (fun rv => decR (RSh.one CK.bool) rv.pv) = tBsWithin F p0 p1 p2 := by kernel_rfl
noncomputable abbrev FBsWithin (args : List PV) := Fn env 8 (RSh.one CK.bool) args
theorem FBsWithin_of  (p0 : Int) (p1 : Int) (p2 : Int) {res : (Bool)} (h : tBsWithin (Fn env) p0 p1 p2 = some res) : FBsWithin [PV.int IntKind.i64 p0, PV.int IntKind.i64 p1, PV.int IntKind.i64 p2] = some res :=
  fn_of EBsWithin_ok rfl rfl lo_nil ((tBsWithin_eq _ _ _ _).trans h)

/-! ### BsCopyInts -/

def EBsCopyInts : List Entry := []
theorem EBsCopyInts_ok : ∀ e ∈ EBsCopyInts, EntOK env e := ent_nil
theorem UBsCopyInts : uniq ((blocksOf a41.body).map (·.1)) = true := by kernel_rfl
def tBsCopyInts (F : FnT) (p0n : Nat) (p0c : List PV) : Option ((Nat) × (List PV)) :=
  bif (decide (p0n = 0)) then
    some (0, [])
  else bif (decide ((List.length p0c) = (p0n * 1))) then
    bif (decide ((0 + p0n) ≤ big)) then
      bif (decide ((0 + p0n) = (0 + p0n))) then
        some ((0 + p0n), ([] ++ p0c))
      else none
    else none
  else none
theorem tBsCopyInts_eq (F : FnT) (p0n : Nat) (p0c : List PV) : semF (callP F EBsCopyInts 20) s41 (loopT []) 400 a41 [PV.list p0n p0c] (fun rv => decR (RSh.one CK.list) rv.pv) = tBsCopyInts F p0n p0c := by kernel_rfl
noncomputable abbrev FBsCopyInts (args : List PV) := Fn env 41 (RSh.one CK.list) args
theorem FBsCopyInts_of  (p0n : Nat) (p0c : List PV) {res : ((Nat) × (List PV))} (h : tBsCopyInts (Fn env) p0n p0c = some res) : FBsCopyInts [PV.list p0n p0c] = some res :=
  fn_of EBsCopyInts_ok rfl rfl lo_nil ((tBsCopyInts_eq _ _ _).trans h)

/-! ### BsInts -/

def EBsInts : List Entry := []
theorem EBsInts_ok : ∀ e ∈ EBsInts, EntOK env e := ent_nil
def TBsInts_0a (n0 : Nat) (c1 : List PV) (n2 : Nat) (c3 : List PV) (i4 : Int) : Q := ⟨(tm 26 [(0, (AV.p (PV.list n0 c1))), (1, (AV.p (PV.list n2 c3))), (5, (AV.p (PV.int IntKind.i64 i4)))]), (mm 26 [])⟩
def XBsInts_0a (y : Unit) : Ext × Q := (Ext.ret, ⟨(tm 26 [(4, (AV.p (PV.bool false)))]), (mm 26 [])⟩)
def IBsInts_0a (q : Ext × S) : Unit := ()
def XBsInts_0b (y : Unit) : Ext × Q := (Ext.normal, ⟨(tm 26 []), (mm 26 [])⟩)
def IBsInts_0b (q : Ext × S) : Unit := ()
abbrev YBsInts_0 : Type := (Unit) ⊕ ((Unit))
def XLBsInts_0 : XL YBsInts_0 := .more XBsInts_0a (.one XBsInts_0b)
def IBsInts_0 (q : Ext × S) : YBsInts_0 := bif (cE q.1 == 2) then (Sum.inl (IBsInts_0a q)) else (Sum.inr (IBsInts_0b q))
theorem XIBsInts_0a (y : Unit) : IBsInts_0 (xe (XBsInts_0a y)) = (Sum.inl y) := rfl
theorem XIBsInts_0b (y : Unit) : IBsInts_0 (xe (XBsInts_0b y)) = (Sum.inr y) := rfl
theorem XIBsInts_0 (y : YBsInts_0) : IBsInts_0 (xe (XLBsInts_0.fn y)) = y := (match y with | .inl y => XIBsInts_0a y | .inr y => XIBsInts_0b y)
noncomputable abbrev LBsInts_0 : Q → Option YBsInts_0 := lpO env a32.body 0 XLBsInts_0
noncomputable abbrev RBsInts_0 : Q → Option (Ext × S) := lpR env a32.body 0
theorem LBsInts_0a_of {s : Q} {y : Unit} (h : RBsInts_0 s = exO (XBsInts_0a y)) : LBsInts_0 s = some (Sum.inl y) := lpO_of IBsInts_0 XIBsInts_0 (y := (Sum.inl y)) h
theorem LBsInts_0b_of {s : Q} {y : Unit} (h : RBsInts_0 s = exO (XBsInts_0b y)) : LBsInts_0 s = some (Sum.inr y) := lpO_of IBsInts_0 XIBsInts_0 (y := (Sum.inr y)) h
theorem UBsInts : uniq ((blocksOf a32.body).map (·.1)) = true := by kernel_rfl
def BBsInts_0a (F : FnT) (N : Q → Option (Ext × S)) (E : Ext × Q → Option (Ext × S)) (L0 : Q → Option YBsInts_0) (n0 : Nat) (c1 : List PV) (n2 : Nat) (c3 : List PV) (i4 : Int) : Option (Ext × S) :=
  bif (decide (i4 < (n0 : Int))) then
    bif (decide (((0 : Int) ≤ i4) ∧ (i4 < (n0 : Int)))) then
      bindO (intC IntKind.i64 (c1[((Int.toNat i4) * 1)]?)) fun x0 =>
      bif (decide (((0 : Int) ≤ i4) ∧ (i4 < (n2 : Int)))) then
        bindO (intC IntKind.i64 (c3[((Int.toNat i4) * 1)]?)) fun x1 =>
        bif (x0 != x1) then
          E (XBsInts_0a ())
        else N (TBsInts_0a n0 c1 n2 c3 (w64 (i4 + (1 : Int))))
      else none
    else none
  else E (XBsInts_0b ())
theorem BBsInts_0a_eq (F : FnT) (N : Q → Option (Ext × S)) (E : Ext × Q → Option (Ext × S)) (L0 : Q → Option YBsInts_0) (n0 : Nat) (c1 : List PV) (n2 : Nat) (c3 : List PV) (i4 : Int) : semB (callP F EBsInts 20) s32 (loopT [⟨0, YBsInts_0, L0, XLBsInts_0⟩]) 400 (blkIn a32.body 0) N E (TBsInts_0a n0 c1 n2 c3 i4) = BBsInts_0a F N E L0 n0 c1 n2 c3 i4 := by kernel_rfl
theorem RBsInts_0a_of  (n0 : Nat) (c1 : List PV) (n2 : Nat) (c3 : List PV) (i4 : Int) {r : Ext × S} (h : BBsInts_0a (Fn env) RBsInts_0 exO LBsInts_0 n0 c1 n2 c3 i4 = some r) : RBsInts_0 (TBsInts_0a n0 c1 n2 c3 i4) = some r :=
  lp_of EBsInts_ok (by kernel_rfl) (lo_cons (lpO_ok UBsInts) lo_nil) (by kernel_rfl) ((BBsInts_0a_eq _ _ _ _ _ _ _ _ _).trans h)
def tBsInts (F : FnT) (L0 : Q → Option YBsInts_0) (p0n : Nat) (p0c : List PV) (p1n : Nat) (p1c : List PV) : Option (Bool) :=
  bif ((p0n : Int) != (p1n : Int)) then
    some false
  else bindO (L0 (TBsInts_0a p0n p0c p1n p1c (0 : Int))) fun z =>
  Sum.elim (fun y0 =>
    some false) (fun y1 =>
    some true) z
theorem tBsInts_eq (F : FnT) (L0 : Q → Option YBsInts_0) (p0n : Nat) (p0c : List PV) (p1n : Nat) (p1c : List PV) : semF (callP F EBsInts 20) s32 (loopT [⟨0, YBsInts_0, L0, XLBsInts_0⟩]) 400 a32 [PV.list p0n p0c, PV.list p1n p1c] (fun rv => decR (RSh.one CK.bool) rv.pv) = tBsInts F L0 p0n p0c p1n p1c := by kernel_rfl
noncomputable abbrev FBsInts (args : List PV) := Fn env 32 (RSh.one CK.bool) args
theorem FBsInts_of  (p0n : Nat) (p0c : List PV) (p1n : Nat) (p1c : List PV) {res : (Bool)} (h : tBsInts (Fn env) LBsInts_0 p0n p0c p1n p1c = some res) : FBsInts [PV.list p0n p0c, PV.list p1n p1c] = some res :=
  fn_of EBsInts_ok rfl rfl (lo_cons (lpO_ok UBsInts) lo_nil) ((tBsInts_eq _ _ _ _ _ _).trans h)

/-! ### RfCheckSpectrum -/

def ERfCheckSpectrum : List Entry := [.out 8 (RSh.one CK.bool)]
theorem ERfCheckSpectrum_ok : ∀ e ∈ ERfCheckSpectrum, EntOK env e := (ent_out ent_nil)
def TRfCheckSpectrum_0a (n0 : Nat) (c1 : List PV) (i2 : Int) : Q := ⟨(tm 24 [(0, (AV.p (PV.list n0 c1))), (4, (AV.p (PV.int IntKind.i64 i2)))]), (mm 24 [])⟩
def XRfCheckSpectrum_0a (y : Int) : Ext × Q := (Ext.ret, ⟨(tm 24 [(2, (AV.p (PV.int IntKind.i64 y))), (3, (AV.p (PV.int IntKind.i64 (2 : Int))))]), (mm 24 [])⟩)
def IRfCheckSpectrum_0a (q : Ext × S) : Int := (pP_int1 (pA_p (avT q.2 2)))
def XRfCheckSpectrum_0b (y : Unit) : Ext × Q := (Ext.normal, ⟨(tm 24 []), (mm 24 [])⟩)
def IRfCheckSpectrum_0b (q : Ext × S) : Unit := ()
abbrev YRfCheckSpectrum_0 : Type := (Int) ⊕ ((Unit))
def XLRfCheckSpectrum_0 : XL YRfCheckSpectrum_0 := .more XRfCheckSpectrum_0a (.one XRfCheckSpectrum_0b)
def IRfCheckSpectrum_0 (q : Ext × S) : YRfCheckSpectrum_0 := bif (cE q.1 == 2) then (Sum.inl (IRfCheckSpectrum_0a q)) else (Sum.inr (IRfCheckSpectrum_0b q))
theorem XIRfCheckSpectrum_0a (y : Int) : IRfCheckSpectrum_0 (xe (XRfCheckSpectrum_0a y)) = (Sum.inl y) := rfl
theorem XIRfCheckSpectrum_0b (y : Unit) : IRfCheckSpectrum_0 (xe (XRfCheckSpectrum_0b y)) = (Sum.inr y) := rfl
theorem XIRfCheckSpectrum_0 (y : YRfCheckSpectrum_0) : IRfCheckSpectrum_0 (xe (XLRfCheckSpectrum_0.fn y)) = y := (match y with | .inl y => XIRfCheckSpectrum_0a y | .inr y => XIRfCheckSpectrum_0b y)
noncomputable abbrev LRfCheckSpectrum_0 : Q → Option YRfCheckSpectrum_0 := lpO env a79.body 0 XLRfCheckSpectrum_0
noncomputable abbrev RRfCheckSpectrum_0 : Q → Option (Ext × S) := lpR env a79.body 0
theorem LRfCheckSpectrum_0a_of {s : Q} {y : Int} (h : RRfCheckSpectrum_0 s = exO (XRfCheckSpectrum_0a y)) : LRfCheckSpectrum_0 s = some (Sum.inl y) := lpO_of IRfCheckSpectrum_0 XIRfCheckSpectrum_0 (y := (Sum.inl y)) h
theorem LRfCheckSpectrum_0b_of {s : Q} {y : Unit} (h : RRfCheckSpectrum_0 s = exO (XRfCheckSpectrum_0b y)) : LRfCheckSpectrum_0 s = some (Sum.inr y) := lpO_of IRfCheckSpectrum_0 XIRfCheckSpectrum_0 (y := (Sum.inr y)) h
theorem URfCheckSpectrum : uniq ((blocksOf a79.body).map (·.1)) = true := by kernel_rfl
def BRfCheckSpectrum_0a (F : FnT) (N : Q → Option (Ext × S)) (E : Ext × Q → Option (Ext × S)) (L0 : Q → Option YRfCheckSpectrum_0) (n0 : Nat) (c1 : List PV) (i2 : Int) : Option (Ext × S) :=
  bif (decide (i2 < (n0 : Int))) then
    bif (decide (((0 : Int) ≤ i2) ∧ (i2 < (n0 : Int)))) then
      bindO (intC IntKind.i64 (c1[((Int.toNat i2) * 1)]?)) fun x0 =>
      bindO (F 8 (RSh.one CK.bool) [(PV.int IntKind.i64 x0), (PV.int IntKind.i64 (0 : Int)), (PV.int IntKind.i64 (10000 : Int))]) fun (y1 : (Bool)) =>
      bif y1 then
        N (TRfCheckSpectrum_0a n0 c1 (w64 (i2 + (1 : Int))))
      else E (XRfCheckSpectrum_0a i2)
    else none
  else E (XRfCheckSpectrum_0b ())
theorem BRfCheckSpectrum_0a_eq (F : FnT) (N : Q → Option (Ext × S)) (E : Ext × Q → Option (Ext × S)) (L0 : Q → Option YRfCheckSpectrum_0) (n0 : Nat) (c1 : List PV) (i2 : Int) : semB (callP F ERfCheckSpectrum 20) s79 (loopT [⟨0, YRfCheckSpectrum_0, L0, XLRfCheckSpectrum_0⟩]) 400 (blkIn a79.body 0) N E (TRfCheckSpectrum_0a n0 c1 i2) = BRfCheckSpectrum_0a F N E L0 n0 c1 i2 := by kernel_rfl
theorem RRfCheckSpectrum_0a_of  (n0 : Nat) (c1 : List PV) (i2 : Int) {r : Ext × S} (h : BRfCheckSpectrum_0a (Fn env) RRfCheckSpectrum_0 exO LRfCheckSpectrum_0 n0 c1 i2 = some r) : RRfCheckSpectrum_0 (TRfCheckSpectrum_0a n0 c1 i2) = some r :=
  lp_of ERfCheckSpectrum_ok (by kernel_rfl) (lo_cons (lpO_ok URfCheckSpectrum) lo_nil) (by kernel_rfl) ((BRfCheckSpectrum_0a_eq _ _ _ _ _ _ _).trans h)
def tRfCheckSpectrum (F : FnT) (L0 : Q → Option YRfCheckSpectrum_0) (p0n : Nat) (p0c : List PV) : Option ((Int) × (Int)) :=
  bif ((p0n : Int) == (0 : Int)) then
    some ((0 : Int), (10 : Int))
  else bif (decide ((p0n : Int) > (16 : Int))) then
    some ((0 : Int), (8 : Int))
  else bindO (L0 (TRfCheckSpectrum_0a p0n p0c (0 : Int))) fun z =>
  Sum.elim (fun y0 =>
    some (y0, (2 : Int))) (fun y1 =>
    some ((0 : Int), (0 : Int))) z
theorem tRfCheckSpectrum_eq (F : FnT) (L0 : Q → Option YRfCheckSpectrum_0) (p0n : Nat) (p0c : List PV) : semF (callP F ERfCheckSpectrum 20) s79 (loopT [⟨0, YRfCheckSpectrum_0, L0, XLRfCheckSpectrum_0⟩]) 400 a79 [PV.list p0n p0c] (fun rv => decR (RSh.tup [(Prod.mk false [(CK.int IntKind.i64)]), (Prod.mk false [(CK.int IntKind.i64)])]) rv.pv) = tRfCheckSpectrum F L0 p0n p0c := by kernel_rfl
noncomputable abbrev FRfCheckSpectrum (args : List PV) := Fn env 79 (RSh.tup [(Prod.mk false [(CK.int IntKind.i64)]), (Prod.mk false [(CK.int IntKind.i64)])]) args
theorem FRfCheckSpectrum_of  (p0n : Nat) (p0c : List PV) {res : ((Int) × (Int))} (h : tRfCheckSpectrum (Fn env) LRfCheckSpectrum_0 p0n p0c = some res) : FRfCheckSpectrum [PV.list p0n p0c] = some res :=
  fn_of ERfCheckSpectrum_ok rfl rfl (lo_cons (lpO_ok URfCheckSpectrum) lo_nil) ((tRfCheckSpectrum_eq _ _ _ _).trans h)

/-! ### RfSpectrumErr -/

def ERfSpectrumErr : List Entry := [.out 79 (RSh.tup [(Prod.mk false [(CK.int IntKind.i64)]), (Prod.mk false [(CK.int IntKind.i64)])])]
theorem ERfSpectrumErr_ok : ∀ e ∈ ERfSpectrumErr, EntOK env e := (ent_out ent_nil)
theorem URfSpectrumErr : uniq ((blocksOf a49.body).map (·.1)) = true := by kernel_rfl
def tRfSpectrumErr (F : FnT) (p0n : Nat) (p0c : List PV) : Option (Int) :=
  bindO (F 79 (RSh.tup [(Prod.mk false [(CK.int IntKind.i64)]), (Prod.mk false [(CK.int IntKind.i64)])]) [(PV.list p0n p0c)]) fun (y0 : ((Int) × (Int))) =>
  some y0.2
theorem tRfSpectrumErr_eq (F : FnT) (p0n : Nat) (p0c : List PV) : semF (callP F ERfSpectrumErr 20) s49 (loopT []) 400 a49 [PV.list p0n p0c] (fun rv => decR (RSh.one (CK.int IntKind.i64)) rv.pv) = tRfSpectrumErr F p0n p0c := by kernel_rfl
noncomputable abbrev FRfSpectrumErr (args : List PV) := Fn env 49 (RSh.one (CK.int IntKind.i64)) args
theorem FRfSpectrumErr_of  (p0n : Nat) (p0c : List PV) {res : (Int)} (h : tRfSpectrumErr (Fn env) p0n p0c = some res) : FRfSpectrumErr [PV.list p0n p0c] = some res :=
  fn_of ERfSpectrumErr_ok rfl rfl lo_nil ((tRfSpectrumErr_eq _ _ _).trans h)

/-! ### RfPeaks -/

def ERfPeaks : List Entry := []
theorem ERfPeaks_ok : ∀ e ∈ ERfPeaks, EntOK env e := ent_nil
def TRfPeaks_0a (n0 : Nat) (c1 : List PV) (i2 : Int) : Q := ⟨(tm 37 [(0, (AV.p (PV.list n0 c1))), (3, AV.nilS), (4, (AV.p (PV.int IntKind.i64 i2)))]), (mm 37 [])⟩
def TRfPeaks_0b (n0 : Nat) (c1 : List PV) (n2 : Nat) (c3 : List PV) (i4 : Int) (n5 : Nat) : Q := ⟨(tm 37 [(0, (AV.p (PV.list n0 c1))), (3, (AV.app 35 n2 1 c3)), (4, (AV.p (PV.int IntKind.i64 i4)))]), (mm 37 [(35, (Bk.buf n5))])⟩
def XRfPeaks_0a (y : Unit) : Ext × Q := (Ext.normal, ⟨(tm 37 [(3, AV.nilS)]), (mm 37 [])⟩)
def IRfPeaks_0a (q : Ext × S) : Unit := ()
def XRfPeaks_0b (y : Nat × List PV × Nat) : Ext × Q := (Ext.normal, ⟨(tm 37 [(3, (AV.app 35 y.1 1 y.2.1))]), (mm 37 [(35, (Bk.buf y.2.2))])⟩)
def IRfPeaks_0b (q : Ext × S) : Nat × List PV × Nat := ((pA_app1 (avT q.2 3)), (pA_app3 (avT q.2 3)), (pB_buf0 (avM q.2 35)))
abbrev YRfPeaks_0 : Type := (Unit) ⊕ ((Nat × List PV × Nat))
def XLRfPeaks_0 : XL YRfPeaks_0 := .more XRfPeaks_0a (.one XRfPeaks_0b)
def IRfPeaks_0 (q : Ext × S) : YRfPeaks_0 := bif (cA (avT q.2 3) == 1) then (Sum.inl (IRfPeaks_0a q)) else (Sum.inr (IRfPeaks_0b q))
theorem XIRfPeaks_0a (y : Unit) : IRfPeaks_0 (xe (XRfPeaks_0a y)) = (Sum.inl y) := rfl
theorem XIRfPeaks_0b (y : Nat × List PV × Nat) : IRfPeaks_0 (xe (XRfPeaks_0b y)) = (Sum.inr y) := rfl
theorem XIRfPeaks_0 (y : YRfPeaks_0) : IRfPeaks_0 (xe (XLRfPeaks_0.fn y)) = y := (match y with | .inl y => XIRfPeaks_0a y | .inr y => XIRfPeaks_0b y)
noncomputable abbrev LRfPeaks_0 : Q → Option YRfPeaks_0 := lpO env a103.body 0 XLRfPeaks_0
noncomputable abbrev RRfPeaks_0 : Q → Option (Ext × S) := lpR env a103.body 0
theorem LRfPeaks_0a_of {s : Q} {y : Unit} (h : RRfPeaks_0 s = exO (XRfPeaks_0a y)) : LRfPeaks_0 s = some (Sum.inl y) := lpO_of IRfPeaks_0 XIRfPeaks_0 (y := (Sum.inl y)) h
theorem LRfPeaks_0b_of {s : Q} {y : Nat × List PV × Nat} (h : RRfPeaks_0 s = exO (XRfPeaks_0b y)) : LRfPeaks_0 s = some (Sum.inr y) := lpO_of IRfPeaks_0 XIRfPeaks_0 (y := (Sum.inr y)) h
def TRfPeaks_2a (n0 : Nat) (c1 : List PV) (i2 : Int) (b3 : Bool) (i4 : Int) : Q := ⟨(tm 37 [(0, (AV.p (PV.list n0 c1))), (3, AV.nilS), (4, (AV.p (PV.int IntKind.i64 i2))), (5, (AV.p (PV.bool b3))), (6, (AV.p (PV.int IntKind.i64 i4)))]), (mm 37 [])⟩
def TRfPeaks_2b (n0 : Nat) (c1 : List PV) (n2 : Nat) (c3 : List PV) (i4 : Int) (b5 : Bool) (i6 : Int) (n7 : Nat) : Q := ⟨(tm 37 [(0, (AV.p (PV.list n0 c1))), (3, (AV.app 35 n2 1 c3)), (4, (AV.p (PV.int IntKind.i64 i4))), (5, (AV.p (PV.bool b5))), (6, (AV.p (PV.int IntKind.i64 i6)))]), (mm 37 [(35, (Bk.buf n7))])⟩
def XRfPeaks_2a (y : Nat × List PV × Int × Bool) : Ext × Q := (Ext.normal, ⟨(tm 37 [(0, (AV.p (PV.list y.1 y.2.1))), (3, AV.nilS), (4, (AV.p (PV.int IntKind.i64 y.2.2.1))), (5, (AV.p (PV.bool y.2.2.2)))]), (mm 37 [])⟩)
def IRfPeaks_2a (q : Ext × S) : Nat × List PV × Int × Bool := ((pP_list0 (pA_p (avT q.2 0))), (pP_list1 (pA_p (avT q.2 0))), (pP_int1 (pA_p (avT q.2 4))), (pP_bool0 (pA_p (avT q.2 5))))
def XRfPeaks_2b (y : Nat × List PV × Nat × List PV × Int × Bool × Nat) : Ext × Q := (Ext.normal, ⟨(tm 37 [(0, (AV.p (PV.list y.1 y.2.1))), (3, (AV.app 35 y.2.2.1 1 y.2.2.2.1)), (4, (AV.p (PV.int IntKind.i64 y.2.2.2.2.1))), (5, (AV.p (PV.bool y.2.2.2.2.2.1)))]), (mm 37 [(35, (Bk.buf y.2.2.2.2.2.2))])⟩)
def IRfPeaks_2b (q : Ext × S) : Nat × List PV × Nat × List PV × Int × Bool × Nat := ((pP_list0 (pA_p (avT q.2 0))), (pP_list1 (pA_p (avT q.2 0))), (pA_app1 (avT q.2 3)), (pA_app3 (avT q.2 3)), (pP_int1 (pA_p (avT q.2 4))), (pP_bool0 (pA_p (avT q.2 5))), (pB_buf0 (avM q.2 35)))
abbrev YRfPeaks_2 : Type := (Nat × List PV × Int × Bool) ⊕ ((Nat × List PV × Nat × List PV × Int × Bool × Nat))
def XLRfPeaks_2 : XL YRfPeaks_2 := .more XRfPeaks_2a (.one XRfPeaks_2b)
def IRfPeaks_2 (q : Ext × S) : YRfPeaks_2 := bif (cA (avT q.2 3) == 1) then (Sum.inl (IRfPeaks_2a q)) else (Sum.inr (IRfPeaks_2b q))
theorem XIRfPeaks_2a (y : Nat × List PV × Int × Bool) : IRfPeaks_2 (xe (XRfPeaks_2a y)) = (Sum.inl y) := rfl
theorem XIRfPeaks_2b (y : Nat × List PV × Nat × List PV × Int × Bool × Nat) : IRfPeaks_2 (xe (XRfPeaks_2b y)) = (Sum.inr y) := rfl
theorem XIRfPeaks_2 (y : YRfPeaks_2) : IRfPeaks_2 (xe (XLRfPeaks_2.fn y)) = y := (match y with | .inl y => XIRfPeaks_2a y | .inr y => XIRfPeaks_2b y)
noncomputable abbrev LRfPeaks_2 : Q → Option YRfPeaks_2 := lpO env a103.body 2 XLRfPeaks_2
noncomputable abbrev RRfPeaks_2 : Q → Option (Ext × S) := lpR env a103.body 2
theorem LRfPeaks_2a_of {s : Q} {y : Nat × List PV × Int × Bool} (h : RRfPeaks_2 s = exO (XRfPeaks_2a y)) : LRfPeaks_2 s = some (Sum.inl y) := lpO_of IRfPeaks_2 XIRfPeaks_2 (y := (Sum.inl y)) h
theorem LRfPeaks_2b_of {s : Q} {y : Nat × List PV × Nat × List PV × Int × Bool × Nat} (h : RRfPeaks_2 s = exO (XRfPeaks_2b y)) : LRfPeaks_2 s = some (Sum.inr y) := lpO_of IRfPeaks_2 XIRfPeaks_2 (y := (Sum.inr y)) h
theorem URfPeaks : uniq ((blocksOf a103.body).map (·.1)) = true := by kernel_rfl
def BRfPeaks_0a (F : FnT) (N : Q → Option (Ext × S)) (E : Ext × Q → Option (Ext × S)) (L0 : Q → Option YRfPeaks_0) (L2 : Q → Option YRfPeaks_2) (n0 : Nat) (c1 : List PV) (i2 : Int) : Option (Ext × S) :=
  bif (decide (i2 < (n0 : Int))) then
    bindO (L2 (TRfPeaks_2a n0 c1 i2 true (0 : Int))) fun z =>
    Sum.elim (fun y0 =>
      bif y0.2.2.2 then
        N (TRfPeaks_0b y0.1 y0.2.1 1 [(PV.int IntKind.i64 y0.2.2.1)] (w64 (y0.2.2.1 + (1 : Int))) 1)
      else N (TRfPeaks_0a y0.1 y0.2.1 (w64 (y0.2.2.1 + (1 : Int))))) (fun y1 =>
      bif y1.2.2.2.2.2.1 then
        bif (decide ((y1.2.2.2.2.2.2 = y1.2.2.1) ∧ ((y1.2.2.1 + 1) ≤ big))) then
          N (TRfPeaks_0b y1.1 y1.2.1 (y1.2.2.1 + 1) (y1.2.2.2.1 ++ [(PV.int IntKind.i64 y1.2.2.2.2.1)]) (w64 (y1.2.2.2.2.1 + (1 : Int))) (y1.2.2.1 + 1))
        else none
      else N (TRfPeaks_0b y1.1 y1.2.1 y1.2.2.1 y1.2.2.2.1 (w64 (y1.2.2.2.2.1 + (1 : Int))) y1.2.2.2.2.2.2)) z
  else E (XRfPeaks_0a ())
theorem BRfPeaks_0a_eq (F : FnT) (N : Q → Option (Ext × S)) (E : Ext × Q → Option (Ext × S)) (L0 : Q → Option YRfPeaks_0) (L2 : Q → Option YRfPeaks_2) (n0 : Nat) (c1 : List PV) (i2 : Int) : semB (callP F ERfPeaks 20) s103 (loopT [⟨0, YRfPeaks_0, L0, XLRfPeaks_0⟩, ⟨2, YRfPeaks_2, L2, XLRfPeaks_2⟩]) 400 (blkIn a103.body 0) N E (TRfPeaks_0a n0 c1 i2) = BRfPeaks_0a F N E L0 L2 n0 c1 i2 := by kernel_rfl
theorem RRfPeaks_0a_of  (n0 : Nat) (c1 : List PV) (i2 : Int) {r : Ext × S} (h : BRfPeaks_0a (Fn env) RRfPeaks_0 exO LRfPeaks_0 LRfPeaks_2 n0 c1 i2 = some r) : RRfPeaks_0 (TRfPeaks_0a n0 c1 i2) = some r :=
  lp_of ERfPeaks_ok (by kernel_rfl) (lo_cons (lpO_ok URfPeaks) (lo_cons (lpO_ok URfPeaks) lo_nil)) (by kernel_rfl) ((BRfPeaks_0a_eq _ _ _ _ _ _ _ _).trans h)
def BRfPeaks_0b (F : FnT) (N : Q → Option (Ext × S)) (E : Ext × Q → Option (Ext × S)) (L0 : Q → Option YRfPeaks_0) (L2 : Q → Option YRfPeaks_2) (n0 : Nat) (c1 : List PV) (n2 : Nat) (c3 : List PV) (i4 : Int) (n5 : Nat) : Option (Ext × S) :=
  bif (decide (i4 < (n0 : Int))) then
    bindO (L2 (TRfPeaks_2b n0 c1 n2 c3 i4 true (0 : Int) n5)) fun z =>
    Sum.elim (fun y0 =>
      bif y0.2.2.2 then
        N (TRfPeaks_0b y0.1 y0.2.1 1 [(PV.int IntKind.i64 y0.2.2.1)] (w64 (y0.2.2.1 + (1 : Int))) 1)
      else N (TRfPeaks_0a y0.1 y0.2.1 (w64 (y0.2.2.1 + (1 : Int))))) (fun y1 =>
      bif y1.2.2.2.2.2.1 then
        bif (decide ((y1.2.2.2.2.2.2 = y1.2.2.1) ∧ ((y1.2.2.1 + 1) ≤ big))) then
          N (TRfPeaks_0b y1.1 y1.2.1 (y1.2.2.1 + 1) (y1.2.2.2.1 ++ [(PV.int IntKind.i64 y1.2.2.2.2.1)]) (w64 (y1.2.2.2.2.1 + (1 : Int))) (y1.2.2.1 + 1))
        else none
      else N (TRfPeaks_0b y1.1 y1.2.1 y1.2.2.1 y1.2.2.2.1 (w64 (y1.2.2.2.2.1 + (1 : Int))) y1.2.2.2.2.2.2)) z
  else E (XRfPeaks_0b (n2, c3, n5))
theorem BRfPeaks_0b_eq (F : FnT) (N : Q → Option (Ext × S)) (E : Ext × Q → Option (Ext × S)) (L0 : Q → Option YRfPeaks_0) (L2 : Q → Option YRfPeaks_2) (n0 : Nat) (c1 : List PV) (n2 : Nat) (c3 : List PV) (i4 : Int) (n5 : Nat) : semB (callP F ERfPeaks 20) s103 (loopT [⟨0, YRfPeaks_0, L0, XLRfPeaks_0⟩, ⟨2, YRfPeaks_2, L2, XLRfPeaks_2⟩]) 400 (blkIn a103.body 0) N E (TRfPeaks_0b n0 c1 n2 c3 i4 n5) = BRfPeaks_0b F N E L0 L2 n0 c1 n2 c3 i4 n5 := by kernel_rfl
theorem RRfPeaks_0b_of  (n0 : Nat) (c1 : List PV) (n2 : Nat) (c3 : List PV) (i4 : Int) (n5 : Nat) {r : Ext × S} (h : BRfPeaks_0b (Fn env) RRfPeaks_0 exO LRfPeaks_0 LRfPeaks_2 n0 c1 n2 c3 i4 n5 = some r) : RRfPeaks_0 (TRfPeaks_0b n0 c1 n2 c3 i4 n5) = some r :=
  lp_of ERfPeaks_ok (by kernel_rfl) (lo_cons (lpO_ok URfPeaks) (lo_cons (lpO_ok URfPeaks) lo_nil)) (by kernel_rfl) ((BRfPeaks_0b_eq _ _ _ _ _ _ _ _ _ _ _).trans h)
def BRfPeaks_2a (F : FnT) (N : Q → Option (Ext × S)) (E : Ext × Q → Option (Ext × S)) (L0 : Q → Option YRfPeaks_0) (L2 : Q → Option YRfPeaks_2) (n0 : Nat) (c1 : List PV) (i2 : Int) (b3 : Bool) (i4 : Int) : Option (Ext × S) :=
  bif (decide (i4 < (n0 : Int))) then
    bif b3 then
      bif (decide (((0 : Int) ≤ i4) ∧ (i4 < (n0 : Int)))) then
        bindO (intC IntKind.i64 (c1[((Int.toNat i4) * 1)]?)) fun x0 =>
        bif (decide (((0 : Int) ≤ i2) ∧ (i2 < (n0 : Int)))) then
          bindO (intC IntKind.i64 (c1[((Int.toNat i2) * 1)]?)) fun x1 =>
          bif (decide (x0 ≤ x1)) then
            N (TRfPeaks_2a n0 c1 i2 true (w64 (i4 + (1 : Int))))
          else N (TRfPeaks_2a n0 c1 i2 false (w64 (i4 + (1 : Int))))
        else none
      else none
    else N (TRfPeaks_2a n0 c1 i2 false (w64 (i4 + (1 : Int))))
  else E (XRfPeaks_2a (n0, c1, i2, b3))
theorem BRfPeaks_2a_eq (F : FnT) (N : Q → Option (Ext × S)) (E : Ext × Q → Option (Ext × S)) (L0 : Q → Option YRfPeaks_0) (L2 : Q → Option YRfPeaks_2) (n0 : Nat) (c1 : List PV) (i2 : Int) (b3 : Bool) (i4 : Int) : semB (callP F ERfPeaks 20) s103 (loopT [⟨0, YRfPeaks_0, L0, XLRfPeaks_0⟩, ⟨2, YRfPeaks_2, L2, XLRfPeaks_2⟩]) 400 (blkIn a103.body 2) N E (TRfPeaks_2a n0 c1 i2 b3 i4) = BRfPeaks_2a F N E L0 L2 n0 c1 i2 b3 i4 := by kernel_rfl
theorem RRfPeaks_2a_of  (n0 : Nat) (c1 : List PV) (i2 : Int) (b3 : Bool) (i4 : Int) {r : Ext × S} (h : BRfPeaks_2a (Fn env) RRfPeaks_2 exO LRfPeaks_0 LRfPeaks_2 n0 c1 i2 b3 i4 = some r) : RRfPeaks_2 (TRfPeaks_2a n0 c1 i2 b3 i4) = some r :=
  lp_of ERfPeaks_ok (by kernel_rfl) (lo_cons (lpO_ok URfPeaks) (lo_cons (lpO_ok URfPeaks) lo_nil)) (by kernel_rfl) ((BRfPeaks_2a_eq _ _ _ _ _ _ _ _ _ _).trans h)
def BRfPeaks_2b (F : FnT) (N : Q → Option (Ext × S)) (E : Ext × Q → Option (Ext × S)) (L0 : Q → Option YRfPeaks_0) (L2 : Q → Option YRfPeaks_2) (n0 : Nat) (c1 : List PV) (n2 : Nat) (c3 : List PV) (i4 : Int) (b5 : Bool) (i6 : Int) (n7 : Nat) : Option (Ext × S) :=
  bif (decide (i6 < (n0 : Int))) then
    bif b5 then
      bif (decide (((0 : Int) ≤ i6) ∧ (i6 < (n0 : Int)))) then
        bindO (intC IntKind.i64 (c1[((Int.toNat i6) * 1)]?)) fun x0 =>
        bif (decide (((0 : Int) ≤ i4) ∧ (i4 < (n0 : Int)))) then
          bindO (intC IntKind.i64 (c1[((Int.toNat i4) * 1)]?)) fun x1 =>
          bif (decide (x0 ≤ x1)) then
            N (TRfPeaks_2b n0 c1 n2 c3 i4 true (w64 (i6 + (1 : Int))) n7)
          else N (TRfPeaks_2b n0 c1 n2 c3 i4 false (w64 (i6 + (1 : Int))) n7)
        else none
      else none
    else N (TRfPeaks_2b n0 c1 n2 c3 i4 false (w64 (i6 + (1 : Int))) n7)
  else E (XRfPeaks_2b (n0, c1, n2, c3, i4, b5, n7))
theorem BRfPeaks_2b_eq (F : FnT) (N : Q → Option (Ext × S)) (E : Ext × Q → Option (Ext × S)) (L0 : Q → Option YRfPeaks_0) (L2 : Q → Option YRfPeaks_2) (n0 : Nat) (c1 : List PV) (n2 : Nat) (c3 : List PV) (i4 : Int) (b5 : Bool) (i6 : Int) (n7 : Nat) : semB (callP F ERfPeaks 20) s103 (loopT [⟨0, YRfPeaks_0, L0, XLRfPeaks_0⟩, ⟨2, YRfPeaks_2, L2, XLRfPeaks_2⟩]) 400 (blkIn a103.body 2) N E (TRfPeaks_2b n0 c1 n2 c3 i4 b5 i6 n7) = BRfPeaks_2b F N E L0 L2 n0 c1 n2 c3 i4 b5 i6 n7 := by kernel_rfl
theorem RRfPeaks_2b_of  (n0 : Nat) (c1 : List PV) (n2 : Nat) (c3 : List PV) (i4 : Int) (b5 : Bool) (i6 : Int) (n7 : Nat) {r : Ext × S} (h : BRfPeaks_2b (Fn env) RRfPeaks_2 exO LRfPeaks_0 LRfPeaks_2 n0 c1 n2 c3 i4 b5 i6 n7 = some r) : RRfPeaks_2 (TRfPeaks_2b n0 c1 n2 c3 i4 b5 i6 n7) = some r :=
  lp_of ERfPeaks_ok (by kernel_rfl) (lo_cons (lpO_ok URfPeaks) (lo_cons (lpO_ok URfPeaks) lo_nil)) (by kernel_rfl) ((BRfPeaks_2b_eq _ _ _ _ _ _ _ _ _ _ _ _ _).trans h)
def tRfPeaks (F : FnT) (L0 : Q → Option YRfPeaks_0) (L2 : Q → Option YRfPeaks_2) (p0n : Nat) (p0c : List PV) : Option ((Nat) × (List PV)) :=
  bindO (L0 (TRfPeaks_0a p0n p0c (0 : Int))) fun z =>
  Sum.elim (fun y0 =>
    some (0, [])) (fun y1 =>
    bif (decide (y1.2.2 = y1.1)) then
      some (y1.1, y1.2.1)
    else none) z
theorem tRfPeaks_eq (F : FnT) (L0 : Q → Option YRfPeaks_0) (L2 : Q → Option YRfPeaks_2) (p0n : Nat) (p0c : List PV) : semF (callP F ERfPeaks 20) s103 (loopT [⟨0, YRfPeaks_0, L0, XLRfPeaks_0⟩, ⟨2, YRfPeaks_2, L2, XLRfPeaks_2⟩]) 400 a103 [PV.list p0n p0c] (fun rv => decR (RSh.one CK.list) rv.pv) = tRfPeaks F L0 L2 p0n p0c := by kernel_rfl
noncomputable abbrev FRfPeaks (args : List PV) := Fn env 103 (RSh.one CK.list) args
theorem FRfPeaks_of  (p0n : Nat) (p0c : List PV) {res : ((Nat) × (List PV))} (h : tRfPeaks (Fn env) LRfPeaks_0 LRfPeaks_2 p0n p0c = some res) : FRfPeaks [PV.list p0n p0c] = some res :=
  fn_of ERfPeaks_ok rfl rfl (lo_cons (lpO_ok URfPeaks) (lo_cons (lpO_ok URfPeaks) lo_nil)) ((tRfPeaks_eq _ _ _ _ _).trans h)

/-! ### RfPeak -/

def ERfPeak : List Entry := [.out 103 (RSh.one CK.list)]
theorem ERfPeak_ok : ∀ e ∈ ERfPeak, EntOK env e := (ent_out ent_nil)
theorem URfPeak : uniq ((blocksOf a78.body).map (·.1)) = true := by kernel_rfl
def tRfPeak (F : FnT) (p0n : Nat) (p0c : List PV) : Option (Int) :=
  bindO (F 103 (RSh.one CK.list) [(PV.list p0n p0c)]) fun (y0 : ((Nat) × (List PV))) =>
  bif (decide (((0 : Int) ≤ (0 : Int)) ∧ ((0 : Int) < (y0.1 : Int)))) then
    bindO (intC IntKind.i64 (y0.2[0]?)) fun x1 =>
    some x1
  else none
theorem tRfPeak_eq (F : FnT) (p0n : Nat) (p0c : List PV) : semF (callP F ERfPeak 20) s78 (loopT []) 400 a78 [PV.list p0n p0c] (fun rv => decR (RSh.one (CK.int IntKind.i64)) rv.pv) = tRfPeak F p0n p0c := by kernel_rfl
noncomputable abbrev FRfPeak (args : List PV) := Fn env 78 (RSh.one (CK.int IntKind.i64)) args
theorem FRfPeak_of  (p0n : Nat) (p0c : List PV) {res : (Int)} (h : tRfPeak (Fn env) p0n p0c = some res) : FRfPeak [PV.list p0n p0c] = some res :=
  fn_of ERfPeak_ok rfl rfl lo_nil ((tRfPeak_eq _ _ _).trans h)

/-! ### Lwshort -/

def ELwshort : List Entry := []
theorem ELwshort_ok : ∀ e ∈ ELwshort, EntOK env e := ent_nil
theorem ULwshort : uniq ((blocksOf a6.body).map (·.1)) = true := by kernel_rfl
def tLwshort (F : FnT) (p0n : Nat) (p0c : List PV) : Option (Bool) :=
  bif (decide ((p0n : Int) ≤ (20 : Int))) then
    some true
  else some false
theorem tLwshort_eq (F : FnT) (p0n : Nat) (p0c : List PV) : semF (callP F ELwshort 20) s6 (loopT []) 400 a6 [PV.list p0n p0c] (fun rv => decR (RSh.one CK.bool) rv.pv) = tLwshort F p0n p0c := by kernel_rfl
noncomputable abbrev FLwshort (args : List PV) := Fn env 6 (RSh.one CK.bool) args
theorem FLwshort_of  (p0n : Nat) (p0c : List PV) {res : (Bool)} (h : tLwshort (Fn env) p0n p0c = some res) : FLwshort [PV.list p0n p0c] = some res :=
  fn_of ELwshort_ok rfl rfl lo_nil ((tLwshort_eq _ _ _).trans h)

end Gv
