/- What the functions do, round by round: M1. -/
import Derived.Test.YtlpecmcejjgmfaaGvEnv
namespace Gv
open Go
set_option maxRecDepth 100000

/-! ### line_errorIf -/

def Eline_errorIf : List Entry := []
theorem Eline_errorIf_ok : ∀ e ∈ Eline_errorIf, EntOK env e := ent_nil
theorem Uline_errorIf : uniq ((blocksOf a61.body).map (·.1)) = true := by kernel_rfl
def tline_errorIf (F : FnT) (p0 : Bool) (p1 : Int) : Option (Int) :=
  bif p0 then
    some p1
  else some (0 : Int)
theorem tline_errorIf_eq (F : FnT) (p0 : Bool) (p1 : Int) : semF (callP F Eline_errorIf 20) s61 (loopT []) 400 a61 [PV.bool p0, PV.int IntKind.i64 p1] (fun rv => decR (RSh.one (CK.int IntKind.i64)) rv.pv) = tline_errorIf F p0 p1 := by kernel_rfl
noncomputable abbrev Fline_errorIf (args : List PV) := Fn env 61 (RSh.one (CK.int IntKind.i64)) args
theorem Fline_errorIf_of  (p0 : Bool) (p1 : Int) {res : (Int)} (h : tline_errorIf (Fn env) p0 p1 = some res) : Fline_errorIf [PV.bool p0, PV.int IntKind.i64 p1] = some res :=
  fn_of Eline_errorIf_ok rfl rfl lo_nil ((tline_errorIf_eq _ _ _).trans h)

/-! ### line_outside_1 -/

def Eline_outside_1 : List Entry := []
theorem Eline_outside_1_ok : ∀ e ∈ Eline_outside_1, EntOK env e := ent_nil
theorem Uline_outside_1 : uniq ((blocksOf a107.body).map (·.1)) = true := by kernel_rfl
def tline_outside_1 (F : FnT)(x lo hi : Int) : Option (Bool) :=
  bif (decide (x < lo)) then
    some true
  else bif (decide (x > hi)) then
    some true
  else some false
theorem tline_outside_1_eq (F : FnT)(x lo hi : Int) : semF (callP F Eline_outside_1 20) s107 (loopT []) 400 a107 [.int .i64 x, .imm [.int .i64 lo] 0, .imm [.int .i64 hi] 0] (fun rv => decR (RSh.one CK.bool) rv.pv) = tline_outside_1 F x lo hi := by kernel_rfl
noncomputable abbrev Fline_outside_1 (args : List PV) := Fn env 107 (RSh.one CK.bool) args
theorem Fline_outside_1_of (x lo hi : Int) {res : (Bool)} (h : tline_outside_1 (Fn env) x lo hi = some res) : Fline_outside_1 [.int .i64 x, .imm [.int .i64 lo] 0, .imm [.int .i64 hi] 0] = some res :=
  fn_of Eline_outside_1_ok rfl rfl lo_nil ((tline_outside_1_eq _ _ _ _).trans h)

/-! ### line_rangeError -/

def Eline_rangeError : List Entry := [.inl 81 a81 s81, .inl 61 a61 s61, .out 107 (RSh.one CK.bool)]
theorem Eline_rangeError_ok : ∀ e ∈ Eline_rangeError, EntOK env e := (ent_inl rfl (ent_inl rfl (ent_out ent_nil)))
theorem Uline_rangeError : uniq ((blocksOf a46.body).map (·.1)) = true := by kernel_rfl
def tline_rangeError (F : FnT) (p0 : Int) (p1 : Int) (p2 : Int) : Option (Int) :=
  bindO (F 107 (RSh.one CK.bool) [(PV.int IntKind.i64 p0), (PV.imm [(PV.int IntKind.i64 p1)] 0), (PV.imm [(PV.int IntKind.i64 p2)] 0)]) fun (y0 : (Bool)) =>
  bif y0 then
    some (2 : Int)
  else some (0 : Int)
theorem tline_rangeError_eq (F : FnT) (p0 : Int) (p1 : Int) (p2 : Int) : semF (callP F Eline_rangeError 20) s46 (loopT []) 400 a46 [PV.int IntKind.i64 p0, PV.int IntKind.i64 p1, PV.int IntKind.i64 p2] (fun rv => decR (RSh.one (CK.int IntKind.i64)) rv.pv) = tline_rangeError F p0 p1 p2 := by kernel_rfl
noncomputable abbrev Fline_rangeError (args : List PV) := Fn env 46 (RSh.one (CK.int IntKind.i64)) args
theorem Fline_rangeError_of  (p0 : Int) (p1 : Int) (p2 : Int) {res : (Int)} (h : tline_rangeError (Fn env) p0 p1 p2 = some res) : Fline_rangeError [PV.int IntKind.i64 p0, PV.int IntKind.i64 p1, PV.int IntKind.i64 p2] = some res :=
  fn_of Eline_rangeError_ok rfl rfl lo_nil ((tline_rangeError_eq _ _ _ _).trans h)

/-! ### line_firstError_2 -/

def Eline_firstError_2 : List Entry := []
theorem Eline_firstError_2_ok : ∀ e ∈ Eline_firstError_2, EntOK env e := ent_nil
theorem Uline_firstError_2 : uniq ((blocksOf a44.body).map (·.1)) = true := by kernel_rfl
def tline_firstError_2 (F : FnT)(e0 e1 : Int) : Option (Int) :=
  bif (e0 != (0 : Int)) then
    some e0
  else bif (e1 != (0 : Int)) then
    some e1
  else some (0 : Int)
theorem tline_firstError_2_eq (F : FnT)(e0 e1 : Int) : semF (callP F Eline_firstError_2 20) s44 (loopT []) 400 a44 [.list 2 [.int .i64 e0, .int .i64 e1]] (fun rv => decR (RSh.one (CK.int IntKind.i64)) rv.pv) = tline_firstError_2 F e0 e1 := by kernel_rfl
noncomputable abbrev Fline_firstError_2 (args : List PV) := Fn env 44 (RSh.one (CK.int IntKind.i64)) args
theorem Fline_firstError_2_of (e0 e1 : Int) {res : (Int)} (h : tline_firstError_2 (Fn env) e0 e1 = some res) : Fline_firstError_2 [.list 2 [.int .i64 e0, .int .i64 e1]] = some res :=
  fn_of Eline_firstError_2_ok rfl rfl lo_nil ((tline_firstError_2_eq _ _ _).trans h)

/-! ### line_firstError_3 -/

def Eline_firstError_3 : List Entry := []
theorem Eline_firstError_3_ok : ∀ e ∈ Eline_firstError_3, EntOK env e := ent_nil
theorem Uline_firstError_3 : uniq ((blocksOf a44.body).map (·.1)) = true := by kernel_rfl
def tline_firstError_3 (F : FnT)(e0 e1 e2 : Int) : Option (Int) :=
  bif (e0 != (0 : Int)) then
    some e0
  else bif (e1 != (0 : Int)) then
    some e1
  else bif (e2 != (0 : Int)) then
    some e2
  else some (0 : Int)
theorem tline_firstError_3_eq (F : FnT)(e0 e1 e2 : Int) : semF (callP F Eline_firstError_3 20) s44 (loopT []) 400 a44 [.list 3 [.int .i64 e0, .int .i64 e1, .int .i64 e2]] (fun rv => decR (RSh.one (CK.int IntKind.i64)) rv.pv) = tline_firstError_3 F e0 e1 e2 := by kernel_rfl
noncomputable abbrev Fline_firstError_3 (args : List PV) := Fn env 44 (RSh.one (CK.int IntKind.i64)) args
theorem Fline_firstError_3_of (e0 e1 e2 : Int) {res : (Int)} (h : tline_firstError_3 (Fn env) e0 e1 e2 = some res) : Fline_firstError_3 [.list 3 [.int .i64 e0, .int .i64 e1, .int .i64 e2]] = some res :=
  fn_of Eline_firstError_3_ok rfl rfl lo_nil ((tline_firstError_3_eq _ _ _ _).trans h)

/-! ### line_firstError_4 -/

def Eline_firstError_4 : List Entry := []
theorem Eline_firstError_4_ok : ∀ e ∈ Eline_firstError_4, EntOK env e := ent_nil
theorem Uline_firstError_4 : uniq ((blocksOf a44.body).map (·.1)) = true := by kernel_rfl
def tline_firstError_4 (F : FnT)(e0 e1 e2 e3 : Int) : Option (Int) :=
  bif (e0 != (0 : Int)) then
    some e0
  else bif (e1 != (0 : Int)) then
    some e1
  else bif (e2 != (0 : Int)) then
    some e2
  else bif (e3 != (0 : Int)) then
    some e3
  else some (0 : Int)
theorem tline_firstError_4_eq (F : FnT)(e0 e1 e2 e3 : Int) : semF (callP F Eline_firstError_4 20) s44 (loopT []) 400 a44 [.list 4 [.int .i64 e0, .int .i64 e1, .int .i64 e2, .int .i64 e3]] (fun rv => decR (RSh.one (CK.int IntKind.i64)) rv.pv) = tline_firstError_4 F e0 e1 e2 e3 := by kernel_rfl
noncomputable abbrev Fline_firstError_4 (args : List PV) := Fn env 44 (RSh.one (CK.int IntKind.i64)) args
theorem Fline_firstError_4_of (e0 e1 e2 e3 : Int) {res : (Int)} (h : tline_firstError_4 (Fn env) e0 e1 e2 e3 = some res) : Fline_firstError_4 [.list 4 [.int .i64 e0, .int .i64 e1, .int .i64 e2, .int .i64 e3]] = some res :=
  fn_of Eline_firstError_4_ok rfl rfl lo_nil ((tline_firstError_4_eq _ _ _ _ _).trans h)

/-! ### line_IndexFunc_out -/

def Eline_IndexFunc_out : List Entry := [.out 107 (RSh.one CK.bool)]
theorem Eline_IndexFunc_out_ok : ∀ e ∈ Eline_IndexFunc_out, EntOK env e := (ent_out ent_nil)
def Tline_IndexFunc_out_0a (n0 : Nat) (c1 : List PV) (i2 : Int) (i3 : Int) (i4 : Int) (i5 : Int) : Q := ⟨(tm 19 [(0, (AV.p (PV.list n0 c1))), (1, (AV.p (PV.fn 107 [(PV.imm [(PV.int IntKind.i64 i2)] 0), (PV.imm [(PV.int IntKind.i64 i3)] 0)]))), (7, (AV.p (PV.int IntKind.i64 i4))), (8, (AV.p (PV.int IntKind.i64 i5)))]), (mm 19 [])⟩
def Xline_IndexFunc_out_0a (y : Int) : Ext × Q := (Ext.ret, ⟨(tm 19 [(4, (AV.p (PV.int IntKind.i64 y)))]), (mm 19 [])⟩)
def Iline_IndexFunc_out_0a (q : Ext × S) : Int := (pP_int1 (pA_p (avT q.2 4)))
def Xline_IndexFunc_out_0b (y : Unit) : Ext × Q := (Ext.normal, ⟨(tm 19 []), (mm 19 [])⟩)
def Iline_IndexFunc_out_0b (q : Ext × S) : Unit := ()
abbrev Yline_IndexFunc_out_0 : Type := (Int) ⊕ ((Unit))
def XLline_IndexFunc_out_0 : XL Yline_IndexFunc_out_0 := .more Xline_IndexFunc_out_0a (.one Xline_IndexFunc_out_0b)
def Iline_IndexFunc_out_0 (q : Ext × S) : Yline_IndexFunc_out_0 := bif (cE q.1 == 2) then (Sum.inl (Iline_IndexFunc_out_0a q)) else (Sum.inr (Iline_IndexFunc_out_0b q))
theorem XIline_IndexFunc_out_0a (y : Int) : Iline_IndexFunc_out_0 (xe (Xline_IndexFunc_out_0a y)) = (Sum.inl y) := rfl
theorem XIline_IndexFunc_out_0b (y : Unit) : Iline_IndexFunc_out_0 (xe (Xline_IndexFunc_out_0b y)) = (Sum.inr y) := rfl
theorem XIline_IndexFunc_out_0 (y : Yline_IndexFunc_out_0) : Iline_IndexFunc_out_0 (xe (XLline_IndexFunc_out_0.fn y)) = y := (match y with | .inl y => XIline_IndexFunc_out_0a y | .inr y => XIline_IndexFunc_out_0b y)
noncomputable abbrev Lline_IndexFunc_out_0 : Q → Option Yline_IndexFunc_out_0 := lpO env a111.body 0 XLline_IndexFunc_out_0
noncomputable abbrev Rline_IndexFunc_out_0 : Q → Option (Ext × S) := lpR env a111.body 0
theorem Lline_IndexFunc_out_0a_of {s : Q} {y : Int} (h : Rline_IndexFunc_out_0 s = exO (Xline_IndexFunc_out_0a y)) : Lline_IndexFunc_out_0 s = some (Sum.inl y) := lpO_of Iline_IndexFunc_out_0 XIline_IndexFunc_out_0 (y := (Sum.inl y)) h
theorem Lline_IndexFunc_out_0b_of {s : Q} {y : Unit} (h : Rline_IndexFunc_out_0 s = exO (Xline_IndexFunc_out_0b y)) : Lline_IndexFunc_out_0 s = some (Sum.inr y) := lpO_of Iline_IndexFunc_out_0 XIline_IndexFunc_out_0 (y := (Sum.inr y)) h
theorem Uline_IndexFunc_out : uniq ((blocksOf a111.body).map (·.1)) = true := by kernel_rfl
def Bline_IndexFunc_out_0a (F : FnT) (N : Q → Option (Ext × S)) (E : Ext × Q → Option (Ext × S)) (L0 : Q → Option Yline_IndexFunc_out_0) (n0 : Nat) (c1 : List PV) (i2 : Int) (i3 : Int) (i4 : Int) (i5 : Int) : Option (Ext × S) :=
  bif (decide (i5 < i4)) then
    bif (decide (((0 : Int) ≤ i5) ∧ (i5 < (n0 : Int)))) then
      bindO (intC IntKind.i64 (c1[((Int.toNat i5) * 1)]?)) fun x0 =>
      bindO (F 107 (RSh.one CK.bool) [(PV.int IntKind.i64 x0), (PV.imm [(PV.int IntKind.i64 i2)] 0), (PV.imm [(PV.int IntKind.i64 i3)] 0)]) fun (y1 : (Bool)) =>
      bif y1 then
        E (Xline_IndexFunc_out_0a i5)
      else N (Tline_IndexFunc_out_0a n0 c1 i2 i3 i4 (w64 (i5 + (1 : Int))))
    else none
  else E (Xline_IndexFunc_out_0b ())
theorem Bline_IndexFunc_out_0a_eq (F : FnT) (N : Q → Option (Ext × S)) (E : Ext × Q → Option (Ext × S)) (L0 : Q → Option Yline_IndexFunc_out_0) (n0 : Nat) (c1 : List PV) (i2 : Int) (i3 : Int) (i4 : Int) (i5 : Int) : semB (callP F Eline_IndexFunc_out 20) s111 (loopT [⟨0, Yline_IndexFunc_out_0, L0, XLline_IndexFunc_out_0⟩]) 400 (blkIn a111.body 0) N E (Tline_IndexFunc_out_0a n0 c1 i2 i3 i4 i5) = Bline_IndexFunc_out_0a F N E L0 n0 c1 i2 i3 i4 i5 := by kernel_rfl
theorem Rline_IndexFunc_out_0a_of  (n0 : Nat) (c1 : List PV) (i2 : Int) (i3 : Int) (i4 : Int) (i5 : Int) {r : Ext × S} (h : Bline_IndexFunc_out_0a (Fn env) Rline_IndexFunc_out_0 exO Lline_IndexFunc_out_0 n0 c1 i2 i3 i4 i5 = some r) : Rline_IndexFunc_out_0 (Tline_IndexFunc_out_0a n0 c1 i2 i3 i4 i5) = some r :=
  lp_of Eline_IndexFunc_out_ok (by kernel_rfl) (lo_cons (lpO_ok Uline_IndexFunc_out) lo_nil) (by kernel_rfl) ((Bline_IndexFunc_out_0a_eq _ _ _ _ _ _ _ _ _ _).trans h)
def tline_IndexFunc_out (F : FnT) (L0 : Q → Option Yline_IndexFunc_out_0)(n : Nat) (cs : List PV) (lo hi : Int) : Option (Int) :=
  bindO (L0 (Tline_IndexFunc_out_0a n cs lo hi (n : Int) (0 : Int))) fun z =>
  Sum.elim (fun y0 =>
    some y0) (fun y1 =>
    some (-1 : Int)) z
theorem tline_IndexFunc_out_eq (F : FnT) (L0 : Q → Option Yline_IndexFunc_out_0)(n : Nat) (cs : List PV) (lo hi : Int) : semF (callP F Eline_IndexFunc_out 20) s111 (loopT [⟨0, Yline_IndexFunc_out_0, L0, XLline_IndexFunc_out_0⟩]) 400 a111 [.list n cs, .fn 107 [.imm [.int .i64 lo] 0, .imm [.int .i64 hi] 0]] (fun rv => decR (RSh.one (CK.int IntKind.i64)) rv.pv) = tline_IndexFunc_out F L0 n cs lo hi := by kernel_rfl
noncomputable abbrev Fline_IndexFunc_out (args : List PV) := Fn env 111 (RSh.one (CK.int IntKind.i64)) args
theorem Fline_IndexFunc_out_of (n : Nat) (cs : List PV) (lo hi : Int) {res : (Int)} (h : tline_IndexFunc_out (Fn env) Lline_IndexFunc_out_0 n cs lo hi = some res) : Fline_IndexFunc_out [.list n cs, .fn 107 [.imm [.int .i64 lo] 0, .imm [.int .i64 hi] 0]] = some res :=
  fn_of Eline_IndexFunc_out_ok rfl rfl (lo_cons (lpO_ok Uline_IndexFunc_out) lo_nil) ((tline_IndexFunc_out_eq _ _ _ _ _ _).trans h)

/-! ### line_numbersError -/

def Eline_numbersError : List Entry := [.inl 61 a61 s61, .out 44 (RSh.one (CK.int IntKind.i64)), .out 111 (RSh.one (CK.int IntKind.i64))]
theorem Eline_numbersError_ok : ∀ e ∈ Eline_numbersError, EntOK env e := (ent_inl rfl (ent_out (ent_out ent_nil)))
theorem Uline_numbersError : uniq ((blocksOf a106.body).map (·.1)) = true := by kernel_rfl
def tline_numbersError (F : FnT)(n : Nat) (cs : List PV) (m lo hi : Int) : Option ((Int) × (Int)) :=
  bif ((n : Int) == (0 : Int)) then
    bif (decide ((n : Int) > m)) then
      bindO (F 44 (RSh.one (CK.int IntKind.i64)) [(PV.list 2 [(PV.int IntKind.i64 (10 : Int)), (PV.int IntKind.i64 (8 : Int))])]) fun (y0 : (Int)) =>
      bif (y0 != (0 : Int)) then
        some ((0 : Int), y0)
      else bindO (F 111 (RSh.one (CK.int IntKind.i64)) [(PV.list n cs), (PV.fn 107 [(PV.imm [(PV.int IntKind.i64 lo)] 0), (PV.imm [(PV.int IntKind.i64 hi)] 0)])]) fun (y1 : (Int)) =>
      bif (decide (y1 ≥ (0 : Int))) then
        some (y1, (2 : Int))
      else some ((0 : Int), (0 : Int))
    else bindO (F 44 (RSh.one (CK.int IntKind.i64)) [(PV.list 2 [(PV.int IntKind.i64 (10 : Int)), (PV.int IntKind.i64 (0 : Int))])]) fun (y2 : (Int)) =>
    bif (y2 != (0 : Int)) then
      some ((0 : Int), y2)
    else bindO (F 111 (RSh.one (CK.int IntKind.i64)) [(PV.list n cs), (PV.fn 107 [(PV.imm [(PV.int IntKind.i64 lo)] 0), (PV.imm [(PV.int IntKind.i64 hi)] 0)])]) fun (y3 : (Int)) =>
    bif (decide (y3 ≥ (0 : Int))) then
      some (y3, (2 : Int))
    else some ((0 : Int), (0 : Int))
  else bif (decide ((n : Int) > m)) then
    bindO (F 44 (RSh.one (CK.int IntKind.i64)) [(PV.list 2 [(PV.int IntKind.i64 (0 : Int)), (PV.int IntKind.i64 (8 : Int))])]) fun (y4 : (Int)) =>
    bif (y4 != (0 : Int)) then
      some ((0 : Int), y4)
    else bindO (F 111 (RSh.one (CK.int IntKind.i64)) [(PV.list n cs), (PV.fn 107 [(PV.imm [(PV.int IntKind.i64 lo)] 0), (PV.imm [(PV.int IntKind.i64 hi)] 0)])]) fun (y5 : (Int)) =>
    bif (decide (y5 ≥ (0 : Int))) then
      some (y5, (2 : Int))
    else some ((0 : Int), (0 : Int))
  else bindO (F 44 (RSh.one (CK.int IntKind.i64)) [(PV.list 2 [(PV.int IntKind.i64 (0 : Int)), (PV.int IntKind.i64 (0 : Int))])]) fun (y6 : (Int)) =>
  bif (y6 != (0 : Int)) then
    some ((0 : Int), y6)
  else bindO (F 111 (RSh.one (CK.int IntKind.i64)) [(PV.list n cs), (PV.fn 107 [(PV.imm [(PV.int IntKind.i64 lo)] 0), (PV.imm [(PV.int IntKind.i64 hi)] 0)])]) fun (y7 : (Int)) =>
  bif (decide (y7 ≥ (0 : Int))) then
    some (y7, (2 : Int))
  else some ((0 : Int), (0 : Int))
theorem tline_numbersError_eq (F : FnT)(n : Nat) (cs : List PV) (m lo hi : Int) : semF (callP F Eline_numbersError 20) s106 (loopT []) 400 a106 [.list n cs, .int .i64 m, .fn 107 [.imm [.int .i64 lo] 0, .imm [.int .i64 hi] 0]] (fun rv => decR (RSh.tup [(Prod.mk false [(CK.int IntKind.i64)]), (Prod.mk false [(CK.int IntKind.i64)])]) rv.pv) = tline_numbersError F n cs m lo hi := by kernel_rfl
noncomputable abbrev Fline_numbersError (args : List PV) := Fn env 106 (RSh.tup [(Prod.mk false [(CK.int IntKind.i64)]), (Prod.mk false [(CK.int IntKind.i64)])]) args
theorem Fline_numbersError_of (n : Nat) (cs : List PV) (m lo hi : Int) {res : ((Int) × (Int))} (h : tline_numbersError (Fn env) n cs m lo hi = some res) : Fline_numbersError [.list n cs, .int .i64 m, .fn 107 [.imm [.int .i64 lo] 0, .imm [.int .i64 hi] 0]] = some res :=
  fn_of Eline_numbersError_ok rfl rfl lo_nil ((tline_numbersError_eq _ _ _ _ _ _).trans h)

/-! ### line_CheckSpectrum -/

def Eline_CheckSpectrum : List Entry := [.inl 81 a81 s81, .out 106 (RSh.tup [(Prod.mk false [(CK.int IntKind.i64)]), (Prod.mk false [(CK.int IntKind.i64)])])]
theorem Eline_CheckSpectrum_ok : ∀ e ∈ Eline_CheckSpectrum, EntOK env e := (ent_inl rfl (ent_out ent_nil))
theorem Uline_CheckSpectrum : uniq ((blocksOf a80.body).map (·.1)) = true := by kernel_rfl
def tline_CheckSpectrum (F : FnT) (p0n : Nat) (p0c : List PV) : Option ((Int) × (Int)) :=
  bindO (F 106 (RSh.tup [(Prod.mk false [(CK.int IntKind.i64)]), (Prod.mk false [(CK.int IntKind.i64)])]) [(PV.list p0n p0c), (PV.int IntKind.i64 (16 : Int)), (PV.fn 107 [(PV.imm [(PV.int IntKind.i64 (0 : Int))] 0), (PV.imm [(PV.int IntKind.i64 (10000 : Int))] 0)])]) fun (y0 : ((Int) × (Int))) =>
  some (y0.1, y0.2)
theorem tline_CheckSpectrum_eq (F : FnT) (p0n : Nat) (p0c : List PV) : semF (callP F Eline_CheckSpectrum 20) s80 (loopT []) 400 a80 [PV.list p0n p0c] (fun rv => decR (RSh.tup [(Prod.mk false [(CK.int IntKind.i64)]), (Prod.mk false [(CK.int IntKind.i64)])]) rv.pv) = tline_CheckSpectrum F p0n p0c := by kernel_rfl
noncomputable abbrev Fline_CheckSpectrum (args : List PV) := Fn env 80 (RSh.tup [(Prod.mk false [(CK.int IntKind.i64)]), (Prod.mk false [(CK.int IntKind.i64)])]) args
theorem Fline_CheckSpectrum_of  (p0n : Nat) (p0c : List PV) {res : ((Int) × (Int))} (h : tline_CheckSpectrum (Fn env) p0n p0c = some res) : Fline_CheckSpectrum [PV.list p0n p0c] = some res :=
  fn_of Eline_CheckSpectrum_ok rfl rfl lo_nil ((tline_CheckSpectrum_eq _ _ _).trans h)

/-! ### line_spectrumError -/

def Eline_spectrumError : List Entry := [.out 80 (RSh.tup [(Prod.mk false [(CK.int IntKind.i64)]), (Prod.mk false [(CK.int IntKind.i64)])])]
theorem Eline_spectrumError_ok : ∀ e ∈ Eline_spectrumError, EntOK env e := (ent_out ent_nil)
theorem Uline_spectrumError : uniq ((blocksOf a45.body).map (·.1)) = true := by kernel_rfl
def tline_spectrumError (F : FnT) (p0n : Nat) (p0c : List PV) : Option (Int) :=
  bindO (F 80 (RSh.tup [(Prod.mk false [(CK.int IntKind.i64)]), (Prod.mk false [(CK.int IntKind.i64)])]) [(PV.list p0n p0c)]) fun (y0 : ((Int) × (Int))) =>
  some y0.2
theorem tline_spectrumError_eq (F : FnT) (p0n : Nat) (p0c : List PV) : semF (callP F Eline_spectrumError 20) s45 (loopT []) 400 a45 [PV.list p0n p0c] (fun rv => decR (RSh.one (CK.int IntKind.i64)) rv.pv) = tline_spectrumError F p0n p0c := by kernel_rfl
noncomputable abbrev Fline_spectrumError (args : List PV) := Fn env 45 (RSh.one (CK.int IntKind.i64)) args
theorem Fline_spectrumError_of  (p0n : Nat) (p0c : List PV) {res : (Int)} (h : tline_spectrumError (Fn env) p0n p0c = some res) : Fline_spectrumError [PV.list p0n p0c] = some res :=
  fn_of Eline_spectrumError_ok rfl rfl lo_nil ((tline_spectrumError_eq _ _ _).trans h)

/-! ### line_MaxS -/

def Eline_MaxS : List Entry := []
theorem Eline_MaxS_ok : ∀ e ∈ Eline_MaxS, EntOK env e := ent_nil
def Tline_MaxS_0a (n0 : Nat) (c1 : List PV) (i2 : Int) (i3 : Int) : Q := ⟨(tm 25 [(0, (AV.p (PV.list n0 c1))), (3, (AV.p (PV.int IntKind.i64 i2))), (4, (AV.p (PV.int IntKind.i64 i3)))]), (mm 25 [])⟩
def Xline_MaxS_0a (y : Int) : Ext × Q := (Ext.normal, ⟨(tm 25 [(3, (AV.p (PV.int IntKind.i64 y)))]), (mm 25 [])⟩)
def Iline_MaxS_0a (q : Ext × S) : Int := (pP_int1 (pA_p (avT q.2 3)))
abbrev Yline_MaxS_0 : Type := Int
def XLline_MaxS_0 : XL Yline_MaxS_0 := .one Xline_MaxS_0a
def Iline_MaxS_0 (q : Ext × S) : Yline_MaxS_0 := (Iline_MaxS_0a q)
theorem XIline_MaxS_0a (y : Int) : Iline_MaxS_0 (xe (Xline_MaxS_0a y)) = y := rfl
theorem XIline_MaxS_0 (y : Yline_MaxS_0) : Iline_MaxS_0 (xe (XLline_MaxS_0.fn y)) = y := XIline_MaxS_0a y
noncomputable abbrev Lline_MaxS_0 : Q → Option Yline_MaxS_0 := lpO env a82.body 0 XLline_MaxS_0
noncomputable abbrev Rline_MaxS_0 : Q → Option (Ext × S) := lpR env a82.body 0
theorem Lline_MaxS_0a_of {s : Q} {y : Int} (h : Rline_MaxS_0 s = exO (Xline_MaxS_0a y)) : Lline_MaxS_0 s = some y := lpO_of Iline_MaxS_0 XIline_MaxS_0 (y := y) h
theorem Uline_MaxS : uniq ((blocksOf a82.body).map (·.1)) = true := by kernel_rfl
def Bline_MaxS_0a (F : FnT) (N : Q → Option (Ext × S)) (E : Ext × Q → Option (Ext × S)) (L0 : Q → Option Yline_MaxS_0) (n0 : Nat) (c1 : List PV) (i2 : Int) (i3 : Int) : Option (Ext × S) :=
  bif (decide (i3 < (n0 : Int))) then
    bif (decide (((0 : Int) ≤ i3) ∧ (i3 < (n0 : Int)))) then
      bindO (intC IntKind.i64 (c1[((Int.toNat i3) * 1)]?)) fun x0 =>
      N (Tline_MaxS_0a n0 c1 (if (x0 > i2) then x0 else i2) (w64 (i3 + (1 : Int))))
    else none
  else E (Xline_MaxS_0a i2)
theorem Bline_MaxS_0a_eq (F : FnT) (N : Q → Option (Ext × S)) (E : Ext × Q → Option (Ext × S)) (L0 : Q → Option Yline_MaxS_0) (n0 : Nat) (c1 : List PV) (i2 : Int) (i3 : Int) : semB (callP F Eline_MaxS 20) s82 (loopT [⟨0, Yline_MaxS_0, L0, XLline_MaxS_0⟩]) 400 (blkIn a82.body 0) N E (Tline_MaxS_0a n0 c1 i2 i3) = Bline_MaxS_0a F N E L0 n0 c1 i2 i3 := by kernel_rfl
theorem Rline_MaxS_0a_of  (n0 : Nat) (c1 : List PV) (i2 : Int) (i3 : Int) {r : Ext × S} (h : Bline_MaxS_0a (Fn env) Rline_MaxS_0 exO Lline_MaxS_0 n0 c1 i2 i3 = some r) : Rline_MaxS_0 (Tline_MaxS_0a n0 c1 i2 i3) = some r :=
  lp_of Eline_MaxS_ok (by kernel_rfl) (lo_cons (lpO_ok Uline_MaxS) lo_nil) (by kernel_rfl) ((Bline_MaxS_0a_eq _ _ _ _ _ _ _ _).trans h)
def tline_MaxS (F : FnT) (L0 : Q → Option Yline_MaxS_0) (p0n : Nat) (p0c : List PV) : Option (Int) :=
  bif (decide ((p0n : Int) < (1 : Int))) then
    none
  else bif (decide (((0 : Int) ≤ (0 : Int)) ∧ ((0 : Int) < (p0n : Int)))) then
    bindO (intC IntKind.i64 (p0c[0]?)) fun x0 =>
    bindO (L0 (Tline_MaxS_0a p0n p0c x0 (1 : Int))) fun y1 =>
    some y1
  else none
theorem tline_MaxS_eq (F : FnT) (L0 : Q → Option Yline_MaxS_0) (p0n : Nat) (p0c : List PV) : semF (callP F Eline_MaxS 20) s82 (loopT [⟨0, Yline_MaxS_0, L0, XLline_MaxS_0⟩]) 400 a82 [PV.list p0n p0c] (fun rv => decR (RSh.one (CK.int IntKind.i64)) rv.pv) = tline_MaxS F L0 p0n p0c := by kernel_rfl
noncomputable abbrev Fline_MaxS (args : List PV) := Fn env 82 (RSh.one (CK.int IntKind.i64)) args
theorem Fline_MaxS_of  (p0n : Nat) (p0c : List PV) {res : (Int)} (h : tline_MaxS (Fn env) Lline_MaxS_0 p0n p0c = some res) : Fline_MaxS [PV.list p0n p0c] = some res :=
  fn_of Eline_MaxS_ok rfl rfl (lo_cons (lpO_ok Uline_MaxS) lo_nil) ((tline_MaxS_eq _ _ _ _).trans h)

/-! ### line_IndexS -/

def Eline_IndexS : List Entry := []
theorem Eline_IndexS_ok : ∀ e ∈ Eline_IndexS, EntOK env e := ent_nil
def Tline_IndexS_0a (n0 : Nat) (c1 : List PV) (i2 : Int) (i3 : Int) (i4 : Int) : Q := ⟨(tm 19 [(0, (AV.p (PV.list n0 c1))), (1, (AV.p (PV.int IntKind.i64 i2))), (7, (AV.p (PV.int IntKind.i64 i3))), (8, (AV.p (PV.int IntKind.i64 i4)))]), (mm 19 [])⟩
def Xline_IndexS_0a (y : Int) : Ext × Q := (Ext.ret, ⟨(tm 19 [(4, (AV.p (PV.int IntKind.i64 y)))]), (mm 19 [])⟩)
def Iline_IndexS_0a (q : Ext × S) : Int := (pP_int1 (pA_p (avT q.2 4)))
def Xline_IndexS_0b (y : Unit) : Ext × Q := (Ext.normal, ⟨(tm 19 []), (mm 19 [])⟩)
def Iline_IndexS_0b (q : Ext × S) : Unit := ()
abbrev Yline_IndexS_0 : Type := (Int) ⊕ ((Unit))
def XLline_IndexS_0 : XL Yline_IndexS_0 := .more Xline_IndexS_0a (.one Xline_IndexS_0b)
def Iline_IndexS_0 (q : Ext × S) : Yline_IndexS_0 := bif (cE q.1 == 2) then (Sum.inl (Iline_IndexS_0a q)) else (Sum.inr (Iline_IndexS_0b q))
theorem XIline_IndexS_0a (y : Int) : Iline_IndexS_0 (xe (Xline_IndexS_0a y)) = (Sum.inl y) := rfl
theorem XIline_IndexS_0b (y : Unit) : Iline_IndexS_0 (xe (Xline_IndexS_0b y)) = (Sum.inr y) := rfl
theorem XIline_IndexS_0 (y : Yline_IndexS_0) : Iline_IndexS_0 (xe (XLline_IndexS_0.fn y)) = y := (match y with | .inl y => XIline_IndexS_0a y | .inr y => XIline_IndexS_0b y)
noncomputable abbrev Lline_IndexS_0 : Q → Option Yline_IndexS_0 := lpO env a84.body 0 XLline_IndexS_0
noncomputable abbrev Rline_IndexS_0 : Q → Option (Ext × S) := lpR env a84.body 0
theorem Lline_IndexS_0a_of {s : Q} {y : Int} (h : Rline_IndexS_0 s = exO (Xline_IndexS_0a y)) : Lline_IndexS_0 s = some (Sum.inl y) := lpO_of Iline_IndexS_0 XIline_IndexS_0 (y := (Sum.inl y)) h
theorem Lline_IndexS_0b_of {s : Q} {y : Unit} (h : Rline_IndexS_0 s = exO (Xline_IndexS_0b y)) : Lline_IndexS_0 s = some (Sum.inr y) := lpO_of Iline_IndexS_0 XIline_IndexS_0 (y := (Sum.inr y)) h
theorem Uline_IndexS : uniq ((blocksOf a84.body).map (·.1)) = true := by kernel_rfl
def Bline_IndexS_0a (F : FnT) (N : Q → Option (Ext × S)) (E : Ext × Q → Option (Ext × S)) (L0 : Q → Option Yline_IndexS_0) (n0 : Nat) (c1 : List PV) (i2 : Int) (i3 : Int) (i4 : Int) : Option (Ext × S) :=
  bif (decide (i4 < i3)) then
    bif (decide (((0 : Int) ≤ i4) ∧ (i4 < (n0 : Int)))) then
      bindO (intC IntKind.i64 (c1[((Int.toNat i4) * 1)]?)) fun x0 =>
      bif (i2 == x0) then
        E (Xline_IndexS_0a i4)
      else N (Tline_IndexS_0a n0 c1 i2 i3 (w64 (i4 + (1 : Int))))
    else none
  else E (Xline_IndexS_0b ())
theorem Bline_IndexS_0a_eq (F : FnT) (N : Q → Option (Ext × S)) (E : Ext × Q → Option (Ext × S)) (L0 : Q → Option Yline_IndexS_0) (n0 : Nat) (c1 : List PV) (i2 : Int) (i3 : Int) (i4 : Int) : semB (callP F Eline_IndexS 20) s84 (loopT [⟨0, Yline_IndexS_0, L0, XLline_IndexS_0⟩]) 400 (blkIn a84.body 0) N E (Tline_IndexS_0a n0 c1 i2 i3 i4) = Bline_IndexS_0a F N E L0 n0 c1 i2 i3 i4 := by kernel_rfl
theorem Rline_IndexS_0a_of  (n0 : Nat) (c1 : List PV) (i2 : Int) (i3 : Int) (i4 : Int) {r : Ext × S} (h : Bline_IndexS_0a (Fn env) Rline_IndexS_0 exO Lline_IndexS_0 n0 c1 i2 i3 i4 = some r) : Rline_IndexS_0 (Tline_IndexS_0a n0 c1 i2 i3 i4) = some r :=
  lp_of Eline_IndexS_ok (by kernel_rfl) (lo_cons (lpO_ok Uline_IndexS) lo_nil) (by kernel_rfl) ((Bline_IndexS_0a_eq _ _ _ _ _ _ _ _ _).trans h)
def tline_IndexS (F : FnT) (L0 : Q → Option Yline_IndexS_0) (p0n : Nat) (p0c : List PV) (p1 : Int) : Option (Int) :=
  bindO (L0 (Tline_IndexS_0a p0n p0c p1 (p0n : Int) (0 : Int))) fun z =>
  Sum.elim (fun y0 =>
    some y0) (fun y1 =>
    some (-1 : Int)) z
theorem tline_IndexS_eq (F : FnT) (L0 : Q → Option Yline_IndexS_0) (p0n : Nat) (p0c : List PV) (p1 : Int) : semF (callP F Eline_IndexS 20) s84 (loopT [⟨0, Yline_IndexS_0, L0, XLline_IndexS_0⟩]) 400 a84 [PV.list p0n p0c, PV.int IntKind.i64 p1] (fun rv => decR (RSh.one (CK.int IntKind.i64)) rv.pv) = tline_IndexS F L0 p0n p0c p1 := by kernel_rfl
noncomputable abbrev Fline_IndexS (args : List PV) := Fn env 84 (RSh.one (CK.int IntKind.i64)) args
theorem Fline_IndexS_of  (p0n : Nat) (p0c : List PV) (p1 : Int) {res : (Int)} (h : tline_IndexS (Fn env) Lline_IndexS_0 p0n p0c p1 = some res) : Fline_IndexS [PV.list p0n p0c, PV.int IntKind.i64 p1] = some res :=
  fn_of Eline_IndexS_ok rfl rfl (lo_cons (lpO_ok Uline_IndexS) lo_nil) ((tline_IndexS_eq _ _ _ _ _).trans h)

/-! ### line_peak -/

def Eline_peak : List Entry := [.out 82 (RSh.one (CK.int IntKind.i64)), .out 84 (RSh.one (CK.int IntKind.i64))]
theorem Eline_peak_ok : ∀ e ∈ Eline_peak, EntOK env e := (ent_out (ent_out ent_nil))
theorem Uline_peak : uniq ((blocksOf a50.body).map (·.1)) = true := by kernel_rfl
def tline_peak (F : FnT) (p0n : Nat) (p0c : List PV) : Option (Int) :=
  bindO (F 82 (RSh.one (CK.int IntKind.i64)) [(PV.list p0n p0c)]) fun (y0 : (Int)) =>
  bindO (F 84 (RSh.one (CK.int IntKind.i64)) [(PV.list p0n p0c), (PV.int IntKind.i64 y0)]) fun (y1 : (Int)) =>
  some y1
theorem tline_peak_eq (F : FnT) (p0n : Nat) (p0c : List PV) : semF (callP F Eline_peak 20) s50 (loopT []) 400 a50 [PV.list p0n p0c] (fun rv => decR (RSh.one (CK.int IntKind.i64)) rv.pv) = tline_peak F p0n p0c := by kernel_rfl
noncomputable abbrev Fline_peak (args : List PV) := Fn env 50 (RSh.one (CK.int IntKind.i64)) args
theorem Fline_peak_of  (p0n : Nat) (p0c : List PV) {res : (Int)} (h : tline_peak (Fn env) p0n p0c = some res) : Fline_peak [PV.list p0n p0c] = some res :=
  fn_of Eline_peak_ok rfl rfl lo_nil ((tline_peak_eq _ _ _).trans h)

/-! ### line_PeakOf -/

def Eline_PeakOf : List Entry := [.out 45 (RSh.one (CK.int IntKind.i64)), .out 50 (RSh.one (CK.int IntKind.i64))]
theorem Eline_PeakOf_ok : ∀ e ∈ Eline_PeakOf, EntOK env e := (ent_out (ent_out ent_nil))
theorem Uline_PeakOf : uniq ((blocksOf a19.body).map (·.1)) = true := by kernel_rfl
def tline_PeakOf (F : FnT) (p0n : Nat) (p0c : List PV) : Option ((Int) × (Int)) :=
  bindO (F 45 (RSh.one (CK.int IntKind.i64)) [(PV.list p0n p0c)]) fun (y0 : (Int)) =>
  bif (y0 != (0 : Int)) then
    some ((0 : Int), y0)
  else bindO (F 50 (RSh.one (CK.int IntKind.i64)) [(PV.list p0n p0c)]) fun (y1 : (Int)) =>
  some (y1, (0 : Int))
theorem tline_PeakOf_eq (F : FnT) (p0n : Nat) (p0c : List PV) : semF (callP F Eline_PeakOf 20) s19 (loopT []) 400 a19 [PV.list p0n p0c] (fun rv => decR (RSh.tup [(Prod.mk false [(CK.int IntKind.i64)]), (Prod.mk false [(CK.int IntKind.i64)])]) rv.pv) = tline_PeakOf F p0n p0c := by kernel_rfl
noncomputable abbrev Fline_PeakOf (args : List PV) := Fn env 19 (RSh.tup [(Prod.mk false [(CK.int IntKind.i64)]), (Prod.mk false [(CK.int IntKind.i64)])]) args
theorem Fline_PeakOf_of  (p0n : Nat) (p0c : List PV) {res : ((Int) × (Int))} (h : tline_PeakOf (Fn env) p0n p0c = some res) : Fline_PeakOf [PV.list p0n p0c] = some res :=
  fn_of Eline_PeakOf_ok rfl rfl lo_nil ((tline_PeakOf_eq _ _ _).trans h)

/-! ### glidepathbase_Within -/

def Eglidepathbase_Within : List Entry := []
theorem Eglidepathbase_Within_ok : ∀ e ∈ Eglidepathbase_Within, EntOK env e := ent_nil
theorem Uglidepathbase_Within : uniq ((blocksOf a14.body).map (·.1)) = true := by kernel_rfl
def tglidepathbase_Within (F : FnT) (p0 : Int) (p1 : Int) (p2 : Int) : Option (Bool) :=
  bif (decide (p1 ≤ p0)) then
    bif (decide (p0 ≤ p2)) then
      some true
    else some false
  else some false
theorem tglidepathbase_Within_eq (F : FnT) (p0 : Int) (p1 : Int) (p2 : Int) : semF (callP F Eglidepathbase_Within 20) s14 (loopT []) 400 a14 [PV.int IntKind.i64 p0, PV.int IntKind.i64 p1, PV.int IntKind.i64 p2] (fun rv => decR (RSh.one CK.bool) rv.pv) = tglidepathbase_Within F p0 p1 p2 := by kernel_rfl
noncomputable abbrev Fglidepathbase_Within (args : List PV) := Fn env 14 (RSh.one CK.bool) args
theorem Fglidepathbase_Within_of  (p0 : Int) (p1 : Int) (p2 : Int) {res : (Bool)} (h : tglidepathbase_Within (Fn env) p0 p1 p2 = some res) : Fglidepathbase_Within [PV.int IntKind.i64 p0, PV.int IntKind.i64 p1, PV.int IntKind.i64 p2] = some res :=
  fn_of Eglidepathbase_Within_ok rfl rfl lo_nil ((tglidepathbase_Within_eq _ _ _ _).trans h)

/-! ### glidepathbase_CopyInts -/

def Eglidepathbase_CopyInts : List Entry := []
theorem Eglidepathbase_CopyInts_ok : ∀ e ∈ Eglidepathbase_CopyInts, EntOK env e := ent_nil
theorem Uglidepathbase_CopyInts : uniq ((blocksOf a11.body).map (·.1)) = true := by kernel_rfl
def tglidepathbase_CopyInts (F : FnT) (p0n : Nat) (p0c : List PV) : Option ((Nat) × (List PV)) :=
  bif (decide (p0n = 0)) then
    some (0, [])
  else bif (decide ((List.length p0c) = (p0n * 1))) then
    bif (decide ((0 + p0n) ≤ big)) then
      bif (decide ((0 + p0n) = (0 + p0n))) then
        some ((0 + p0n), ([] ++ p0c))
      else none
    else none
  else none
theorem tglidepathbase_CopyInts_eq (F : FnT) (p0n : Nat) (p0c : List PV) : semF (callP F Eglidepathbase_CopyInts 20) s11 (loopT []) 400 a11 [PV.list p0n p0c] (fun rv => decR (RSh.one CK.list) rv.pv) = tglidepathbase_CopyInts F p0n p0c := by kernel_rfl
noncomputable abbrev Fglidepathbase_CopyInts (args : List PV) := Fn env 11 (RSh.one CK.list) args
theorem Fglidepathbase_CopyInts_of  (p0n : Nat) (p0c : List PV) {res : ((Nat) × (List PV))} (h : tglidepathbase_CopyInts (Fn env) p0n p0c = some res) : Fglidepathbase_CopyInts [PV.list p0n p0c] = some res :=
  fn_of Eglidepathbase_CopyInts_ok rfl rfl lo_nil ((tglidepathbase_CopyInts_eq _ _ _).trans h)

/-! ### glidepathbase_Ints -/

def Eglidepathbase_Ints : List Entry := []
theorem Eglidepathbase_Ints_ok : ∀ e ∈ Eglidepathbase_Ints, EntOK env e := ent_nil
def Tglidepathbase_Ints_0a (n0 : Nat) (c1 : List PV) (n2 : Nat) (c3 : List PV) (i4 : Int) : Q := ⟨(tm 26 [(0, (AV.p (PV.list n0 c1))), (1, (AV.p (PV.list n2 c3))), (5, (AV.p (PV.int IntKind.i64 i4)))]), (mm 26 [])⟩
def Xglidepathbase_Ints_0a (y : Unit) : Ext × Q := (Ext.ret, ⟨(tm 26 [(4, (AV.p (PV.bool false)))]), (mm 26 [])⟩)
def Iglidepathbase_Ints_0a (q : Ext × S) : Unit := ()
def Xglidepathbase_Ints_0b (y : Unit) : Ext × Q := (Ext.normal, ⟨(tm 26 []), (mm 26 [])⟩)
def Iglidepathbase_Ints_0b (q : Ext × S) : Unit := ()
abbrev Yglidepathbase_Ints_0 : Type := (Unit) ⊕ ((Unit))
def XLglidepathbase_Ints_0 : XL Yglidepathbase_Ints_0 := .more Xglidepathbase_Ints_0a (.one Xglidepathbase_Ints_0b)
def Iglidepathbase_Ints_0 (q : Ext × S) : Yglidepathbase_Ints_0 := bif (cE q.1 == 2) then (Sum.inl (Iglidepathbase_Ints_0a q)) else (Sum.inr (Iglidepathbase_Ints_0b q))
theorem XIglidepathbase_Ints_0a (y : Unit) : Iglidepathbase_Ints_0 (xe (Xglidepathbase_Ints_0a y)) = (Sum.inl y) := rfl
theorem XIglidepathbase_Ints_0b (y : Unit) : Iglidepathbase_Ints_0 (xe (Xglidepathbase_Ints_0b y)) = (Sum.inr y) := rfl
theorem XIglidepathbase_Ints_0 (y : Yglidepathbase_Ints_0) : Iglidepathbase_Ints_0 (xe (XLglidepathbase_Ints_0.fn y)) = y := (match y with | .inl y => XIglidepathbase_Ints_0a y | .inr y => XIglidepathbase_Ints_0b y)
noncomputable abbrev Lglidepathbase_Ints_0 : Q → Option Yglidepathbase_Ints_0 := lpO env a30.body 0 XLglidepathbase_Ints_0
noncomputable abbrev Rglidepathbase_Ints_0 : Q → Option (Ext × S) := lpR env a30.body 0
theorem Lglidepathbase_Ints_0a_of {s : Q} {y : Unit} (h : Rglidepathbase_Ints_0 s = exO (Xglidepathbase_Ints_0a y)) : Lglidepathbase_Ints_0 s = some (Sum.inl y) := lpO_of Iglidepathbase_Ints_0 XIglidepathbase_Ints_0 (y := (Sum.inl y)) h
theorem Lglidepathbase_Ints_0b_of {s : Q} {y : Unit} (h : Rglidepathbase_Ints_0 s = exO (Xglidepathbase_Ints_0b y)) : Lglidepathbase_Ints_0 s = some (Sum.inr y) := lpO_of Iglidepathbase_Ints_0 XIglidepathbase_Ints_0 (y := (Sum.inr y)) h
theorem Uglidepathbase_Ints : uniq ((blocksOf a30.body).map (·.1)) = true := by kernel_rfl
def Bglidepathbase_Ints_0a (F : FnT) (N : Q → Option (Ext × S)) (E : Ext × Q → Option (Ext × S)) (L0 : Q → Option Yglidepathbase_Ints_0) (n0 : Nat) (c1 : List PV) (n2 : Nat) (c3 : List PV) (i4 : Int) : Option (Ext × S) :=
  bif (decide (i4 < (n0 : Int))) then
    bif (decide (((0 : Int) ≤ i4) ∧ (i4 < (n0 : Int)))) then
      bindO (intC IntKind.i64 (c1[((Int.toNat i4) * 1)]?)) fun x0 =>
      bif (decide (((0 : Int) ≤ i4) ∧ (i4 < (n2 : Int)))) then
        bindO (intC IntKind.i64 (c3[((Int.toNat i4) * 1)]?)) fun x1 =>
        bif (x0 != x1) then
          E (Xglidepathbase_Ints_0a ())
        else N (Tglidepathbase_Ints_0a n0 c1 n2 c3 (w64 (i4 + (1 : Int))))
      else none
    else none
  else E (Xglidepathbase_Ints_0b ())
theorem Bglidepathbase_Ints_0a_eq (F : FnT) (N : Q → Option (Ext × S)) (E : Ext × Q → Option (Ext × S)) (L0 : Q → Option Yglidepathbase_Ints_0) (n0 : Nat) (c1 : List PV) (n2 : Nat) (c3 : List PV) (i4 : Int) : semB (callP F Eglidepathbase_Ints 20) s30 (loopT [⟨0, Yglidepathbase_Ints_0, L0, XLglidepathbase_Ints_0⟩]) 400 (blkIn a30.body 0) N E (Tglidepathbase_Ints_0a n0 c1 n2 c3 i4) = Bglidepathbase_Ints_0a F N E L0 n0 c1 n2 c3 i4 := by kernel_rfl
theorem Rglidepathbase_Ints_0a_of  (n0 : Nat) (c1 : List PV) (n2 : Nat) (c3 : List PV) (i4 : Int) {r : Ext × S} (h : Bglidepathbase_Ints_0a (Fn env) Rglidepathbase_Ints_0 exO Lglidepathbase_Ints_0 n0 c1 n2 c3 i4 = some r) : Rglidepathbase_Ints_0 (Tglidepathbase_Ints_0a n0 c1 n2 c3 i4) = some r :=
  lp_of Eglidepathbase_Ints_ok (by kernel_rfl) (lo_cons (lpO_ok Uglidepathbase_Ints) lo_nil) (by kernel_rfl) ((Bglidepathbase_Ints_0a_eq _ _ _ _ _ _ _ _ _).trans h)
def tglidepathbase_Ints (F : FnT) (L0 : Q → Option Yglidepathbase_Ints_0) (p0n : Nat) (p0c : List PV) (p1n : Nat) (p1c : List PV) : Option (Bool) :=
  bif ((p0n : Int) != (p1n : Int)) then
    some false
  else bindO (L0 (Tglidepathbase_Ints_0a p0n p0c p1n p1c (0 : Int))) fun z =>
  Sum.elim (fun y0 =>
    some false) (fun y1 =>
    some true) z
theorem tglidepathbase_Ints_eq (F : FnT) (L0 : Q → Option Yglidepathbase_Ints_0) (p0n : Nat) (p0c : List PV) (p1n : Nat) (p1c : List PV) : semF (callP F Eglidepathbase_Ints 20) s30 (loopT [⟨0, Yglidepathbase_Ints_0, L0, XLglidepathbase_Ints_0⟩]) 400 a30 [PV.list p0n p0c, PV.list p1n p1c] (fun rv => decR (RSh.one CK.bool) rv.pv) = tglidepathbase_Ints F L0 p0n p0c p1n p1c := by kernel_rfl
noncomputable abbrev Fglidepathbase_Ints (args : List PV) := Fn env 30 (RSh.one CK.bool) args
theorem Fglidepathbase_Ints_of  (p0n : Nat) (p0c : List PV) (p1n : Nat) (p1c : List PV) {res : (Bool)} (h : tglidepathbase_Ints (Fn env) Lglidepathbase_Ints_0 p0n p0c p1n p1c = some res) : Fglidepathbase_Ints [PV.list p0n p0c, PV.list p1n p1c] = some res :=
  fn_of Eglidepathbase_Ints_ok rfl rfl (lo_cons (lpO_ok Uglidepathbase_Ints) lo_nil) ((tglidepathbase_Ints_eq _ _ _ _ _ _).trans h)

/-! ### glidepathref02_CheckSpectrum -/

def Eglidepathref02_CheckSpectrum : List Entry := [.out 14 (RSh.one CK.bool)]
theorem Eglidepathref02_CheckSpectrum_ok : ∀ e ∈ Eglidepathref02_CheckSpectrum, EntOK env e := (ent_out ent_nil)
def Tglidepathref02_CheckSpectrum_0a (n0 : Nat) (c1 : List PV) (i2 : Int) : Q := ⟨(tm 24 [(0, (AV.p (PV.list n0 c1))), (4, (AV.p (PV.int IntKind.i64 i2)))]), (mm 24 [])⟩
def Xglidepathref02_CheckSpectrum_0a (y : Int) : Ext × Q := (Ext.ret, ⟨(tm 24 [(2, (AV.p (PV.int IntKind.i64 y))), (3, (AV.p (PV.int IntKind.i64 (2 : Int))))]), (mm 24 [])⟩)
def Iglidepathref02_CheckSpectrum_0a (q : Ext × S) : Int := (pP_int1 (pA_p (avT q.2 2)))
def Xglidepathref02_CheckSpectrum_0b (y : Unit) : Ext × Q := (Ext.normal, ⟨(tm 24 []), (mm 24 [])⟩)
def Iglidepathref02_CheckSpectrum_0b (q : Ext × S) : Unit := ()
abbrev Yglidepathref02_CheckSpectrum_0 : Type := (Int) ⊕ ((Unit))
def XLglidepathref02_CheckSpectrum_0 : XL Yglidepathref02_CheckSpectrum_0 := .more Xglidepathref02_CheckSpectrum_0a (.one Xglidepathref02_CheckSpectrum_0b)
def Iglidepathref02_CheckSpectrum_0 (q : Ext × S) : Yglidepathref02_CheckSpectrum_0 := bif (cE q.1 == 2) then (Sum.inl (Iglidepathref02_CheckSpectrum_0a q)) else (Sum.inr (Iglidepathref02_CheckSpectrum_0b q))
theorem XIglidepathref02_CheckSpectrum_0a (y : Int) : Iglidepathref02_CheckSpectrum_0 (xe (Xglidepathref02_CheckSpectrum_0a y)) = (Sum.inl y) := rfl
theorem XIglidepathref02_CheckSpectrum_0b (y : Unit) : Iglidepathref02_CheckSpectrum_0 (xe (Xglidepathref02_CheckSpectrum_0b y)) = (Sum.inr y) := rfl
theorem XIglidepathref02_CheckSpectrum_0 (y : Yglidepathref02_CheckSpectrum_0) : Iglidepathref02_CheckSpectrum_0 (xe (XLglidepathref02_CheckSpectrum_0.fn y)) = y := (match y with | .inl y => XIglidepathref02_CheckSpectrum_0a y | .inr y => XIglidepathref02_CheckSpectrum_0b y)
noncomputable abbrev Lglidepathref02_CheckSpectrum_0 : Q → Option Yglidepathref02_CheckSpectrum_0 := lpO env a54.body 0 XLglidepathref02_CheckSpectrum_0
noncomputable abbrev Rglidepathref02_CheckSpectrum_0 : Q → Option (Ext × S) := lpR env a54.body 0
theorem Lglidepathref02_CheckSpectrum_0a_of {s : Q} {y : Int} (h : Rglidepathref02_CheckSpectrum_0 s = exO (Xglidepathref02_CheckSpectrum_0a y)) : Lglidepathref02_CheckSpectrum_0 s = some (Sum.inl y) := lpO_of Iglidepathref02_CheckSpectrum_0 XIglidepathref02_CheckSpectrum_0 (y := (Sum.inl y)) h
theorem Lglidepathref02_CheckSpectrum_0b_of {s : Q} {y : Unit} (h : Rglidepathref02_CheckSpectrum_0 s = exO (Xglidepathref02_CheckSpectrum_0b y)) : Lglidepathref02_CheckSpectrum_0 s = some (Sum.inr y) := lpO_of Iglidepathref02_CheckSpectrum_0 XIglidepathref02_CheckSpectrum_0 (y := (Sum.inr y)) h
theorem Uglidepathref02_CheckSpectrum : uniq ((blocksOf a54.body).map (·.1)) = true := by kernel_rfl
def Bglidepathref02_CheckSpectrum_0a (F : FnT) (N : Q → Option (Ext × S)) (E : Ext × Q → Option (Ext × S)) (L0 : Q → Option Yglidepathref02_CheckSpectrum_0) (n0 : Nat) (c1 : List PV) (i2 : Int) : Option (Ext × S) :=
  bif (decide (i2 < (n0 : Int))) then
    bif (decide (((0 : Int) ≤ i2) ∧ (i2 < (n0 : Int)))) then
      bindO (intC IntKind.i64 (c1[((Int.toNat i2) * 1)]?)) fun x0 =>
      bindO (F 14 (RSh.one CK.bool) [(PV.int IntKind.i64 x0), (PV.int IntKind.i64 (0 : Int)), (PV.int IntKind.i64 (10000 : Int))]) fun (y1 : (Bool)) =>
      bif y1 then
        N (Tglidepathref02_CheckSpectrum_0a n0 c1 (w64 (i2 + (1 : Int))))
      else E (Xglidepathref02_CheckSpectrum_0a i2)
    else none
  else E (Xglidepathref02_CheckSpectrum_0b ())
theorem Bglidepathref02_CheckSpectrum_0a_eq (F : FnT) (N : Q → Option (Ext × S)) (E : Ext × Q → Option (Ext × S)) (L0 : Q → Option Yglidepathref02_CheckSpectrum_0) (n0 : Nat) (c1 : List PV) (i2 : Int) : semB (callP F Eglidepathref02_CheckSpectrum 20) s54 (loopT [⟨0, Yglidepathref02_CheckSpectrum_0, L0, XLglidepathref02_CheckSpectrum_0⟩]) 400 (blkIn a54.body 0) N E (Tglidepathref02_CheckSpectrum_0a n0 c1 i2) = Bglidepathref02_CheckSpectrum_0a F N E L0 n0 c1 i2 := by kernel_rfl
theorem Rglidepathref02_CheckSpectrum_0a_of  (n0 : Nat) (c1 : List PV) (i2 : Int) {r : Ext × S} (h : Bglidepathref02_CheckSpectrum_0a (Fn env) Rglidepathref02_CheckSpectrum_0 exO Lglidepathref02_CheckSpectrum_0 n0 c1 i2 = some r) : Rglidepathref02_CheckSpectrum_0 (Tglidepathref02_CheckSpectrum_0a n0 c1 i2) = some r :=
  lp_of Eglidepathref02_CheckSpectrum_ok (by kernel_rfl) (lo_cons (lpO_ok Uglidepathref02_CheckSpectrum) lo_nil) (by kernel_rfl) ((Bglidepathref02_CheckSpectrum_0a_eq _ _ _ _ _ _ _).trans h)
def tglidepathref02_CheckSpectrum (F : FnT) (L0 : Q → Option Yglidepathref02_CheckSpectrum_0) (p0n : Nat) (p0c : List PV) : Option ((Int) × (Int)) :=
  bif ((p0n : Int) == (0 : Int)) then
    some ((0 : Int), (10 : Int))
  else bif (decide ((p0n : Int) > (16 : Int))) then
    some ((0 : Int), (8 : Int))
  else bindO (L0 (Tglidepathref02_CheckSpectrum_0a p0n p0c (0 : Int))) fun z =>
  Sum.elim (fun y0 =>
    some (y0, (2 : Int))) (fun y1 =>
    some ((0 : Int), (0 : Int))) z
theorem tglidepathref02_CheckSpectrum_eq (F : FnT) (L0 : Q → Option Yglidepathref02_CheckSpectrum_0) (p0n : Nat) (p0c : List PV) : semF (callP F Eglidepathref02_CheckSpectrum 20) s54 (loopT [⟨0, Yglidepathref02_CheckSpectrum_0, L0, XLglidepathref02_CheckSpectrum_0⟩]) 400 a54 [PV.list p0n p0c] (fun rv => decR (RSh.tup [(Prod.mk false [(CK.int IntKind.i64)]), (Prod.mk false [(CK.int IntKind.i64)])]) rv.pv) = tglidepathref02_CheckSpectrum F L0 p0n p0c := by kernel_rfl
noncomputable abbrev Fglidepathref02_CheckSpectrum (args : List PV) := Fn env 54 (RSh.tup [(Prod.mk false [(CK.int IntKind.i64)]), (Prod.mk false [(CK.int IntKind.i64)])]) args
theorem Fglidepathref02_CheckSpectrum_of  (p0n : Nat) (p0c : List PV) {res : ((Int) × (Int))} (h : tglidepathref02_CheckSpectrum (Fn env) Lglidepathref02_CheckSpectrum_0 p0n p0c = some res) : Fglidepathref02_CheckSpectrum [PV.list p0n p0c] = some res :=
  fn_of Eglidepathref02_CheckSpectrum_ok rfl rfl (lo_cons (lpO_ok Uglidepathref02_CheckSpectrum) lo_nil) ((tglidepathref02_CheckSpectrum_eq _ _ _ _).trans h)

/-! ### glidepathref02_SpectrumErr -/

def Eglidepathref02_SpectrumErr : List Entry := [.out 54 (RSh.tup [(Prod.mk false [(CK.int IntKind.i64)]), (Prod.mk false [(CK.int IntKind.i64)])])]
theorem Eglidepathref02_SpectrumErr_ok : ∀ e ∈ Eglidepathref02_SpectrumErr, EntOK env e := (ent_out ent_nil)
theorem Uglidepathref02_SpectrumErr : uniq ((blocksOf a13.body).map (·.1)) = true := by kernel_rfl
def tglidepathref02_SpectrumErr (F : FnT) (p0n : Nat) (p0c : List PV) : Option (Int) :=
  bindO (F 54 (RSh.tup [(Prod.mk false [(CK.int IntKind.i64)]), (Prod.mk false [(CK.int IntKind.i64)])]) [(PV.list p0n p0c)]) fun (y0 : ((Int) × (Int))) =>
  some y0.2
theorem tglidepathref02_SpectrumErr_eq (F : FnT) (p0n : Nat) (p0c : List PV) : semF (callP F Eglidepathref02_SpectrumErr 20) s13 (loopT []) 400 a13 [PV.list p0n p0c] (fun rv => decR (RSh.one (CK.int IntKind.i64)) rv.pv) = tglidepathref02_SpectrumErr F p0n p0c := by kernel_rfl
noncomputable abbrev Fglidepathref02_SpectrumErr (args : List PV) := Fn env 13 (RSh.one (CK.int IntKind.i64)) args
theorem Fglidepathref02_SpectrumErr_of  (p0n : Nat) (p0c : List PV) {res : (Int)} (h : tglidepathref02_SpectrumErr (Fn env) p0n p0c = some res) : Fglidepathref02_SpectrumErr [PV.list p0n p0c] = some res :=
  fn_of Eglidepathref02_SpectrumErr_ok rfl rfl lo_nil ((tglidepathref02_SpectrumErr_eq _ _ _).trans h)

/-! ### glidepathref02_Peaks -/

def Eglidepathref02_Peaks : List Entry := []
theorem Eglidepathref02_Peaks_ok : ∀ e ∈ Eglidepathref02_Peaks, EntOK env e := ent_nil
def Tglidepathref02_Peaks_0a (n0 : Nat) (c1 : List PV) (i2 : Int) : Q := ⟨(tm 37 [(0, (AV.p (PV.list n0 c1))), (3, AV.nilS), (4, (AV.p (PV.int IntKind.i64 i2)))]), (mm 37 [])⟩
def Tglidepathref02_Peaks_0b (n0 : Nat) (c1 : List PV) (n2 : Nat) (c3 : List PV) (i4 : Int) (n5 : Nat) : Q := ⟨(tm 37 [(0, (AV.p (PV.list n0 c1))), (3, (AV.app 35 n2 1 c3)), (4, (AV.p (PV.int IntKind.i64 i4)))]), (mm 37 [(35, (Bk.buf n5))])⟩
def Xglidepathref02_Peaks_0a (y : Unit) : Ext × Q := (Ext.normal, ⟨(tm 37 [(3, AV.nilS)]), (mm 37 [])⟩)
def Iglidepathref02_Peaks_0a (q : Ext × S) : Unit := ()
def Xglidepathref02_Peaks_0b (y : Nat × List PV × Nat) : Ext × Q := (Ext.normal, ⟨(tm 37 [(3, (AV.app 35 y.1 1 y.2.1))]), (mm 37 [(35, (Bk.buf y.2.2))])⟩)
def Iglidepathref02_Peaks_0b (q : Ext × S) : Nat × List PV × Nat := ((pA_app1 (avT q.2 3)), (pA_app3 (avT q.2 3)), (pB_buf0 (avM q.2 35)))
abbrev Yglidepathref02_Peaks_0 : Type := (Unit) ⊕ ((Nat × List PV × Nat))
def XLglidepathref02_Peaks_0 : XL Yglidepathref02_Peaks_0 := .more Xglidepathref02_Peaks_0a (.one Xglidepathref02_Peaks_0b)
def Iglidepathref02_Peaks_0 (q : Ext × S) : Yglidepathref02_Peaks_0 := bif (cA (avT q.2 3) == 1) then (Sum.inl (Iglidepathref02_Peaks_0a q)) else (Sum.inr (Iglidepathref02_Peaks_0b q))
theorem XIglidepathref02_Peaks_0a (y : Unit) : Iglidepathref02_Peaks_0 (xe (Xglidepathref02_Peaks_0a y)) = (Sum.inl y) := rfl
theorem XIglidepathref02_Peaks_0b (y : Nat × List PV × Nat) : Iglidepathref02_Peaks_0 (xe (Xglidepathref02_Peaks_0b y)) = (Sum.inr y) := rfl
theorem XIglidepathref02_Peaks_0 (y : Yglidepathref02_Peaks_0) : Iglidepathref02_Peaks_0 (xe (XLglidepathref02_Peaks_0.fn y)) = y := (match y with | .inl y => XIglidepathref02_Peaks_0a y | .inr y => XIglidepathref02_Peaks_0b y)
noncomputable abbrev Lglidepathref02_Peaks_0 : Q → Option Yglidepathref02_Peaks_0 := lpO env a55.body 0 XLglidepathref02_Peaks_0
noncomputable abbrev Rglidepathref02_Peaks_0 : Q → Option (Ext × S) := lpR env a55.body 0
theorem Lglidepathref02_Peaks_0a_of {s : Q} {y : Unit} (h : Rglidepathref02_Peaks_0 s = exO (Xglidepathref02_Peaks_0a y)) : Lglidepathref02_Peaks_0 s = some (Sum.inl y) := lpO_of Iglidepathref02_Peaks_0 XIglidepathref02_Peaks_0 (y := (Sum.inl y)) h
theorem Lglidepathref02_Peaks_0b_of {s : Q} {y : Nat × List PV × Nat} (h : Rglidepathref02_Peaks_0 s = exO (Xglidepathref02_Peaks_0b y)) : Lglidepathref02_Peaks_0 s = some (Sum.inr y) := lpO_of Iglidepathref02_Peaks_0 XIglidepathref02_Peaks_0 (y := (Sum.inr y)) h
def Tglidepathref02_Peaks_2a (n0 : Nat) (c1 : List PV) (i2 : Int) (b3 : Bool) (i4 : Int) : Q := ⟨(tm 37 [(0, (AV.p (PV.list n0 c1))), (3, AV.nilS), (4, (AV.p (PV.int IntKind.i64 i2))), (5, (AV.p (PV.bool b3))), (6, (AV.p (PV.int IntKind.i64 i4)))]), (mm 37 [])⟩
def Tglidepathref02_Peaks_2b (n0 : Nat) (c1 : List PV) (n2 : Nat) (c3 : List PV) (i4 : Int) (b5 : Bool) (i6 : Int) (n7 : Nat) : Q := ⟨(tm 37 [(0, (AV.p (PV.list n0 c1))), (3, (AV.app 35 n2 1 c3)), (4, (AV.p (PV.int IntKind.i64 i4))), (5, (AV.p (PV.bool b5))), (6, (AV.p (PV.int IntKind.i64 i6)))]), (mm 37 [(35, (Bk.buf n7))])⟩
def Xglidepathref02_Peaks_2a (y : Nat × List PV × Int × Bool) : Ext × Q := (Ext.normal, ⟨(tm 37 [(0, (AV.p (PV.list y.1 y.2.1))), (3, AV.nilS), (4, (AV.p (PV.int IntKind.i64 y.2.2.1))), (5, (AV.p (PV.bool y.2.2.2)))]), (mm 37 [])⟩)
def Iglidepathref02_Peaks_2a (q : Ext × S) : Nat × List PV × Int × Bool := ((pP_list0 (pA_p (avT q.2 0))), (pP_list1 (pA_p (avT q.2 0))), (pP_int1 (pA_p (avT q.2 4))), (pP_bool0 (pA_p (avT q.2 5))))
def Xglidepathref02_Peaks_2b (y : Nat × List PV × Nat × List PV × Int × Bool × Nat) : Ext × Q := (Ext.normal, ⟨(tm 37 [(0, (AV.p (PV.list y.1 y.2.1))), (3, (AV.app 35 y.2.2.1 1 y.2.2.2.1)), (4, (AV.p (PV.int IntKind.i64 y.2.2.2.2.1))), (5, (AV.p (PV.bool y.2.2.2.2.2.1)))]), (mm 37 [(35, (Bk.buf y.2.2.2.2.2.2))])⟩)
def Iglidepathref02_Peaks_2b (q : Ext × S) : Nat × List PV × Nat × List PV × Int × Bool × Nat := ((pP_list0 (pA_p (avT q.2 0))), (pP_list1 (pA_p (avT q.2 0))), (pA_app1 (avT q.2 3)), (pA_app3 (avT q.2 3)), (pP_int1 (pA_p (avT q.2 4))), (pP_bool0 (pA_p (avT q.2 5))), (pB_buf0 (avM q.2 35)))
abbrev Yglidepathref02_Peaks_2 : Type := (Nat × List PV × Int × Bool) ⊕ ((Nat × List PV × Nat × List PV × Int × Bool × Nat))
def XLglidepathref02_Peaks_2 : XL Yglidepathref02_Peaks_2 := .more Xglidepathref02_Peaks_2a (.one Xglidepathref02_Peaks_2b)
def Iglidepathref02_Peaks_2 (q : Ext × S) : Yglidepathref02_Peaks_2 := bif (cA (avT q.2 3) == 1) then (Sum.inl (Iglidepathref02_Peaks_2a q)) else (Sum.inr (Iglidepathref02_Peaks_2b q))
theorem XIglidepathref02_Peaks_2a (y : Nat × List PV × Int × Bool) : Iglidepathref02_Peaks_2 (xe (Xglidepathref02_Peaks_2a y)) = (Sum.inl y) := rfl
theorem XIglidepathref02_Peaks_2b (y : Nat × List PV × Nat × List PV × Int × Bool × Nat) : Iglidepathref02_Peaks_2 (xe (Xglidepathref02_Peaks_2b y)) = (Sum.inr y) := rfl
theorem XIglidepathref02_Peaks_2 (y : Yglidepathref02_Peaks_2) : Iglidepathref02_Peaks_2 (xe (XLglidepathref02_Peaks_2.fn y)) = y := (match y with | .inl y => XIglidepathref02_Peaks_2a y | .inr y => XIglidepathref02_Peaks_2b y)
noncomputable abbrev Lglidepathref02_Peaks_2 : Q → Option Yglidepathref02_Peaks_2 := lpO env a55.body 2 XLglidepathref02_Peaks_2
noncomputable abbrev Rglidepathref02_Peaks_2 : Q → Option (Ext × S) := lpR env a55.body 2
theorem Lglidepathref02_Peaks_2a_of {s : Q} {y : Nat × List PV × Int × Bool} (h : Rglidepathref02_Peaks_2 s = exO (Xglidepathref02_Peaks_2a y)) : Lglidepathref02_Peaks_2 s = some (Sum.inl y) := lpO_of Iglidepathref02_Peaks_2 XIglidepathref02_Peaks_2 (y := (Sum.inl y)) h
theorem Lglidepathref02_Peaks_2b_of {s : Q} {y : Nat × List PV × Nat × List PV × Int × Bool × Nat} (h : Rglidepathref02_Peaks_2 s = exO (Xglidepathref02_Peaks_2b y)) : Lglidepathref02_Peaks_2 s = some (Sum.inr y) := lpO_of Iglidepathref02_Peaks_2 XIglidepathref02_Peaks_2 (y := (Sum.inr y)) h
theorem Uglidepathref02_Peaks : uniq ((blocksOf a55.body).map (·.1)) = true := by kernel_rfl
def Bglidepathref02_Peaks_0a (F : FnT) (N : Q → Option (Ext × S)) (E : Ext × Q → Option (Ext × S)) (L0 : Q → Option Yglidepathref02_Peaks_0) (L2 : Q → Option Yglidepathref02_Peaks_2) (n0 : Nat) (c1 : List PV) (i2 : Int) : Option (Ext × S) :=
  bif (decide (i2 < (n0 : Int))) then
    bindO (L2 (Tglidepathref02_Peaks_2a n0 c1 i2 true (0 : Int))) fun z =>
    Sum.elim (fun y0 =>
      bif y0.2.2.2 then
        N (Tglidepathref02_Peaks_0b y0.1 y0.2.1 1 [(PV.int IntKind.i64 y0.2.2.1)] (w64 (y0.2.2.1 + (1 : Int))) 1)
      else N (Tglidepathref02_Peaks_0a y0.1 y0.2.1 (w64 (y0.2.2.1 + (1 : Int))))) (fun y1 =>
      bif y1.2.2.2.2.2.1 then
        bif (decide ((y1.2.2.2.2.2.2 = y1.2.2.1) ∧ ((y1.2.2.1 + 1) ≤ big))) then
          N (Tglidepathref02_Peaks_0b y1.1 y1.2.1 (y1.2.2.1 + 1) (y1.2.2.2.1 ++ [(PV.int IntKind.i64 y1.2.2.2.2.1)]) (w64 (y1.2.2.2.2.1 + (1 : Int))) (y1.2.2.1 + 1))
        else none
      else N (Tglidepathref02_Peaks_0b y1.1 y1.2.1 y1.2.2.1 y1.2.2.2.1 (w64 (y1.2.2.2.2.1 + (1 : Int))) y1.2.2.2.2.2.2)) z
  else E (Xglidepathref02_Peaks_0a ())
theorem Bglidepathref02_Peaks_0a_eq (F : FnT) (N : Q → Option (Ext × S)) (E : Ext × Q → Option (Ext × S)) (L0 : Q → Option Yglidepathref02_Peaks_0) (L2 : Q → Option Yglidepathref02_Peaks_2) (n0 : Nat) (c1 : List PV) (i2 : Int) : semB (callP F Eglidepathref02_Peaks 20) s55 (loopT [⟨0, Yglidepathref02_Peaks_0, L0, XLglidepathref02_Peaks_0⟩, ⟨2, Yglidepathref02_Peaks_2, L2, XLglidepathref02_Peaks_2⟩]) 400 (blkIn a55.body 0) N E (Tglidepathref02_Peaks_0a n0 c1 i2) = Bglidepathref02_Peaks_0a F N E L0 L2 n0 c1 i2 := by kernel_rfl
theorem Rglidepathref02_Peaks_0a_of  (n0 : Nat) (c1 : List PV) (i2 : Int) {r : Ext × S} (h : Bglidepathref02_Peaks_0a (Fn env) Rglidepathref02_Peaks_0 exO Lglidepathref02_Peaks_0 Lglidepathref02_Peaks_2 n0 c1 i2 = some r) : Rglidepathref02_Peaks_0 (Tglidepathref02_Peaks_0a n0 c1 i2) = some r :=
  lp_of Eglidepathref02_Peaks_ok (by kernel_rfl) (lo_cons (lpO_ok Uglidepathref02_Peaks) (lo_cons (lpO_ok Uglidepathref02_Peaks) lo_nil)) (by kernel_rfl) ((Bglidepathref02_Peaks_0a_eq _ _ _ _ _ _ _ _).trans h)
def Bglidepathref02_Peaks_0b (F : FnT) (N : Q → Option (Ext × S)) (E : Ext × Q → Option (Ext × S)) (L0 : Q → Option Yglidepathref02_Peaks_0) (L2 : Q → Option Yglidepathref02_Peaks_2) (n0 : Nat) (c1 : List PV) (n2 : Nat) (c3 : List PV) (i4 : Int) (n5 : Nat) : Option (Ext × S) :=
  bif (decide (i4 < (n0 : Int))) then
    bindO (L2 (Tglidepathref02_Peaks_2b n0 c1 n2 c3 i4 true (0 : Int) n5)) fun z =>
    Sum.elim (fun y0 =>
      bif y0.2.2.2 then
        N (Tglidepathref02_Peaks_0b y0.1 y0.2.1 1 [(PV.int IntKind.i64 y0.2.2.1)] (w64 (y0.2.2.1 + (1 : Int))) 1)
      else N (Tglidepathref02_Peaks_0a y0.1 y0.2.1 (w64 (y0.2.2.1 + (1 : Int))))) (fun y1 =>
      bif y1.2.2.2.2.2.1 then
        bif (decide ((y1.2.2.2.2.2.2 = y1.2.2.1) ∧ ((y1.2.2.1 + 1) ≤ big))) then
          N (Tglidepathref02_Peaks_0b y1.1 y1.2.1 (y1.2.2.1 + 1) (y1.2.2.2.1 ++ [(PV.int IntKind.i64 y1.2.2.2.2.1)]) (w64 (y1.2.2.2.2.1 + (1 : Int))) (y1.2.2.1 + 1))
        else none
      else N (Tglidepathref02_Peaks_0b y1.1 y1.2.1 y1.2.2.1 y1.2.2.2.1 (w64 (y1.2.2.2.2.1 + (1 : Int))) y1.2.2.2.2.2.2)) z
  else E (Xglidepathref02_Peaks_0b (n2, c3, n5))
theorem Bglidepathref02_Peaks_0b_eq (F : FnT) (N : Q → Option (Ext × S)) (E : Ext × Q → Option (Ext × S)) (L0 : Q → Option Yglidepathref02_Peaks_0) (L2 : Q → Option Yglidepathref02_Peaks_2) (n0 : Nat) (c1 : List PV) (n2 : Nat) (c3 : List PV) (i4 : Int) (n5 : Nat) : semB (callP F Eglidepathref02_Peaks 20) s55 (loopT [⟨0, Yglidepathref02_Peaks_0, L0, XLglidepathref02_Peaks_0⟩, ⟨2, Yglidepathref02_Peaks_2, L2, XLglidepathref02_Peaks_2⟩]) 400 (blkIn a55.body 0) N E (Tglidepathref02_Peaks_0b n0 c1 n2 c3 i4 n5) = Bglidepathref02_Peaks_0b F N E L0 L2 n0 c1 n2 c3 i4 n5 := by kernel_rfl
theorem Rglidepathref02_Peaks_0b_of  (n0 : Nat) (c1 : List PV) (n2 : Nat) (c3 : List PV) (i4 : Int) (n5 : Nat) {r : Ext × S} (h : Bglidepathref02_Peaks_0b (Fn env) Rglidepathref02_Peaks_0 exO Lglidepathref02_Peaks_0 Lglidepathref02_Peaks_2 n0 c1 n2 c3 i4 n5 = some r) : Rglidepathref02_Peaks_0 (Tglidepathref02_Peaks_0b n0 c1 n2 c3 i4 n5) = some r :=
  lp_of Eglidepathref02_Peaks_ok (by kernel_rfl) (lo_cons (lpO_ok Uglidepathref02_Peaks) (lo_cons (lpO_ok Uglidepathref02_Peaks) lo_nil)) (by kernel_rfl) ((Bglidepathref02_Peaks_0b_eq _ _ _ _ _ _ _ _ _ _ _).trans h)
def Bglidepathref02_Peaks_2a (F : FnT) (N : Q → Option (Ext × S)) (E : Ext × Q → Option (Ext × S)) (L0 : Q → Option Yglidepathref02_Peaks_0) (L2 : Q → Option Yglidepathref02_Peaks_2) (n0 : Nat) (c1 : List PV) (i2 : Int) (b3 : Bool) (i4 : Int) : Option (Ext × S) :=
  bif (decide (i4 < (n0 : Int))) then
    bif b3 then
      bif (decide (((0 : Int) ≤ i4) ∧ (i4 < (n0 : Int)))) then
        bindO (intC IntKind.i64 (c1[((Int.toNat i4) * 1)]?)) fun x0 =>
        bif (decide (((0 : Int) ≤ i2) ∧ (i2 < (n0 : Int)))) then
          bindO (intC IntKind.i64 (c1[((Int.toNat i2) * 1)]?)) fun x1 =>
          bif (decide (x0 ≤ x1)) then
            N (Tglidepathref02_Peaks_2a n0 c1 i2 true (w64 (i4 + (1 : Int))))
          else N (Tglidepathref02_Peaks_2a n0 c1 i2 false (w64 (i4 + (1 : Int))))
        else none
      else none
    else N (Tglidepathref02_Peaks_2a n0 c1 i2 false (w64 (i4 + (1 : Int))))
  else E (Xglidepathref02_Peaks_2a (n0, c1, i2, b3))
theorem Bglidepathref02_Peaks_2a_eq (F : FnT) (N : Q → Option (Ext × S)) (E : Ext × Q → Option (Ext × S)) (L0 : Q → Option Yglidepathref02_Peaks_0) (L2 : Q → Option Yglidepathref02_Peaks_2) (n0 : Nat) (c1 : List PV) (i2 : Int) (b3 : Bool) (i4 : Int) : semB (callP F Eglidepathref02_Peaks 20) s55 (loopT [⟨0, Yglidepathref02_Peaks_0, L0, XLglidepathref02_Peaks_0⟩, ⟨2, Yglidepathref02_Peaks_2, L2, XLglidepathref02_Peaks_2⟩]) 400 (blkIn a55.body 2) N E (Tglidepathref02_Peaks_2a n0 c1 i2 b3 i4) = Bglidepathref02_Peaks_2a F N E L0 L2 n0 c1 i2 b3 i4 := by kernel_rfl
theorem Rglidepathref02_Peaks_2a_of  (n0 : Nat) (c1 : List PV) (i2 : Int) (b3 : Bool) (i4 : Int) {r : Ext × S} (h : Bglidepathref02_Peaks_2a (Fn env) Rglidepathref02_Peaks_2 exO Lglidepathref02_Peaks_0 Lglidepathref02_Peaks_2 n0 c1 i2 b3 i4 = some r) : Rglidepathref02_Peaks_2 (Tglidepathref02_Peaks_2a n0 c1 i2 b3 i4) = some r :=
  lp_of Eglidepathref02_Peaks_ok (by kernel_rfl) (lo_cons (lpO_ok Uglidepathref02_Peaks) (lo_cons (lpO_ok Uglidepathref02_Peaks) lo_nil)) (by kernel_rfl) ((Bglidepathref02_Peaks_2a_eq _ _ _ _ _ _ _ _ _ _).trans h)
def Bglidepathref02_Peaks_2b (F : FnT) (N : Q → Option (Ext × S)) (E : Ext × Q → Option (Ext × S)) (L0 : Q → Option Yglidepathref02_Peaks_0) (L2 : Q → Option Yglidepathref02_Peaks_2) (n0 : Nat) (c1 : List PV) (n2 : Nat) (c3 : List PV) (i4 : Int) (b5 : Bool) (i6 : Int) (n7 : Nat) : Option (Ext × S) :=
  bif (decide (i6 < (n0 : Int))) then
    bif b5 then
      bif (decide (((0 : Int) ≤ i6) ∧ (i6 < (n0 : Int)))) then
        bindO (intC IntKind.i64 (c1[((Int.toNat i6) * 1)]?)) fun x0 =>
        bif (decide (((0 : Int) ≤ i4) ∧ (i4 < (n0 : Int)))) then
          bindO (intC IntKind.i64 (c1[((Int.toNat i4) * 1)]?)) fun x1 =>
          bif (decide (x0 ≤ x1)) then
            N (Tglidepathref02_Peaks_2b n0 c1 n2 c3 i4 true (w64 (i6 + (1 : Int))) n7)
          else N (Tglidepathref02_Peaks_2b n0 c1 n2 c3 i4 false (w64 (i6 + (1 : Int))) n7)
        else none
      else none
    else N (Tglidepathref02_Peaks_2b n0 c1 n2 c3 i4 false (w64 (i6 + (1 : Int))) n7)
  else E (Xglidepathref02_Peaks_2b (n0, c1, n2, c3, i4, b5, n7))
theorem Bglidepathref02_Peaks_2b_eq (F : FnT) (N : Q → Option (Ext × S)) (E : Ext × Q → Option (Ext × S)) (L0 : Q → Option Yglidepathref02_Peaks_0) (L2 : Q → Option Yglidepathref02_Peaks_2) (n0 : Nat) (c1 : List PV) (n2 : Nat) (c3 : List PV) (i4 : Int) (b5 : Bool) (i6 : Int) (n7 : Nat) : semB (callP F Eglidepathref02_Peaks 20) s55 (loopT [⟨0, Yglidepathref02_Peaks_0, L0, XLglidepathref02_Peaks_0⟩, ⟨2, Yglidepathref02_Peaks_2, L2, XLglidepathref02_Peaks_2⟩]) 400 (blkIn a55.body 2) N E (Tglidepathref02_Peaks_2b n0 c1 n2 c3 i4 b5 i6 n7) = Bglidepathref02_Peaks_2b F N E L0 L2 n0 c1 n2 c3 i4 b5 i6 n7 := by kernel_rfl
theorem Rglidepathref02_Peaks_2b_of  (n0 : Nat) (c1 : List PV) (n2 : Nat) (c3 : List PV) (i4 : Int) (b5 : Bool) (i6 : Int) (n7 : Nat) {r : Ext × S} (h : Bglidepathref02_Peaks_2b (Fn env) Rglidepathref02_Peaks_2 exO Lglidepathref02_Peaks_0 Lglidepathref02_Peaks_2 n0 c1 n2 c3 i4 b5 i6 n7 = some r) : Rglidepathref02_Peaks_2 (Tglidepathref02_Peaks_2b n0 c1 n2 c3 i4 b5 i6 n7) = some r :=
  lp_of Eglidepathref02_Peaks_ok (by kernel_rfl) (lo_cons (lpO_ok Uglidepathref02_Peaks) (lo_cons (lpO_ok Uglidepathref02_Peaks) lo_nil)) (by kernel_rfl) ((Bglidepathref02_Peaks_2b_eq _ _ _ _ _ _ _ _ _ _ _ _ _).trans h)
def tglidepathref02_Peaks (F : FnT) (L0 : Q → Option Yglidepathref02_Peaks_0) (L2 : Q → Option Yglidepathref02_Peaks_2) (p0n : Nat) (p0c : List PV) : Option ((Nat) × (List PV)) :=
  bindO (L0 (Tglidepathref02_Peaks_0a p0n p0c (0 : Int))) fun z =>
  Sum.elim (fun y0 =>
    some (0, [])) (fun y1 =>
    bif (decide (y1.2.2 = y1.1)) then
      some (y1.1, y1.2.1)
    else none) z
theorem tglidepathref02_Peaks_eq (F : FnT) (L0 : Q → Option Yglidepathref02_Peaks_0) (L2 : Q → Option Yglidepathref02_Peaks_2) (p0n : Nat) (p0c : List PV) : semF (callP F Eglidepathref02_Peaks 20) s55 (loopT [⟨0, Yglidepathref02_Peaks_0, L0, XLglidepathref02_Peaks_0⟩, ⟨2, Yglidepathref02_Peaks_2, L2, XLglidepathref02_Peaks_2⟩]) 400 a55 [PV.list p0n p0c] (fun rv => decR (RSh.one CK.list) rv.pv) = tglidepathref02_Peaks F L0 L2 p0n p0c := by kernel_rfl
noncomputable abbrev Fglidepathref02_Peaks (args : List PV) := Fn env 55 (RSh.one CK.list) args
theorem Fglidepathref02_Peaks_of  (p0n : Nat) (p0c : List PV) {res : ((Nat) × (List PV))} (h : tglidepathref02_Peaks (Fn env) Lglidepathref02_Peaks_0 Lglidepathref02_Peaks_2 p0n p0c = some res) : Fglidepathref02_Peaks [PV.list p0n p0c] = some res :=
  fn_of Eglidepathref02_Peaks_ok rfl rfl (lo_cons (lpO_ok Uglidepathref02_Peaks) (lo_cons (lpO_ok Uglidepathref02_Peaks) lo_nil)) ((tglidepathref02_Peaks_eq _ _ _ _ _).trans h)

/-! ### glidepathref02_Peak -/

def Eglidepathref02_Peak : List Entry := [.out 55 (RSh.one CK.list)]
theorem Eglidepathref02_Peak_ok : ∀ e ∈ Eglidepathref02_Peak, EntOK env e := (ent_out ent_nil)
theorem Uglidepathref02_Peak : uniq ((blocksOf a16.body).map (·.1)) = true := by kernel_rfl
def tglidepathref02_Peak (F : FnT) (p0n : Nat) (p0c : List PV) : Option (Int) :=
  bindO (F 55 (RSh.one CK.list) [(PV.list p0n p0c)]) fun (y0 : ((Nat) × (List PV))) =>
  bif (decide (((0 : Int) ≤ (0 : Int)) ∧ ((0 : Int) < (y0.1 : Int)))) then
    bindO (intC IntKind.i64 (y0.2[0]?)) fun x1 =>
    some x1
  else none
theorem tglidepathref02_Peak_eq (F : FnT) (p0n : Nat) (p0c : List PV) : semF (callP F Eglidepathref02_Peak 20) s16 (loopT []) 400 a16 [PV.list p0n p0c] (fun rv => decR (RSh.one (CK.int IntKind.i64)) rv.pv) = tglidepathref02_Peak F p0n p0c := by kernel_rfl
noncomputable abbrev Fglidepathref02_Peak (args : List PV) := Fn env 16 (RSh.one (CK.int IntKind.i64)) args
theorem Fglidepathref02_Peak_of  (p0n : Nat) (p0c : List PV) {res : (Int)} (h : tglidepathref02_Peak (Fn env) p0n p0c = some res) : Fglidepathref02_Peak [PV.list p0n p0c] = some res :=
  fn_of Eglidepathref02_Peak_ok rfl rfl lo_nil ((tglidepathref02_Peak_eq _ _ _).trans h)

/-! ### glidepathlaw02_short -/

def Eglidepathlaw02_short : List Entry := []
theorem Eglidepathlaw02_short_ok : ∀ e ∈ Eglidepathlaw02_short, EntOK env e := ent_nil
theorem Uglidepathlaw02_short : uniq ((blocksOf a9.body).map (·.1)) = true := by kernel_rfl
def tglidepathlaw02_short (F : FnT) (p0n : Nat) (p0c : List PV) : Option (Bool) :=
  bif (decide ((p0n : Int) ≤ (20 : Int))) then
    some true
  else some false
theorem tglidepathlaw02_short_eq (F : FnT) (p0n : Nat) (p0c : List PV) : semF (callP F Eglidepathlaw02_short 20) s9 (loopT []) 400 a9 [PV.list p0n p0c] (fun rv => decR (RSh.one CK.bool) rv.pv) = tglidepathlaw02_short F p0n p0c := by kernel_rfl
noncomputable abbrev Fglidepathlaw02_short (args : List PV) := Fn env 9 (RSh.one CK.bool) args
theorem Fglidepathlaw02_short_of  (p0n : Nat) (p0c : List PV) {res : (Bool)} (h : tglidepathlaw02_short (Fn env) p0n p0c = some res) : Fglidepathlaw02_short [PV.list p0n p0c] = some res :=
  fn_of Eglidepathlaw02_short_ok rfl rfl lo_nil ((tglidepathlaw02_short_eq _ _ _).trans h)

end Gv
