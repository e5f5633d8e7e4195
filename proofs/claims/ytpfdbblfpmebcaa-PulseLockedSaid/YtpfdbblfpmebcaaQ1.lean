/- What the functions do, round by round: Q1. -/
import Derived.Test.YtpfdbblfpmebcaaGvEnv
namespace Gv
open Go
set_option maxRecDepth 100000

/-! ### pulse_errorIf -/

def Epulse_errorIf : List Entry := []
theorem Epulse_errorIf_ok : ∀ e ∈ Epulse_errorIf, EntOK env e := ent_nil
theorem Upulse_errorIf : uniq ((blocksOf a62.body).map (·.1)) = true := by kernel_rfl
def tpulse_errorIf (F : FnT) (p0 : Bool) (p1 : Int) : Option (Int) :=
  bif p0 then
    some p1
  else some (0 : Int)
theorem tpulse_errorIf_eq (F : FnT) (p0 : Bool) (p1 : Int) : semF (callP F Epulse_errorIf 20) s62 (loopT []) 400 a62 [PV.bool p0, PV.int IntKind.i64 p1] (fun rv => decR (RSh.one (CK.int IntKind.i64)) rv.pv) = tpulse_errorIf F p0 p1 := by kernel_rfl
noncomputable abbrev Fpulse_errorIf (args : List PV) := Fn env 62 (RSh.one (CK.int IntKind.i64)) args
theorem Fpulse_errorIf_of  (p0 : Bool) (p1 : Int) {res : (Int)} (h : tpulse_errorIf (Fn env) p0 p1 = some res) : Fpulse_errorIf [PV.bool p0, PV.int IntKind.i64 p1] = some res :=
  fn_of Epulse_errorIf_ok rfl rfl lo_nil ((tpulse_errorIf_eq _ _ _).trans h)

/-! ### pulse_rangeError -/

def Epulse_rangeError : List Entry := [.inl 62 a62 s62]
theorem Epulse_rangeError_ok : ∀ e ∈ Epulse_rangeError, EntOK env e := (ent_inl rfl ent_nil)
theorem Upulse_rangeError : uniq ((blocksOf a63.body).map (·.1)) = true := by kernel_rfl
def tpulse_rangeError (F : FnT) (p0 : Int) (p1 : Int) (p2 : Int) : Option (Int) :=
  bif (decide (p0 < p1)) then
    some (2 : Int)
  else bif (decide (p0 > p2)) then
    some (2 : Int)
  else some (0 : Int)
theorem tpulse_rangeError_eq (F : FnT) (p0 : Int) (p1 : Int) (p2 : Int) : semF (callP F Epulse_rangeError 20) s63 (loopT []) 400 a63 [PV.int IntKind.i64 p0, PV.int IntKind.i64 p1, PV.int IntKind.i64 p2] (fun rv => decR (RSh.one (CK.int IntKind.i64)) rv.pv) = tpulse_rangeError F p0 p1 p2 := by kernel_rfl
noncomputable abbrev Fpulse_rangeError (args : List PV) := Fn env 63 (RSh.one (CK.int IntKind.i64)) args
theorem Fpulse_rangeError_of  (p0 : Int) (p1 : Int) (p2 : Int) {res : (Int)} (h : tpulse_rangeError (Fn env) p0 p1 p2 = some res) : Fpulse_rangeError [PV.int IntKind.i64 p0, PV.int IntKind.i64 p1, PV.int IntKind.i64 p2] = some res :=
  fn_of Epulse_rangeError_ok rfl rfl lo_nil ((tpulse_rangeError_eq _ _ _ _).trans h)

/-! ### pulse_firstError_2 -/

def Epulse_firstError_2 : List Entry := []
theorem Epulse_firstError_2_ok : ∀ e ∈ Epulse_firstError_2, EntOK env e := ent_nil
theorem Upulse_firstError_2 : uniq ((blocksOf a61.body).map (·.1)) = true := by kernel_rfl
def tpulse_firstError_2 (F : FnT)(e0 e1 : Int) : Option (Int) :=
  bif (e0 != (0 : Int)) then
    some e0
  else bif (e1 != (0 : Int)) then
    some e1
  else some (0 : Int)
theorem tpulse_firstError_2_eq (F : FnT)(e0 e1 : Int) : semF (callP F Epulse_firstError_2 20) s61 (loopT []) 400 a61 [.list 2 [.int .i64 e0, .int .i64 e1]] (fun rv => decR (RSh.one (CK.int IntKind.i64)) rv.pv) = tpulse_firstError_2 F e0 e1 := by kernel_rfl
noncomputable abbrev Fpulse_firstError_2 (args : List PV) := Fn env 61 (RSh.one (CK.int IntKind.i64)) args
theorem Fpulse_firstError_2_of (e0 e1 : Int) {res : (Int)} (h : tpulse_firstError_2 (Fn env) e0 e1 = some res) : Fpulse_firstError_2 [.list 2 [.int .i64 e0, .int .i64 e1]] = some res :=
  fn_of Epulse_firstError_2_ok rfl rfl lo_nil ((tpulse_firstError_2_eq _ _ _).trans h)

/-! ### pulse_firstError_4 -/

def Epulse_firstError_4 : List Entry := []
theorem Epulse_firstError_4_ok : ∀ e ∈ Epulse_firstError_4, EntOK env e := ent_nil
theorem Upulse_firstError_4 : uniq ((blocksOf a61.body).map (·.1)) = true := by kernel_rfl
def tpulse_firstError_4 (F : FnT)(e0 e1 e2 e3 : Int) : Option (Int) :=
  bif (e0 != (0 : Int)) then
    some e0
  else bif (e1 != (0 : Int)) then
    some e1
  else bif (e2 != (0 : Int)) then
    some e2
  else bif (e3 != (0 : Int)) then
    some e3
  else some (0 : Int)
theorem tpulse_firstError_4_eq (F : FnT)(e0 e1 e2 e3 : Int) : semF (callP F Epulse_firstError_4 20) s61 (loopT []) 400 a61 [.list 4 [.int .i64 e0, .int .i64 e1, .int .i64 e2, .int .i64 e3]] (fun rv => decR (RSh.one (CK.int IntKind.i64)) rv.pv) = tpulse_firstError_4 F e0 e1 e2 e3 := by kernel_rfl
noncomputable abbrev Fpulse_firstError_4 (args : List PV) := Fn env 61 (RSh.one (CK.int IntKind.i64)) args
theorem Fpulse_firstError_4_of (e0 e1 e2 e3 : Int) {res : (Int)} (h : tpulse_firstError_4 (Fn env) e0 e1 e2 e3 = some res) : Fpulse_firstError_4 [.list 4 [.int .i64 e0, .int .i64 e1, .int .i64 e2, .int .i64 e3]] = some res :=
  fn_of Epulse_firstError_4_ok rfl rfl lo_nil ((tpulse_firstError_4_eq _ _ _ _ _).trans h)

/-! ### pulse_numberError_1 -/

def Epulse_numberError_1 : List Entry := [.out 63 (RSh.one (CK.int IntKind.i64))]
theorem Epulse_numberError_1_ok : ∀ e ∈ Epulse_numberError_1, EntOK env e := (ent_out ent_nil)
theorem Upulse_numberError_1 : uniq ((blocksOf a149.body).map (·.1)) = true := by kernel_rfl
def tpulse_numberError_1 (F : FnT)(x lo hi : Int) : Option (Int) :=
  bindO (F 63 (RSh.one (CK.int IntKind.i64)) [(PV.int IntKind.i64 x), (PV.int IntKind.i64 lo), (PV.int IntKind.i64 hi)]) fun (y0 : (Int)) =>
  some y0
theorem tpulse_numberError_1_eq (F : FnT)(x lo hi : Int) : semF (callP F Epulse_numberError_1 20) s149 (loopT []) 400 a149 [.int .i64 x, .imm [.int .i64 lo] 0, .imm [.int .i64 hi] 0] (fun rv => decR (RSh.one (CK.int IntKind.i64)) rv.pv) = tpulse_numberError_1 F x lo hi := by kernel_rfl
noncomputable abbrev Fpulse_numberError_1 (args : List PV) := Fn env 149 (RSh.one (CK.int IntKind.i64)) args
theorem Fpulse_numberError_1_of (x lo hi : Int) {res : (Int)} (h : tpulse_numberError_1 (Fn env) x lo hi = some res) : Fpulse_numberError_1 [.int .i64 x, .imm [.int .i64 lo] 0, .imm [.int .i64 hi] 0] = some res :=
  fn_of Epulse_numberError_1_ok rfl rfl lo_nil ((tpulse_numberError_1_eq _ _ _ _).trans h)

/-! ### pulse_itemError_int_ -/

def Epulse_itemError_int_ : List Entry := [.out 149 (RSh.one (CK.int IntKind.i64))]
theorem Epulse_itemError_int__ok : ∀ e ∈ Epulse_itemError_int_, EntOK env e := (ent_out ent_nil)
def Tpulse_itemError_int__0a (i0 : Int) (i1 : Int) (n2 : Nat) (c3 : List PV) (i4 : Int) (i5 : Int) : Q := ⟨(tm 24 [(1, (AV.p (PV.fn 149 [(PV.imm [(PV.int IntKind.i64 i0)] 0), (PV.imm [(PV.int IntKind.i64 i1)] 0)]))), (9, (AV.p (PV.list n2 c3))), (10, (AV.p (PV.int IntKind.i64 i4))), (11, (AV.p (PV.int IntKind.i64 i5)))]), (mm 24 [])⟩
def Xpulse_itemError_int__0a (y : Int × Int) : Ext × Q := (Ext.ret, ⟨(tm 24 [(4, (AV.p (PV.int IntKind.i64 y.1))), (5, (AV.p (PV.int IntKind.i64 y.2)))]), (mm 24 [])⟩)
def Ipulse_itemError_int__0a (q : Ext × S) : Int × Int := ((pP_int1 (pA_p (avT q.2 4))), (pP_int1 (pA_p (avT q.2 5))))
def Xpulse_itemError_int__0b (y : Unit) : Ext × Q := (Ext.normal, ⟨(tm 24 []), (mm 24 [])⟩)
def Ipulse_itemError_int__0b (q : Ext × S) : Unit := ()
abbrev Ypulse_itemError_int__0 : Type := (Int × Int) ⊕ ((Unit))
def XLpulse_itemError_int__0 : XL Ypulse_itemError_int__0 := .more Xpulse_itemError_int__0a (.one Xpulse_itemError_int__0b)
def Ipulse_itemError_int__0 (q : Ext × S) : Ypulse_itemError_int__0 := bif (cE q.1 == 2) then (Sum.inl (Ipulse_itemError_int__0a q)) else (Sum.inr (Ipulse_itemError_int__0b q))
theorem XIpulse_itemError_int__0a (y : Int × Int) : Ipulse_itemError_int__0 (xe (Xpulse_itemError_int__0a y)) = (Sum.inl y) := rfl
theorem XIpulse_itemError_int__0b (y : Unit) : Ipulse_itemError_int__0 (xe (Xpulse_itemError_int__0b y)) = (Sum.inr y) := rfl
theorem XIpulse_itemError_int__0 (y : Ypulse_itemError_int__0) : Ipulse_itemError_int__0 (xe (XLpulse_itemError_int__0.fn y)) = y := (match y with | .inl y => XIpulse_itemError_int__0a y | .inr y => XIpulse_itemError_int__0b y)
noncomputable abbrev Lpulse_itemError_int__0 : Q → Option Ypulse_itemError_int__0 := lpO env a148.body 0 XLpulse_itemError_int__0
noncomputable abbrev Rpulse_itemError_int__0 : Q → Option (Ext × S) := lpR env a148.body 0
theorem Lpulse_itemError_int__0a_of {s : Q} {y : Int × Int} (h : Rpulse_itemError_int__0 s = exO (Xpulse_itemError_int__0a y)) : Lpulse_itemError_int__0 s = some (Sum.inl y) := lpO_of Ipulse_itemError_int__0 XIpulse_itemError_int__0 (y := (Sum.inl y)) h
theorem Lpulse_itemError_int__0b_of {s : Q} {y : Unit} (h : Rpulse_itemError_int__0 s = exO (Xpulse_itemError_int__0b y)) : Lpulse_itemError_int__0 s = some (Sum.inr y) := lpO_of Ipulse_itemError_int__0 XIpulse_itemError_int__0 (y := (Sum.inr y)) h
theorem Upulse_itemError_int_ : uniq ((blocksOf a148.body).map (·.1)) = true := by kernel_rfl
def Bpulse_itemError_int__0a (F : FnT) (N : Q → Option (Ext × S)) (E : Ext × Q → Option (Ext × S)) (L0 : Q → Option Ypulse_itemError_int__0) (i0 : Int) (i1 : Int) (n2 : Nat) (c3 : List PV) (i4 : Int) (i5 : Int) : Option (Ext × S) :=
  bif (decide (i5 < i4)) then
    bif (decide (((0 : Int) ≤ i5) ∧ (i5 < (n2 : Int)))) then
      bindO (intC IntKind.i64 (c3[((Int.toNat i5) * 1)]?)) fun x0 =>
      bindO (F 149 (RSh.one (CK.int IntKind.i64)) [(PV.int IntKind.i64 x0), (PV.imm [(PV.int IntKind.i64 i0)] 0), (PV.imm [(PV.int IntKind.i64 i1)] 0)]) fun (y1 : (Int)) =>
      bif (y1 != (0 : Int)) then
        E (Xpulse_itemError_int__0a (i5, y1))
      else N (Tpulse_itemError_int__0a i0 i1 n2 c3 i4 (w64 (i5 + (1 : Int))))
    else none
  else E (Xpulse_itemError_int__0b ())
theorem Bpulse_itemError_int__0a_eq (F : FnT) (N : Q → Option (Ext × S)) (E : Ext × Q → Option (Ext × S)) (L0 : Q → Option Ypulse_itemError_int__0) (i0 : Int) (i1 : Int) (n2 : Nat) (c3 : List PV) (i4 : Int) (i5 : Int) : semB (callP F Epulse_itemError_int_ 20) s148 (loopT [⟨0, Ypulse_itemError_int__0, L0, XLpulse_itemError_int__0⟩]) 400 (blkIn a148.body 0) N E (Tpulse_itemError_int__0a i0 i1 n2 c3 i4 i5) = Bpulse_itemError_int__0a F N E L0 i0 i1 n2 c3 i4 i5 := by kernel_rfl
theorem Rpulse_itemError_int__0a_of  (i0 : Int) (i1 : Int) (n2 : Nat) (c3 : List PV) (i4 : Int) (i5 : Int) {r : Ext × S} (h : Bpulse_itemError_int__0a (Fn env) Rpulse_itemError_int__0 exO Lpulse_itemError_int__0 i0 i1 n2 c3 i4 i5 = some r) : Rpulse_itemError_int__0 (Tpulse_itemError_int__0a i0 i1 n2 c3 i4 i5) = some r :=
  lp_of Epulse_itemError_int__ok (by kernel_rfl) (lo_cons (lpO_ok Upulse_itemError_int_) lo_nil) (by kernel_rfl) ((Bpulse_itemError_int__0a_eq _ _ _ _ _ _ _ _ _ _).trans h)
def tpulse_itemError_int_ (F : FnT) (L0 : Q → Option Ypulse_itemError_int__0)(n : Nat) (cs : List PV) (lo hi : Int) : Option ((Int) × (Int)) :=
  bindO (L0 (Tpulse_itemError_int__0a lo hi n cs (n : Int) (0 : Int))) fun z =>
  Sum.elim (fun y0 =>
    some (y0.1, y0.2)) (fun y1 =>
    some ((0 : Int), (0 : Int))) z
theorem tpulse_itemError_int__eq (F : FnT) (L0 : Q → Option Ypulse_itemError_int__0)(n : Nat) (cs : List PV) (lo hi : Int) : semF (callP F Epulse_itemError_int_ 20) s148 (loopT [⟨0, Ypulse_itemError_int__0, L0, XLpulse_itemError_int__0⟩]) 400 a148 [.list n cs, .fn 149 [.imm [.int .i64 lo] 0, .imm [.int .i64 hi] 0]] (fun rv => decR (RSh.tup [(Prod.mk false [(CK.int IntKind.i64)]), (Prod.mk false [(CK.int IntKind.i64)])]) rv.pv) = tpulse_itemError_int_ F L0 n cs lo hi := by kernel_rfl
noncomputable abbrev Fpulse_itemError_int_ (args : List PV) := Fn env 148 (RSh.tup [(Prod.mk false [(CK.int IntKind.i64)]), (Prod.mk false [(CK.int IntKind.i64)])]) args
theorem Fpulse_itemError_int__of (n : Nat) (cs : List PV) (lo hi : Int) {res : ((Int) × (Int))} (h : tpulse_itemError_int_ (Fn env) Lpulse_itemError_int__0 n cs lo hi = some res) : Fpulse_itemError_int_ [.list n cs, .fn 149 [.imm [.int .i64 lo] 0, .imm [.int .i64 hi] 0]] = some res :=
  fn_of Epulse_itemError_int__ok rfl rfl (lo_cons (lpO_ok Upulse_itemError_int_) lo_nil) ((tpulse_itemError_int__eq _ _ _ _ _ _).trans h)

/-! ### pulse_listError_int_ -/

def Epulse_listError_int_ : List Entry := [.inl 62 a62 s62, .out 61 (RSh.one (CK.int IntKind.i64)), .out 148 (RSh.tup [(Prod.mk false [(CK.int IntKind.i64)]), (Prod.mk false [(CK.int IntKind.i64)])])]
theorem Epulse_listError_int__ok : ∀ e ∈ Epulse_listError_int_, EntOK env e := (ent_inl rfl (ent_out (ent_out ent_nil)))
theorem Upulse_listError_int_ : uniq ((blocksOf a110.body).map (·.1)) = true := by kernel_rfl
def tpulse_listError_int_ (F : FnT)(n : Nat) (cs : List PV) (m lo hi : Int) : Option ((Int) × (Int)) :=
  bif ((n : Int) == (0 : Int)) then
    bif (decide ((n : Int) > m)) then
      bindO (F 61 (RSh.one (CK.int IntKind.i64)) [(PV.list 2 [(PV.int IntKind.i64 (10 : Int)), (PV.int IntKind.i64 (8 : Int))])]) fun (y0 : (Int)) =>
      bif (y0 != (0 : Int)) then
        some ((0 : Int), y0)
      else bindO (F 148 (RSh.tup [(Prod.mk false [(CK.int IntKind.i64)]), (Prod.mk false [(CK.int IntKind.i64)])]) [(PV.list n cs), (PV.fn 149 [(PV.imm [(PV.int IntKind.i64 lo)] 0), (PV.imm [(PV.int IntKind.i64 hi)] 0)])]) fun (y1 : ((Int) × (Int))) =>
      some (y1.1, y1.2)
    else bindO (F 61 (RSh.one (CK.int IntKind.i64)) [(PV.list 2 [(PV.int IntKind.i64 (10 : Int)), (PV.int IntKind.i64 (0 : Int))])]) fun (y2 : (Int)) =>
    bif (y2 != (0 : Int)) then
      some ((0 : Int), y2)
    else bindO (F 148 (RSh.tup [(Prod.mk false [(CK.int IntKind.i64)]), (Prod.mk false [(CK.int IntKind.i64)])]) [(PV.list n cs), (PV.fn 149 [(PV.imm [(PV.int IntKind.i64 lo)] 0), (PV.imm [(PV.int IntKind.i64 hi)] 0)])]) fun (y3 : ((Int) × (Int))) =>
    some (y3.1, y3.2)
  else bif (decide ((n : Int) > m)) then
    bindO (F 61 (RSh.one (CK.int IntKind.i64)) [(PV.list 2 [(PV.int IntKind.i64 (0 : Int)), (PV.int IntKind.i64 (8 : Int))])]) fun (y4 : (Int)) =>
    bif (y4 != (0 : Int)) then
      some ((0 : Int), y4)
    else bindO (F 148 (RSh.tup [(Prod.mk false [(CK.int IntKind.i64)]), (Prod.mk false [(CK.int IntKind.i64)])]) [(PV.list n cs), (PV.fn 149 [(PV.imm [(PV.int IntKind.i64 lo)] 0), (PV.imm [(PV.int IntKind.i64 hi)] 0)])]) fun (y5 : ((Int) × (Int))) =>
    some (y5.1, y5.2)
  else bindO (F 61 (RSh.one (CK.int IntKind.i64)) [(PV.list 2 [(PV.int IntKind.i64 (0 : Int)), (PV.int IntKind.i64 (0 : Int))])]) fun (y6 : (Int)) =>
  bif (y6 != (0 : Int)) then
    some ((0 : Int), y6)
  else bindO (F 148 (RSh.tup [(Prod.mk false [(CK.int IntKind.i64)]), (Prod.mk false [(CK.int IntKind.i64)])]) [(PV.list n cs), (PV.fn 149 [(PV.imm [(PV.int IntKind.i64 lo)] 0), (PV.imm [(PV.int IntKind.i64 hi)] 0)])]) fun (y7 : ((Int) × (Int))) =>
  some (y7.1, y7.2)
theorem tpulse_listError_int__eq (F : FnT)(n : Nat) (cs : List PV) (m lo hi : Int) : semF (callP F Epulse_listError_int_ 20) s110 (loopT []) 400 a110 [.list n cs, .int .i64 m, .fn 149 [.imm [.int .i64 lo] 0, .imm [.int .i64 hi] 0]] (fun rv => decR (RSh.tup [(Prod.mk false [(CK.int IntKind.i64)]), (Prod.mk false [(CK.int IntKind.i64)])]) rv.pv) = tpulse_listError_int_ F n cs m lo hi := by kernel_rfl
noncomputable abbrev Fpulse_listError_int_ (args : List PV) := Fn env 110 (RSh.tup [(Prod.mk false [(CK.int IntKind.i64)]), (Prod.mk false [(CK.int IntKind.i64)])]) args
theorem Fpulse_listError_int__of (n : Nat) (cs : List PV) (m lo hi : Int) {res : ((Int) × (Int))} (h : tpulse_listError_int_ (Fn env) n cs m lo hi = some res) : Fpulse_listError_int_ [.list n cs, .int .i64 m, .fn 149 [.imm [.int .i64 lo] 0, .imm [.int .i64 hi] 0]] = some res :=
  fn_of Epulse_listError_int__ok rfl rfl lo_nil ((tpulse_listError_int__eq _ _ _ _ _ _).trans h)

/-! ### glidepathbase_Within -/

def Eglidepathbase_Within : List Entry := []
theorem Eglidepathbase_Within_ok : ∀ e ∈ Eglidepathbase_Within, EntOK env e := ent_nil
theorem Uglidepathbase_Within : uniq ((blocksOf a12.body).map (·.1)) = true := by kernel_rfl
def tglidepathbase_Within (F : FnT) (p0 : Int) (p1 : Int) (p2 : Int) : Option (Bool) :=
  bif (decide (p1 ≤ p0)) then
    bif (decide (p0 ≤ p2)) then
      some true
    else some false
  else some false
theorem tglidepathbase_Within_eq (F : FnT) (p0 : Int) (p1 : Int) (p2 : Int) : semF (callP F Eglidepathbase_Within 20) s12 (loopT []) 400 a12 [PV.int IntKind.i64 p0, PV.int IntKind.i64 p1, PV.int IntKind.i64 p2] (fun rv => decR (RSh.one CK.bool) rv.pv) = tglidepathbase_Within F p0 p1 p2 := by kernel_rfl
noncomputable abbrev Fglidepathbase_Within (args : List PV) := Fn env 12 (RSh.one CK.bool) args
theorem Fglidepathbase_Within_of  (p0 : Int) (p1 : Int) (p2 : Int) {res : (Bool)} (h : tglidepathbase_Within (Fn env) p0 p1 p2 = some res) : Fglidepathbase_Within [PV.int IntKind.i64 p0, PV.int IntKind.i64 p1, PV.int IntKind.i64 p2] = some res :=
  fn_of Eglidepathbase_Within_ok rfl rfl lo_nil ((tglidepathbase_Within_eq _ _ _ _).trans h)

/-! ### glidepathbase_Size -/

def Eglidepathbase_Size : List Entry := []
theorem Eglidepathbase_Size_ok : ∀ e ∈ Eglidepathbase_Size, EntOK env e := ent_nil
theorem Uglidepathbase_Size : uniq ((blocksOf a13.body).map (·.1)) = true := by kernel_rfl
def tglidepathbase_Size (F : FnT) (p0 : Int) : Option (Int) :=
  some (if ((w64 ((0 : Int) - p0)) > p0) then (w64 ((0 : Int) - p0)) else p0)
theorem tglidepathbase_Size_eq (F : FnT) (p0 : Int) : semF (callP F Eglidepathbase_Size 20) s13 (loopT []) 400 a13 [PV.int IntKind.i64 p0] (fun rv => decR (RSh.one (CK.int IntKind.i64)) rv.pv) = tglidepathbase_Size F p0 := by kernel_rfl
noncomputable abbrev Fglidepathbase_Size (args : List PV) := Fn env 13 (RSh.one (CK.int IntKind.i64)) args
theorem Fglidepathbase_Size_of  (p0 : Int) {res : (Int)} (h : tglidepathbase_Size (Fn env) p0 = some res) : Fglidepathbase_Size [PV.int IntKind.i64 p0] = some res :=
  fn_of Eglidepathbase_Size_ok rfl rfl lo_nil ((tglidepathbase_Size_eq _ _).trans h)

/-! ### glidepathbase_CopyInts -/

def Eglidepathbase_CopyInts : List Entry := []
theorem Eglidepathbase_CopyInts_ok : ∀ e ∈ Eglidepathbase_CopyInts, EntOK env e := ent_nil
theorem Uglidepathbase_CopyInts : uniq ((blocksOf a15.body).map (·.1)) = true := by kernel_rfl
def tglidepathbase_CopyInts (F : FnT) (p0n : Nat) (p0c : List PV) : Option ((Nat) × (List PV)) :=
  bif (decide (p0n = 0)) then
    some (0, [])
  else bif (decide ((List.length p0c) = (p0n * 1))) then
    bif (decide ((0 + p0n) ≤ big)) then
      bif (decide ((0 + p0n) = (0 + p0n))) then
        some ((0 + p0n), ([] ++ p0c))
      else none
    else none
  else none
theorem tglidepathbase_CopyInts_eq (F : FnT) (p0n : Nat) (p0c : List PV) : semF (callP F Eglidepathbase_CopyInts 20) s15 (loopT []) 400 a15 [PV.list p0n p0c] (fun rv => decR (RSh.one CK.list) rv.pv) = tglidepathbase_CopyInts F p0n p0c := by kernel_rfl
noncomputable abbrev Fglidepathbase_CopyInts (args : List PV) := Fn env 15 (RSh.one CK.list) args
theorem Fglidepathbase_CopyInts_of  (p0n : Nat) (p0c : List PV) {res : ((Nat) × (List PV))} (h : tglidepathbase_CopyInts (Fn env) p0n p0c = some res) : Fglidepathbase_CopyInts [PV.list p0n p0c] = some res :=
  fn_of Eglidepathbase_CopyInts_ok rfl rfl lo_nil ((tglidepathbase_CopyInts_eq _ _ _).trans h)

/-! ### pulse_polynomialError -/

def Epulse_polynomialError : List Entry := [.inl 111 a111 s111, .out 110 (RSh.tup [(Prod.mk false [(CK.int IntKind.i64)]), (Prod.mk false [(CK.int IntKind.i64)])])]
theorem Epulse_polynomialError_ok : ∀ e ∈ Epulse_polynomialError, EntOK env e := (ent_inl rfl (ent_out ent_nil))
theorem Upulse_polynomialError : uniq ((blocksOf a59.body).map (·.1)) = true := by kernel_rfl
def tpulse_polynomialError (F : FnT) (p0n : Nat) (p0c : List PV) : Option (Int) :=
  bindO (F 110 (RSh.tup [(Prod.mk false [(CK.int IntKind.i64)]), (Prod.mk false [(CK.int IntKind.i64)])]) [(PV.list p0n p0c), (PV.int IntKind.i64 (4 : Int)), (PV.fn 149 [(PV.imm [(PV.int IntKind.i64 (-60 : Int))] 0), (PV.imm [(PV.int IntKind.i64 (60 : Int))] 0)])]) fun (y0 : ((Int) × (Int))) =>
  some y0.2
theorem tpulse_polynomialError_eq (F : FnT) (p0n : Nat) (p0c : List PV) : semF (callP F Epulse_polynomialError 20) s59 (loopT []) 400 a59 [PV.list p0n p0c] (fun rv => decR (RSh.one (CK.int IntKind.i64)) rv.pv) = tpulse_polynomialError F p0n p0c := by kernel_rfl
noncomputable abbrev Fpulse_polynomialError (args : List PV) := Fn env 59 (RSh.one (CK.int IntKind.i64)) args
theorem Fpulse_polynomialError_of  (p0n : Nat) (p0c : List PV) {res : (Int)} (h : tpulse_polynomialError (Fn env) p0n p0c = some res) : Fpulse_polynomialError [PV.list p0n p0c] = some res :=
  fn_of Epulse_polynomialError_ok rfl rfl lo_nil ((tpulse_polynomialError_eq _ _ _).trans h)

/-! ### slices_Clone___int_int_ -/

def Eslices_Clone___int_int_ : List Entry := []
theorem Eslices_Clone___int_int__ok : ∀ e ∈ Eslices_Clone___int_int_, EntOK env e := ent_nil
theorem Uslices_Clone___int_int_ : uniq ((blocksOf a150.body).map (·.1)) = true := by kernel_rfl
def tslices_Clone___int_int_ (F : FnT) (p0n : Nat) (p0c : List PV) : Option ((Nat) × (List PV)) :=
  bif (decide (p0n ≠ 0)) then
    bif (decide (p0n = 0)) then
      some (0, [])
    else bif (decide ((List.length p0c) = (p0n * 1))) then
      bif (decide ((0 + p0n) ≤ big)) then
        bif (decide ((0 + p0n) = (0 + p0n))) then
          some ((0 + p0n), ([] ++ p0c))
        else none
      else none
    else none
  else none
theorem tslices_Clone___int_int__eq (F : FnT) (p0n : Nat) (p0c : List PV) : semF (callP F Eslices_Clone___int_int_ 20) s150 (loopT []) 400 a150 [PV.list p0n p0c] (fun rv => decR (RSh.one CK.list) rv.pv) = tslices_Clone___int_int_ F p0n p0c := by kernel_rfl
noncomputable abbrev Fslices_Clone___int_int_ (args : List PV) := Fn env 150 (RSh.one CK.list) args
theorem Fslices_Clone___int_int__of  (p0n : Nat) (p0c : List PV) {res : ((Nat) × (List PV))} (h : tslices_Clone___int_int_ (Fn env) p0n p0c = some res) : Fslices_Clone___int_int_ [PV.list p0n p0c] = some res :=
  fn_of Eslices_Clone___int_int__ok rfl rfl lo_nil ((tslices_Clone___int_int__eq _ _ _).trans h)

/-! ### pulse_hasNextRow -/

def Epulse_hasNextRow : List Entry := []
theorem Epulse_hasNextRow_ok : ∀ e ∈ Epulse_hasNextRow, EntOK env e := ent_nil
theorem Upulse_hasNextRow : uniq ((blocksOf a151.body).map (·.1)) = true := by kernel_rfl
def tpulse_hasNextRow (F : FnT) (p0n : Nat) (p0c : List PV) : Option (Bool) :=
  bif (decide (((0 : Int) ≤ (0 : Int)) ∧ ((0 : Int) < (p0n : Int)))) then
    bindO (intC IntKind.i64 (p0c[0]?)) fun x0 =>
    bif (decide (((0 : Int) ≤ (w64 ((p0n : Int) - (1 : Int)))) ∧ ((w64 ((p0n : Int) - (1 : Int))) < (p0n : Int)))) then
      bindO (intC IntKind.i64 (p0c[((Int.toNat (w64 ((p0n : Int) - (1 : Int)))) * 1)]?)) fun x1 =>
      bif (decide ((p0n : Int) > (1 : Int))) then
        bif (decide ((if ((w64 ((0 : Int) - x1)) > x1) then (w64 ((0 : Int) - x1)) else x1) > (if ((w64 ((0 : Int) - x0)) > x0) then (w64 ((0 : Int) - x0)) else x0))) then
          some true
        else some false
      else some false
    else none
  else none
theorem tpulse_hasNextRow_eq (F : FnT) (p0n : Nat) (p0c : List PV) : semF (callP F Epulse_hasNextRow 20) s151 (loopT []) 400 a151 [PV.list p0n p0c] (fun rv => decR (RSh.one CK.bool) rv.pv) = tpulse_hasNextRow F p0n p0c := by kernel_rfl
noncomputable abbrev Fpulse_hasNextRow (args : List PV) := Fn env 151 (RSh.one CK.bool) args
theorem Fpulse_hasNextRow_of  (p0n : Nat) (p0c : List PV) {res : (Bool)} (h : tpulse_hasNextRow (Fn env) p0n p0c = some res) : Fpulse_hasNextRow [PV.list p0n p0c] = some res :=
  fn_of Epulse_hasNextRow_ok rfl rfl lo_nil ((tpulse_hasNextRow_eq _ _ _).trans h)

/-! ### pulse_nextRow -/

def Epulse_nextRow : List Entry := []
theorem Epulse_nextRow_ok : ∀ e ∈ Epulse_nextRow, EntOK env e := ent_nil
def Tpulse_nextRow_0a (n0 : Nat) (c1 : List PV) (i2 : Int) (n3 : Nat) (i4 : Int) (i5 : Int) (c6 : List PV) : Q := ⟨(tm 43 [(0, (AV.p (PV.list n0 c1))), (3, (AV.p (PV.int IntKind.i64 i2))), (4, (AV.msl 10 0 n3 1)), (12, (AV.p (PV.int IntKind.i64 i4))), (13, (AV.p (PV.int IntKind.i64 i5)))]), (mm 43 [(10, (Bk.pcs true c6))])⟩
def Xpulse_nextRow_0a (y : Nat × List PV) : Ext × Q := (Ext.normal, ⟨(tm 43 [(4, (AV.msl 10 0 y.1 1))]), (mm 43 [(10, (Bk.pcs true y.2))])⟩)
def Ipulse_nextRow_0a (q : Ext × S) : Nat × List PV := ((pA_msl2 (avT q.2 4)), (pB_pcs1 (avM q.2 10)))
abbrev Ypulse_nextRow_0 : Type := Nat × List PV
def XLpulse_nextRow_0 : XL Ypulse_nextRow_0 := .one Xpulse_nextRow_0a
def Ipulse_nextRow_0 (q : Ext × S) : Ypulse_nextRow_0 := (Ipulse_nextRow_0a q)
theorem XIpulse_nextRow_0a (y : Nat × List PV) : Ipulse_nextRow_0 (xe (Xpulse_nextRow_0a y)) = y := (show Ipulse_nextRow_0 (xe (Xpulse_nextRow_0a y)) = (y.1, ((y.2.map AV.p).map pA_p)) from rfl).trans (by simp only [map_back])
theorem XIpulse_nextRow_0 (y : Ypulse_nextRow_0) : Ipulse_nextRow_0 (xe (XLpulse_nextRow_0.fn y)) = y := XIpulse_nextRow_0a y
noncomputable abbrev Lpulse_nextRow_0 : Q → Option Ypulse_nextRow_0 := lpO env a152.body 0 XLpulse_nextRow_0
noncomputable abbrev Rpulse_nextRow_0 : Q → Option (Ext × S) := lpR env a152.body 0
theorem Lpulse_nextRow_0a_of {s : Q} {y : Nat × List PV} (h : Rpulse_nextRow_0 s = exO (Xpulse_nextRow_0a y)) : Lpulse_nextRow_0 s = some y := lpO_of Ipulse_nextRow_0 XIpulse_nextRow_0 (y := y) h
theorem Upulse_nextRow : uniq ((blocksOf a152.body).map (·.1)) = true := by kernel_rfl
def Bpulse_nextRow_0a (F : FnT) (N : Q → Option (Ext × S)) (E : Ext × Q → Option (Ext × S)) (L0 : Q → Option Ypulse_nextRow_0) (n0 : Nat) (c1 : List PV) (i2 : Int) (n3 : Nat) (i4 : Int) (i5 : Int) (c6 : List PV) : Option (Ext × S) :=
  bif (decide (i5 < i4)) then
    bif (decide (((0 : Int) ≤ i2) ∧ (i2 < (n0 : Int)))) then
      bindO (intC IntKind.i64 (c1[((Int.toNat i2) * 1)]?)) fun x0 =>
      bif (decide (((0 : Int) ≤ (w64 (i5 + (1 : Int)))) ∧ ((w64 (i5 + (1 : Int))) < (n0 : Int)))) then
        bindO (intC IntKind.i64 (c1[((Int.toNat (w64 (i5 + (1 : Int)))) * 1)]?)) fun x1 =>
        bif (decide (((0 : Int) ≤ (0 : Int)) ∧ ((0 : Int) < (n0 : Int)))) then
          bindO (intC IntKind.i64 (c1[0]?)) fun x2 =>
          bif (decide (((0 : Int) ≤ (w64 ((w64 (i2 - (1 : Int))) - i5))) ∧ ((w64 ((w64 (i2 - (1 : Int))) - i5)) < (n0 : Int)))) then
            bindO (intC IntKind.i64 (c1[((Int.toNat (w64 ((w64 (i2 - (1 : Int))) - i5))) * 1)]?)) fun x3 =>
            bif (decide (((0 : Int) ≤ i5) ∧ (i5 < (n3 : Int)))) then
              bindO (Gv.overO c6 (0 + ((Int.toNat i5) * 1)) [(PV.int IntKind.i64 (w64 ((w64 (x0 * x1)) - (w64 (x2 * x3)))))]) fun x4 =>
              N (Tpulse_nextRow_0a n0 c1 i2 n3 i4 (w64 (i5 + (1 : Int))) x4)
            else none
          else none
        else none
      else none
    else none
  else E (Xpulse_nextRow_0a (n3, c6))
theorem Bpulse_nextRow_0a_eq (F : FnT) (N : Q → Option (Ext × S)) (E : Ext × Q → Option (Ext × S)) (L0 : Q → Option Ypulse_nextRow_0) (n0 : Nat) (c1 : List PV) (i2 : Int) (n3 : Nat) (i4 : Int) (i5 : Int) (c6 : List PV) : semB (callP F Epulse_nextRow 20) s152 (loopT [⟨0, Ypulse_nextRow_0, L0, XLpulse_nextRow_0⟩]) 400 (blkIn a152.body 0) N E (Tpulse_nextRow_0a n0 c1 i2 n3 i4 i5 c6) = Bpulse_nextRow_0a F N E L0 n0 c1 i2 n3 i4 i5 c6 := by kernel_rfl
theorem Rpulse_nextRow_0a_of  (n0 : Nat) (c1 : List PV) (i2 : Int) (n3 : Nat) (i4 : Int) (i5 : Int) (c6 : List PV) {r : Ext × S} (h : Bpulse_nextRow_0a (Fn env) Rpulse_nextRow_0 exO Lpulse_nextRow_0 n0 c1 i2 n3 i4 i5 c6 = some r) : Rpulse_nextRow_0 (Tpulse_nextRow_0a n0 c1 i2 n3 i4 i5 c6) = some r :=
  lp_of Epulse_nextRow_ok (by kernel_rfl) (lo_cons (lpO_ok Upulse_nextRow) lo_nil) (by kernel_rfl) ((Bpulse_nextRow_0a_eq _ _ _ _ _ _ _ _ _ _ _).trans h)
def tpulse_nextRow (F : FnT) (L0 : Q → Option Ypulse_nextRow_0) (p0n : Nat) (p0c : List PV) : Option ((Nat) × (List PV)) :=
  bif (decide (((w64 ((p0n : Int) - (1 : Int))) = (w64 ((p0n : Int) - (1 : Int)))) ∧ (((0 : Int) ≤ (w64 ((p0n : Int) - (1 : Int)))) ∧ ((w64 ((p0n : Int) - (1 : Int))) ≤ (big : Int))))) then
    bindO (L0 (Tpulse_nextRow_0a p0n p0c (w64 ((p0n : Int) - (1 : Int))) (Int.toNat (w64 ((p0n : Int) - (1 : Int)))) ((Int.toNat (w64 ((p0n : Int) - (1 : Int)))) : Int) (0 : Int) (rep [(PV.int IntKind.i64 (0 : Int))] (Int.toNat (w64 ((p0n : Int) - (1 : Int))))))) fun y0 =>
    bif (decide ((0 + (y0.1 * 1)) ≤ (List.length y0.2))) then
      some (y0.1, (List.take (y0.1 * 1) (List.drop 0 y0.2)))
    else none
  else none
theorem tpulse_nextRow_eq (F : FnT) (L0 : Q → Option Ypulse_nextRow_0) (p0n : Nat) (p0c : List PV) : semF (callP F Epulse_nextRow 20) s152 (loopT [⟨0, Ypulse_nextRow_0, L0, XLpulse_nextRow_0⟩]) 400 a152 [PV.list p0n p0c] (fun rv => decR (RSh.one CK.list) rv.pv) = tpulse_nextRow F L0 p0n p0c := by kernel_rfl
noncomputable abbrev Fpulse_nextRow (args : List PV) := Fn env 152 (RSh.one CK.list) args
theorem Fpulse_nextRow_of  (p0n : Nat) (p0c : List PV) {res : ((Nat) × (List PV))} (h : tpulse_nextRow (Fn env) Lpulse_nextRow_0 p0n p0c = some res) : Fpulse_nextRow [PV.list p0n p0c] = some res :=
  fn_of Epulse_nextRow_ok rfl rfl (lo_cons (lpO_ok Upulse_nextRow) lo_nil) ((tpulse_nextRow_eq _ _ _ _).trans h)

/-! ### pulse_rowsOf -/

def Epulse_rowsOf : List Entry := [.out 150 (RSh.one CK.list), .out 151 (RSh.one CK.bool), .out 152 (RSh.one CK.list)]
theorem Epulse_rowsOf_ok : ∀ e ∈ Epulse_rowsOf, EntOK env e := (ent_out (ent_out (ent_out ent_nil)))
def Tpulse_rowsOf_0a (n0 : Nat) (c1 : List PV) (n2 : Nat) (c3 : List PV) : Q := ⟨(tm 18 [(3, (AV.p (PV.list n0 c1))), (4, (AV.lit 1 1 [(PV.list n2 c3)]))]), (mm 18 [])⟩
def Tpulse_rowsOf_0b (n0 : Nat) (c1 : List PV) (n2 : Nat) (c3 : List PV) (n4 : Nat) : Q := ⟨(tm 18 [(3, (AV.p (PV.list n0 c1))), (4, (AV.app 16 n2 1 c3))]), (mm 18 [(16, (Bk.buf n4))])⟩
def Xpulse_rowsOf_0a (y : Nat × List PV) : Ext × Q := (Ext.normal, ⟨(tm 18 [(4, (AV.lit 1 1 [(PV.list y.1 y.2)]))]), (mm 18 [])⟩)
def Ipulse_rowsOf_0a (q : Ext × S) : Nat × List PV := ((pP_list0 (hdP (pA_lit2 (avT q.2 4)))), (pP_list1 (hdP (pA_lit2 (avT q.2 4)))))
def Xpulse_rowsOf_0b (y : Nat × List PV × Nat) : Ext × Q := (Ext.normal, ⟨(tm 18 [(4, (AV.app 16 y.1 1 y.2.1))]), (mm 18 [(16, (Bk.buf y.2.2))])⟩)
def Ipulse_rowsOf_0b (q : Ext × S) : Nat × List PV × Nat := ((pA_app1 (avT q.2 4)), (pA_app3 (avT q.2 4)), (pB_buf0 (avM q.2 16)))
abbrev Ypulse_rowsOf_0 : Type := (Nat × List PV) ⊕ ((Nat × List PV × Nat))
def XLpulse_rowsOf_0 : XL Ypulse_rowsOf_0 := .more Xpulse_rowsOf_0a (.one Xpulse_rowsOf_0b)
def Ipulse_rowsOf_0 (q : Ext × S) : Ypulse_rowsOf_0 := bif (cA (avT q.2 4) == 4) then (Sum.inl (Ipulse_rowsOf_0a q)) else (Sum.inr (Ipulse_rowsOf_0b q))
theorem XIpulse_rowsOf_0a (y : Nat × List PV) : Ipulse_rowsOf_0 (xe (Xpulse_rowsOf_0a y)) = (Sum.inl y) := rfl
theorem XIpulse_rowsOf_0b (y : Nat × List PV × Nat) : Ipulse_rowsOf_0 (xe (Xpulse_rowsOf_0b y)) = (Sum.inr y) := rfl
theorem XIpulse_rowsOf_0 (y : Ypulse_rowsOf_0) : Ipulse_rowsOf_0 (xe (XLpulse_rowsOf_0.fn y)) = y := (match y with | .inl y => XIpulse_rowsOf_0a y | .inr y => XIpulse_rowsOf_0b y)
noncomputable abbrev Lpulse_rowsOf_0 : Q → Option Ypulse_rowsOf_0 := lpO env a112.body 0 XLpulse_rowsOf_0
noncomputable abbrev Rpulse_rowsOf_0 : Q → Option (Ext × S) := lpR env a112.body 0
theorem Lpulse_rowsOf_0a_of {s : Q} {y : Nat × List PV} (h : Rpulse_rowsOf_0 s = exO (Xpulse_rowsOf_0a y)) : Lpulse_rowsOf_0 s = some (Sum.inl y) := lpO_of Ipulse_rowsOf_0 XIpulse_rowsOf_0 (y := (Sum.inl y)) h
theorem Lpulse_rowsOf_0b_of {s : Q} {y : Nat × List PV × Nat} (h : Rpulse_rowsOf_0 s = exO (Xpulse_rowsOf_0b y)) : Lpulse_rowsOf_0 s = some (Sum.inr y) := lpO_of Ipulse_rowsOf_0 XIpulse_rowsOf_0 (y := (Sum.inr y)) h
theorem Upulse_rowsOf : uniq ((blocksOf a112.body).map (·.1)) = true := by kernel_rfl
def Bpulse_rowsOf_0a (F : FnT) (N : Q → Option (Ext × S)) (E : Ext × Q → Option (Ext × S)) (L0 : Q → Option Ypulse_rowsOf_0) (n0 : Nat) (c1 : List PV) (n2 : Nat) (c3 : List PV) : Option (Ext × S) :=
  bindO (F 151 (RSh.one CK.bool) [(PV.list n0 c1)]) fun (y0 : (Bool)) =>
  bif y0 then
    bindO (F 152 (RSh.one CK.list) [(PV.list n0 c1)]) fun (y1 : ((Nat) × (List PV))) =>
    N (Tpulse_rowsOf_0b y1.1 y1.2 2 [(PV.list n2 c3), (PV.list y1.1 y1.2)] 2)
  else E (Xpulse_rowsOf_0a (n2, c3))
theorem Bpulse_rowsOf_0a_eq (F : FnT) (N : Q → Option (Ext × S)) (E : Ext × Q → Option (Ext × S)) (L0 : Q → Option Ypulse_rowsOf_0) (n0 : Nat) (c1 : List PV) (n2 : Nat) (c3 : List PV) : semB (callP F Epulse_rowsOf 20) s112 (loopT [⟨0, Ypulse_rowsOf_0, L0, XLpulse_rowsOf_0⟩]) 400 (blkIn a112.body 0) N E (Tpulse_rowsOf_0a n0 c1 n2 c3) = Bpulse_rowsOf_0a F N E L0 n0 c1 n2 c3 := by kernel_rfl
theorem Rpulse_rowsOf_0a_of  (n0 : Nat) (c1 : List PV) (n2 : Nat) (c3 : List PV) {r : Ext × S} (h : Bpulse_rowsOf_0a (Fn env) Rpulse_rowsOf_0 exO Lpulse_rowsOf_0 n0 c1 n2 c3 = some r) : Rpulse_rowsOf_0 (Tpulse_rowsOf_0a n0 c1 n2 c3) = some r :=
  lp_of Epulse_rowsOf_ok (by kernel_rfl) (lo_cons (lpO_ok Upulse_rowsOf) lo_nil) (by kernel_rfl) ((Bpulse_rowsOf_0a_eq _ _ _ _ _ _ _ _).trans h)
def Bpulse_rowsOf_0b (F : FnT) (N : Q → Option (Ext × S)) (E : Ext × Q → Option (Ext × S)) (L0 : Q → Option Ypulse_rowsOf_0) (n0 : Nat) (c1 : List PV) (n2 : Nat) (c3 : List PV) (n4 : Nat) : Option (Ext × S) :=
  bindO (F 151 (RSh.one CK.bool) [(PV.list n0 c1)]) fun (y0 : (Bool)) =>
  bif y0 then
    bindO (F 152 (RSh.one CK.list) [(PV.list n0 c1)]) fun (y1 : ((Nat) × (List PV))) =>
    bif (decide ((n4 = n2) ∧ ((n2 + 1) ≤ big))) then
      N (Tpulse_rowsOf_0b y1.1 y1.2 (n2 + 1) (c3 ++ [(PV.list y1.1 y1.2)]) (n2 + 1))
    else none
  else E (Xpulse_rowsOf_0b (n2, c3, n4))
theorem Bpulse_rowsOf_0b_eq (F : FnT) (N : Q → Option (Ext × S)) (E : Ext × Q → Option (Ext × S)) (L0 : Q → Option Ypulse_rowsOf_0) (n0 : Nat) (c1 : List PV) (n2 : Nat) (c3 : List PV) (n4 : Nat) : semB (callP F Epulse_rowsOf 20) s112 (loopT [⟨0, Ypulse_rowsOf_0, L0, XLpulse_rowsOf_0⟩]) 400 (blkIn a112.body 0) N E (Tpulse_rowsOf_0b n0 c1 n2 c3 n4) = Bpulse_rowsOf_0b F N E L0 n0 c1 n2 c3 n4 := by kernel_rfl
theorem Rpulse_rowsOf_0b_of  (n0 : Nat) (c1 : List PV) (n2 : Nat) (c3 : List PV) (n4 : Nat) {r : Ext × S} (h : Bpulse_rowsOf_0b (Fn env) Rpulse_rowsOf_0 exO Lpulse_rowsOf_0 n0 c1 n2 c3 n4 = some r) : Rpulse_rowsOf_0 (Tpulse_rowsOf_0b n0 c1 n2 c3 n4) = some r :=
  lp_of Epulse_rowsOf_ok (by kernel_rfl) (lo_cons (lpO_ok Upulse_rowsOf) lo_nil) (by kernel_rfl) ((Bpulse_rowsOf_0b_eq _ _ _ _ _ _ _ _ _).trans h)
def tpulse_rowsOf (F : FnT) (L0 : Q → Option Ypulse_rowsOf_0) (p0n : Nat) (p0c : List PV) : Option ((Nat) × (List PV)) :=
  bindO (F 150 (RSh.one CK.list) [(PV.list p0n p0c)]) fun (y0 : ((Nat) × (List PV))) =>
  bindO (L0 (Tpulse_rowsOf_0a y0.1 y0.2 y0.1 y0.2)) fun z =>
  Sum.elim (fun y1 =>
    some (1, [(PV.list y1.1 y1.2)])) (fun y2 =>
    bif (decide (y2.2.2 = y2.1)) then
      some (y2.1, y2.2.1)
    else none) z
theorem tpulse_rowsOf_eq (F : FnT) (L0 : Q → Option Ypulse_rowsOf_0) (p0n : Nat) (p0c : List PV) : semF (callP F Epulse_rowsOf 20) s112 (loopT [⟨0, Ypulse_rowsOf_0, L0, XLpulse_rowsOf_0⟩]) 400 a112 [PV.list p0n p0c] (fun rv => decR (RSh.one CK.list) rv.pv) = tpulse_rowsOf F L0 p0n p0c := by kernel_rfl
noncomputable abbrev Fpulse_rowsOf (args : List PV) := Fn env 112 (RSh.one CK.list) args
theorem Fpulse_rowsOf_of  (p0n : Nat) (p0c : List PV) {res : ((Nat) × (List PV))} (h : tpulse_rowsOf (Fn env) Lpulse_rowsOf_0 p0n p0c = some res) : Fpulse_rowsOf [PV.list p0n p0c] = some res :=
  fn_of Epulse_rowsOf_ok rfl rfl (lo_cons (lpO_ok Upulse_rowsOf) lo_nil) ((tpulse_rowsOf_eq _ _ _ _).trans h)

/-! ### pulse_isLocked -/

def Epulse_isLocked : List Entry := [.out 112 (RSh.one CK.list)]
theorem Epulse_isLocked_ok : ∀ e ∈ Epulse_isLocked, EntOK env e := (ent_out ent_nil)
theorem Upulse_isLocked : uniq ((blocksOf a60.body).map (·.1)) = true := by kernel_rfl
def tpulse_isLocked (F : FnT) (p0n : Nat) (p0c : List PV) : Option (Bool) :=
  bindO (F 112 (RSh.one CK.list) [(PV.list p0n p0c)]) fun (y0 : ((Nat) × (List PV))) =>
  bif (decide (((0 : Int) ≤ (w64 ((y0.1 : Int) - (1 : Int)))) ∧ ((w64 ((y0.1 : Int) - (1 : Int))) < (y0.1 : Int)))) then
    bindO (listC (y0.2[((Int.toNat (w64 ((y0.1 : Int) - (1 : Int)))) * 1)]?)) fun x1 =>
    bif ((x1.1 : Int) == (1 : Int)) then
      bif (decide (((0 : Int) ≤ (0 : Int)) ∧ ((0 : Int) < (x1.1 : Int)))) then
        bindO (intC IntKind.i64 (x1.2[0]?)) fun x2 =>
        bif (x2 != (0 : Int)) then
          some true
        else some false
      else none
    else some false
  else none
theorem tpulse_isLocked_eq (F : FnT) (p0n : Nat) (p0c : List PV) : semF (callP F Epulse_isLocked 20) s60 (loopT []) 400 a60 [PV.list p0n p0c] (fun rv => decR (RSh.one CK.bool) rv.pv) = tpulse_isLocked F p0n p0c := by kernel_rfl
noncomputable abbrev Fpulse_isLocked (args : List PV) := Fn env 60 (RSh.one CK.bool) args
theorem Fpulse_isLocked_of  (p0n : Nat) (p0c : List PV) {res : (Bool)} (h : tpulse_isLocked (Fn env) p0n p0c = some res) : Fpulse_isLocked [PV.list p0n p0c] = some res :=
  fn_of Epulse_isLocked_ok rfl rfl lo_nil ((tpulse_isLocked_eq _ _ _).trans h)

/-! ### pulse_isLockedWith -/

def Epulse_isLockedWith : List Entry := [.out 59 (RSh.one (CK.int IntKind.i64)), .out 60 (RSh.one CK.bool)]
theorem Epulse_isLockedWith_ok : ∀ e ∈ Epulse_isLockedWith, EntOK env e := (ent_out (ent_out ent_nil))
def Tpulse_isLockedWith_0a (n0 : Nat) (c1 : List PV) (n2 : Nat) (c3 : List PV) (i4 : Int) (n5 : Nat) (i6 : Int) (i7 : Int) (c8 : List PV) : Q := ⟨(tm 39 [(0, (AV.p (PV.list n0 c1))), (1, (AV.p (PV.list n2 c3))), (2, (AV.p (PV.int IntKind.i64 i4))), (7, (AV.msl 11 0 n5 1)), (13, (AV.p (PV.int IntKind.i64 i6))), (14, (AV.p (PV.int IntKind.i64 i7)))]), (mm 39 [(11, (Bk.pcs true c8))])⟩
def Xpulse_isLockedWith_0a (y : Nat × List PV) : Ext × Q := (Ext.normal, ⟨(tm 39 [(7, (AV.msl 11 0 y.1 1))]), (mm 39 [(11, (Bk.pcs true y.2))])⟩)
def Ipulse_isLockedWith_0a (q : Ext × S) : Nat × List PV := ((pA_msl2 (avT q.2 7)), (pB_pcs1 (avM q.2 11)))
abbrev Ypulse_isLockedWith_0 : Type := Nat × List PV
def XLpulse_isLockedWith_0 : XL Ypulse_isLockedWith_0 := .one Xpulse_isLockedWith_0a
def Ipulse_isLockedWith_0 (q : Ext × S) : Ypulse_isLockedWith_0 := (Ipulse_isLockedWith_0a q)
theorem XIpulse_isLockedWith_0a (y : Nat × List PV) : Ipulse_isLockedWith_0 (xe (Xpulse_isLockedWith_0a y)) = y := (show Ipulse_isLockedWith_0 (xe (Xpulse_isLockedWith_0a y)) = (y.1, ((y.2.map AV.p).map pA_p)) from rfl).trans (by simp only [map_back])
theorem XIpulse_isLockedWith_0 (y : Ypulse_isLockedWith_0) : Ipulse_isLockedWith_0 (xe (XLpulse_isLockedWith_0.fn y)) = y := XIpulse_isLockedWith_0a y
noncomputable abbrev Lpulse_isLockedWith_0 : Q → Option Ypulse_isLockedWith_0 := lpO env a64.body 0 XLpulse_isLockedWith_0
noncomputable abbrev Rpulse_isLockedWith_0 : Q → Option (Ext × S) := lpR env a64.body 0
theorem Lpulse_isLockedWith_0a_of {s : Q} {y : Nat × List PV} (h : Rpulse_isLockedWith_0 s = exO (Xpulse_isLockedWith_0a y)) : Lpulse_isLockedWith_0 s = some y := lpO_of Ipulse_isLockedWith_0 XIpulse_isLockedWith_0 (y := y) h
theorem Upulse_isLockedWith : uniq ((blocksOf a64.body).map (·.1)) = true := by kernel_rfl
def Bpulse_isLockedWith_0a (F : FnT) (N : Q → Option (Ext × S)) (E : Ext × Q → Option (Ext × S)) (L0 : Q → Option Ypulse_isLockedWith_0) (n0 : Nat) (c1 : List PV) (n2 : Nat) (c3 : List PV) (i4 : Int) (n5 : Nat) (i6 : Int) (i7 : Int) (c8 : List PV) : Option (Ext × S) :=
  bif (decide (i7 < i6)) then
    bif (decide (((0 : Int) ≤ i7) ∧ (i7 < (n0 : Int)))) then
      bindO (intC IntKind.i64 (c1[((Int.toNat i7) * 1)]?)) fun x0 =>
      bif (decide (((0 : Int) ≤ i7) ∧ (i7 < (n2 : Int)))) then
        bindO (intC IntKind.i64 (c3[((Int.toNat i7) * 1)]?)) fun x1 =>
        bif (decide (((0 : Int) ≤ i7) ∧ (i7 < (n5 : Int)))) then
          bindO (Gv.overO c8 (0 + ((Int.toNat i7) * 1)) [(PV.int IntKind.i64 (w64 (x0 + (w64 (i4 * x1)))))]) fun x2 =>
          N (Tpulse_isLockedWith_0a n0 c1 n2 c3 i4 n5 i6 (w64 (i7 + (1 : Int))) x2)
        else none
      else none
    else none
  else E (Xpulse_isLockedWith_0a (n5, c8))
theorem Bpulse_isLockedWith_0a_eq (F : FnT) (N : Q → Option (Ext × S)) (E : Ext × Q → Option (Ext × S)) (L0 : Q → Option Ypulse_isLockedWith_0) (n0 : Nat) (c1 : List PV) (n2 : Nat) (c3 : List PV) (i4 : Int) (n5 : Nat) (i6 : Int) (i7 : Int) (c8 : List PV) : semB (callP F Epulse_isLockedWith 20) s64 (loopT [⟨0, Ypulse_isLockedWith_0, L0, XLpulse_isLockedWith_0⟩]) 400 (blkIn a64.body 0) N E (Tpulse_isLockedWith_0a n0 c1 n2 c3 i4 n5 i6 i7 c8) = Bpulse_isLockedWith_0a F N E L0 n0 c1 n2 c3 i4 n5 i6 i7 c8 := by kernel_rfl
theorem Rpulse_isLockedWith_0a_of  (n0 : Nat) (c1 : List PV) (n2 : Nat) (c3 : List PV) (i4 : Int) (n5 : Nat) (i6 : Int) (i7 : Int) (c8 : List PV) {r : Ext × S} (h : Bpulse_isLockedWith_0a (Fn env) Rpulse_isLockedWith_0 exO Lpulse_isLockedWith_0 n0 c1 n2 c3 i4 n5 i6 i7 c8 = some r) : Rpulse_isLockedWith_0 (Tpulse_isLockedWith_0a n0 c1 n2 c3 i4 n5 i6 i7 c8) = some r :=
  lp_of Epulse_isLockedWith_ok (by kernel_rfl) (lo_cons (lpO_ok Upulse_isLockedWith) lo_nil) (by kernel_rfl) ((Bpulse_isLockedWith_0a_eq _ _ _ _ _ _ _ _ _ _ _ _ _).trans h)
def tpulse_isLockedWith (F : FnT) (L0 : Q → Option Ypulse_isLockedWith_0) (p0n : Nat) (p0c : List PV) (p1n : Nat) (p1c : List PV) (p2 : Int) : Option (Bool) :=
  bif (decide (((p0n : Int) = (p0n : Int)) ∧ (((0 : Int) ≤ (p0n : Int)) ∧ ((p0n : Int) ≤ (big : Int))))) then
    bindO (L0 (Tpulse_isLockedWith_0a p0n p0c p1n p1c p2 (Int.toNat (p0n : Int)) ((Int.toNat (p0n : Int)) : Int) (0 : Int) (rep [(PV.int IntKind.i64 (0 : Int))] (Int.toNat (p0n : Int))))) fun y0 =>
    bif (decide ((0 + (y0.1 * 1)) ≤ (List.length y0.2))) then
      bindO (F 59 (RSh.one (CK.int IntKind.i64)) [(PV.list y0.1 (List.take (y0.1 * 1) (List.drop 0 y0.2)))]) fun (y1 : (Int)) =>
      bif (y1 == (0 : Int)) then
        bif (decide ((0 + (y0.1 * 1)) ≤ (List.length y0.2))) then
          bindO (F 60 (RSh.one CK.bool) [(PV.list y0.1 (List.take (y0.1 * 1) (List.drop 0 y0.2)))]) fun (y2 : (Bool)) =>
          bif y2 then
            some true
          else some false
        else none
      else some false
    else none
  else none
theorem tpulse_isLockedWith_eq (F : FnT) (L0 : Q → Option Ypulse_isLockedWith_0) (p0n : Nat) (p0c : List PV) (p1n : Nat) (p1c : List PV) (p2 : Int) : semF (callP F Epulse_isLockedWith 20) s64 (loopT [⟨0, Ypulse_isLockedWith_0, L0, XLpulse_isLockedWith_0⟩]) 400 a64 [PV.list p0n p0c, PV.list p1n p1c, PV.int IntKind.i64 p2] (fun rv => decR (RSh.one CK.bool) rv.pv) = tpulse_isLockedWith F L0 p0n p0c p1n p1c p2 := by kernel_rfl
noncomputable abbrev Fpulse_isLockedWith (args : List PV) := Fn env 64 (RSh.one CK.bool) args
theorem Fpulse_isLockedWith_of  (p0n : Nat) (p0c : List PV) (p1n : Nat) (p1c : List PV) (p2 : Int) {res : (Bool)} (h : tpulse_isLockedWith (Fn env) Lpulse_isLockedWith_0 p0n p0c p1n p1c p2 = some res) : Fpulse_isLockedWith [PV.list p0n p0c, PV.list p1n p1c, PV.int IntKind.i64 p2] = some res :=
  fn_of Epulse_isLockedWith_ok rfl rfl (lo_cons (lpO_ok Upulse_isLockedWith) lo_nil) ((tpulse_isLockedWith_eq _ _ _ _ _ _ _).trans h)

/-! ### pulse_IsLocked -/

def Epulse_IsLocked : List Entry := [.out 59 (RSh.one (CK.int IntKind.i64)), .out 60 (RSh.one CK.bool)]
theorem Epulse_IsLocked_ok : ∀ e ∈ Epulse_IsLocked, EntOK env e := (ent_out (ent_out ent_nil))
theorem Upulse_IsLocked : uniq ((blocksOf a14.body).map (·.1)) = true := by kernel_rfl
def tpulse_IsLocked (F : FnT) (p0n : Nat) (p0c : List PV) : Option ((Bool) × (Int)) :=
  bindO (F 59 (RSh.one (CK.int IntKind.i64)) [(PV.list p0n p0c)]) fun (y0 : (Int)) =>
  bif (y0 != (0 : Int)) then
    some (false, y0)
  else bindO (F 60 (RSh.one CK.bool) [(PV.list p0n p0c)]) fun (y1 : (Bool)) =>
  bif y1 then
    some (true, (0 : Int))
  else some (false, (0 : Int))
theorem tpulse_IsLocked_eq (F : FnT) (p0n : Nat) (p0c : List PV) : semF (callP F Epulse_IsLocked 20) s14 (loopT []) 400 a14 [PV.list p0n p0c] (fun rv => decR (RSh.tup [(Prod.mk false [CK.bool]), (Prod.mk false [(CK.int IntKind.i64)])]) rv.pv) = tpulse_IsLocked F p0n p0c := by kernel_rfl
noncomputable abbrev Fpulse_IsLocked (args : List PV) := Fn env 14 (RSh.tup [(Prod.mk false [CK.bool]), (Prod.mk false [(CK.int IntKind.i64)])]) args
theorem Fpulse_IsLocked_of  (p0n : Nat) (p0c : List PV) {res : ((Bool) × (Int))} (h : tpulse_IsLocked (Fn env) p0n p0c = some res) : Fpulse_IsLocked [PV.list p0n p0c] = some res :=
  fn_of Epulse_IsLocked_ok rfl rfl lo_nil ((tpulse_IsLocked_eq _ _ _).trans h)

/-! ### pulse_MarginOf -/

def Epulse_MarginOf : List Entry := [.out 59 (RSh.one (CK.int IntKind.i64)), .out 62 (RSh.one (CK.int IntKind.i64)), .out 63 (RSh.one (CK.int IntKind.i64)), .out 61 (RSh.one (CK.int IntKind.i64)), .out 60 (RSh.one CK.bool), .out 64 (RSh.one CK.bool)]
theorem Epulse_MarginOf_ok : ∀ e ∈ Epulse_MarginOf, EntOK env e := (ent_out (ent_out (ent_out (ent_out (ent_out (ent_out ent_nil))))))
def Tpulse_MarginOf_0a (n0 : Nat) (c1 : List PV) (n2 : Nat) (c3 : List PV) (i4 : Int) (i5 : Int) : Q := ⟨(tm 43 [(0, (AV.p (PV.list n0 c1))), (1, (AV.p (PV.list n2 c3))), (2, (AV.p (PV.int IntKind.i64 i4))), (9, (AV.p (PV.int IntKind.i64 i5)))]), (mm 43 [])⟩
def Xpulse_MarginOf_0a (y : Int) : Ext × Q := (Ext.normal, ⟨(tm 43 [(9, (AV.p (PV.int IntKind.i64 y)))]), (mm 43 [])⟩)
def Ipulse_MarginOf_0a (q : Ext × S) : Int := (pP_int1 (pA_p (avT q.2 9)))
abbrev Ypulse_MarginOf_0 : Type := Int
def XLpulse_MarginOf_0 : XL Ypulse_MarginOf_0 := .one Xpulse_MarginOf_0a
def Ipulse_MarginOf_0 (q : Ext × S) : Ypulse_MarginOf_0 := (Ipulse_MarginOf_0a q)
theorem XIpulse_MarginOf_0a (y : Int) : Ipulse_MarginOf_0 (xe (Xpulse_MarginOf_0a y)) = y := rfl
theorem XIpulse_MarginOf_0 (y : Ypulse_MarginOf_0) : Ipulse_MarginOf_0 (xe (XLpulse_MarginOf_0.fn y)) = y := XIpulse_MarginOf_0a y
noncomputable abbrev Lpulse_MarginOf_0 : Q → Option Ypulse_MarginOf_0 := lpO env a16.body 0 XLpulse_MarginOf_0
noncomputable abbrev Rpulse_MarginOf_0 : Q → Option (Ext × S) := lpR env a16.body 0
theorem Lpulse_MarginOf_0a_of {s : Q} {y : Int} (h : Rpulse_MarginOf_0 s = exO (Xpulse_MarginOf_0a y)) : Lpulse_MarginOf_0 s = some y := lpO_of Ipulse_MarginOf_0 XIpulse_MarginOf_0 (y := y) h
theorem Upulse_MarginOf : uniq ((blocksOf a16.body).map (·.1)) = true := by kernel_rfl
def Bpulse_MarginOf_0a (F : FnT) (N : Q → Option (Ext × S)) (E : Ext × Q → Option (Ext × S)) (L0 : Q → Option Ypulse_MarginOf_0) (n0 : Nat) (c1 : List PV) (n2 : Nat) (c3 : List PV) (i4 : Int) (i5 : Int) : Option (Ext × S) :=
  bif (decide (i5 < i4)) then
    bindO (F 64 (RSh.one CK.bool) [(PV.list n0 c1), (PV.list n2 c3), (PV.int IntKind.i64 (w64 (i5 + (1 : Int))))]) fun (y0 : (Bool)) =>
    bif y0 then
      N (Tpulse_MarginOf_0a n0 c1 n2 c3 i4 (w64 (i5 + (1 : Int))))
    else E (Xpulse_MarginOf_0a i5)
  else E (Xpulse_MarginOf_0a i5)
theorem Bpulse_MarginOf_0a_eq (F : FnT) (N : Q → Option (Ext × S)) (E : Ext × Q → Option (Ext × S)) (L0 : Q → Option Ypulse_MarginOf_0) (n0 : Nat) (c1 : List PV) (n2 : Nat) (c3 : List PV) (i4 : Int) (i5 : Int) : semB (callP F Epulse_MarginOf 20) s16 (loopT [⟨0, Ypulse_MarginOf_0, L0, XLpulse_MarginOf_0⟩]) 400 (blkIn a16.body 0) N E (Tpulse_MarginOf_0a n0 c1 n2 c3 i4 i5) = Bpulse_MarginOf_0a F N E L0 n0 c1 n2 c3 i4 i5 := by kernel_rfl
theorem Rpulse_MarginOf_0a_of  (n0 : Nat) (c1 : List PV) (n2 : Nat) (c3 : List PV) (i4 : Int) (i5 : Int) {r : Ext × S} (h : Bpulse_MarginOf_0a (Fn env) Rpulse_MarginOf_0 exO Lpulse_MarginOf_0 n0 c1 n2 c3 i4 i5 = some r) : Rpulse_MarginOf_0 (Tpulse_MarginOf_0a n0 c1 n2 c3 i4 i5) = some r :=
  lp_of Epulse_MarginOf_ok (by kernel_rfl) (lo_cons (lpO_ok Upulse_MarginOf) lo_nil) (by kernel_rfl) ((Bpulse_MarginOf_0a_eq _ _ _ _ _ _ _ _ _ _).trans h)
def tpulse_MarginOf (F : FnT) (L0 : Q → Option Ypulse_MarginOf_0) (p0n : Nat) (p0c : List PV) (p1n : Nat) (p1c : List PV) (p2 : Int) : Option ((Int) × (Int)) :=
  bindO (F 59 (RSh.one (CK.int IntKind.i64)) [(PV.list p0n p0c)]) fun (y0 : (Int)) =>
  bindO (F 59 (RSh.one (CK.int IntKind.i64)) [(PV.list p1n p1c)]) fun (y1 : (Int)) =>
  bif ((p0n : Int) != (p1n : Int)) then
    bindO (F 62 (RSh.one (CK.int IntKind.i64)) [(PV.bool true), (PV.int IntKind.i64 (13 : Int))]) fun (y2 : (Int)) =>
    bindO (F 63 (RSh.one (CK.int IntKind.i64)) [(PV.int IntKind.i64 p2), (PV.int IntKind.i64 (0 : Int)), (PV.int IntKind.i64 (60 : Int))]) fun (y3 : (Int)) =>
    bindO (F 61 (RSh.one (CK.int IntKind.i64)) [(PV.list 4 [(PV.int IntKind.i64 y0), (PV.int IntKind.i64 y1), (PV.int IntKind.i64 y2), (PV.int IntKind.i64 y3)])]) fun (y4 : (Int)) =>
    bif (y4 != (0 : Int)) then
      some ((0 : Int), y4)
    else bindO (F 60 (RSh.one CK.bool) [(PV.list p0n p0c)]) fun (y5 : (Bool)) =>
    bif y5 then
      bindO (L0 (Tpulse_MarginOf_0a p0n p0c p1n p1c p2 (0 : Int))) fun y6 =>
      some (y6, (0 : Int))
    else some ((0 : Int), (18 : Int))
  else bindO (F 62 (RSh.one (CK.int IntKind.i64)) [(PV.bool false), (PV.int IntKind.i64 (13 : Int))]) fun (y7 : (Int)) =>
  bindO (F 63 (RSh.one (CK.int IntKind.i64)) [(PV.int IntKind.i64 p2), (PV.int IntKind.i64 (0 : Int)), (PV.int IntKind.i64 (60 : Int))]) fun (y8 : (Int)) =>
  bindO (F 61 (RSh.one (CK.int IntKind.i64)) [(PV.list 4 [(PV.int IntKind.i64 y0), (PV.int IntKind.i64 y1), (PV.int IntKind.i64 y7), (PV.int IntKind.i64 y8)])]) fun (y9 : (Int)) =>
  bif (y9 != (0 : Int)) then
    some ((0 : Int), y9)
  else bindO (F 60 (RSh.one CK.bool) [(PV.list p0n p0c)]) fun (y10 : (Bool)) =>
  bif y10 then
    bindO (L0 (Tpulse_MarginOf_0a p0n p0c p1n p1c p2 (0 : Int))) fun y11 =>
    some (y11, (0 : Int))
  else some ((0 : Int), (18 : Int))
theorem tpulse_MarginOf_eq (F : FnT) (L0 : Q → Option Ypulse_MarginOf_0) (p0n : Nat) (p0c : List PV) (p1n : Nat) (p1c : List PV) (p2 : Int) : semF (callP F Epulse_MarginOf 20) s16 (loopT [⟨0, Ypulse_MarginOf_0, L0, XLpulse_MarginOf_0⟩]) 400 a16 [PV.list p0n p0c, PV.list p1n p1c, PV.int IntKind.i64 p2] (fun rv => decR (RSh.tup [(Prod.mk false [(CK.int IntKind.i64)]), (Prod.mk false [(CK.int IntKind.i64)])]) rv.pv) = tpulse_MarginOf F L0 p0n p0c p1n p1c p2 := by kernel_rfl
noncomputable abbrev Fpulse_MarginOf (args : List PV) := Fn env 16 (RSh.tup [(Prod.mk false [(CK.int IntKind.i64)]), (Prod.mk false [(CK.int IntKind.i64)])]) args
theorem Fpulse_MarginOf_of  (p0n : Nat) (p0c : List PV) (p1n : Nat) (p1c : List PV) (p2 : Int) {res : ((Int) × (Int))} (h : tpulse_MarginOf (Fn env) Lpulse_MarginOf_0 p0n p0c p1n p1c p2 = some res) : Fpulse_MarginOf [PV.list p0n p0c, PV.list p1n p1c, PV.int IntKind.i64 p2] = some res :=
  fn_of Epulse_MarginOf_ok rfl rfl (lo_cons (lpO_ok Upulse_MarginOf) lo_nil) ((tpulse_MarginOf_eq _ _ _ _ _ _ _).trans h)

/-! ### glidepathref01_PolynomialErr -/

def Eglidepathref01_PolynomialErr : List Entry := [.out 12 (RSh.one CK.bool)]
theorem Eglidepathref01_PolynomialErr_ok : ∀ e ∈ Eglidepathref01_PolynomialErr, EntOK env e := (ent_out ent_nil)
def Tglidepathref01_PolynomialErr_0a (n0 : Nat) (c1 : List PV) (i2 : Int) : Q := ⟨(tm 22 [(0, (AV.p (PV.list n0 c1))), (3, (AV.p (PV.int IntKind.i64 i2)))]), (mm 22 [])⟩
def Xglidepathref01_PolynomialErr_0a (y : Unit) : Ext × Q := (Ext.ret, ⟨(tm 22 [(2, (AV.p (PV.int IntKind.i64 (2 : Int))))]), (mm 22 [])⟩)
def Iglidepathref01_PolynomialErr_0a (q : Ext × S) : Unit := ()
def Xglidepathref01_PolynomialErr_0b (y : Unit) : Ext × Q := (Ext.normal, ⟨(tm 22 []), (mm 22 [])⟩)
def Iglidepathref01_PolynomialErr_0b (q : Ext × S) : Unit := ()
abbrev Yglidepathref01_PolynomialErr_0 : Type := (Unit) ⊕ ((Unit))
def XLglidepathref01_PolynomialErr_0 : XL Yglidepathref01_PolynomialErr_0 := .more Xglidepathref01_PolynomialErr_0a (.one Xglidepathref01_PolynomialErr_0b)
def Iglidepathref01_PolynomialErr_0 (q : Ext × S) : Yglidepathref01_PolynomialErr_0 := bif (cE q.1 == 2) then (Sum.inl (Iglidepathref01_PolynomialErr_0a q)) else (Sum.inr (Iglidepathref01_PolynomialErr_0b q))
theorem XIglidepathref01_PolynomialErr_0a (y : Unit) : Iglidepathref01_PolynomialErr_0 (xe (Xglidepathref01_PolynomialErr_0a y)) = (Sum.inl y) := rfl
theorem XIglidepathref01_PolynomialErr_0b (y : Unit) : Iglidepathref01_PolynomialErr_0 (xe (Xglidepathref01_PolynomialErr_0b y)) = (Sum.inr y) := rfl
theorem XIglidepathref01_PolynomialErr_0 (y : Yglidepathref01_PolynomialErr_0) : Iglidepathref01_PolynomialErr_0 (xe (XLglidepathref01_PolynomialErr_0.fn y)) = y := (match y with | .inl y => XIglidepathref01_PolynomialErr_0a y | .inr y => XIglidepathref01_PolynomialErr_0b y)
noncomputable abbrev Lglidepathref01_PolynomialErr_0 : Q → Option Yglidepathref01_PolynomialErr_0 := lpO env a11.body 0 XLglidepathref01_PolynomialErr_0
noncomputable abbrev Rglidepathref01_PolynomialErr_0 : Q → Option (Ext × S) := lpR env a11.body 0
theorem Lglidepathref01_PolynomialErr_0a_of {s : Q} {y : Unit} (h : Rglidepathref01_PolynomialErr_0 s = exO (Xglidepathref01_PolynomialErr_0a y)) : Lglidepathref01_PolynomialErr_0 s = some (Sum.inl y) := lpO_of Iglidepathref01_PolynomialErr_0 XIglidepathref01_PolynomialErr_0 (y := (Sum.inl y)) h
theorem Lglidepathref01_PolynomialErr_0b_of {s : Q} {y : Unit} (h : Rglidepathref01_PolynomialErr_0 s = exO (Xglidepathref01_PolynomialErr_0b y)) : Lglidepathref01_PolynomialErr_0 s = some (Sum.inr y) := lpO_of Iglidepathref01_PolynomialErr_0 XIglidepathref01_PolynomialErr_0 (y := (Sum.inr y)) h
theorem Uglidepathref01_PolynomialErr : uniq ((blocksOf a11.body).map (·.1)) = true := by kernel_rfl
def Bglidepathref01_PolynomialErr_0a (F : FnT) (N : Q → Option (Ext × S)) (E : Ext × Q → Option (Ext × S)) (L0 : Q → Option Yglidepathref01_PolynomialErr_0) (n0 : Nat) (c1 : List PV) (i2 : Int) : Option (Ext × S) :=
  bif (decide (i2 < (n0 : Int))) then
    bif (decide (((0 : Int) ≤ i2) ∧ (i2 < (n0 : Int)))) then
      bindO (intC IntKind.i64 (c1[((Int.toNat i2) * 1)]?)) fun x0 =>
      bindO (F 12 (RSh.one CK.bool) [(PV.int IntKind.i64 x0), (PV.int IntKind.i64 (-60 : Int)), (PV.int IntKind.i64 (60 : Int))]) fun (y1 : (Bool)) =>
      bif y1 then
        N (Tglidepathref01_PolynomialErr_0a n0 c1 (w64 (i2 + (1 : Int))))
      else E (Xglidepathref01_PolynomialErr_0a ())
    else none
  else E (Xglidepathref01_PolynomialErr_0b ())
theorem Bglidepathref01_PolynomialErr_0a_eq (F : FnT) (N : Q → Option (Ext × S)) (E : Ext × Q → Option (Ext × S)) (L0 : Q → Option Yglidepathref01_PolynomialErr_0) (n0 : Nat) (c1 : List PV) (i2 : Int) : semB (callP F Eglidepathref01_PolynomialErr 20) s11 (loopT [⟨0, Yglidepathref01_PolynomialErr_0, L0, XLglidepathref01_PolynomialErr_0⟩]) 400 (blkIn a11.body 0) N E (Tglidepathref01_PolynomialErr_0a n0 c1 i2) = Bglidepathref01_PolynomialErr_0a F N E L0 n0 c1 i2 := by kernel_rfl
theorem Rglidepathref01_PolynomialErr_0a_of  (n0 : Nat) (c1 : List PV) (i2 : Int) {r : Ext × S} (h : Bglidepathref01_PolynomialErr_0a (Fn env) Rglidepathref01_PolynomialErr_0 exO Lglidepathref01_PolynomialErr_0 n0 c1 i2 = some r) : Rglidepathref01_PolynomialErr_0 (Tglidepathref01_PolynomialErr_0a n0 c1 i2) = some r :=
  lp_of Eglidepathref01_PolynomialErr_ok (by kernel_rfl) (lo_cons (lpO_ok Uglidepathref01_PolynomialErr) lo_nil) (by kernel_rfl) ((Bglidepathref01_PolynomialErr_0a_eq _ _ _ _ _ _ _).trans h)
def tglidepathref01_PolynomialErr (F : FnT) (L0 : Q → Option Yglidepathref01_PolynomialErr_0) (p0n : Nat) (p0c : List PV) : Option (Int) :=
  bif ((p0n : Int) == (0 : Int)) then
    some (10 : Int)
  else bif (decide ((p0n : Int) > (4 : Int))) then
    some (8 : Int)
  else bindO (L0 (Tglidepathref01_PolynomialErr_0a p0n p0c (0 : Int))) fun z =>
  Sum.elim (fun y0 =>
    some (2 : Int)) (fun y1 =>
    some (0 : Int)) z
theorem tglidepathref01_PolynomialErr_eq (F : FnT) (L0 : Q → Option Yglidepathref01_PolynomialErr_0) (p0n : Nat) (p0c : List PV) : semF (callP F Eglidepathref01_PolynomialErr 20) s11 (loopT [⟨0, Yglidepathref01_PolynomialErr_0, L0, XLglidepathref01_PolynomialErr_0⟩]) 400 a11 [PV.list p0n p0c] (fun rv => decR (RSh.one (CK.int IntKind.i64)) rv.pv) = tglidepathref01_PolynomialErr F L0 p0n p0c := by kernel_rfl
noncomputable abbrev Fglidepathref01_PolynomialErr (args : List PV) := Fn env 11 (RSh.one (CK.int IntKind.i64)) args
theorem Fglidepathref01_PolynomialErr_of  (p0n : Nat) (p0c : List PV) {res : (Int)} (h : tglidepathref01_PolynomialErr (Fn env) Lglidepathref01_PolynomialErr_0 p0n p0c = some res) : Fglidepathref01_PolynomialErr [PV.list p0n p0c] = some res :=
  fn_of Eglidepathref01_PolynomialErr_ok rfl rfl (lo_cons (lpO_ok Uglidepathref01_PolynomialErr) lo_nil) ((tglidepathref01_PolynomialErr_eq _ _ _ _).trans h)

/-! ### glidepathref01_Sum -/

def Eglidepathref01_Sum : List Entry := []
theorem Eglidepathref01_Sum_ok : ∀ e ∈ Eglidepathref01_Sum, EntOK env e := ent_nil
def Tglidepathref01_Sum_0a (n0 : Nat) (c1 : List PV) (n2 : Nat) (c3 : List PV) (i4 : Int) : Q := ⟨(tm 30 [(0, (AV.p (PV.list n0 c1))), (1, (AV.p (PV.list n2 c3))), (2, (AV.p (PV.int IntKind.i64 i4))), (7, AV.nilS), (8, (AV.p (PV.int IntKind.i64 (0 : Int))))]), (mm 30 [])⟩
def Tglidepathref01_Sum_0b (n0 : Nat) (c1 : List PV) (n2 : Nat) (c3 : List PV) (i4 : Int) (n5 : Nat) (c6 : List PV) (i7 : Int) (n8 : Nat) : Q := ⟨(tm 30 [(0, (AV.p (PV.list n0 c1))), (1, (AV.p (PV.list n2 c3))), (2, (AV.p (PV.int IntKind.i64 i4))), (7, (AV.app 28 n5 1 c6)), (8, (AV.p (PV.int IntKind.i64 i7)))]), (mm 30 [(28, (Bk.buf n8))])⟩
def Xglidepathref01_Sum_0a (y : Unit) : Ext × Q := (Ext.normal, ⟨(tm 30 [(7, AV.nilS)]), (mm 30 [])⟩)
def Iglidepathref01_Sum_0a (q : Ext × S) : Unit := ()
def Xglidepathref01_Sum_0b (y : Nat × List PV × Nat) : Ext × Q := (Ext.normal, ⟨(tm 30 [(7, (AV.app 28 y.1 1 y.2.1))]), (mm 30 [(28, (Bk.buf y.2.2))])⟩)
def Iglidepathref01_Sum_0b (q : Ext × S) : Nat × List PV × Nat := ((pA_app1 (avT q.2 7)), (pA_app3 (avT q.2 7)), (pB_buf0 (avM q.2 28)))
abbrev Yglidepathref01_Sum_0 : Type := (Unit) ⊕ ((Nat × List PV × Nat))
def XLglidepathref01_Sum_0 : XL Yglidepathref01_Sum_0 := .more Xglidepathref01_Sum_0a (.one Xglidepathref01_Sum_0b)
def Iglidepathref01_Sum_0 (q : Ext × S) : Yglidepathref01_Sum_0 := bif (cA (avT q.2 7) == 1) then (Sum.inl (Iglidepathref01_Sum_0a q)) else (Sum.inr (Iglidepathref01_Sum_0b q))
theorem XIglidepathref01_Sum_0a (y : Unit) : Iglidepathref01_Sum_0 (xe (Xglidepathref01_Sum_0a y)) = (Sum.inl y) := rfl
theorem XIglidepathref01_Sum_0b (y : Nat × List PV × Nat) : Iglidepathref01_Sum_0 (xe (Xglidepathref01_Sum_0b y)) = (Sum.inr y) := rfl
theorem XIglidepathref01_Sum_0 (y : Yglidepathref01_Sum_0) : Iglidepathref01_Sum_0 (xe (XLglidepathref01_Sum_0.fn y)) = y := (match y with | .inl y => XIglidepathref01_Sum_0a y | .inr y => XIglidepathref01_Sum_0b y)
noncomputable abbrev Lglidepathref01_Sum_0 : Q → Option Yglidepathref01_Sum_0 := lpO env a17.body 0 XLglidepathref01_Sum_0
noncomputable abbrev Rglidepathref01_Sum_0 : Q → Option (Ext × S) := lpR env a17.body 0
theorem Lglidepathref01_Sum_0a_of {s : Q} {y : Unit} (h : Rglidepathref01_Sum_0 s = exO (Xglidepathref01_Sum_0a y)) : Lglidepathref01_Sum_0 s = some (Sum.inl y) := lpO_of Iglidepathref01_Sum_0 XIglidepathref01_Sum_0 (y := (Sum.inl y)) h
theorem Lglidepathref01_Sum_0b_of {s : Q} {y : Nat × List PV × Nat} (h : Rglidepathref01_Sum_0 s = exO (Xglidepathref01_Sum_0b y)) : Lglidepathref01_Sum_0 s = some (Sum.inr y) := lpO_of Iglidepathref01_Sum_0 XIglidepathref01_Sum_0 (y := (Sum.inr y)) h
theorem Uglidepathref01_Sum : uniq ((blocksOf a17.body).map (·.1)) = true := by kernel_rfl
def Bglidepathref01_Sum_0a (F : FnT) (N : Q → Option (Ext × S)) (E : Ext × Q → Option (Ext × S)) (L0 : Q → Option Yglidepathref01_Sum_0) (n0 : Nat) (c1 : List PV) (n2 : Nat) (c3 : List PV) (i4 : Int) : Option (Ext × S) :=
  bif (decide ((0 : Int) < (n0 : Int))) then
    bif (decide (((0 : Int) ≤ (0 : Int)) ∧ ((0 : Int) < (n0 : Int)))) then
      bindO (intC IntKind.i64 (c1[0]?)) fun x0 =>
      bif (decide (((0 : Int) ≤ (0 : Int)) ∧ ((0 : Int) < (n2 : Int)))) then
        bindO (intC IntKind.i64 (c3[0]?)) fun x1 =>
        N (Tglidepathref01_Sum_0b n0 c1 n2 c3 i4 1 [(PV.int IntKind.i64 (w64 (x0 + (w64 (i4 * x1)))))] (1 : Int) 1)
      else none
    else none
  else E (Xglidepathref01_Sum_0a ())
theorem Bglidepathref01_Sum_0a_eq (F : FnT) (N : Q → Option (Ext × S)) (E : Ext × Q → Option (Ext × S)) (L0 : Q → Option Yglidepathref01_Sum_0) (n0 : Nat) (c1 : List PV) (n2 : Nat) (c3 : List PV) (i4 : Int) : semB (callP F Eglidepathref01_Sum 20) s17 (loopT [⟨0, Yglidepathref01_Sum_0, L0, XLglidepathref01_Sum_0⟩]) 400 (blkIn a17.body 0) N E (Tglidepathref01_Sum_0a n0 c1 n2 c3 i4) = Bglidepathref01_Sum_0a F N E L0 n0 c1 n2 c3 i4 := by kernel_rfl
theorem Rglidepathref01_Sum_0a_of  (n0 : Nat) (c1 : List PV) (n2 : Nat) (c3 : List PV) (i4 : Int) {r : Ext × S} (h : Bglidepathref01_Sum_0a (Fn env) Rglidepathref01_Sum_0 exO Lglidepathref01_Sum_0 n0 c1 n2 c3 i4 = some r) : Rglidepathref01_Sum_0 (Tglidepathref01_Sum_0a n0 c1 n2 c3 i4) = some r :=
  lp_of Eglidepathref01_Sum_ok (by kernel_rfl) (lo_cons (lpO_ok Uglidepathref01_Sum) lo_nil) (by kernel_rfl) ((Bglidepathref01_Sum_0a_eq _ _ _ _ _ _ _ _ _).trans h)
def Bglidepathref01_Sum_0b (F : FnT) (N : Q → Option (Ext × S)) (E : Ext × Q → Option (Ext × S)) (L0 : Q → Option Yglidepathref01_Sum_0) (n0 : Nat) (c1 : List PV) (n2 : Nat) (c3 : List PV) (i4 : Int) (n5 : Nat) (c6 : List PV) (i7 : Int) (n8 : Nat) : Option (Ext × S) :=
  bif (decide (i7 < (n0 : Int))) then
    bif (decide (((0 : Int) ≤ i7) ∧ (i7 < (n0 : Int)))) then
      bindO (intC IntKind.i64 (c1[((Int.toNat i7) * 1)]?)) fun x0 =>
      bif (decide (((0 : Int) ≤ i7) ∧ (i7 < (n2 : Int)))) then
        bindO (intC IntKind.i64 (c3[((Int.toNat i7) * 1)]?)) fun x1 =>
        bif (decide ((n8 = n5) ∧ ((n5 + 1) ≤ big))) then
          N (Tglidepathref01_Sum_0b n0 c1 n2 c3 i4 (n5 + 1) (c6 ++ [(PV.int IntKind.i64 (w64 (x0 + (w64 (i4 * x1)))))]) (w64 (i7 + (1 : Int))) (n5 + 1))
        else none
      else none
    else none
  else E (Xglidepathref01_Sum_0b (n5, c6, n8))
theorem Bglidepathref01_Sum_0b_eq (F : FnT) (N : Q → Option (Ext × S)) (E : Ext × Q → Option (Ext × S)) (L0 : Q → Option Yglidepathref01_Sum_0) (n0 : Nat) (c1 : List PV) (n2 : Nat) (c3 : List PV) (i4 : Int) (n5 : Nat) (c6 : List PV) (i7 : Int) (n8 : Nat) : semB (callP F Eglidepathref01_Sum 20) s17 (loopT [⟨0, Yglidepathref01_Sum_0, L0, XLglidepathref01_Sum_0⟩]) 400 (blkIn a17.body 0) N E (Tglidepathref01_Sum_0b n0 c1 n2 c3 i4 n5 c6 i7 n8) = Bglidepathref01_Sum_0b F N E L0 n0 c1 n2 c3 i4 n5 c6 i7 n8 := by kernel_rfl
theorem Rglidepathref01_Sum_0b_of  (n0 : Nat) (c1 : List PV) (n2 : Nat) (c3 : List PV) (i4 : Int) (n5 : Nat) (c6 : List PV) (i7 : Int) (n8 : Nat) {r : Ext × S} (h : Bglidepathref01_Sum_0b (Fn env) Rglidepathref01_Sum_0 exO Lglidepathref01_Sum_0 n0 c1 n2 c3 i4 n5 c6 i7 n8 = some r) : Rglidepathref01_Sum_0 (Tglidepathref01_Sum_0b n0 c1 n2 c3 i4 n5 c6 i7 n8) = some r :=
  lp_of Eglidepathref01_Sum_ok (by kernel_rfl) (lo_cons (lpO_ok Uglidepathref01_Sum) lo_nil) (by kernel_rfl) ((Bglidepathref01_Sum_0b_eq _ _ _ _ _ _ _ _ _ _ _ _ _).trans h)
def tglidepathref01_Sum (F : FnT) (L0 : Q → Option Yglidepathref01_Sum_0) (p0n : Nat) (p0c : List PV) (p1n : Nat) (p1c : List PV) (p2 : Int) : Option ((Nat) × (List PV)) :=
  bindO (L0 (Tglidepathref01_Sum_0a p0n p0c p1n p1c p2)) fun z =>
  Sum.elim (fun y0 =>
    some (0, [])) (fun y1 =>
    bif (decide (y1.2.2 = y1.1)) then
      some (y1.1, y1.2.1)
    else none) z
theorem tglidepathref01_Sum_eq (F : FnT) (L0 : Q → Option Yglidepathref01_Sum_0) (p0n : Nat) (p0c : List PV) (p1n : Nat) (p1c : List PV) (p2 : Int) : semF (callP F Eglidepathref01_Sum 20) s17 (loopT [⟨0, Yglidepathref01_Sum_0, L0, XLglidepathref01_Sum_0⟩]) 400 a17 [PV.list p0n p0c, PV.list p1n p1c, PV.int IntKind.i64 p2] (fun rv => decR (RSh.one CK.list) rv.pv) = tglidepathref01_Sum F L0 p0n p0c p1n p1c p2 := by kernel_rfl
noncomputable abbrev Fglidepathref01_Sum (args : List PV) := Fn env 17 (RSh.one CK.list) args
theorem Fglidepathref01_Sum_of  (p0n : Nat) (p0c : List PV) (p1n : Nat) (p1c : List PV) (p2 : Int) {res : ((Nat) × (List PV))} (h : tglidepathref01_Sum (Fn env) Lglidepathref01_Sum_0 p0n p0c p1n p1c p2 = some res) : Fglidepathref01_Sum [PV.list p0n p0c, PV.list p1n p1c, PV.int IntKind.i64 p2] = some res :=
  fn_of Eglidepathref01_Sum_ok rfl rfl (lo_cons (lpO_ok Uglidepathref01_Sum) lo_nil) ((tglidepathref01_Sum_eq _ _ _ _ _ _ _).trans h)

end Gv
