/- What the functions do, round by round: M9. -/
import Derived.Test.YtdbnojfklmfniaaM2
namespace Gv
open Go
set_option maxRecDepth 100000

/-! ### line_gatesError -/

def Eline_gatesError : List Entry := [.out 54 (RSh.one (CK.int IntKind.i64))]
theorem Eline_gatesError_ok : ∀ e ∈ Eline_gatesError, EntOK env e := (ent_out ent_nil)
def Tline_gatesError_0a (n0 : Nat) (c1 : List PV) (i2 : Int) (i3 : Int) : Q := ⟨(tm 21 [(9, (AV.p (PV.list n0 c1))), (10, (AV.p (PV.int IntKind.i64 i2))), (11, (AV.p (PV.int IntKind.i64 i3)))]), (mm 21 [])⟩
def Xline_gatesError_0a (y : Int) : Ext × Q := (Ext.ret, ⟨(tm 21 [(2, (AV.p (PV.int IntKind.i64 y)))]), (mm 21 [])⟩)
def Iline_gatesError_0a (q : Ext × S) : Int := (pP_int1 (pA_p (avT q.2 2)))
def Xline_gatesError_0b (_y : Unit) : Ext × Q := (Ext.normal, ⟨(tm 21 []), (mm 21 [])⟩)
def Iline_gatesError_0b (_q : Ext × S) : Unit := ()
abbrev Yline_gatesError_0 : Type := (Int) ⊕ ((Unit))
def XLline_gatesError_0 : XL Yline_gatesError_0 := .more Xline_gatesError_0a (.one Xline_gatesError_0b)
def Iline_gatesError_0 (q : Ext × S) : Yline_gatesError_0 := bif (cE q.1 == 2) then (Sum.inl (Iline_gatesError_0a q)) else (Sum.inr (Iline_gatesError_0b q))
theorem XIline_gatesError_0a (y : Int) : Iline_gatesError_0 (xe (Xline_gatesError_0a y)) = (Sum.inl y) := rfl
theorem XIline_gatesError_0b (y : Unit) : Iline_gatesError_0 (xe (Xline_gatesError_0b y)) = (Sum.inr y) := rfl
theorem XIline_gatesError_0 (y : Yline_gatesError_0) : Iline_gatesError_0 (xe (XLline_gatesError_0.fn y)) = y := (match y with | .inl y => XIline_gatesError_0a y | .inr y => XIline_gatesError_0b y)
noncomputable abbrev Lline_gatesError_0 : Q → Option Yline_gatesError_0 := lpO env a85.body 0 XLline_gatesError_0
noncomputable abbrev Rline_gatesError_0 : Q → Option (Ext × S) := lpR env a85.body 0
theorem Lline_gatesError_0a_of {s : Q} {y : Int} (h : Rline_gatesError_0 s = exO (Xline_gatesError_0a y)) : Lline_gatesError_0 s = some (Sum.inl y) := lpO_of Iline_gatesError_0 XIline_gatesError_0 (y := (Sum.inl y)) h
theorem Lline_gatesError_0b_of {s : Q} {y : Unit} (h : Rline_gatesError_0 s = exO (Xline_gatesError_0b y)) : Lline_gatesError_0 s = some (Sum.inr y) := lpO_of Iline_gatesError_0 XIline_gatesError_0 (y := (Sum.inr y)) h
theorem Uline_gatesError : uniq ((blocksOf a85.body).map (·.1)) = true := by kernel_rfl
def Bline_gatesError_0a (F : FnT) (N : Q → Option (Ext × S)) (E : Ext × Q → Option (Ext × S)) (_L0 : Q → Option Yline_gatesError_0) (n0 : Nat) (c1 : List PV) (i2 : Int) (i3 : Int) : Option (Ext × S) :=
  bif (decide (i3 < i2)) then
    bif (decide (((0 : Int) ≤ i3) ∧ (i3 < (n0 : Int)))) then
      bindO (listC (c1[((Int.toNat i3) * 1)]?)) fun x0 =>
      bindO (F 54 (RSh.one (CK.int IntKind.i64)) [(PV.list x0.1 x0.2)]) fun (y1 : (Int)) =>
      bif (y1 != (0 : Int)) then
        E (Xline_gatesError_0a y1)
      else N (Tline_gatesError_0a n0 c1 i2 (w64 (i3 + (1 : Int))))
    else none
  else E (Xline_gatesError_0b ())
theorem Bline_gatesError_0a_eq (F : FnT) (N : Q → Option (Ext × S)) (E : Ext × Q → Option (Ext × S)) (L0 : Q → Option Yline_gatesError_0) (n0 : Nat) (c1 : List PV) (i2 : Int) (i3 : Int) : semB (callP F Eline_gatesError 20) s85 (loopT [⟨0, Yline_gatesError_0, L0, XLline_gatesError_0⟩]) 400 (blkIn a85.body 0) N E (Tline_gatesError_0a n0 c1 i2 i3) = Bline_gatesError_0a F N E L0 n0 c1 i2 i3 := by kernel_rfl
theorem Rline_gatesError_0a_of  (n0 : Nat) (c1 : List PV) (i2 : Int) (i3 : Int) {r : Ext × S} (h : Bline_gatesError_0a (Fn env) Rline_gatesError_0 exO Lline_gatesError_0 n0 c1 i2 i3 = some r) : Rline_gatesError_0 (Tline_gatesError_0a n0 c1 i2 i3) = some r :=
  lp_of Eline_gatesError_ok (by kernel_rfl) (lo_cons (lpO_ok Uline_gatesError) lo_nil) (by kernel_rfl) ((Bline_gatesError_0a_eq _ _ _ _ _ _ _ _).trans h)
def tline_gatesError (_F : FnT) (L0 : Q → Option Yline_gatesError_0) (p0n : Nat) (p0c : List PV) : Option (Int) :=
  bif (decide ((p0n : Int) > (20 : Int))) then
    some (8 : Int)
  else bindO (L0 (Tline_gatesError_0a p0n p0c (p0n : Int) (0 : Int))) fun z =>
  Sum.elim (fun y0 =>
    some y0) (fun _y1 =>
    some (0 : Int)) z
theorem tline_gatesError_eq (F : FnT) (L0 : Q → Option Yline_gatesError_0) (p0n : Nat) (p0c : List PV) : semF (callP F Eline_gatesError 20) s85 (loopT [⟨0, Yline_gatesError_0, L0, XLline_gatesError_0⟩]) 400 a85 [PV.list p0n p0c] (fun rv => decR (RSh.one (CK.int IntKind.i64)) rv.pv) = tline_gatesError F L0 p0n p0c := by kernel_rfl
noncomputable abbrev Fline_gatesError (args : List PV) := Fn env 85 (RSh.one (CK.int IntKind.i64)) args
theorem Fline_gatesError_of  (p0n : Nat) (p0c : List PV) {res : (Int)} (h : tline_gatesError (Fn env) Lline_gatesError_0 p0n p0c = some res) : Fline_gatesError [PV.list p0n p0c] = some res :=
  fn_of Eline_gatesError_ok rfl rfl (lo_cons (lpO_ok Uline_gatesError) lo_nil) ((tline_gatesError_eq _ _ _ _).trans h)

/-! ### line_hardError -/

def Eline_hardError : List Entry := [.out 92 (RSh.one (CK.int IntKind.i64)), .out 56 (RSh.one (CK.int IntKind.i64))]
theorem Eline_hardError_ok : ∀ e ∈ Eline_hardError, EntOK env e := (ent_out (ent_out ent_nil))
theorem Uline_hardError : uniq ((blocksOf a86.body).map (·.1)) = true := by kernel_rfl
def tline_hardError (F : FnT) (p0_0 : Int) (p0_1 : Int) (p0_2 : Int) (p0_3 : Int) : Option (Int) :=
  bindO (F 92 (RSh.one (CK.int IntKind.i64)) [(PV.int IntKind.i64 p0_0), (PV.int IntKind.i64 (0 : Int)), (PV.int IntKind.i64 (15 : Int))]) fun (y0 : (Int)) =>
  bindO (F 92 (RSh.one (CK.int IntKind.i64)) [(PV.int IntKind.i64 p0_1), (PV.int IntKind.i64 (0 : Int)), (PV.int IntKind.i64 (16 : Int))]) fun (y1 : (Int)) =>
  bindO (F 92 (RSh.one (CK.int IntKind.i64)) [(PV.int IntKind.i64 p0_2), (PV.int IntKind.i64 (0 : Int)), (PV.int IntKind.i64 (160000 : Int))]) fun (y2 : (Int)) =>
  bindO (F 92 (RSh.one (CK.int IntKind.i64)) [(PV.int IntKind.i64 p0_3), (PV.int IntKind.i64 (0 : Int)), (PV.int IntKind.i64 (100 : Int))]) fun (y3 : (Int)) =>
  bindO (F 56 (RSh.one (CK.int IntKind.i64)) [(PV.list 4 [(PV.int IntKind.i64 y0), (PV.int IntKind.i64 y1), (PV.int IntKind.i64 y2), (PV.int IntKind.i64 y3)])]) fun (y4 : (Int)) =>
  some y4
theorem tline_hardError_eq (F : FnT) (p0_0 : Int) (p0_1 : Int) (p0_2 : Int) (p0_3 : Int) : semF (callP F Eline_hardError 20) s86 (loopT []) 400 a86 [PV.agg [PV.int IntKind.i64 p0_0, PV.int IntKind.i64 p0_1, PV.int IntKind.i64 p0_2, PV.int IntKind.i64 p0_3]] (fun rv => decR (RSh.one (CK.int IntKind.i64)) rv.pv) = tline_hardError F p0_0 p0_1 p0_2 p0_3 := by kernel_rfl
noncomputable abbrev Fline_hardError (args : List PV) := Fn env 86 (RSh.one (CK.int IntKind.i64)) args
theorem Fline_hardError_of  (p0_0 : Int) (p0_1 : Int) (p0_2 : Int) (p0_3 : Int) {res : (Int)} (h : tline_hardError (Fn env) p0_0 p0_1 p0_2 p0_3 = some res) : Fline_hardError [PV.agg [PV.int IntKind.i64 p0_0, PV.int IntKind.i64 p0_1, PV.int IntKind.i64 p0_2, PV.int IntKind.i64 p0_3]] = some res :=
  fn_of Eline_hardError_ok rfl rfl lo_nil ((tline_hardError_eq _ _ _ _ _).trans h)

/-! ### line_isHard -/

def Eline_isHard : List Entry := [.inl 119 a119 s119, .inl 118 a118 s118, .out 117 (RSh.tup [(Prod.mk false [(CK.int IntKind.i64)]), (Prod.mk false [(CK.int IntKind.i64)])])]
theorem Eline_isHard_ok : ∀ e ∈ Eline_isHard, EntOK env e := (ent_inl rfl (ent_inl rfl (ent_out ent_nil)))
theorem Uline_isHard : uniq ((blocksOf a89.body).map (·.1)) = true := by kernel_rfl
def tline_isHard (F : FnT) (p0n : Nat) (p0c : List PV) (p1_0 : Int) (p1_1 : Int) (p1_2 : Int) (p1_3 : Int) : Option (Bool) :=
  bindO (F 117 (RSh.tup [(Prod.mk false [(CK.int IntKind.i64)]), (Prod.mk false [(CK.int IntKind.i64)])]) [(PV.fn 122 [(PV.imm [(PV.list p0n p0c)] 0)])]) fun (y0 : ((Int) × (Int))) =>
  bindO (F 117 (RSh.tup [(Prod.mk false [(CK.int IntKind.i64)]), (Prod.mk false [(CK.int IntKind.i64)])]) [(PV.fn 123 [(PV.imm [(PV.int IntKind.i64 p1_0)] 0), (PV.imm [(PV.int IntKind.i64 p1_1)] 0), (PV.imm [(PV.list p0n p0c)] 0)])]) fun (y1 : ((Int) × (Int))) =>
  bif (decide (y1.1 ≥ p1_2)) then
    bif (decide ((w64 ((100 : Int) * y1.1)) ≥ (w64 (p1_3 * y0.1)))) then
      some true
    else some false
  else some false
theorem tline_isHard_eq (F : FnT) (p0n : Nat) (p0c : List PV) (p1_0 : Int) (p1_1 : Int) (p1_2 : Int) (p1_3 : Int) : semF (callP F Eline_isHard 20) s89 (loopT []) 400 a89 [PV.list p0n p0c, PV.agg [PV.int IntKind.i64 p1_0, PV.int IntKind.i64 p1_1, PV.int IntKind.i64 p1_2, PV.int IntKind.i64 p1_3]] (fun rv => decR (RSh.one CK.bool) rv.pv) = tline_isHard F p0n p0c p1_0 p1_1 p1_2 p1_3 := by kernel_rfl
noncomputable abbrev Fline_isHard (args : List PV) := Fn env 89 (RSh.one CK.bool) args
theorem Fline_isHard_of  (p0n : Nat) (p0c : List PV) (p1_0 : Int) (p1_1 : Int) (p1_2 : Int) (p1_3 : Int) {res : (Bool)} (h : tline_isHard (Fn env) p0n p0c p1_0 p1_1 p1_2 p1_3 = some res) : Fline_isHard [PV.list p0n p0c, PV.agg [PV.int IntKind.i64 p1_0, PV.int IntKind.i64 p1_1, PV.int IntKind.i64 p1_2, PV.int IntKind.i64 p1_3]] = some res :=
  fn_of Eline_isHard_ok rfl rfl lo_nil ((tline_isHard_eq _ _ _ _ _ _ _).trans h)

/-! ### line_HardIn_1 -/

def Eline_HardIn_1 : List Entry := [.out 89 (RSh.one CK.bool)]
theorem Eline_HardIn_1_ok : ∀ e ∈ Eline_HardIn_1, EntOK env e := (ent_out ent_nil)
theorem Uline_HardIn_1 : uniq ((blocksOf a88.body).map (·.1)) = true := by kernel_rfl
def tline_HardIn_1 (F : FnT)(i : Int) (n : Nat) (cs : List PV) (z w p q : Int) : Option (Bool) :=
  bif (decide (((0 : Int) ≤ i) ∧ (i < ((Prod.mk n cs).1 : Int)))) then
    bindO (listC ((Prod.mk n cs).2[((Int.toNat i) * 1)]?)) fun x0 =>
    bindO (F 89 (RSh.one CK.bool) [(PV.list x0.1 x0.2), (PV.agg [(PV.int IntKind.i64 z), (PV.int IntKind.i64 w), (PV.int IntKind.i64 p), (PV.int IntKind.i64 q)])]) fun (y1 : (Bool)) =>
    bif y1 then
      some true
    else some false
  else none
theorem tline_HardIn_1_eq (F : FnT)(i : Int) (n : Nat) (cs : List PV) (z w p q : Int) : semF (callP F Eline_HardIn_1 20) s88 (loopT []) 400 a88 [.int .i64 i, .imm [.list n cs] 0, .imm [.int .i64 z, .int .i64 w, .int .i64 p, .int .i64 q] 0] (fun rv => decR (RSh.one CK.bool) rv.pv) = tline_HardIn_1 F i n cs z w p q := by kernel_rfl
noncomputable abbrev Fline_HardIn_1 (args : List PV) := Fn env 88 (RSh.one CK.bool) args
theorem Fline_HardIn_1_of (i : Int) (n : Nat) (cs : List PV) (z w p q : Int) {res : (Bool)} (h : tline_HardIn_1 (Fn env) i n cs z w p q = some res) : Fline_HardIn_1 [.int .i64 i, .imm [.list n cs] 0, .imm [.int .i64 z, .int .i64 w, .int .i64 p, .int .i64 q] 0] = some res :=
  fn_of Eline_HardIn_1_ok rfl rfl lo_nil ((tline_HardIn_1_eq _ _ _ _ _ _ _ _).trans h)

/-! ### line_indexesWith_hard -/

def Eline_indexesWith_hard : List Entry := [.out 88 (RSh.one CK.bool)]
theorem Eline_indexesWith_hard_ok : ∀ e ∈ Eline_indexesWith_hard, EntOK env e := (ent_out ent_nil)
def Tline_indexesWith_hard_0a (n0 : Nat) (c1 : List PV) (i2 : Int) (i3 : Int) (i4 : Int) (i5 : Int) (i6 : Int) (i7 : Int) : Q := ⟨(tm 20 [(1, (AV.p (PV.fn 88 [(PV.imm [(PV.list n0 c1)] 0), (PV.imm [(PV.int IntKind.i64 i2), (PV.int IntKind.i64 i3), (PV.int IntKind.i64 i4), (PV.int IntKind.i64 i5)] 0)]))), (5, AV.nilS), (7, (AV.p (PV.int IntKind.i64 i6))), (8, (AV.p (PV.int IntKind.i64 i7)))]), (mm 20 [])⟩
def Tline_indexesWith_hard_0b (n0 : Nat) (c1 : List PV) (i2 : Int) (i3 : Int) (i4 : Int) (i5 : Int) (n6 : Nat) (c7 : List PV) (i8 : Int) (i9 : Int) (n10 : Nat) : Q := ⟨(tm 20 [(1, (AV.p (PV.fn 88 [(PV.imm [(PV.list n0 c1)] 0), (PV.imm [(PV.int IntKind.i64 i2), (PV.int IntKind.i64 i3), (PV.int IntKind.i64 i4), (PV.int IntKind.i64 i5)] 0)]))), (5, (AV.app 17 n6 1 c7)), (7, (AV.p (PV.int IntKind.i64 i8))), (8, (AV.p (PV.int IntKind.i64 i9)))]), (mm 20 [(17, (Bk.buf n10))])⟩
def Xline_indexesWith_hard_0a (_y : Unit) : Ext × Q := (Ext.normal, ⟨(tm 20 [(5, AV.nilS)]), (mm 20 [])⟩)
def Iline_indexesWith_hard_0a (_q : Ext × S) : Unit := ()
def Xline_indexesWith_hard_0b (y : Nat × List PV × Nat) : Ext × Q := (Ext.normal, ⟨(tm 20 [(5, (AV.app 17 y.1 1 y.2.1))]), (mm 20 [(17, (Bk.buf y.2.2))])⟩)
def Iline_indexesWith_hard_0b (q : Ext × S) : Nat × List PV × Nat := ((pA_app1 (avT q.2 5)), (pA_app3 (avT q.2 5)), (pB_buf0 (avM q.2 17)))
abbrev Yline_indexesWith_hard_0 : Type := (Unit) ⊕ ((Nat × List PV × Nat))
def XLline_indexesWith_hard_0 : XL Yline_indexesWith_hard_0 := .more Xline_indexesWith_hard_0a (.one Xline_indexesWith_hard_0b)
def Iline_indexesWith_hard_0 (q : Ext × S) : Yline_indexesWith_hard_0 := bif (cA (avT q.2 5) == 1) then (Sum.inl (Iline_indexesWith_hard_0a q)) else (Sum.inr (Iline_indexesWith_hard_0b q))
theorem XIline_indexesWith_hard_0a (y : Unit) : Iline_indexesWith_hard_0 (xe (Xline_indexesWith_hard_0a y)) = (Sum.inl y) := rfl
theorem XIline_indexesWith_hard_0b (y : Nat × List PV × Nat) : Iline_indexesWith_hard_0 (xe (Xline_indexesWith_hard_0b y)) = (Sum.inr y) := rfl
theorem XIline_indexesWith_hard_0 (y : Yline_indexesWith_hard_0) : Iline_indexesWith_hard_0 (xe (XLline_indexesWith_hard_0.fn y)) = y := (match y with | .inl y => XIline_indexesWith_hard_0a y | .inr y => XIline_indexesWith_hard_0b y)
noncomputable abbrev Lline_indexesWith_hard_0 : Q → Option Yline_indexesWith_hard_0 := lpO env a87.body 0 XLline_indexesWith_hard_0
noncomputable abbrev Rline_indexesWith_hard_0 : Q → Option (Ext × S) := lpR env a87.body 0
theorem Lline_indexesWith_hard_0a_of {s : Q} {y : Unit} (h : Rline_indexesWith_hard_0 s = exO (Xline_indexesWith_hard_0a y)) : Lline_indexesWith_hard_0 s = some (Sum.inl y) := lpO_of Iline_indexesWith_hard_0 XIline_indexesWith_hard_0 (y := (Sum.inl y)) h
theorem Lline_indexesWith_hard_0b_of {s : Q} {y : Nat × List PV × Nat} (h : Rline_indexesWith_hard_0 s = exO (Xline_indexesWith_hard_0b y)) : Lline_indexesWith_hard_0 s = some (Sum.inr y) := lpO_of Iline_indexesWith_hard_0 XIline_indexesWith_hard_0 (y := (Sum.inr y)) h
theorem Uline_indexesWith_hard : uniq ((blocksOf a87.body).map (·.1)) = true := by kernel_rfl
def Bline_indexesWith_hard_0a (F : FnT) (N : Q → Option (Ext × S)) (E : Ext × Q → Option (Ext × S)) (_L0 : Q → Option Yline_indexesWith_hard_0) (n0 : Nat) (c1 : List PV) (i2 : Int) (i3 : Int) (i4 : Int) (i5 : Int) (i6 : Int) (i7 : Int) : Option (Ext × S) :=
  bif (decide (i7 < i6)) then
    bindO (F 88 (RSh.one CK.bool) [(PV.int IntKind.i64 i7), (PV.imm [(PV.list n0 c1)] 0), (PV.imm [(PV.int IntKind.i64 i2), (PV.int IntKind.i64 i3), (PV.int IntKind.i64 i4), (PV.int IntKind.i64 i5)] 0)]) fun (y0 : (Bool)) =>
    bif y0 then
      N (Tline_indexesWith_hard_0b n0 c1 i2 i3 i4 i5 1 [(PV.int IntKind.i64 i7)] i6 (w64 (i7 + (1 : Int))) 1)
    else N (Tline_indexesWith_hard_0a n0 c1 i2 i3 i4 i5 i6 (w64 (i7 + (1 : Int))))
  else E (Xline_indexesWith_hard_0a ())
theorem Bline_indexesWith_hard_0a_eq (F : FnT) (N : Q → Option (Ext × S)) (E : Ext × Q → Option (Ext × S)) (L0 : Q → Option Yline_indexesWith_hard_0) (n0 : Nat) (c1 : List PV) (i2 : Int) (i3 : Int) (i4 : Int) (i5 : Int) (i6 : Int) (i7 : Int) : semB (callP F Eline_indexesWith_hard 20) s87 (loopT [⟨0, Yline_indexesWith_hard_0, L0, XLline_indexesWith_hard_0⟩]) 400 (blkIn a87.body 0) N E (Tline_indexesWith_hard_0a n0 c1 i2 i3 i4 i5 i6 i7) = Bline_indexesWith_hard_0a F N E L0 n0 c1 i2 i3 i4 i5 i6 i7 := by kernel_rfl
theorem Rline_indexesWith_hard_0a_of  (n0 : Nat) (c1 : List PV) (i2 : Int) (i3 : Int) (i4 : Int) (i5 : Int) (i6 : Int) (i7 : Int) {r : Ext × S} (h : Bline_indexesWith_hard_0a (Fn env) Rline_indexesWith_hard_0 exO Lline_indexesWith_hard_0 n0 c1 i2 i3 i4 i5 i6 i7 = some r) : Rline_indexesWith_hard_0 (Tline_indexesWith_hard_0a n0 c1 i2 i3 i4 i5 i6 i7) = some r :=
  lp_of Eline_indexesWith_hard_ok (by kernel_rfl) (lo_cons (lpO_ok Uline_indexesWith_hard) lo_nil) (by kernel_rfl) ((Bline_indexesWith_hard_0a_eq _ _ _ _ _ _ _ _ _ _ _ _).trans h)
def Bline_indexesWith_hard_0b (F : FnT) (N : Q → Option (Ext × S)) (E : Ext × Q → Option (Ext × S)) (_L0 : Q → Option Yline_indexesWith_hard_0) (n0 : Nat) (c1 : List PV) (i2 : Int) (i3 : Int) (i4 : Int) (i5 : Int) (n6 : Nat) (c7 : List PV) (i8 : Int) (i9 : Int) (n10 : Nat) : Option (Ext × S) :=
  bif (decide (i9 < i8)) then
    bindO (F 88 (RSh.one CK.bool) [(PV.int IntKind.i64 i9), (PV.imm [(PV.list n0 c1)] 0), (PV.imm [(PV.int IntKind.i64 i2), (PV.int IntKind.i64 i3), (PV.int IntKind.i64 i4), (PV.int IntKind.i64 i5)] 0)]) fun (y0 : (Bool)) =>
    bif y0 then
      bif (decide ((n10 = n6) ∧ ((n6 + 1) ≤ big))) then
        N (Tline_indexesWith_hard_0b n0 c1 i2 i3 i4 i5 (n6 + 1) (c7 ++ [(PV.int IntKind.i64 i9)]) i8 (w64 (i9 + (1 : Int))) (n6 + 1))
      else none
    else N (Tline_indexesWith_hard_0b n0 c1 i2 i3 i4 i5 n6 c7 i8 (w64 (i9 + (1 : Int))) n10)
  else E (Xline_indexesWith_hard_0b (n6, c7, n10))
theorem Bline_indexesWith_hard_0b_eq (F : FnT) (N : Q → Option (Ext × S)) (E : Ext × Q → Option (Ext × S)) (L0 : Q → Option Yline_indexesWith_hard_0) (n0 : Nat) (c1 : List PV) (i2 : Int) (i3 : Int) (i4 : Int) (i5 : Int) (n6 : Nat) (c7 : List PV) (i8 : Int) (i9 : Int) (n10 : Nat) : semB (callP F Eline_indexesWith_hard 20) s87 (loopT [⟨0, Yline_indexesWith_hard_0, L0, XLline_indexesWith_hard_0⟩]) 400 (blkIn a87.body 0) N E (Tline_indexesWith_hard_0b n0 c1 i2 i3 i4 i5 n6 c7 i8 i9 n10) = Bline_indexesWith_hard_0b F N E L0 n0 c1 i2 i3 i4 i5 n6 c7 i8 i9 n10 := by kernel_rfl
theorem Rline_indexesWith_hard_0b_of  (n0 : Nat) (c1 : List PV) (i2 : Int) (i3 : Int) (i4 : Int) (i5 : Int) (n6 : Nat) (c7 : List PV) (i8 : Int) (i9 : Int) (n10 : Nat) {r : Ext × S} (h : Bline_indexesWith_hard_0b (Fn env) Rline_indexesWith_hard_0 exO Lline_indexesWith_hard_0 n0 c1 i2 i3 i4 i5 n6 c7 i8 i9 n10 = some r) : Rline_indexesWith_hard_0 (Tline_indexesWith_hard_0b n0 c1 i2 i3 i4 i5 n6 c7 i8 i9 n10) = some r :=
  lp_of Eline_indexesWith_hard_ok (by kernel_rfl) (lo_cons (lpO_ok Uline_indexesWith_hard) lo_nil) (by kernel_rfl) ((Bline_indexesWith_hard_0b_eq _ _ _ _ _ _ _ _ _ _ _ _ _ _ _).trans h)
def tline_indexesWith_hard (_F : FnT) (L0 : Q → Option Yline_indexesWith_hard_0)(m : Int) (n : Nat) (cs : List PV) (z w p q : Int) : Option ((Nat) × (List PV)) :=
  bindO (L0 (Tline_indexesWith_hard_0a n cs z w p q m (0 : Int))) fun z =>
  Sum.elim (fun _y0 =>
    some (0, [])) (fun y1 =>
    bif (decide (y1.2.2 = y1.1)) then
      some (y1.1, y1.2.1)
    else none) z
theorem tline_indexesWith_hard_eq (F : FnT) (L0 : Q → Option Yline_indexesWith_hard_0)(m : Int) (n : Nat) (cs : List PV) (z w p q : Int) : semF (callP F Eline_indexesWith_hard 20) s87 (loopT [⟨0, Yline_indexesWith_hard_0, L0, XLline_indexesWith_hard_0⟩]) 400 a87 [.int .i64 m, .fn 88 [.imm [.list n cs] 0, .imm [.int .i64 z, .int .i64 w, .int .i64 p, .int .i64 q] 0]] (fun rv => decR (RSh.one CK.list) rv.pv) = tline_indexesWith_hard F L0 m n cs z w p q := by kernel_rfl
noncomputable abbrev Fline_indexesWith_hard (args : List PV) := Fn env 87 (RSh.one CK.list) args
theorem Fline_indexesWith_hard_of (m : Int) (n : Nat) (cs : List PV) (z w p q : Int) {res : ((Nat) × (List PV))} (h : tline_indexesWith_hard (Fn env) Lline_indexesWith_hard_0 m n cs z w p q = some res) : Fline_indexesWith_hard [.int .i64 m, .fn 88 [.imm [.list n cs] 0, .imm [.int .i64 z, .int .i64 w, .int .i64 p, .int .i64 q] 0]] = some res :=
  fn_of Eline_indexesWith_hard_ok rfl rfl (lo_cons (lpO_ok Uline_indexesWith_hard) lo_nil) ((tline_indexesWith_hard_eq _ _ _ _ _ _ _ _ _).trans h)

/-! ### line_HardIn -/

def Eline_HardIn : List Entry := [.out 85 (RSh.one (CK.int IntKind.i64)), .out 86 (RSh.one (CK.int IntKind.i64)), .out 56 (RSh.one (CK.int IntKind.i64)), .out 87 (RSh.one CK.list)]
theorem Eline_HardIn_ok : ∀ e ∈ Eline_HardIn, EntOK env e := (ent_out (ent_out (ent_out (ent_out ent_nil))))
theorem Uline_HardIn : uniq ((blocksOf a43.body).map (·.1)) = true := by kernel_rfl
def tline_HardIn (F : FnT) (p0n : Nat) (p0c : List PV) (p1_0 : Int) (p1_1 : Int) (p1_2 : Int) (p1_3 : Int) : Option (((Nat) × (List PV)) × (Int)) :=
  bindO (F 85 (RSh.one (CK.int IntKind.i64)) [(PV.list p0n p0c)]) fun (y0 : (Int)) =>
  bindO (F 86 (RSh.one (CK.int IntKind.i64)) [(PV.agg [(PV.int IntKind.i64 p1_0), (PV.int IntKind.i64 p1_1), (PV.int IntKind.i64 p1_2), (PV.int IntKind.i64 p1_3)])]) fun (y1 : (Int)) =>
  bindO (F 56 (RSh.one (CK.int IntKind.i64)) [(PV.list 2 [(PV.int IntKind.i64 y0), (PV.int IntKind.i64 y1)])]) fun (y2 : (Int)) =>
  bif (y2 != (0 : Int)) then
    some ((0, []), y2)
  else bindO (F 87 (RSh.one CK.list) [(PV.int IntKind.i64 (p0n : Int)), (PV.fn 88 [(PV.imm [(PV.list p0n p0c)] 0), (PV.imm [(PV.int IntKind.i64 p1_0), (PV.int IntKind.i64 p1_1), (PV.int IntKind.i64 p1_2), (PV.int IntKind.i64 p1_3)] 0)])]) fun (y3 : ((Nat) × (List PV))) =>
  some ((y3.1, y3.2), (0 : Int))
theorem tline_HardIn_eq (F : FnT) (p0n : Nat) (p0c : List PV) (p1_0 : Int) (p1_1 : Int) (p1_2 : Int) (p1_3 : Int) : semF (callP F Eline_HardIn 20) s43 (loopT []) 400 a43 [PV.list p0n p0c, PV.agg [PV.int IntKind.i64 p1_0, PV.int IntKind.i64 p1_1, PV.int IntKind.i64 p1_2, PV.int IntKind.i64 p1_3]] (fun rv => decR (RSh.tup [(Prod.mk false [CK.list]), (Prod.mk false [(CK.int IntKind.i64)])]) rv.pv) = tline_HardIn F p0n p0c p1_0 p1_1 p1_2 p1_3 := by kernel_rfl
noncomputable abbrev Fline_HardIn (args : List PV) := Fn env 43 (RSh.tup [(Prod.mk false [CK.list]), (Prod.mk false [(CK.int IntKind.i64)])]) args
theorem Fline_HardIn_of  (p0n : Nat) (p0c : List PV) (p1_0 : Int) (p1_1 : Int) (p1_2 : Int) (p1_3 : Int) {res : (((Nat) × (List PV)) × (Int))} (h : tline_HardIn (Fn env) p0n p0c p1_0 p1_1 p1_2 p1_3 = some res) : Fline_HardIn [PV.list p0n p0c, PV.agg [PV.int IntKind.i64 p1_0, PV.int IntKind.i64 p1_1, PV.int IntKind.i64 p1_2, PV.int IntKind.i64 p1_3]] = some res :=
  fn_of Eline_HardIn_ok rfl rfl lo_nil ((tline_HardIn_eq _ _ _ _ _ _ _).trans h)

/-! ### RfHardErr -/

def ERfHardErr : List Entry := [.out 10 (RSh.one (CK.int IntKind.i64)), .out 11 (RSh.one CK.bool)]
theorem ERfHardErr_ok : ∀ e ∈ ERfHardErr, EntOK env e := (ent_out (ent_out ent_nil))
def TRfHardErr_0a (n0 : Nat) (c1 : List PV) (i2 : Int) (i3 : Int) (i4 : Int) (i5 : Int) (i6 : Int) : Q := ⟨(tm 46 [(0, (AV.p (PV.list n0 c1))), (3, (AV.loc 3 0)), (5, (AV.p (PV.int IntKind.i64 i2)))]), (mm 46 [(3, (Bk.pcs true [(PV.int IntKind.i64 i3), (PV.int IntKind.i64 i4), (PV.int IntKind.i64 i5), (PV.int IntKind.i64 i6)]))])⟩
def XRfHardErr_0a (y : Int) : Ext × Q := (Ext.ret, ⟨(tm 46 [(4, (AV.p (PV.int IntKind.i64 y)))]), (mm 46 [])⟩)
def IRfHardErr_0a (q : Ext × S) : Int := (pP_int1 (pA_p (avT q.2 4)))
def XRfHardErr_0b (y : Int × Int × Int × Int) : Ext × Q := (Ext.normal, ⟨(tm 46 [(3, (AV.loc 3 0))]), (mm 46 [(3, (Bk.pcs true [(PV.int IntKind.i64 y.1), (PV.int IntKind.i64 y.2.1), (PV.int IntKind.i64 y.2.2.1), (PV.int IntKind.i64 y.2.2.2)]))])⟩)
def IRfHardErr_0b (q : Ext × S) : Int × Int × Int × Int := ((pP_int1 (hdP (pB_pcs1 (avM q.2 3)))), (pP_int1 (hdP (List.tail (pB_pcs1 (avM q.2 3))))), (pP_int1 (hdP (List.tail (List.tail (pB_pcs1 (avM q.2 3)))))), (pP_int1 (hdP (List.tail (List.tail (List.tail (pB_pcs1 (avM q.2 3))))))))
abbrev YRfHardErr_0 : Type := (Int) ⊕ ((Int × Int × Int × Int))
def XLRfHardErr_0 : XL YRfHardErr_0 := .more XRfHardErr_0a (.one XRfHardErr_0b)
def IRfHardErr_0 (q : Ext × S) : YRfHardErr_0 := bif (cE q.1 == 2) then (Sum.inl (IRfHardErr_0a q)) else (Sum.inr (IRfHardErr_0b q))
theorem XIRfHardErr_0a (y : Int) : IRfHardErr_0 (xe (XRfHardErr_0a y)) = (Sum.inl y) := rfl
theorem XIRfHardErr_0b (y : Int × Int × Int × Int) : IRfHardErr_0 (xe (XRfHardErr_0b y)) = (Sum.inr y) := rfl
theorem XIRfHardErr_0 (y : YRfHardErr_0) : IRfHardErr_0 (xe (XLRfHardErr_0.fn y)) = y := (match y with | .inl y => XIRfHardErr_0a y | .inr y => XIRfHardErr_0b y)
noncomputable abbrev LRfHardErr_0 : Q → Option YRfHardErr_0 := lpO env a45.body 0 XLRfHardErr_0
noncomputable abbrev RRfHardErr_0 : Q → Option (Ext × S) := lpR env a45.body 0
theorem LRfHardErr_0a_of {s : Q} {y : Int} (h : RRfHardErr_0 s = exO (XRfHardErr_0a y)) : LRfHardErr_0 s = some (Sum.inl y) := lpO_of IRfHardErr_0 XIRfHardErr_0 (y := (Sum.inl y)) h
theorem LRfHardErr_0b_of {s : Q} {y : Int × Int × Int × Int} (h : RRfHardErr_0 s = exO (XRfHardErr_0b y)) : LRfHardErr_0 s = some (Sum.inr y) := lpO_of IRfHardErr_0 XIRfHardErr_0 (y := (Sum.inr y)) h
theorem URfHardErr : uniq ((blocksOf a45.body).map (·.1)) = true := by kernel_rfl
def BRfHardErr_0a (F : FnT) (N : Q → Option (Ext × S)) (E : Ext × Q → Option (Ext × S)) (_L0 : Q → Option YRfHardErr_0) (n0 : Nat) (c1 : List PV) (i2 : Int) (i3 : Int) (i4 : Int) (i5 : Int) (i6 : Int) : Option (Ext × S) :=
  bif (decide (i2 < (n0 : Int))) then
    bif (decide (((0 : Int) ≤ i2) ∧ (i2 < (n0 : Int)))) then
      bindO (listC (c1[((Int.toNat i2) * 1)]?)) fun x0 =>
      bindO (F 10 (RSh.one (CK.int IntKind.i64)) [(PV.list x0.1 x0.2)]) fun (y1 : (Int)) =>
      bif (y1 != (0 : Int)) then
        E (XRfHardErr_0a y1)
      else N (TRfHardErr_0a n0 c1 (w64 (i2 + (1 : Int))) i3 i4 i5 i6)
    else none
  else E (XRfHardErr_0b (i3, i4, i5, i6))
theorem BRfHardErr_0a_eq (F : FnT) (N : Q → Option (Ext × S)) (E : Ext × Q → Option (Ext × S)) (L0 : Q → Option YRfHardErr_0) (n0 : Nat) (c1 : List PV) (i2 : Int) (i3 : Int) (i4 : Int) (i5 : Int) (i6 : Int) : semB (callP F ERfHardErr 20) s45 (loopT [⟨0, YRfHardErr_0, L0, XLRfHardErr_0⟩]) 400 (blkIn a45.body 0) N E (TRfHardErr_0a n0 c1 i2 i3 i4 i5 i6) = BRfHardErr_0a F N E L0 n0 c1 i2 i3 i4 i5 i6 := by kernel_rfl
theorem RRfHardErr_0a_of  (n0 : Nat) (c1 : List PV) (i2 : Int) (i3 : Int) (i4 : Int) (i5 : Int) (i6 : Int) {r : Ext × S} (h : BRfHardErr_0a (Fn env) RRfHardErr_0 exO LRfHardErr_0 n0 c1 i2 i3 i4 i5 i6 = some r) : RRfHardErr_0 (TRfHardErr_0a n0 c1 i2 i3 i4 i5 i6) = some r :=
  lp_of ERfHardErr_ok (by kernel_rfl) (lo_cons (lpO_ok URfHardErr) lo_nil) (by kernel_rfl) ((BRfHardErr_0a_eq _ _ _ _ _ _ _ _ _ _ _).trans h)
def tRfHardErr (F : FnT) (L0 : Q → Option YRfHardErr_0) (p0n : Nat) (p0c : List PV) (p1_0 : Int) (p1_1 : Int) (p1_2 : Int) (p1_3 : Int) : Option (Int) :=
  bif (decide ((p0n : Int) > (20 : Int))) then
    some (8 : Int)
  else bindO (L0 (TRfHardErr_0a p0n p0c (0 : Int) p1_0 p1_1 p1_2 p1_3)) fun z =>
  Sum.elim (fun y0 =>
    some y0) (fun y1 =>
    bindO (F 11 (RSh.one CK.bool) [(PV.int IntKind.i64 y1.1), (PV.int IntKind.i64 (0 : Int)), (PV.int IntKind.i64 (15 : Int))]) fun (y2 : (Bool)) =>
    bif y2 then
      bindO (F 11 (RSh.one CK.bool) [(PV.int IntKind.i64 y1.2.1), (PV.int IntKind.i64 (0 : Int)), (PV.int IntKind.i64 (16 : Int))]) fun (y3 : (Bool)) =>
      bif y3 then
        bindO (F 11 (RSh.one CK.bool) [(PV.int IntKind.i64 y1.2.2.1), (PV.int IntKind.i64 (0 : Int)), (PV.int IntKind.i64 (160000 : Int))]) fun (y4 : (Bool)) =>
        bif y4 then
          bindO (F 11 (RSh.one CK.bool) [(PV.int IntKind.i64 y1.2.2.2), (PV.int IntKind.i64 (0 : Int)), (PV.int IntKind.i64 (100 : Int))]) fun (y5 : (Bool)) =>
          bif y5 then
            some (0 : Int)
          else some (2 : Int)
        else some (2 : Int)
      else some (2 : Int)
    else some (2 : Int)) z
theorem tRfHardErr_eq (F : FnT) (L0 : Q → Option YRfHardErr_0) (p0n : Nat) (p0c : List PV) (p1_0 : Int) (p1_1 : Int) (p1_2 : Int) (p1_3 : Int) : semF (callP F ERfHardErr 20) s45 (loopT [⟨0, YRfHardErr_0, L0, XLRfHardErr_0⟩]) 400 a45 [PV.list p0n p0c, PV.agg [PV.int IntKind.i64 p1_0, PV.int IntKind.i64 p1_1, PV.int IntKind.i64 p1_2, PV.int IntKind.i64 p1_3]] (fun rv => decR (RSh.one (CK.int IntKind.i64)) rv.pv) = tRfHardErr F L0 p0n p0c p1_0 p1_1 p1_2 p1_3 := by kernel_rfl
noncomputable abbrev FRfHardErr (args : List PV) := Fn env 45 (RSh.one (CK.int IntKind.i64)) args
theorem FRfHardErr_of  (p0n : Nat) (p0c : List PV) (p1_0 : Int) (p1_1 : Int) (p1_2 : Int) (p1_3 : Int) {res : (Int)} (h : tRfHardErr (Fn env) LRfHardErr_0 p0n p0c p1_0 p1_1 p1_2 p1_3 = some res) : FRfHardErr [PV.list p0n p0c, PV.agg [PV.int IntKind.i64 p1_0, PV.int IntKind.i64 p1_1, PV.int IntKind.i64 p1_2, PV.int IntKind.i64 p1_3]] = some res :=
  fn_of ERfHardErr_ok rfl rfl (lo_cons (lpO_ok URfHardErr) lo_nil) ((tRfHardErr_eq _ _ _ _ _ _ _ _).trans h)

/-! ### RfCopyGates -/

def ERfCopyGates : List Entry := [.out 13 (RSh.one CK.list)]
theorem ERfCopyGates_ok : ∀ e ∈ ERfCopyGates, EntOK env e := (ent_out ent_nil)
def TRfCopyGates_0a (n0 : Nat) (c1 : List PV) : Q := ⟨(tm 20 [(0, (AV.p (PV.list n0 c1))), (3, AV.nilS), (4, (AV.p (PV.int IntKind.i64 (0 : Int))))]), (mm 20 [])⟩
def TRfCopyGates_0b (n0 : Nat) (c1 : List PV) (n2 : Nat) (c3 : List PV) (i4 : Int) (n5 : Nat) : Q := ⟨(tm 20 [(0, (AV.p (PV.list n0 c1))), (3, (AV.app 18 n2 1 c3)), (4, (AV.p (PV.int IntKind.i64 i4)))]), (mm 20 [(18, (Bk.buf n5))])⟩
def XRfCopyGates_0a (_y : Unit) : Ext × Q := (Ext.normal, ⟨(tm 20 [(3, AV.nilS)]), (mm 20 [])⟩)
def IRfCopyGates_0a (_q : Ext × S) : Unit := ()
def XRfCopyGates_0b (y : Nat × List PV × Nat) : Ext × Q := (Ext.normal, ⟨(tm 20 [(3, (AV.app 18 y.1 1 y.2.1))]), (mm 20 [(18, (Bk.buf y.2.2))])⟩)
def IRfCopyGates_0b (q : Ext × S) : Nat × List PV × Nat := ((pA_app1 (avT q.2 3)), (pA_app3 (avT q.2 3)), (pB_buf0 (avM q.2 18)))
abbrev YRfCopyGates_0 : Type := (Unit) ⊕ ((Nat × List PV × Nat))
def XLRfCopyGates_0 : XL YRfCopyGates_0 := .more XRfCopyGates_0a (.one XRfCopyGates_0b)
def IRfCopyGates_0 (q : Ext × S) : YRfCopyGates_0 := bif (cA (avT q.2 3) == 1) then (Sum.inl (IRfCopyGates_0a q)) else (Sum.inr (IRfCopyGates_0b q))
theorem XIRfCopyGates_0a (y : Unit) : IRfCopyGates_0 (xe (XRfCopyGates_0a y)) = (Sum.inl y) := rfl
theorem XIRfCopyGates_0b (y : Nat × List PV × Nat) : IRfCopyGates_0 (xe (XRfCopyGates_0b y)) = (Sum.inr y) := rfl
theorem XIRfCopyGates_0 (y : YRfCopyGates_0) : IRfCopyGates_0 (xe (XLRfCopyGates_0.fn y)) = y := (match y with | .inl y => XIRfCopyGates_0a y | .inr y => XIRfCopyGates_0b y)
noncomputable abbrev LRfCopyGates_0 : Q → Option YRfCopyGates_0 := lpO env a44.body 0 XLRfCopyGates_0
noncomputable abbrev RRfCopyGates_0 : Q → Option (Ext × S) := lpR env a44.body 0
theorem LRfCopyGates_0a_of {s : Q} {y : Unit} (h : RRfCopyGates_0 s = exO (XRfCopyGates_0a y)) : LRfCopyGates_0 s = some (Sum.inl y) := lpO_of IRfCopyGates_0 XIRfCopyGates_0 (y := (Sum.inl y)) h
theorem LRfCopyGates_0b_of {s : Q} {y : Nat × List PV × Nat} (h : RRfCopyGates_0 s = exO (XRfCopyGates_0b y)) : LRfCopyGates_0 s = some (Sum.inr y) := lpO_of IRfCopyGates_0 XIRfCopyGates_0 (y := (Sum.inr y)) h
theorem URfCopyGates : uniq ((blocksOf a44.body).map (·.1)) = true := by kernel_rfl
def BRfCopyGates_0a (F : FnT) (N : Q → Option (Ext × S)) (E : Ext × Q → Option (Ext × S)) (_L0 : Q → Option YRfCopyGates_0) (n0 : Nat) (c1 : List PV) : Option (Ext × S) :=
  bif (decide ((0 : Int) < (n0 : Int))) then
    bif (decide (((0 : Int) ≤ (0 : Int)) ∧ ((0 : Int) < (n0 : Int)))) then
      bindO (listC (c1[0]?)) fun x0 =>
      bindO (F 13 (RSh.one CK.list) [(PV.list x0.1 x0.2)]) fun (y1 : ((Nat) × (List PV))) =>
      N (TRfCopyGates_0b n0 c1 1 [(PV.list y1.1 y1.2)] (1 : Int) 1)
    else none
  else E (XRfCopyGates_0a ())
theorem BRfCopyGates_0a_eq (F : FnT) (N : Q → Option (Ext × S)) (E : Ext × Q → Option (Ext × S)) (L0 : Q → Option YRfCopyGates_0) (n0 : Nat) (c1 : List PV) : semB (callP F ERfCopyGates 20) s44 (loopT [⟨0, YRfCopyGates_0, L0, XLRfCopyGates_0⟩]) 400 (blkIn a44.body 0) N E (TRfCopyGates_0a n0 c1) = BRfCopyGates_0a F N E L0 n0 c1 := by kernel_rfl
theorem RRfCopyGates_0a_of  (n0 : Nat) (c1 : List PV) {r : Ext × S} (h : BRfCopyGates_0a (Fn env) RRfCopyGates_0 exO LRfCopyGates_0 n0 c1 = some r) : RRfCopyGates_0 (TRfCopyGates_0a n0 c1) = some r :=
  lp_of ERfCopyGates_ok (by kernel_rfl) (lo_cons (lpO_ok URfCopyGates) lo_nil) (by kernel_rfl) ((BRfCopyGates_0a_eq _ _ _ _ _ _).trans h)
def BRfCopyGates_0b (F : FnT) (N : Q → Option (Ext × S)) (E : Ext × Q → Option (Ext × S)) (_L0 : Q → Option YRfCopyGates_0) (n0 : Nat) (c1 : List PV) (n2 : Nat) (c3 : List PV) (i4 : Int) (n5 : Nat) : Option (Ext × S) :=
  bif (decide (i4 < (n0 : Int))) then
    bif (decide (((0 : Int) ≤ i4) ∧ (i4 < (n0 : Int)))) then
      bindO (listC (c1[((Int.toNat i4) * 1)]?)) fun x0 =>
      bindO (F 13 (RSh.one CK.list) [(PV.list x0.1 x0.2)]) fun (y1 : ((Nat) × (List PV))) =>
      bif (decide ((n5 = n2) ∧ ((n2 + 1) ≤ big))) then
        N (TRfCopyGates_0b n0 c1 (n2 + 1) (c3 ++ [(PV.list y1.1 y1.2)]) (w64 (i4 + (1 : Int))) (n2 + 1))
      else none
    else none
  else E (XRfCopyGates_0b (n2, c3, n5))
theorem BRfCopyGates_0b_eq (F : FnT) (N : Q → Option (Ext × S)) (E : Ext × Q → Option (Ext × S)) (L0 : Q → Option YRfCopyGates_0) (n0 : Nat) (c1 : List PV) (n2 : Nat) (c3 : List PV) (i4 : Int) (n5 : Nat) : semB (callP F ERfCopyGates 20) s44 (loopT [⟨0, YRfCopyGates_0, L0, XLRfCopyGates_0⟩]) 400 (blkIn a44.body 0) N E (TRfCopyGates_0b n0 c1 n2 c3 i4 n5) = BRfCopyGates_0b F N E L0 n0 c1 n2 c3 i4 n5 := by kernel_rfl
theorem RRfCopyGates_0b_of  (n0 : Nat) (c1 : List PV) (n2 : Nat) (c3 : List PV) (i4 : Int) (n5 : Nat) {r : Ext × S} (h : BRfCopyGates_0b (Fn env) RRfCopyGates_0 exO LRfCopyGates_0 n0 c1 n2 c3 i4 n5 = some r) : RRfCopyGates_0 (TRfCopyGates_0b n0 c1 n2 c3 i4 n5) = some r :=
  lp_of ERfCopyGates_ok (by kernel_rfl) (lo_cons (lpO_ok URfCopyGates) lo_nil) (by kernel_rfl) ((BRfCopyGates_0b_eq _ _ _ _ _ _ _ _ _ _).trans h)
def tRfCopyGates (_F : FnT) (L0 : Q → Option YRfCopyGates_0) (p0n : Nat) (p0c : List PV) : Option ((Nat) × (List PV)) :=
  bindO (L0 (TRfCopyGates_0a p0n p0c)) fun z =>
  Sum.elim (fun _y0 =>
    some (0, [])) (fun y1 =>
    bif (decide (y1.2.2 = y1.1)) then
      some (y1.1, y1.2.1)
    else none) z
theorem tRfCopyGates_eq (F : FnT) (L0 : Q → Option YRfCopyGates_0) (p0n : Nat) (p0c : List PV) : semF (callP F ERfCopyGates 20) s44 (loopT [⟨0, YRfCopyGates_0, L0, XLRfCopyGates_0⟩]) 400 a44 [PV.list p0n p0c] (fun rv => decR (RSh.one CK.list) rv.pv) = tRfCopyGates F L0 p0n p0c := by kernel_rfl
noncomputable abbrev FRfCopyGates (args : List PV) := Fn env 44 (RSh.one CK.list) args
theorem FRfCopyGates_of  (p0n : Nat) (p0c : List PV) {res : ((Nat) × (List PV))} (h : tRfCopyGates (Fn env) LRfCopyGates_0 p0n p0c = some res) : FRfCopyGates [PV.list p0n p0c] = some res :=
  fn_of ERfCopyGates_ok rfl rfl (lo_cons (lpO_ok URfCopyGates) lo_nil) ((tRfCopyGates_eq _ _ _ _).trans h)

/-! ### RfHard -/

def ERfHard : List Entry := [.out 11 (RSh.one CK.bool), .out 19 (RSh.one (CK.int IntKind.i64))]
theorem ERfHard_ok : ∀ e ∈ ERfHard, EntOK env e := (ent_out (ent_out ent_nil))
def TRfHard_0a (n0 : Nat) (c1 : List PV) (i2 : Int) (i3 : Int) (i4 : Int) (i5 : Int) (i6 : Int) : Q := ⟨(tm 67 [(0, (AV.p (PV.list n0 c1))), (3, (AV.loc 3 0)), (5, AV.nilS), (6, (AV.p (PV.int IntKind.i64 i2)))]), (mm 67 [(3, (Bk.pcs true [(PV.int IntKind.i64 i3), (PV.int IntKind.i64 i4), (PV.int IntKind.i64 i5), (PV.int IntKind.i64 i6)]))])⟩
def TRfHard_0b (n0 : Nat) (c1 : List PV) (n2 : Nat) (c3 : List PV) (i4 : Int) (i5 : Int) (i6 : Int) (i7 : Int) (i8 : Int) (n9 : Nat) : Q := ⟨(tm 67 [(0, (AV.p (PV.list n0 c1))), (3, (AV.loc 3 0)), (5, (AV.app 65 n2 1 c3)), (6, (AV.p (PV.int IntKind.i64 i4)))]), (mm 67 [(3, (Bk.pcs true [(PV.int IntKind.i64 i5), (PV.int IntKind.i64 i6), (PV.int IntKind.i64 i7), (PV.int IntKind.i64 i8)])), (65, (Bk.buf n9))])⟩
def XRfHard_0a (y : Int × Int × Int × Int) : Ext × Q := (Ext.normal, ⟨(tm 67 [(5, AV.nilS)]), (mm 67 [(3, (Bk.pcs true [(PV.int IntKind.i64 y.1), (PV.int IntKind.i64 y.2.1), (PV.int IntKind.i64 y.2.2.1), (PV.int IntKind.i64 y.2.2.2)]))])⟩)
def IRfHard_0a (q : Ext × S) : Int × Int × Int × Int := ((pP_int1 (hdP (pB_pcs1 (avM q.2 3)))), (pP_int1 (hdP (List.tail (pB_pcs1 (avM q.2 3))))), (pP_int1 (hdP (List.tail (List.tail (pB_pcs1 (avM q.2 3)))))), (pP_int1 (hdP (List.tail (List.tail (List.tail (pB_pcs1 (avM q.2 3))))))))
def XRfHard_0b (y : Nat × List PV × Int × Int × Int × Int × Nat) : Ext × Q := (Ext.normal, ⟨(tm 67 [(5, (AV.app 65 y.1 1 y.2.1))]), (mm 67 [(3, (Bk.pcs true [(PV.int IntKind.i64 y.2.2.1), (PV.int IntKind.i64 y.2.2.2.1), (PV.int IntKind.i64 y.2.2.2.2.1), (PV.int IntKind.i64 y.2.2.2.2.2.1)])), (65, (Bk.buf y.2.2.2.2.2.2))])⟩)
def IRfHard_0b (q : Ext × S) : Nat × List PV × Int × Int × Int × Int × Nat := ((pA_app1 (avT q.2 5)), (pA_app3 (avT q.2 5)), (pP_int1 (hdP (pB_pcs1 (avM q.2 3)))), (pP_int1 (hdP (List.tail (pB_pcs1 (avM q.2 3))))), (pP_int1 (hdP (List.tail (List.tail (pB_pcs1 (avM q.2 3)))))), (pP_int1 (hdP (List.tail (List.tail (List.tail (pB_pcs1 (avM q.2 3))))))), (pB_buf0 (avM q.2 65)))
abbrev YRfHard_0 : Type := (Int × Int × Int × Int) ⊕ ((Nat × List PV × Int × Int × Int × Int × Nat))
def XLRfHard_0 : XL YRfHard_0 := .more XRfHard_0a (.one XRfHard_0b)
def IRfHard_0 (q : Ext × S) : YRfHard_0 := bif (cA (avT q.2 5) == 1) then (Sum.inl (IRfHard_0a q)) else (Sum.inr (IRfHard_0b q))
theorem XIRfHard_0a (y : Int × Int × Int × Int) : IRfHard_0 (xe (XRfHard_0a y)) = (Sum.inl y) := rfl
theorem XIRfHard_0b (y : Nat × List PV × Int × Int × Int × Int × Nat) : IRfHard_0 (xe (XRfHard_0b y)) = (Sum.inr y) := rfl
theorem XIRfHard_0 (y : YRfHard_0) : IRfHard_0 (xe (XLRfHard_0.fn y)) = y := (match y with | .inl y => XIRfHard_0a y | .inr y => XIRfHard_0b y)
noncomputable abbrev LRfHard_0 : Q → Option YRfHard_0 := lpO env a46.body 0 XLRfHard_0
noncomputable abbrev RRfHard_0 : Q → Option (Ext × S) := lpR env a46.body 0
theorem LRfHard_0a_of {s : Q} {y : Int × Int × Int × Int} (h : RRfHard_0 s = exO (XRfHard_0a y)) : LRfHard_0 s = some (Sum.inl y) := lpO_of IRfHard_0 XIRfHard_0 (y := (Sum.inl y)) h
theorem LRfHard_0b_of {s : Q} {y : Nat × List PV × Int × Int × Int × Int × Nat} (h : RRfHard_0 s = exO (XRfHard_0b y)) : LRfHard_0 s = some (Sum.inr y) := lpO_of IRfHard_0 XIRfHard_0 (y := (Sum.inr y)) h
def TRfHard_2a (n0 : Nat) (c1 : List PV) (i2 : Int) (i3 : Int) (i4 : Int) (i5 : Int) (i6 : Int) (i7 : Int) (i8 : Int) : Q := ⟨(tm 67 [(0, (AV.p (PV.list n0 c1))), (3, (AV.loc 3 0)), (5, AV.nilS), (6, (AV.p (PV.int IntKind.i64 i2))), (7, (AV.p (PV.int IntKind.i64 i3))), (8, (AV.p (PV.int IntKind.i64 i4)))]), (mm 67 [(3, (Bk.pcs true [(PV.int IntKind.i64 i5), (PV.int IntKind.i64 i6), (PV.int IntKind.i64 i7), (PV.int IntKind.i64 i8)]))])⟩
def TRfHard_2b (n0 : Nat) (c1 : List PV) (n2 : Nat) (c3 : List PV) (i4 : Int) (i5 : Int) (i6 : Int) (i7 : Int) (i8 : Int) (i9 : Int) (i10 : Int) (n11 : Nat) : Q := ⟨(tm 67 [(0, (AV.p (PV.list n0 c1))), (3, (AV.loc 3 0)), (5, (AV.app 65 n2 1 c3)), (6, (AV.p (PV.int IntKind.i64 i4))), (7, (AV.p (PV.int IntKind.i64 i5))), (8, (AV.p (PV.int IntKind.i64 i6)))]), (mm 67 [(3, (Bk.pcs true [(PV.int IntKind.i64 i7), (PV.int IntKind.i64 i8), (PV.int IntKind.i64 i9), (PV.int IntKind.i64 i10)])), (65, (Bk.buf n11))])⟩
def XRfHard_2a (y : Nat × List PV × Int × Int × Int × Int × Int × Int) : Ext × Q := (Ext.normal, ⟨(tm 67 [(0, (AV.p (PV.list y.1 y.2.1))), (3, (AV.loc 3 0)), (5, AV.nilS), (6, (AV.p (PV.int IntKind.i64 y.2.2.1))), (7, (AV.p (PV.int IntKind.i64 y.2.2.2.1)))]), (mm 67 [(3, (Bk.pcs true [(PV.int IntKind.i64 y.2.2.2.2.1), (PV.int IntKind.i64 y.2.2.2.2.2.1), (PV.int IntKind.i64 y.2.2.2.2.2.2.1), (PV.int IntKind.i64 y.2.2.2.2.2.2.2)]))])⟩)
def IRfHard_2a (q : Ext × S) : Nat × List PV × Int × Int × Int × Int × Int × Int := ((pP_list0 (pA_p (avT q.2 0))), (pP_list1 (pA_p (avT q.2 0))), (pP_int1 (pA_p (avT q.2 6))), (pP_int1 (pA_p (avT q.2 7))), (pP_int1 (hdP (pB_pcs1 (avM q.2 3)))), (pP_int1 (hdP (List.tail (pB_pcs1 (avM q.2 3))))), (pP_int1 (hdP (List.tail (List.tail (pB_pcs1 (avM q.2 3)))))), (pP_int1 (hdP (List.tail (List.tail (List.tail (pB_pcs1 (avM q.2 3))))))))
def XRfHard_2b (y : Nat × List PV × Nat × List PV × Int × Int × Int × Int × Int × Int × Nat) : Ext × Q := (Ext.normal, ⟨(tm 67 [(0, (AV.p (PV.list y.1 y.2.1))), (3, (AV.loc 3 0)), (5, (AV.app 65 y.2.2.1 1 y.2.2.2.1)), (6, (AV.p (PV.int IntKind.i64 y.2.2.2.2.1))), (7, (AV.p (PV.int IntKind.i64 y.2.2.2.2.2.1)))]), (mm 67 [(3, (Bk.pcs true [(PV.int IntKind.i64 y.2.2.2.2.2.2.1), (PV.int IntKind.i64 y.2.2.2.2.2.2.2.1), (PV.int IntKind.i64 y.2.2.2.2.2.2.2.2.1), (PV.int IntKind.i64 y.2.2.2.2.2.2.2.2.2.1)])), (65, (Bk.buf y.2.2.2.2.2.2.2.2.2.2))])⟩)
def IRfHard_2b (q : Ext × S) : Nat × List PV × Nat × List PV × Int × Int × Int × Int × Int × Int × Nat := ((pP_list0 (pA_p (avT q.2 0))), (pP_list1 (pA_p (avT q.2 0))), (pA_app1 (avT q.2 5)), (pA_app3 (avT q.2 5)), (pP_int1 (pA_p (avT q.2 6))), (pP_int1 (pA_p (avT q.2 7))), (pP_int1 (hdP (pB_pcs1 (avM q.2 3)))), (pP_int1 (hdP (List.tail (pB_pcs1 (avM q.2 3))))), (pP_int1 (hdP (List.tail (List.tail (pB_pcs1 (avM q.2 3)))))), (pP_int1 (hdP (List.tail (List.tail (List.tail (pB_pcs1 (avM q.2 3))))))), (pB_buf0 (avM q.2 65)))
abbrev YRfHard_2 : Type := (Nat × List PV × Int × Int × Int × Int × Int × Int) ⊕ ((Nat × List PV × Nat × List PV × Int × Int × Int × Int × Int × Int × Nat))
def XLRfHard_2 : XL YRfHard_2 := .more XRfHard_2a (.one XRfHard_2b)
def IRfHard_2 (q : Ext × S) : YRfHard_2 := bif (cA (avT q.2 5) == 1) then (Sum.inl (IRfHard_2a q)) else (Sum.inr (IRfHard_2b q))
theorem XIRfHard_2a (y : Nat × List PV × Int × Int × Int × Int × Int × Int) : IRfHard_2 (xe (XRfHard_2a y)) = (Sum.inl y) := rfl
theorem XIRfHard_2b (y : Nat × List PV × Nat × List PV × Int × Int × Int × Int × Int × Int × Nat) : IRfHard_2 (xe (XRfHard_2b y)) = (Sum.inr y) := rfl
theorem XIRfHard_2 (y : YRfHard_2) : IRfHard_2 (xe (XLRfHard_2.fn y)) = y := (match y with | .inl y => XIRfHard_2a y | .inr y => XIRfHard_2b y)
noncomputable abbrev LRfHard_2 : Q → Option YRfHard_2 := lpO env a46.body 2 XLRfHard_2
noncomputable abbrev RRfHard_2 : Q → Option (Ext × S) := lpR env a46.body 2
theorem LRfHard_2a_of {s : Q} {y : Nat × List PV × Int × Int × Int × Int × Int × Int} (h : RRfHard_2 s = exO (XRfHard_2a y)) : LRfHard_2 s = some (Sum.inl y) := lpO_of IRfHard_2 XIRfHard_2 (y := (Sum.inl y)) h
theorem LRfHard_2b_of {s : Q} {y : Nat × List PV × Nat × List PV × Int × Int × Int × Int × Int × Int × Nat} (h : RRfHard_2 s = exO (XRfHard_2b y)) : LRfHard_2 s = some (Sum.inr y) := lpO_of IRfHard_2 XIRfHard_2 (y := (Sum.inr y)) h
theorem URfHard : uniq ((blocksOf a46.body).map (·.1)) = true := by kernel_rfl
def BRfHard_0a (F : FnT) (N : Q → Option (Ext × S)) (E : Ext × Q → Option (Ext × S)) (_L0 : Q → Option YRfHard_0) (L2 : Q → Option YRfHard_2) (n0 : Nat) (c1 : List PV) (i2 : Int) (i3 : Int) (i4 : Int) (i5 : Int) (i6 : Int) : Option (Ext × S) :=
  bif (decide (i2 < (n0 : Int))) then
    bindO (L2 (TRfHard_2a n0 c1 i2 (0 : Int) (0 : Int) i3 i4 i5 i6)) fun z =>
    Sum.elim (fun y0 =>
      bif (decide (y0.2.2.2.1 ≥ y0.2.2.2.2.2.2.1)) then
        bif (decide (((0 : Int) ≤ y0.2.2.1) ∧ (y0.2.2.1 < (y0.1 : Int)))) then
          bindO (listC (y0.2.1[((Int.toNat y0.2.2.1) * 1)]?)) fun x1 =>
          bindO (F 19 (RSh.one (CK.int IntKind.i64)) [(PV.list x1.1 x1.2)]) fun (y2 : (Int)) =>
          bif (decide ((w64 ((100 : Int) * y0.2.2.2.1)) ≥ (w64 (y0.2.2.2.2.2.2.2 * y2)))) then
            N (TRfHard_0b y0.1 y0.2.1 1 [(PV.int IntKind.i64 y0.2.2.1)] (w64 (y0.2.2.1 + (1 : Int))) y0.2.2.2.2.1 y0.2.2.2.2.2.1 y0.2.2.2.2.2.2.1 y0.2.2.2.2.2.2.2 1)
          else N (TRfHard_0a y0.1 y0.2.1 (w64 (y0.2.2.1 + (1 : Int))) y0.2.2.2.2.1 y0.2.2.2.2.2.1 y0.2.2.2.2.2.2.1 y0.2.2.2.2.2.2.2)
        else none
      else N (TRfHard_0a y0.1 y0.2.1 (w64 (y0.2.2.1 + (1 : Int))) y0.2.2.2.2.1 y0.2.2.2.2.2.1 y0.2.2.2.2.2.2.1 y0.2.2.2.2.2.2.2)) (fun y3 =>
      bif (decide (y3.2.2.2.2.2.1 ≥ y3.2.2.2.2.2.2.2.2.1)) then
        bif (decide (((0 : Int) ≤ y3.2.2.2.2.1) ∧ (y3.2.2.2.2.1 < (y3.1 : Int)))) then
          bindO (listC (y3.2.1[((Int.toNat y3.2.2.2.2.1) * 1)]?)) fun x4 =>
          bindO (F 19 (RSh.one (CK.int IntKind.i64)) [(PV.list x4.1 x4.2)]) fun (y5 : (Int)) =>
          bif (decide ((w64 ((100 : Int) * y3.2.2.2.2.2.1)) ≥ (w64 (y3.2.2.2.2.2.2.2.2.2.1 * y5)))) then
            bif (decide ((y3.2.2.2.2.2.2.2.2.2.2 = y3.2.2.1) ∧ ((y3.2.2.1 + 1) ≤ big))) then
              N (TRfHard_0b y3.1 y3.2.1 (y3.2.2.1 + 1) (y3.2.2.2.1 ++ [(PV.int IntKind.i64 y3.2.2.2.2.1)]) (w64 (y3.2.2.2.2.1 + (1 : Int))) y3.2.2.2.2.2.2.1 y3.2.2.2.2.2.2.2.1 y3.2.2.2.2.2.2.2.2.1 y3.2.2.2.2.2.2.2.2.2.1 (y3.2.2.1 + 1))
            else none
          else N (TRfHard_0b y3.1 y3.2.1 y3.2.2.1 y3.2.2.2.1 (w64 (y3.2.2.2.2.1 + (1 : Int))) y3.2.2.2.2.2.2.1 y3.2.2.2.2.2.2.2.1 y3.2.2.2.2.2.2.2.2.1 y3.2.2.2.2.2.2.2.2.2.1 y3.2.2.2.2.2.2.2.2.2.2)
        else none
      else N (TRfHard_0b y3.1 y3.2.1 y3.2.2.1 y3.2.2.2.1 (w64 (y3.2.2.2.2.1 + (1 : Int))) y3.2.2.2.2.2.2.1 y3.2.2.2.2.2.2.2.1 y3.2.2.2.2.2.2.2.2.1 y3.2.2.2.2.2.2.2.2.2.1 y3.2.2.2.2.2.2.2.2.2.2)) z
  else E (XRfHard_0a (i3, i4, i5, i6))
theorem BRfHard_0a_eq (F : FnT) (N : Q → Option (Ext × S)) (E : Ext × Q → Option (Ext × S)) (L0 : Q → Option YRfHard_0) (L2 : Q → Option YRfHard_2) (n0 : Nat) (c1 : List PV) (i2 : Int) (i3 : Int) (i4 : Int) (i5 : Int) (i6 : Int) : semB (callP F ERfHard 20) s46 (loopT [⟨0, YRfHard_0, L0, XLRfHard_0⟩, ⟨2, YRfHard_2, L2, XLRfHard_2⟩]) 400 (blkIn a46.body 0) N E (TRfHard_0a n0 c1 i2 i3 i4 i5 i6) = BRfHard_0a F N E L0 L2 n0 c1 i2 i3 i4 i5 i6 := by kernel_rfl
theorem RRfHard_0a_of  (n0 : Nat) (c1 : List PV) (i2 : Int) (i3 : Int) (i4 : Int) (i5 : Int) (i6 : Int) {r : Ext × S} (h : BRfHard_0a (Fn env) RRfHard_0 exO LRfHard_0 LRfHard_2 n0 c1 i2 i3 i4 i5 i6 = some r) : RRfHard_0 (TRfHard_0a n0 c1 i2 i3 i4 i5 i6) = some r :=
  lp_of ERfHard_ok (by kernel_rfl) (lo_cons (lpO_ok URfHard) (lo_cons (lpO_ok URfHard) lo_nil)) (by kernel_rfl) ((BRfHard_0a_eq _ _ _ _ _ _ _ _ _ _ _ _).trans h)
def BRfHard_0b (F : FnT) (N : Q → Option (Ext × S)) (E : Ext × Q → Option (Ext × S)) (_L0 : Q → Option YRfHard_0) (L2 : Q → Option YRfHard_2) (n0 : Nat) (c1 : List PV) (n2 : Nat) (c3 : List PV) (i4 : Int) (i5 : Int) (i6 : Int) (i7 : Int) (i8 : Int) (n9 : Nat) : Option (Ext × S) :=
  bif (decide (i4 < (n0 : Int))) then
    bindO (L2 (TRfHard_2b n0 c1 n2 c3 i4 (0 : Int) (0 : Int) i5 i6 i7 i8 n9)) fun z =>
    Sum.elim (fun y0 =>
      bif (decide (y0.2.2.2.1 ≥ y0.2.2.2.2.2.2.1)) then
        bif (decide (((0 : Int) ≤ y0.2.2.1) ∧ (y0.2.2.1 < (y0.1 : Int)))) then
          bindO (listC (y0.2.1[((Int.toNat y0.2.2.1) * 1)]?)) fun x1 =>
          bindO (F 19 (RSh.one (CK.int IntKind.i64)) [(PV.list x1.1 x1.2)]) fun (y2 : (Int)) =>
          bif (decide ((w64 ((100 : Int) * y0.2.2.2.1)) ≥ (w64 (y0.2.2.2.2.2.2.2 * y2)))) then
            N (TRfHard_0b y0.1 y0.2.1 1 [(PV.int IntKind.i64 y0.2.2.1)] (w64 (y0.2.2.1 + (1 : Int))) y0.2.2.2.2.1 y0.2.2.2.2.2.1 y0.2.2.2.2.2.2.1 y0.2.2.2.2.2.2.2 1)
          else N (TRfHard_0a y0.1 y0.2.1 (w64 (y0.2.2.1 + (1 : Int))) y0.2.2.2.2.1 y0.2.2.2.2.2.1 y0.2.2.2.2.2.2.1 y0.2.2.2.2.2.2.2)
        else none
      else N (TRfHard_0a y0.1 y0.2.1 (w64 (y0.2.2.1 + (1 : Int))) y0.2.2.2.2.1 y0.2.2.2.2.2.1 y0.2.2.2.2.2.2.1 y0.2.2.2.2.2.2.2)) (fun y3 =>
      bif (decide (y3.2.2.2.2.2.1 ≥ y3.2.2.2.2.2.2.2.2.1)) then
        bif (decide (((0 : Int) ≤ y3.2.2.2.2.1) ∧ (y3.2.2.2.2.1 < (y3.1 : Int)))) then
          bindO (listC (y3.2.1[((Int.toNat y3.2.2.2.2.1) * 1)]?)) fun x4 =>
          bindO (F 19 (RSh.one (CK.int IntKind.i64)) [(PV.list x4.1 x4.2)]) fun (y5 : (Int)) =>
          bif (decide ((w64 ((100 : Int) * y3.2.2.2.2.2.1)) ≥ (w64 (y3.2.2.2.2.2.2.2.2.2.1 * y5)))) then
            bif (decide ((y3.2.2.2.2.2.2.2.2.2.2 = y3.2.2.1) ∧ ((y3.2.2.1 + 1) ≤ big))) then
              N (TRfHard_0b y3.1 y3.2.1 (y3.2.2.1 + 1) (y3.2.2.2.1 ++ [(PV.int IntKind.i64 y3.2.2.2.2.1)]) (w64 (y3.2.2.2.2.1 + (1 : Int))) y3.2.2.2.2.2.2.1 y3.2.2.2.2.2.2.2.1 y3.2.2.2.2.2.2.2.2.1 y3.2.2.2.2.2.2.2.2.2.1 (y3.2.2.1 + 1))
            else none
          else N (TRfHard_0b y3.1 y3.2.1 y3.2.2.1 y3.2.2.2.1 (w64 (y3.2.2.2.2.1 + (1 : Int))) y3.2.2.2.2.2.2.1 y3.2.2.2.2.2.2.2.1 y3.2.2.2.2.2.2.2.2.1 y3.2.2.2.2.2.2.2.2.2.1 y3.2.2.2.2.2.2.2.2.2.2)
        else none
      else N (TRfHard_0b y3.1 y3.2.1 y3.2.2.1 y3.2.2.2.1 (w64 (y3.2.2.2.2.1 + (1 : Int))) y3.2.2.2.2.2.2.1 y3.2.2.2.2.2.2.2.1 y3.2.2.2.2.2.2.2.2.1 y3.2.2.2.2.2.2.2.2.2.1 y3.2.2.2.2.2.2.2.2.2.2)) z
  else E (XRfHard_0b (n2, c3, i5, i6, i7, i8, n9))
theorem BRfHard_0b_eq (F : FnT) (N : Q → Option (Ext × S)) (E : Ext × Q → Option (Ext × S)) (L0 : Q → Option YRfHard_0) (L2 : Q → Option YRfHard_2) (n0 : Nat) (c1 : List PV) (n2 : Nat) (c3 : List PV) (i4 : Int) (i5 : Int) (i6 : Int) (i7 : Int) (i8 : Int) (n9 : Nat) : semB (callP F ERfHard 20) s46 (loopT [⟨0, YRfHard_0, L0, XLRfHard_0⟩, ⟨2, YRfHard_2, L2, XLRfHard_2⟩]) 400 (blkIn a46.body 0) N E (TRfHard_0b n0 c1 n2 c3 i4 i5 i6 i7 i8 n9) = BRfHard_0b F N E L0 L2 n0 c1 n2 c3 i4 i5 i6 i7 i8 n9 := by kernel_rfl
theorem RRfHard_0b_of  (n0 : Nat) (c1 : List PV) (n2 : Nat) (c3 : List PV) (i4 : Int) (i5 : Int) (i6 : Int) (i7 : Int) (i8 : Int) (n9 : Nat) {r : Ext × S} (h : BRfHard_0b (Fn env) RRfHard_0 exO LRfHard_0 LRfHard_2 n0 c1 n2 c3 i4 i5 i6 i7 i8 n9 = some r) : RRfHard_0 (TRfHard_0b n0 c1 n2 c3 i4 i5 i6 i7 i8 n9) = some r :=
  lp_of ERfHard_ok (by kernel_rfl) (lo_cons (lpO_ok URfHard) (lo_cons (lpO_ok URfHard) lo_nil)) (by kernel_rfl) ((BRfHard_0b_eq _ _ _ _ _ _ _ _ _ _ _ _ _ _ _).trans h)
def BRfHard_2a (F : FnT) (N : Q → Option (Ext × S)) (E : Ext × Q → Option (Ext × S)) (_L0 : Q → Option YRfHard_0) (_L2 : Q → Option YRfHard_2) (n0 : Nat) (c1 : List PV) (i2 : Int) (i3 : Int) (i4 : Int) (i5 : Int) (i6 : Int) (i7 : Int) (i8 : Int) : Option (Ext × S) :=
  bif (decide (((0 : Int) ≤ i2) ∧ (i2 < (n0 : Int)))) then
    bindO (listC (c1[((Int.toNat i2) * 1)]?)) fun x0 =>
    bif (decide (i4 < (x0.1 : Int))) then
      bindO (F 11 (RSh.one CK.bool) [(PV.int IntKind.i64 i4), (PV.int IntKind.i64 (w64 (i5 - i6))), (PV.int IntKind.i64 (w64 (i5 + i6)))]) fun (y1 : (Bool)) =>
      bif y1 then
        bif (decide (((0 : Int) ≤ i2) ∧ (i2 < (n0 : Int)))) then
          bindO (listC (c1[((Int.toNat i2) * 1)]?)) fun x2 =>
          bif (decide (((0 : Int) ≤ i4) ∧ (i4 < (x2.1 : Int)))) then
            bindO (intC IntKind.i64 (x2.2[((Int.toNat i4) * 1)]?)) fun x3 =>
            N (TRfHard_2a n0 c1 i2 (w64 (i3 + x3)) (w64 (i4 + (1 : Int))) i5 i6 i7 i8)
          else none
        else none
      else N (TRfHard_2a n0 c1 i2 i3 (w64 (i4 + (1 : Int))) i5 i6 i7 i8)
    else E (XRfHard_2a (n0, c1, i2, i3, i5, i6, i7, i8))
  else none
theorem BRfHard_2a_eq (F : FnT) (N : Q → Option (Ext × S)) (E : Ext × Q → Option (Ext × S)) (L0 : Q → Option YRfHard_0) (L2 : Q → Option YRfHard_2) (n0 : Nat) (c1 : List PV) (i2 : Int) (i3 : Int) (i4 : Int) (i5 : Int) (i6 : Int) (i7 : Int) (i8 : Int) : semB (callP F ERfHard 20) s46 (loopT [⟨0, YRfHard_0, L0, XLRfHard_0⟩, ⟨2, YRfHard_2, L2, XLRfHard_2⟩]) 400 (blkIn a46.body 2) N E (TRfHard_2a n0 c1 i2 i3 i4 i5 i6 i7 i8) = BRfHard_2a F N E L0 L2 n0 c1 i2 i3 i4 i5 i6 i7 i8 := by kernel_rfl
theorem RRfHard_2a_of  (n0 : Nat) (c1 : List PV) (i2 : Int) (i3 : Int) (i4 : Int) (i5 : Int) (i6 : Int) (i7 : Int) (i8 : Int) {r : Ext × S} (h : BRfHard_2a (Fn env) RRfHard_2 exO LRfHard_0 LRfHard_2 n0 c1 i2 i3 i4 i5 i6 i7 i8 = some r) : RRfHard_2 (TRfHard_2a n0 c1 i2 i3 i4 i5 i6 i7 i8) = some r :=
  lp_of ERfHard_ok (by kernel_rfl) (lo_cons (lpO_ok URfHard) (lo_cons (lpO_ok URfHard) lo_nil)) (by kernel_rfl) ((BRfHard_2a_eq _ _ _ _ _ _ _ _ _ _ _ _ _ _).trans h)
def BRfHard_2b (F : FnT) (N : Q → Option (Ext × S)) (E : Ext × Q → Option (Ext × S)) (_L0 : Q → Option YRfHard_0) (_L2 : Q → Option YRfHard_2) (n0 : Nat) (c1 : List PV) (n2 : Nat) (c3 : List PV) (i4 : Int) (i5 : Int) (i6 : Int) (i7 : Int) (i8 : Int) (i9 : Int) (i10 : Int) (n11 : Nat) : Option (Ext × S) :=
  bif (decide (((0 : Int) ≤ i4) ∧ (i4 < (n0 : Int)))) then
    bindO (listC (c1[((Int.toNat i4) * 1)]?)) fun x0 =>
    bif (decide (i6 < (x0.1 : Int))) then
      bindO (F 11 (RSh.one CK.bool) [(PV.int IntKind.i64 i6), (PV.int IntKind.i64 (w64 (i7 - i8))), (PV.int IntKind.i64 (w64 (i7 + i8)))]) fun (y1 : (Bool)) =>
      bif y1 then
        bif (decide (((0 : Int) ≤ i4) ∧ (i4 < (n0 : Int)))) then
          bindO (listC (c1[((Int.toNat i4) * 1)]?)) fun x2 =>
          bif (decide (((0 : Int) ≤ i6) ∧ (i6 < (x2.1 : Int)))) then
            bindO (intC IntKind.i64 (x2.2[((Int.toNat i6) * 1)]?)) fun x3 =>
            N (TRfHard_2b n0 c1 n2 c3 i4 (w64 (i5 + x3)) (w64 (i6 + (1 : Int))) i7 i8 i9 i10 n11)
          else none
        else none
      else N (TRfHard_2b n0 c1 n2 c3 i4 i5 (w64 (i6 + (1 : Int))) i7 i8 i9 i10 n11)
    else E (XRfHard_2b (n0, c1, n2, c3, i4, i5, i7, i8, i9, i10, n11))
  else none
theorem BRfHard_2b_eq (F : FnT) (N : Q → Option (Ext × S)) (E : Ext × Q → Option (Ext × S)) (L0 : Q → Option YRfHard_0) (L2 : Q → Option YRfHard_2) (n0 : Nat) (c1 : List PV) (n2 : Nat) (c3 : List PV) (i4 : Int) (i5 : Int) (i6 : Int) (i7 : Int) (i8 : Int) (i9 : Int) (i10 : Int) (n11 : Nat) : semB (callP F ERfHard 20) s46 (loopT [⟨0, YRfHard_0, L0, XLRfHard_0⟩, ⟨2, YRfHard_2, L2, XLRfHard_2⟩]) 400 (blkIn a46.body 2) N E (TRfHard_2b n0 c1 n2 c3 i4 i5 i6 i7 i8 i9 i10 n11) = BRfHard_2b F N E L0 L2 n0 c1 n2 c3 i4 i5 i6 i7 i8 i9 i10 n11 := by kernel_rfl
theorem RRfHard_2b_of  (n0 : Nat) (c1 : List PV) (n2 : Nat) (c3 : List PV) (i4 : Int) (i5 : Int) (i6 : Int) (i7 : Int) (i8 : Int) (i9 : Int) (i10 : Int) (n11 : Nat) {r : Ext × S} (h : BRfHard_2b (Fn env) RRfHard_2 exO LRfHard_0 LRfHard_2 n0 c1 n2 c3 i4 i5 i6 i7 i8 i9 i10 n11 = some r) : RRfHard_2 (TRfHard_2b n0 c1 n2 c3 i4 i5 i6 i7 i8 i9 i10 n11) = some r :=
  lp_of ERfHard_ok (by kernel_rfl) (lo_cons (lpO_ok URfHard) (lo_cons (lpO_ok URfHard) lo_nil)) (by kernel_rfl) ((BRfHard_2b_eq _ _ _ _ _ _ _ _ _ _ _ _ _ _ _ _ _).trans h)
def tRfHard (_F : FnT) (L0 : Q → Option YRfHard_0) (_L2 : Q → Option YRfHard_2) (p0n : Nat) (p0c : List PV) (p1_0 : Int) (p1_1 : Int) (p1_2 : Int) (p1_3 : Int) : Option ((Nat) × (List PV)) :=
  bindO (L0 (TRfHard_0a p0n p0c (0 : Int) p1_0 p1_1 p1_2 p1_3)) fun z =>
  Sum.elim (fun _y0 =>
    some (0, [])) (fun y1 =>
    bif (decide (y1.2.2.2.2.2.2 = y1.1)) then
      some (y1.1, y1.2.1)
    else none) z
theorem tRfHard_eq (F : FnT) (L0 : Q → Option YRfHard_0) (L2 : Q → Option YRfHard_2) (p0n : Nat) (p0c : List PV) (p1_0 : Int) (p1_1 : Int) (p1_2 : Int) (p1_3 : Int) : semF (callP F ERfHard 20) s46 (loopT [⟨0, YRfHard_0, L0, XLRfHard_0⟩, ⟨2, YRfHard_2, L2, XLRfHard_2⟩]) 400 a46 [PV.list p0n p0c, PV.agg [PV.int IntKind.i64 p1_0, PV.int IntKind.i64 p1_1, PV.int IntKind.i64 p1_2, PV.int IntKind.i64 p1_3]] (fun rv => decR (RSh.one CK.list) rv.pv) = tRfHard F L0 L2 p0n p0c p1_0 p1_1 p1_2 p1_3 := by kernel_rfl
noncomputable abbrev FRfHard (args : List PV) := Fn env 46 (RSh.one CK.list) args
theorem FRfHard_of  (p0n : Nat) (p0c : List PV) (p1_0 : Int) (p1_1 : Int) (p1_2 : Int) (p1_3 : Int) {res : ((Nat) × (List PV))} (h : tRfHard (Fn env) LRfHard_0 LRfHard_2 p0n p0c p1_0 p1_1 p1_2 p1_3 = some res) : FRfHard [PV.list p0n p0c, PV.agg [PV.int IntKind.i64 p1_0, PV.int IntKind.i64 p1_1, PV.int IntKind.i64 p1_2, PV.int IntKind.i64 p1_3]] = some res :=
  fn_of ERfHard_ok rfl rfl (lo_cons (lpO_ok URfHard) (lo_cons (lpO_ok URfHard) lo_nil)) ((tRfHard_eq _ _ _ _ _ _ _ _ _).trans h)

/-! ### BsHas -/

def EBsHas : List Entry := []
theorem EBsHas_ok : ∀ e ∈ EBsHas, EntOK env e := ent_nil
def TBsHas_0a (n0 : Nat) (c1 : List PV) (i2 : Int) (i3 : Int) : Q := ⟨(tm 18 [(0, (AV.p (PV.list n0 c1))), (1, (AV.p (PV.int IntKind.i64 i2))), (5, (AV.p (PV.int IntKind.i64 i3)))]), (mm 18 [])⟩
def XBsHas_0a (_y : Unit) : Ext × Q := (Ext.ret, ⟨(tm 18 [(4, (AV.p (PV.bool true)))]), (mm 18 [])⟩)
def IBsHas_0a (_q : Ext × S) : Unit := ()
def XBsHas_0b (_y : Unit) : Ext × Q := (Ext.normal, ⟨(tm 18 []), (mm 18 [])⟩)
def IBsHas_0b (_q : Ext × S) : Unit := ()
abbrev YBsHas_0 : Type := (Unit) ⊕ ((Unit))
def XLBsHas_0 : XL YBsHas_0 := .more XBsHas_0a (.one XBsHas_0b)
def IBsHas_0 (q : Ext × S) : YBsHas_0 := bif (cE q.1 == 2) then (Sum.inl (IBsHas_0a q)) else (Sum.inr (IBsHas_0b q))
theorem XIBsHas_0a (y : Unit) : IBsHas_0 (xe (XBsHas_0a y)) = (Sum.inl y) := rfl
theorem XIBsHas_0b (y : Unit) : IBsHas_0 (xe (XBsHas_0b y)) = (Sum.inr y) := rfl
theorem XIBsHas_0 (y : YBsHas_0) : IBsHas_0 (xe (XLBsHas_0.fn y)) = y := (match y with | .inl y => XIBsHas_0a y | .inr y => XIBsHas_0b y)
noncomputable abbrev LBsHas_0 : Q → Option YBsHas_0 := lpO env a47.body 0 XLBsHas_0
noncomputable abbrev RBsHas_0 : Q → Option (Ext × S) := lpR env a47.body 0
theorem LBsHas_0a_of {s : Q} {y : Unit} (h : RBsHas_0 s = exO (XBsHas_0a y)) : LBsHas_0 s = some (Sum.inl y) := lpO_of IBsHas_0 XIBsHas_0 (y := (Sum.inl y)) h
theorem LBsHas_0b_of {s : Q} {y : Unit} (h : RBsHas_0 s = exO (XBsHas_0b y)) : LBsHas_0 s = some (Sum.inr y) := lpO_of IBsHas_0 XIBsHas_0 (y := (Sum.inr y)) h
theorem UBsHas : uniq ((blocksOf a47.body).map (·.1)) = true := by kernel_rfl
def BBsHas_0a (_F : FnT) (N : Q → Option (Ext × S)) (E : Ext × Q → Option (Ext × S)) (_L0 : Q → Option YBsHas_0) (n0 : Nat) (c1 : List PV) (i2 : Int) (i3 : Int) : Option (Ext × S) :=
  bif (decide (i3 < (n0 : Int))) then
    bif (decide (((0 : Int) ≤ i3) ∧ (i3 < (n0 : Int)))) then
      bindO (intC IntKind.i64 (c1[((Int.toNat i3) * 1)]?)) fun x0 =>
      bif (x0 == i2) then
        E (XBsHas_0a ())
      else N (TBsHas_0a n0 c1 i2 (w64 (i3 + (1 : Int))))
    else none
  else E (XBsHas_0b ())
theorem BBsHas_0a_eq (F : FnT) (N : Q → Option (Ext × S)) (E : Ext × Q → Option (Ext × S)) (L0 : Q → Option YBsHas_0) (n0 : Nat) (c1 : List PV) (i2 : Int) (i3 : Int) : semB (callP F EBsHas 20) s47 (loopT [⟨0, YBsHas_0, L0, XLBsHas_0⟩]) 400 (blkIn a47.body 0) N E (TBsHas_0a n0 c1 i2 i3) = BBsHas_0a F N E L0 n0 c1 i2 i3 := by kernel_rfl
theorem RBsHas_0a_of  (n0 : Nat) (c1 : List PV) (i2 : Int) (i3 : Int) {r : Ext × S} (h : BBsHas_0a (Fn env) RBsHas_0 exO LBsHas_0 n0 c1 i2 i3 = some r) : RBsHas_0 (TBsHas_0a n0 c1 i2 i3) = some r :=
  lp_of EBsHas_ok (by kernel_rfl) (lo_cons (lpO_ok UBsHas) lo_nil) (by kernel_rfl) ((BBsHas_0a_eq _ _ _ _ _ _ _ _).trans h)
def tBsHas (_F : FnT) (L0 : Q → Option YBsHas_0) (p0n : Nat) (p0c : List PV) (p1 : Int) : Option (Bool) :=
  bindO (L0 (TBsHas_0a p0n p0c p1 (0 : Int))) fun z =>
  Sum.elim (fun _y0 =>
    some true) (fun _y1 =>
    some false) z
theorem tBsHas_eq (F : FnT) (L0 : Q → Option YBsHas_0) (p0n : Nat) (p0c : List PV) (p1 : Int) : semF (callP F EBsHas 20) s47 (loopT [⟨0, YBsHas_0, L0, XLBsHas_0⟩]) 400 a47 [PV.list p0n p0c, PV.int IntKind.i64 p1] (fun rv => decR (RSh.one CK.bool) rv.pv) = tBsHas F L0 p0n p0c p1 := by kernel_rfl
noncomputable abbrev FBsHas (args : List PV) := Fn env 47 (RSh.one CK.bool) args
theorem FBsHas_of  (p0n : Nat) (p0c : List PV) (p1 : Int) {res : (Bool)} (h : tBsHas (Fn env) LBsHas_0 p0n p0c p1 = some res) : FBsHas [PV.list p0n p0c, PV.int IntKind.i64 p1] = some res :=
  fn_of EBsHas_ok rfl rfl (lo_cons (lpO_ok UBsHas) lo_nil) ((tBsHas_eq _ _ _ _ _).trans h)

end Gv
