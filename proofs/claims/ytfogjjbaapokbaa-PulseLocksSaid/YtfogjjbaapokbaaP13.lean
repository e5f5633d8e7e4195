/- What the functions do, round by round: P13. -/
import Derived.Test.YtfogjjbaapokbaaP3
namespace Gv
open Go
set_option maxRecDepth 100000

/-! ### pulse_polynomialError -/

def Epulse_polynomialError : List Entry := [.inl 94 a94 s94, .out 93 (RSh.tup [(Prod.mk false [(CK.int IntKind.i64)]), (Prod.mk false [(CK.int IntKind.i64)])])]
theorem Epulse_polynomialError_ok : ∀ e ∈ Epulse_polynomialError, EntOK env e := (ent_inl rfl (ent_out ent_nil))
theorem Upulse_polynomialError : uniq ((blocksOf a133.body).map (·.1)) = true := by kernel_rfl
def tpulse_polynomialError (F : FnT) (p0n : Nat) (p0c : List PV) : Option (Int) :=
  bindO (F 93 (RSh.tup [(Prod.mk false [(CK.int IntKind.i64)]), (Prod.mk false [(CK.int IntKind.i64)])]) [(PV.list p0n p0c), (PV.int IntKind.i64 (4 : Int)), (PV.fn 140 [(PV.imm [(PV.int IntKind.i64 (-60 : Int))] 0), (PV.imm [(PV.int IntKind.i64 (60 : Int))] 0)])]) fun (y0 : ((Int) × (Int))) =>
  some y0.2
theorem tpulse_polynomialError_eq (F : FnT) (p0n : Nat) (p0c : List PV) : semF (callP F Epulse_polynomialError 20) s133 (loopT []) 400 a133 [PV.list p0n p0c] (fun rv => decR (RSh.one (CK.int IntKind.i64)) rv.pv) = tpulse_polynomialError F p0n p0c := by kernel_rfl
noncomputable abbrev Fpulse_polynomialError (args : List PV) := Fn env 133 (RSh.one (CK.int IntKind.i64)) args
theorem Fpulse_polynomialError_of  (p0n : Nat) (p0c : List PV) {res : (Int)} (h : tpulse_polynomialError (Fn env) p0n p0c = some res) : Fpulse_polynomialError [PV.list p0n p0c] = some res :=
  fn_of Epulse_polynomialError_ok rfl rfl lo_nil ((tpulse_polynomialError_eq _ _ _).trans h)

/-! ### slices_Clone___int_int_ -/

def Eslices_Clone___int_int_ : List Entry := []
theorem Eslices_Clone___int_int__ok : ∀ e ∈ Eslices_Clone___int_int_, EntOK env e := ent_nil
theorem Uslices_Clone___int_int_ : uniq ((blocksOf a152.body).map (·.1)) = true := by kernel_rfl
def tslices_Clone___int_int_ (F : FnT) (p0n : Nat) (p0c : List PV) : Option ((Nat) × (List PV)) :=
  bif (decide (p0n ≠ 0)) then
    bif (decide (p0n = 0)) then
      some (0, [])
    else bif (decide ((List.length p0c) = (p0n * 1))) then
      bif (decide ((0 + p0n) ≤ big)) then
        bif (decide ((0 + p0n) = (0 + p0n))) then
          some ((0 + p0n), ([] ++ p0c))
        else none
      else none
    else none
  else none
theorem tslices_Clone___int_int__eq (F : FnT) (p0n : Nat) (p0c : List PV) : semF (callP F Eslices_Clone___int_int_ 20) s152 (loopT []) 400 a152 [PV.list p0n p0c] (fun rv => decR (RSh.one CK.list) rv.pv) = tslices_Clone___int_int_ F p0n p0c := by kernel_rfl
noncomputable abbrev Fslices_Clone___int_int_ (args : List PV) := Fn env 152 (RSh.one CK.list) args
theorem Fslices_Clone___int_int__of  (p0n : Nat) (p0c : List PV) {res : ((Nat) × (List PV))} (h : tslices_Clone___int_int_ (Fn env) p0n p0c = some res) : Fslices_Clone___int_int_ [PV.list p0n p0c] = some res :=
  fn_of Eslices_Clone___int_int__ok rfl rfl lo_nil ((tslices_Clone___int_int__eq _ _ _).trans h)

/-! ### pulse_hasNextRow -/

def Epulse_hasNextRow : List Entry := []
theorem Epulse_hasNextRow_ok : ∀ e ∈ Epulse_hasNextRow, EntOK env e := ent_nil
theorem Upulse_hasNextRow : uniq ((blocksOf a153.body).map (·.1)) = true := by kernel_rfl
def tpulse_hasNextRow (F : FnT) (p0n : Nat) (p0c : List PV) : Option (Bool) :=
  bif (decide (((0 : Int) ≤ (0 : Int)) ∧ ((0 : Int) < (p0n : Int)))) then
    bindO (intC IntKind.i64 (p0c[0]?)) fun x0 =>
    bif (decide (((0 : Int) ≤ (w64 ((p0n : Int) - (1 : Int)))) ∧ ((w64 ((p0n : Int) - (1 : Int))) < (p0n : Int)))) then
      bindO (intC IntKind.i64 (p0c[((Int.toNat (w64 ((p0n : Int) - (1 : Int)))) * 1)]?)) fun x1 =>
      bif (decide ((p0n : Int) > (1 : Int))) then
        bif (decide ((if ((w64 ((0 : Int) - x1)) > x1) then (w64 ((0 : Int) - x1)) else x1) > (if ((w64 ((0 : Int) - x0)) > x0) then (w64 ((0 : Int) - x0)) else x0))) then
          some true
        else some false
      else some false
    else none
  else none
theorem tpulse_hasNextRow_eq (F : FnT) (p0n : Nat) (p0c : List PV) : semF (callP F Epulse_hasNextRow 20) s153 (loopT []) 400 a153 [PV.list p0n p0c] (fun rv => decR (RSh.one CK.bool) rv.pv) = tpulse_hasNextRow F p0n p0c := by kernel_rfl
noncomputable abbrev Fpulse_hasNextRow (args : List PV) := Fn env 153 (RSh.one CK.bool) args
theorem Fpulse_hasNextRow_of  (p0n : Nat) (p0c : List PV) {res : (Bool)} (h : tpulse_hasNextRow (Fn env) p0n p0c = some res) : Fpulse_hasNextRow [PV.list p0n p0c] = some res :=
  fn_of Epulse_hasNextRow_ok rfl rfl lo_nil ((tpulse_hasNextRow_eq _ _ _).trans h)

/-! ### pulse_nextRow -/

def Epulse_nextRow : List Entry := []
theorem Epulse_nextRow_ok : ∀ e ∈ Epulse_nextRow, EntOK env e := ent_nil
def Tpulse_nextRow_0a (n0 : Nat) (c1 : List PV) (i2 : Int) (n3 : Nat) (i4 : Int) (i5 : Int) (c6 : List PV) : Q := ⟨(tm 43 [(0,(AV.p (PV.list n0 c1))),(3,(AV.p (PV.int IntKind.i64 i2))),(4,(AV.msl 10 0 n3 1)),(12,(AV.p (PV.int IntKind.i64 i4))),(13,(AV.p (PV.int IntKind.i64 i5)))]),(mm 43 [(10,(Bk.pcs true c6))])⟩
def Xpulse_nextRow_0a (y : Nat × List PV) : Ext × Q := (Ext.normal,⟨(tm 43 [(4,(AV.msl 10 0 y.1 1))]),(mm 43 [(10,(Bk.pcs true y.2))])⟩)
def Ipulse_nextRow_0a (q : Ext × S) : Nat × List PV := ((pA_msl2 (avT q.2 4)), (pB_pcs1 (avM q.2 10)))
abbrev Ypulse_nextRow_0 : Type := Nat × List PV
def XLpulse_nextRow_0 : XL Ypulse_nextRow_0 := .one Xpulse_nextRow_0a
def Ipulse_nextRow_0 (q : Ext × S) : Ypulse_nextRow_0 := (Ipulse_nextRow_0a q)
theorem XIpulse_nextRow_0a (y : Nat × List PV) : Ipulse_nextRow_0 (xe (Xpulse_nextRow_0a y)) = y := (show Ipulse_nextRow_0 (xe (Xpulse_nextRow_0a y)) = (y.1, ((y.2.map AV.p).map pA_p)) from rfl).trans (by simp only [map_back])
theorem XIpulse_nextRow_0 (y : Ypulse_nextRow_0) : Ipulse_nextRow_0 (xe (XLpulse_nextRow_0.fn y)) = y := XIpulse_nextRow_0a y
noncomputable abbrev Lpulse_nextRow_0 : Q → Option Ypulse_nextRow_0 := lpO env a154.body 0 XLpulse_nextRow_0
noncomputable abbrev Rpulse_nextRow_0 : Q → Option (Ext × S) := lpR env a154.body 0
theorem Lpulse_nextRow_0a_of {s : Q} {y : Nat × List PV} (h : Rpulse_nextRow_0 s = exO (Xpulse_nextRow_0a y)) : Lpulse_nextRow_0 s = some y := lpO_of Ipulse_nextRow_0 XIpulse_nextRow_0 (y := y) h
theorem Upulse_nextRow : uniq ((blocksOf a154.body).map (·.1)) = true := by kernel_rfl
def Bpulse_nextRow_0a (F : FnT) (N : Q → Option (Ext × S)) (E : Ext × Q → Option (Ext × S)) (L0 : Q → Option Ypulse_nextRow_0) (n0 : Nat) (c1 : List PV) (i2 : Int) (n3 : Nat) (i4 : Int) (i5 : Int) (c6 : List PV) : Option (Ext × S) :=
  bif (decide (i5 < i4)) then
    bif (decide (((0 : Int) ≤ i2) ∧ (i2 < (n0 : Int)))) then
      bindO (intC IntKind.i64 (c1[((Int.toNat i2) * 1)]?)) fun x0 =>
      bif (decide (((0 : Int) ≤ (w64 (i5 + (1 : Int)))) ∧ ((w64 (i5 + (1 : Int))) < (n0 : Int)))) then
        bindO (intC IntKind.i64 (c1[((Int.toNat (w64 (i5 + (1 : Int)))) * 1)]?)) fun x1 =>
        bif (decide (((0 : Int) ≤ (0 : Int)) ∧ ((0 : Int) < (n0 : Int)))) then
          bindO (intC IntKind.i64 (c1[0]?)) fun x2 =>
          bif (decide (((0 : Int) ≤ (w64 ((w64 (i2 - (1 : Int))) - i5))) ∧ ((w64 ((w64 (i2 - (1 : Int))) - i5)) < (n0 : Int)))) then
            bindO (intC IntKind.i64 (c1[((Int.toNat (w64 ((w64 (i2 - (1 : Int))) - i5))) * 1)]?)) fun x3 =>
            bif (decide (((0 : Int) ≤ i5) ∧ (i5 < (n3 : Int)))) then
              bif (decide (((0 + ((Int.toNat i5) * 1)) + 1) ≤ (List.length c6))) then
                N (Tpulse_nextRow_0a n0 c1 i2 n3 i4 (w64 (i5 + (1 : Int))) (over c6 (0 + ((Int.toNat i5) * 1)) [(PV.int IntKind.i64 (w64 ((w64 (x0 * x1)) - (w64 (x2 * x3)))))]))
              else none
            else none
          else none
        else none
      else none
    else none
  else E (Xpulse_nextRow_0a (n3, c6))
theorem Bpulse_nextRow_0a_eq (F : FnT) (N : Q → Option (Ext × S)) (E : Ext × Q → Option (Ext × S)) (L0 : Q → Option Ypulse_nextRow_0) (n0 : Nat) (c1 : List PV) (i2 : Int) (n3 : Nat) (i4 : Int) (i5 : Int) (c6 : List PV) : semB (callP F Epulse_nextRow 20) s154 (loopT [⟨0, Ypulse_nextRow_0, L0, XLpulse_nextRow_0⟩]) 400 (blkIn a154.body 0) N E (Tpulse_nextRow_0a n0 c1 i2 n3 i4 i5 c6) = Bpulse_nextRow_0a F N E L0 n0 c1 i2 n3 i4 i5 c6 := by kernel_rfl
theorem Rpulse_nextRow_0a_of  (n0 : Nat) (c1 : List PV) (i2 : Int) (n3 : Nat) (i4 : Int) (i5 : Int) (c6 : List PV) {r : Ext × S} (h : Bpulse_nextRow_0a (Fn env) Rpulse_nextRow_0 exO Lpulse_nextRow_0 n0 c1 i2 n3 i4 i5 c6 = some r) : Rpulse_nextRow_0 (Tpulse_nextRow_0a n0 c1 i2 n3 i4 i5 c6) = some r :=
  lp_of Epulse_nextRow_ok (by kernel_rfl) (lo_cons (lpO_ok Upulse_nextRow) lo_nil) (by kernel_rfl) ((Bpulse_nextRow_0a_eq _ _ _ _ _ _ _ _ _ _ _).trans h)
def tpulse_nextRow (F : FnT) (L0 : Q → Option Ypulse_nextRow_0) (p0n : Nat) (p0c : List PV) : Option ((Nat) × (List PV)) :=
  bif (decide (((w64 ((p0n : Int) - (1 : Int))) = (w64 ((p0n : Int) - (1 : Int)))) ∧ (((0 : Int) ≤ (w64 ((p0n : Int) - (1 : Int)))) ∧ ((w64 ((p0n : Int) - (1 : Int))) ≤ (big : Int))))) then
    bindO (L0 (Tpulse_nextRow_0a p0n p0c (w64 ((p0n : Int) - (1 : Int))) (Int.toNat (w64 ((p0n : Int) - (1 : Int)))) ((Int.toNat (w64 ((p0n : Int) - (1 : Int)))) : Int) (0 : Int) (rep [(PV.int IntKind.i64 (0 : Int))] (Int.toNat (w64 ((p0n : Int) - (1 : Int))))))) fun y0 =>
    bif (decide ((0 + (y0.1 * 1)) ≤ (List.length y0.2))) then
      some (y0.1, (List.take (y0.1 * 1) (List.drop 0 y0.2)))
    else none
  else none
theorem tpulse_nextRow_eq (F : FnT) (L0 : Q → Option Ypulse_nextRow_0) (p0n : Nat) (p0c : List PV) : semF (callP F Epulse_nextRow 20) s154 (loopT [⟨0, Ypulse_nextRow_0, L0, XLpulse_nextRow_0⟩]) 400 a154 [PV.list p0n p0c] (fun rv => decR (RSh.one CK.list) rv.pv) = tpulse_nextRow F L0 p0n p0c := by kernel_rfl
noncomputable abbrev Fpulse_nextRow (args : List PV) := Fn env 154 (RSh.one CK.list) args
theorem Fpulse_nextRow_of  (p0n : Nat) (p0c : List PV) {res : ((Nat) × (List PV))} (h : tpulse_nextRow (Fn env) Lpulse_nextRow_0 p0n p0c = some res) : Fpulse_nextRow [PV.list p0n p0c] = some res :=
  fn_of Epulse_nextRow_ok rfl rfl (lo_cons (lpO_ok Upulse_nextRow) lo_nil) ((tpulse_nextRow_eq _ _ _ _).trans h)

/-! ### pulse_rowsOf -/

def Epulse_rowsOf : List Entry := [.out 152 (RSh.one CK.list), .out 153 (RSh.one CK.bool), .out 154 (RSh.one CK.list)]
theorem Epulse_rowsOf_ok : ∀ e ∈ Epulse_rowsOf, EntOK env e := (ent_out (ent_out (ent_out ent_nil)))
def Tpulse_rowsOf_0a (n0 : Nat) (c1 : List PV) (n2 : Nat) (c3 : List PV) : Q := ⟨(tm 18 [(3,(AV.p (PV.list n0 c1))),(4,(AV.lit 1 1 [(PV.list n2 c3)]))]),(mm 18 [])⟩
def Tpulse_rowsOf_0b (n0 : Nat) (c1 : List PV) (n2 : Nat) (c3 : List PV) (n4 : Nat) : Q := ⟨(tm 18 [(3,(AV.p (PV.list n0 c1))),(4,(AV.app 16 n2 1 c3))]),(mm 18 [(16,(Bk.buf n4))])⟩
def Xpulse_rowsOf_0a (y : Nat × List PV) : Ext × Q := (Ext.normal,⟨(tm 18 [(4,(AV.lit 1 1 [(PV.list y.1 y.2)]))]),(mm 18 [])⟩)
def Ipulse_rowsOf_0a (q : Ext × S) : Nat × List PV := ((pP_list0 (hdP (pA_lit2 (avT q.2 4)))), (pP_list1 (hdP (pA_lit2 (avT q.2 4)))))
def Xpulse_rowsOf_0b (y : Nat × List PV × Nat) : Ext × Q := (Ext.normal,⟨(tm 18 [(4,(AV.app 16 y.1 1 y.2.1))]),(mm 18 [(16,(Bk.buf y.2.2))])⟩)
def Ipulse_rowsOf_0b (q : Ext × S) : Nat × List PV × Nat := ((pA_app1 (avT q.2 4)), (pA_app3 (avT q.2 4)), (pB_buf0 (avM q.2 16)))
abbrev Ypulse_rowsOf_0 : Type := (Nat × List PV) ⊕ ((Nat × List PV × Nat))
def XLpulse_rowsOf_0 : XL Ypulse_rowsOf_0 := .more Xpulse_rowsOf_0a (.one Xpulse_rowsOf_0b)
def Ipulse_rowsOf_0 (q : Ext × S) : Ypulse_rowsOf_0 := bif (cA (avT q.2 4) == 4) then (Sum.inl (Ipulse_rowsOf_0a q)) else (Sum.inr (Ipulse_rowsOf_0b q))
theorem XIpulse_rowsOf_0a (y : Nat × List PV) : Ipulse_rowsOf_0 (xe (Xpulse_rowsOf_0a y)) = (Sum.inl y) := rfl
theorem XIpulse_rowsOf_0b (y : Nat × List PV × Nat) : Ipulse_rowsOf_0 (xe (Xpulse_rowsOf_0b y)) = (Sum.inr y) := rfl
theorem XIpulse_rowsOf_0 (y : Ypulse_rowsOf_0) : Ipulse_rowsOf_0 (xe (XLpulse_rowsOf_0.fn y)) = y := (match y with | .inl y => XIpulse_rowsOf_0a y | .inr y => XIpulse_rowsOf_0b y)
noncomputable abbrev Lpulse_rowsOf_0 : Q → Option Ypulse_rowsOf_0 := lpO env a134.body 0 XLpulse_rowsOf_0
noncomputable abbrev Rpulse_rowsOf_0 : Q → Option (Ext × S) := lpR env a134.body 0
theorem Lpulse_rowsOf_0a_of {s : Q} {y : Nat × List PV} (h : Rpulse_rowsOf_0 s = exO (Xpulse_rowsOf_0a y)) : Lpulse_rowsOf_0 s = some (Sum.inl y) := lpO_of Ipulse_rowsOf_0 XIpulse_rowsOf_0 (y := (Sum.inl y)) h
theorem Lpulse_rowsOf_0b_of {s : Q} {y : Nat × List PV × Nat} (h : Rpulse_rowsOf_0 s = exO (Xpulse_rowsOf_0b y)) : Lpulse_rowsOf_0 s = some (Sum.inr y) := lpO_of Ipulse_rowsOf_0 XIpulse_rowsOf_0 (y := (Sum.inr y)) h
theorem Upulse_rowsOf : uniq ((blocksOf a134.body).map (·.1)) = true := by kernel_rfl
def Bpulse_rowsOf_0a (F : FnT) (N : Q → Option (Ext × S)) (E : Ext × Q → Option (Ext × S)) (L0 : Q → Option Ypulse_rowsOf_0) (n0 : Nat) (c1 : List PV) (n2 : Nat) (c3 : List PV) : Option (Ext × S) :=
  bindO (F 153 (RSh.one CK.bool) [(PV.list n0 c1)]) fun (y0 : (Bool)) =>
  bif y0 then
    bindO (F 154 (RSh.one CK.list) [(PV.list n0 c1)]) fun (y1 : ((Nat) × (List PV))) =>
    N (Tpulse_rowsOf_0b y1.1 y1.2 2 [(PV.list n2 c3), (PV.list y1.1 y1.2)] 2)
  else E (Xpulse_rowsOf_0a (n2, c3))
theorem Bpulse_rowsOf_0a_eq (F : FnT) (N : Q → Option (Ext × S)) (E : Ext × Q → Option (Ext × S)) (L0 : Q → Option Ypulse_rowsOf_0) (n0 : Nat) (c1 : List PV) (n2 : Nat) (c3 : List PV) : semB (callP F Epulse_rowsOf 20) s134 (loopT [⟨0, Ypulse_rowsOf_0, L0, XLpulse_rowsOf_0⟩]) 400 (blkIn a134.body 0) N E (Tpulse_rowsOf_0a n0 c1 n2 c3) = Bpulse_rowsOf_0a F N E L0 n0 c1 n2 c3 := by kernel_rfl
theorem Rpulse_rowsOf_0a_of  (n0 : Nat) (c1 : List PV) (n2 : Nat) (c3 : List PV) {r : Ext × S} (h : Bpulse_rowsOf_0a (Fn env) Rpulse_rowsOf_0 exO Lpulse_rowsOf_0 n0 c1 n2 c3 = some r) : Rpulse_rowsOf_0 (Tpulse_rowsOf_0a n0 c1 n2 c3) = some r :=
  lp_of Epulse_rowsOf_ok (by kernel_rfl) (lo_cons (lpO_ok Upulse_rowsOf) lo_nil) (by kernel_rfl) ((Bpulse_rowsOf_0a_eq _ _ _ _ _ _ _ _).trans h)
def Bpulse_rowsOf_0b (F : FnT) (N : Q → Option (Ext × S)) (E : Ext × Q → Option (Ext × S)) (L0 : Q → Option Ypulse_rowsOf_0) (n0 : Nat) (c1 : List PV) (n2 : Nat) (c3 : List PV) (n4 : Nat) : Option (Ext × S) :=
  bindO (F 153 (RSh.one CK.bool) [(PV.list n0 c1)]) fun (y0 : (Bool)) =>
  bif y0 then
    bindO (F 154 (RSh.one CK.list) [(PV.list n0 c1)]) fun (y1 : ((Nat) × (List PV))) =>
    bif (decide ((n4 = n2) ∧ ((n2 + 1) ≤ big))) then
      N (Tpulse_rowsOf_0b y1.1 y1.2 (n2 + 1) (c3 ++ [(PV.list y1.1 y1.2)]) (n2 + 1))
    else none
  else E (Xpulse_rowsOf_0b (n2, c3, n4))
theorem Bpulse_rowsOf_0b_eq (F : FnT) (N : Q → Option (Ext × S)) (E : Ext × Q → Option (Ext × S)) (L0 : Q → Option Ypulse_rowsOf_0) (n0 : Nat) (c1 : List PV) (n2 : Nat) (c3 : List PV) (n4 : Nat) : semB (callP F Epulse_rowsOf 20) s134 (loopT [⟨0, Ypulse_rowsOf_0, L0, XLpulse_rowsOf_0⟩]) 400 (blkIn a134.body 0) N E (Tpulse_rowsOf_0b n0 c1 n2 c3 n4) = Bpulse_rowsOf_0b F N E L0 n0 c1 n2 c3 n4 := by kernel_rfl
theorem Rpulse_rowsOf_0b_of  (n0 : Nat) (c1 : List PV) (n2 : Nat) (c3 : List PV) (n4 : Nat) {r : Ext × S} (h : Bpulse_rowsOf_0b (Fn env) Rpulse_rowsOf_0 exO Lpulse_rowsOf_0 n0 c1 n2 c3 n4 = some r) : Rpulse_rowsOf_0 (Tpulse_rowsOf_0b n0 c1 n2 c3 n4) = some r :=
  lp_of Epulse_rowsOf_ok (by kernel_rfl) (lo_cons (lpO_ok Upulse_rowsOf) lo_nil) (by kernel_rfl) ((Bpulse_rowsOf_0b_eq _ _ _ _ _ _ _ _ _).trans h)
def tpulse_rowsOf (F : FnT) (L0 : Q → Option Ypulse_rowsOf_0) (p0n : Nat) (p0c : List PV) : Option ((Nat) × (List PV)) :=
  bindO (F 152 (RSh.one CK.list) [(PV.list p0n p0c)]) fun (y0 : ((Nat) × (List PV))) =>
  bindO (L0 (Tpulse_rowsOf_0a y0.1 y0.2 y0.1 y0.2)) fun z =>
  Sum.elim (fun y1 =>
    some (1, [(PV.list y1.1 y1.2)])) (fun y2 =>
    bif (decide (y2.2.2 = y2.1)) then
      some (y2.1, y2.2.1)
    else none) z
theorem tpulse_rowsOf_eq (F : FnT) (L0 : Q → Option Ypulse_rowsOf_0) (p0n : Nat) (p0c : List PV) : semF (callP F Epulse_rowsOf 20) s134 (loopT [⟨0, Ypulse_rowsOf_0, L0, XLpulse_rowsOf_0⟩]) 400 a134 [PV.list p0n p0c] (fun rv => decR (RSh.one CK.list) rv.pv) = tpulse_rowsOf F L0 p0n p0c := by kernel_rfl
noncomputable abbrev Fpulse_rowsOf (args : List PV) := Fn env 134 (RSh.one CK.list) args
theorem Fpulse_rowsOf_of  (p0n : Nat) (p0c : List PV) {res : ((Nat) × (List PV))} (h : tpulse_rowsOf (Fn env) Lpulse_rowsOf_0 p0n p0c = some res) : Fpulse_rowsOf [PV.list p0n p0c] = some res :=
  fn_of Epulse_rowsOf_ok rfl rfl (lo_cons (lpO_ok Upulse_rowsOf) lo_nil) ((tpulse_rowsOf_eq _ _ _ _).trans h)

/-! ### pulse_isLocked -/

def Epulse_isLocked : List Entry := [.out 134 (RSh.one CK.list)]
theorem Epulse_isLocked_ok : ∀ e ∈ Epulse_isLocked, EntOK env e := (ent_out ent_nil)
theorem Upulse_isLocked : uniq ((blocksOf a135.body).map (·.1)) = true := by kernel_rfl
def tpulse_isLocked (F : FnT) (p0n : Nat) (p0c : List PV) : Option (Bool) :=
  bindO (F 134 (RSh.one CK.list) [(PV.list p0n p0c)]) fun (y0 : ((Nat) × (List PV))) =>
  bif (decide (((0 : Int) ≤ (w64 ((y0.1 : Int) - (1 : Int)))) ∧ ((w64 ((y0.1 : Int) - (1 : Int))) < (y0.1 : Int)))) then
    bindO (listC (y0.2[((Int.toNat (w64 ((y0.1 : Int) - (1 : Int)))) * 1)]?)) fun x1 =>
    bif ((x1.1 : Int) == (1 : Int)) then
      bif (decide (((0 : Int) ≤ (0 : Int)) ∧ ((0 : Int) < (x1.1 : Int)))) then
        bindO (intC IntKind.i64 (x1.2[0]?)) fun x2 =>
        bif (x2 != (0 : Int)) then
          some true
        else some false
      else none
    else some false
  else none
theorem tpulse_isLocked_eq (F : FnT) (p0n : Nat) (p0c : List PV) : semF (callP F Epulse_isLocked 20) s135 (loopT []) 400 a135 [PV.list p0n p0c] (fun rv => decR (RSh.one CK.bool) rv.pv) = tpulse_isLocked F p0n p0c := by kernel_rfl
noncomputable abbrev Fpulse_isLocked (args : List PV) := Fn env 135 (RSh.one CK.bool) args
theorem Fpulse_isLocked_of  (p0n : Nat) (p0c : List PV) {res : (Bool)} (h : tpulse_isLocked (Fn env) p0n p0c = some res) : Fpulse_isLocked [PV.list p0n p0c] = some res :=
  fn_of Epulse_isLocked_ok rfl rfl lo_nil ((tpulse_isLocked_eq _ _ _).trans h)

/-! ### pulse_isLockedWith -/

def Epulse_isLockedWith : List Entry := [.out 133 (RSh.one (CK.int IntKind.i64)), .out 135 (RSh.one CK.bool)]
theorem Epulse_isLockedWith_ok : ∀ e ∈ Epulse_isLockedWith, EntOK env e := (ent_out (ent_out ent_nil))
def Tpulse_isLockedWith_0a (n0 : Nat) (c1 : List PV) (n2 : Nat) (c3 : List PV) (i4 : Int) (n5 : Nat) (i6 : Int) (i7 : Int) (c8 : List PV) : Q := ⟨(tm 39 [(0,(AV.p (PV.list n0 c1))),(1,(AV.p (PV.list n2 c3))),(2,(AV.p (PV.int IntKind.i64 i4))),(7,(AV.msl 11 0 n5 1)),(13,(AV.p (PV.int IntKind.i64 i6))),(14,(AV.p (PV.int IntKind.i64 i7)))]),(mm 39 [(11,(Bk.pcs true c8))])⟩
def Xpulse_isLockedWith_0a (y : Nat × List PV) : Ext × Q := (Ext.normal,⟨(tm 39 [(7,(AV.msl 11 0 y.1 1))]),(mm 39 [(11,(Bk.pcs true y.2))])⟩)
def Ipulse_isLockedWith_0a (q : Ext × S) : Nat × List PV := ((pA_msl2 (avT q.2 7)), (pB_pcs1 (avM q.2 11)))
abbrev Ypulse_isLockedWith_0 : Type := Nat × List PV
def XLpulse_isLockedWith_0 : XL Ypulse_isLockedWith_0 := .one Xpulse_isLockedWith_0a
def Ipulse_isLockedWith_0 (q : Ext × S) : Ypulse_isLockedWith_0 := (Ipulse_isLockedWith_0a q)
theorem XIpulse_isLockedWith_0a (y : Nat × List PV) : Ipulse_isLockedWith_0 (xe (Xpulse_isLockedWith_0a y)) = y := (show Ipulse_isLockedWith_0 (xe (Xpulse_isLockedWith_0a y)) = (y.1, ((y.2.map AV.p).map pA_p)) from rfl).trans (by simp only [map_back])
theorem XIpulse_isLockedWith_0 (y : Ypulse_isLockedWith_0) : Ipulse_isLockedWith_0 (xe (XLpulse_isLockedWith_0.fn y)) = y := XIpulse_isLockedWith_0a y
noncomputable abbrev Lpulse_isLockedWith_0 : Q → Option Ypulse_isLockedWith_0 := lpO env a136.body 0 XLpulse_isLockedWith_0
noncomputable abbrev Rpulse_isLockedWith_0 : Q → Option (Ext × S) := lpR env a136.body 0
theorem Lpulse_isLockedWith_0a_of {s : Q} {y : Nat × List PV} (h : Rpulse_isLockedWith_0 s = exO (Xpulse_isLockedWith_0a y)) : Lpulse_isLockedWith_0 s = some y := lpO_of Ipulse_isLockedWith_0 XIpulse_isLockedWith_0 (y := y) h
theorem Upulse_isLockedWith : uniq ((blocksOf a136.body).map (·.1)) = true := by kernel_rfl
def Bpulse_isLockedWith_0a (F : FnT) (N : Q → Option (Ext × S)) (E : Ext × Q → Option (Ext × S)) (L0 : Q → Option Ypulse_isLockedWith_0) (n0 : Nat) (c1 : List PV) (n2 : Nat) (c3 : List PV) (i4 : Int) (n5 : Nat) (i6 : Int) (i7 : Int) (c8 : List PV) : Option (Ext × S) :=
  bif (decide (i7 < i6)) then
    bif (decide (((0 : Int) ≤ i7) ∧ (i7 < (n0 : Int)))) then
      bindO (intC IntKind.i64 (c1[((Int.toNat i7) * 1)]?)) fun x0 =>
      bif (decide (((0 : Int) ≤ i7) ∧ (i7 < (n2 : Int)))) then
        bindO (intC IntKind.i64 (c3[((Int.toNat i7) * 1)]?)) fun x1 =>
        bif (decide (((0 : Int) ≤ i7) ∧ (i7 < (n5 : Int)))) then
          bif (decide (((0 + ((Int.toNat i7) * 1)) + 1) ≤ (List.length c8))) then
            N (Tpulse_isLockedWith_0a n0 c1 n2 c3 i4 n5 i6 (w64 (i7 + (1 : Int))) (over c8 (0 + ((Int.toNat i7) * 1)) [(PV.int IntKind.i64 (w64 (x0 + (w64 (i4 * x1)))))]))
          else none
        else none
      else none
    else none
  else E (Xpulse_isLockedWith_0a (n5, c8))
theorem Bpulse_isLockedWith_0a_eq (F : FnT) (N : Q → Option (Ext × S)) (E : Ext × Q → Option (Ext × S)) (L0 : Q → Option Ypulse_isLockedWith_0) (n0 : Nat) (c1 : List PV) (n2 : Nat) (c3 : List PV) (i4 : Int) (n5 : Nat) (i6 : Int) (i7 : Int) (c8 : List PV) : semB (callP F Epulse_isLockedWith 20) s136 (loopT [⟨0, Ypulse_isLockedWith_0, L0, XLpulse_isLockedWith_0⟩]) 400 (blkIn a136.body 0) N E (Tpulse_isLockedWith_0a n0 c1 n2 c3 i4 n5 i6 i7 c8) = Bpulse_isLockedWith_0a F N E L0 n0 c1 n2 c3 i4 n5 i6 i7 c8 := by kernel_rfl
theorem Rpulse_isLockedWith_0a_of  (n0 : Nat) (c1 : List PV) (n2 : Nat) (c3 : List PV) (i4 : Int) (n5 : Nat) (i6 : Int) (i7 : Int) (c8 : List PV) {r : Ext × S} (h : Bpulse_isLockedWith_0a (Fn env) Rpulse_isLockedWith_0 exO Lpulse_isLockedWith_0 n0 c1 n2 c3 i4 n5 i6 i7 c8 = some r) : Rpulse_isLockedWith_0 (Tpulse_isLockedWith_0a n0 c1 n2 c3 i4 n5 i6 i7 c8) = some r :=
  lp_of Epulse_isLockedWith_ok (by kernel_rfl) (lo_cons (lpO_ok Upulse_isLockedWith) lo_nil) (by kernel_rfl) ((Bpulse_isLockedWith_0a_eq _ _ _ _ _ _ _ _ _ _ _ _ _).trans h)
def tpulse_isLockedWith (F : FnT) (L0 : Q → Option Ypulse_isLockedWith_0) (p0n : Nat) (p0c : List PV) (p1n : Nat) (p1c : List PV) (p2 : Int) : Option (Bool) :=
  bif (decide (((p0n : Int) = (p0n : Int)) ∧ (((0 : Int) ≤ (p0n : Int)) ∧ ((p0n : Int) ≤ (big : Int))))) then
    bindO (L0 (Tpulse_isLockedWith_0a p0n p0c p1n p1c p2 (Int.toNat (p0n : Int)) ((Int.toNat (p0n : Int)) : Int) (0 : Int) (rep [(PV.int IntKind.i64 (0 : Int))] (Int.toNat (p0n : Int))))) fun y0 =>
    bif (decide ((0 + (y0.1 * 1)) ≤ (List.length y0.2))) then
      bindO (F 133 (RSh.one (CK.int IntKind.i64)) [(PV.list y0.1 (List.take (y0.1 * 1) (List.drop 0 y0.2)))]) fun (y1 : (Int)) =>
      bif (y1 == (0 : Int)) then
        bif (decide ((0 + (y0.1 * 1)) ≤ (List.length y0.2))) then
          bindO (F 135 (RSh.one CK.bool) [(PV.list y0.1 (List.take (y0.1 * 1) (List.drop 0 y0.2)))]) fun (y2 : (Bool)) =>
          bif y2 then
            some true
          else some false
        else none
      else some false
    else none
  else none
theorem tpulse_isLockedWith_eq (F : FnT) (L0 : Q → Option Ypulse_isLockedWith_0) (p0n : Nat) (p0c : List PV) (p1n : Nat) (p1c : List PV) (p2 : Int) : semF (callP F Epulse_isLockedWith 20) s136 (loopT [⟨0, Ypulse_isLockedWith_0, L0, XLpulse_isLockedWith_0⟩]) 400 a136 [PV.list p0n p0c, PV.list p1n p1c, PV.int IntKind.i64 p2] (fun rv => decR (RSh.one CK.bool) rv.pv) = tpulse_isLockedWith F L0 p0n p0c p1n p1c p2 := by kernel_rfl
noncomputable abbrev Fpulse_isLockedWith (args : List PV) := Fn env 136 (RSh.one CK.bool) args
theorem Fpulse_isLockedWith_of  (p0n : Nat) (p0c : List PV) (p1n : Nat) (p1c : List PV) (p2 : Int) {res : (Bool)} (h : tpulse_isLockedWith (Fn env) Lpulse_isLockedWith_0 p0n p0c p1n p1c p2 = some res) : Fpulse_isLockedWith [PV.list p0n p0c, PV.list p1n p1c, PV.int IntKind.i64 p2] = some res :=
  fn_of Epulse_isLockedWith_ok rfl rfl (lo_cons (lpO_ok Upulse_isLockedWith) lo_nil) ((tpulse_isLockedWith_eq _ _ _ _ _ _ _).trans h)

/-! ### pulse_LockRows -/

def Epulse_LockRows : List Entry := [.out 133 (RSh.one (CK.int IntKind.i64)), .out 134 (RSh.one CK.list)]
theorem Epulse_LockRows_ok : ∀ e ∈ Epulse_LockRows, EntOK env e := (ent_out (ent_out ent_nil))
theorem Upulse_LockRows : uniq ((blocksOf a77.body).map (·.1)) = true := by kernel_rfl
def tpulse_LockRows (F : FnT) (p0n : Nat) (p0c : List PV) : Option (((Nat) × (List PV)) × (Int)) :=
  bindO (F 133 (RSh.one (CK.int IntKind.i64)) [(PV.list p0n p0c)]) fun (y0 : (Int)) =>
  bif (y0 != (0 : Int)) then
    some ((0, []), y0)
  else bindO (F 134 (RSh.one CK.list) [(PV.list p0n p0c)]) fun (y1 : ((Nat) × (List PV))) =>
  some ((y1.1, y1.2), (0 : Int))
theorem tpulse_LockRows_eq (F : FnT) (p0n : Nat) (p0c : List PV) : semF (callP F Epulse_LockRows 20) s77 (loopT []) 400 a77 [PV.list p0n p0c] (fun rv => decR (RSh.tup [(Prod.mk false [CK.list]), (Prod.mk false [(CK.int IntKind.i64)])]) rv.pv) = tpulse_LockRows F p0n p0c := by kernel_rfl
noncomputable abbrev Fpulse_LockRows (args : List PV) := Fn env 77 (RSh.tup [(Prod.mk false [CK.list]), (Prod.mk false [(CK.int IntKind.i64)])]) args
theorem Fpulse_LockRows_of  (p0n : Nat) (p0c : List PV) {res : (((Nat) × (List PV)) × (Int))} (h : tpulse_LockRows (Fn env) p0n p0c = some res) : Fpulse_LockRows [PV.list p0n p0c] = some res :=
  fn_of Epulse_LockRows_ok rfl rfl lo_nil ((tpulse_LockRows_eq _ _ _).trans h)

/-! ### pulse_IsLocked -/

def Epulse_IsLocked : List Entry := [.out 133 (RSh.one (CK.int IntKind.i64)), .out 135 (RSh.one CK.bool)]
theorem Epulse_IsLocked_ok : ∀ e ∈ Epulse_IsLocked, EntOK env e := (ent_out (ent_out ent_nil))
theorem Upulse_IsLocked : uniq ((blocksOf a79.body).map (·.1)) = true := by kernel_rfl
def tpulse_IsLocked (F : FnT) (p0n : Nat) (p0c : List PV) : Option ((Bool) × (Int)) :=
  bindO (F 133 (RSh.one (CK.int IntKind.i64)) [(PV.list p0n p0c)]) fun (y0 : (Int)) =>
  bif (y0 != (0 : Int)) then
    some (false, y0)
  else bindO (F 135 (RSh.one CK.bool) [(PV.list p0n p0c)]) fun (y1 : (Bool)) =>
  bif y1 then
    some (true, (0 : Int))
  else some (false, (0 : Int))
theorem tpulse_IsLocked_eq (F : FnT) (p0n : Nat) (p0c : List PV) : semF (callP F Epulse_IsLocked 20) s79 (loopT []) 400 a79 [PV.list p0n p0c] (fun rv => decR (RSh.tup [(Prod.mk false [CK.bool]), (Prod.mk false [(CK.int IntKind.i64)])]) rv.pv) = tpulse_IsLocked F p0n p0c := by kernel_rfl
noncomputable abbrev Fpulse_IsLocked (args : List PV) := Fn env 79 (RSh.tup [(Prod.mk false [CK.bool]), (Prod.mk false [(CK.int IntKind.i64)])]) args
theorem Fpulse_IsLocked_of  (p0n : Nat) (p0c : List PV) {res : ((Bool) × (Int))} (h : tpulse_IsLocked (Fn env) p0n p0c = some res) : Fpulse_IsLocked [PV.list p0n p0c] = some res :=
  fn_of Epulse_IsLocked_ok rfl rfl lo_nil ((tpulse_IsLocked_eq _ _ _).trans h)

/-! ### pulse_MarginOf -/

def Epulse_MarginOf : List Entry := [.out 133 (RSh.one (CK.int IntKind.i64)), .out 105 (RSh.one (CK.int IntKind.i64)), .out 92 (RSh.one (CK.int IntKind.i64)), .out 91 (RSh.one (CK.int IntKind.i64)), .out 135 (RSh.one CK.bool), .out 136 (RSh.one CK.bool)]
theorem Epulse_MarginOf_ok : ∀ e ∈ Epulse_MarginOf, EntOK env e := (ent_out (ent_out (ent_out (ent_out (ent_out (ent_out ent_nil))))))
def Tpulse_MarginOf_0a (n0 : Nat) (c1 : List PV) (n2 : Nat) (c3 : List PV) (i4 : Int) (i5 : Int) : Q := ⟨(tm 43 [(0,(AV.p (PV.list n0 c1))),(1,(AV.p (PV.list n2 c3))),(2,(AV.p (PV.int IntKind.i64 i4))),(9,(AV.p (PV.int IntKind.i64 i5)))]),(mm 43 [])⟩
def Xpulse_MarginOf_0a (y : Int) : Ext × Q := (Ext.normal,⟨(tm 43 [(9,(AV.p (PV.int IntKind.i64 y)))]),(mm 43 [])⟩)
def Ipulse_MarginOf_0a (q : Ext × S) : Int := (pP_int1 (pA_p (avT q.2 9)))
abbrev Ypulse_MarginOf_0 : Type := Int
def XLpulse_MarginOf_0 : XL Ypulse_MarginOf_0 := .one Xpulse_MarginOf_0a
def Ipulse_MarginOf_0 (q : Ext × S) : Ypulse_MarginOf_0 := (Ipulse_MarginOf_0a q)
theorem XIpulse_MarginOf_0a (y : Int) : Ipulse_MarginOf_0 (xe (Xpulse_MarginOf_0a y)) = y := rfl
theorem XIpulse_MarginOf_0 (y : Ypulse_MarginOf_0) : Ipulse_MarginOf_0 (xe (XLpulse_MarginOf_0.fn y)) = y := XIpulse_MarginOf_0a y
noncomputable abbrev Lpulse_MarginOf_0 : Q → Option Ypulse_MarginOf_0 := lpO env a80.body 0 XLpulse_MarginOf_0
noncomputable abbrev Rpulse_MarginOf_0 : Q → Option (Ext × S) := lpR env a80.body 0
theorem Lpulse_MarginOf_0a_of {s : Q} {y : Int} (h : Rpulse_MarginOf_0 s = exO (Xpulse_MarginOf_0a y)) : Lpulse_MarginOf_0 s = some y := lpO_of Ipulse_MarginOf_0 XIpulse_MarginOf_0 (y := y) h
theorem Upulse_MarginOf : uniq ((blocksOf a80.body).map (·.1)) = true := by kernel_rfl
def Bpulse_MarginOf_0a (F : FnT) (N : Q → Option (Ext × S)) (E : Ext × Q → Option (Ext × S)) (L0 : Q → Option Ypulse_MarginOf_0) (n0 : Nat) (c1 : List PV) (n2 : Nat) (c3 : List PV) (i4 : Int) (i5 : Int) : Option (Ext × S) :=
  bif (decide (i5 < i4)) then
    bindO (F 136 (RSh.one CK.bool) [(PV.list n0 c1), (PV.list n2 c3), (PV.int IntKind.i64 (w64 (i5 + (1 : Int))))]) fun (y0 : (Bool)) =>
    bif y0 then
      N (Tpulse_MarginOf_0a n0 c1 n2 c3 i4 (w64 (i5 + (1 : Int))))
    else E (Xpulse_MarginOf_0a i5)
  else E (Xpulse_MarginOf_0a i5)
theorem Bpulse_MarginOf_0a_eq (F : FnT) (N : Q → Option (Ext × S)) (E : Ext × Q → Option (Ext × S)) (L0 : Q → Option Ypulse_MarginOf_0) (n0 : Nat) (c1 : List PV) (n2 : Nat) (c3 : List PV) (i4 : Int) (i5 : Int) : semB (callP F Epulse_MarginOf 20) s80 (loopT [⟨0, Ypulse_MarginOf_0, L0, XLpulse_MarginOf_0⟩]) 400 (blkIn a80.body 0) N E (Tpulse_MarginOf_0a n0 c1 n2 c3 i4 i5) = Bpulse_MarginOf_0a F N E L0 n0 c1 n2 c3 i4 i5 := by kernel_rfl
theorem Rpulse_MarginOf_0a_of  (n0 : Nat) (c1 : List PV) (n2 : Nat) (c3 : List PV) (i4 : Int) (i5 : Int) {r : Ext × S} (h : Bpulse_MarginOf_0a (Fn env) Rpulse_MarginOf_0 exO Lpulse_MarginOf_0 n0 c1 n2 c3 i4 i5 = some r) : Rpulse_MarginOf_0 (Tpulse_MarginOf_0a n0 c1 n2 c3 i4 i5) = some r :=
  lp_of Epulse_MarginOf_ok (by kernel_rfl) (lo_cons (lpO_ok Upulse_MarginOf) lo_nil) (by kernel_rfl) ((Bpulse_MarginOf_0a_eq _ _ _ _ _ _ _ _ _ _).trans h)
def tpulse_MarginOf (F : FnT) (L0 : Q → Option Ypulse_MarginOf_0) (p0n : Nat) (p0c : List PV) (p1n : Nat) (p1c : List PV) (p2 : Int) : Option ((Int) × (Int)) :=
  bindO (F 133 (RSh.one (CK.int IntKind.i64)) [(PV.list p0n p0c)]) fun (y0 : (Int)) =>
  bindO (F 133 (RSh.one (CK.int IntKind.i64)) [(PV.list p1n p1c)]) fun (y1 : (Int)) =>
  bif ((p0n : Int) != (p1n : Int)) then
    bindO (F 105 (RSh.one (CK.int IntKind.i64)) [(PV.bool true), (PV.int IntKind.i64 (13 : Int))]) fun (y2 : (Int)) =>
    bindO (F 92 (RSh.one (CK.int IntKind.i64)) [(PV.int IntKind.i64 p2), (PV.int IntKind.i64 (0 : Int)), (PV.int IntKind.i64 (60 : Int))]) fun (y3 : (Int)) =>
    bindO (F 91 (RSh.one (CK.int IntKind.i64)) [(PV.list 4 [(PV.int IntKind.i64 y0), (PV.int IntKind.i64 y1), (PV.int IntKind.i64 y2), (PV.int IntKind.i64 y3)])]) fun (y4 : (Int)) =>
    bif (y4 != (0 : Int)) then
      some ((0 : Int), y4)
    else bindO (F 135 (RSh.one CK.bool) [(PV.list p0n p0c)]) fun (y5 : (Bool)) =>
    bif y5 then
      bindO (L0 (Tpulse_MarginOf_0a p0n p0c p1n p1c p2 (0 : Int))) fun y6 =>
      some (y6, (0 : Int))
    else some ((0 : Int), (18 : Int))
  else bindO (F 105 (RSh.one (CK.int IntKind.i64)) [(PV.bool false), (PV.int IntKind.i64 (13 : Int))]) fun (y7 : (Int)) =>
  bindO (F 92 (RSh.one (CK.int IntKind.i64)) [(PV.int IntKind.i64 p2), (PV.int IntKind.i64 (0 : Int)), (PV.int IntKind.i64 (60 : Int))]) fun (y8 : (Int)) =>
  bindO (F 91 (RSh.one (CK.int IntKind.i64)) [(PV.list 4 [(PV.int IntKind.i64 y0), (PV.int IntKind.i64 y1), (PV.int IntKind.i64 y7), (PV.int IntKind.i64 y8)])]) fun (y9 : (Int)) =>
  bif (y9 != (0 : Int)) then
    some ((0 : Int), y9)
  else bindO (F 135 (RSh.one CK.bool) [(PV.list p0n p0c)]) fun (y10 : (Bool)) =>
  bif y10 then
    bindO (L0 (Tpulse_MarginOf_0a p0n p0c p1n p1c p2 (0 : Int))) fun y11 =>
    some (y11, (0 : Int))
  else some ((0 : Int), (18 : Int))
theorem tpulse_MarginOf_eq (F : FnT) (L0 : Q → Option Ypulse_MarginOf_0) (p0n : Nat) (p0c : List PV) (p1n : Nat) (p1c : List PV) (p2 : Int) : semF (callP F Epulse_MarginOf 20) s80 (loopT [⟨0, Ypulse_MarginOf_0, L0, XLpulse_MarginOf_0⟩]) 400 a80 [PV.list p0n p0c, PV.list p1n p1c, PV.int IntKind.i64 p2] (fun rv => decR (RSh.tup [(Prod.mk false [(CK.int IntKind.i64)]), (Prod.mk false [(CK.int IntKind.i64)])]) rv.pv) = tpulse_MarginOf F L0 p0n p0c p1n p1c p2 := by kernel_rfl
noncomputable abbrev Fpulse_MarginOf (args : List PV) := Fn env 80 (RSh.tup [(Prod.mk false [(CK.int IntKind.i64)]), (Prod.mk false [(CK.int IntKind.i64)])]) args
theorem Fpulse_MarginOf_of  (p0n : Nat) (p0c : List PV) (p1n : Nat) (p1c : List PV) (p2 : Int) {res : ((Int) × (Int))} (h : tpulse_MarginOf (Fn env) Lpulse_MarginOf_0 p0n p0c p1n p1c p2 = some res) : Fpulse_MarginOf [PV.list p0n p0c, PV.list p1n p1c, PV.int IntKind.i64 p2] = some res :=
  fn_of Epulse_MarginOf_ok rfl rfl (lo_cons (lpO_ok Upulse_MarginOf) lo_nil) ((tpulse_MarginOf_eq _ _ _ _ _ _ _).trans h)

end Gv
