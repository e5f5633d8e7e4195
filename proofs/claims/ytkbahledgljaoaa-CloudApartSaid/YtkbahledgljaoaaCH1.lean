/- What the functions do, round by round: CH1. -/
import Derived.Test.YtkbahledgljaoaaCQ2
namespace Gv
open Go
set_option maxRecDepth 100000
def Ecloud_constantError : List Entry := [.out 56 (RSh.one (CK.int .i64))]
theorem Ecloud_constantError_ok : ∀ e ∈ Ecloud_constantError, EntOK env e := (ent_out ent_nil)
def tcloud_constantError (F : FnT) (p0 : Int) : Option (Int) :=
  bindO (F 56 (RSh.one (CK.int .i64)) [(PV.int .i64 p0), (PV.int .i64 (1 : Int)), (PV.int .i64 (1000000 : Int))]) fun (y0 : (Int)) =>
  some y0
theorem tcloud_constantError_eq (F : FnT) (p0 : Int) : semF (callP F Ecloud_constantError 20) s60 (loopT []) 400 a60 [PV.int .i64 p0] (fun rv => decR (RSh.one (CK.int .i64)) rv.pv) = tcloud_constantError F p0 := by kernel_rfl
noncomputable abbrev Fcloud_constantError (args : List PV) := Fn env 60 (RSh.one (CK.int .i64)) args
theorem Fcloud_constantError_of  (p0 : Int) {res : (Int)} (h : tcloud_constantError (Fn env) p0 = some res) : Fcloud_constantError [PV.int .i64 p0] = some res :=
  fn_of Ecloud_constantError_ok rfl rfl lo_nil ((tcloud_constantError_eq _ _).trans h)
def Eq_sum : List Entry := []
theorem Eq_sum_ok : ∀ e ∈ Eq_sum, EntOK env e := ent_nil
def Tq_sum_0a (i0 : Int) (n1 : Nat) (c2 : List PV) (i3 : Int) (i4 : Int) : Q := ⟨(tm 17 [(3, (AV.p (PV.int .i64 i0))), (6, (AV.p (PV.list n1 c2))), (7, (AV.p (PV.int .i64 i3))), (8, (AV.p (PV.int .i64 i4)))]), (mm 17 [])⟩
def Xq_sum_0a (y : Int) : Ext × Q := (Ext.normal, ⟨(tm 17 [(3, (AV.p (PV.int .i64 y)))]), (mm 17 [])⟩)
def Iq_sum_0a (q : Ext × S) : Int := (pP_int1 (pA_p (avT q.2 3)))
abbrev Yq_sum_0 : Type := Int
def XLq_sum_0 : XL Yq_sum_0 := .one Xq_sum_0a
def Iq_sum_0 (q : Ext × S) : Yq_sum_0 := (Iq_sum_0a q)
theorem XIq_sum_0a (y : Int) : Iq_sum_0 (xe (Xq_sum_0a y)) = y := rfl
theorem XIq_sum_0 (y : Yq_sum_0) : Iq_sum_0 (xe (XLq_sum_0.fn y)) = y := XIq_sum_0a y
noncomputable abbrev Lq_sum_0 : Q → Option Yq_sum_0 := lpO env a63.body 0 XLq_sum_0
noncomputable abbrev Rq_sum_0 : Q → Option (Ext × S) := lpR env a63.body 0
theorem Lq_sum_0a_of {s : Q} {y : Int} (h : Rq_sum_0 s = exO (Xq_sum_0a y)) : Lq_sum_0 s = some y := lpO_of Iq_sum_0 XIq_sum_0 (y := y) h
theorem Uq_sum : uniq ((blocksOf a63.body).map (·.1)) = true := by kernel_rfl
def Bq_sum_0a (_F : FnT) (N : QO) (E : EO) (_L0 : Q → Option Yq_sum_0) (i0 : Int) (n1 : Nat) (c2 : List PV) (i3 : Int) (i4 : Int) : Option (Ext × S) :=
  bif (decide (i4 < i3)) then
    bif (decide (((0 : Int) ≤ i4) ∧ (i4 < (n1 : Int)))) then
      bindO (intC .i64 (c2[((Int.toNat i4) * 1)]?)) fun x0 =>
      N (Tq_sum_0a (w64 (i0 + x0)) n1 c2 i3 (w64 (i4 + (1 : Int))))
    else none
  else E (Xq_sum_0a i0)
theorem Bq_sum_0a_eq (F : FnT) (N : QO) (E : EO) (L0 : Q → Option Yq_sum_0) (i0 : Int) (n1 : Nat) (c2 : List PV) (i3 : Int) (i4 : Int) : semB (callP F Eq_sum 20) s63 (loopT [⟨0, Yq_sum_0, L0, XLq_sum_0⟩]) 400 (blkIn a63.body 0) N E (Tq_sum_0a i0 n1 c2 i3 i4) = Bq_sum_0a F N E L0 i0 n1 c2 i3 i4 := by kernel_rfl
theorem Rq_sum_0a_of  (i0 : Int) (n1 : Nat) (c2 : List PV) (i3 : Int) (i4 : Int) {r : Ext × S} (h : Bq_sum_0a (Fn env) Rq_sum_0 exO Lq_sum_0 i0 n1 c2 i3 i4 = some r) : Rq_sum_0 (Tq_sum_0a i0 n1 c2 i3 i4) = some r :=
  lp_of Eq_sum_ok (by kernel_rfl) (lo_cons (lpO_ok Uq_sum) lo_nil) (by kernel_rfl) ((Bq_sum_0a_eq _ _ _ _ _ _ _ _ _).trans h)
def tq_sum (_F : FnT) (L0 : Q → Option Yq_sum_0) (p0n : Nat) (p0c : List PV) : Option (Int) :=
  bindO (L0 (Tq_sum_0a (0 : Int) p0n p0c (p0n : Int) (0 : Int))) fun y0 =>
  some y0
theorem tq_sum_eq (F : FnT) (L0 : Q → Option Yq_sum_0) (p0n : Nat) (p0c : List PV) : semF (callP F Eq_sum 20) s63 (loopT [⟨0, Yq_sum_0, L0, XLq_sum_0⟩]) 400 a63 [PV.list p0n p0c] (fun rv => decR (RSh.one (CK.int .i64)) rv.pv) = tq_sum F L0 p0n p0c := by kernel_rfl
noncomputable abbrev Fq_sum (args : List PV) := Fn env 63 (RSh.one (CK.int .i64)) args
theorem Fq_sum_of  (p0n : Nat) (p0c : List PV) {res : (Int)} (h : tq_sum (Fn env) Lq_sum_0 p0n p0c = some res) : Fq_sum [PV.list p0n p0c] = some res :=
  fn_of Eq_sum_ok rfl rfl (lo_cons (lpO_ok Uq_sum) lo_nil) ((tq_sum_eq _ _ _ _).trans h)
def Eq_restBefore : List Entry := [.out 63 (RSh.one (CK.int .i64))]
theorem Eq_restBefore_ok : ∀ e ∈ Eq_restBefore, EntOK env e := (ent_out ent_nil)
def tq_restBefore (F : FnT) (p0n : Nat) (p0c : List PV) (p1 : Int) (p2 : Int) : Option (Int) :=
  bif (decide (((0 : Int) ≤ p1) ∧ (p1 ≤ ((Prod.mk p0n p0c).1 : Int)))) then
    bif (decide ((0 = (Int.toNat p1)) ∨ (((0 * 1) + (((Int.toNat p1) - 0) * 1)) ≤ (List.length p0c)))) then
      bindO (F 63 (RSh.one (CK.int .i64)) [(PV.list ((Int.toNat p1) - 0) (List.take (((Int.toNat p1) - 0) * 1) (List.drop 0 p0c)))]) fun (y0 : (Int)) =>
      some (w64 (p2 - y0))
    else none
  else none
theorem tq_restBefore_eq (F : FnT) (p0n : Nat) (p0c : List PV) (p1 : Int) (p2 : Int) : semF (callP F Eq_restBefore 20) s64 (loopT []) 400 a64 [PV.list p0n p0c, PV.int .i64 p1, PV.int .i64 p2] (fun rv => decR (RSh.one (CK.int .i64)) rv.pv) = tq_restBefore F p0n p0c p1 p2 := by kernel_rfl
noncomputable abbrev Fq_restBefore (args : List PV) := Fn env 64 (RSh.one (CK.int .i64)) args
theorem Fq_restBefore_of  (p0n : Nat) (p0c : List PV) (p1 : Int) (p2 : Int) {res : (Int)} (h : tq_restBefore (Fn env) p0n p0c p1 p2 = some res) : Fq_restBefore [PV.list p0n p0c, PV.int .i64 p1, PV.int .i64 p2] = some res :=
  fn_of Eq_restBefore_ok rfl rfl lo_nil ((tq_restBefore_eq _ _ _ _ _).trans h)
def Ecloud_divisorOf : List Entry := []
theorem Ecloud_divisorOf_ok : ∀ e ∈ Ecloud_divisorOf, EntOK env e := ent_nil
def Tcloud_divisorOf_0a (i0 : Int) (i1 : Int) : Q := ⟨(tm 15 [(0, (AV.p (PV.int .i64 i0))), (1, (AV.p (PV.int .i64 i1)))]), (mm 15 [])⟩
def Xcloud_divisorOf_0a (y : Int) : Ext × Q := (Ext.normal, ⟨(tm 15 [(0, (AV.p (PV.int .i64 y)))]), (mm 15 [])⟩)
def Icloud_divisorOf_0a (q : Ext × S) : Int := (pP_int1 (pA_p (avT q.2 0)))
abbrev Ycloud_divisorOf_0 : Type := Int
def XLcloud_divisorOf_0 : XL Ycloud_divisorOf_0 := .one Xcloud_divisorOf_0a
def Icloud_divisorOf_0 (q : Ext × S) : Ycloud_divisorOf_0 := (Icloud_divisorOf_0a q)
theorem XIcloud_divisorOf_0a (y : Int) : Icloud_divisorOf_0 (xe (Xcloud_divisorOf_0a y)) = y := rfl
theorem XIcloud_divisorOf_0 (y : Ycloud_divisorOf_0) : Icloud_divisorOf_0 (xe (XLcloud_divisorOf_0.fn y)) = y := XIcloud_divisorOf_0a y
noncomputable abbrev Lcloud_divisorOf_0 : Q → Option Ycloud_divisorOf_0 := lpO env a97.body 0 XLcloud_divisorOf_0
noncomputable abbrev Rcloud_divisorOf_0 : Q → Option (Ext × S) := lpR env a97.body 0
theorem Lcloud_divisorOf_0a_of {s : Q} {y : Int} (h : Rcloud_divisorOf_0 s = exO (Xcloud_divisorOf_0a y)) : Lcloud_divisorOf_0 s = some y := lpO_of Icloud_divisorOf_0 XIcloud_divisorOf_0 (y := y) h
theorem Ucloud_divisorOf : uniq ((blocksOf a97.body).map (·.1)) = true := by kernel_rfl
def Bcloud_divisorOf_0a (_F : FnT) (N : QO) (E : EO) (_L0 : Q → Option Ycloud_divisorOf_0) (i0 : Int) (i1 : Int) : Option (Ext × S) :=
  bif (i1 != (0 : Int)) then
    bif (decide (i1 ≠ (0 : Int))) then
      N (Tcloud_divisorOf_0a i1 (Int.tmod i0 i1))
    else none
  else E (Xcloud_divisorOf_0a i0)
theorem Bcloud_divisorOf_0a_eq (F : FnT) (N : QO) (E : EO) (L0 : Q → Option Ycloud_divisorOf_0) (i0 : Int) (i1 : Int) : semB (callP F Ecloud_divisorOf 20) s97 (loopT [⟨0, Ycloud_divisorOf_0, L0, XLcloud_divisorOf_0⟩]) 400 (blkIn a97.body 0) N E (Tcloud_divisorOf_0a i0 i1) = Bcloud_divisorOf_0a F N E L0 i0 i1 := by kernel_rfl
theorem Rcloud_divisorOf_0a_of  (i0 : Int) (i1 : Int) {r : Ext × S} (h : Bcloud_divisorOf_0a (Fn env) Rcloud_divisorOf_0 exO Lcloud_divisorOf_0 i0 i1 = some r) : Rcloud_divisorOf_0 (Tcloud_divisorOf_0a i0 i1) = some r :=
  lp_of Ecloud_divisorOf_ok (by kernel_rfl) (lo_cons (lpO_ok Ucloud_divisorOf) lo_nil) (by kernel_rfl) ((Bcloud_divisorOf_0a_eq _ _ _ _ _ _).trans h)
def tcloud_divisorOf (_F : FnT) (L0 : Q → Option Ycloud_divisorOf_0) (p0 : Int) (p1 : Int) : Option (Int) :=
  bindO (L0 (Tcloud_divisorOf_0a p0 p1)) fun y0 =>
  some (if ((w64 ((0 : Int) - y0)) > y0) then (w64 ((0 : Int) - y0)) else y0)
theorem tcloud_divisorOf_eq (F : FnT) (L0 : Q → Option Ycloud_divisorOf_0) (p0 : Int) (p1 : Int) : semF (callP F Ecloud_divisorOf 20) s97 (loopT [⟨0, Ycloud_divisorOf_0, L0, XLcloud_divisorOf_0⟩]) 400 a97 [PV.int .i64 p0, PV.int .i64 p1] (fun rv => decR (RSh.one (CK.int .i64)) rv.pv) = tcloud_divisorOf F L0 p0 p1 := by kernel_rfl
noncomputable abbrev Fcloud_divisorOf (args : List PV) := Fn env 97 (RSh.one (CK.int .i64)) args
theorem Fcloud_divisorOf_of  (p0 : Int) (p1 : Int) {res : (Int)} (h : tcloud_divisorOf (Fn env) Lcloud_divisorOf_0 p0 p1 = some res) : Fcloud_divisorOf [PV.int .i64 p0, PV.int .i64 p1] = some res :=
  fn_of Ecloud_divisorOf_ok rfl rfl (lo_cons (lpO_ok Ucloud_divisorOf) lo_nil) ((tcloud_divisorOf_eq _ _ _ _).trans h)
def Ecloud_partError : List Entry := [.out 62 (RSh.one (CK.int .i64)), .out 56 (RSh.one (CK.int .i64)), .out 54 (RSh.one (CK.int .i64)), .out 97 (RSh.one (CK.int .i64))]
theorem Ecloud_partError_ok : ∀ e ∈ Ecloud_partError, EntOK env e := (ent_out (ent_out (ent_out (ent_out ent_nil))))
def tcloud_partError (F : FnT) (p0_0 : Int) (p0_1 : Int) : Option (Int) :=
  bif (decide (p0_1 ≤ (0 : Int))) then
    bindO (F 62 (RSh.one (CK.int .i64)) [(PV.bool true), (PV.int .i64 (3 : Int))]) fun (y0 : (Int)) =>
    bindO (F 56 (RSh.one (CK.int .i64)) [(PV.int .i64 p0_0), (PV.int .i64 (0 : Int)), (PV.int .i64 p0_1)]) fun (y1 : (Int)) =>
    bif (decide (p0_1 > (1000000000 : Int))) then
      bindO (F 62 (RSh.one (CK.int .i64)) [(PV.bool true), (PV.int .i64 (2 : Int))]) fun (y2 : (Int)) =>
      bindO (F 54 (RSh.one (CK.int .i64)) [(PV.list 3 [(PV.int .i64 y0), (PV.int .i64 y1), (PV.int .i64 y2)])]) fun (y3 : (Int)) =>
      some y3
    else bindO (F 62 (RSh.one (CK.int .i64)) [(PV.bool false), (PV.int .i64 (2 : Int))]) fun (y4 : (Int)) =>
    bindO (F 54 (RSh.one (CK.int .i64)) [(PV.list 3 [(PV.int .i64 y0), (PV.int .i64 y1), (PV.int .i64 y4)])]) fun (y5 : (Int)) =>
    some y5
  else bindO (F 97 (RSh.one (CK.int .i64)) [(PV.int .i64 p0_0), (PV.int .i64 p0_1)]) fun (y6 : (Int)) =>
  bif (y6 != (1 : Int)) then
    bindO (F 62 (RSh.one (CK.int .i64)) [(PV.bool true), (PV.int .i64 (3 : Int))]) fun (y7 : (Int)) =>
    bindO (F 56 (RSh.one (CK.int .i64)) [(PV.int .i64 p0_0), (PV.int .i64 (0 : Int)), (PV.int .i64 p0_1)]) fun (y8 : (Int)) =>
    bif (decide (p0_1 > (1000000000 : Int))) then
      bindO (F 62 (RSh.one (CK.int .i64)) [(PV.bool true), (PV.int .i64 (2 : Int))]) fun (y9 : (Int)) =>
      bindO (F 54 (RSh.one (CK.int .i64)) [(PV.list 3 [(PV.int .i64 y7), (PV.int .i64 y8), (PV.int .i64 y9)])]) fun (y10 : (Int)) =>
      some y10
    else bindO (F 62 (RSh.one (CK.int .i64)) [(PV.bool false), (PV.int .i64 (2 : Int))]) fun (y11 : (Int)) =>
    bindO (F 54 (RSh.one (CK.int .i64)) [(PV.list 3 [(PV.int .i64 y7), (PV.int .i64 y8), (PV.int .i64 y11)])]) fun (y12 : (Int)) =>
    some y12
  else bindO (F 62 (RSh.one (CK.int .i64)) [(PV.bool false), (PV.int .i64 (3 : Int))]) fun (y13 : (Int)) =>
  bindO (F 56 (RSh.one (CK.int .i64)) [(PV.int .i64 p0_0), (PV.int .i64 (0 : Int)), (PV.int .i64 p0_1)]) fun (y14 : (Int)) =>
  bif (decide (p0_1 > (1000000000 : Int))) then
    bindO (F 62 (RSh.one (CK.int .i64)) [(PV.bool true), (PV.int .i64 (2 : Int))]) fun (y15 : (Int)) =>
    bindO (F 54 (RSh.one (CK.int .i64)) [(PV.list 3 [(PV.int .i64 y13), (PV.int .i64 y14), (PV.int .i64 y15)])]) fun (y16 : (Int)) =>
    some y16
  else bindO (F 62 (RSh.one (CK.int .i64)) [(PV.bool false), (PV.int .i64 (2 : Int))]) fun (y17 : (Int)) =>
  bindO (F 54 (RSh.one (CK.int .i64)) [(PV.list 3 [(PV.int .i64 y13), (PV.int .i64 y14), (PV.int .i64 y17)])]) fun (y18 : (Int)) =>
  some y18
theorem tcloud_partError_eq (F : FnT) (p0_0 : Int) (p0_1 : Int) : semF (callP F Ecloud_partError 20) s61 (loopT []) 400 a61 [PV.agg [PV.int .i64 p0_0, PV.int .i64 p0_1]] (fun rv => decR (RSh.one (CK.int .i64)) rv.pv) = tcloud_partError F p0_0 p0_1 := by kernel_rfl
noncomputable abbrev Fcloud_partError (args : List PV) := Fn env 61 (RSh.one (CK.int .i64)) args
theorem Fcloud_partError_of  (p0_0 : Int) (p0_1 : Int) {res : (Int)} (h : tcloud_partError (Fn env) p0_0 p0_1 = some res) : Fcloud_partError [PV.agg [PV.int .i64 p0_0, PV.int .i64 p0_1]] = some res :=
  fn_of Ecloud_partError_ok rfl rfl lo_nil ((tcloud_partError_eq _ _ _).trans h)
def Ecloud_LayersIn_1 : List Entry := []
theorem Ecloud_LayersIn_1_ok : ∀ e ∈ Ecloud_LayersIn_1, EntOK env e := ent_nil
def tcloud_LayersIn_1 (_F : FnT)(x : Int) (ln : Nat) (lc : List PV) (a _b _c : Int) : Option (Bool) :=
  bif (decide (((0 : Int) ≤ x) ∧ (x < ((Prod.mk ln lc).1 : Int)))) then
    bindO (intC .i64 ((Prod.mk ln lc).2[((Int.toNat x) * 1)]?)) fun x0 =>
    bif (decide (x0 ≥ a)) then
      some true
    else some false
  else none
theorem tcloud_LayersIn_1_eq (F : FnT)(x : Int) (ln : Nat) (lc : List PV) (a b c : Int) : semF (callP F Ecloud_LayersIn_1 20) s58 (loopT []) 400 a58 [.int .i64 x, .imm [.list ln lc] 0, .imm [.int .i64 a, .int .i64 b, .int .i64 c] 0] (fun rv => decR (RSh.one CK.bool) rv.pv) = tcloud_LayersIn_1 F x ln lc a b c := by kernel_rfl
noncomputable abbrev Fcloud_LayersIn_1 (args : List PV) := Fn env 58 (RSh.one CK.bool) args
theorem Fcloud_LayersIn_1_of (x : Int) (ln : Nat) (lc : List PV) (a b c : Int) {res : (Bool)} (h : tcloud_LayersIn_1 (Fn env) x ln lc a b c = some res) : Fcloud_LayersIn_1 [.int .i64 x, .imm [.list ln lc] 0, .imm [.int .i64 a, .int .i64 b, .int .i64 c] 0] = some res :=
  fn_of Ecloud_LayersIn_1_ok rfl rfl lo_nil ((tcloud_LayersIn_1_eq _ _ _ _ _ _ _).trans h)
def Ecloud_rangesOf_layers : List Entry := [.out 58 (RSh.one CK.bool)]
theorem Ecloud_rangesOf_layers_ok : ∀ e ∈ Ecloud_rangesOf_layers, EntOK env e := (ent_out ent_nil)
def Tcloud_rangesOf_layers_0a (i0 : Int) (n1 : Nat) (c2 : List PV) (i3 : Int) (i4 : Int) (i5 : Int) (i6 : Int) (i7 : Int) : Q := ⟨(tm 48 [(1, (AV.p (PV.int .i64 i0))), (2, (AV.p (PV.fn 58 [(PV.imm [(PV.list n1 c2)] 0), (PV.imm [(PV.int .i64 i3), (PV.int .i64 i4), (PV.int .i64 i5)] 0)]))), (7, AV.nilS), (10, (AV.p (PV.int .i64 i6))), (11, (AV.p (PV.int .i64 i7)))]), (mm 48 [])⟩
def Tcloud_rangesOf_layers_0b (i0 : Int) (n1 : Nat) (c2 : List PV) (i3 : Int) (i4 : Int) (i5 : Int) (n6 : Nat) (i7 : Int) (i8 : Int) (n9 : Nat) (c10 : List PV) : Q := ⟨(tm 48 [(1, (AV.p (PV.int .i64 i0))), (2, (AV.p (PV.fn 58 [(PV.imm [(PV.list n1 c2)] 0), (PV.imm [(PV.int .i64 i3), (PV.int .i64 i4), (PV.int .i64 i5)] 0)]))), (7, (AV.vap 45 n6 2)), (10, (AV.p (PV.int .i64 i7))), (11, (AV.p (PV.int .i64 i8)))]), (mm 48 [(45, (Bk.vec true n9 2 c10))])⟩
def Xcloud_rangesOf_layers_0a (_y : Unit) : Ext × Q := (Ext.normal, ⟨(tm 48 [(7, AV.nilS)]), (mm 48 [])⟩)
def Icloud_rangesOf_layers_0a (_q : Ext × S) : Unit := ()
def Xcloud_rangesOf_layers_0b (y : Nat × Nat × List PV) : Ext × Q := (Ext.normal, ⟨(tm 48 [(7, (AV.vap 45 y.1 2))]), (mm 48 [(45, (Bk.vec true y.2.1 2 y.2.2))])⟩)
def Icloud_rangesOf_layers_0b (q : Ext × S) : Nat × Nat × List PV := ((pA_vap1 (avT q.2 7)), (pB_vec1 (avM q.2 45)), (pB_vec3 (avM q.2 45)))
abbrev Ycloud_rangesOf_layers_0 : Type := (Unit) ⊕ ((Nat × Nat × List PV))
def XLcloud_rangesOf_layers_0 : XL Ycloud_rangesOf_layers_0 := .more Xcloud_rangesOf_layers_0a (.one Xcloud_rangesOf_layers_0b)
def Icloud_rangesOf_layers_0 (q : Ext × S) : Ycloud_rangesOf_layers_0 := bif (cA (avT q.2 7) == 1) then (Sum.inl (Icloud_rangesOf_layers_0a q)) else (Sum.inr (Icloud_rangesOf_layers_0b q))
theorem XIcloud_rangesOf_layers_0a (y : Unit) : Icloud_rangesOf_layers_0 (xe (Xcloud_rangesOf_layers_0a y)) = (Sum.inl y) := rfl
theorem XIcloud_rangesOf_layers_0b (y : Nat × Nat × List PV) : Icloud_rangesOf_layers_0 (xe (Xcloud_rangesOf_layers_0b y)) = (Sum.inr y) := rfl
theorem XIcloud_rangesOf_layers_0 (y : Ycloud_rangesOf_layers_0) : Icloud_rangesOf_layers_0 (xe (XLcloud_rangesOf_layers_0.fn y)) = y := (match y with | .inl y => XIcloud_rangesOf_layers_0a y | .inr y => XIcloud_rangesOf_layers_0b y)
noncomputable abbrev Lcloud_rangesOf_layers_0 : Q → Option Ycloud_rangesOf_layers_0 := lpO env a57.body 0 XLcloud_rangesOf_layers_0
noncomputable abbrev Rcloud_rangesOf_layers_0 : Q → Option (Ext × S) := lpR env a57.body 0
theorem Lcloud_rangesOf_layers_0a_of {s : Q} {y : Unit} (h : Rcloud_rangesOf_layers_0 s = exO (Xcloud_rangesOf_layers_0a y)) : Lcloud_rangesOf_layers_0 s = some (Sum.inl y) := lpO_of Icloud_rangesOf_layers_0 XIcloud_rangesOf_layers_0 (y := (Sum.inl y)) h
theorem Lcloud_rangesOf_layers_0b_of {s : Q} {y : Nat × Nat × List PV} (h : Rcloud_rangesOf_layers_0 s = exO (Xcloud_rangesOf_layers_0b y)) : Lcloud_rangesOf_layers_0 s = some (Sum.inr y) := lpO_of Icloud_rangesOf_layers_0 XIcloud_rangesOf_layers_0 (y := (Sum.inr y)) h
theorem Ucloud_rangesOf_layers : uniq ((blocksOf a57.body).map (·.1)) = true := by kernel_rfl
def Bcloud_rangesOf_layers_0a (F : FnT) (N : QO) (E : EO) (_L0 : Q → Option Ycloud_rangesOf_layers_0) (i0 : Int) (n1 : Nat) (c2 : List PV) (i3 : Int) (i4 : Int) (i5 : Int) (i6 : Int) (i7 : Int) : Option (Ext × S) :=
  bif (decide (i7 < i6)) then
    bindO (F 58 (RSh.one CK.bool) [(PV.int .i64 i7), (PV.imm [(PV.list n1 c2)] 0), (PV.imm [(PV.int .i64 i3), (PV.int .i64 i4), (PV.int .i64 i5)] 0)]) fun (y0 : (Bool)) =>
    bif y0 then
      N (Tcloud_rangesOf_layers_0b i0 n1 c2 i3 i4 i5 1 i6 (w64 (i7 + (1 : Int))) 1 [(PV.int .i64 i7), (PV.int .i64 i7)])
    else N (Tcloud_rangesOf_layers_0a i0 n1 c2 i3 i4 i5 i6 (w64 (i7 + (1 : Int))))
  else E (Xcloud_rangesOf_layers_0a ())
theorem Bcloud_rangesOf_layers_0a_eq (F : FnT) (N : QO) (E : EO) (L0 : Q → Option Ycloud_rangesOf_layers_0) (i0 : Int) (n1 : Nat) (c2 : List PV) (i3 : Int) (i4 : Int) (i5 : Int) (i6 : Int) (i7 : Int) : semB (callP F Ecloud_rangesOf_layers 20) s57 (loopT [⟨0, Ycloud_rangesOf_layers_0, L0, XLcloud_rangesOf_layers_0⟩]) 400 (blkIn a57.body 0) N E (Tcloud_rangesOf_layers_0a i0 n1 c2 i3 i4 i5 i6 i7) = Bcloud_rangesOf_layers_0a F N E L0 i0 n1 c2 i3 i4 i5 i6 i7 := by kernel_rfl
theorem Rcloud_rangesOf_layers_0a_of  (i0 : Int) (n1 : Nat) (c2 : List PV) (i3 : Int) (i4 : Int) (i5 : Int) (i6 : Int) (i7 : Int) {r : Ext × S} (h : Bcloud_rangesOf_layers_0a (Fn env) Rcloud_rangesOf_layers_0 exO Lcloud_rangesOf_layers_0 i0 n1 c2 i3 i4 i5 i6 i7 = some r) : Rcloud_rangesOf_layers_0 (Tcloud_rangesOf_layers_0a i0 n1 c2 i3 i4 i5 i6 i7) = some r :=
  lp_of Ecloud_rangesOf_layers_ok (by kernel_rfl) (lo_cons (lpO_ok Ucloud_rangesOf_layers) lo_nil) (by kernel_rfl) ((Bcloud_rangesOf_layers_0a_eq _ _ _ _ _ _ _ _ _ _ _ _).trans h)
def Bcloud_rangesOf_layers_0b (F : FnT) (N : QO) (E : EO) (_L0 : Q → Option Ycloud_rangesOf_layers_0) (i0 : Int) (n1 : Nat) (c2 : List PV) (i3 : Int) (i4 : Int) (i5 : Int) (n6 : Nat) (i7 : Int) (i8 : Int) (n9 : Nat) (c10 : List PV) : Option (Ext × S) :=
  bif (decide (i8 < i7)) then
    bindO (F 58 (RSh.one CK.bool) [(PV.int .i64 i8), (PV.imm [(PV.list n1 c2)] 0), (PV.imm [(PV.int .i64 i3), (PV.int .i64 i4), (PV.int .i64 i5)] 0)]) fun (y0 : (Bool)) =>
    bif y0 then
      bif (decide ((w64 ((n6 : Int) - (1 : Int))) ≥ (0 : Int))) then
        bif (decide (((0 : Int) ≤ (w64 ((n6 : Int) - (1 : Int)))) ∧ ((w64 ((n6 : Int) - (1 : Int))) < (n6 : Int)))) then
          bif (decide (n9 = n6)) then
            bindO (intC .i64 (c10[(((Int.toNat (w64 ((n6 : Int) - (1 : Int)))) * 2) + 1)]?)) fun x1 =>
            bif (decide ((w64 ((w64 (i8 - x1)) - (1 : Int))) ≤ i0)) then
              bif (decide (((0 : Int) ≤ (w64 ((n6 : Int) - (1 : Int)))) ∧ ((w64 ((n6 : Int) - (1 : Int))) < (n6 : Int)))) then
                bif (decide (n9 = n6)) then
                  bindO (Gv.overO c10 (((Int.toNat (w64 ((n6 : Int) - (1 : Int)))) * 2) + 1) [(PV.int .i64 i8)]) fun x2 =>
                  N (Tcloud_rangesOf_layers_0b i0 n1 c2 i3 i4 i5 n6 i7 (w64 (i8 + (1 : Int))) n6 x2)
                else none
              else none
            else bif (decide ((n9 = n6) ∧ ((n6 + 1) ≤ big))) then
              N (Tcloud_rangesOf_layers_0b i0 n1 c2 i3 i4 i5 (n6 + 1) i7 (w64 (i8 + (1 : Int))) (n6 + 1) (c10 ++ [(PV.int .i64 i8), (PV.int .i64 i8)]))
            else none
          else none
        else none
      else bif (decide ((n9 = n6) ∧ ((n6 + 1) ≤ big))) then
        N (Tcloud_rangesOf_layers_0b i0 n1 c2 i3 i4 i5 (n6 + 1) i7 (w64 (i8 + (1 : Int))) (n6 + 1) (c10 ++ [(PV.int .i64 i8), (PV.int .i64 i8)]))
      else none
    else N (Tcloud_rangesOf_layers_0b i0 n1 c2 i3 i4 i5 n6 i7 (w64 (i8 + (1 : Int))) n9 c10)
  else E (Xcloud_rangesOf_layers_0b (n6, n9, c10))
theorem Bcloud_rangesOf_layers_0b_eq (F : FnT) (N : QO) (E : EO) (L0 : Q → Option Ycloud_rangesOf_layers_0) (i0 : Int) (n1 : Nat) (c2 : List PV) (i3 : Int) (i4 : Int) (i5 : Int) (n6 : Nat) (i7 : Int) (i8 : Int) (n9 : Nat) (c10 : List PV) : semB (callP F Ecloud_rangesOf_layers 20) s57 (loopT [⟨0, Ycloud_rangesOf_layers_0, L0, XLcloud_rangesOf_layers_0⟩]) 400 (blkIn a57.body 0) N E (Tcloud_rangesOf_layers_0b i0 n1 c2 i3 i4 i5 n6 i7 i8 n9 c10) = Bcloud_rangesOf_layers_0b F N E L0 i0 n1 c2 i3 i4 i5 n6 i7 i8 n9 c10 := by kernel_rfl
theorem Rcloud_rangesOf_layers_0b_of  (i0 : Int) (n1 : Nat) (c2 : List PV) (i3 : Int) (i4 : Int) (i5 : Int) (n6 : Nat) (i7 : Int) (i8 : Int) (n9 : Nat) (c10 : List PV) {r : Ext × S} (h : Bcloud_rangesOf_layers_0b (Fn env) Rcloud_rangesOf_layers_0 exO Lcloud_rangesOf_layers_0 i0 n1 c2 i3 i4 i5 n6 i7 i8 n9 c10 = some r) : Rcloud_rangesOf_layers_0 (Tcloud_rangesOf_layers_0b i0 n1 c2 i3 i4 i5 n6 i7 i8 n9 c10) = some r :=
  lp_of Ecloud_rangesOf_layers_ok (by kernel_rfl) (lo_cons (lpO_ok Ucloud_rangesOf_layers) lo_nil) (by kernel_rfl) ((Bcloud_rangesOf_layers_0b_eq _ _ _ _ _ _ _ _ _ _ _ _ _ _ _).trans h)
def tcloud_rangesOf_layers (_F : FnT) (L0 : Q → Option Ycloud_rangesOf_layers_0)(g p : Int) (ln : Nat) (lc : List PV) (a b c : Int) : Option ((Nat) × (List PV)) :=
  bindO (L0 (Tcloud_rangesOf_layers_0a p ln lc a b c g (0 : Int))) fun z =>
  Sum.elim (fun _y0 =>
    some (0, [])) (fun y1 =>
    bif (decide (y1.2.1 = y1.1)) then
      some (y1.1, y1.2.2)
    else none) z
theorem tcloud_rangesOf_layers_eq (F : FnT) (L0 : Q → Option Ycloud_rangesOf_layers_0)(g p : Int) (ln : Nat) (lc : List PV) (a b c : Int) : semF (callP F Ecloud_rangesOf_layers 20) s57 (loopT [⟨0, Ycloud_rangesOf_layers_0, L0, XLcloud_rangesOf_layers_0⟩]) 400 a57 [.int .i64 g, .int .i64 p, .fn 58 [.imm [.list ln lc] 0, .imm [.int .i64 a, .int .i64 b, .int .i64 c] 0]] (fun rv => decR (RSh.one CK.list) rv.pv) = tcloud_rangesOf_layers F L0 g p ln lc a b c := by kernel_rfl
noncomputable abbrev Fcloud_rangesOf_layers (args : List PV) := Fn env 57 (RSh.one CK.list) args
theorem Fcloud_rangesOf_layers_of (g p : Int) (ln : Nat) (lc : List PV) (a b c : Int) {res : ((Nat) × (List PV))} (h : tcloud_rangesOf_layers (Fn env) Lcloud_rangesOf_layers_0 g p ln lc a b c = some res) : Fcloud_rangesOf_layers [.int .i64 g, .int .i64 p, .fn 58 [.imm [.list ln lc] 0, .imm [.int .i64 a, .int .i64 b, .int .i64 c] 0]] = some res :=
  fn_of Ecloud_rangesOf_layers_ok rfl rfl (lo_cons (lpO_ok Ucloud_rangesOf_layers) lo_nil) ((tcloud_rangesOf_layers_eq _ _ _ _ _ _ _ _ _).trans h)
def Ecloud_LayersIn : List Entry := [.out 55 (RSh.one (CK.int .i64)), .out 56 (RSh.one (CK.int .i64)), .out 54 (RSh.one (CK.int .i64)), .out 57 (RSh.one CK.list)]
theorem Ecloud_LayersIn_ok : ∀ e ∈ Ecloud_LayersIn, EntOK env e := (ent_out (ent_out (ent_out (ent_out ent_nil))))
def Tcloud_LayersIn_0a (n0 : Nat) (c1 : List PV) (i2 : Int) (n3 : Nat) (c4 : List PV) (i5 : Int) (i6 : Int) (i7 : Int) : Q := ⟨(tm 52 [(3, (AV.loc 3 0)), (7, AV.nilS), (31, (AV.p (PV.list n0 c1))), (32, (AV.p (PV.int .i64 i2))), (33, (AV.p (PV.int .i64 (0 : Int))))]), (mm 52 [(2, (Bk.cells false [(AV.p (PV.list n3 c4))])), (3, (Bk.pcs false [(PV.int .i64 i5), (PV.int .i64 i6), (PV.int .i64 i7)]))])⟩
def Tcloud_LayersIn_0b (n0 : Nat) (c1 : List PV) (n2 : Nat) (c3 : List PV) (i4 : Int) (i5 : Int) (i6 : Int) (i7 : Int) (i8 : Int) (n9 : Nat) : Q := ⟨(tm 52 [(3, (AV.loc 3 0)), (7, (AV.app 49 n0 2 c1)), (31, (AV.p (PV.list n2 c3))), (32, (AV.p (PV.int .i64 i4))), (33, (AV.p (PV.int .i64 i5)))]), (mm 52 [(3, (Bk.pcs false [(PV.int .i64 i6), (PV.int .i64 i7), (PV.int .i64 i8)])), (49, (Bk.buf n9))])⟩
def Tcloud_LayersIn_0c (n0 : Nat) (c1 : List PV) (i2 : Int) (i3 : Int) (i4 : Int) (i5 : Int) (i6 : Int) : Q := ⟨(tm 52 [(3, (AV.loc 3 0)), (7, AV.nilS), (31, (AV.p (PV.list n0 c1))), (32, (AV.p (PV.int .i64 i2))), (33, (AV.p (PV.int .i64 i3)))]), (mm 52 [(3, (Bk.pcs false [(PV.int .i64 i4), (PV.int .i64 i5), (PV.int .i64 i6)]))])⟩
def Xcloud_LayersIn_0a (y : Int × Int × Int) : Ext × Q := (Ext.normal, ⟨(tm 52 [(7, AV.nilS)]), (mm 52 [(3, (Bk.pcs false [(PV.int .i64 y.1), (PV.int .i64 y.2.1), (PV.int .i64 y.2.2)]))])⟩)
def Icloud_LayersIn_0a (q : Ext × S) : Int × Int × Int := ((pP_int1 (hdP (pB_pcs1 (avM q.2 3)))), (pP_int1 (hdP (List.tail (pB_pcs1 (avM q.2 3))))), (pP_int1 (hdP (List.tail (List.tail (pB_pcs1 (avM q.2 3)))))))
def Xcloud_LayersIn_0b (y : Nat × List PV × Int × Int × Int × Nat) : Ext × Q := (Ext.normal, ⟨(tm 52 [(7, (AV.app 49 y.1 2 y.2.1))]), (mm 52 [(3, (Bk.pcs false [(PV.int .i64 y.2.2.1), (PV.int .i64 y.2.2.2.1), (PV.int .i64 y.2.2.2.2.1)])), (49, (Bk.buf y.2.2.2.2.2))])⟩)
def Icloud_LayersIn_0b (q : Ext × S) : Nat × List PV × Int × Int × Int × Nat := ((pA_app1 (avT q.2 7)), (pA_app3 (avT q.2 7)), (pP_int1 (hdP (pB_pcs1 (avM q.2 3)))), (pP_int1 (hdP (List.tail (pB_pcs1 (avM q.2 3))))), (pP_int1 (hdP (List.tail (List.tail (pB_pcs1 (avM q.2 3)))))), (pB_buf0 (avM q.2 49)))
abbrev Ycloud_LayersIn_0 : Type := (Int × Int × Int) ⊕ ((Nat × List PV × Int × Int × Int × Nat))
def XLcloud_LayersIn_0 : XL Ycloud_LayersIn_0 := .more Xcloud_LayersIn_0a (.one Xcloud_LayersIn_0b)
def Icloud_LayersIn_0 (q : Ext × S) : Ycloud_LayersIn_0 := bif (cA (avT q.2 7) == 1) then (Sum.inl (Icloud_LayersIn_0a q)) else (Sum.inr (Icloud_LayersIn_0b q))
theorem XIcloud_LayersIn_0a (y : Int × Int × Int) : Icloud_LayersIn_0 (xe (Xcloud_LayersIn_0a y)) = (Sum.inl y) := rfl
theorem XIcloud_LayersIn_0b (y : Nat × List PV × Int × Int × Int × Nat) : Icloud_LayersIn_0 (xe (Xcloud_LayersIn_0b y)) = (Sum.inr y) := rfl
theorem XIcloud_LayersIn_0 (y : Ycloud_LayersIn_0) : Icloud_LayersIn_0 (xe (XLcloud_LayersIn_0.fn y)) = y := (match y with | .inl y => XIcloud_LayersIn_0a y | .inr y => XIcloud_LayersIn_0b y)
noncomputable abbrev Lcloud_LayersIn_0 : Q → Option Ycloud_LayersIn_0 := lpO env a15.body 0 XLcloud_LayersIn_0
noncomputable abbrev Rcloud_LayersIn_0 : Q → Option (Ext × S) := lpR env a15.body 0
theorem Lcloud_LayersIn_0a_of {s : Q} {y : Int × Int × Int} (h : Rcloud_LayersIn_0 s = exO (Xcloud_LayersIn_0a y)) : Lcloud_LayersIn_0 s = some (Sum.inl y) := lpO_of Icloud_LayersIn_0 XIcloud_LayersIn_0 (y := (Sum.inl y)) h
theorem Lcloud_LayersIn_0b_of {s : Q} {y : Nat × List PV × Int × Int × Int × Nat} (h : Rcloud_LayersIn_0 s = exO (Xcloud_LayersIn_0b y)) : Lcloud_LayersIn_0 s = some (Sum.inr y) := lpO_of Icloud_LayersIn_0 XIcloud_LayersIn_0 (y := (Sum.inr y)) h
theorem Ucloud_LayersIn : uniq ((blocksOf a15.body).map (·.1)) = true := by kernel_rfl
def Bcloud_LayersIn_0a (_F : FnT) (N : QO) (E : EO) (_L0 : Q → Option Ycloud_LayersIn_0) (n0 : Nat) (c1 : List PV) (i2 : Int) (_n3 : Nat) (_c4 : List PV) (i5 : Int) (i6 : Int) (i7 : Int) : Option (Ext × S) :=
  bif (decide ((0 : Int) < i2)) then
    bif (decide (((0 : Int) ≤ (0 : Int)) ∧ ((0 : Int) < (n0 : Int)))) then
      bindO (intC .i64 (c1[0]?)) fun x0 =>
      bindO (intC .i64 (c1[1]?)) fun x1 =>
      bif (decide ((w64 ((w64 (x1 - x0)) + (1 : Int))) ≥ i7)) then
        N (Tcloud_LayersIn_0b 1 [(PV.int .i64 x0), (PV.int .i64 x1)] n0 c1 i2 (1 : Int) i5 i6 i7 1)
      else N (Tcloud_LayersIn_0c n0 c1 i2 (1 : Int) i5 i6 i7)
    else none
  else E (Xcloud_LayersIn_0a (i5, i6, i7))
theorem Bcloud_LayersIn_0a_eq (F : FnT) (N : QO) (E : EO) (L0 : Q → Option Ycloud_LayersIn_0) (n0 : Nat) (c1 : List PV) (i2 : Int) (n3 : Nat) (c4 : List PV) (i5 : Int) (i6 : Int) (i7 : Int) : semB (callP F Ecloud_LayersIn 20) s15 (loopT [⟨0, Ycloud_LayersIn_0, L0, XLcloud_LayersIn_0⟩]) 400 (blkIn a15.body 0) N E (Tcloud_LayersIn_0a n0 c1 i2 n3 c4 i5 i6 i7) = Bcloud_LayersIn_0a F N E L0 n0 c1 i2 n3 c4 i5 i6 i7 := by kernel_rfl
theorem Rcloud_LayersIn_0a_of  (n0 : Nat) (c1 : List PV) (i2 : Int) (n3 : Nat) (c4 : List PV) (i5 : Int) (i6 : Int) (i7 : Int) {r : Ext × S} (h : Bcloud_LayersIn_0a (Fn env) Rcloud_LayersIn_0 exO Lcloud_LayersIn_0 n0 c1 i2 n3 c4 i5 i6 i7 = some r) : Rcloud_LayersIn_0 (Tcloud_LayersIn_0a n0 c1 i2 n3 c4 i5 i6 i7) = some r :=
  lp_of Ecloud_LayersIn_ok (by kernel_rfl) (lo_cons (lpO_ok Ucloud_LayersIn) lo_nil) (by kernel_rfl) ((Bcloud_LayersIn_0a_eq _ _ _ _ _ _ _ _ _ _ _ _).trans h)
def Bcloud_LayersIn_0b (_F : FnT) (N : QO) (E : EO) (_L0 : Q → Option Ycloud_LayersIn_0) (n0 : Nat) (c1 : List PV) (n2 : Nat) (c3 : List PV) (i4 : Int) (i5 : Int) (i6 : Int) (i7 : Int) (i8 : Int) (n9 : Nat) : Option (Ext × S) :=
  bif (decide (i5 < i4)) then
    bif (decide (((0 : Int) ≤ i5) ∧ (i5 < (n2 : Int)))) then
      bindO (intC .i64 (c3[((Int.toNat i5) * 2)]?)) fun x0 =>
      bindO (intC .i64 (c3[(((Int.toNat i5) * 2) + 1)]?)) fun x1 =>
      bif (decide ((w64 ((w64 (x1 - x0)) + (1 : Int))) ≥ i8)) then
        bif (decide ((n9 = n0) ∧ ((n0 + 1) ≤ big))) then
          N (Tcloud_LayersIn_0b (n0 + 1) (c1 ++ [(PV.int .i64 x0), (PV.int .i64 x1)]) n2 c3 i4 (w64 (i5 + (1 : Int))) i6 i7 i8 (n0 + 1))
        else none
      else N (Tcloud_LayersIn_0b n0 c1 n2 c3 i4 (w64 (i5 + (1 : Int))) i6 i7 i8 n9)
    else none
  else E (Xcloud_LayersIn_0b (n0, c1, i6, i7, i8, n9))
theorem Bcloud_LayersIn_0b_eq (F : FnT) (N : QO) (E : EO) (L0 : Q → Option Ycloud_LayersIn_0) (n0 : Nat) (c1 : List PV) (n2 : Nat) (c3 : List PV) (i4 : Int) (i5 : Int) (i6 : Int) (i7 : Int) (i8 : Int) (n9 : Nat) : semB (callP F Ecloud_LayersIn 20) s15 (loopT [⟨0, Ycloud_LayersIn_0, L0, XLcloud_LayersIn_0⟩]) 400 (blkIn a15.body 0) N E (Tcloud_LayersIn_0b n0 c1 n2 c3 i4 i5 i6 i7 i8 n9) = Bcloud_LayersIn_0b F N E L0 n0 c1 n2 c3 i4 i5 i6 i7 i8 n9 := by kernel_rfl
theorem Rcloud_LayersIn_0b_of  (n0 : Nat) (c1 : List PV) (n2 : Nat) (c3 : List PV) (i4 : Int) (i5 : Int) (i6 : Int) (i7 : Int) (i8 : Int) (n9 : Nat) {r : Ext × S} (h : Bcloud_LayersIn_0b (Fn env) Rcloud_LayersIn_0 exO Lcloud_LayersIn_0 n0 c1 n2 c3 i4 i5 i6 i7 i8 n9 = some r) : Rcloud_LayersIn_0 (Tcloud_LayersIn_0b n0 c1 n2 c3 i4 i5 i6 i7 i8 n9) = some r :=
  lp_of Ecloud_LayersIn_ok (by kernel_rfl) (lo_cons (lpO_ok Ucloud_LayersIn) lo_nil) (by kernel_rfl) ((Bcloud_LayersIn_0b_eq _ _ _ _ _ _ _ _ _ _ _ _ _ _).trans h)
def Bcloud_LayersIn_0c (_F : FnT) (N : QO) (E : EO) (_L0 : Q → Option Ycloud_LayersIn_0) (n0 : Nat) (c1 : List PV) (i2 : Int) (i3 : Int) (i4 : Int) (i5 : Int) (i6 : Int) : Option (Ext × S) :=
  bif (decide (i3 < i2)) then
    bif (decide (((0 : Int) ≤ i3) ∧ (i3 < (n0 : Int)))) then
      bindO (intC .i64 (c1[((Int.toNat i3) * 2)]?)) fun x0 =>
      bindO (intC .i64 (c1[(((Int.toNat i3) * 2) + 1)]?)) fun x1 =>
      bif (decide ((w64 ((w64 (x1 - x0)) + (1 : Int))) ≥ i6)) then
        N (Tcloud_LayersIn_0b 1 [(PV.int .i64 x0), (PV.int .i64 x1)] n0 c1 i2 (w64 (i3 + (1 : Int))) i4 i5 i6 1)
      else N (Tcloud_LayersIn_0c n0 c1 i2 (w64 (i3 + (1 : Int))) i4 i5 i6)
    else none
  else E (Xcloud_LayersIn_0a (i4, i5, i6))
theorem Bcloud_LayersIn_0c_eq (F : FnT) (N : QO) (E : EO) (L0 : Q → Option Ycloud_LayersIn_0) (n0 : Nat) (c1 : List PV) (i2 : Int) (i3 : Int) (i4 : Int) (i5 : Int) (i6 : Int) : semB (callP F Ecloud_LayersIn 20) s15 (loopT [⟨0, Ycloud_LayersIn_0, L0, XLcloud_LayersIn_0⟩]) 400 (blkIn a15.body 0) N E (Tcloud_LayersIn_0c n0 c1 i2 i3 i4 i5 i6) = Bcloud_LayersIn_0c F N E L0 n0 c1 i2 i3 i4 i5 i6 := by kernel_rfl
theorem Rcloud_LayersIn_0c_of  (n0 : Nat) (c1 : List PV) (i2 : Int) (i3 : Int) (i4 : Int) (i5 : Int) (i6 : Int) {r : Ext × S} (h : Bcloud_LayersIn_0c (Fn env) Rcloud_LayersIn_0 exO Lcloud_LayersIn_0 n0 c1 i2 i3 i4 i5 i6 = some r) : Rcloud_LayersIn_0 (Tcloud_LayersIn_0c n0 c1 i2 i3 i4 i5 i6) = some r :=
  lp_of Ecloud_LayersIn_ok (by kernel_rfl) (lo_cons (lpO_ok Ucloud_LayersIn) lo_nil) (by kernel_rfl) ((Bcloud_LayersIn_0c_eq _ _ _ _ _ _ _ _ _ _ _).trans h)
def tcloud_LayersIn (F : FnT) (L0 : Q → Option Ycloud_LayersIn_0) (p0n : Nat) (p0c : List PV) (p1_0 : Int) (p1_1 : Int) (p1_2 : Int) : Option (((Nat) × (List PV)) × (Int)) :=
  bindO (F 55 (RSh.one (CK.int .i64)) [(PV.list p0n p0c)]) fun (y0 : (Int)) =>
  bindO (F 56 (RSh.one (CK.int .i64)) [(PV.int .i64 p1_0), (PV.int .i64 (1 : Int)), (PV.int .i64 (10000 : Int))]) fun (y1 : (Int)) =>
  bindO (F 56 (RSh.one (CK.int .i64)) [(PV.int .i64 p1_1), (PV.int .i64 (0 : Int)), (PV.int .i64 (24 : Int))]) fun (y2 : (Int)) =>
  bindO (F 56 (RSh.one (CK.int .i64)) [(PV.int .i64 p1_2), (PV.int .i64 (1 : Int)), (PV.int .i64 (24 : Int))]) fun (y3 : (Int)) =>
  bindO (F 54 (RSh.one (CK.int .i64)) [(PV.list 4 [(PV.int .i64 y0), (PV.int .i64 y1), (PV.int .i64 y2), (PV.int .i64 y3)])]) fun (y4 : (Int)) =>
  bif (y4 != (0 : Int)) then
    some ((0, []), y4)
  else bindO (F 57 (RSh.one CK.list) [(PV.int .i64 (p0n : Int)), (PV.int .i64 p1_1), (PV.fn 58 [(PV.imm [(PV.list p0n p0c)] 0), (PV.imm [(PV.int .i64 p1_0), (PV.int .i64 p1_1), (PV.int .i64 p1_2)] 0)])]) fun (y5 : ((Nat) × (List PV))) =>
  bindO (L0 (Tcloud_LayersIn_0a y5.1 y5.2 (y5.1 : Int) p0n p0c p1_0 p1_1 p1_2)) fun z =>
  Sum.elim (fun _y6 =>
    some ((0, []), (0 : Int))) (fun y7 =>
    some ((y7.1, y7.2.1), (0 : Int))) z
theorem tcloud_LayersIn_eq (F : FnT) (L0 : Q → Option Ycloud_LayersIn_0) (p0n : Nat) (p0c : List PV) (p1_0 : Int) (p1_1 : Int) (p1_2 : Int) : semF (callP F Ecloud_LayersIn 20) s15 (loopT [⟨0, Ycloud_LayersIn_0, L0, XLcloud_LayersIn_0⟩]) 400 a15 [PV.list p0n p0c, PV.agg [PV.int .i64 p1_0, PV.int .i64 p1_1, PV.int .i64 p1_2]] (fun rv => decR (RSh.tup [(Prod.mk false [CK.list]), (Prod.mk false [(CK.int .i64)])]) rv.pv) = tcloud_LayersIn F L0 p0n p0c p1_0 p1_1 p1_2 := by kernel_rfl
noncomputable abbrev Fcloud_LayersIn (args : List PV) := Fn env 15 (RSh.tup [(Prod.mk false [CK.list]), (Prod.mk false [(CK.int .i64)])]) args
theorem Fcloud_LayersIn_of  (p0n : Nat) (p0c : List PV) (p1_0 : Int) (p1_1 : Int) (p1_2 : Int) {res : (((Nat) × (List PV)) × (Int))} (h : tcloud_LayersIn (Fn env) Lcloud_LayersIn_0 p0n p0c p1_0 p1_1 p1_2 = some res) : Fcloud_LayersIn [PV.list p0n p0c, PV.agg [PV.int .i64 p1_0, PV.int .i64 p1_1, PV.int .i64 p1_2]] = some res :=
  fn_of Ecloud_LayersIn_ok rfl rfl (lo_cons (lpO_ok Ucloud_LayersIn) lo_nil) ((tcloud_LayersIn_eq _ _ _ _ _ _ _).trans h)
def Ecloud_VisibilityOf : List Entry := [.out 55 (RSh.one (CK.int .i64)), .out 60 (RSh.one (CK.int .i64)), .out 61 (RSh.one (CK.int .i64)), .out 63 (RSh.one (CK.int .i64)), .out 62 (RSh.one (CK.int .i64)), .out 54 (RSh.one (CK.int .i64)), .out 64 (RSh.one (CK.int .i64))]
theorem Ecloud_VisibilityOf_ok : ∀ e ∈ Ecloud_VisibilityOf, EntOK env e := (ent_out (ent_out (ent_out (ent_out (ent_out (ent_out (ent_out ent_nil)))))))
def Tcloud_VisibilityOf_0a (i0 : Int) (n1 : Nat) (c2 : List PV) (i3 : Int) (i4 : Int) (i5 : Int) : Q := ⟨(tm 50 [(1, (AV.p (PV.int .i64 i0))), (5, (AV.loc 5 0)), (8, (AV.p (PV.list n1 c2))), (10, (AV.p (PV.int .i64 i3)))]), (mm 50 [(5, (Bk.pcs true [(PV.int .i64 i4), (PV.int .i64 i5)]))])⟩
def Xcloud_VisibilityOf_0a (y : Int × Int × Int) : Ext × Q := (Ext.normal, ⟨(tm 50 [(10, (AV.p (PV.int .i64 y.1)))]), (mm 50 [(5, (Bk.pcs true [(PV.int .i64 y.2.1), (PV.int .i64 y.2.2)]))])⟩)
def Icloud_VisibilityOf_0a (q : Ext × S) : Int × Int × Int := ((pP_int1 (pA_p (avT q.2 10))), (pP_int1 (hdP (pB_pcs1 (avM q.2 5)))), (pP_int1 (hdP (List.tail (pB_pcs1 (avM q.2 5))))))
abbrev Ycloud_VisibilityOf_0 : Type := Int × Int × Int
def XLcloud_VisibilityOf_0 : XL Ycloud_VisibilityOf_0 := .one Xcloud_VisibilityOf_0a
def Icloud_VisibilityOf_0 (q : Ext × S) : Ycloud_VisibilityOf_0 := (Icloud_VisibilityOf_0a q)
theorem XIcloud_VisibilityOf_0a (y : Int × Int × Int) : Icloud_VisibilityOf_0 (xe (Xcloud_VisibilityOf_0a y)) = y := rfl
theorem XIcloud_VisibilityOf_0 (y : Ycloud_VisibilityOf_0) : Icloud_VisibilityOf_0 (xe (XLcloud_VisibilityOf_0.fn y)) = y := XIcloud_VisibilityOf_0a y
noncomputable abbrev Lcloud_VisibilityOf_0 : Q → Option Ycloud_VisibilityOf_0 := lpO env a20.body 0 XLcloud_VisibilityOf_0
noncomputable abbrev Rcloud_VisibilityOf_0 : Q → Option (Ext × S) := lpR env a20.body 0
theorem Lcloud_VisibilityOf_0a_of {s : Q} {y : Int × Int × Int} (h : Rcloud_VisibilityOf_0 s = exO (Xcloud_VisibilityOf_0a y)) : Lcloud_VisibilityOf_0 s = some y := lpO_of Icloud_VisibilityOf_0 XIcloud_VisibilityOf_0 (y := y) h
theorem Ucloud_VisibilityOf : uniq ((blocksOf a20.body).map (·.1)) = true := by kernel_rfl
def Bcloud_VisibilityOf_0a (F : FnT) (N : QO) (E : EO) (_L0 : Q → Option Ycloud_VisibilityOf_0) (i0 : Int) (n1 : Nat) (c2 : List PV) (i3 : Int) (i4 : Int) (i5 : Int) : Option (Ext × S) :=
  bif (decide (i3 < (n1 : Int))) then
    bindO (F 64 (RSh.one (CK.int .i64)) [(PV.list n1 c2), (PV.int .i64 (w64 (i3 + (1 : Int)))), (PV.int .i64 i0)]) fun (y0 : (Int)) =>
    bif (decide ((w64 (y0 * i5)) > (w64 (i4 * i0)))) then
      N (Tcloud_VisibilityOf_0a i0 n1 c2 (w64 (i3 + (1 : Int))) i4 i5)
    else E (Xcloud_VisibilityOf_0a (i3, i4, i5))
  else E (Xcloud_VisibilityOf_0a (i3, i4, i5))
theorem Bcloud_VisibilityOf_0a_eq (F : FnT) (N : QO) (E : EO) (L0 : Q → Option Ycloud_VisibilityOf_0) (i0 : Int) (n1 : Nat) (c2 : List PV) (i3 : Int) (i4 : Int) (i5 : Int) : semB (callP F Ecloud_VisibilityOf 20) s20 (loopT [⟨0, Ycloud_VisibilityOf_0, L0, XLcloud_VisibilityOf_0⟩]) 400 (blkIn a20.body 0) N E (Tcloud_VisibilityOf_0a i0 n1 c2 i3 i4 i5) = Bcloud_VisibilityOf_0a F N E L0 i0 n1 c2 i3 i4 i5 := by kernel_rfl
theorem Rcloud_VisibilityOf_0a_of  (i0 : Int) (n1 : Nat) (c2 : List PV) (i3 : Int) (i4 : Int) (i5 : Int) {r : Ext × S} (h : Bcloud_VisibilityOf_0a (Fn env) Rcloud_VisibilityOf_0 exO Lcloud_VisibilityOf_0 i0 n1 c2 i3 i4 i5 = some r) : Rcloud_VisibilityOf_0 (Tcloud_VisibilityOf_0a i0 n1 c2 i3 i4 i5) = some r :=
  lp_of Ecloud_VisibilityOf_ok (by kernel_rfl) (lo_cons (lpO_ok Ucloud_VisibilityOf) lo_nil) (by kernel_rfl) ((Bcloud_VisibilityOf_0a_eq _ _ _ _ _ _ _ _ _ _).trans h)
def tcloud_VisibilityOf (F : FnT) (L0 : Q → Option Ycloud_VisibilityOf_0) (p0n : Nat) (p0c : List PV) (p1 : Int) (p2_0 : Int) (p2_1 : Int) : Option ((Int) × (Int)) :=
  bindO (F 55 (RSh.one (CK.int .i64)) [(PV.list p0n p0c)]) fun (y0 : (Int)) =>
  bindO (F 60 (RSh.one (CK.int .i64)) [(PV.int .i64 p1)]) fun (y1 : (Int)) =>
  bindO (F 61 (RSh.one (CK.int .i64)) [(PV.agg [(PV.int .i64 p2_0), (PV.int .i64 p2_1)])]) fun (y2 : (Int)) =>
  bindO (F 63 (RSh.one (CK.int .i64)) [(PV.list p0n p0c)]) fun (y3 : (Int)) =>
  bif (decide (y3 > p1)) then
    bindO (F 62 (RSh.one (CK.int .i64)) [(PV.bool true), (PV.int .i64 (20 : Int))]) fun (y4 : (Int)) =>
    bindO (F 54 (RSh.one (CK.int .i64)) [(PV.list 4 [(PV.int .i64 y0), (PV.int .i64 y1), (PV.int .i64 y2), (PV.int .i64 y4)])]) fun (y5 : (Int)) =>
    bif (y5 != (0 : Int)) then
      some ((0 : Int), y5)
    else bindO (L0 (Tcloud_VisibilityOf_0a p1 p0n p0c (0 : Int) p2_0 p2_1)) fun y6 =>
    some (y6.1, (0 : Int))
  else bindO (F 62 (RSh.one (CK.int .i64)) [(PV.bool false), (PV.int .i64 (20 : Int))]) fun (y7 : (Int)) =>
  bindO (F 54 (RSh.one (CK.int .i64)) [(PV.list 4 [(PV.int .i64 y0), (PV.int .i64 y1), (PV.int .i64 y2), (PV.int .i64 y7)])]) fun (y8 : (Int)) =>
  bif (y8 != (0 : Int)) then
    some ((0 : Int), y8)
  else bindO (L0 (Tcloud_VisibilityOf_0a p1 p0n p0c (0 : Int) p2_0 p2_1)) fun y9 =>
  some (y9.1, (0 : Int))
theorem tcloud_VisibilityOf_eq (F : FnT) (L0 : Q → Option Ycloud_VisibilityOf_0) (p0n : Nat) (p0c : List PV) (p1 : Int) (p2_0 : Int) (p2_1 : Int) : semF (callP F Ecloud_VisibilityOf 20) s20 (loopT [⟨0, Ycloud_VisibilityOf_0, L0, XLcloud_VisibilityOf_0⟩]) 400 a20 [PV.list p0n p0c, PV.int .i64 p1, PV.agg [PV.int .i64 p2_0, PV.int .i64 p2_1]] (fun rv => decR (RSh.tup [(Prod.mk false [(CK.int .i64)]), (Prod.mk false [(CK.int .i64)])]) rv.pv) = tcloud_VisibilityOf F L0 p0n p0c p1 p2_0 p2_1 := by kernel_rfl
noncomputable abbrev Fcloud_VisibilityOf (args : List PV) := Fn env 20 (RSh.tup [(Prod.mk false [(CK.int .i64)]), (Prod.mk false [(CK.int .i64)])]) args
theorem Fcloud_VisibilityOf_of  (p0n : Nat) (p0c : List PV) (p1 : Int) (p2_0 : Int) (p2_1 : Int) {res : ((Int) × (Int))} (h : tcloud_VisibilityOf (Fn env) Lcloud_VisibilityOf_0 p0n p0c p1 p2_0 p2_1 = some res) : Fcloud_VisibilityOf [PV.list p0n p0c, PV.int .i64 p1, PV.agg [PV.int .i64 p2_0, PV.int .i64 p2_1]] = some res :=
  fn_of Ecloud_VisibilityOf_ok rfl rfl (lo_cons (lpO_ok Ucloud_VisibilityOf) lo_nil) ((tcloud_VisibilityOf_eq _ _ _ _ _ _ _).trans h)
def Er_RuleErr : List Entry := [.out 14 (RSh.one CK.bool)]
theorem Er_RuleErr_ok : ∀ e ∈ Er_RuleErr, EntOK env e := (ent_out ent_nil)
def tr_RuleErr (F : FnT) (p0_0 : Int) (p0_1 : Int) (p0_2 : Int) : Option (Int) :=
  bindO (F 14 (RSh.one CK.bool) [(PV.int .i64 p0_0), (PV.int .i64 (1 : Int)), (PV.int .i64 (10000 : Int))]) fun (y0 : (Bool)) =>
  bif y0 then
    bindO (F 14 (RSh.one CK.bool) [(PV.int .i64 p0_1), (PV.int .i64 (0 : Int)), (PV.int .i64 (24 : Int))]) fun (y1 : (Bool)) =>
    bif y1 then
      bindO (F 14 (RSh.one CK.bool) [(PV.int .i64 p0_2), (PV.int .i64 (1 : Int)), (PV.int .i64 (24 : Int))]) fun (y2 : (Bool)) =>
      bif y2 then
        some (0 : Int)
      else some (2 : Int)
    else some (2 : Int)
  else some (2 : Int)
theorem tr_RuleErr_eq (F : FnT) (p0_0 : Int) (p0_1 : Int) (p0_2 : Int) : semF (callP F Er_RuleErr 20) s13 (loopT []) 400 a13 [PV.agg [PV.int .i64 p0_0, PV.int .i64 p0_1, PV.int .i64 p0_2]] (fun rv => decR (RSh.one (CK.int .i64)) rv.pv) = tr_RuleErr F p0_0 p0_1 p0_2 := by kernel_rfl
noncomputable abbrev Fr_RuleErr (args : List PV) := Fn env 13 (RSh.one (CK.int .i64)) args
theorem Fr_RuleErr_of  (p0_0 : Int) (p0_1 : Int) (p0_2 : Int) {res : (Int)} (h : tr_RuleErr (Fn env) p0_0 p0_1 p0_2 = some res) : Fr_RuleErr [PV.agg [PV.int .i64 p0_0, PV.int .i64 p0_1, PV.int .i64 p0_2]] = some res :=
  fn_of Er_RuleErr_ok rfl rfl lo_nil ((tr_RuleErr_eq _ _ _ _).trans h)
def Er_ConstantErr : List Entry := [.out 14 (RSh.one CK.bool)]
theorem Er_ConstantErr_ok : ∀ e ∈ Er_ConstantErr, EntOK env e := (ent_out ent_nil)
def tr_ConstantErr (F : FnT) (p0 : Int) : Option (Int) :=
  bindO (F 14 (RSh.one CK.bool) [(PV.int .i64 p0), (PV.int .i64 (1 : Int)), (PV.int .i64 (1000000 : Int))]) fun (y0 : (Bool)) =>
  bif y0 then
    some (0 : Int)
  else some (2 : Int)
theorem tr_ConstantErr_eq (F : FnT) (p0 : Int) : semF (callP F Er_ConstantErr 20) s17 (loopT []) 400 a17 [PV.int .i64 p0] (fun rv => decR (RSh.one (CK.int .i64)) rv.pv) = tr_ConstantErr F p0 := by kernel_rfl
noncomputable abbrev Fr_ConstantErr (args : List PV) := Fn env 17 (RSh.one (CK.int .i64)) args
theorem Fr_ConstantErr_of  (p0 : Int) {res : (Int)} (h : tr_ConstantErr (Fn env) p0 = some res) : Fr_ConstantErr [PV.int .i64 p0] = some res :=
  fn_of Er_ConstantErr_ok rfl rfl lo_nil ((tr_ConstantErr_eq _ _).trans h)
def Eb_Gcd : List Entry := [.out 70 (RSh.one (CK.int .i64))]
theorem Eb_Gcd_ok : ∀ e ∈ Eb_Gcd, EntOK env e := (ent_out ent_nil)
def Tb_Gcd_0a (i0 : Int) (i1 : Int) : Q := ⟨(tm 13 [(0, (AV.p (PV.int .i64 i0))), (1, (AV.p (PV.int .i64 i1)))]), (mm 13 [])⟩
def Xb_Gcd_0a (y : Int) : Ext × Q := (Ext.normal, ⟨(tm 13 [(0, (AV.p (PV.int .i64 y)))]), (mm 13 [])⟩)
def Ib_Gcd_0a (q : Ext × S) : Int := (pP_int1 (pA_p (avT q.2 0)))
abbrev Yb_Gcd_0 : Type := Int
def XLb_Gcd_0 : XL Yb_Gcd_0 := .one Xb_Gcd_0a
def Ib_Gcd_0 (q : Ext × S) : Yb_Gcd_0 := (Ib_Gcd_0a q)
theorem XIb_Gcd_0a (y : Int) : Ib_Gcd_0 (xe (Xb_Gcd_0a y)) = y := rfl
theorem XIb_Gcd_0 (y : Yb_Gcd_0) : Ib_Gcd_0 (xe (XLb_Gcd_0.fn y)) = y := XIb_Gcd_0a y
noncomputable abbrev Lb_Gcd_0 : Q → Option Yb_Gcd_0 := lpO env a96.body 0 XLb_Gcd_0
noncomputable abbrev Rb_Gcd_0 : Q → Option (Ext × S) := lpR env a96.body 0
theorem Lb_Gcd_0a_of {s : Q} {y : Int} (h : Rb_Gcd_0 s = exO (Xb_Gcd_0a y)) : Lb_Gcd_0 s = some y := lpO_of Ib_Gcd_0 XIb_Gcd_0 (y := y) h
theorem Ub_Gcd : uniq ((blocksOf a96.body).map (·.1)) = true := by kernel_rfl
def Bb_Gcd_0a (_F : FnT) (N : QO) (E : EO) (_L0 : Q → Option Yb_Gcd_0) (i0 : Int) (i1 : Int) : Option (Ext × S) :=
  bif (i1 != (0 : Int)) then
    bif (decide (i1 ≠ (0 : Int))) then
      N (Tb_Gcd_0a i1 (Int.tmod i0 i1))
    else none
  else E (Xb_Gcd_0a i0)
theorem Bb_Gcd_0a_eq (F : FnT) (N : QO) (E : EO) (L0 : Q → Option Yb_Gcd_0) (i0 : Int) (i1 : Int) : semB (callP F Eb_Gcd 20) s96 (loopT [⟨0, Yb_Gcd_0, L0, XLb_Gcd_0⟩]) 400 (blkIn a96.body 0) N E (Tb_Gcd_0a i0 i1) = Bb_Gcd_0a F N E L0 i0 i1 := by kernel_rfl
theorem Rb_Gcd_0a_of  (i0 : Int) (i1 : Int) {r : Ext × S} (h : Bb_Gcd_0a (Fn env) Rb_Gcd_0 exO Lb_Gcd_0 i0 i1 = some r) : Rb_Gcd_0 (Tb_Gcd_0a i0 i1) = some r :=
  lp_of Eb_Gcd_ok (by kernel_rfl) (lo_cons (lpO_ok Ub_Gcd) lo_nil) (by kernel_rfl) ((Bb_Gcd_0a_eq _ _ _ _ _ _).trans h)
def tb_Gcd (F : FnT) (L0 : Q → Option Yb_Gcd_0) (p0 : Int) (p1 : Int) : Option (Int) :=
  bindO (L0 (Tb_Gcd_0a p0 p1)) fun y0 =>
  bindO (F 70 (RSh.one (CK.int .i64)) [(PV.int .i64 y0)]) fun (y1 : (Int)) =>
  some y1
theorem tb_Gcd_eq (F : FnT) (L0 : Q → Option Yb_Gcd_0) (p0 : Int) (p1 : Int) : semF (callP F Eb_Gcd 20) s96 (loopT [⟨0, Yb_Gcd_0, L0, XLb_Gcd_0⟩]) 400 a96 [PV.int .i64 p0, PV.int .i64 p1] (fun rv => decR (RSh.one (CK.int .i64)) rv.pv) = tb_Gcd F L0 p0 p1 := by kernel_rfl
noncomputable abbrev Fb_Gcd (args : List PV) := Fn env 96 (RSh.one (CK.int .i64)) args
theorem Fb_Gcd_of  (p0 : Int) (p1 : Int) {res : (Int)} (h : tb_Gcd (Fn env) Lb_Gcd_0 p0 p1 = some res) : Fb_Gcd [PV.int .i64 p0, PV.int .i64 p1] = some res :=
  fn_of Eb_Gcd_ok rfl rfl (lo_cons (lpO_ok Ub_Gcd) lo_nil) ((tb_Gcd_eq _ _ _ _).trans h)
def Eb_IsLowest : List Entry := [.out 96 (RSh.one (CK.int .i64))]
theorem Eb_IsLowest_ok : ∀ e ∈ Eb_IsLowest, EntOK env e := (ent_out ent_nil)
def tb_IsLowest (F : FnT) (p0_0 : Int) (p0_1 : Int) : Option (Bool) :=
  bif (decide (p0_1 > (0 : Int))) then
    bindO (F 96 (RSh.one (CK.int .i64)) [(PV.int .i64 p0_0), (PV.int .i64 p0_1)]) fun (y0 : (Int)) =>
    bif (y0 == (1 : Int)) then
      some true
    else some false
  else some false
theorem tb_IsLowest_eq (F : FnT) (p0_0 : Int) (p0_1 : Int) : semF (callP F Eb_IsLowest 20) s59 (loopT []) 400 a59 [PV.agg [PV.int .i64 p0_0, PV.int .i64 p0_1]] (fun rv => decR (RSh.one CK.bool) rv.pv) = tb_IsLowest F p0_0 p0_1 := by kernel_rfl
noncomputable abbrev Fb_IsLowest (args : List PV) := Fn env 59 (RSh.one CK.bool) args
theorem Fb_IsLowest_of  (p0_0 : Int) (p0_1 : Int) {res : (Bool)} (h : tb_IsLowest (Fn env) p0_0 p0_1 = some res) : Fb_IsLowest [PV.agg [PV.int .i64 p0_0, PV.int .i64 p0_1]] = some res :=
  fn_of Eb_IsLowest_ok rfl rfl lo_nil ((tb_IsLowest_eq _ _ _).trans h)
def Er_PartErr : List Entry := [.out 59 (RSh.one CK.bool), .out 14 (RSh.one CK.bool)]
theorem Er_PartErr_ok : ∀ e ∈ Er_PartErr, EntOK env e := (ent_out (ent_out ent_nil))
def tr_PartErr (F : FnT) (p0_0 : Int) (p0_1 : Int) : Option (Int) :=
  bindO (F 59 (RSh.one CK.bool) [(PV.agg [(PV.int .i64 p0_0), (PV.int .i64 p0_1)])]) fun (y0 : (Bool)) =>
  bif y0 then
    bindO (F 14 (RSh.one CK.bool) [(PV.int .i64 p0_0), (PV.int .i64 (0 : Int)), (PV.int .i64 p0_1)]) fun (y1 : (Bool)) =>
    bif y1 then
      bif (decide (p0_1 > (1000000000 : Int))) then
        some (2 : Int)
      else some (0 : Int)
    else some (2 : Int)
  else some (3 : Int)
theorem tr_PartErr_eq (F : FnT) (p0_0 : Int) (p0_1 : Int) : semF (callP F Er_PartErr 20) s18 (loopT []) 400 a18 [PV.agg [PV.int .i64 p0_0, PV.int .i64 p0_1]] (fun rv => decR (RSh.one (CK.int .i64)) rv.pv) = tr_PartErr F p0_0 p0_1 := by kernel_rfl
noncomputable abbrev Fr_PartErr (args : List PV) := Fn env 18 (RSh.one (CK.int .i64)) args
theorem Fr_PartErr_of  (p0_0 : Int) (p0_1 : Int) {res : (Int)} (h : tr_PartErr (Fn env) p0_0 p0_1 = some res) : Fr_PartErr [PV.agg [PV.int .i64 p0_0, PV.int .i64 p0_1]] = some res :=
  fn_of Er_PartErr_ok rfl rfl lo_nil ((tr_PartErr_eq _ _ _).trans h)
def Er_Rest : List Entry := []
theorem Er_Rest_ok : ∀ e ∈ Er_Rest, EntOK env e := ent_nil
def Tr_Rest_0a (n0 : Nat) (c1 : List PV) (i2 : Int) (i3 : Int) (i4 : Int) : Q := ⟨(tm 20 [(0, (AV.p (PV.list n0 c1))), (1, (AV.p (PV.int .i64 i2))), (2, (AV.p (PV.int .i64 i3))), (7, (AV.p (PV.int .i64 i4)))]), (mm 20 [])⟩
def Xr_Rest_0a (y : Int) : Ext × Q := (Ext.normal, ⟨(tm 20 [(1, (AV.p (PV.int .i64 y)))]), (mm 20 [])⟩)
def Ir_Rest_0a (q : Ext × S) : Int := (pP_int1 (pA_p (avT q.2 1)))
abbrev Yr_Rest_0 : Type := Int
def XLr_Rest_0 : XL Yr_Rest_0 := .one Xr_Rest_0a
def Ir_Rest_0 (q : Ext × S) : Yr_Rest_0 := (Ir_Rest_0a q)
theorem XIr_Rest_0a (y : Int) : Ir_Rest_0 (xe (Xr_Rest_0a y)) = y := rfl
theorem XIr_Rest_0 (y : Yr_Rest_0) : Ir_Rest_0 (xe (XLr_Rest_0.fn y)) = y := XIr_Rest_0a y
noncomputable abbrev Lr_Rest_0 : Q → Option Yr_Rest_0 := lpO env a19.body 0 XLr_Rest_0
noncomputable abbrev Rr_Rest_0 : Q → Option (Ext × S) := lpR env a19.body 0
theorem Lr_Rest_0a_of {s : Q} {y : Int} (h : Rr_Rest_0 s = exO (Xr_Rest_0a y)) : Lr_Rest_0 s = some y := lpO_of Ir_Rest_0 XIr_Rest_0 (y := y) h
theorem Ur_Rest : uniq ((blocksOf a19.body).map (·.1)) = true := by kernel_rfl
def Br_Rest_0a (_F : FnT) (N : QO) (E : EO) (_L0 : Q → Option Yr_Rest_0) (n0 : Nat) (c1 : List PV) (i2 : Int) (i3 : Int) (i4 : Int) : Option (Ext × S) :=
  bif (decide (i4 < i3)) then
    bif (decide (((0 : Int) ≤ i4) ∧ (i4 < (n0 : Int)))) then
      bindO (intC .i64 (c1[((Int.toNat i4) * 1)]?)) fun x0 =>
      N (Tr_Rest_0a n0 c1 (w64 (i2 - x0)) i3 (w64 (i4 + (1 : Int))))
    else none
  else E (Xr_Rest_0a i2)
theorem Br_Rest_0a_eq (F : FnT) (N : QO) (E : EO) (L0 : Q → Option Yr_Rest_0) (n0 : Nat) (c1 : List PV) (i2 : Int) (i3 : Int) (i4 : Int) : semB (callP F Er_Rest 20) s19 (loopT [⟨0, Yr_Rest_0, L0, XLr_Rest_0⟩]) 400 (blkIn a19.body 0) N E (Tr_Rest_0a n0 c1 i2 i3 i4) = Br_Rest_0a F N E L0 n0 c1 i2 i3 i4 := by kernel_rfl
theorem Rr_Rest_0a_of  (n0 : Nat) (c1 : List PV) (i2 : Int) (i3 : Int) (i4 : Int) {r : Ext × S} (h : Br_Rest_0a (Fn env) Rr_Rest_0 exO Lr_Rest_0 n0 c1 i2 i3 i4 = some r) : Rr_Rest_0 (Tr_Rest_0a n0 c1 i2 i3 i4) = some r :=
  lp_of Er_Rest_ok (by kernel_rfl) (lo_cons (lpO_ok Ur_Rest) lo_nil) (by kernel_rfl) ((Br_Rest_0a_eq _ _ _ _ _ _ _ _ _).trans h)
def tr_Rest (_F : FnT) (L0 : Q → Option Yr_Rest_0) (p0n : Nat) (p0c : List PV) (p1 : Int) (p2 : Int) : Option (Int) :=
  bindO (L0 (Tr_Rest_0a p0n p0c p1 p2 (0 : Int))) fun y0 =>
  some y0
theorem tr_Rest_eq (F : FnT) (L0 : Q → Option Yr_Rest_0) (p0n : Nat) (p0c : List PV) (p1 : Int) (p2 : Int) : semF (callP F Er_Rest 20) s19 (loopT [⟨0, Yr_Rest_0, L0, XLr_Rest_0⟩]) 400 a19 [PV.list p0n p0c, PV.int .i64 p1, PV.int .i64 p2] (fun rv => decR (RSh.one (CK.int .i64)) rv.pv) = tr_Rest F L0 p0n p0c p1 p2 := by kernel_rfl
noncomputable abbrev Fr_Rest (args : List PV) := Fn env 19 (RSh.one (CK.int .i64)) args
theorem Fr_Rest_of  (p0n : Nat) (p0c : List PV) (p1 : Int) (p2 : Int) {res : (Int)} (h : tr_Rest (Fn env) Lr_Rest_0 p0n p0c p1 p2 = some res) : Fr_Rest [PV.list p0n p0c, PV.int .i64 p1, PV.int .i64 p2] = some res :=
  fn_of Er_Rest_ok rfl rfl (lo_cons (lpO_ok Ur_Rest) lo_nil) ((tr_Rest_eq _ _ _ _ _ _).trans h)
end Gv
