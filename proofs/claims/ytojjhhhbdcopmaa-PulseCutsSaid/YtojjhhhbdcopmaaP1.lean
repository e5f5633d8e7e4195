/- What the functions do, round by round: P1. -/
import Derived.Test.YtojjhhhbdcopmaaGvEnv
namespace Gv
open Go
set_option maxRecDepth 100000

/-! ### pulse_errorIf -/

def Epulse_errorIf : List Entry := []
theorem Epulse_errorIf_ok : ∀ e ∈ Epulse_errorIf, EntOK env e := ent_nil
theorem Upulse_errorIf : uniq ((blocksOf a105.body).map (·.1)) = true := by kernel_rfl
def tpulse_errorIf (_F : FnT) (p0 : Bool) (p1 : Int) : Option (Int) :=
  bif p0 then
    some p1
  else some (0 : Int)
theorem tpulse_errorIf_eq (F : FnT) (p0 : Bool) (p1 : Int) : semF (callP F Epulse_errorIf 20) s105 (loopT []) 400 a105 [PV.bool p0, PV.int IntKind.i64 p1] (fun rv => decR (RSh.one (CK.int IntKind.i64)) rv.pv) = tpulse_errorIf F p0 p1 := by kernel_rfl
noncomputable abbrev Fpulse_errorIf (args : List PV) := Fn env 105 (RSh.one (CK.int IntKind.i64)) args
theorem Fpulse_errorIf_of  (p0 : Bool) (p1 : Int) {res : (Int)} (h : tpulse_errorIf (Fn env) p0 p1 = some res) : Fpulse_errorIf [PV.bool p0, PV.int IntKind.i64 p1] = some res :=
  fn_of Epulse_errorIf_ok rfl rfl lo_nil ((tpulse_errorIf_eq _ _ _).trans h)

/-! ### pulse_rangeError -/

def Epulse_rangeError : List Entry := [.inl 105 a105 s105]
theorem Epulse_rangeError_ok : ∀ e ∈ Epulse_rangeError, EntOK env e := (ent_inl rfl ent_nil)
theorem Upulse_rangeError : uniq ((blocksOf a92.body).map (·.1)) = true := by kernel_rfl
def tpulse_rangeError (_F : FnT) (p0 : Int) (p1 : Int) (p2 : Int) : Option (Int) :=
  bif (decide (p0 < p1)) then
    some (2 : Int)
  else bif (decide (p0 > p2)) then
    some (2 : Int)
  else some (0 : Int)
theorem tpulse_rangeError_eq (F : FnT) (p0 : Int) (p1 : Int) (p2 : Int) : semF (callP F Epulse_rangeError 20) s92 (loopT []) 400 a92 [PV.int IntKind.i64 p0, PV.int IntKind.i64 p1, PV.int IntKind.i64 p2] (fun rv => decR (RSh.one (CK.int IntKind.i64)) rv.pv) = tpulse_rangeError F p0 p1 p2 := by kernel_rfl
noncomputable abbrev Fpulse_rangeError (args : List PV) := Fn env 92 (RSh.one (CK.int IntKind.i64)) args
theorem Fpulse_rangeError_of  (p0 : Int) (p1 : Int) (p2 : Int) {res : (Int)} (h : tpulse_rangeError (Fn env) p0 p1 p2 = some res) : Fpulse_rangeError [PV.int IntKind.i64 p0, PV.int IntKind.i64 p1, PV.int IntKind.i64 p2] = some res :=
  fn_of Epulse_rangeError_ok rfl rfl lo_nil ((tpulse_rangeError_eq _ _ _ _).trans h)

/-! ### pulse_plus -/

def Epulse_plus : List Entry := []
theorem Epulse_plus_ok : ∀ e ∈ Epulse_plus, EntOK env e := ent_nil
theorem Upulse_plus : uniq ((blocksOf a117.body).map (·.1)) = true := by kernel_rfl
def tpulse_plus (_F : FnT) (p0_0 : Int) (p0_1 : Int) (p1_0 : Int) (p1_1 : Int) : Option ((Int) × (Int)) :=
  some ((w64 (p0_0 + p1_0)), (w64 (p0_1 + p1_1)))
theorem tpulse_plus_eq (F : FnT) (p0_0 : Int) (p0_1 : Int) (p1_0 : Int) (p1_1 : Int) : semF (callP F Epulse_plus 20) s117 (loopT []) 400 a117 [PV.agg [PV.int IntKind.i64 p0_0, PV.int IntKind.i64 p0_1], PV.agg [PV.int IntKind.i64 p1_0, PV.int IntKind.i64 p1_1]] (fun rv => decR (RSh.agg [(CK.int IntKind.i64), (CK.int IntKind.i64)]) rv.pv) = tpulse_plus F p0_0 p0_1 p1_0 p1_1 := by kernel_rfl
noncomputable abbrev Fpulse_plus (args : List PV) := Fn env 117 (RSh.agg [(CK.int IntKind.i64), (CK.int IntKind.i64)]) args
theorem Fpulse_plus_of  (p0_0 : Int) (p0_1 : Int) (p1_0 : Int) (p1_1 : Int) {res : ((Int) × (Int))} (h : tpulse_plus (Fn env) p0_0 p0_1 p1_0 p1_1 = some res) : Fpulse_plus [PV.agg [PV.int IntKind.i64 p0_0, PV.int IntKind.i64 p0_1], PV.agg [PV.int IntKind.i64 p1_0, PV.int IntKind.i64 p1_1]] = some res :=
  fn_of Epulse_plus_ok rfl rfl lo_nil ((tpulse_plus_eq _ _ _ _ _).trans h)

/-! ### pulse_conjugateTimes -/

def Epulse_conjugateTimes : List Entry := []
theorem Epulse_conjugateTimes_ok : ∀ e ∈ Epulse_conjugateTimes, EntOK env e := ent_nil
theorem Upulse_conjugateTimes : uniq ((blocksOf a144.body).map (·.1)) = true := by kernel_rfl
def tpulse_conjugateTimes (_F : FnT) (p0_0 : Int) (p0_1 : Int) (p1_0 : Int) (p1_1 : Int) : Option ((Int) × (Int)) :=
  some ((w64 ((w64 (p0_0 * p1_0)) + (w64 (p0_1 * p1_1)))), (w64 ((w64 (p0_0 * p1_1)) - (w64 (p0_1 * p1_0)))))
theorem tpulse_conjugateTimes_eq (F : FnT) (p0_0 : Int) (p0_1 : Int) (p1_0 : Int) (p1_1 : Int) : semF (callP F Epulse_conjugateTimes 20) s144 (loopT []) 400 a144 [PV.agg [PV.int IntKind.i64 p0_0, PV.int IntKind.i64 p0_1], PV.agg [PV.int IntKind.i64 p1_0, PV.int IntKind.i64 p1_1]] (fun rv => decR (RSh.agg [(CK.int IntKind.i64), (CK.int IntKind.i64)]) rv.pv) = tpulse_conjugateTimes F p0_0 p0_1 p1_0 p1_1 := by kernel_rfl
noncomputable abbrev Fpulse_conjugateTimes (args : List PV) := Fn env 144 (RSh.agg [(CK.int IntKind.i64), (CK.int IntKind.i64)]) args
theorem Fpulse_conjugateTimes_of  (p0_0 : Int) (p0_1 : Int) (p1_0 : Int) (p1_1 : Int) {res : ((Int) × (Int))} (h : tpulse_conjugateTimes (Fn env) p0_0 p0_1 p1_0 p1_1 = some res) : Fpulse_conjugateTimes [PV.agg [PV.int IntKind.i64 p0_0, PV.int IntKind.i64 p0_1], PV.agg [PV.int IntKind.i64 p1_0, PV.int IntKind.i64 p1_1]] = some res :=
  fn_of Epulse_conjugateTimes_ok rfl rfl lo_nil ((tpulse_conjugateTimes_eq _ _ _ _ _).trans h)

/-! ### pulse_turned -/

def Epulse_turned : List Entry := []
theorem Epulse_turned_ok : ∀ e ∈ Epulse_turned, EntOK env e := ent_nil
theorem Upulse_turned : uniq ((blocksOf a109.body).map (·.1)) = true := by kernel_rfl
def tpulse_turned (_F : FnT) (p0_0 : Int) (p0_1 : Int) (p1 : Int) : Option ((Int) × (Int)) :=
  bif ((Int.tmod p1 (4 : Int)) == (1 : Int)) then
    some (p0_1, (w64 ((0 : Int) - p0_0)))
  else bif ((Int.tmod p1 (4 : Int)) == (2 : Int)) then
    some ((w64 ((0 : Int) - p0_0)), (w64 ((0 : Int) - p0_1)))
  else bif ((Int.tmod p1 (4 : Int)) == (3 : Int)) then
    some ((w64 ((0 : Int) - p0_1)), p0_0)
  else some (p0_0, p0_1)
theorem tpulse_turned_eq (F : FnT) (p0_0 : Int) (p0_1 : Int) (p1 : Int) : semF (callP F Epulse_turned 20) s109 (loopT []) 400 a109 [PV.agg [PV.int IntKind.i64 p0_0, PV.int IntKind.i64 p0_1], PV.int IntKind.i64 p1] (fun rv => decR (RSh.agg [(CK.int IntKind.i64), (CK.int IntKind.i64)]) rv.pv) = tpulse_turned F p0_0 p0_1 p1 := by kernel_rfl
noncomputable abbrev Fpulse_turned (args : List PV) := Fn env 109 (RSh.agg [(CK.int IntKind.i64), (CK.int IntKind.i64)]) args
theorem Fpulse_turned_of  (p0_0 : Int) (p0_1 : Int) (p1 : Int) {res : ((Int) × (Int))} (h : tpulse_turned (Fn env) p0_0 p0_1 p1 = some res) : Fpulse_turned [PV.agg [PV.int IntKind.i64 p0_0, PV.int IntKind.i64 p0_1], PV.int IntKind.i64 p1] = some res :=
  fn_of Epulse_turned_ok rfl rfl lo_nil ((tpulse_turned_eq _ _ _ _).trans h)

/-! ### pulse_correlation -/

def Epulse_correlation : List Entry := [.out 144 (RSh.agg [(CK.int IntKind.i64), (CK.int IntKind.i64)]), .out 117 (RSh.agg [(CK.int IntKind.i64), (CK.int IntKind.i64)])]
theorem Epulse_correlation_ok : ∀ e ∈ Epulse_correlation, EntOK env e := (ent_out (ent_out ent_nil))
def Tpulse_correlation_0a (n0 : Nat) (c1 : List PV) (i2 : Int) (i3 : Int) (i4 : Int) (i5 : Int) : Q := ⟨(tm 32 [(0, (AV.p (PV.list n0 c1))), (1, (AV.p (PV.int IntKind.i64 i2))), (6, (AV.loc 6 0)), (7, (AV.loc 7 0)), (8, (AV.p (PV.int IntKind.i64 i3)))]), (mm 32 [(6, (Bk.pcs true [(PV.int IntKind.i64 (0 : Int)), (PV.int IntKind.i64 (0 : Int))])), (7, (Bk.pcs true [(PV.int IntKind.i64 i4), (PV.int IntKind.i64 i5)]))])⟩
def Xpulse_correlation_0a (y : Int × Int) : Ext × Q := (Ext.normal, ⟨(tm 32 [(6, (AV.loc 6 0)), (7, (AV.loc 7 0))]), (mm 32 [(6, (Bk.pcs true [(PV.int IntKind.i64 (0 : Int)), (PV.int IntKind.i64 (0 : Int))])), (7, (Bk.pcs true [(PV.int IntKind.i64 y.1), (PV.int IntKind.i64 y.2)]))])⟩)
def Ipulse_correlation_0a (q : Ext × S) : Int × Int := ((pP_int1 (hdP (pB_pcs1 (avM q.2 7)))), (pP_int1 (hdP (List.tail (pB_pcs1 (avM q.2 7))))))
abbrev Ypulse_correlation_0 : Type := Int × Int
def XLpulse_correlation_0 : XL Ypulse_correlation_0 := .one Xpulse_correlation_0a
def Ipulse_correlation_0 (q : Ext × S) : Ypulse_correlation_0 := (Ipulse_correlation_0a q)
theorem XIpulse_correlation_0a (y : Int × Int) : Ipulse_correlation_0 (xe (Xpulse_correlation_0a y)) = y := rfl
theorem XIpulse_correlation_0 (y : Ypulse_correlation_0) : Ipulse_correlation_0 (xe (XLpulse_correlation_0.fn y)) = y := XIpulse_correlation_0a y
noncomputable abbrev Lpulse_correlation_0 : Q → Option Ypulse_correlation_0 := lpO env a110.body 0 XLpulse_correlation_0
noncomputable abbrev Rpulse_correlation_0 : Q → Option (Ext × S) := lpR env a110.body 0
theorem Lpulse_correlation_0a_of {s : Q} {y : Int × Int} (h : Rpulse_correlation_0 s = exO (Xpulse_correlation_0a y)) : Lpulse_correlation_0 s = some y := lpO_of Ipulse_correlation_0 XIpulse_correlation_0 (y := y) h
theorem Upulse_correlation : uniq ((blocksOf a110.body).map (·.1)) = true := by kernel_rfl
def Bpulse_correlation_0a (F : FnT) (N : Q → Option (Ext × S)) (E : Ext × Q → Option (Ext × S)) (_L0 : Q → Option Ypulse_correlation_0) (n0 : Nat) (c1 : List PV) (i2 : Int) (i3 : Int) (i4 : Int) (i5 : Int) : Option (Ext × S) :=
  bif (decide (i3 < (n0 : Int))) then
    bif (decide (((0 : Int) ≤ (w64 (i3 - i2))) ∧ ((w64 (i3 - i2)) < (n0 : Int)))) then
      bindO (intC IntKind.i64 (c1[((Int.toNat (w64 (i3 - i2))) * 2)]?)) fun x0 =>
      bindO (intC IntKind.i64 (c1[(((Int.toNat (w64 (i3 - i2))) * 2) + 1)]?)) fun x1 =>
      bif (decide (((0 : Int) ≤ i3) ∧ (i3 < (n0 : Int)))) then
        bindO (intC IntKind.i64 (c1[((Int.toNat i3) * 2)]?)) fun x2 =>
        bindO (intC IntKind.i64 (c1[(((Int.toNat i3) * 2) + 1)]?)) fun x3 =>
        bindO (F 144 (RSh.agg [(CK.int IntKind.i64), (CK.int IntKind.i64)]) [(PV.agg [(PV.int IntKind.i64 x0), (PV.int IntKind.i64 x1)]), (PV.agg [(PV.int IntKind.i64 x2), (PV.int IntKind.i64 x3)])]) fun (y4 : ((Int) × (Int))) =>
        bindO (F 117 (RSh.agg [(CK.int IntKind.i64), (CK.int IntKind.i64)]) [(PV.agg [(PV.int IntKind.i64 i4), (PV.int IntKind.i64 i5)]), (PV.agg [(PV.int IntKind.i64 y4.1), (PV.int IntKind.i64 y4.2)])]) fun (y5 : ((Int) × (Int))) =>
        N (Tpulse_correlation_0a n0 c1 i2 (w64 (i3 + (1 : Int))) y5.1 y5.2)
      else none
    else none
  else E (Xpulse_correlation_0a (i4, i5))
theorem Bpulse_correlation_0a_eq (F : FnT) (N : Q → Option (Ext × S)) (E : Ext × Q → Option (Ext × S)) (L0 : Q → Option Ypulse_correlation_0) (n0 : Nat) (c1 : List PV) (i2 : Int) (i3 : Int) (i4 : Int) (i5 : Int) : semB (callP F Epulse_correlation 20) s110 (loopT [⟨0, Ypulse_correlation_0, L0, XLpulse_correlation_0⟩]) 400 (blkIn a110.body 0) N E (Tpulse_correlation_0a n0 c1 i2 i3 i4 i5) = Bpulse_correlation_0a F N E L0 n0 c1 i2 i3 i4 i5 := by kernel_rfl
theorem Rpulse_correlation_0a_of  (n0 : Nat) (c1 : List PV) (i2 : Int) (i3 : Int) (i4 : Int) (i5 : Int) {r : Ext × S} (h : Bpulse_correlation_0a (Fn env) Rpulse_correlation_0 exO Lpulse_correlation_0 n0 c1 i2 i3 i4 i5 = some r) : Rpulse_correlation_0 (Tpulse_correlation_0a n0 c1 i2 i3 i4 i5) = some r :=
  lp_of Epulse_correlation_ok (by kernel_rfl) (lo_cons (lpO_ok Upulse_correlation) lo_nil) (by kernel_rfl) ((Bpulse_correlation_0a_eq _ _ _ _ _ _ _ _ _ _).trans h)
def tpulse_correlation (_F : FnT) (L0 : Q → Option Ypulse_correlation_0) (p0n : Nat) (p0c : List PV) (p1 : Int) (p2 : Int) : Option ((Int) × (Int)) :=
  bindO (L0 (Tpulse_correlation_0a p0n p0c p1 (if (p2 > p1) then p2 else p1) (0 : Int) (0 : Int))) fun y0 =>
  some (y0.1, y0.2)
theorem tpulse_correlation_eq (F : FnT) (L0 : Q → Option Ypulse_correlation_0) (p0n : Nat) (p0c : List PV) (p1 : Int) (p2 : Int) : semF (callP F Epulse_correlation 20) s110 (loopT [⟨0, Ypulse_correlation_0, L0, XLpulse_correlation_0⟩]) 400 a110 [PV.list p0n p0c, PV.int IntKind.i64 p1, PV.int IntKind.i64 p2] (fun rv => decR (RSh.agg [(CK.int IntKind.i64), (CK.int IntKind.i64)]) rv.pv) = tpulse_correlation F L0 p0n p0c p1 p2 := by kernel_rfl
noncomputable abbrev Fpulse_correlation (args : List PV) := Fn env 110 (RSh.agg [(CK.int IntKind.i64), (CK.int IntKind.i64)]) args
theorem Fpulse_correlation_of  (p0n : Nat) (p0c : List PV) (p1 : Int) (p2 : Int) {res : ((Int) × (Int))} (h : tpulse_correlation (Fn env) Lpulse_correlation_0 p0n p0c p1 p2 = some res) : Fpulse_correlation [PV.list p0n p0c, PV.int IntKind.i64 p1, PV.int IntKind.i64 p2] = some res :=
  fn_of Epulse_correlation_ok rfl rfl (lo_cons (lpO_ok Upulse_correlation) lo_nil) ((tpulse_correlation_eq _ _ _ _ _ _).trans h)

/-! ### pulse_firstError_2 -/

def Epulse_firstError_2 : List Entry := []
theorem Epulse_firstError_2_ok : ∀ e ∈ Epulse_firstError_2, EntOK env e := ent_nil
theorem Upulse_firstError_2 : uniq ((blocksOf a91.body).map (·.1)) = true := by kernel_rfl
def tpulse_firstError_2 (_F : FnT)(e0 e1 : Int) : Option (Int) :=
  bif (e0 != (0 : Int)) then
    some e0
  else bif (e1 != (0 : Int)) then
    some e1
  else some (0 : Int)
theorem tpulse_firstError_2_eq (F : FnT)(e0 e1 : Int) : semF (callP F Epulse_firstError_2 20) s91 (loopT []) 400 a91 [.list 2 [.int .i64 e0, .int .i64 e1]] (fun rv => decR (RSh.one (CK.int IntKind.i64)) rv.pv) = tpulse_firstError_2 F e0 e1 := by kernel_rfl
noncomputable abbrev Fpulse_firstError_2 (args : List PV) := Fn env 91 (RSh.one (CK.int IntKind.i64)) args
theorem Fpulse_firstError_2_of (e0 e1 : Int) {res : (Int)} (h : tpulse_firstError_2 (Fn env) e0 e1 = some res) : Fpulse_firstError_2 [.list 2 [.int .i64 e0, .int .i64 e1]] = some res :=
  fn_of Epulse_firstError_2_ok rfl rfl lo_nil ((tpulse_firstError_2_eq _ _ _).trans h)

/-! ### pulse_partsError_1 -/

def Epulse_partsError_1 : List Entry := [.out 92 (RSh.one (CK.int IntKind.i64)), .out 91 (RSh.one (CK.int IntKind.i64))]
theorem Epulse_partsError_1_ok : ∀ e ∈ Epulse_partsError_1, EntOK env e := (ent_out (ent_out ent_nil))
theorem Upulse_partsError_1 : uniq ((blocksOf a138.body).map (·.1)) = true := by kernel_rfl
def tpulse_partsError_1 (F : FnT)(x y m : Int) : Option (Int) :=
  bindO (F 92 (RSh.one (CK.int IntKind.i64)) [(PV.int IntKind.i64 x), (PV.int IntKind.i64 (w64 ((0 : Int) - m))), (PV.int IntKind.i64 m)]) fun (y0 : (Int)) =>
  bindO (F 92 (RSh.one (CK.int IntKind.i64)) [(PV.int IntKind.i64 y), (PV.int IntKind.i64 (w64 ((0 : Int) - m))), (PV.int IntKind.i64 m)]) fun (y1 : (Int)) =>
  bindO (F 91 (RSh.one (CK.int IntKind.i64)) [(PV.list 2 [(PV.int IntKind.i64 y0), (PV.int IntKind.i64 y1)])]) fun (y2 : (Int)) =>
  some y2
theorem tpulse_partsError_1_eq (F : FnT)(x y m : Int) : semF (callP F Epulse_partsError_1 20) s138 (loopT []) 400 a138 [.agg [.int .i64 x, .int .i64 y], .imm [.int .i64 m] 0] (fun rv => decR (RSh.one (CK.int IntKind.i64)) rv.pv) = tpulse_partsError_1 F x y m := by kernel_rfl
noncomputable abbrev Fpulse_partsError_1 (args : List PV) := Fn env 138 (RSh.one (CK.int IntKind.i64)) args
theorem Fpulse_partsError_1_of (x y m : Int) {res : (Int)} (h : tpulse_partsError_1 (Fn env) x y m = some res) : Fpulse_partsError_1 [.agg [.int .i64 x, .int .i64 y], .imm [.int .i64 m] 0] = some res :=
  fn_of Epulse_partsError_1_ok rfl rfl lo_nil ((tpulse_partsError_1_eq _ _ _ _).trans h)

/-! ### pulse_itemError_glidepath_api_Gauss_ -/

def Epulse_itemError_glidepath_api_Gauss_ : List Entry := [.out 138 (RSh.one (CK.int IntKind.i64))]
theorem Epulse_itemError_glidepath_api_Gauss__ok : ∀ e ∈ Epulse_itemError_glidepath_api_Gauss_, EntOK env e := (ent_out ent_nil)
def Tpulse_itemError_glidepath_api_Gauss__0a (i0 : Int) (n1 : Nat) (c2 : List PV) (i3 : Int) (i4 : Int) : Q := ⟨(tm 24 [(1, (AV.p (PV.fn 138 [(PV.imm [(PV.int IntKind.i64 i0)] 0)]))), (9, (AV.p (PV.list n1 c2))), (10, (AV.p (PV.int IntKind.i64 i3))), (11, (AV.p (PV.int IntKind.i64 i4)))]), (mm 24 [])⟩
def Xpulse_itemError_glidepath_api_Gauss__0a (y : Int × Int) : Ext × Q := (Ext.ret, ⟨(tm 24 [(4, (AV.p (PV.int IntKind.i64 y.1))), (5, (AV.p (PV.int IntKind.i64 y.2)))]), (mm 24 [])⟩)
def Ipulse_itemError_glidepath_api_Gauss__0a (q : Ext × S) : Int × Int := ((pP_int1 (pA_p (avT q.2 4))), (pP_int1 (pA_p (avT q.2 5))))
def Xpulse_itemError_glidepath_api_Gauss__0b (_y : Unit) : Ext × Q := (Ext.normal, ⟨(tm 24 []), (mm 24 [])⟩)
def Ipulse_itemError_glidepath_api_Gauss__0b (_q : Ext × S) : Unit := ()
abbrev Ypulse_itemError_glidepath_api_Gauss__0 : Type := (Int × Int) ⊕ ((Unit))
def XLpulse_itemError_glidepath_api_Gauss__0 : XL Ypulse_itemError_glidepath_api_Gauss__0 := .more Xpulse_itemError_glidepath_api_Gauss__0a (.one Xpulse_itemError_glidepath_api_Gauss__0b)
def Ipulse_itemError_glidepath_api_Gauss__0 (q : Ext × S) : Ypulse_itemError_glidepath_api_Gauss__0 := bif (cE q.1 == 2) then (Sum.inl (Ipulse_itemError_glidepath_api_Gauss__0a q)) else (Sum.inr (Ipulse_itemError_glidepath_api_Gauss__0b q))
theorem XIpulse_itemError_glidepath_api_Gauss__0a (y : Int × Int) : Ipulse_itemError_glidepath_api_Gauss__0 (xe (Xpulse_itemError_glidepath_api_Gauss__0a y)) = (Sum.inl y) := rfl
theorem XIpulse_itemError_glidepath_api_Gauss__0b (y : Unit) : Ipulse_itemError_glidepath_api_Gauss__0 (xe (Xpulse_itemError_glidepath_api_Gauss__0b y)) = (Sum.inr y) := rfl
theorem XIpulse_itemError_glidepath_api_Gauss__0 (y : Ypulse_itemError_glidepath_api_Gauss__0) : Ipulse_itemError_glidepath_api_Gauss__0 (xe (XLpulse_itemError_glidepath_api_Gauss__0.fn y)) = y := (match y with | .inl y => XIpulse_itemError_glidepath_api_Gauss__0a y | .inr y => XIpulse_itemError_glidepath_api_Gauss__0b y)
noncomputable abbrev Lpulse_itemError_glidepath_api_Gauss__0 : Q → Option Ypulse_itemError_glidepath_api_Gauss__0 := lpO env a113.body 0 XLpulse_itemError_glidepath_api_Gauss__0
noncomputable abbrev Rpulse_itemError_glidepath_api_Gauss__0 : Q → Option (Ext × S) := lpR env a113.body 0
theorem Lpulse_itemError_glidepath_api_Gauss__0a_of {s : Q} {y : Int × Int} (h : Rpulse_itemError_glidepath_api_Gauss__0 s = exO (Xpulse_itemError_glidepath_api_Gauss__0a y)) : Lpulse_itemError_glidepath_api_Gauss__0 s = some (Sum.inl y) := lpO_of Ipulse_itemError_glidepath_api_Gauss__0 XIpulse_itemError_glidepath_api_Gauss__0 (y := (Sum.inl y)) h
theorem Lpulse_itemError_glidepath_api_Gauss__0b_of {s : Q} {y : Unit} (h : Rpulse_itemError_glidepath_api_Gauss__0 s = exO (Xpulse_itemError_glidepath_api_Gauss__0b y)) : Lpulse_itemError_glidepath_api_Gauss__0 s = some (Sum.inr y) := lpO_of Ipulse_itemError_glidepath_api_Gauss__0 XIpulse_itemError_glidepath_api_Gauss__0 (y := (Sum.inr y)) h
theorem Upulse_itemError_glidepath_api_Gauss_ : uniq ((blocksOf a113.body).map (·.1)) = true := by kernel_rfl
def Bpulse_itemError_glidepath_api_Gauss__0a (F : FnT) (N : Q → Option (Ext × S)) (E : Ext × Q → Option (Ext × S)) (_L0 : Q → Option Ypulse_itemError_glidepath_api_Gauss__0) (i0 : Int) (n1 : Nat) (c2 : List PV) (i3 : Int) (i4 : Int) : Option (Ext × S) :=
  bif (decide (i4 < i3)) then
    bif (decide (((0 : Int) ≤ i4) ∧ (i4 < (n1 : Int)))) then
      bindO (intC IntKind.i64 (c2[((Int.toNat i4) * 2)]?)) fun x0 =>
      bindO (intC IntKind.i64 (c2[(((Int.toNat i4) * 2) + 1)]?)) fun x1 =>
      bindO (F 138 (RSh.one (CK.int IntKind.i64)) [(PV.agg [(PV.int IntKind.i64 x0), (PV.int IntKind.i64 x1)]), (PV.imm [(PV.int IntKind.i64 i0)] 0)]) fun (y2 : (Int)) =>
      bif (y2 != (0 : Int)) then
        E (Xpulse_itemError_glidepath_api_Gauss__0a (i4, y2))
      else N (Tpulse_itemError_glidepath_api_Gauss__0a i0 n1 c2 i3 (w64 (i4 + (1 : Int))))
    else none
  else E (Xpulse_itemError_glidepath_api_Gauss__0b ())
theorem Bpulse_itemError_glidepath_api_Gauss__0a_eq (F : FnT) (N : Q → Option (Ext × S)) (E : Ext × Q → Option (Ext × S)) (L0 : Q → Option Ypulse_itemError_glidepath_api_Gauss__0) (i0 : Int) (n1 : Nat) (c2 : List PV) (i3 : Int) (i4 : Int) : semB (callP F Epulse_itemError_glidepath_api_Gauss_ 20) s113 (loopT [⟨0, Ypulse_itemError_glidepath_api_Gauss__0, L0, XLpulse_itemError_glidepath_api_Gauss__0⟩]) 400 (blkIn a113.body 0) N E (Tpulse_itemError_glidepath_api_Gauss__0a i0 n1 c2 i3 i4) = Bpulse_itemError_glidepath_api_Gauss__0a F N E L0 i0 n1 c2 i3 i4 := by kernel_rfl
theorem Rpulse_itemError_glidepath_api_Gauss__0a_of  (i0 : Int) (n1 : Nat) (c2 : List PV) (i3 : Int) (i4 : Int) {r : Ext × S} (h : Bpulse_itemError_glidepath_api_Gauss__0a (Fn env) Rpulse_itemError_glidepath_api_Gauss__0 exO Lpulse_itemError_glidepath_api_Gauss__0 i0 n1 c2 i3 i4 = some r) : Rpulse_itemError_glidepath_api_Gauss__0 (Tpulse_itemError_glidepath_api_Gauss__0a i0 n1 c2 i3 i4) = some r :=
  lp_of Epulse_itemError_glidepath_api_Gauss__ok (by kernel_rfl) (lo_cons (lpO_ok Upulse_itemError_glidepath_api_Gauss_) lo_nil) (by kernel_rfl) ((Bpulse_itemError_glidepath_api_Gauss__0a_eq _ _ _ _ _ _ _ _ _).trans h)
def tpulse_itemError_glidepath_api_Gauss_ (_F : FnT) (L0 : Q → Option Ypulse_itemError_glidepath_api_Gauss__0)(n : Nat) (cs : List PV) (m : Int) : Option ((Int) × (Int)) :=
  bindO (L0 (Tpulse_itemError_glidepath_api_Gauss__0a m n cs (n : Int) (0 : Int))) fun z =>
  Sum.elim (fun y0 =>
    some (y0.1, y0.2)) (fun _y1 =>
    some ((0 : Int), (0 : Int))) z
theorem tpulse_itemError_glidepath_api_Gauss__eq (F : FnT) (L0 : Q → Option Ypulse_itemError_glidepath_api_Gauss__0)(n : Nat) (cs : List PV) (m : Int) : semF (callP F Epulse_itemError_glidepath_api_Gauss_ 20) s113 (loopT [⟨0, Ypulse_itemError_glidepath_api_Gauss__0, L0, XLpulse_itemError_glidepath_api_Gauss__0⟩]) 400 a113 [.list n cs, .fn 138 [.imm [.int .i64 m] 0]] (fun rv => decR (RSh.tup [(Prod.mk false [(CK.int IntKind.i64)]), (Prod.mk false [(CK.int IntKind.i64)])]) rv.pv) = tpulse_itemError_glidepath_api_Gauss_ F L0 n cs m := by kernel_rfl
noncomputable abbrev Fpulse_itemError_glidepath_api_Gauss_ (args : List PV) := Fn env 113 (RSh.tup [(Prod.mk false [(CK.int IntKind.i64)]), (Prod.mk false [(CK.int IntKind.i64)])]) args
theorem Fpulse_itemError_glidepath_api_Gauss__of (n : Nat) (cs : List PV) (m : Int) {res : ((Int) × (Int))} (h : tpulse_itemError_glidepath_api_Gauss_ (Fn env) Lpulse_itemError_glidepath_api_Gauss__0 n cs m = some res) : Fpulse_itemError_glidepath_api_Gauss_ [.list n cs, .fn 138 [.imm [.int .i64 m] 0]] = some res :=
  fn_of Epulse_itemError_glidepath_api_Gauss__ok rfl rfl (lo_cons (lpO_ok Upulse_itemError_glidepath_api_Gauss_) lo_nil) ((tpulse_itemError_glidepath_api_Gauss__eq _ _ _ _ _).trans h)

/-! ### pulse_listError_glidepath_api_Gauss_ -/

def Epulse_listError_glidepath_api_Gauss_ : List Entry := [.out 105 (RSh.one (CK.int IntKind.i64)), .out 91 (RSh.one (CK.int IntKind.i64)), .out 113 (RSh.tup [(Prod.mk false [(CK.int IntKind.i64)]), (Prod.mk false [(CK.int IntKind.i64)])])]
theorem Epulse_listError_glidepath_api_Gauss__ok : ∀ e ∈ Epulse_listError_glidepath_api_Gauss_, EntOK env e := (ent_out (ent_out (ent_out ent_nil)))
theorem Upulse_listError_glidepath_api_Gauss_ : uniq ((blocksOf a89.body).map (·.1)) = true := by kernel_rfl
def tpulse_listError_glidepath_api_Gauss_ (F : FnT)(n : Nat) (cs : List PV) (m k : Int) : Option ((Int) × (Int)) :=
  bif ((n : Int) == (0 : Int)) then
    bindO (F 105 (RSh.one (CK.int IntKind.i64)) [(PV.bool true), (PV.int IntKind.i64 (10 : Int))]) fun (y0 : (Int)) =>
    bif (decide ((n : Int) > m)) then
      bindO (F 105 (RSh.one (CK.int IntKind.i64)) [(PV.bool true), (PV.int IntKind.i64 (8 : Int))]) fun (y1 : (Int)) =>
      bindO (F 91 (RSh.one (CK.int IntKind.i64)) [(PV.list 2 [(PV.int IntKind.i64 y0), (PV.int IntKind.i64 y1)])]) fun (y2 : (Int)) =>
      bif (y2 != (0 : Int)) then
        some ((0 : Int), y2)
      else bindO (F 113 (RSh.tup [(Prod.mk false [(CK.int IntKind.i64)]), (Prod.mk false [(CK.int IntKind.i64)])]) [(PV.list n cs), (PV.fn 138 [(PV.imm [(PV.int IntKind.i64 k)] 0)])]) fun (y3 : ((Int) × (Int))) =>
      some (y3.1, y3.2)
    else bindO (F 105 (RSh.one (CK.int IntKind.i64)) [(PV.bool false), (PV.int IntKind.i64 (8 : Int))]) fun (y4 : (Int)) =>
    bindO (F 91 (RSh.one (CK.int IntKind.i64)) [(PV.list 2 [(PV.int IntKind.i64 y0), (PV.int IntKind.i64 y4)])]) fun (y5 : (Int)) =>
    bif (y5 != (0 : Int)) then
      some ((0 : Int), y5)
    else bindO (F 113 (RSh.tup [(Prod.mk false [(CK.int IntKind.i64)]), (Prod.mk false [(CK.int IntKind.i64)])]) [(PV.list n cs), (PV.fn 138 [(PV.imm [(PV.int IntKind.i64 k)] 0)])]) fun (y6 : ((Int) × (Int))) =>
    some (y6.1, y6.2)
  else bindO (F 105 (RSh.one (CK.int IntKind.i64)) [(PV.bool false), (PV.int IntKind.i64 (10 : Int))]) fun (y7 : (Int)) =>
  bif (decide ((n : Int) > m)) then
    bindO (F 105 (RSh.one (CK.int IntKind.i64)) [(PV.bool true), (PV.int IntKind.i64 (8 : Int))]) fun (y8 : (Int)) =>
    bindO (F 91 (RSh.one (CK.int IntKind.i64)) [(PV.list 2 [(PV.int IntKind.i64 y7), (PV.int IntKind.i64 y8)])]) fun (y9 : (Int)) =>
    bif (y9 != (0 : Int)) then
      some ((0 : Int), y9)
    else bindO (F 113 (RSh.tup [(Prod.mk false [(CK.int IntKind.i64)]), (Prod.mk false [(CK.int IntKind.i64)])]) [(PV.list n cs), (PV.fn 138 [(PV.imm [(PV.int IntKind.i64 k)] 0)])]) fun (y10 : ((Int) × (Int))) =>
    some (y10.1, y10.2)
  else bindO (F 105 (RSh.one (CK.int IntKind.i64)) [(PV.bool false), (PV.int IntKind.i64 (8 : Int))]) fun (y11 : (Int)) =>
  bindO (F 91 (RSh.one (CK.int IntKind.i64)) [(PV.list 2 [(PV.int IntKind.i64 y7), (PV.int IntKind.i64 y11)])]) fun (y12 : (Int)) =>
  bif (y12 != (0 : Int)) then
    some ((0 : Int), y12)
  else bindO (F 113 (RSh.tup [(Prod.mk false [(CK.int IntKind.i64)]), (Prod.mk false [(CK.int IntKind.i64)])]) [(PV.list n cs), (PV.fn 138 [(PV.imm [(PV.int IntKind.i64 k)] 0)])]) fun (y13 : ((Int) × (Int))) =>
  some (y13.1, y13.2)
theorem tpulse_listError_glidepath_api_Gauss__eq (F : FnT)(n : Nat) (cs : List PV) (m k : Int) : semF (callP F Epulse_listError_glidepath_api_Gauss_ 20) s89 (loopT []) 400 a89 [.list n cs, .int .i64 m, .fn 138 [.imm [.int .i64 k] 0]] (fun rv => decR (RSh.tup [(Prod.mk false [(CK.int IntKind.i64)]), (Prod.mk false [(CK.int IntKind.i64)])]) rv.pv) = tpulse_listError_glidepath_api_Gauss_ F n cs m k := by kernel_rfl
noncomputable abbrev Fpulse_listError_glidepath_api_Gauss_ (args : List PV) := Fn env 89 (RSh.tup [(Prod.mk false [(CK.int IntKind.i64)]), (Prod.mk false [(CK.int IntKind.i64)])]) args
theorem Fpulse_listError_glidepath_api_Gauss__of (n : Nat) (cs : List PV) (m k : Int) {res : ((Int) × (Int))} (h : tpulse_listError_glidepath_api_Gauss_ (Fn env) n cs m k = some res) : Fpulse_listError_glidepath_api_Gauss_ [.list n cs, .int .i64 m, .fn 138 [.imm [.int .i64 k] 0]] = some res :=
  fn_of Epulse_listError_glidepath_api_Gauss__ok rfl rfl lo_nil ((tpulse_listError_glidepath_api_Gauss__eq _ _ _ _ _).trans h)

/-! ### pulse_CheckBlock -/

def Epulse_CheckBlock : List Entry := [.inl 90 a90 s90, .out 89 (RSh.tup [(Prod.mk false [(CK.int IntKind.i64)]), (Prod.mk false [(CK.int IntKind.i64)])])]
theorem Epulse_CheckBlock_ok : ∀ e ∈ Epulse_CheckBlock, EntOK env e := (ent_inl rfl (ent_out ent_nil))
theorem Upulse_CheckBlock : uniq ((blocksOf a18.body).map (·.1)) = true := by kernel_rfl
def tpulse_CheckBlock (F : FnT) (p0n : Nat) (p0c : List PV) : Option ((Int) × (Int)) :=
  bindO (F 89 (RSh.tup [(Prod.mk false [(CK.int IntKind.i64)]), (Prod.mk false [(CK.int IntKind.i64)])]) [(PV.list p0n p0c), (PV.int IntKind.i64 (48 : Int)), (PV.fn 138 [(PV.imm [(PV.int IntKind.i64 (1000 : Int))] 0)])]) fun (y0 : ((Int) × (Int))) =>
  some (y0.1, y0.2)
theorem tpulse_CheckBlock_eq (F : FnT) (p0n : Nat) (p0c : List PV) : semF (callP F Epulse_CheckBlock 20) s18 (loopT []) 400 a18 [PV.list p0n p0c] (fun rv => decR (RSh.tup [(Prod.mk false [(CK.int IntKind.i64)]), (Prod.mk false [(CK.int IntKind.i64)])]) rv.pv) = tpulse_CheckBlock F p0n p0c := by kernel_rfl
noncomputable abbrev Fpulse_CheckBlock (args : List PV) := Fn env 18 (RSh.tup [(Prod.mk false [(CK.int IntKind.i64)]), (Prod.mk false [(CK.int IntKind.i64)])]) args
theorem Fpulse_CheckBlock_of  (p0n : Nat) (p0c : List PV) {res : ((Int) × (Int))} (h : tpulse_CheckBlock (Fn env) p0n p0c = some res) : Fpulse_CheckBlock [PV.list p0n p0c] = some res :=
  fn_of Epulse_CheckBlock_ok rfl rfl lo_nil ((tpulse_CheckBlock_eq _ _ _).trans h)

/-! ### pulse_blockError -/

def Epulse_blockError : List Entry := [.out 18 (RSh.tup [(Prod.mk false [(CK.int IntKind.i64)]), (Prod.mk false [(CK.int IntKind.i64)])])]
theorem Epulse_blockError_ok : ∀ e ∈ Epulse_blockError, EntOK env e := (ent_out ent_nil)
theorem Upulse_blockError : uniq ((blocksOf a96.body).map (·.1)) = true := by kernel_rfl
def tpulse_blockError (F : FnT) (p0n : Nat) (p0c : List PV) : Option (Int) :=
  bindO (F 18 (RSh.tup [(Prod.mk false [(CK.int IntKind.i64)]), (Prod.mk false [(CK.int IntKind.i64)])]) [(PV.list p0n p0c)]) fun (y0 : ((Int) × (Int))) =>
  some y0.2
theorem tpulse_blockError_eq (F : FnT) (p0n : Nat) (p0c : List PV) : semF (callP F Epulse_blockError 20) s96 (loopT []) 400 a96 [PV.list p0n p0c] (fun rv => decR (RSh.one (CK.int IntKind.i64)) rv.pv) = tpulse_blockError F p0n p0c := by kernel_rfl
noncomputable abbrev Fpulse_blockError (args : List PV) := Fn env 96 (RSh.one (CK.int IntKind.i64)) args
theorem Fpulse_blockError_of  (p0n : Nat) (p0c : List PV) {res : (Int)} (h : tpulse_blockError (Fn env) p0n p0c = some res) : Fpulse_blockError [PV.list p0n p0c] = some res :=
  fn_of Epulse_blockError_ok rfl rfl lo_nil ((tpulse_blockError_eq _ _ _).trans h)

/-! ### pulse_CorrelationOf -/

def Epulse_CorrelationOf : List Entry := [.out 96 (RSh.one (CK.int IntKind.i64)), .out 92 (RSh.one (CK.int IntKind.i64)), .out 91 (RSh.one (CK.int IntKind.i64)), .out 110 (RSh.agg [(CK.int IntKind.i64), (CK.int IntKind.i64)])]
theorem Epulse_CorrelationOf_ok : ∀ e ∈ Epulse_CorrelationOf, EntOK env e := (ent_out (ent_out (ent_out (ent_out ent_nil))))
theorem Upulse_CorrelationOf : uniq ((blocksOf a49.body).map (·.1)) = true := by kernel_rfl
def tpulse_CorrelationOf (F : FnT) (p0n : Nat) (p0c : List PV) (p1 : Int) : Option ((Int) × ((Int) × (Int))) :=
  bindO (F 96 (RSh.one (CK.int IntKind.i64)) [(PV.list p0n p0c)]) fun (y0 : (Int)) =>
  bindO (F 92 (RSh.one (CK.int IntKind.i64)) [(PV.int IntKind.i64 p1), (PV.int IntKind.i64 (0 : Int)), (PV.int IntKind.i64 (48 : Int))]) fun (y1 : (Int)) =>
  bindO (F 91 (RSh.one (CK.int IntKind.i64)) [(PV.list 2 [(PV.int IntKind.i64 y0), (PV.int IntKind.i64 y1)])]) fun (y2 : (Int)) =>
  bif (y2 != (0 : Int)) then
    some ((0 : Int), ((0 : Int), y2))
  else bindO (F 110 (RSh.agg [(CK.int IntKind.i64), (CK.int IntKind.i64)]) [(PV.list p0n p0c), (PV.int IntKind.i64 p1), (PV.int IntKind.i64 (0 : Int))]) fun (y3 : ((Int) × (Int))) =>
  some (y3.1, (y3.2, (0 : Int)))
theorem tpulse_CorrelationOf_eq (F : FnT) (p0n : Nat) (p0c : List PV) (p1 : Int) : semF (callP F Epulse_CorrelationOf 20) s49 (loopT []) 400 a49 [PV.list p0n p0c, PV.int IntKind.i64 p1] (fun rv => decR (RSh.tup [(Prod.mk true [(CK.int IntKind.i64), (CK.int IntKind.i64)]), (Prod.mk false [(CK.int IntKind.i64)])]) rv.pv) = tpulse_CorrelationOf F p0n p0c p1 := by kernel_rfl
noncomputable abbrev Fpulse_CorrelationOf (args : List PV) := Fn env 49 (RSh.tup [(Prod.mk true [(CK.int IntKind.i64), (CK.int IntKind.i64)]), (Prod.mk false [(CK.int IntKind.i64)])]) args
theorem Fpulse_CorrelationOf_of  (p0n : Nat) (p0c : List PV) (p1 : Int) {res : ((Int) × ((Int) × (Int)))} (h : tpulse_CorrelationOf (Fn env) p0n p0c p1 = some res) : Fpulse_CorrelationOf [PV.list p0n p0c, PV.int IntKind.i64 p1] = some res :=
  fn_of Epulse_CorrelationOf_ok rfl rfl lo_nil ((tpulse_CorrelationOf_eq _ _ _ _).trans h)

/-! ### glidepathbase_Within -/

def Eglidepathbase_Within : List Entry := []
theorem Eglidepathbase_Within_ok : ∀ e ∈ Eglidepathbase_Within, EntOK env e := ent_nil
theorem Uglidepathbase_Within : uniq ((blocksOf a26.body).map (·.1)) = true := by kernel_rfl
def tglidepathbase_Within (_F : FnT) (p0 : Int) (p1 : Int) (p2 : Int) : Option (Bool) :=
  bif (decide (p1 ≤ p0)) then
    bif (decide (p0 ≤ p2)) then
      some true
    else some false
  else some false
theorem tglidepathbase_Within_eq (F : FnT) (p0 : Int) (p1 : Int) (p2 : Int) : semF (callP F Eglidepathbase_Within 20) s26 (loopT []) 400 a26 [PV.int IntKind.i64 p0, PV.int IntKind.i64 p1, PV.int IntKind.i64 p2] (fun rv => decR (RSh.one CK.bool) rv.pv) = tglidepathbase_Within F p0 p1 p2 := by kernel_rfl
noncomputable abbrev Fglidepathbase_Within (args : List PV) := Fn env 26 (RSh.one CK.bool) args
theorem Fglidepathbase_Within_of  (p0 : Int) (p1 : Int) (p2 : Int) {res : (Bool)} (h : tglidepathbase_Within (Fn env) p0 p1 p2 = some res) : Fglidepathbase_Within [PV.int IntKind.i64 p0, PV.int IntKind.i64 p1, PV.int IntKind.i64 p2] = some res :=
  fn_of Eglidepathbase_Within_ok rfl rfl lo_nil ((tglidepathbase_Within_eq _ _ _ _).trans h)

/-! ### glidepathref01_isGauss -/

def Eglidepathref01_isGauss : List Entry := [.out 26 (RSh.one CK.bool)]
theorem Eglidepathref01_isGauss_ok : ∀ e ∈ Eglidepathref01_isGauss, EntOK env e := (ent_out ent_nil)
theorem Uglidepathref01_isGauss : uniq ((blocksOf a102.body).map (·.1)) = true := by kernel_rfl
def tglidepathref01_isGauss (F : FnT) (p0_0 : Int) (p0_1 : Int) (p1 : Int) : Option (Bool) :=
  bindO (F 26 (RSh.one CK.bool) [(PV.int IntKind.i64 p0_0), (PV.int IntKind.i64 (w64 ((0 : Int) - p1))), (PV.int IntKind.i64 p1)]) fun (y0 : (Bool)) =>
  bif y0 then
    bindO (F 26 (RSh.one CK.bool) [(PV.int IntKind.i64 p0_1), (PV.int IntKind.i64 (w64 ((0 : Int) - p1))), (PV.int IntKind.i64 p1)]) fun (y1 : (Bool)) =>
    bif y1 then
      some true
    else some false
  else some false
theorem tglidepathref01_isGauss_eq (F : FnT) (p0_0 : Int) (p0_1 : Int) (p1 : Int) : semF (callP F Eglidepathref01_isGauss 20) s102 (loopT []) 400 a102 [PV.agg [PV.int IntKind.i64 p0_0, PV.int IntKind.i64 p0_1], PV.int IntKind.i64 p1] (fun rv => decR (RSh.one CK.bool) rv.pv) = tglidepathref01_isGauss F p0_0 p0_1 p1 := by kernel_rfl
noncomputable abbrev Fglidepathref01_isGauss (args : List PV) := Fn env 102 (RSh.one CK.bool) args
theorem Fglidepathref01_isGauss_of  (p0_0 : Int) (p0_1 : Int) (p1 : Int) {res : (Bool)} (h : tglidepathref01_isGauss (Fn env) p0_0 p0_1 p1 = some res) : Fglidepathref01_isGauss [PV.agg [PV.int IntKind.i64 p0_0, PV.int IntKind.i64 p0_1], PV.int IntKind.i64 p1] = some res :=
  fn_of Eglidepathref01_isGauss_ok rfl rfl lo_nil ((tglidepathref01_isGauss_eq _ _ _ _).trans h)

/-! ### glidepathref01_CheckBlock -/

def Eglidepathref01_CheckBlock : List Entry := [.out 102 (RSh.one CK.bool)]
theorem Eglidepathref01_CheckBlock_ok : ∀ e ∈ Eglidepathref01_CheckBlock, EntOK env e := (ent_out ent_nil)
def Tglidepathref01_CheckBlock_0a (n0 : Nat) (c1 : List PV) (i2 : Int) : Q := ⟨(tm 24 [(0, (AV.p (PV.list n0 c1))), (4, (AV.p (PV.int IntKind.i64 i2)))]), (mm 24 [])⟩
def Xglidepathref01_CheckBlock_0a (y : Int) : Ext × Q := (Ext.ret, ⟨(tm 24 [(2, (AV.p (PV.int IntKind.i64 y))), (3, (AV.p (PV.int IntKind.i64 (2 : Int))))]), (mm 24 [])⟩)
def Iglidepathref01_CheckBlock_0a (q : Ext × S) : Int := (pP_int1 (pA_p (avT q.2 2)))
def Xglidepathref01_CheckBlock_0b (_y : Unit) : Ext × Q := (Ext.normal, ⟨(tm 24 []), (mm 24 [])⟩)
def Iglidepathref01_CheckBlock_0b (_q : Ext × S) : Unit := ()
abbrev Yglidepathref01_CheckBlock_0 : Type := (Int) ⊕ ((Unit))
def XLglidepathref01_CheckBlock_0 : XL Yglidepathref01_CheckBlock_0 := .more Xglidepathref01_CheckBlock_0a (.one Xglidepathref01_CheckBlock_0b)
def Iglidepathref01_CheckBlock_0 (q : Ext × S) : Yglidepathref01_CheckBlock_0 := bif (cE q.1 == 2) then (Sum.inl (Iglidepathref01_CheckBlock_0a q)) else (Sum.inr (Iglidepathref01_CheckBlock_0b q))
theorem XIglidepathref01_CheckBlock_0a (y : Int) : Iglidepathref01_CheckBlock_0 (xe (Xglidepathref01_CheckBlock_0a y)) = (Sum.inl y) := rfl
theorem XIglidepathref01_CheckBlock_0b (y : Unit) : Iglidepathref01_CheckBlock_0 (xe (Xglidepathref01_CheckBlock_0b y)) = (Sum.inr y) := rfl
theorem XIglidepathref01_CheckBlock_0 (y : Yglidepathref01_CheckBlock_0) : Iglidepathref01_CheckBlock_0 (xe (XLglidepathref01_CheckBlock_0.fn y)) = y := (match y with | .inl y => XIglidepathref01_CheckBlock_0a y | .inr y => XIglidepathref01_CheckBlock_0b y)
noncomputable abbrev Lglidepathref01_CheckBlock_0 : Q → Option Yglidepathref01_CheckBlock_0 := lpO env a24.body 0 XLglidepathref01_CheckBlock_0
noncomputable abbrev Rglidepathref01_CheckBlock_0 : Q → Option (Ext × S) := lpR env a24.body 0
theorem Lglidepathref01_CheckBlock_0a_of {s : Q} {y : Int} (h : Rglidepathref01_CheckBlock_0 s = exO (Xglidepathref01_CheckBlock_0a y)) : Lglidepathref01_CheckBlock_0 s = some (Sum.inl y) := lpO_of Iglidepathref01_CheckBlock_0 XIglidepathref01_CheckBlock_0 (y := (Sum.inl y)) h
theorem Lglidepathref01_CheckBlock_0b_of {s : Q} {y : Unit} (h : Rglidepathref01_CheckBlock_0 s = exO (Xglidepathref01_CheckBlock_0b y)) : Lglidepathref01_CheckBlock_0 s = some (Sum.inr y) := lpO_of Iglidepathref01_CheckBlock_0 XIglidepathref01_CheckBlock_0 (y := (Sum.inr y)) h
theorem Uglidepathref01_CheckBlock : uniq ((blocksOf a24.body).map (·.1)) = true := by kernel_rfl
def Bglidepathref01_CheckBlock_0a (F : FnT) (N : Q → Option (Ext × S)) (E : Ext × Q → Option (Ext × S)) (_L0 : Q → Option Yglidepathref01_CheckBlock_0) (n0 : Nat) (c1 : List PV) (i2 : Int) : Option (Ext × S) :=
  bif (decide (i2 < (n0 : Int))) then
    bif (decide (((0 : Int) ≤ i2) ∧ (i2 < (n0 : Int)))) then
      bindO (intC IntKind.i64 (c1[((Int.toNat i2) * 2)]?)) fun x0 =>
      bindO (intC IntKind.i64 (c1[(((Int.toNat i2) * 2) + 1)]?)) fun x1 =>
      bindO (F 102 (RSh.one CK.bool) [(PV.agg [(PV.int IntKind.i64 x0), (PV.int IntKind.i64 x1)]), (PV.int IntKind.i64 (1000 : Int))]) fun (y2 : (Bool)) =>
      bif y2 then
        N (Tglidepathref01_CheckBlock_0a n0 c1 (w64 (i2 + (1 : Int))))
      else E (Xglidepathref01_CheckBlock_0a i2)
    else none
  else E (Xglidepathref01_CheckBlock_0b ())
theorem Bglidepathref01_CheckBlock_0a_eq (F : FnT) (N : Q → Option (Ext × S)) (E : Ext × Q → Option (Ext × S)) (L0 : Q → Option Yglidepathref01_CheckBlock_0) (n0 : Nat) (c1 : List PV) (i2 : Int) : semB (callP F Eglidepathref01_CheckBlock 20) s24 (loopT [⟨0, Yglidepathref01_CheckBlock_0, L0, XLglidepathref01_CheckBlock_0⟩]) 400 (blkIn a24.body 0) N E (Tglidepathref01_CheckBlock_0a n0 c1 i2) = Bglidepathref01_CheckBlock_0a F N E L0 n0 c1 i2 := by kernel_rfl
theorem Rglidepathref01_CheckBlock_0a_of  (n0 : Nat) (c1 : List PV) (i2 : Int) {r : Ext × S} (h : Bglidepathref01_CheckBlock_0a (Fn env) Rglidepathref01_CheckBlock_0 exO Lglidepathref01_CheckBlock_0 n0 c1 i2 = some r) : Rglidepathref01_CheckBlock_0 (Tglidepathref01_CheckBlock_0a n0 c1 i2) = some r :=
  lp_of Eglidepathref01_CheckBlock_ok (by kernel_rfl) (lo_cons (lpO_ok Uglidepathref01_CheckBlock) lo_nil) (by kernel_rfl) ((Bglidepathref01_CheckBlock_0a_eq _ _ _ _ _ _ _).trans h)
def tglidepathref01_CheckBlock (_F : FnT) (L0 : Q → Option Yglidepathref01_CheckBlock_0) (p0n : Nat) (p0c : List PV) : Option ((Int) × (Int)) :=
  bif ((p0n : Int) == (0 : Int)) then
    some ((0 : Int), (10 : Int))
  else bif (decide ((p0n : Int) > (48 : Int))) then
    some ((0 : Int), (8 : Int))
  else bindO (L0 (Tglidepathref01_CheckBlock_0a p0n p0c (0 : Int))) fun z =>
  Sum.elim (fun y0 =>
    some (y0, (2 : Int))) (fun _y1 =>
    some ((0 : Int), (0 : Int))) z
theorem tglidepathref01_CheckBlock_eq (F : FnT) (L0 : Q → Option Yglidepathref01_CheckBlock_0) (p0n : Nat) (p0c : List PV) : semF (callP F Eglidepathref01_CheckBlock 20) s24 (loopT [⟨0, Yglidepathref01_CheckBlock_0, L0, XLglidepathref01_CheckBlock_0⟩]) 400 a24 [PV.list p0n p0c] (fun rv => decR (RSh.tup [(Prod.mk false [(CK.int IntKind.i64)]), (Prod.mk false [(CK.int IntKind.i64)])]) rv.pv) = tglidepathref01_CheckBlock F L0 p0n p0c := by kernel_rfl
noncomputable abbrev Fglidepathref01_CheckBlock (args : List PV) := Fn env 24 (RSh.tup [(Prod.mk false [(CK.int IntKind.i64)]), (Prod.mk false [(CK.int IntKind.i64)])]) args
theorem Fglidepathref01_CheckBlock_of  (p0n : Nat) (p0c : List PV) {res : ((Int) × (Int))} (h : tglidepathref01_CheckBlock (Fn env) Lglidepathref01_CheckBlock_0 p0n p0c = some res) : Fglidepathref01_CheckBlock [PV.list p0n p0c] = some res :=
  fn_of Eglidepathref01_CheckBlock_ok rfl rfl (lo_cons (lpO_ok Uglidepathref01_CheckBlock) lo_nil) ((tglidepathref01_CheckBlock_eq _ _ _ _).trans h)

/-! ### glidepathref01_BlockErr -/

def Eglidepathref01_BlockErr : List Entry := [.out 24 (RSh.tup [(Prod.mk false [(CK.int IntKind.i64)]), (Prod.mk false [(CK.int IntKind.i64)])])]
theorem Eglidepathref01_BlockErr_ok : ∀ e ∈ Eglidepathref01_BlockErr, EntOK env e := (ent_out ent_nil)
theorem Uglidepathref01_BlockErr : uniq ((blocksOf a35.body).map (·.1)) = true := by kernel_rfl
def tglidepathref01_BlockErr (F : FnT) (p0n : Nat) (p0c : List PV) : Option (Int) :=
  bindO (F 24 (RSh.tup [(Prod.mk false [(CK.int IntKind.i64)]), (Prod.mk false [(CK.int IntKind.i64)])]) [(PV.list p0n p0c)]) fun (y0 : ((Int) × (Int))) =>
  some y0.2
theorem tglidepathref01_BlockErr_eq (F : FnT) (p0n : Nat) (p0c : List PV) : semF (callP F Eglidepathref01_BlockErr 20) s35 (loopT []) 400 a35 [PV.list p0n p0c] (fun rv => decR (RSh.one (CK.int IntKind.i64)) rv.pv) = tglidepathref01_BlockErr F p0n p0c := by kernel_rfl
noncomputable abbrev Fglidepathref01_BlockErr (args : List PV) := Fn env 35 (RSh.one (CK.int IntKind.i64)) args
theorem Fglidepathref01_BlockErr_of  (p0n : Nat) (p0c : List PV) {res : (Int)} (h : tglidepathref01_BlockErr (Fn env) p0n p0c = some res) : Fglidepathref01_BlockErr [PV.list p0n p0c] = some res :=
  fn_of Eglidepathref01_BlockErr_ok rfl rfl lo_nil ((tglidepathref01_BlockErr_eq _ _ _).trans h)

/-! ### glidepathbase_Mod -/

def Eglidepathbase_Mod : List Entry := []
theorem Eglidepathbase_Mod_ok : ∀ e ∈ Eglidepathbase_Mod, EntOK env e := ent_nil
theorem Uglidepathbase_Mod : uniq ((blocksOf a61.body).map (·.1)) = true := by kernel_rfl
def tglidepathbase_Mod (_F : FnT) (p0 : Int) (p1 : Int) : Option (Int) :=
  bif (decide (p1 ≠ (0 : Int))) then
    bif (decide ((Int.tmod p0 p1) < (0 : Int))) then
      some (w64 ((Int.tmod p0 p1) + p1))
    else some (Int.tmod p0 p1)
  else none
theorem tglidepathbase_Mod_eq (F : FnT) (p0 : Int) (p1 : Int) : semF (callP F Eglidepathbase_Mod 20) s61 (loopT []) 400 a61 [PV.int IntKind.i64 p0, PV.int IntKind.i64 p1] (fun rv => decR (RSh.one (CK.int IntKind.i64)) rv.pv) = tglidepathbase_Mod F p0 p1 := by kernel_rfl
noncomputable abbrev Fglidepathbase_Mod (args : List PV) := Fn env 61 (RSh.one (CK.int IntKind.i64)) args
theorem Fglidepathbase_Mod_of  (p0 : Int) (p1 : Int) {res : (Int)} (h : tglidepathbase_Mod (Fn env) p0 p1 = some res) : Fglidepathbase_Mod [PV.int IntKind.i64 p0, PV.int IntKind.i64 p1] = some res :=
  fn_of Eglidepathbase_Mod_ok rfl rfl lo_nil ((tglidepathbase_Mod_eq _ _ _).trans h)

/-! ### glidepathref01_Turned -/

def Eglidepathref01_Turned : List Entry := [.out 61 (RSh.one (CK.int IntKind.i64))]
theorem Eglidepathref01_Turned_ok : ∀ e ∈ Eglidepathref01_Turned, EntOK env e := (ent_out ent_nil)
def Tglidepathref01_Turned_0a (i0 : Int) (i1 : Int) (i2 : Int) (i3 : Int) : Q := ⟨(tm 19 [(1, (AV.p (PV.int IntKind.i64 i0))), (2, (AV.loc 2 0)), (4, (AV.loc 4 0)), (5, (AV.p (PV.int IntKind.i64 i1)))]), (mm 19 [(2, (Bk.pcs true [(PV.int IntKind.i64 i2), (PV.int IntKind.i64 i3)])), (4, (Bk.pcs true [(PV.int IntKind.i64 (0 : Int)), (PV.int IntKind.i64 (0 : Int))]))])⟩
def Xglidepathref01_Turned_0a (y : Int × Int) : Ext × Q := (Ext.normal, ⟨(tm 19 [(2, (AV.loc 2 0)), (4, (AV.loc 4 0))]), (mm 19 [(2, (Bk.pcs true [(PV.int IntKind.i64 y.1), (PV.int IntKind.i64 y.2)])), (4, (Bk.pcs true [(PV.int IntKind.i64 (0 : Int)), (PV.int IntKind.i64 (0 : Int))]))])⟩)
def Iglidepathref01_Turned_0a (q : Ext × S) : Int × Int := ((pP_int1 (hdP (pB_pcs1 (avM q.2 2)))), (pP_int1 (hdP (List.tail (pB_pcs1 (avM q.2 2))))))
abbrev Yglidepathref01_Turned_0 : Type := Int × Int
def XLglidepathref01_Turned_0 : XL Yglidepathref01_Turned_0 := .one Xglidepathref01_Turned_0a
def Iglidepathref01_Turned_0 (q : Ext × S) : Yglidepathref01_Turned_0 := (Iglidepathref01_Turned_0a q)
theorem XIglidepathref01_Turned_0a (y : Int × Int) : Iglidepathref01_Turned_0 (xe (Xglidepathref01_Turned_0a y)) = y := rfl
theorem XIglidepathref01_Turned_0 (y : Yglidepathref01_Turned_0) : Iglidepathref01_Turned_0 (xe (XLglidepathref01_Turned_0.fn y)) = y := XIglidepathref01_Turned_0a y
noncomputable abbrev Lglidepathref01_Turned_0 : Q → Option Yglidepathref01_Turned_0 := lpO env a52.body 0 XLglidepathref01_Turned_0
noncomputable abbrev Rglidepathref01_Turned_0 : Q → Option (Ext × S) := lpR env a52.body 0
theorem Lglidepathref01_Turned_0a_of {s : Q} {y : Int × Int} (h : Rglidepathref01_Turned_0 s = exO (Xglidepathref01_Turned_0a y)) : Lglidepathref01_Turned_0 s = some y := lpO_of Iglidepathref01_Turned_0 XIglidepathref01_Turned_0 (y := y) h
theorem Uglidepathref01_Turned : uniq ((blocksOf a52.body).map (·.1)) = true := by kernel_rfl
def Bglidepathref01_Turned_0a (F : FnT) (N : Q → Option (Ext × S)) (E : Ext × Q → Option (Ext × S)) (_L0 : Q → Option Yglidepathref01_Turned_0) (i0 : Int) (i1 : Int) (i2 : Int) (i3 : Int) : Option (Ext × S) :=
  bindO (F 61 (RSh.one (CK.int IntKind.i64)) [(PV.int IntKind.i64 i0), (PV.int IntKind.i64 (4 : Int))]) fun (y0 : (Int)) =>
  bif (decide (i1 < y0)) then
    N (Tglidepathref01_Turned_0a i0 (w64 (i1 + (1 : Int))) i3 (w64 ((0 : Int) - i2)))
  else E (Xglidepathref01_Turned_0a (i2, i3))
theorem Bglidepathref01_Turned_0a_eq (F : FnT) (N : Q → Option (Ext × S)) (E : Ext × Q → Option (Ext × S)) (L0 : Q → Option Yglidepathref01_Turned_0) (i0 : Int) (i1 : Int) (i2 : Int) (i3 : Int) : semB (callP F Eglidepathref01_Turned 20) s52 (loopT [⟨0, Yglidepathref01_Turned_0, L0, XLglidepathref01_Turned_0⟩]) 400 (blkIn a52.body 0) N E (Tglidepathref01_Turned_0a i0 i1 i2 i3) = Bglidepathref01_Turned_0a F N E L0 i0 i1 i2 i3 := by kernel_rfl
theorem Rglidepathref01_Turned_0a_of  (i0 : Int) (i1 : Int) (i2 : Int) (i3 : Int) {r : Ext × S} (h : Bglidepathref01_Turned_0a (Fn env) Rglidepathref01_Turned_0 exO Lglidepathref01_Turned_0 i0 i1 i2 i3 = some r) : Rglidepathref01_Turned_0 (Tglidepathref01_Turned_0a i0 i1 i2 i3) = some r :=
  lp_of Eglidepathref01_Turned_ok (by kernel_rfl) (lo_cons (lpO_ok Uglidepathref01_Turned) lo_nil) (by kernel_rfl) ((Bglidepathref01_Turned_0a_eq _ _ _ _ _ _ _ _).trans h)
def tglidepathref01_Turned (_F : FnT) (L0 : Q → Option Yglidepathref01_Turned_0) (p0_0 : Int) (p0_1 : Int) (p1 : Int) : Option ((Int) × (Int)) :=
  bindO (L0 (Tglidepathref01_Turned_0a p1 (0 : Int) p0_0 p0_1)) fun y0 =>
  some (y0.1, y0.2)
theorem tglidepathref01_Turned_eq (F : FnT) (L0 : Q → Option Yglidepathref01_Turned_0) (p0_0 : Int) (p0_1 : Int) (p1 : Int) : semF (callP F Eglidepathref01_Turned 20) s52 (loopT [⟨0, Yglidepathref01_Turned_0, L0, XLglidepathref01_Turned_0⟩]) 400 a52 [PV.agg [PV.int IntKind.i64 p0_0, PV.int IntKind.i64 p0_1], PV.int IntKind.i64 p1] (fun rv => decR (RSh.agg [(CK.int IntKind.i64), (CK.int IntKind.i64)]) rv.pv) = tglidepathref01_Turned F L0 p0_0 p0_1 p1 := by kernel_rfl
noncomputable abbrev Fglidepathref01_Turned (args : List PV) := Fn env 52 (RSh.agg [(CK.int IntKind.i64), (CK.int IntKind.i64)]) args
theorem Fglidepathref01_Turned_of  (p0_0 : Int) (p0_1 : Int) (p1 : Int) {res : ((Int) × (Int))} (h : tglidepathref01_Turned (Fn env) Lglidepathref01_Turned_0 p0_0 p0_1 p1 = some res) : Fglidepathref01_Turned [PV.agg [PV.int IntKind.i64 p0_0, PV.int IntKind.i64 p0_1], PV.int IntKind.i64 p1] = some res :=
  fn_of Eglidepathref01_Turned_ok rfl rfl (lo_cons (lpO_ok Uglidepathref01_Turned) lo_nil) ((tglidepathref01_Turned_eq _ _ _ _ _).trans h)

/-! ### glidepathbase_GAdd -/

def Eglidepathbase_GAdd : List Entry := []
theorem Eglidepathbase_GAdd_ok : ∀ e ∈ Eglidepathbase_GAdd, EntOK env e := ent_nil
theorem Uglidepathbase_GAdd : uniq ((blocksOf a63.body).map (·.1)) = true := by kernel_rfl
def tglidepathbase_GAdd (_F : FnT) (p0_0 : Int) (p0_1 : Int) (p1_0 : Int) (p1_1 : Int) : Option ((Int) × (Int)) :=
  some ((w64 (p0_0 + p1_0)), (w64 (p0_1 + p1_1)))
theorem tglidepathbase_GAdd_eq (F : FnT) (p0_0 : Int) (p0_1 : Int) (p1_0 : Int) (p1_1 : Int) : semF (callP F Eglidepathbase_GAdd 20) s63 (loopT []) 400 a63 [PV.agg [PV.int IntKind.i64 p0_0, PV.int IntKind.i64 p0_1], PV.agg [PV.int IntKind.i64 p1_0, PV.int IntKind.i64 p1_1]] (fun rv => decR (RSh.agg [(CK.int IntKind.i64), (CK.int IntKind.i64)]) rv.pv) = tglidepathbase_GAdd F p0_0 p0_1 p1_0 p1_1 := by kernel_rfl
noncomputable abbrev Fglidepathbase_GAdd (args : List PV) := Fn env 63 (RSh.agg [(CK.int IntKind.i64), (CK.int IntKind.i64)]) args
theorem Fglidepathbase_GAdd_of  (p0_0 : Int) (p0_1 : Int) (p1_0 : Int) (p1_1 : Int) {res : ((Int) × (Int))} (h : tglidepathbase_GAdd (Fn env) p0_0 p0_1 p1_0 p1_1 = some res) : Fglidepathbase_GAdd [PV.agg [PV.int IntKind.i64 p0_0, PV.int IntKind.i64 p0_1], PV.agg [PV.int IntKind.i64 p1_0, PV.int IntKind.i64 p1_1]] = some res :=
  fn_of Eglidepathbase_GAdd_ok rfl rfl lo_nil ((tglidepathbase_GAdd_eq _ _ _ _ _).trans h)

/-! ### glidepathbase_GMul -/

def Eglidepathbase_GMul : List Entry := []
theorem Eglidepathbase_GMul_ok : ∀ e ∈ Eglidepathbase_GMul, EntOK env e := ent_nil
theorem Uglidepathbase_GMul : uniq ((blocksOf a111.body).map (·.1)) = true := by kernel_rfl
def tglidepathbase_GMul (_F : FnT) (p0_0 : Int) (p0_1 : Int) (p1_0 : Int) (p1_1 : Int) : Option ((Int) × (Int)) :=
  some ((w64 ((w64 (p0_0 * p1_0)) - (w64 (p0_1 * p1_1)))), (w64 ((w64 (p0_0 * p1_1)) + (w64 (p0_1 * p1_0)))))
theorem tglidepathbase_GMul_eq (F : FnT) (p0_0 : Int) (p0_1 : Int) (p1_0 : Int) (p1_1 : Int) : semF (callP F Eglidepathbase_GMul 20) s111 (loopT []) 400 a111 [PV.agg [PV.int IntKind.i64 p0_0, PV.int IntKind.i64 p0_1], PV.agg [PV.int IntKind.i64 p1_0, PV.int IntKind.i64 p1_1]] (fun rv => decR (RSh.agg [(CK.int IntKind.i64), (CK.int IntKind.i64)]) rv.pv) = tglidepathbase_GMul F p0_0 p0_1 p1_0 p1_1 := by kernel_rfl
noncomputable abbrev Fglidepathbase_GMul (args : List PV) := Fn env 111 (RSh.agg [(CK.int IntKind.i64), (CK.int IntKind.i64)]) args
theorem Fglidepathbase_GMul_of  (p0_0 : Int) (p0_1 : Int) (p1_0 : Int) (p1_1 : Int) {res : ((Int) × (Int))} (h : tglidepathbase_GMul (Fn env) p0_0 p0_1 p1_0 p1_1 = some res) : Fglidepathbase_GMul [PV.agg [PV.int IntKind.i64 p0_0, PV.int IntKind.i64 p0_1], PV.agg [PV.int IntKind.i64 p1_0, PV.int IntKind.i64 p1_1]] = some res :=
  fn_of Eglidepathbase_GMul_ok rfl rfl lo_nil ((tglidepathbase_GMul_eq _ _ _ _ _).trans h)

/-! ### glidepathbase_GConj -/

def Eglidepathbase_GConj : List Entry := []
theorem Eglidepathbase_GConj_ok : ∀ e ∈ Eglidepathbase_GConj, EntOK env e := ent_nil
theorem Uglidepathbase_GConj : uniq ((blocksOf a112.body).map (·.1)) = true := by kernel_rfl
def tglidepathbase_GConj (_F : FnT) (p0_0 : Int) (p0_1 : Int) : Option ((Int) × (Int)) :=
  some (p0_0, (w64 ((0 : Int) - p0_1)))
theorem tglidepathbase_GConj_eq (F : FnT) (p0_0 : Int) (p0_1 : Int) : semF (callP F Eglidepathbase_GConj 20) s112 (loopT []) 400 a112 [PV.agg [PV.int IntKind.i64 p0_0, PV.int IntKind.i64 p0_1]] (fun rv => decR (RSh.agg [(CK.int IntKind.i64), (CK.int IntKind.i64)]) rv.pv) = tglidepathbase_GConj F p0_0 p0_1 := by kernel_rfl
noncomputable abbrev Fglidepathbase_GConj (args : List PV) := Fn env 112 (RSh.agg [(CK.int IntKind.i64), (CK.int IntKind.i64)]) args
theorem Fglidepathbase_GConj_of  (p0_0 : Int) (p0_1 : Int) {res : ((Int) × (Int))} (h : tglidepathbase_GConj (Fn env) p0_0 p0_1 = some res) : Fglidepathbase_GConj [PV.agg [PV.int IntKind.i64 p0_0, PV.int IntKind.i64 p0_1]] = some res :=
  fn_of Eglidepathbase_GConj_ok rfl rfl lo_nil ((tglidepathbase_GConj_eq _ _ _).trans h)

/-! ### glidepathref01_Correlation -/

def Eglidepathref01_Correlation : List Entry := [.out 112 (RSh.agg [(CK.int IntKind.i64), (CK.int IntKind.i64)]), .out 111 (RSh.agg [(CK.int IntKind.i64), (CK.int IntKind.i64)]), .out 63 (RSh.agg [(CK.int IntKind.i64), (CK.int IntKind.i64)])]
theorem Eglidepathref01_Correlation_ok : ∀ e ∈ Eglidepathref01_Correlation, EntOK env e := (ent_out (ent_out (ent_out ent_nil)))
def Tglidepathref01_Correlation_0a (n0 : Nat) (c1 : List PV) (i2 : Int) (i3 : Int) (i4 : Int) (i5 : Int) : Q := ⟨(tm 31 [(0, (AV.p (PV.list n0 c1))), (1, (AV.p (PV.int IntKind.i64 i2))), (4, (AV.loc 4 0)), (5, (AV.loc 5 0)), (6, (AV.p (PV.int IntKind.i64 i3)))]), (mm 31 [(4, (Bk.pcs true [(PV.int IntKind.i64 (0 : Int)), (PV.int IntKind.i64 (0 : Int))])), (5, (Bk.pcs true [(PV.int IntKind.i64 i4), (PV.int IntKind.i64 i5)]))])⟩
def Xglidepathref01_Correlation_0a (y : Int × Int) : Ext × Q := (Ext.normal, ⟨(tm 31 [(4, (AV.loc 4 0)), (5, (AV.loc 5 0))]), (mm 31 [(4, (Bk.pcs true [(PV.int IntKind.i64 (0 : Int)), (PV.int IntKind.i64 (0 : Int))])), (5, (Bk.pcs true [(PV.int IntKind.i64 y.1), (PV.int IntKind.i64 y.2)]))])⟩)
def Iglidepathref01_Correlation_0a (q : Ext × S) : Int × Int := ((pP_int1 (hdP (pB_pcs1 (avM q.2 5)))), (pP_int1 (hdP (List.tail (pB_pcs1 (avM q.2 5))))))
abbrev Yglidepathref01_Correlation_0 : Type := Int × Int
def XLglidepathref01_Correlation_0 : XL Yglidepathref01_Correlation_0 := .one Xglidepathref01_Correlation_0a
def Iglidepathref01_Correlation_0 (q : Ext × S) : Yglidepathref01_Correlation_0 := (Iglidepathref01_Correlation_0a q)
theorem XIglidepathref01_Correlation_0a (y : Int × Int) : Iglidepathref01_Correlation_0 (xe (Xglidepathref01_Correlation_0a y)) = y := rfl
theorem XIglidepathref01_Correlation_0 (y : Yglidepathref01_Correlation_0) : Iglidepathref01_Correlation_0 (xe (XLglidepathref01_Correlation_0.fn y)) = y := XIglidepathref01_Correlation_0a y
noncomputable abbrev Lglidepathref01_Correlation_0 : Q → Option Yglidepathref01_Correlation_0 := lpO env a51.body 0 XLglidepathref01_Correlation_0
noncomputable abbrev Rglidepathref01_Correlation_0 : Q → Option (Ext × S) := lpR env a51.body 0
theorem Lglidepathref01_Correlation_0a_of {s : Q} {y : Int × Int} (h : Rglidepathref01_Correlation_0 s = exO (Xglidepathref01_Correlation_0a y)) : Lglidepathref01_Correlation_0 s = some y := lpO_of Iglidepathref01_Correlation_0 XIglidepathref01_Correlation_0 (y := y) h
theorem Uglidepathref01_Correlation : uniq ((blocksOf a51.body).map (·.1)) = true := by kernel_rfl
def Bglidepathref01_Correlation_0a (F : FnT) (N : Q → Option (Ext × S)) (E : Ext × Q → Option (Ext × S)) (_L0 : Q → Option Yglidepathref01_Correlation_0) (n0 : Nat) (c1 : List PV) (i2 : Int) (i3 : Int) (i4 : Int) (i5 : Int) : Option (Ext × S) :=
  bif (decide ((w64 (i3 + i2)) < (n0 : Int))) then
    bif (decide (((0 : Int) ≤ i3) ∧ (i3 < (n0 : Int)))) then
      bindO (intC IntKind.i64 (c1[((Int.toNat i3) * 2)]?)) fun x0 =>
      bindO (intC IntKind.i64 (c1[(((Int.toNat i3) * 2) + 1)]?)) fun x1 =>
      bindO (F 112 (RSh.agg [(CK.int IntKind.i64), (CK.int IntKind.i64)]) [(PV.agg [(PV.int IntKind.i64 x0), (PV.int IntKind.i64 x1)])]) fun (y2 : ((Int) × (Int))) =>
      bif (decide (((0 : Int) ≤ (w64 (i3 + i2))) ∧ ((w64 (i3 + i2)) < (n0 : Int)))) then
        bindO (intC IntKind.i64 (c1[((Int.toNat (w64 (i3 + i2))) * 2)]?)) fun x3 =>
        bindO (intC IntKind.i64 (c1[(((Int.toNat (w64 (i3 + i2))) * 2) + 1)]?)) fun x4 =>
        bindO (F 111 (RSh.agg [(CK.int IntKind.i64), (CK.int IntKind.i64)]) [(PV.agg [(PV.int IntKind.i64 y2.1), (PV.int IntKind.i64 y2.2)]), (PV.agg [(PV.int IntKind.i64 x3), (PV.int IntKind.i64 x4)])]) fun (y5 : ((Int) × (Int))) =>
        bindO (F 63 (RSh.agg [(CK.int IntKind.i64), (CK.int IntKind.i64)]) [(PV.agg [(PV.int IntKind.i64 i4), (PV.int IntKind.i64 i5)]), (PV.agg [(PV.int IntKind.i64 y5.1), (PV.int IntKind.i64 y5.2)])]) fun (y6 : ((Int) × (Int))) =>
        N (Tglidepathref01_Correlation_0a n0 c1 i2 (w64 (i3 + (1 : Int))) y6.1 y6.2)
      else none
    else none
  else E (Xglidepathref01_Correlation_0a (i4, i5))
theorem Bglidepathref01_Correlation_0a_eq (F : FnT) (N : Q → Option (Ext × S)) (E : Ext × Q → Option (Ext × S)) (L0 : Q → Option Yglidepathref01_Correlation_0) (n0 : Nat) (c1 : List PV) (i2 : Int) (i3 : Int) (i4 : Int) (i5 : Int) : semB (callP F Eglidepathref01_Correlation 20) s51 (loopT [⟨0, Yglidepathref01_Correlation_0, L0, XLglidepathref01_Correlation_0⟩]) 400 (blkIn a51.body 0) N E (Tglidepathref01_Correlation_0a n0 c1 i2 i3 i4 i5) = Bglidepathref01_Correlation_0a F N E L0 n0 c1 i2 i3 i4 i5 := by kernel_rfl
theorem Rglidepathref01_Correlation_0a_of  (n0 : Nat) (c1 : List PV) (i2 : Int) (i3 : Int) (i4 : Int) (i5 : Int) {r : Ext × S} (h : Bglidepathref01_Correlation_0a (Fn env) Rglidepathref01_Correlation_0 exO Lglidepathref01_Correlation_0 n0 c1 i2 i3 i4 i5 = some r) : Rglidepathref01_Correlation_0 (Tglidepathref01_Correlation_0a n0 c1 i2 i3 i4 i5) = some r :=
  lp_of Eglidepathref01_Correlation_ok (by kernel_rfl) (lo_cons (lpO_ok Uglidepathref01_Correlation) lo_nil) (by kernel_rfl) ((Bglidepathref01_Correlation_0a_eq _ _ _ _ _ _ _ _ _ _).trans h)
def tglidepathref01_Correlation (_F : FnT) (L0 : Q → Option Yglidepathref01_Correlation_0) (p0n : Nat) (p0c : List PV) (p1 : Int) : Option ((Int) × (Int)) :=
  bindO (L0 (Tglidepathref01_Correlation_0a p0n p0c p1 (0 : Int) (0 : Int) (0 : Int))) fun y0 =>
  some (y0.1, y0.2)
theorem tglidepathref01_Correlation_eq (F : FnT) (L0 : Q → Option Yglidepathref01_Correlation_0) (p0n : Nat) (p0c : List PV) (p1 : Int) : semF (callP F Eglidepathref01_Correlation 20) s51 (loopT [⟨0, Yglidepathref01_Correlation_0, L0, XLglidepathref01_Correlation_0⟩]) 400 a51 [PV.list p0n p0c, PV.int IntKind.i64 p1] (fun rv => decR (RSh.agg [(CK.int IntKind.i64), (CK.int IntKind.i64)]) rv.pv) = tglidepathref01_Correlation F L0 p0n p0c p1 := by kernel_rfl
noncomputable abbrev Fglidepathref01_Correlation (args : List PV) := Fn env 51 (RSh.agg [(CK.int IntKind.i64), (CK.int IntKind.i64)]) args
theorem Fglidepathref01_Correlation_of  (p0n : Nat) (p0c : List PV) (p1 : Int) {res : ((Int) × (Int))} (h : tglidepathref01_Correlation (Fn env) Lglidepathref01_Correlation_0 p0n p0c p1 = some res) : Fglidepathref01_Correlation [PV.list p0n p0c, PV.int IntKind.i64 p1] = some res :=
  fn_of Eglidepathref01_Correlation_ok rfl rfl (lo_cons (lpO_ok Uglidepathref01_Correlation) lo_nil) ((tglidepathref01_Correlation_eq _ _ _ _ _).trans h)

/-! ### glidepathbase_Gausses -/

def Eglidepathbase_Gausses : List Entry := []
theorem Eglidepathbase_Gausses_ok : ∀ e ∈ Eglidepathbase_Gausses, EntOK env e := ent_nil
def Tglidepathbase_Gausses_0a (n0 : Nat) (c1 : List PV) (n2 : Nat) (c3 : List PV) (i4 : Int) : Q := ⟨(tm 26 [(0, (AV.p (PV.list n0 c1))), (1, (AV.p (PV.list n2 c3))), (5, (AV.p (PV.int IntKind.i64 i4)))]), (mm 26 [])⟩
def Xglidepathbase_Gausses_0a (_y : Unit) : Ext × Q := (Ext.ret, ⟨(tm 26 [(4, (AV.p (PV.bool false)))]), (mm 26 [])⟩)
def Iglidepathbase_Gausses_0a (_q : Ext × S) : Unit := ()
def Xglidepathbase_Gausses_0b (_y : Unit) : Ext × Q := (Ext.normal, ⟨(tm 26 []), (mm 26 [])⟩)
def Iglidepathbase_Gausses_0b (_q : Ext × S) : Unit := ()
abbrev Yglidepathbase_Gausses_0 : Type := (Unit) ⊕ ((Unit))
def XLglidepathbase_Gausses_0 : XL Yglidepathbase_Gausses_0 := .more Xglidepathbase_Gausses_0a (.one Xglidepathbase_Gausses_0b)
def Iglidepathbase_Gausses_0 (q : Ext × S) : Yglidepathbase_Gausses_0 := bif (cE q.1 == 2) then (Sum.inl (Iglidepathbase_Gausses_0a q)) else (Sum.inr (Iglidepathbase_Gausses_0b q))
theorem XIglidepathbase_Gausses_0a (y : Unit) : Iglidepathbase_Gausses_0 (xe (Xglidepathbase_Gausses_0a y)) = (Sum.inl y) := rfl
theorem XIglidepathbase_Gausses_0b (y : Unit) : Iglidepathbase_Gausses_0 (xe (Xglidepathbase_Gausses_0b y)) = (Sum.inr y) := rfl
theorem XIglidepathbase_Gausses_0 (y : Yglidepathbase_Gausses_0) : Iglidepathbase_Gausses_0 (xe (XLglidepathbase_Gausses_0.fn y)) = y := (match y with | .inl y => XIglidepathbase_Gausses_0a y | .inr y => XIglidepathbase_Gausses_0b y)
noncomputable abbrev Lglidepathbase_Gausses_0 : Q → Option Yglidepathbase_Gausses_0 := lpO env a32.body 0 XLglidepathbase_Gausses_0
noncomputable abbrev Rglidepathbase_Gausses_0 : Q → Option (Ext × S) := lpR env a32.body 0
theorem Lglidepathbase_Gausses_0a_of {s : Q} {y : Unit} (h : Rglidepathbase_Gausses_0 s = exO (Xglidepathbase_Gausses_0a y)) : Lglidepathbase_Gausses_0 s = some (Sum.inl y) := lpO_of Iglidepathbase_Gausses_0 XIglidepathbase_Gausses_0 (y := (Sum.inl y)) h
theorem Lglidepathbase_Gausses_0b_of {s : Q} {y : Unit} (h : Rglidepathbase_Gausses_0 s = exO (Xglidepathbase_Gausses_0b y)) : Lglidepathbase_Gausses_0 s = some (Sum.inr y) := lpO_of Iglidepathbase_Gausses_0 XIglidepathbase_Gausses_0 (y := (Sum.inr y)) h
theorem Uglidepathbase_Gausses : uniq ((blocksOf a32.body).map (·.1)) = true := by kernel_rfl
def Bglidepathbase_Gausses_0a (_F : FnT) (N : Q → Option (Ext × S)) (E : Ext × Q → Option (Ext × S)) (_L0 : Q → Option Yglidepathbase_Gausses_0) (n0 : Nat) (c1 : List PV) (n2 : Nat) (c3 : List PV) (i4 : Int) : Option (Ext × S) :=
  bif (decide (i4 < (n0 : Int))) then
    bif (decide (((0 : Int) ≤ i4) ∧ (i4 < (n0 : Int)))) then
      bindO (intC IntKind.i64 (c1[((Int.toNat i4) * 2)]?)) fun x0 =>
      bindO (intC IntKind.i64 (c1[(((Int.toNat i4) * 2) + 1)]?)) fun x1 =>
      bif (decide (((0 : Int) ≤ i4) ∧ (i4 < (n2 : Int)))) then
        bindO (intC IntKind.i64 (c3[((Int.toNat i4) * 2)]?)) fun x2 =>
        bindO (intC IntKind.i64 (c3[(((Int.toNat i4) * 2) + 1)]?)) fun x3 =>
        bif (!((x0 == x2) && ((x1 == x3) && true))) then
          E (Xglidepathbase_Gausses_0a ())
        else N (Tglidepathbase_Gausses_0a n0 c1 n2 c3 (w64 (i4 + (1 : Int))))
      else none
    else none
  else E (Xglidepathbase_Gausses_0b ())
theorem Bglidepathbase_Gausses_0a_eq (F : FnT) (N : Q → Option (Ext × S)) (E : Ext × Q → Option (Ext × S)) (L0 : Q → Option Yglidepathbase_Gausses_0) (n0 : Nat) (c1 : List PV) (n2 : Nat) (c3 : List PV) (i4 : Int) : semB (callP F Eglidepathbase_Gausses 20) s32 (loopT [⟨0, Yglidepathbase_Gausses_0, L0, XLglidepathbase_Gausses_0⟩]) 400 (blkIn a32.body 0) N E (Tglidepathbase_Gausses_0a n0 c1 n2 c3 i4) = Bglidepathbase_Gausses_0a F N E L0 n0 c1 n2 c3 i4 := by kernel_rfl
theorem Rglidepathbase_Gausses_0a_of  (n0 : Nat) (c1 : List PV) (n2 : Nat) (c3 : List PV) (i4 : Int) {r : Ext × S} (h : Bglidepathbase_Gausses_0a (Fn env) Rglidepathbase_Gausses_0 exO Lglidepathbase_Gausses_0 n0 c1 n2 c3 i4 = some r) : Rglidepathbase_Gausses_0 (Tglidepathbase_Gausses_0a n0 c1 n2 c3 i4) = some r :=
  lp_of Eglidepathbase_Gausses_ok (by kernel_rfl) (lo_cons (lpO_ok Uglidepathbase_Gausses) lo_nil) (by kernel_rfl) ((Bglidepathbase_Gausses_0a_eq _ _ _ _ _ _ _ _ _).trans h)
def tglidepathbase_Gausses (_F : FnT) (L0 : Q → Option Yglidepathbase_Gausses_0) (p0n : Nat) (p0c : List PV) (p1n : Nat) (p1c : List PV) : Option (Bool) :=
  bif ((p0n : Int) != (p1n : Int)) then
    some false
  else bindO (L0 (Tglidepathbase_Gausses_0a p0n p0c p1n p1c (0 : Int))) fun z =>
  Sum.elim (fun _y0 =>
    some false) (fun _y1 =>
    some true) z
theorem tglidepathbase_Gausses_eq (F : FnT) (L0 : Q → Option Yglidepathbase_Gausses_0) (p0n : Nat) (p0c : List PV) (p1n : Nat) (p1c : List PV) : semF (callP F Eglidepathbase_Gausses 20) s32 (loopT [⟨0, Yglidepathbase_Gausses_0, L0, XLglidepathbase_Gausses_0⟩]) 400 a32 [PV.list p0n p0c, PV.list p1n p1c] (fun rv => decR (RSh.one CK.bool) rv.pv) = tglidepathbase_Gausses F L0 p0n p0c p1n p1c := by kernel_rfl
noncomputable abbrev Fglidepathbase_Gausses (args : List PV) := Fn env 32 (RSh.one CK.bool) args
theorem Fglidepathbase_Gausses_of  (p0n : Nat) (p0c : List PV) (p1n : Nat) (p1c : List PV) {res : (Bool)} (h : tglidepathbase_Gausses (Fn env) Lglidepathbase_Gausses_0 p0n p0c p1n p1c = some res) : Fglidepathbase_Gausses [PV.list p0n p0c, PV.list p1n p1c] = some res :=
  fn_of Eglidepathbase_Gausses_ok rfl rfl (lo_cons (lpO_ok Uglidepathbase_Gausses) lo_nil) ((tglidepathbase_Gausses_eq _ _ _ _ _ _).trans h)

/-! ### glidepathbase_CopyGausses -/

def Eglidepathbase_CopyGausses : List Entry := []
theorem Eglidepathbase_CopyGausses_ok : ∀ e ∈ Eglidepathbase_CopyGausses, EntOK env e := ent_nil
theorem Uglidepathbase_CopyGausses : uniq ((blocksOf a19.body).map (·.1)) = true := by kernel_rfl
def tglidepathbase_CopyGausses (_F : FnT) (p0n : Nat) (p0c : List PV) : Option ((Nat) × (List PV)) :=
  bif (decide (p0n = 0)) then
    some (0, [])
  else bif (decide ((List.length p0c) = (p0n * 2))) then
    bif (decide ((0 = 0) ∧ ((0 + p0n) ≤ big))) then
      bif (decide ((0 + p0n) = (0 + p0n))) then
        some ((0 + p0n), ([] ++ p0c))
      else none
    else none
  else none
theorem tglidepathbase_CopyGausses_eq (F : FnT) (p0n : Nat) (p0c : List PV) : semF (callP F Eglidepathbase_CopyGausses 20) s19 (loopT []) 400 a19 [PV.list p0n p0c] (fun rv => decR (RSh.one CK.list) rv.pv) = tglidepathbase_CopyGausses F p0n p0c := by kernel_rfl
noncomputable abbrev Fglidepathbase_CopyGausses (args : List PV) := Fn env 19 (RSh.one CK.list) args
theorem Fglidepathbase_CopyGausses_of  (p0n : Nat) (p0c : List PV) {res : ((Nat) × (List PV))} (h : tglidepathbase_CopyGausses (Fn env) p0n p0c = some res) : Fglidepathbase_CopyGausses [PV.list p0n p0c] = some res :=
  fn_of Eglidepathbase_CopyGausses_ok rfl rfl lo_nil ((tglidepathbase_CopyGausses_eq _ _ _).trans h)

/-! ### glidepathlaw01_fewItems -/

def Eglidepathlaw01_fewItems : List Entry := []
theorem Eglidepathlaw01_fewItems_ok : ∀ e ∈ Eglidepathlaw01_fewItems, EntOK env e := ent_nil
theorem Uglidepathlaw01_fewItems : uniq ((blocksOf a17.body).map (·.1)) = true := by kernel_rfl
def tglidepathlaw01_fewItems (_F : FnT) (p0n : Nat) (_p0c : List PV) : Option (Bool) :=
  bif (decide ((p0n : Int) ≤ (50 : Int))) then
    some true
  else some false
theorem tglidepathlaw01_fewItems_eq (F : FnT) (p0n : Nat) (p0c : List PV) : semF (callP F Eglidepathlaw01_fewItems 20) s17 (loopT []) 400 a17 [PV.list p0n p0c] (fun rv => decR (RSh.one CK.bool) rv.pv) = tglidepathlaw01_fewItems F p0n p0c := by kernel_rfl
noncomputable abbrev Fglidepathlaw01_fewItems (args : List PV) := Fn env 17 (RSh.one CK.bool) args
theorem Fglidepathlaw01_fewItems_of  (p0n : Nat) (p0c : List PV) {res : (Bool)} (h : tglidepathlaw01_fewItems (Fn env) p0n p0c = some res) : Fglidepathlaw01_fewItems [PV.list p0n p0c] = some res :=
  fn_of Eglidepathlaw01_fewItems_ok rfl rfl lo_nil ((tglidepathlaw01_fewItems_eq _ _ _).trans h)

end Gv
