import Derived.Test.YtnoifjomlmadkaaGvEnv

/- What the functions do, round by round: SP1. -/
namespace Gv
open Go
set_option maxRecDepth 100000

/-! ### B0_Within -/

def EB0_Within : List Entry := []
theorem EB0_Within_ok : ∀ e ∈ EB0_Within, EntOK env e := ent_nil
theorem UB0_Within : uniq ((blocksOf a17.body).map (·.1)) = true := by kernel_rfl
def tB0_Within (F : FnT) (p0 : Int) (p1 : Int) (p2 : Int) : Option (Bool) :=
  bif (decide (p1 ≤ p0)) then
    bif (decide (p0 ≤ p2)) then
      some true
    else some false
  else some false
theorem tB0_Within_eq (F : FnT) (p0 : Int) (p1 : Int) (p2 : Int) : semF (callP F EB0_Within 20) s17 (loopT []) 400 a17 [PV.int IntKind.i64 p0, PV.int IntKind.i64 p1, PV.int IntKind.i64 p2] (fun rv => decR (RSh.one CK.bool) rv.pv) = tB0_Within F p0 p1 p2 := by kernel_rfl
noncomputable abbrev FB0_Within (args : List PV) := Fn env 17 (RSh.one CK.bool) args
theorem FB0_Within_of  (p0 : Int) (p1 : Int) (p2 : Int) {res : (Bool)} (h : tB0_Within (Fn env) p0 p1 p2 = some res) : FB0_Within [PV.int IntKind.i64 p0, PV.int IntKind.i64 p1, PV.int IntKind.i64 p2] = some res :=
  fn_of EB0_Within_ok rfl rfl lo_nil ((tB0_Within_eq _ _ _ _).trans h)

/-! ### scan_errorIf -/

def Escan_errorIf : List Entry := []
theorem Escan_errorIf_ok : ∀ e ∈ Escan_errorIf, EntOK env e := ent_nil
theorem Uscan_errorIf : uniq ((blocksOf a65.body).map (·.1)) = true := by kernel_rfl
def tscan_errorIf (F : FnT) (p0 : Bool) (p1 : Int) : Option (Int) :=
  bif p0 then
    some p1
  else some (0 : Int)
theorem tscan_errorIf_eq (F : FnT) (p0 : Bool) (p1 : Int) : semF (callP F Escan_errorIf 20) s65 (loopT []) 400 a65 [PV.bool p0, PV.int IntKind.i64 p1] (fun rv => decR (RSh.one (CK.int IntKind.i64)) rv.pv) = tscan_errorIf F p0 p1 := by kernel_rfl
noncomputable abbrev Fscan_errorIf (args : List PV) := Fn env 65 (RSh.one (CK.int IntKind.i64)) args
theorem Fscan_errorIf_of  (p0 : Bool) (p1 : Int) {res : (Int)} (h : tscan_errorIf (Fn env) p0 p1 = some res) : Fscan_errorIf [PV.bool p0, PV.int IntKind.i64 p1] = some res :=
  fn_of Escan_errorIf_ok rfl rfl lo_nil ((tscan_errorIf_eq _ _ _).trans h)

/-! ### scan_rangeError -/

def Escan_rangeError : List Entry := [.out 65 (RSh.one (CK.int IntKind.i64))]
theorem Escan_rangeError_ok : ∀ e ∈ Escan_rangeError, EntOK env e := (ent_out ent_nil)
theorem Uscan_rangeError : uniq ((blocksOf a60.body).map (·.1)) = true := by kernel_rfl
def tscan_rangeError (F : FnT) (p0 : Int) (p1 : Int) (p2 : Int) : Option (Int) :=
  bif (decide (p0 < p1)) then
    bindO (F 65 (RSh.one (CK.int IntKind.i64)) [(PV.bool true), (PV.int IntKind.i64 (2 : Int))]) fun (y0 : (Int)) =>
    some y0
  else bif (decide (p0 > p2)) then
    bindO (F 65 (RSh.one (CK.int IntKind.i64)) [(PV.bool true), (PV.int IntKind.i64 (2 : Int))]) fun (y1 : (Int)) =>
    some y1
  else bindO (F 65 (RSh.one (CK.int IntKind.i64)) [(PV.bool false), (PV.int IntKind.i64 (2 : Int))]) fun (y2 : (Int)) =>
  some y2
theorem tscan_rangeError_eq (F : FnT) (p0 : Int) (p1 : Int) (p2 : Int) : semF (callP F Escan_rangeError 20) s60 (loopT []) 400 a60 [PV.int IntKind.i64 p0, PV.int IntKind.i64 p1, PV.int IntKind.i64 p2] (fun rv => decR (RSh.one (CK.int IntKind.i64)) rv.pv) = tscan_rangeError F p0 p1 p2 := by kernel_rfl
noncomputable abbrev Fscan_rangeError (args : List PV) := Fn env 60 (RSh.one (CK.int IntKind.i64)) args
theorem Fscan_rangeError_of  (p0 : Int) (p1 : Int) (p2 : Int) {res : (Int)} (h : tscan_rangeError (Fn env) p0 p1 p2 = some res) : Fscan_rangeError [PV.int IntKind.i64 p0, PV.int IntKind.i64 p1, PV.int IntKind.i64 p2] = some res :=
  fn_of Escan_rangeError_ok rfl rfl lo_nil ((tscan_rangeError_eq _ _ _ _).trans h)

/-! ### scan_firstError_2 -/

def Escan_firstError_2 : List Entry := []
theorem Escan_firstError_2_ok : ∀ e ∈ Escan_firstError_2, EntOK env e := ent_nil
theorem Uscan_firstError_2 : uniq ((blocksOf a59.body).map (·.1)) = true := by kernel_rfl
def tscan_firstError_2 (F : FnT)(e0 e1 : Int) : Option (Int) :=
  bif (e0 != (0 : Int)) then
    some e0
  else bif (e1 != (0 : Int)) then
    some e1
  else some (0 : Int)
theorem tscan_firstError_2_eq (F : FnT)(e0 e1 : Int) : semF (callP F Escan_firstError_2 20) s59 (loopT []) 400 a59 [.list 2 [.int .i64 e0, .int .i64 e1]] (fun rv => decR (RSh.one (CK.int IntKind.i64)) rv.pv) = tscan_firstError_2 F e0 e1 := by kernel_rfl
noncomputable abbrev Fscan_firstError_2 (args : List PV) := Fn env 59 (RSh.one (CK.int IntKind.i64)) args
theorem Fscan_firstError_2_of (e0 e1 : Int) {res : (Int)} (h : tscan_firstError_2 (Fn env) e0 e1 = some res) : Fscan_firstError_2 [.list 2 [.int .i64 e0, .int .i64 e1]] = some res :=
  fn_of Escan_firstError_2_ok rfl rfl lo_nil ((tscan_firstError_2_eq _ _ _).trans h)

/-! ### scan_growth -/

def Escan_growth : List Entry := []
theorem Escan_growth_ok : ∀ e ∈ Escan_growth, EntOK env e := ent_nil
theorem Uscan_growth : uniq ((blocksOf a61.body).map (·.1)) = true := by kernel_rfl
def tscan_growth (F : FnT) (p0_0 : Int) (p0_1 : Int) (p1 : Int) : Option (Int) :=
  some (if ((w64 ((w64 ((w64 (Int.tdiv p1 (2 : Int))) + (1 : Int))) * p0_1)) < p0_0) then (w64 ((w64 ((w64 (Int.tdiv p1 (2 : Int))) + (1 : Int))) * p0_1)) else p0_0)
theorem tscan_growth_eq (F : FnT) (p0_0 : Int) (p0_1 : Int) (p1 : Int) : semF (callP F Escan_growth 20) s61 (loopT []) 400 a61 [PV.agg [PV.int IntKind.i64 p0_0, PV.int IntKind.i64 p0_1], PV.int IntKind.i64 p1] (fun rv => decR (RSh.one (CK.int IntKind.i64)) rv.pv) = tscan_growth F p0_0 p0_1 p1 := by kernel_rfl
noncomputable abbrev Fscan_growth (args : List PV) := Fn env 61 (RSh.one (CK.int IntKind.i64)) args
theorem Fscan_growth_of  (p0_0 : Int) (p0_1 : Int) (p1 : Int) {res : (Int)} (h : tscan_growth (Fn env) p0_0 p0_1 p1 = some res) : Fscan_growth [PV.agg [PV.int IntKind.i64 p0_0, PV.int IntKind.i64 p0_1], PV.int IntKind.i64 p1] = some res :=
  fn_of Escan_growth_ok rfl rfl lo_nil ((tscan_growth_eq _ _ _ _).trans h)

/-! ### scan_ticksFor -/

def Escan_ticksFor : List Entry := [.out 61 (RSh.one (CK.int IntKind.i64))]
theorem Escan_ticksFor_ok : ∀ e ∈ Escan_ticksFor, EntOK env e := (ent_out ent_nil)
def Tscan_ticksFor_0a (i0 : Int) (i1 : Int) (i2 : Int) (i3 : Int) (i4 : Int) : Q := ⟨(tm 18 [(1, (AV.p (PV.int IntKind.i64 i0))), (2, (AV.loc 2 0)), (5, (AV.p (PV.int IntKind.i64 i1))), (6, (AV.p (PV.int IntKind.i64 i2)))]), (mm 18 [(2, (Bk.pcs true [(PV.int IntKind.i64 i3), (PV.int IntKind.i64 i4)]))])⟩
def Xscan_ticksFor_0a (y : Int × Int × Int) : Ext × Q := (Ext.normal, ⟨(tm 18 [(5, (AV.p (PV.int IntKind.i64 y.1)))]), (mm 18 [(2, (Bk.pcs true [(PV.int IntKind.i64 y.2.1), (PV.int IntKind.i64 y.2.2)]))])⟩)
def Iscan_ticksFor_0a (q : Ext × S) : Int × Int × Int := ((pP_int1 (pA_p (avT q.2 5))), (pP_int1 (hdP (pB_pcs1 (avM q.2 2)))), (pP_int1 (hdP (List.tail (pB_pcs1 (avM q.2 2))))))
abbrev Yscan_ticksFor_0 : Type := Int × Int × Int
def XLscan_ticksFor_0 : XL Yscan_ticksFor_0 := .one Xscan_ticksFor_0a
def Iscan_ticksFor_0 (q : Ext × S) : Yscan_ticksFor_0 := (Iscan_ticksFor_0a q)
theorem XIscan_ticksFor_0a (y : Int × Int × Int) : Iscan_ticksFor_0 (xe (Xscan_ticksFor_0a y)) = y := rfl
theorem XIscan_ticksFor_0 (y : Yscan_ticksFor_0) : Iscan_ticksFor_0 (xe (XLscan_ticksFor_0.fn y)) = y := XIscan_ticksFor_0a y
noncomputable abbrev Lscan_ticksFor_0 : Q → Option Yscan_ticksFor_0 := lpO env a62.body 0 XLscan_ticksFor_0
noncomputable abbrev Rscan_ticksFor_0 : Q → Option (Ext × S) := lpR env a62.body 0
theorem Lscan_ticksFor_0a_of {s : Q} {y : Int × Int × Int} (h : Rscan_ticksFor_0 s = exO (Xscan_ticksFor_0a y)) : Lscan_ticksFor_0 s = some y := lpO_of Iscan_ticksFor_0 XIscan_ticksFor_0 (y := y) h
theorem Uscan_ticksFor : uniq ((blocksOf a62.body).map (·.1)) = true := by kernel_rfl
def Bscan_ticksFor_0a (F : FnT) (N : Q → Option (Ext × S)) (E : Ext × Q → Option (Ext × S)) (L0 : Q → Option Yscan_ticksFor_0) (i0 : Int) (i1 : Int) (i2 : Int) (i3 : Int) (i4 : Int) : Option (Ext × S) :=
  bif (decide (i2 < i0)) then
    bindO (F 61 (RSh.one (CK.int IntKind.i64)) [(PV.agg [(PV.int IntKind.i64 i3), (PV.int IntKind.i64 i4)]), (PV.int IntKind.i64 i1)]) fun (y0 : (Int)) =>
    N (Tscan_ticksFor_0a i0 (w64 (i1 + (1 : Int))) (w64 (i2 + y0)) i3 i4)
  else E (Xscan_ticksFor_0a (i1, i3, i4))
theorem Bscan_ticksFor_0a_eq (F : FnT) (N : Q → Option (Ext × S)) (E : Ext × Q → Option (Ext × S)) (L0 : Q → Option Yscan_ticksFor_0) (i0 : Int) (i1 : Int) (i2 : Int) (i3 : Int) (i4 : Int) : semB (callP F Escan_ticksFor 20) s62 (loopT [⟨0, Yscan_ticksFor_0, L0, XLscan_ticksFor_0⟩]) 400 (blkIn a62.body 0) N E (Tscan_ticksFor_0a i0 i1 i2 i3 i4) = Bscan_ticksFor_0a F N E L0 i0 i1 i2 i3 i4 := by kernel_rfl
theorem Rscan_ticksFor_0a_of  (i0 : Int) (i1 : Int) (i2 : Int) (i3 : Int) (i4 : Int) {r : Ext × S} (h : Bscan_ticksFor_0a (Fn env) Rscan_ticksFor_0 exO Lscan_ticksFor_0 i0 i1 i2 i3 i4 = some r) : Rscan_ticksFor_0 (Tscan_ticksFor_0a i0 i1 i2 i3 i4) = some r :=
  lp_of Escan_ticksFor_ok (by kernel_rfl) (lo_cons (lpO_ok Uscan_ticksFor) lo_nil) (by kernel_rfl) ((Bscan_ticksFor_0a_eq _ _ _ _ _ _ _ _ _).trans h)
def tscan_ticksFor (F : FnT) (L0 : Q → Option Yscan_ticksFor_0) (p0_0 : Int) (p0_1 : Int) (p1 : Int) : Option (Int) :=
  bindO (L0 (Tscan_ticksFor_0a p1 (0 : Int) (0 : Int) p0_0 p0_1)) fun y0 =>
  some y0.1
theorem tscan_ticksFor_eq (F : FnT) (L0 : Q → Option Yscan_ticksFor_0) (p0_0 : Int) (p0_1 : Int) (p1 : Int) : semF (callP F Escan_ticksFor 20) s62 (loopT [⟨0, Yscan_ticksFor_0, L0, XLscan_ticksFor_0⟩]) 400 a62 [PV.agg [PV.int IntKind.i64 p0_0, PV.int IntKind.i64 p0_1], PV.int IntKind.i64 p1] (fun rv => decR (RSh.one (CK.int IntKind.i64)) rv.pv) = tscan_ticksFor F L0 p0_0 p0_1 p1 := by kernel_rfl
noncomputable abbrev Fscan_ticksFor (args : List PV) := Fn env 62 (RSh.one (CK.int IntKind.i64)) args
theorem Fscan_ticksFor_of  (p0_0 : Int) (p0_1 : Int) (p1 : Int) {res : (Int)} (h : tscan_ticksFor (Fn env) Lscan_ticksFor_0 p0_0 p0_1 p1 = some res) : Fscan_ticksFor [PV.agg [PV.int IntKind.i64 p0_0, PV.int IntKind.i64 p0_1], PV.int IntKind.i64 p1] = some res :=
  fn_of Escan_ticksFor_ok rfl rfl (lo_cons (lpO_ok Uscan_ticksFor) lo_nil) ((tscan_ticksFor_eq _ _ _ _ _).trans h)

/-! ### scan_CheckAxis -/

def Escan_CheckAxis : List Entry := [.out 60 (RSh.one (CK.int IntKind.i64)), .out 59 (RSh.one (CK.int IntKind.i64))]
theorem Escan_CheckAxis_ok : ∀ e ∈ Escan_CheckAxis, EntOK env e := (ent_out (ent_out ent_nil))
theorem Uscan_CheckAxis : uniq ((blocksOf a16.body).map (·.1)) = true := by kernel_rfl
def tscan_CheckAxis (F : FnT) (p0_0 : Int) (p0_1 : Int) : Option (Int) :=
  bindO (F 60 (RSh.one (CK.int IntKind.i64)) [(PV.int IntKind.i64 p0_0), (PV.int IntKind.i64 (1 : Int)), (PV.int IntKind.i64 (30 : Int))]) fun (y0 : (Int)) =>
  bindO (F 60 (RSh.one (CK.int IntKind.i64)) [(PV.int IntKind.i64 p0_1), (PV.int IntKind.i64 (1 : Int)), (PV.int IntKind.i64 (30 : Int))]) fun (y1 : (Int)) =>
  bindO (F 59 (RSh.one (CK.int IntKind.i64)) [(PV.list 2 [(PV.int IntKind.i64 y0), (PV.int IntKind.i64 y1)])]) fun (y2 : (Int)) =>
  some y2
theorem tscan_CheckAxis_eq (F : FnT) (p0_0 : Int) (p0_1 : Int) : semF (callP F Escan_CheckAxis 20) s16 (loopT []) 400 a16 [PV.agg [PV.int IntKind.i64 p0_0, PV.int IntKind.i64 p0_1]] (fun rv => decR (RSh.one (CK.int IntKind.i64)) rv.pv) = tscan_CheckAxis F p0_0 p0_1 := by kernel_rfl
noncomputable abbrev Fscan_CheckAxis (args : List PV) := Fn env 16 (RSh.one (CK.int IntKind.i64)) args
theorem Fscan_CheckAxis_of  (p0_0 : Int) (p0_1 : Int) {res : (Int)} (h : tscan_CheckAxis (Fn env) p0_0 p0_1 = some res) : Fscan_CheckAxis [PV.agg [PV.int IntKind.i64 p0_0, PV.int IntKind.i64 p0_1]] = some res :=
  fn_of Escan_CheckAxis_ok rfl rfl lo_nil ((tscan_CheckAxis_eq _ _ _).trans h)

/-! ### scan_ReachOf -/

def Escan_ReachOf : List Entry := [.out 16 (RSh.one (CK.int IntKind.i64)), .out 60 (RSh.one (CK.int IntKind.i64)), .out 59 (RSh.one (CK.int IntKind.i64)), .out 61 (RSh.one (CK.int IntKind.i64))]
theorem Escan_ReachOf_ok : ∀ e ∈ Escan_ReachOf, EntOK env e := (ent_out (ent_out (ent_out (ent_out ent_nil))))
def Tscan_ReachOf_0a (i0 : Int) (i1 : Int) (i2 : Int) (i3 : Int) (i4 : Int) : Q := ⟨(tm 29 [(2, (AV.loc 2 0)), (7, (AV.p (PV.int IntKind.i64 i0))), (18, (AV.p (PV.int IntKind.i64 i1))), (19, (AV.p (PV.int IntKind.i64 i2)))]), (mm 29 [(2, (Bk.pcs true [(PV.int IntKind.i64 i3), (PV.int IntKind.i64 i4)]))])⟩
def Xscan_ReachOf_0a (y : Int × Int × Int) : Ext × Q := (Ext.normal, ⟨(tm 29 [(7, (AV.p (PV.int IntKind.i64 y.1)))]), (mm 29 [(2, (Bk.pcs true [(PV.int IntKind.i64 y.2.1), (PV.int IntKind.i64 y.2.2)]))])⟩)
def Iscan_ReachOf_0a (q : Ext × S) : Int × Int × Int := ((pP_int1 (pA_p (avT q.2 7))), (pP_int1 (hdP (pB_pcs1 (avM q.2 2)))), (pP_int1 (hdP (List.tail (pB_pcs1 (avM q.2 2))))))
abbrev Yscan_ReachOf_0 : Type := Int × Int × Int
def XLscan_ReachOf_0 : XL Yscan_ReachOf_0 := .one Xscan_ReachOf_0a
def Iscan_ReachOf_0 (q : Ext × S) : Yscan_ReachOf_0 := (Iscan_ReachOf_0a q)
theorem XIscan_ReachOf_0a (y : Int × Int × Int) : Iscan_ReachOf_0 (xe (Xscan_ReachOf_0a y)) = y := rfl
theorem XIscan_ReachOf_0 (y : Yscan_ReachOf_0) : Iscan_ReachOf_0 (xe (XLscan_ReachOf_0.fn y)) = y := XIscan_ReachOf_0a y
noncomputable abbrev Lscan_ReachOf_0 : Q → Option Yscan_ReachOf_0 := lpO env a14.body 0 XLscan_ReachOf_0
noncomputable abbrev Rscan_ReachOf_0 : Q → Option (Ext × S) := lpR env a14.body 0
theorem Lscan_ReachOf_0a_of {s : Q} {y : Int × Int × Int} (h : Rscan_ReachOf_0 s = exO (Xscan_ReachOf_0a y)) : Lscan_ReachOf_0 s = some y := lpO_of Iscan_ReachOf_0 XIscan_ReachOf_0 (y := y) h
theorem Uscan_ReachOf : uniq ((blocksOf a14.body).map (·.1)) = true := by kernel_rfl
def Bscan_ReachOf_0a (F : FnT) (N : Q → Option (Ext × S)) (E : Ext × Q → Option (Ext × S)) (L0 : Q → Option Yscan_ReachOf_0) (i0 : Int) (i1 : Int) (i2 : Int) (i3 : Int) (i4 : Int) : Option (Ext × S) :=
  bif (decide (i2 < i1)) then
    bindO (F 61 (RSh.one (CK.int IntKind.i64)) [(PV.agg [(PV.int IntKind.i64 i3), (PV.int IntKind.i64 i4)]), (PV.int IntKind.i64 i2)]) fun (y0 : (Int)) =>
    N (Tscan_ReachOf_0a (w64 (i0 + y0)) i1 (w64 (i2 + (1 : Int))) i3 i4)
  else E (Xscan_ReachOf_0a (i0, i3, i4))
theorem Bscan_ReachOf_0a_eq (F : FnT) (N : Q → Option (Ext × S)) (E : Ext × Q → Option (Ext × S)) (L0 : Q → Option Yscan_ReachOf_0) (i0 : Int) (i1 : Int) (i2 : Int) (i3 : Int) (i4 : Int) : semB (callP F Escan_ReachOf 20) s14 (loopT [⟨0, Yscan_ReachOf_0, L0, XLscan_ReachOf_0⟩]) 400 (blkIn a14.body 0) N E (Tscan_ReachOf_0a i0 i1 i2 i3 i4) = Bscan_ReachOf_0a F N E L0 i0 i1 i2 i3 i4 := by kernel_rfl
theorem Rscan_ReachOf_0a_of  (i0 : Int) (i1 : Int) (i2 : Int) (i3 : Int) (i4 : Int) {r : Ext × S} (h : Bscan_ReachOf_0a (Fn env) Rscan_ReachOf_0 exO Lscan_ReachOf_0 i0 i1 i2 i3 i4 = some r) : Rscan_ReachOf_0 (Tscan_ReachOf_0a i0 i1 i2 i3 i4) = some r :=
  lp_of Escan_ReachOf_ok (by kernel_rfl) (lo_cons (lpO_ok Uscan_ReachOf) lo_nil) (by kernel_rfl) ((Bscan_ReachOf_0a_eq _ _ _ _ _ _ _ _ _).trans h)
def tscan_ReachOf (F : FnT) (L0 : Q → Option Yscan_ReachOf_0) (p0_0 : Int) (p0_1 : Int) (p1 : Int) : Option ((Int) × (Int)) :=
  bindO (F 16 (RSh.one (CK.int IntKind.i64)) [(PV.agg [(PV.int IntKind.i64 p0_0), (PV.int IntKind.i64 p0_1)])]) fun (y0 : (Int)) =>
  bindO (F 60 (RSh.one (CK.int IntKind.i64)) [(PV.int IntKind.i64 p1), (PV.int IntKind.i64 (0 : Int)), (PV.int IntKind.i64 (1000 : Int))]) fun (y1 : (Int)) =>
  bindO (F 59 (RSh.one (CK.int IntKind.i64)) [(PV.list 2 [(PV.int IntKind.i64 y0), (PV.int IntKind.i64 y1)])]) fun (y2 : (Int)) =>
  bif (y2 != (0 : Int)) then
    some ((0 : Int), y2)
  else bindO (L0 (Tscan_ReachOf_0a (0 : Int) p1 (0 : Int) p0_0 p0_1)) fun y3 =>
  some (y3.1, (0 : Int))
theorem tscan_ReachOf_eq (F : FnT) (L0 : Q → Option Yscan_ReachOf_0) (p0_0 : Int) (p0_1 : Int) (p1 : Int) : semF (callP F Escan_ReachOf 20) s14 (loopT [⟨0, Yscan_ReachOf_0, L0, XLscan_ReachOf_0⟩]) 400 a14 [PV.agg [PV.int IntKind.i64 p0_0, PV.int IntKind.i64 p0_1], PV.int IntKind.i64 p1] (fun rv => decR (RSh.tup [(Prod.mk false [(CK.int IntKind.i64)]), (Prod.mk false [(CK.int IntKind.i64)])]) rv.pv) = tscan_ReachOf F L0 p0_0 p0_1 p1 := by kernel_rfl
noncomputable abbrev Fscan_ReachOf (args : List PV) := Fn env 14 (RSh.tup [(Prod.mk false [(CK.int IntKind.i64)]), (Prod.mk false [(CK.int IntKind.i64)])]) args
theorem Fscan_ReachOf_of  (p0_0 : Int) (p0_1 : Int) (p1 : Int) {res : ((Int) × (Int))} (h : tscan_ReachOf (Fn env) Lscan_ReachOf_0 p0_0 p0_1 p1 = some res) : Fscan_ReachOf [PV.agg [PV.int IntKind.i64 p0_0, PV.int IntKind.i64 p0_1], PV.int IntKind.i64 p1] = some res :=
  fn_of Escan_ReachOf_ok rfl rfl (lo_cons (lpO_ok Uscan_ReachOf) lo_nil) ((tscan_ReachOf_eq _ _ _ _ _).trans h)

/-! ### scan_TicksFor -/

def Escan_TicksFor : List Entry := [.out 16 (RSh.one (CK.int IntKind.i64)), .out 60 (RSh.one (CK.int IntKind.i64)), .out 59 (RSh.one (CK.int IntKind.i64)), .out 62 (RSh.one (CK.int IntKind.i64))]
theorem Escan_TicksFor_ok : ∀ e ∈ Escan_TicksFor, EntOK env e := (ent_out (ent_out (ent_out (ent_out ent_nil))))
theorem Uscan_TicksFor : uniq ((blocksOf a15.body).map (·.1)) = true := by kernel_rfl
def tscan_TicksFor (F : FnT) (p0_0 : Int) (p0_1 : Int) (p1 : Int) : Option ((Int) × (Int)) :=
  bindO (F 16 (RSh.one (CK.int IntKind.i64)) [(PV.agg [(PV.int IntKind.i64 p0_0), (PV.int IntKind.i64 p0_1)])]) fun (y0 : (Int)) =>
  bindO (F 60 (RSh.one (CK.int IntKind.i64)) [(PV.int IntKind.i64 p1), (PV.int IntKind.i64 (0 : Int)), (PV.int IntKind.i64 (360 : Int))]) fun (y1 : (Int)) =>
  bindO (F 59 (RSh.one (CK.int IntKind.i64)) [(PV.list 2 [(PV.int IntKind.i64 y0), (PV.int IntKind.i64 y1)])]) fun (y2 : (Int)) =>
  bif (y2 != (0 : Int)) then
    some ((0 : Int), y2)
  else bindO (F 62 (RSh.one (CK.int IntKind.i64)) [(PV.agg [(PV.int IntKind.i64 p0_0), (PV.int IntKind.i64 p0_1)]), (PV.int IntKind.i64 p1)]) fun (y3 : (Int)) =>
  some (y3, (0 : Int))
theorem tscan_TicksFor_eq (F : FnT) (p0_0 : Int) (p0_1 : Int) (p1 : Int) : semF (callP F Escan_TicksFor 20) s15 (loopT []) 400 a15 [PV.agg [PV.int IntKind.i64 p0_0, PV.int IntKind.i64 p0_1], PV.int IntKind.i64 p1] (fun rv => decR (RSh.tup [(Prod.mk false [(CK.int IntKind.i64)]), (Prod.mk false [(CK.int IntKind.i64)])]) rv.pv) = tscan_TicksFor F p0_0 p0_1 p1 := by kernel_rfl
noncomputable abbrev Fscan_TicksFor (args : List PV) := Fn env 15 (RSh.tup [(Prod.mk false [(CK.int IntKind.i64)]), (Prod.mk false [(CK.int IntKind.i64)])]) args
theorem Fscan_TicksFor_of  (p0_0 : Int) (p0_1 : Int) (p1 : Int) {res : ((Int) × (Int))} (h : tscan_TicksFor (Fn env) p0_0 p0_1 p1 = some res) : Fscan_TicksFor [PV.agg [PV.int IntKind.i64 p0_0, PV.int IntKind.i64 p0_1], PV.int IntKind.i64 p1] = some res :=
  fn_of Escan_TicksFor_ok rfl rfl lo_nil ((tscan_TicksFor_eq _ _ _ _).trans h)

/-! ### R3_AxisErr -/

def ER3_AxisErr : List Entry := [.out 17 (RSh.one CK.bool)]
theorem ER3_AxisErr_ok : ∀ e ∈ ER3_AxisErr, EntOK env e := (ent_out ent_nil)
theorem UR3_AxisErr : uniq ((blocksOf a13.body).map (·.1)) = true := by kernel_rfl
def tR3_AxisErr (F : FnT) (p0_0 : Int) (p0_1 : Int) : Option (Int) :=
  bindO (F 17 (RSh.one CK.bool) [(PV.int IntKind.i64 p0_0), (PV.int IntKind.i64 (1 : Int)), (PV.int IntKind.i64 (30 : Int))]) fun (y0 : (Bool)) =>
  bif y0 then
    bindO (F 17 (RSh.one CK.bool) [(PV.int IntKind.i64 p0_1), (PV.int IntKind.i64 (1 : Int)), (PV.int IntKind.i64 (30 : Int))]) fun (y1 : (Bool)) =>
    bif y1 then
      some (0 : Int)
    else some (2 : Int)
  else some (2 : Int)
theorem tR3_AxisErr_eq (F : FnT) (p0_0 : Int) (p0_1 : Int) : semF (callP F ER3_AxisErr 20) s13 (loopT []) 400 a13 [PV.agg [PV.int IntKind.i64 p0_0, PV.int IntKind.i64 p0_1]] (fun rv => decR (RSh.one (CK.int IntKind.i64)) rv.pv) = tR3_AxisErr F p0_0 p0_1 := by kernel_rfl
noncomputable abbrev FR3_AxisErr (args : List PV) := Fn env 13 (RSh.one (CK.int IntKind.i64)) args
theorem FR3_AxisErr_of  (p0_0 : Int) (p0_1 : Int) {res : (Int)} (h : tR3_AxisErr (Fn env) p0_0 p0_1 = some res) : FR3_AxisErr [PV.agg [PV.int IntKind.i64 p0_0, PV.int IntKind.i64 p0_1]] = some res :=
  fn_of ER3_AxisErr_ok rfl rfl lo_nil ((tR3_AxisErr_eq _ _ _).trans h)

/-! ### R3_Reach -/

def ER3_Reach : List Entry := []
theorem ER3_Reach_ok : ∀ e ∈ ER3_Reach, EntOK env e := ent_nil
def TR3_Reach_0a (i0 : Int) (i1 : Int) (i2 : Int) (i3 : Int) (i4 : Int) : Q := ⟨(tm 30 [(1, (AV.p (PV.int IntKind.i64 i0))), (2, (AV.loc 2 0)), (5, (AV.p (PV.int IntKind.i64 i1))), (6, (AV.p (PV.int IntKind.i64 i2)))]), (mm 30 [(2, (Bk.pcs true [(PV.int IntKind.i64 i3), (PV.int IntKind.i64 i4)]))])⟩
def XR3_Reach_0a (y : Int × Int × Int) : Ext × Q := (Ext.normal, ⟨(tm 30 [(5, (AV.p (PV.int IntKind.i64 y.1)))]), (mm 30 [(2, (Bk.pcs true [(PV.int IntKind.i64 y.2.1), (PV.int IntKind.i64 y.2.2)]))])⟩)
def IR3_Reach_0a (q : Ext × S) : Int × Int × Int := ((pP_int1 (pA_p (avT q.2 5))), (pP_int1 (hdP (pB_pcs1 (avM q.2 2)))), (pP_int1 (hdP (List.tail (pB_pcs1 (avM q.2 2))))))
abbrev YR3_Reach_0 : Type := Int × Int × Int
def XLR3_Reach_0 : XL YR3_Reach_0 := .one XR3_Reach_0a
def IR3_Reach_0 (q : Ext × S) : YR3_Reach_0 := (IR3_Reach_0a q)
theorem XIR3_Reach_0a (y : Int × Int × Int) : IR3_Reach_0 (xe (XR3_Reach_0a y)) = y := rfl
theorem XIR3_Reach_0 (y : YR3_Reach_0) : IR3_Reach_0 (xe (XLR3_Reach_0.fn y)) = y := XIR3_Reach_0a y
noncomputable abbrev LR3_Reach_0 : Q → Option YR3_Reach_0 := lpO env a18.body 0 XLR3_Reach_0
noncomputable abbrev RR3_Reach_0 : Q → Option (Ext × S) := lpR env a18.body 0
theorem LR3_Reach_0a_of {s : Q} {y : Int × Int × Int} (h : RR3_Reach_0 s = exO (XR3_Reach_0a y)) : LR3_Reach_0 s = some y := lpO_of IR3_Reach_0 XIR3_Reach_0 (y := y) h
theorem UR3_Reach : uniq ((blocksOf a18.body).map (·.1)) = true := by kernel_rfl
def BR3_Reach_0a (F : FnT) (N : Q → Option (Ext × S)) (E : Ext × Q → Option (Ext × S)) (L0 : Q → Option YR3_Reach_0) (i0 : Int) (i1 : Int) (i2 : Int) (i3 : Int) (i4 : Int) : Option (Ext × S) :=
  bif (decide (i2 ≤ i0)) then
    N (TR3_Reach_0a i0 (w64 (i1 + (if ((if ((w64 ((w64 ((w64 (i0 + (1 : Int))) - i2)) * i4)) < (w64 (i2 * i4))) then (w64 ((w64 ((w64 (i0 + (1 : Int))) - i2)) * i4)) else (w64 (i2 * i4))) < i3) then (if ((w64 ((w64 ((w64 (i0 + (1 : Int))) - i2)) * i4)) < (w64 (i2 * i4))) then (w64 ((w64 ((w64 (i0 + (1 : Int))) - i2)) * i4)) else (w64 (i2 * i4))) else i3))) (w64 (i2 + (1 : Int))) i3 i4)
  else E (XR3_Reach_0a (i1, i3, i4))
theorem BR3_Reach_0a_eq (F : FnT) (N : Q → Option (Ext × S)) (E : Ext × Q → Option (Ext × S)) (L0 : Q → Option YR3_Reach_0) (i0 : Int) (i1 : Int) (i2 : Int) (i3 : Int) (i4 : Int) : semB (callP F ER3_Reach 20) s18 (loopT [⟨0, YR3_Reach_0, L0, XLR3_Reach_0⟩]) 400 (blkIn a18.body 0) N E (TR3_Reach_0a i0 i1 i2 i3 i4) = BR3_Reach_0a F N E L0 i0 i1 i2 i3 i4 := by kernel_rfl
theorem RR3_Reach_0a_of  (i0 : Int) (i1 : Int) (i2 : Int) (i3 : Int) (i4 : Int) {r : Ext × S} (h : BR3_Reach_0a (Fn env) RR3_Reach_0 exO LR3_Reach_0 i0 i1 i2 i3 i4 = some r) : RR3_Reach_0 (TR3_Reach_0a i0 i1 i2 i3 i4) = some r :=
  lp_of ER3_Reach_ok (by kernel_rfl) (lo_cons (lpO_ok UR3_Reach) lo_nil) (by kernel_rfl) ((BR3_Reach_0a_eq _ _ _ _ _ _ _ _ _).trans h)
def tR3_Reach (F : FnT) (L0 : Q → Option YR3_Reach_0) (p0_0 : Int) (p0_1 : Int) (p1 : Int) : Option (Int) :=
  bindO (L0 (TR3_Reach_0a p1 (0 : Int) (1 : Int) p0_0 p0_1)) fun y0 =>
  some y0.1
theorem tR3_Reach_eq (F : FnT) (L0 : Q → Option YR3_Reach_0) (p0_0 : Int) (p0_1 : Int) (p1 : Int) : semF (callP F ER3_Reach 20) s18 (loopT [⟨0, YR3_Reach_0, L0, XLR3_Reach_0⟩]) 400 a18 [PV.agg [PV.int IntKind.i64 p0_0, PV.int IntKind.i64 p0_1], PV.int IntKind.i64 p1] (fun rv => decR (RSh.one (CK.int IntKind.i64)) rv.pv) = tR3_Reach F L0 p0_0 p0_1 p1 := by kernel_rfl
noncomputable abbrev FR3_Reach (args : List PV) := Fn env 18 (RSh.one (CK.int IntKind.i64)) args
theorem FR3_Reach_of  (p0_0 : Int) (p0_1 : Int) (p1 : Int) {res : (Int)} (h : tR3_Reach (Fn env) LR3_Reach_0 p0_0 p0_1 p1 = some res) : FR3_Reach [PV.agg [PV.int IntKind.i64 p0_0, PV.int IntKind.i64 p0_1], PV.int IntKind.i64 p1] = some res :=
  fn_of ER3_Reach_ok rfl rfl (lo_cons (lpO_ok UR3_Reach) lo_nil) ((tR3_Reach_eq _ _ _ _ _).trans h)

/-! ### R3_Ticks -/

def ER3_Ticks : List Entry := [.out 18 (RSh.one (CK.int IntKind.i64))]
theorem ER3_Ticks_ok : ∀ e ∈ ER3_Ticks, EntOK env e := (ent_out ent_nil)
def TR3_Ticks_0a (i0 : Int) (i1 : Int) (i2 : Int) (i3 : Int) : Q := ⟨(tm 14 [(1, (AV.p (PV.int IntKind.i64 i0))), (2, (AV.loc 2 0)), (5, (AV.p (PV.int IntKind.i64 i1)))]), (mm 14 [(2, (Bk.pcs true [(PV.int IntKind.i64 i2), (PV.int IntKind.i64 i3)]))])⟩
def XR3_Ticks_0a (y : Int × Int × Int) : Ext × Q := (Ext.normal, ⟨(tm 14 [(5, (AV.p (PV.int IntKind.i64 y.1)))]), (mm 14 [(2, (Bk.pcs true [(PV.int IntKind.i64 y.2.1), (PV.int IntKind.i64 y.2.2)]))])⟩)
def IR3_Ticks_0a (q : Ext × S) : Int × Int × Int := ((pP_int1 (pA_p (avT q.2 5))), (pP_int1 (hdP (pB_pcs1 (avM q.2 2)))), (pP_int1 (hdP (List.tail (pB_pcs1 (avM q.2 2))))))
abbrev YR3_Ticks_0 : Type := Int × Int × Int
def XLR3_Ticks_0 : XL YR3_Ticks_0 := .one XR3_Ticks_0a
def IR3_Ticks_0 (q : Ext × S) : YR3_Ticks_0 := (IR3_Ticks_0a q)
theorem XIR3_Ticks_0a (y : Int × Int × Int) : IR3_Ticks_0 (xe (XR3_Ticks_0a y)) = y := rfl
theorem XIR3_Ticks_0 (y : YR3_Ticks_0) : IR3_Ticks_0 (xe (XLR3_Ticks_0.fn y)) = y := XIR3_Ticks_0a y
noncomputable abbrev LR3_Ticks_0 : Q → Option YR3_Ticks_0 := lpO env a19.body 0 XLR3_Ticks_0
noncomputable abbrev RR3_Ticks_0 : Q → Option (Ext × S) := lpR env a19.body 0
theorem LR3_Ticks_0a_of {s : Q} {y : Int × Int × Int} (h : RR3_Ticks_0 s = exO (XR3_Ticks_0a y)) : LR3_Ticks_0 s = some y := lpO_of IR3_Ticks_0 XIR3_Ticks_0 (y := y) h
theorem UR3_Ticks : uniq ((blocksOf a19.body).map (·.1)) = true := by kernel_rfl
def BR3_Ticks_0a (F : FnT) (N : Q → Option (Ext × S)) (E : Ext × Q → Option (Ext × S)) (L0 : Q → Option YR3_Ticks_0) (i0 : Int) (i1 : Int) (i2 : Int) (i3 : Int) : Option (Ext × S) :=
  bindO (F 18 (RSh.one (CK.int IntKind.i64)) [(PV.agg [(PV.int IntKind.i64 i2), (PV.int IntKind.i64 i3)]), (PV.int IntKind.i64 i1)]) fun (y0 : (Int)) =>
  bif (decide (y0 < i0)) then
    N (TR3_Ticks_0a i0 (w64 (i1 + (1 : Int))) i2 i3)
  else E (XR3_Ticks_0a (i1, i2, i3))
theorem BR3_Ticks_0a_eq (F : FnT) (N : Q → Option (Ext × S)) (E : Ext × Q → Option (Ext × S)) (L0 : Q → Option YR3_Ticks_0) (i0 : Int) (i1 : Int) (i2 : Int) (i3 : Int) : semB (callP F ER3_Ticks 20) s19 (loopT [⟨0, YR3_Ticks_0, L0, XLR3_Ticks_0⟩]) 400 (blkIn a19.body 0) N E (TR3_Ticks_0a i0 i1 i2 i3) = BR3_Ticks_0a F N E L0 i0 i1 i2 i3 := by kernel_rfl
theorem RR3_Ticks_0a_of  (i0 : Int) (i1 : Int) (i2 : Int) (i3 : Int) {r : Ext × S} (h : BR3_Ticks_0a (Fn env) RR3_Ticks_0 exO LR3_Ticks_0 i0 i1 i2 i3 = some r) : RR3_Ticks_0 (TR3_Ticks_0a i0 i1 i2 i3) = some r :=
  lp_of ER3_Ticks_ok (by kernel_rfl) (lo_cons (lpO_ok UR3_Ticks) lo_nil) (by kernel_rfl) ((BR3_Ticks_0a_eq _ _ _ _ _ _ _ _).trans h)
def tR3_Ticks (F : FnT) (L0 : Q → Option YR3_Ticks_0) (p0_0 : Int) (p0_1 : Int) (p1 : Int) : Option (Int) :=
  bindO (L0 (TR3_Ticks_0a p1 (0 : Int) p0_0 p0_1)) fun y0 =>
  some y0.1
theorem tR3_Ticks_eq (F : FnT) (L0 : Q → Option YR3_Ticks_0) (p0_0 : Int) (p0_1 : Int) (p1 : Int) : semF (callP F ER3_Ticks 20) s19 (loopT [⟨0, YR3_Ticks_0, L0, XLR3_Ticks_0⟩]) 400 a19 [PV.agg [PV.int IntKind.i64 p0_0, PV.int IntKind.i64 p0_1], PV.int IntKind.i64 p1] (fun rv => decR (RSh.one (CK.int IntKind.i64)) rv.pv) = tR3_Ticks F L0 p0_0 p0_1 p1 := by kernel_rfl
noncomputable abbrev FR3_Ticks (args : List PV) := Fn env 19 (RSh.one (CK.int IntKind.i64)) args
theorem FR3_Ticks_of  (p0_0 : Int) (p0_1 : Int) (p1 : Int) {res : (Int)} (h : tR3_Ticks (Fn env) LR3_Ticks_0 p0_0 p0_1 p1 = some res) : FR3_Ticks [PV.agg [PV.int IntKind.i64 p0_0, PV.int IntKind.i64 p0_1], PV.int IntKind.i64 p1] = some res :=
  fn_of ER3_Ticks_ok rfl rfl (lo_cons (lpO_ok UR3_Ticks) lo_nil) ((tR3_Ticks_eq _ _ _ _ _).trans h)

end Gv

/- What the functions do, round by round: PA. -/
namespace Gv
open Go
set_option maxRecDepth 100000

/-! ### L3_Axis -/

def EL3_Axis : List Entry := []
theorem EL3_Axis_ok : ∀ e ∈ EL3_Axis, EntOK env e := ent_nil
theorem UL3_Axis : uniq ((blocksOf a54.body).map (·.1)) = true := by kernel_rfl
def tL3_Axis (F : FnT) : Option ((Int) × (Int)) :=
  some ((3 : Int), (1 : Int))
theorem tL3_Axis_eq (F : FnT) : semF (callP F EL3_Axis 20) s54 (loopT []) 400 a54 [] (fun rv => decR (RSh.agg [(CK.int IntKind.i64), (CK.int IntKind.i64)]) rv.pv) = tL3_Axis F := by kernel_rfl
noncomputable abbrev FL3_Axis (args : List PV) := Fn env 54 (RSh.agg [(CK.int IntKind.i64), (CK.int IntKind.i64)]) args
theorem FL3_Axis_of  {res : ((Int) × (Int))} (h : tL3_Axis (Fn env) = some res) : FL3_Axis [] = some res :=
  fn_of EL3_Axis_ok rfl rfl lo_nil ((tL3_Axis_eq _).trans h)

/-! ### L3_Head -/

def EL3_Head : List Entry := [.inl 54 a54 s54]
theorem EL3_Head_ok : ∀ e ∈ EL3_Head, EntOK env e := (ent_inl rfl ent_nil)
theorem UL3_Head : uniq ((blocksOf a55.body).map (·.1)) = true := by kernel_rfl
def tL3_Head (F : FnT) : Option ((Int) × ((Int) × ((Int) × ((Int) × ((Int) × ((Int) × ((Nat) × (List PV)))))))) :=
  some ((0 : Int), ((0 : Int), ((3 : Int), ((1 : Int), ((3 : Int), ((1 : Int), (0, [])))))))
theorem tL3_Head_eq (F : FnT) : semF (callP F EL3_Head 20) s55 (loopT []) 400 a55 [] (fun rv => decR (RSh.agg [(CK.int IntKind.i64), (CK.int IntKind.i64), (CK.int IntKind.i64), (CK.int IntKind.i64), (CK.int IntKind.i64), (CK.int IntKind.i64), CK.list]) rv.pv) = tL3_Head F := by kernel_rfl
noncomputable abbrev FL3_Head (args : List PV) := Fn env 55 (RSh.agg [(CK.int IntKind.i64), (CK.int IntKind.i64), (CK.int IntKind.i64), (CK.int IntKind.i64), (CK.int IntKind.i64), (CK.int IntKind.i64), CK.list]) args
theorem FL3_Head_of  {res : ((Int) × ((Int) × ((Int) × ((Int) × ((Int) × ((Int) × ((Nat) × (List PV))))))))} (h : tL3_Head (Fn env) = some res) : FL3_Head [] = some res :=
  fn_of EL3_Head_ok rfl rfl lo_nil ((tL3_Head_eq _).trans h)

/-! ### L3_awake -/

def EL3_awake : List Entry := [.inl 54 a54 s54, .inl 55 a55 s55, .inl 56 a56 s56, .out 15 (RSh.tup [(Prod.mk false [(CK.int IntKind.i64)]), (Prod.mk false [(CK.int IntKind.i64)])]), .out 45 (RSh.tup [(Prod.mk false [(CK.int IntKind.i64)]), (Prod.mk false [(CK.int IntKind.i64)])]), .out 57 (RSh.tup [(Prod.mk false [(CK.int IntKind.i64)]), (Prod.mk false [(CK.int IntKind.i64)])]), .out 46 (RSh.tup [(Prod.mk false [(CK.int IntKind.i64)]), (Prod.mk true [(CK.int IntKind.i64), (CK.int IntKind.i64)]), (Prod.mk false [(CK.int IntKind.i64)])]), .out 48 (RSh.tup [(Prod.mk false [CK.list]), (Prod.mk false [(CK.int IntKind.i64)]), (Prod.mk false [(CK.int IntKind.i64)])]), .out 58 (RSh.one CK.bool)]
theorem EL3_awake_ok : ∀ e ∈ EL3_awake, EntOK env e := (ent_inl rfl (ent_inl rfl (ent_inl rfl (ent_out (ent_out (ent_out (ent_out (ent_out (ent_out ent_nil)))))))))
theorem UL3_awake : uniq ((blocksOf a12.body).map (·.1)) = true := by kernel_rfl
def tL3_awake (F : FnT) : Option (Bool) :=
  bindO (F 15 (RSh.tup [(Prod.mk false [(CK.int IntKind.i64)]), (Prod.mk false [(CK.int IntKind.i64)])]) [(PV.agg [(PV.int IntKind.i64 (3 : Int)), (PV.int IntKind.i64 (1 : Int))]), (PV.int IntKind.i64 (20 : Int))]) fun (y0 : ((Int) × (Int))) =>
  bindO (F 45 (RSh.tup [(Prod.mk false [(CK.int IntKind.i64)]), (Prod.mk false [(CK.int IntKind.i64)])]) [(PV.agg [(PV.int IntKind.i64 (0 : Int)), (PV.int IntKind.i64 (0 : Int)), (PV.int IntKind.i64 (3 : Int)), (PV.int IntKind.i64 (1 : Int)), (PV.int IntKind.i64 (3 : Int)), (PV.int IntKind.i64 (1 : Int)), (PV.list 0 [])]), (PV.list 3 [(PV.int IntKind.i64 (0 : Int)), (PV.int IntKind.i64 (0 : Int)), (PV.int IntKind.i64 (0 : Int)), (PV.int IntKind.i64 (0 : Int)), (PV.int IntKind.i64 (0 : Int)), (PV.int IntKind.i64 (2 : Int)), (PV.int IntKind.i64 (0 : Int)), (PV.list 0 []), (PV.int IntKind.i64 (1 : Int)), (PV.int IntKind.i64 (10 : Int)), (PV.int IntKind.i64 (5 : Int)), (PV.int IntKind.i64 (30 : Int)), (PV.int IntKind.i64 (10 : Int)), (PV.int IntKind.i64 (1 : Int)), (PV.int IntKind.i64 (0 : Int)), (PV.list 0 []), (PV.int IntKind.i64 (2 : Int)), (PV.int IntKind.i64 (0 : Int)), (PV.int IntKind.i64 (0 : Int)), (PV.int IntKind.i64 (0 : Int)), (PV.int IntKind.i64 (0 : Int)), (PV.int IntKind.i64 (0 : Int)), (PV.int IntKind.i64 (2 : Int)), (PV.list 1 [(PV.int IntKind.i64 (0 : Int)), (PV.int IntKind.i64 (0 : Int)), (PV.int IntKind.i64 (90 : Int)), (PV.int IntKind.i64 (0 : Int)), (PV.int IntKind.i64 (0 : Int)), (PV.int IntKind.i64 (1 : Int)), (PV.int IntKind.i64 (0 : Int)), (PV.list 0 [])])])]) fun (y1 : ((Int) × (Int))) =>
  bindO (F 57 (RSh.tup [(Prod.mk false [(CK.int IntKind.i64)]), (Prod.mk false [(CK.int IntKind.i64)])]) [(PV.agg [(PV.int IntKind.i64 (0 : Int)), (PV.int IntKind.i64 (0 : Int)), (PV.int IntKind.i64 (3 : Int)), (PV.int IntKind.i64 (1 : Int)), (PV.int IntKind.i64 (3 : Int)), (PV.int IntKind.i64 (1 : Int)), (PV.list 0 [])]), (PV.list 3 [(PV.int IntKind.i64 (0 : Int)), (PV.int IntKind.i64 (0 : Int)), (PV.int IntKind.i64 (0 : Int)), (PV.int IntKind.i64 (0 : Int)), (PV.int IntKind.i64 (0 : Int)), (PV.int IntKind.i64 (2 : Int)), (PV.int IntKind.i64 (0 : Int)), (PV.list 0 []), (PV.int IntKind.i64 (1 : Int)), (PV.int IntKind.i64 (10 : Int)), (PV.int IntKind.i64 (5 : Int)), (PV.int IntKind.i64 (30 : Int)), (PV.int IntKind.i64 (10 : Int)), (PV.int IntKind.i64 (1 : Int)), (PV.int IntKind.i64 (0 : Int)), (PV.list 0 []), (PV.int IntKind.i64 (2 : Int)), (PV.int IntKind.i64 (0 : Int)), (PV.int IntKind.i64 (0 : Int)), (PV.int IntKind.i64 (0 : Int)), (PV.int IntKind.i64 (0 : Int)), (PV.int IntKind.i64 (0 : Int)), (PV.int IntKind.i64 (2 : Int)), (PV.list 1 [(PV.int IntKind.i64 (0 : Int)), (PV.int IntKind.i64 (0 : Int)), (PV.int IntKind.i64 (90 : Int)), (PV.int IntKind.i64 (0 : Int)), (PV.int IntKind.i64 (0 : Int)), (PV.int IntKind.i64 (1 : Int)), (PV.int IntKind.i64 (0 : Int)), (PV.list 0 [])])]), (PV.agg [(PV.int IntKind.i64 (12 : Int)), (PV.int IntKind.i64 (4 : Int)), (PV.int IntKind.i64 (2 : Int))])]) fun (y2 : ((Int) × (Int))) =>
  bindO (F 46 (RSh.tup [(Prod.mk false [(CK.int IntKind.i64)]), (Prod.mk true [(CK.int IntKind.i64), (CK.int IntKind.i64)]), (Prod.mk false [(CK.int IntKind.i64)])]) [(PV.agg [(PV.int IntKind.i64 (0 : Int)), (PV.int IntKind.i64 (0 : Int)), (PV.int IntKind.i64 (3 : Int)), (PV.int IntKind.i64 (1 : Int)), (PV.int IntKind.i64 (3 : Int)), (PV.int IntKind.i64 (1 : Int)), (PV.list 1 [(PV.int IntKind.i64 (15 : Int)), (PV.int IntKind.i64 (16 : Int)), (PV.int IntKind.i64 (0 : Int)), (PV.int IntKind.i64 (10 : Int))])]), (PV.list 3 [(PV.int IntKind.i64 (0 : Int)), (PV.int IntKind.i64 (0 : Int)), (PV.int IntKind.i64 (0 : Int)), (PV.int IntKind.i64 (0 : Int)), (PV.int IntKind.i64 (0 : Int)), (PV.int IntKind.i64 (2 : Int)), (PV.int IntKind.i64 (0 : Int)), (PV.list 0 []), (PV.int IntKind.i64 (1 : Int)), (PV.int IntKind.i64 (10 : Int)), (PV.int IntKind.i64 (5 : Int)), (PV.int IntKind.i64 (30 : Int)), (PV.int IntKind.i64 (10 : Int)), (PV.int IntKind.i64 (1 : Int)), (PV.int IntKind.i64 (0 : Int)), (PV.list 0 []), (PV.int IntKind.i64 (2 : Int)), (PV.int IntKind.i64 (0 : Int)), (PV.int IntKind.i64 (0 : Int)), (PV.int IntKind.i64 (0 : Int)), (PV.int IntKind.i64 (0 : Int)), (PV.int IntKind.i64 (0 : Int)), (PV.int IntKind.i64 (2 : Int)), (PV.list 1 [(PV.int IntKind.i64 (0 : Int)), (PV.int IntKind.i64 (0 : Int)), (PV.int IntKind.i64 (90 : Int)), (PV.int IntKind.i64 (0 : Int)), (PV.int IntKind.i64 (0 : Int)), (PV.int IntKind.i64 (1 : Int)), (PV.int IntKind.i64 (0 : Int)), (PV.list 0 [])])])]) fun (y3 : ((Int) × ((Int) × ((Int) × (Int))))) =>
  bindO (F 48 (RSh.tup [(Prod.mk false [CK.list]), (Prod.mk false [(CK.int IntKind.i64)]), (Prod.mk false [(CK.int IntKind.i64)])]) [(PV.agg [(PV.int IntKind.i64 (0 : Int)), (PV.int IntKind.i64 (0 : Int)), (PV.int IntKind.i64 (3 : Int)), (PV.int IntKind.i64 (1 : Int)), (PV.int IntKind.i64 (3 : Int)), (PV.int IntKind.i64 (1 : Int)), (PV.list 0 [])]), (PV.list 2 [(PV.int IntKind.i64 (20 : Int)), (PV.int IntKind.i64 (0 : Int)), (PV.int IntKind.i64 (10 : Int)), (PV.int IntKind.i64 (0 : Int))])]) fun (y4 : (((Nat) × (List PV)) × ((Int) × (Int)))) =>
  bif (y0.2 == (0 : Int)) then
    bif (y0.1 == (9 : Int)) then
      bif (y1.2 == (0 : Int)) then
        bif (y1.1 == (72 : Int)) then
          bif (y2.2 == (0 : Int)) then
            bif (y2.1 == (59 : Int)) then
              bif (y3.2.2.2 == (0 : Int)) then
                bif (y3.1 == (2 : Int)) then
                  bif ((y3.2.1 == (15 : Int)) && ((y3.2.2.1 == (5 : Int)) && true)) then
                    bif (y4.2.2 == (0 : Int)) then
                      bif (y4.2.1 == (12 : Int)) then
                        bindO (F 58 (RSh.one CK.bool) [(PV.list y4.1.1 y4.1.2), (PV.list 2 [(PV.int IntKind.i64 (1 : Int)), (PV.int IntKind.i64 (0 : Int))])]) fun (y5 : (Bool)) =>
                        bif y5 then
                          some true
                        else some false
                      else some false
                    else some false
                  else some false
                else some false
              else some false
            else some false
          else some false
        else some false
      else some false
    else some false
  else some false
theorem tL3_awake_eq (F : FnT) : semF (callP F EL3_awake 20) s12 (loopT []) 400 a12 [] (fun rv => decR (RSh.one CK.bool) rv.pv) = tL3_awake F := by kernel_rfl
noncomputable abbrev FL3_awake (args : List PV) := Fn env 12 (RSh.one CK.bool) args
theorem FL3_awake_of  {res : (Bool)} (h : tL3_awake (Fn env) = some res) : FL3_awake [] = some res :=
  fn_of EL3_awake_ok rfl rfl lo_nil ((tL3_awake_eq _).trans h)

end Gv

/- What the functions do, round by round: PO. -/
namespace Gv
open Go
set_option maxRecDepth 100000

/-! ### scan_OrderOf -/

def Escan_OrderOf : List Entry := [.inl 91 a91 s91, .out 75 (RSh.one (CK.int IntKind.i64)), .out 89 (RSh.one (CK.int IntKind.i64)), .out 59 (RSh.one (CK.int IntKind.i64)), .out 90 (RSh.one CK.list), .out 115 (RSh.one CK.list), .out 92 (RSh.agg [(CK.int IntKind.i64), CK.bool])]
theorem Escan_OrderOf_ok : ∀ e ∈ Escan_OrderOf, EntOK env e := (ent_inl rfl (ent_out (ent_out (ent_out (ent_out (ent_out (ent_out ent_nil)))))))
def Tscan_OrderOf_3000051a (n0 : Nat) (c1 : List PV) (i2 : Int) (i3 : Int) (i4 : Int) (i5 : Int) (i6 : Int) (i7 : Int) (i8 : Int) (n9 : Nat) (c10 : List PV) (n11 : Nat) (c12 : List PV) : Q := ⟨(tm 75 [(8, (AV.loc 8 0)), (9, (AV.loc 9 0)), (10, (AV.loc 10 0)), (51, (AV.p (PV.list n0 c1))), (52, (AV.p (PV.int IntKind.i64 i2)))]), (mm 75 [(2, (Bk.cells true [(AV.p (PV.int IntKind.i64 i3)), (AV.p (PV.int IntKind.i64 i4)), (AV.p (PV.int IntKind.i64 i5)), (AV.p (PV.int IntKind.i64 i6)), (AV.p (PV.int IntKind.i64 i7)), (AV.p (PV.int IntKind.i64 i8)), (AV.p (PV.list n9 c10))])), (8, (Bk.cells true [(AV.p (PV.list n11 c12))])), (9, (Bk.cells true [AV.nilS])), (10, (Bk.pcs true [(PV.int IntKind.i64 (0 : Int))]))])⟩
def Tscan_OrderOf_3000051b (n0 : Nat) (c1 : List PV) (i2 : Int) (i3 : Int) (i4 : Int) (i5 : Int) (i6 : Int) (i7 : Int) (i8 : Int) (n9 : Nat) (c10 : List PV) (n11 : Nat) (c12 : List PV) (n13 : Nat) (c14 : List PV) (i15 : Int) : Q := ⟨(tm 75 [(8, (AV.loc 8 0)), (9, (AV.loc 9 0)), (10, (AV.loc 10 0)), (51, (AV.p (PV.list n0 c1))), (52, (AV.p (PV.int IntKind.i64 i2)))]), (mm 75 [(2, (Bk.cells true [(AV.p (PV.int IntKind.i64 i3)), (AV.p (PV.int IntKind.i64 i4)), (AV.p (PV.int IntKind.i64 i5)), (AV.p (PV.int IntKind.i64 i6)), (AV.p (PV.int IntKind.i64 i7)), (AV.p (PV.int IntKind.i64 i8)), (AV.p (PV.list n9 c10))])), (8, (Bk.cells true [(AV.p (PV.list n11 c12))])), (9, (Bk.cells true [(AV.p (PV.list n13 c14))])), (10, (Bk.pcs true [(PV.int IntKind.i64 i15)]))])⟩
def Xscan_OrderOf_3000051a (y : Int × Int × Int × Int × Int × Int × Nat × List PV × Nat × List PV) : Ext × Q := (Ext.normal, ⟨(tm 75 [(8, (AV.loc 8 0)), (9, (AV.loc 9 0)), (10, (AV.loc 10 0))]), (mm 75 [(2, (Bk.cells true [(AV.p (PV.int IntKind.i64 y.1)), (AV.p (PV.int IntKind.i64 y.2.1)), (AV.p (PV.int IntKind.i64 y.2.2.1)), (AV.p (PV.int IntKind.i64 y.2.2.2.1)), (AV.p (PV.int IntKind.i64 y.2.2.2.2.1)), (AV.p (PV.int IntKind.i64 y.2.2.2.2.2.1)), (AV.p (PV.list y.2.2.2.2.2.2.1 y.2.2.2.2.2.2.2.1))])), (8, (Bk.cells true [(AV.p (PV.list y.2.2.2.2.2.2.2.2.1 y.2.2.2.2.2.2.2.2.2))])), (9, (Bk.cells true [AV.nilS])), (10, (Bk.pcs true [(PV.int IntKind.i64 (0 : Int))]))])⟩)
def Iscan_OrderOf_3000051a (q : Ext × S) : Int × Int × Int × Int × Int × Int × Nat × List PV × Nat × List PV := ((pP_int1 (pA_p (hdA (pB_cells1 (avM q.2 2))))), (pP_int1 (pA_p (hdA (List.tail (pB_cells1 (avM q.2 2)))))), (pP_int1 (pA_p (hdA (List.tail (List.tail (pB_cells1 (avM q.2 2))))))), (pP_int1 (pA_p (hdA (List.tail (List.tail (List.tail (pB_cells1 (avM q.2 2)))))))), (pP_int1 (pA_p (hdA (List.tail (List.tail (List.tail (List.tail (pB_cells1 (avM q.2 2))))))))), (pP_int1 (pA_p (hdA (List.tail (List.tail (List.tail (List.tail (List.tail (pB_cells1 (avM q.2 2)))))))))), (pP_list0 (pA_p (hdA (List.tail (List.tail (List.tail (List.tail (List.tail (List.tail (pB_cells1 (avM q.2 2))))))))))), (pP_list1 (pA_p (hdA (List.tail (List.tail (List.tail (List.tail (List.tail (List.tail (pB_cells1 (avM q.2 2))))))))))), (pP_list0 (pA_p (hdA (pB_cells1 (avM q.2 8))))), (pP_list1 (pA_p (hdA (pB_cells1 (avM q.2 8))))))
def Xscan_OrderOf_3000051b (y : Int × Int × Int × Int × Int × Int × Nat × List PV × Nat × List PV × Nat × List PV × Int) : Ext × Q := (Ext.normal, ⟨(tm 75 [(8, (AV.loc 8 0)), (9, (AV.loc 9 0)), (10, (AV.loc 10 0))]), (mm 75 [(2, (Bk.cells true [(AV.p (PV.int IntKind.i64 y.1)), (AV.p (PV.int IntKind.i64 y.2.1)), (AV.p (PV.int IntKind.i64 y.2.2.1)), (AV.p (PV.int IntKind.i64 y.2.2.2.1)), (AV.p (PV.int IntKind.i64 y.2.2.2.2.1)), (AV.p (PV.int IntKind.i64 y.2.2.2.2.2.1)), (AV.p (PV.list y.2.2.2.2.2.2.1 y.2.2.2.2.2.2.2.1))])), (8, (Bk.cells true [(AV.p (PV.list y.2.2.2.2.2.2.2.2.1 y.2.2.2.2.2.2.2.2.2.1))])), (9, (Bk.cells true [(AV.p (PV.list y.2.2.2.2.2.2.2.2.2.2.1 y.2.2.2.2.2.2.2.2.2.2.2.1))])), (10, (Bk.pcs true [(PV.int IntKind.i64 y.2.2.2.2.2.2.2.2.2.2.2.2)]))])⟩)
def Iscan_OrderOf_3000051b (q : Ext × S) : Int × Int × Int × Int × Int × Int × Nat × List PV × Nat × List PV × Nat × List PV × Int := ((pP_int1 (pA_p (hdA (pB_cells1 (avM q.2 2))))), (pP_int1 (pA_p (hdA (List.tail (pB_cells1 (avM q.2 2)))))), (pP_int1 (pA_p (hdA (List.tail (List.tail (pB_cells1 (avM q.2 2))))))), (pP_int1 (pA_p (hdA (List.tail (List.tail (List.tail (pB_cells1 (avM q.2 2)))))))), (pP_int1 (pA_p (hdA (List.tail (List.tail (List.tail (List.tail (pB_cells1 (avM q.2 2))))))))), (pP_int1 (pA_p (hdA (List.tail (List.tail (List.tail (List.tail (List.tail (pB_cells1 (avM q.2 2)))))))))), (pP_list0 (pA_p (hdA (List.tail (List.tail (List.tail (List.tail (List.tail (List.tail (pB_cells1 (avM q.2 2))))))))))), (pP_list1 (pA_p (hdA (List.tail (List.tail (List.tail (List.tail (List.tail (List.tail (pB_cells1 (avM q.2 2))))))))))), (pP_list0 (pA_p (hdA (pB_cells1 (avM q.2 8))))), (pP_list1 (pA_p (hdA (pB_cells1 (avM q.2 8))))), (pP_list0 (pA_p (hdA (pB_cells1 (avM q.2 9))))), (pP_list1 (pA_p (hdA (pB_cells1 (avM q.2 9))))), (pP_int1 (hdP (pB_pcs1 (avM q.2 10)))))
abbrev Yscan_OrderOf_3000051 : Type := (Int × Int × Int × Int × Int × Int × Nat × List PV × Nat × List PV) ⊕ ((Int × Int × Int × Int × Int × Int × Nat × List PV × Nat × List PV × Nat × List PV × Int))
def XLscan_OrderOf_3000051 : XL Yscan_OrderOf_3000051 := .more Xscan_OrderOf_3000051a (.one Xscan_OrderOf_3000051b)
def Iscan_OrderOf_3000051 (q : Ext × S) : Yscan_OrderOf_3000051 := bif (cA (hdA (pB_cells1 (avM q.2 9))) == 1) then (Sum.inl (Iscan_OrderOf_3000051a q)) else (Sum.inr (Iscan_OrderOf_3000051b q))
theorem XIscan_OrderOf_3000051a (y : Int × Int × Int × Int × Int × Int × Nat × List PV × Nat × List PV) : Iscan_OrderOf_3000051 (xe (Xscan_OrderOf_3000051a y)) = (Sum.inl y) := rfl
theorem XIscan_OrderOf_3000051b (y : Int × Int × Int × Int × Int × Int × Nat × List PV × Nat × List PV × Nat × List PV × Int) : Iscan_OrderOf_3000051 (xe (Xscan_OrderOf_3000051b y)) = (Sum.inr y) := rfl
theorem XIscan_OrderOf_3000051 (y : Yscan_OrderOf_3000051) : Iscan_OrderOf_3000051 (xe (XLscan_OrderOf_3000051.fn y)) = y := (match y with | .inl y => XIscan_OrderOf_3000051a y | .inr y => XIscan_OrderOf_3000051b y)
noncomputable abbrev Lscan_OrderOf_3000051 : Q → Option Yscan_OrderOf_3000051 := lpO env a48.body 3000051 XLscan_OrderOf_3000051
noncomputable abbrev Rscan_OrderOf_3000051 : Q → Option (Ext × S) := lpR env a48.body 3000051
theorem Lscan_OrderOf_3000051a_of {s : Q} {y : Int × Int × Int × Int × Int × Int × Nat × List PV × Nat × List PV} (h : Rscan_OrderOf_3000051 s = exO (Xscan_OrderOf_3000051a y)) : Lscan_OrderOf_3000051 s = some (Sum.inl y) := lpO_of Iscan_OrderOf_3000051 XIscan_OrderOf_3000051 (y := (Sum.inl y)) h
theorem Lscan_OrderOf_3000051b_of {s : Q} {y : Int × Int × Int × Int × Int × Int × Nat × List PV × Nat × List PV × Nat × List PV × Int} (h : Rscan_OrderOf_3000051 s = exO (Xscan_OrderOf_3000051b y)) : Lscan_OrderOf_3000051 s = some (Sum.inr y) := lpO_of Iscan_OrderOf_3000051 XIscan_OrderOf_3000051 (y := (Sum.inr y)) h
theorem Uscan_OrderOf : uniq ((blocksOf a48.body).map (·.1)) = true := by kernel_rfl
def Bscan_OrderOf_3000051a (F : FnT) (N : Q → Option (Ext × S)) (E : Ext × Q → Option (Ext × S)) (L3000051 : Q → Option Yscan_OrderOf_3000051) (n0 : Nat) (c1 : List PV) (i2 : Int) (i3 : Int) (i4 : Int) (i5 : Int) (i6 : Int) (i7 : Int) (i8 : Int) (n9 : Nat) (c10 : List PV) (n11 : Nat) (c12 : List PV) : Option (Ext × S) :=
  bif (decide (i2 < (n0 : Int))) then
    bif (decide (((0 : Int) ≤ i2) ∧ (i2 < (n0 : Int)))) then
      bindO (listC (c1[(((Int.toNat i2) * 1) + 0)]?)) fun x0 =>
      bindO (F 92 (RSh.agg [(CK.int IntKind.i64), CK.bool]) [(PV.list n11 c12), (PV.list x0.1 x0.2)]) fun (y1 : ((Int) × (Bool))) =>
      bif y1.2 then
        N (Tscan_OrderOf_3000051b n0 c1 (w64 (i2 + (1 : Int))) i3 i4 i5 i6 i7 i8 n9 c10 n11 c12 x0.1 x0.2 y1.1)
      else N (Tscan_OrderOf_3000051a n0 c1 (w64 (i2 + (1 : Int))) i3 i4 i5 i6 i7 i8 n9 c10 n11 c12)
    else none
  else E (Xscan_OrderOf_3000051a (i3, i4, i5, i6, i7, i8, n9, c10, n11, c12))
theorem Bscan_OrderOf_3000051a_eq (F : FnT) (N : Q → Option (Ext × S)) (E : Ext × Q → Option (Ext × S)) (L3000051 : Q → Option Yscan_OrderOf_3000051) (n0 : Nat) (c1 : List PV) (i2 : Int) (i3 : Int) (i4 : Int) (i5 : Int) (i6 : Int) (i7 : Int) (i8 : Int) (n9 : Nat) (c10 : List PV) (n11 : Nat) (c12 : List PV) : semB (callP F Escan_OrderOf 20) s48 (loopT [⟨3000051, Yscan_OrderOf_3000051, L3000051, XLscan_OrderOf_3000051⟩]) 400 (blkIn a48.body 3000051) N E (Tscan_OrderOf_3000051a n0 c1 i2 i3 i4 i5 i6 i7 i8 n9 c10 n11 c12) = Bscan_OrderOf_3000051a F N E L3000051 n0 c1 i2 i3 i4 i5 i6 i7 i8 n9 c10 n11 c12 := by kernel_rfl
theorem Rscan_OrderOf_3000051a_of  (n0 : Nat) (c1 : List PV) (i2 : Int) (i3 : Int) (i4 : Int) (i5 : Int) (i6 : Int) (i7 : Int) (i8 : Int) (n9 : Nat) (c10 : List PV) (n11 : Nat) (c12 : List PV) {r : Ext × S} (h : Bscan_OrderOf_3000051a (Fn env) Rscan_OrderOf_3000051 exO Lscan_OrderOf_3000051 n0 c1 i2 i3 i4 i5 i6 i7 i8 n9 c10 n11 c12 = some r) : Rscan_OrderOf_3000051 (Tscan_OrderOf_3000051a n0 c1 i2 i3 i4 i5 i6 i7 i8 n9 c10 n11 c12) = some r :=
  lp_of Escan_OrderOf_ok (by kernel_rfl) (lo_cons (lpO_ok Uscan_OrderOf) lo_nil) (by kernel_rfl) ((Bscan_OrderOf_3000051a_eq _ _ _ _ _ _ _ _ _ _ _ _ _ _ _ _ _).trans h)
def Bscan_OrderOf_3000051b (F : FnT) (N : Q → Option (Ext × S)) (E : Ext × Q → Option (Ext × S)) (L3000051 : Q → Option Yscan_OrderOf_3000051) (n0 : Nat) (c1 : List PV) (i2 : Int) (i3 : Int) (i4 : Int) (i5 : Int) (i6 : Int) (i7 : Int) (i8 : Int) (n9 : Nat) (c10 : List PV) (n11 : Nat) (c12 : List PV) (n13 : Nat) (c14 : List PV) (i15 : Int) : Option (Ext × S) :=
  bif (decide (i2 < (n0 : Int))) then
    bif (decide (((0 : Int) ≤ i2) ∧ (i2 < (n0 : Int)))) then
      bindO (listC (c1[(((Int.toNat i2) * 1) + 0)]?)) fun x0 =>
      bindO (F 92 (RSh.agg [(CK.int IntKind.i64), CK.bool]) [(PV.list n11 c12), (PV.list x0.1 x0.2)]) fun (y1 : ((Int) × (Bool))) =>
      bif y1.2 then
        bif (decide (n13 ≠ 0)) then
          bif (decide (y1.1 < i15)) then
            N (Tscan_OrderOf_3000051b n0 c1 (w64 (i2 + (1 : Int))) i3 i4 i5 i6 i7 i8 n9 c10 n11 c12 x0.1 x0.2 y1.1)
          else N (Tscan_OrderOf_3000051b n0 c1 (w64 (i2 + (1 : Int))) i3 i4 i5 i6 i7 i8 n9 c10 n11 c12 n13 c14 i15)
        else none
      else N (Tscan_OrderOf_3000051b n0 c1 (w64 (i2 + (1 : Int))) i3 i4 i5 i6 i7 i8 n9 c10 n11 c12 n13 c14 i15)
    else none
  else E (Xscan_OrderOf_3000051b (i3, i4, i5, i6, i7, i8, n9, c10, n11, c12, n13, c14, i15))
theorem Bscan_OrderOf_3000051b_eq (F : FnT) (N : Q → Option (Ext × S)) (E : Ext × Q → Option (Ext × S)) (L3000051 : Q → Option Yscan_OrderOf_3000051) (n0 : Nat) (c1 : List PV) (i2 : Int) (i3 : Int) (i4 : Int) (i5 : Int) (i6 : Int) (i7 : Int) (i8 : Int) (n9 : Nat) (c10 : List PV) (n11 : Nat) (c12 : List PV) (n13 : Nat) (c14 : List PV) (i15 : Int) : semB (callP F Escan_OrderOf 20) s48 (loopT [⟨3000051, Yscan_OrderOf_3000051, L3000051, XLscan_OrderOf_3000051⟩]) 400 (blkIn a48.body 3000051) N E (Tscan_OrderOf_3000051b n0 c1 i2 i3 i4 i5 i6 i7 i8 n9 c10 n11 c12 n13 c14 i15) = Bscan_OrderOf_3000051b F N E L3000051 n0 c1 i2 i3 i4 i5 i6 i7 i8 n9 c10 n11 c12 n13 c14 i15 := by kernel_rfl
theorem Rscan_OrderOf_3000051b_of  (n0 : Nat) (c1 : List PV) (i2 : Int) (i3 : Int) (i4 : Int) (i5 : Int) (i6 : Int) (i7 : Int) (i8 : Int) (n9 : Nat) (c10 : List PV) (n11 : Nat) (c12 : List PV) (n13 : Nat) (c14 : List PV) (i15 : Int) {r : Ext × S} (h : Bscan_OrderOf_3000051b (Fn env) Rscan_OrderOf_3000051 exO Lscan_OrderOf_3000051 n0 c1 i2 i3 i4 i5 i6 i7 i8 n9 c10 n11 c12 n13 c14 i15 = some r) : Rscan_OrderOf_3000051 (Tscan_OrderOf_3000051b n0 c1 i2 i3 i4 i5 i6 i7 i8 n9 c10 n11 c12 n13 c14 i15) = some r :=
  lp_of Escan_OrderOf_ok (by kernel_rfl) (lo_cons (lpO_ok Uscan_OrderOf) lo_nil) (by kernel_rfl) ((Bscan_OrderOf_3000051b_eq _ _ _ _ _ _ _ _ _ _ _ _ _ _ _ _ _ _ _ _).trans h)
def tscan_OrderOf (F : FnT) (L3000051 : Q → Option Yscan_OrderOf_3000051) (p0_0 : Int) (p0_1 : Int) (p0_2 : Int) (p0_3 : Int) (p0_4 : Int) (p0_5 : Int) (p0_6n : Nat) (p0_6c : List PV) (p1n : Nat) (p1c : List PV) : Option (((Nat) × (List PV)) × ((Int) × (Int))) :=
  bindO (F 75 (RSh.one (CK.int IntKind.i64)) [(PV.agg [(PV.int IntKind.i64 p0_0), (PV.int IntKind.i64 p0_1), (PV.int IntKind.i64 p0_2), (PV.int IntKind.i64 p0_3), (PV.int IntKind.i64 p0_4), (PV.int IntKind.i64 p0_5), (PV.list p0_6n p0_6c)])]) fun (y0 : (Int)) =>
  bindO (F 89 (RSh.one (CK.int IntKind.i64)) [(PV.list p1n p1c)]) fun (y1 : (Int)) =>
  bindO (F 59 (RSh.one (CK.int IntKind.i64)) [(PV.list 2 [(PV.int IntKind.i64 y0), (PV.int IntKind.i64 y1)])]) fun (y2 : (Int)) =>
  bif (y2 != (0 : Int)) then
    some ((0, []), ((0 : Int), y2))
  else bindO (F 90 (RSh.one CK.list) [(PV.agg [(PV.int IntKind.i64 p0_0), (PV.int IntKind.i64 p0_1), (PV.int IntKind.i64 p0_2), (PV.int IntKind.i64 p0_3), (PV.int IntKind.i64 p0_4), (PV.int IntKind.i64 p0_5), (PV.list p0_6n p0_6c)]), (PV.list p1n p1c)]) fun (y3 : ((Nat) × (List PV))) =>
  bindO (F 115 (RSh.one CK.list) [(PV.it [Option.none] 0), (PV.imm [(PV.int IntKind.i64 (p1n : Int))] 0)]) fun (y4 : ((Nat) × (List PV))) =>
  bindO (L3000051 (Tscan_OrderOf_3000051a y4.1 y4.2 (0 : Int) p0_0 p0_1 p0_2 p0_3 p0_4 p0_5 p0_6n p0_6c y3.1 y3.2)) fun z =>
  Sum.elim (fun y5 =>
    some ((0, []), ((0 : Int), (12 : Int)))) (fun y6 =>
    bif (decide (y6.2.2.2.2.2.2.2.2.2.2.1 ≠ 0)) then
      some ((y6.2.2.2.2.2.2.2.2.2.2.1, y6.2.2.2.2.2.2.2.2.2.2.2.1), (y6.2.2.2.2.2.2.2.2.2.2.2.2, (0 : Int)))
    else none) z
theorem tscan_OrderOf_eq (F : FnT) (L3000051 : Q → Option Yscan_OrderOf_3000051) (p0_0 : Int) (p0_1 : Int) (p0_2 : Int) (p0_3 : Int) (p0_4 : Int) (p0_5 : Int) (p0_6n : Nat) (p0_6c : List PV) (p1n : Nat) (p1c : List PV) : semF (callP F Escan_OrderOf 20) s48 (loopT [⟨3000051, Yscan_OrderOf_3000051, L3000051, XLscan_OrderOf_3000051⟩]) 400 a48 [PV.agg [PV.int IntKind.i64 p0_0, PV.int IntKind.i64 p0_1, PV.int IntKind.i64 p0_2, PV.int IntKind.i64 p0_3, PV.int IntKind.i64 p0_4, PV.int IntKind.i64 p0_5, PV.list p0_6n p0_6c], PV.list p1n p1c] (fun rv => decR (RSh.tup [(Prod.mk false [CK.list]), (Prod.mk false [(CK.int IntKind.i64)]), (Prod.mk false [(CK.int IntKind.i64)])]) rv.pv) = tscan_OrderOf F L3000051 p0_0 p0_1 p0_2 p0_3 p0_4 p0_5 p0_6n p0_6c p1n p1c := by kernel_rfl
noncomputable abbrev Fscan_OrderOf (args : List PV) := Fn env 48 (RSh.tup [(Prod.mk false [CK.list]), (Prod.mk false [(CK.int IntKind.i64)]), (Prod.mk false [(CK.int IntKind.i64)])]) args
theorem Fscan_OrderOf_of  (p0_0 : Int) (p0_1 : Int) (p0_2 : Int) (p0_3 : Int) (p0_4 : Int) (p0_5 : Int) (p0_6n : Nat) (p0_6c : List PV) (p1n : Nat) (p1c : List PV) {res : (((Nat) × (List PV)) × ((Int) × (Int)))} (h : tscan_OrderOf (Fn env) Lscan_OrderOf_3000051 p0_0 p0_1 p0_2 p0_3 p0_4 p0_5 p0_6n p0_6c p1n p1c = some res) : Fscan_OrderOf [PV.agg [PV.int IntKind.i64 p0_0, PV.int IntKind.i64 p0_1, PV.int IntKind.i64 p0_2, PV.int IntKind.i64 p0_3, PV.int IntKind.i64 p0_4, PV.int IntKind.i64 p0_5, PV.list p0_6n p0_6c], PV.list p1n p1c] = some res :=
  fn_of Escan_OrderOf_ok rfl rfl (lo_cons (lpO_ok Uscan_OrderOf) lo_nil) ((tscan_OrderOf_eq _ _ _ _ _ _ _ _ _ _ _ _).trans h)

end Gv

/- What the functions do, round by round: PO2. -/
namespace Gv
open Go
set_option maxRecDepth 100000

/-! ### scan_movesOf -/

def Escan_movesOf : List Entry := [.out 114 (RSh.one CK.list), .out 80 (RSh.one (CK.int IntKind.i64)), .out 81 (RSh.one CK.bool)]
theorem Escan_movesOf_ok : ∀ e ∈ Escan_movesOf, EntOK env e := (ent_out (ent_out (ent_out ent_nil)))
def Tscan_movesOf_0a (n0 : Nat) (c1 : List PV) (n2 : Nat) (c3 : List PV) (i4 : Int) (i5 : Int) (i6 : Int) (i7 : Int) (i8 : Int) (i9 : Int) (i10 : Int) (n11 : Nat) (c12 : List PV) : Q := ⟨(tm 51 [(1, (AV.p (PV.list n0 c1))), (2, (AV.loc 2 0)), (5, AV.nilS), (16, (AV.p (PV.list n2 c3))), (17, (AV.p (PV.int IntKind.i64 i4))), (18, (AV.p (PV.int IntKind.i64 (0 : Int))))]), (mm 51 [(2, (Bk.cells true [(AV.p (PV.int IntKind.i64 i5)), (AV.p (PV.int IntKind.i64 i6)), (AV.p (PV.int IntKind.i64 i7)), (AV.p (PV.int IntKind.i64 i8)), (AV.p (PV.int IntKind.i64 i9)), (AV.p (PV.int IntKind.i64 i10)), (AV.p (PV.list n11 c12))]))])⟩
def Tscan_movesOf_0b (n0 : Nat) (c1 : List PV) (n2 : Nat) (c3 : List PV) (n4 : Nat) (c5 : List PV) (i6 : Int) (i7 : Int) (i8 : Int) (i9 : Int) (i10 : Int) (i11 : Int) (i12 : Int) (i13 : Int) (n14 : Nat) (c15 : List PV) (n16 : Nat) : Q := ⟨(tm 51 [(1, (AV.p (PV.list n0 c1))), (2, (AV.loc 2 0)), (5, (AV.app 48 n2 1 c3)), (16, (AV.p (PV.list n4 c5))), (17, (AV.p (PV.int IntKind.i64 i6))), (18, (AV.p (PV.int IntKind.i64 i7)))]), (mm 51 [(2, (Bk.cells true [(AV.p (PV.int IntKind.i64 i8)), (AV.p (PV.int IntKind.i64 i9)), (AV.p (PV.int IntKind.i64 i10)), (AV.p (PV.int IntKind.i64 i11)), (AV.p (PV.int IntKind.i64 i12)), (AV.p (PV.int IntKind.i64 i13)), (AV.p (PV.list n14 c15))])), (48, (Bk.buf n16))])⟩
def Xscan_movesOf_0a (y : Int × Int × Int × Int × Int × Int × Nat × List PV) : Ext × Q := (Ext.normal, ⟨(tm 51 [(5, AV.nilS)]), (mm 51 [(2, (Bk.cells true [(AV.p (PV.int IntKind.i64 y.1)), (AV.p (PV.int IntKind.i64 y.2.1)), (AV.p (PV.int IntKind.i64 y.2.2.1)), (AV.p (PV.int IntKind.i64 y.2.2.2.1)), (AV.p (PV.int IntKind.i64 y.2.2.2.2.1)), (AV.p (PV.int IntKind.i64 y.2.2.2.2.2.1)), (AV.p (PV.list y.2.2.2.2.2.2.1 y.2.2.2.2.2.2.2))]))])⟩)
def Iscan_movesOf_0a (q : Ext × S) : Int × Int × Int × Int × Int × Int × Nat × List PV := ((pP_int1 (pA_p (hdA (pB_cells1 (avM q.2 2))))), (pP_int1 (pA_p (hdA (List.tail (pB_cells1 (avM q.2 2)))))), (pP_int1 (pA_p (hdA (List.tail (List.tail (pB_cells1 (avM q.2 2))))))), (pP_int1 (pA_p (hdA (List.tail (List.tail (List.tail (pB_cells1 (avM q.2 2)))))))), (pP_int1 (pA_p (hdA (List.tail (List.tail (List.tail (List.tail (pB_cells1 (avM q.2 2))))))))), (pP_int1 (pA_p (hdA (List.tail (List.tail (List.tail (List.tail (List.tail (pB_cells1 (avM q.2 2)))))))))), (pP_list0 (pA_p (hdA (List.tail (List.tail (List.tail (List.tail (List.tail (List.tail (pB_cells1 (avM q.2 2))))))))))), (pP_list1 (pA_p (hdA (List.tail (List.tail (List.tail (List.tail (List.tail (List.tail (pB_cells1 (avM q.2 2))))))))))))
def Xscan_movesOf_0b (y : Nat × List PV × Int × Int × Int × Int × Int × Int × Nat × List PV × Nat) : Ext × Q := (Ext.normal, ⟨(tm 51 [(5, (AV.app 48 y.1 1 y.2.1))]), (mm 51 [(2, (Bk.cells true [(AV.p (PV.int IntKind.i64 y.2.2.1)), (AV.p (PV.int IntKind.i64 y.2.2.2.1)), (AV.p (PV.int IntKind.i64 y.2.2.2.2.1)), (AV.p (PV.int IntKind.i64 y.2.2.2.2.2.1)), (AV.p (PV.int IntKind.i64 y.2.2.2.2.2.2.1)), (AV.p (PV.int IntKind.i64 y.2.2.2.2.2.2.2.1)), (AV.p (PV.list y.2.2.2.2.2.2.2.2.1 y.2.2.2.2.2.2.2.2.2.1))])), (48, (Bk.buf y.2.2.2.2.2.2.2.2.2.2))])⟩)
def Iscan_movesOf_0b (q : Ext × S) : Nat × List PV × Int × Int × Int × Int × Int × Int × Nat × List PV × Nat := ((pA_app1 (avT q.2 5)), (pA_app3 (avT q.2 5)), (pP_int1 (pA_p (hdA (pB_cells1 (avM q.2 2))))), (pP_int1 (pA_p (hdA (List.tail (pB_cells1 (avM q.2 2)))))), (pP_int1 (pA_p (hdA (List.tail (List.tail (pB_cells1 (avM q.2 2))))))), (pP_int1 (pA_p (hdA (List.tail (List.tail (List.tail (pB_cells1 (avM q.2 2)))))))), (pP_int1 (pA_p (hdA (List.tail (List.tail (List.tail (List.tail (pB_cells1 (avM q.2 2))))))))), (pP_int1 (pA_p (hdA (List.tail (List.tail (List.tail (List.tail (List.tail (pB_cells1 (avM q.2 2)))))))))), (pP_list0 (pA_p (hdA (List.tail (List.tail (List.tail (List.tail (List.tail (List.tail (pB_cells1 (avM q.2 2))))))))))), (pP_list1 (pA_p (hdA (List.tail (List.tail (List.tail (List.tail (List.tail (List.tail (pB_cells1 (avM q.2 2))))))))))), (pB_buf0 (avM q.2 48)))
abbrev Yscan_movesOf_0 : Type := (Int × Int × Int × Int × Int × Int × Nat × List PV) ⊕ ((Nat × List PV × Int × Int × Int × Int × Int × Int × Nat × List PV × Nat))
def XLscan_movesOf_0 : XL Yscan_movesOf_0 := .more Xscan_movesOf_0a (.one Xscan_movesOf_0b)
def Iscan_movesOf_0 (q : Ext × S) : Yscan_movesOf_0 := bif (cA (avT q.2 5) == 1) then (Sum.inl (Iscan_movesOf_0a q)) else (Sum.inr (Iscan_movesOf_0b q))
theorem XIscan_movesOf_0a (y : Int × Int × Int × Int × Int × Int × Nat × List PV) : Iscan_movesOf_0 (xe (Xscan_movesOf_0a y)) = (Sum.inl y) := rfl
theorem XIscan_movesOf_0b (y : Nat × List PV × Int × Int × Int × Int × Int × Int × Nat × List PV × Nat) : Iscan_movesOf_0 (xe (Xscan_movesOf_0b y)) = (Sum.inr y) := rfl
theorem XIscan_movesOf_0 (y : Yscan_movesOf_0) : Iscan_movesOf_0 (xe (XLscan_movesOf_0.fn y)) = y := (match y with | .inl y => XIscan_movesOf_0a y | .inr y => XIscan_movesOf_0b y)
noncomputable abbrev Lscan_movesOf_0 : Q → Option Yscan_movesOf_0 := lpO env a90.body 0 XLscan_movesOf_0
noncomputable abbrev Rscan_movesOf_0 : Q → Option (Ext × S) := lpR env a90.body 0
theorem Lscan_movesOf_0a_of {s : Q} {y : Int × Int × Int × Int × Int × Int × Nat × List PV} (h : Rscan_movesOf_0 s = exO (Xscan_movesOf_0a y)) : Lscan_movesOf_0 s = some (Sum.inl y) := lpO_of Iscan_movesOf_0 XIscan_movesOf_0 (y := (Sum.inl y)) h
theorem Lscan_movesOf_0b_of {s : Q} {y : Nat × List PV × Int × Int × Int × Int × Int × Int × Nat × List PV × Nat} (h : Rscan_movesOf_0 s = exO (Xscan_movesOf_0b y)) : Lscan_movesOf_0 s = some (Sum.inr y) := lpO_of Iscan_movesOf_0 XIscan_movesOf_0 (y := (Sum.inr y)) h
def Tscan_movesOf_2a (n0 : Nat) (c1 : List PV) (n2 : Nat) (n3 : Nat) (c4 : List PV) (i5 : Int) (n6 : Nat) (c7 : List PV) (i8 : Int) (i9 : Int) (i10 : Int) (i11 : Int) (i12 : Int) (i13 : Int) (i14 : Int) (i15 : Int) (n16 : Nat) (c17 : List PV) (i18 : Int) (i19 : Int) (c20 : List PV) : Q := ⟨(tm 51 [(1, (AV.p (PV.list n0 c1))), (2, (AV.loc 2 0)), (5, AV.nilS), (7, (AV.loc 7 0)), (8, (AV.msl 24 0 n2 2)), (16, (AV.p (PV.list n3 c4))), (17, (AV.p (PV.int IntKind.i64 i5))), (18, (AV.p (PV.int IntKind.i64 (0 : Int)))), (25, (AV.p (PV.list n6 c7))), (26, (AV.p (PV.int IntKind.i64 i8))), (27, (AV.p (PV.int IntKind.i64 i9)))]), (mm 51 [(2, (Bk.cells true [(AV.p (PV.int IntKind.i64 i10)), (AV.p (PV.int IntKind.i64 i11)), (AV.p (PV.int IntKind.i64 i12)), (AV.p (PV.int IntKind.i64 i13)), (AV.p (PV.int IntKind.i64 i14)), (AV.p (PV.int IntKind.i64 i15)), (AV.p (PV.list n16 c17))])), (7, (Bk.pcs true [(PV.int IntKind.i64 i18), (PV.int IntKind.i64 i19)])), (24, (Bk.pcs true c20))])⟩
def Tscan_movesOf_2b (n0 : Nat) (c1 : List PV) (n2 : Nat) (c3 : List PV) (n4 : Nat) (n5 : Nat) (c6 : List PV) (i7 : Int) (i8 : Int) (n9 : Nat) (c10 : List PV) (i11 : Int) (i12 : Int) (i13 : Int) (i14 : Int) (i15 : Int) (i16 : Int) (i17 : Int) (i18 : Int) (n19 : Nat) (c20 : List PV) (i21 : Int) (i22 : Int) (c23 : List PV) (n24 : Nat) : Q := ⟨(tm 51 [(1, (AV.p (PV.list n0 c1))), (2, (AV.loc 2 0)), (5, (AV.app 48 n2 1 c3)), (7, (AV.loc 7 0)), (8, (AV.msl 24 0 n4 2)), (16, (AV.p (PV.list n5 c6))), (17, (AV.p (PV.int IntKind.i64 i7))), (18, (AV.p (PV.int IntKind.i64 i8))), (25, (AV.p (PV.list n9 c10))), (26, (AV.p (PV.int IntKind.i64 i11))), (27, (AV.p (PV.int IntKind.i64 i12)))]), (mm 51 [(2, (Bk.cells true [(AV.p (PV.int IntKind.i64 i13)), (AV.p (PV.int IntKind.i64 i14)), (AV.p (PV.int IntKind.i64 i15)), (AV.p (PV.int IntKind.i64 i16)), (AV.p (PV.int IntKind.i64 i17)), (AV.p (PV.int IntKind.i64 i18)), (AV.p (PV.list n19 c20))])), (7, (Bk.pcs true [(PV.int IntKind.i64 i21), (PV.int IntKind.i64 i22)])), (24, (Bk.pcs true c23)), (48, (Bk.buf n24))])⟩
def Xscan_movesOf_2a (y : Nat × List PV × Nat × Nat × List PV × Int × Int × Int × Int × Int × Int × Int × Nat × List PV × Int × Int × List PV) : Ext × Q := (Ext.normal, ⟨(tm 51 [(1, (AV.p (PV.list y.1 y.2.1))), (2, (AV.loc 2 0)), (5, AV.nilS), (8, (AV.msl 24 0 y.2.2.1 2)), (16, (AV.p (PV.list y.2.2.2.1 y.2.2.2.2.1))), (17, (AV.p (PV.int IntKind.i64 y.2.2.2.2.2.1))), (18, (AV.p (PV.int IntKind.i64 (0 : Int))))]), (mm 51 [(2, (Bk.cells true [(AV.p (PV.int IntKind.i64 y.2.2.2.2.2.2.1)), (AV.p (PV.int IntKind.i64 y.2.2.2.2.2.2.2.1)), (AV.p (PV.int IntKind.i64 y.2.2.2.2.2.2.2.2.1)), (AV.p (PV.int IntKind.i64 y.2.2.2.2.2.2.2.2.2.1)), (AV.p (PV.int IntKind.i64 y.2.2.2.2.2.2.2.2.2.2.1)), (AV.p (PV.int IntKind.i64 y.2.2.2.2.2.2.2.2.2.2.2.1)), (AV.p (PV.list y.2.2.2.2.2.2.2.2.2.2.2.2.1 y.2.2.2.2.2.2.2.2.2.2.2.2.2.1))])), (7, (Bk.pcs true [(PV.int IntKind.i64 y.2.2.2.2.2.2.2.2.2.2.2.2.2.2.1), (PV.int IntKind.i64 y.2.2.2.2.2.2.2.2.2.2.2.2.2.2.2.1)])), (24, (Bk.pcs true y.2.2.2.2.2.2.2.2.2.2.2.2.2.2.2.2))])⟩)
def Iscan_movesOf_2a (q : Ext × S) : Nat × List PV × Nat × Nat × List PV × Int × Int × Int × Int × Int × Int × Int × Nat × List PV × Int × Int × List PV := ((pP_list0 (pA_p (avT q.2 1))), (pP_list1 (pA_p (avT q.2 1))), (pA_msl2 (avT q.2 8)), (pP_list0 (pA_p (avT q.2 16))), (pP_list1 (pA_p (avT q.2 16))), (pP_int1 (pA_p (avT q.2 17))), (pP_int1 (pA_p (hdA (pB_cells1 (avM q.2 2))))), (pP_int1 (pA_p (hdA (List.tail (pB_cells1 (avM q.2 2)))))), (pP_int1 (pA_p (hdA (List.tail (List.tail (pB_cells1 (avM q.2 2))))))), (pP_int1 (pA_p (hdA (List.tail (List.tail (List.tail (pB_cells1 (avM q.2 2)))))))), (pP_int1 (pA_p (hdA (List.tail (List.tail (List.tail (List.tail (pB_cells1 (avM q.2 2))))))))), (pP_int1 (pA_p (hdA (List.tail (List.tail (List.tail (List.tail (List.tail (pB_cells1 (avM q.2 2)))))))))), (pP_list0 (pA_p (hdA (List.tail (List.tail (List.tail (List.tail (List.tail (List.tail (pB_cells1 (avM q.2 2))))))))))), (pP_list1 (pA_p (hdA (List.tail (List.tail (List.tail (List.tail (List.tail (List.tail (pB_cells1 (avM q.2 2))))))))))), (pP_int1 (hdP (pB_pcs1 (avM q.2 7)))), (pP_int1 (hdP (List.tail (pB_pcs1 (avM q.2 7))))), (pB_pcs1 (avM q.2 24)))
def Xscan_movesOf_2b (y : Nat × List PV × Nat × List PV × Nat × Nat × List PV × Int × Int × Int × Int × Int × Int × Int × Int × Nat × List PV × Int × Int × List PV × Nat) : Ext × Q := (Ext.normal, ⟨(tm 51 [(1, (AV.p (PV.list y.1 y.2.1))), (2, (AV.loc 2 0)), (5, (AV.app 48 y.2.2.1 1 y.2.2.2.1)), (8, (AV.msl 24 0 y.2.2.2.2.1 2)), (16, (AV.p (PV.list y.2.2.2.2.2.1 y.2.2.2.2.2.2.1))), (17, (AV.p (PV.int IntKind.i64 y.2.2.2.2.2.2.2.1))), (18, (AV.p (PV.int IntKind.i64 y.2.2.2.2.2.2.2.2.1)))]), (mm 51 [(2, (Bk.cells true [(AV.p (PV.int IntKind.i64 y.2.2.2.2.2.2.2.2.2.1)), (AV.p (PV.int IntKind.i64 y.2.2.2.2.2.2.2.2.2.2.1)), (AV.p (PV.int IntKind.i64 y.2.2.2.2.2.2.2.2.2.2.2.1)), (AV.p (PV.int IntKind.i64 y.2.2.2.2.2.2.2.2.2.2.2.2.1)), (AV.p (PV.int IntKind.i64 y.2.2.2.2.2.2.2.2.2.2.2.2.2.1)), (AV.p (PV.int IntKind.i64 y.2.2.2.2.2.2.2.2.2.2.2.2.2.2.1)), (AV.p (PV.list y.2.2.2.2.2.2.2.2.2.2.2.2.2.2.2.1 y.2.2.2.2.2.2.2.2.2.2.2.2.2.2.2.2.1))])), (7, (Bk.pcs true [(PV.int IntKind.i64 y.2.2.2.2.2.2.2.2.2.2.2.2.2.2.2.2.2.1), (PV.int IntKind.i64 y.2.2.2.2.2.2.2.2.2.2.2.2.2.2.2.2.2.2.1)])), (24, (Bk.pcs true y.2.2.2.2.2.2.2.2.2.2.2.2.2.2.2.2.2.2.2.1)), (48, (Bk.buf y.2.2.2.2.2.2.2.2.2.2.2.2.2.2.2.2.2.2.2.2))])⟩)
def Iscan_movesOf_2b (q : Ext × S) : Nat × List PV × Nat × List PV × Nat × Nat × List PV × Int × Int × Int × Int × Int × Int × Int × Int × Nat × List PV × Int × Int × List PV × Nat := ((pP_list0 (pA_p (avT q.2 1))), (pP_list1 (pA_p (avT q.2 1))), (pA_app1 (avT q.2 5)), (pA_app3 (avT q.2 5)), (pA_msl2 (avT q.2 8)), (pP_list0 (pA_p (avT q.2 16))), (pP_list1 (pA_p (avT q.2 16))), (pP_int1 (pA_p (avT q.2 17))), (pP_int1 (pA_p (avT q.2 18))), (pP_int1 (pA_p (hdA (pB_cells1 (avM q.2 2))))), (pP_int1 (pA_p (hdA (List.tail (pB_cells1 (avM q.2 2)))))), (pP_int1 (pA_p (hdA (List.tail (List.tail (pB_cells1 (avM q.2 2))))))), (pP_int1 (pA_p (hdA (List.tail (List.tail (List.tail (pB_cells1 (avM q.2 2)))))))), (pP_int1 (pA_p (hdA (List.tail (List.tail (List.tail (List.tail (pB_cells1 (avM q.2 2))))))))), (pP_int1 (pA_p (hdA (List.tail (List.tail (List.tail (List.tail (List.tail (pB_cells1 (avM q.2 2)))))))))), (pP_list0 (pA_p (hdA (List.tail (List.tail (List.tail (List.tail (List.tail (List.tail (pB_cells1 (avM q.2 2))))))))))), (pP_list1 (pA_p (hdA (List.tail (List.tail (List.tail (List.tail (List.tail (List.tail (pB_cells1 (avM q.2 2))))))))))), (pP_int1 (hdP (pB_pcs1 (avM q.2 7)))), (pP_int1 (hdP (List.tail (pB_pcs1 (avM q.2 7))))), (pB_pcs1 (avM q.2 24)), (pB_buf0 (avM q.2 48)))
abbrev Yscan_movesOf_2 : Type := (Nat × List PV × Nat × Nat × List PV × Int × Int × Int × Int × Int × Int × Int × Nat × List PV × Int × Int × List PV) ⊕ ((Nat × List PV × Nat × List PV × Nat × Nat × List PV × Int × Int × Int × Int × Int × Int × Int × Int × Nat × List PV × Int × Int × List PV × Nat))
def XLscan_movesOf_2 : XL Yscan_movesOf_2 := .more Xscan_movesOf_2a (.one Xscan_movesOf_2b)
def Iscan_movesOf_2 (q : Ext × S) : Yscan_movesOf_2 := bif (cA (avT q.2 5) == 1) then (Sum.inl (Iscan_movesOf_2a q)) else (Sum.inr (Iscan_movesOf_2b q))
theorem XIscan_movesOf_2a (y : Nat × List PV × Nat × Nat × List PV × Int × Int × Int × Int × Int × Int × Int × Nat × List PV × Int × Int × List PV) : Iscan_movesOf_2 (xe (Xscan_movesOf_2a y)) = (Sum.inl y) := (show Iscan_movesOf_2 (xe (Xscan_movesOf_2a y)) = (Sum.inl (y.1, y.2.1, y.2.2.1, y.2.2.2.1, y.2.2.2.2.1, y.2.2.2.2.2.1, y.2.2.2.2.2.2.1, y.2.2.2.2.2.2.2.1, y.2.2.2.2.2.2.2.2.1, y.2.2.2.2.2.2.2.2.2.1, y.2.2.2.2.2.2.2.2.2.2.1, y.2.2.2.2.2.2.2.2.2.2.2.1, y.2.2.2.2.2.2.2.2.2.2.2.2.1, y.2.2.2.2.2.2.2.2.2.2.2.2.2.1, y.2.2.2.2.2.2.2.2.2.2.2.2.2.2.1, y.2.2.2.2.2.2.2.2.2.2.2.2.2.2.2.1, ((y.2.2.2.2.2.2.2.2.2.2.2.2.2.2.2.2.map AV.p).map pA_p))) from rfl).trans (by simp only [map_back])
theorem XIscan_movesOf_2b (y : Nat × List PV × Nat × List PV × Nat × Nat × List PV × Int × Int × Int × Int × Int × Int × Int × Int × Nat × List PV × Int × Int × List PV × Nat) : Iscan_movesOf_2 (xe (Xscan_movesOf_2b y)) = (Sum.inr y) := (show Iscan_movesOf_2 (xe (Xscan_movesOf_2b y)) = (Sum.inr (y.1, y.2.1, y.2.2.1, y.2.2.2.1, y.2.2.2.2.1, y.2.2.2.2.2.1, y.2.2.2.2.2.2.1, y.2.2.2.2.2.2.2.1, y.2.2.2.2.2.2.2.2.1, y.2.2.2.2.2.2.2.2.2.1, y.2.2.2.2.2.2.2.2.2.2.1, y.2.2.2.2.2.2.2.2.2.2.2.1, y.2.2.2.2.2.2.2.2.2.2.2.2.1, y.2.2.2.2.2.2.2.2.2.2.2.2.2.1, y.2.2.2.2.2.2.2.2.2.2.2.2.2.2.1, y.2.2.2.2.2.2.2.2.2.2.2.2.2.2.2.1, y.2.2.2.2.2.2.2.2.2.2.2.2.2.2.2.2.1, y.2.2.2.2.2.2.2.2.2.2.2.2.2.2.2.2.2.1, y.2.2.2.2.2.2.2.2.2.2.2.2.2.2.2.2.2.2.1, ((y.2.2.2.2.2.2.2.2.2.2.2.2.2.2.2.2.2.2.2.1.map AV.p).map pA_p), y.2.2.2.2.2.2.2.2.2.2.2.2.2.2.2.2.2.2.2.2)) from rfl).trans (by simp only [map_back])
theorem XIscan_movesOf_2 (y : Yscan_movesOf_2) : Iscan_movesOf_2 (xe (XLscan_movesOf_2.fn y)) = y := (match y with | .inl y => XIscan_movesOf_2a y | .inr y => XIscan_movesOf_2b y)
noncomputable abbrev Lscan_movesOf_2 : Q → Option Yscan_movesOf_2 := lpO env a90.body 2 XLscan_movesOf_2
noncomputable abbrev Rscan_movesOf_2 : Q → Option (Ext × S) := lpR env a90.body 2
theorem Lscan_movesOf_2a_of {s : Q} {y : Nat × List PV × Nat × Nat × List PV × Int × Int × Int × Int × Int × Int × Int × Nat × List PV × Int × Int × List PV} (h : Rscan_movesOf_2 s = exO (Xscan_movesOf_2a y)) : Lscan_movesOf_2 s = some (Sum.inl y) := lpO_of Iscan_movesOf_2 XIscan_movesOf_2 (y := (Sum.inl y)) h
theorem Lscan_movesOf_2b_of {s : Q} {y : Nat × List PV × Nat × List PV × Nat × Nat × List PV × Int × Int × Int × Int × Int × Int × Int × Int × Nat × List PV × Int × Int × List PV × Nat} (h : Rscan_movesOf_2 s = exO (Xscan_movesOf_2b y)) : Lscan_movesOf_2 s = some (Sum.inr y) := lpO_of Iscan_movesOf_2 XIscan_movesOf_2 (y := (Sum.inr y)) h
theorem Uscan_movesOf : uniq ((blocksOf a90.body).map (·.1)) = true := by kernel_rfl
def Bscan_movesOf_0a (F : FnT) (N : Q → Option (Ext × S)) (E : Ext × Q → Option (Ext × S)) (L0 : Q → Option Yscan_movesOf_0) (L2 : Q → Option Yscan_movesOf_2) (n0 : Nat) (c1 : List PV) (n2 : Nat) (c3 : List PV) (i4 : Int) (i5 : Int) (i6 : Int) (i7 : Int) (i8 : Int) (i9 : Int) (i10 : Int) (n11 : Nat) (c12 : List PV) : Option (Ext × S) :=
  bif (decide ((0 : Int) < i4)) then
    bif (decide (((0 : Int) ≤ (0 : Int)) ∧ ((0 : Int) < (n2 : Int)))) then
      bindO (intC IntKind.i64 (c3[0]?)) fun x0 =>
      bindO (intC IntKind.i64 (c3[1]?)) fun x1 =>
      bif (decide (((n0 : Int) = (n0 : Int)) ∧ (((0 : Int) ≤ (n0 : Int)) ∧ ((n0 : Int) ≤ (big : Int))))) then
        bindO (L2 (Tscan_movesOf_2a n0 c1 (Int.toNat (n0 : Int)) n2 c3 i4 n0 c1 (n0 : Int) (0 : Int) i5 i6 i7 i8 i9 i10 n11 c12 x0 x1 (rep [(PV.int IntKind.i64 (0 : Int)), (PV.bool false)] (Int.toNat (n0 : Int))))) fun z =>
        Sum.elim (fun y2 =>
          bif (decide ((0 + (y2.2.2.1 * 2)) ≤ (List.length y2.2.2.2.2.2.2.2.2.2.2.2.2.2.2.2.2))) then
            N (Tscan_movesOf_0b y2.1 y2.2.1 1 [(PV.list y2.2.2.1 (List.take (y2.2.2.1 * 2) (List.drop 0 y2.2.2.2.2.2.2.2.2.2.2.2.2.2.2.2.2)))] y2.2.2.2.1 y2.2.2.2.2.1 y2.2.2.2.2.2.1 (1 : Int) y2.2.2.2.2.2.2.1 y2.2.2.2.2.2.2.2.1 y2.2.2.2.2.2.2.2.2.1 y2.2.2.2.2.2.2.2.2.2.1 y2.2.2.2.2.2.2.2.2.2.2.1 y2.2.2.2.2.2.2.2.2.2.2.2.1 y2.2.2.2.2.2.2.2.2.2.2.2.2.1 y2.2.2.2.2.2.2.2.2.2.2.2.2.2.1 1)
          else none) (fun y3 =>
          bif (decide ((0 + (y3.2.2.2.2.1 * 2)) ≤ (List.length y3.2.2.2.2.2.2.2.2.2.2.2.2.2.2.2.2.2.2.2.1))) then
            bif (decide ((y3.2.2.2.2.2.2.2.2.2.2.2.2.2.2.2.2.2.2.2.2 = y3.2.2.1) ∧ ((y3.2.2.1 + 1) ≤ big))) then
              N (Tscan_movesOf_0b y3.1 y3.2.1 (y3.2.2.1 + 1) (y3.2.2.2.1 ++ [(PV.list y3.2.2.2.2.1 (List.take (y3.2.2.2.2.1 * 2) (List.drop 0 y3.2.2.2.2.2.2.2.2.2.2.2.2.2.2.2.2.2.2.2.1)))]) y3.2.2.2.2.2.1 y3.2.2.2.2.2.2.1 y3.2.2.2.2.2.2.2.1 (w64 (y3.2.2.2.2.2.2.2.2.1 + (1 : Int))) y3.2.2.2.2.2.2.2.2.2.1 y3.2.2.2.2.2.2.2.2.2.2.1 y3.2.2.2.2.2.2.2.2.2.2.2.1 y3.2.2.2.2.2.2.2.2.2.2.2.2.1 y3.2.2.2.2.2.2.2.2.2.2.2.2.2.1 y3.2.2.2.2.2.2.2.2.2.2.2.2.2.2.1 y3.2.2.2.2.2.2.2.2.2.2.2.2.2.2.2.1 y3.2.2.2.2.2.2.2.2.2.2.2.2.2.2.2.2.1 (y3.2.2.1 + 1))
            else none
          else none) z
      else none
    else none
  else E (Xscan_movesOf_0a (i5, i6, i7, i8, i9, i10, n11, c12))
theorem Bscan_movesOf_0a_eq (F : FnT) (N : Q → Option (Ext × S)) (E : Ext × Q → Option (Ext × S)) (L0 : Q → Option Yscan_movesOf_0) (L2 : Q → Option Yscan_movesOf_2) (n0 : Nat) (c1 : List PV) (n2 : Nat) (c3 : List PV) (i4 : Int) (i5 : Int) (i6 : Int) (i7 : Int) (i8 : Int) (i9 : Int) (i10 : Int) (n11 : Nat) (c12 : List PV) : semB (callP F Escan_movesOf 20) s90 (loopT [⟨0, Yscan_movesOf_0, L0, XLscan_movesOf_0⟩, ⟨2, Yscan_movesOf_2, L2, XLscan_movesOf_2⟩]) 400 (blkIn a90.body 0) N E (Tscan_movesOf_0a n0 c1 n2 c3 i4 i5 i6 i7 i8 i9 i10 n11 c12) = Bscan_movesOf_0a F N E L0 L2 n0 c1 n2 c3 i4 i5 i6 i7 i8 i9 i10 n11 c12 := by kernel_rfl
theorem Rscan_movesOf_0a_of  (n0 : Nat) (c1 : List PV) (n2 : Nat) (c3 : List PV) (i4 : Int) (i5 : Int) (i6 : Int) (i7 : Int) (i8 : Int) (i9 : Int) (i10 : Int) (n11 : Nat) (c12 : List PV) {r : Ext × S} (h : Bscan_movesOf_0a (Fn env) Rscan_movesOf_0 exO Lscan_movesOf_0 Lscan_movesOf_2 n0 c1 n2 c3 i4 i5 i6 i7 i8 i9 i10 n11 c12 = some r) : Rscan_movesOf_0 (Tscan_movesOf_0a n0 c1 n2 c3 i4 i5 i6 i7 i8 i9 i10 n11 c12) = some r :=
  lp_of Escan_movesOf_ok (by kernel_rfl) (lo_cons (lpO_ok Uscan_movesOf) (lo_cons (lpO_ok Uscan_movesOf) lo_nil)) (by kernel_rfl) ((Bscan_movesOf_0a_eq _ _ _ _ _ _ _ _ _ _ _ _ _ _ _ _ _ _).trans h)
def Bscan_movesOf_0b (F : FnT) (N : Q → Option (Ext × S)) (E : Ext × Q → Option (Ext × S)) (L0 : Q → Option Yscan_movesOf_0) (L2 : Q → Option Yscan_movesOf_2) (n0 : Nat) (c1 : List PV) (n2 : Nat) (c3 : List PV) (n4 : Nat) (c5 : List PV) (i6 : Int) (i7 : Int) (i8 : Int) (i9 : Int) (i10 : Int) (i11 : Int) (i12 : Int) (i13 : Int) (n14 : Nat) (c15 : List PV) (n16 : Nat) : Option (Ext × S) :=
  bif (decide (i7 < i6)) then
    bif (decide (((0 : Int) ≤ i7) ∧ (i7 < (n4 : Int)))) then
      bindO (intC IntKind.i64 (c5[((Int.toNat i7) * 2)]?)) fun x0 =>
      bindO (intC IntKind.i64 (c5[(((Int.toNat i7) * 2) + 1)]?)) fun x1 =>
      bif (decide (((n0 : Int) = (n0 : Int)) ∧ (((0 : Int) ≤ (n0 : Int)) ∧ ((n0 : Int) ≤ (big : Int))))) then
        bindO (L2 (Tscan_movesOf_2b n0 c1 n2 c3 (Int.toNat (n0 : Int)) n4 c5 i6 i7 n0 c1 (n0 : Int) (0 : Int) i8 i9 i10 i11 i12 i13 n14 c15 x0 x1 (rep [(PV.int IntKind.i64 (0 : Int)), (PV.bool false)] (Int.toNat (n0 : Int))) n16)) fun z =>
        Sum.elim (fun y2 =>
          bif (decide ((0 + (y2.2.2.1 * 2)) ≤ (List.length y2.2.2.2.2.2.2.2.2.2.2.2.2.2.2.2.2))) then
            N (Tscan_movesOf_0b y2.1 y2.2.1 1 [(PV.list y2.2.2.1 (List.take (y2.2.2.1 * 2) (List.drop 0 y2.2.2.2.2.2.2.2.2.2.2.2.2.2.2.2.2)))] y2.2.2.2.1 y2.2.2.2.2.1 y2.2.2.2.2.2.1 (1 : Int) y2.2.2.2.2.2.2.1 y2.2.2.2.2.2.2.2.1 y2.2.2.2.2.2.2.2.2.1 y2.2.2.2.2.2.2.2.2.2.1 y2.2.2.2.2.2.2.2.2.2.2.1 y2.2.2.2.2.2.2.2.2.2.2.2.1 y2.2.2.2.2.2.2.2.2.2.2.2.2.1 y2.2.2.2.2.2.2.2.2.2.2.2.2.2.1 1)
          else none) (fun y3 =>
          bif (decide ((0 + (y3.2.2.2.2.1 * 2)) ≤ (List.length y3.2.2.2.2.2.2.2.2.2.2.2.2.2.2.2.2.2.2.2.1))) then
            bif (decide ((y3.2.2.2.2.2.2.2.2.2.2.2.2.2.2.2.2.2.2.2.2 = y3.2.2.1) ∧ ((y3.2.2.1 + 1) ≤ big))) then
              N (Tscan_movesOf_0b y3.1 y3.2.1 (y3.2.2.1 + 1) (y3.2.2.2.1 ++ [(PV.list y3.2.2.2.2.1 (List.take (y3.2.2.2.2.1 * 2) (List.drop 0 y3.2.2.2.2.2.2.2.2.2.2.2.2.2.2.2.2.2.2.2.1)))]) y3.2.2.2.2.2.1 y3.2.2.2.2.2.2.1 y3.2.2.2.2.2.2.2.1 (w64 (y3.2.2.2.2.2.2.2.2.1 + (1 : Int))) y3.2.2.2.2.2.2.2.2.2.1 y3.2.2.2.2.2.2.2.2.2.2.1 y3.2.2.2.2.2.2.2.2.2.2.2.1 y3.2.2.2.2.2.2.2.2.2.2.2.2.1 y3.2.2.2.2.2.2.2.2.2.2.2.2.2.1 y3.2.2.2.2.2.2.2.2.2.2.2.2.2.2.1 y3.2.2.2.2.2.2.2.2.2.2.2.2.2.2.2.1 y3.2.2.2.2.2.2.2.2.2.2.2.2.2.2.2.2.1 (y3.2.2.1 + 1))
            else none
          else none) z
      else none
    else none
  else E (Xscan_movesOf_0b (n2, c3, i8, i9, i10, i11, i12, i13, n14, c15, n16))
theorem Bscan_movesOf_0b_eq (F : FnT) (N : Q → Option (Ext × S)) (E : Ext × Q → Option (Ext × S)) (L0 : Q → Option Yscan_movesOf_0) (L2 : Q → Option Yscan_movesOf_2) (n0 : Nat) (c1 : List PV) (n2 : Nat) (c3 : List PV) (n4 : Nat) (c5 : List PV) (i6 : Int) (i7 : Int) (i8 : Int) (i9 : Int) (i10 : Int) (i11 : Int) (i12 : Int) (i13 : Int) (n14 : Nat) (c15 : List PV) (n16 : Nat) : semB (callP F Escan_movesOf 20) s90 (loopT [⟨0, Yscan_movesOf_0, L0, XLscan_movesOf_0⟩, ⟨2, Yscan_movesOf_2, L2, XLscan_movesOf_2⟩]) 400 (blkIn a90.body 0) N E (Tscan_movesOf_0b n0 c1 n2 c3 n4 c5 i6 i7 i8 i9 i10 i11 i12 i13 n14 c15 n16) = Bscan_movesOf_0b F N E L0 L2 n0 c1 n2 c3 n4 c5 i6 i7 i8 i9 i10 i11 i12 i13 n14 c15 n16 := by kernel_rfl
theorem Rscan_movesOf_0b_of  (n0 : Nat) (c1 : List PV) (n2 : Nat) (c3 : List PV) (n4 : Nat) (c5 : List PV) (i6 : Int) (i7 : Int) (i8 : Int) (i9 : Int) (i10 : Int) (i11 : Int) (i12 : Int) (i13 : Int) (n14 : Nat) (c15 : List PV) (n16 : Nat) {r : Ext × S} (h : Bscan_movesOf_0b (Fn env) Rscan_movesOf_0 exO Lscan_movesOf_0 Lscan_movesOf_2 n0 c1 n2 c3 n4 c5 i6 i7 i8 i9 i10 i11 i12 i13 n14 c15 n16 = some r) : Rscan_movesOf_0 (Tscan_movesOf_0b n0 c1 n2 c3 n4 c5 i6 i7 i8 i9 i10 i11 i12 i13 n14 c15 n16) = some r :=
  lp_of Escan_movesOf_ok (by kernel_rfl) (lo_cons (lpO_ok Uscan_movesOf) (lo_cons (lpO_ok Uscan_movesOf) lo_nil)) (by kernel_rfl) ((Bscan_movesOf_0b_eq _ _ _ _ _ _ _ _ _ _ _ _ _ _ _ _ _ _ _ _ _ _).trans h)
def Bscan_movesOf_2a (F : FnT) (N : Q → Option (Ext × S)) (E : Ext × Q → Option (Ext × S)) (L0 : Q → Option Yscan_movesOf_0) (L2 : Q → Option Yscan_movesOf_2) (n0 : Nat) (c1 : List PV) (n2 : Nat) (n3 : Nat) (c4 : List PV) (i5 : Int) (n6 : Nat) (c7 : List PV) (i8 : Int) (i9 : Int) (i10 : Int) (i11 : Int) (i12 : Int) (i13 : Int) (i14 : Int) (i15 : Int) (n16 : Nat) (c17 : List PV) (i18 : Int) (i19 : Int) (c20 : List PV) : Option (Ext × S) :=
  bif (decide (i9 < i8)) then
    bif (decide (((0 : Int) ≤ i9) ∧ (i9 < (n6 : Int)))) then
      bindO (intC IntKind.i64 (c7[((Int.toNat i9) * 2)]?)) fun x0 =>
      bindO (intC IntKind.i64 (c7[(((Int.toNat i9) * 2) + 1)]?)) fun x1 =>
      bindO (F 80 (RSh.one (CK.int IntKind.i64)) [(PV.agg [(PV.int IntKind.i64 i10), (PV.int IntKind.i64 i11), (PV.int IntKind.i64 i12), (PV.int IntKind.i64 i13), (PV.int IntKind.i64 i14), (PV.int IntKind.i64 i15), (PV.list n16 c17)]), (PV.agg [(PV.int IntKind.i64 i18), (PV.int IntKind.i64 i19)]), (PV.agg [(PV.int IntKind.i64 x0), (PV.int IntKind.i64 x1)])]) fun (y2 : (Int)) =>
      bindO (F 81 (RSh.one CK.bool) [(PV.agg [(PV.int IntKind.i64 i10), (PV.int IntKind.i64 i11), (PV.int IntKind.i64 i12), (PV.int IntKind.i64 i13), (PV.int IntKind.i64 i14), (PV.int IntKind.i64 i15), (PV.list n16 c17)]), (PV.agg [(PV.int IntKind.i64 i18), (PV.int IntKind.i64 i19)]), (PV.agg [(PV.int IntKind.i64 x0), (PV.int IntKind.i64 x1)])]) fun (y3 : (Bool)) =>
      bif y3 then
        bif (decide (((0 : Int) ≤ i9) ∧ (i9 < (n2 : Int)))) then
          bindO (Gv.overO c20 (0 + ((Int.toNat i9) * 2)) [(PV.int IntKind.i64 y2), (PV.bool true)]) fun x4 =>
          N (Tscan_movesOf_2a n0 c1 n2 n3 c4 i5 n6 c7 i8 (w64 (i9 + (1 : Int))) i10 i11 i12 i13 i14 i15 n16 c17 i18 i19 x4)
        else none
      else bif (decide (((0 : Int) ≤ i9) ∧ (i9 < (n2 : Int)))) then
        bindO (Gv.overO c20 (0 + ((Int.toNat i9) * 2)) [(PV.int IntKind.i64 y2), (PV.bool false)]) fun x5 =>
        N (Tscan_movesOf_2a n0 c1 n2 n3 c4 i5 n6 c7 i8 (w64 (i9 + (1 : Int))) i10 i11 i12 i13 i14 i15 n16 c17 i18 i19 x5)
      else none
    else none
  else E (Xscan_movesOf_2a (n0, c1, n2, n3, c4, i5, i10, i11, i12, i13, i14, i15, n16, c17, i18, i19, c20))
theorem Bscan_movesOf_2a_eq (F : FnT) (N : Q → Option (Ext × S)) (E : Ext × Q → Option (Ext × S)) (L0 : Q → Option Yscan_movesOf_0) (L2 : Q → Option Yscan_movesOf_2) (n0 : Nat) (c1 : List PV) (n2 : Nat) (n3 : Nat) (c4 : List PV) (i5 : Int) (n6 : Nat) (c7 : List PV) (i8 : Int) (i9 : Int) (i10 : Int) (i11 : Int) (i12 : Int) (i13 : Int) (i14 : Int) (i15 : Int) (n16 : Nat) (c17 : List PV) (i18 : Int) (i19 : Int) (c20 : List PV) : semB (callP F Escan_movesOf 20) s90 (loopT [⟨0, Yscan_movesOf_0, L0, XLscan_movesOf_0⟩, ⟨2, Yscan_movesOf_2, L2, XLscan_movesOf_2⟩]) 400 (blkIn a90.body 2) N E (Tscan_movesOf_2a n0 c1 n2 n3 c4 i5 n6 c7 i8 i9 i10 i11 i12 i13 i14 i15 n16 c17 i18 i19 c20) = Bscan_movesOf_2a F N E L0 L2 n0 c1 n2 n3 c4 i5 n6 c7 i8 i9 i10 i11 i12 i13 i14 i15 n16 c17 i18 i19 c20 := by kernel_rfl
theorem Rscan_movesOf_2a_of  (n0 : Nat) (c1 : List PV) (n2 : Nat) (n3 : Nat) (c4 : List PV) (i5 : Int) (n6 : Nat) (c7 : List PV) (i8 : Int) (i9 : Int) (i10 : Int) (i11 : Int) (i12 : Int) (i13 : Int) (i14 : Int) (i15 : Int) (n16 : Nat) (c17 : List PV) (i18 : Int) (i19 : Int) (c20 : List PV) {r : Ext × S} (h : Bscan_movesOf_2a (Fn env) Rscan_movesOf_2 exO Lscan_movesOf_0 Lscan_movesOf_2 n0 c1 n2 n3 c4 i5 n6 c7 i8 i9 i10 i11 i12 i13 i14 i15 n16 c17 i18 i19 c20 = some r) : Rscan_movesOf_2 (Tscan_movesOf_2a n0 c1 n2 n3 c4 i5 n6 c7 i8 i9 i10 i11 i12 i13 i14 i15 n16 c17 i18 i19 c20) = some r :=
  lp_of Escan_movesOf_ok (by kernel_rfl) (lo_cons (lpO_ok Uscan_movesOf) (lo_cons (lpO_ok Uscan_movesOf) lo_nil)) (by kernel_rfl) ((Bscan_movesOf_2a_eq _ _ _ _ _ _ _ _ _ _ _ _ _ _ _ _ _ _ _ _ _ _ _ _ _ _).trans h)
def Bscan_movesOf_2b (F : FnT) (N : Q → Option (Ext × S)) (E : Ext × Q → Option (Ext × S)) (L0 : Q → Option Yscan_movesOf_0) (L2 : Q → Option Yscan_movesOf_2) (n0 : Nat) (c1 : List PV) (n2 : Nat) (c3 : List PV) (n4 : Nat) (n5 : Nat) (c6 : List PV) (i7 : Int) (i8 : Int) (n9 : Nat) (c10 : List PV) (i11 : Int) (i12 : Int) (i13 : Int) (i14 : Int) (i15 : Int) (i16 : Int) (i17 : Int) (i18 : Int) (n19 : Nat) (c20 : List PV) (i21 : Int) (i22 : Int) (c23 : List PV) (n24 : Nat) : Option (Ext × S) :=
  bif (decide (i12 < i11)) then
    bif (decide (((0 : Int) ≤ i12) ∧ (i12 < (n9 : Int)))) then
      bindO (intC IntKind.i64 (c10[((Int.toNat i12) * 2)]?)) fun x0 =>
      bindO (intC IntKind.i64 (c10[(((Int.toNat i12) * 2) + 1)]?)) fun x1 =>
      bindO (F 80 (RSh.one (CK.int IntKind.i64)) [(PV.agg [(PV.int IntKind.i64 i13), (PV.int IntKind.i64 i14), (PV.int IntKind.i64 i15), (PV.int IntKind.i64 i16), (PV.int IntKind.i64 i17), (PV.int IntKind.i64 i18), (PV.list n19 c20)]), (PV.agg [(PV.int IntKind.i64 i21), (PV.int IntKind.i64 i22)]), (PV.agg [(PV.int IntKind.i64 x0), (PV.int IntKind.i64 x1)])]) fun (y2 : (Int)) =>
      bindO (F 81 (RSh.one CK.bool) [(PV.agg [(PV.int IntKind.i64 i13), (PV.int IntKind.i64 i14), (PV.int IntKind.i64 i15), (PV.int IntKind.i64 i16), (PV.int IntKind.i64 i17), (PV.int IntKind.i64 i18), (PV.list n19 c20)]), (PV.agg [(PV.int IntKind.i64 i21), (PV.int IntKind.i64 i22)]), (PV.agg [(PV.int IntKind.i64 x0), (PV.int IntKind.i64 x1)])]) fun (y3 : (Bool)) =>
      bif y3 then
        bif (decide (((0 : Int) ≤ i12) ∧ (i12 < (n4 : Int)))) then
          bindO (Gv.overO c23 (0 + ((Int.toNat i12) * 2)) [(PV.int IntKind.i64 y2), (PV.bool true)]) fun x4 =>
          N (Tscan_movesOf_2b n0 c1 n2 c3 n4 n5 c6 i7 i8 n9 c10 i11 (w64 (i12 + (1 : Int))) i13 i14 i15 i16 i17 i18 n19 c20 i21 i22 x4 n24)
        else none
      else bif (decide (((0 : Int) ≤ i12) ∧ (i12 < (n4 : Int)))) then
        bindO (Gv.overO c23 (0 + ((Int.toNat i12) * 2)) [(PV.int IntKind.i64 y2), (PV.bool false)]) fun x5 =>
        N (Tscan_movesOf_2b n0 c1 n2 c3 n4 n5 c6 i7 i8 n9 c10 i11 (w64 (i12 + (1 : Int))) i13 i14 i15 i16 i17 i18 n19 c20 i21 i22 x5 n24)
      else none
    else none
  else E (Xscan_movesOf_2b (n0, c1, n2, c3, n4, n5, c6, i7, i8, i13, i14, i15, i16, i17, i18, n19, c20, i21, i22, c23, n24))
theorem Bscan_movesOf_2b_eq (F : FnT) (N : Q → Option (Ext × S)) (E : Ext × Q → Option (Ext × S)) (L0 : Q → Option Yscan_movesOf_0) (L2 : Q → Option Yscan_movesOf_2) (n0 : Nat) (c1 : List PV) (n2 : Nat) (c3 : List PV) (n4 : Nat) (n5 : Nat) (c6 : List PV) (i7 : Int) (i8 : Int) (n9 : Nat) (c10 : List PV) (i11 : Int) (i12 : Int) (i13 : Int) (i14 : Int) (i15 : Int) (i16 : Int) (i17 : Int) (i18 : Int) (n19 : Nat) (c20 : List PV) (i21 : Int) (i22 : Int) (c23 : List PV) (n24 : Nat) : semB (callP F Escan_movesOf 20) s90 (loopT [⟨0, Yscan_movesOf_0, L0, XLscan_movesOf_0⟩, ⟨2, Yscan_movesOf_2, L2, XLscan_movesOf_2⟩]) 400 (blkIn a90.body 2) N E (Tscan_movesOf_2b n0 c1 n2 c3 n4 n5 c6 i7 i8 n9 c10 i11 i12 i13 i14 i15 i16 i17 i18 n19 c20 i21 i22 c23 n24) = Bscan_movesOf_2b F N E L0 L2 n0 c1 n2 c3 n4 n5 c6 i7 i8 n9 c10 i11 i12 i13 i14 i15 i16 i17 i18 n19 c20 i21 i22 c23 n24 := by kernel_rfl
theorem Rscan_movesOf_2b_of  (n0 : Nat) (c1 : List PV) (n2 : Nat) (c3 : List PV) (n4 : Nat) (n5 : Nat) (c6 : List PV) (i7 : Int) (i8 : Int) (n9 : Nat) (c10 : List PV) (i11 : Int) (i12 : Int) (i13 : Int) (i14 : Int) (i15 : Int) (i16 : Int) (i17 : Int) (i18 : Int) (n19 : Nat) (c20 : List PV) (i21 : Int) (i22 : Int) (c23 : List PV) (n24 : Nat) {r : Ext × S} (h : Bscan_movesOf_2b (Fn env) Rscan_movesOf_2 exO Lscan_movesOf_0 Lscan_movesOf_2 n0 c1 n2 c3 n4 n5 c6 i7 i8 n9 c10 i11 i12 i13 i14 i15 i16 i17 i18 n19 c20 i21 i22 c23 n24 = some r) : Rscan_movesOf_2 (Tscan_movesOf_2b n0 c1 n2 c3 n4 n5 c6 i7 i8 n9 c10 i11 i12 i13 i14 i15 i16 i17 i18 n19 c20 i21 i22 c23 n24) = some r :=
  lp_of Escan_movesOf_ok (by kernel_rfl) (lo_cons (lpO_ok Uscan_movesOf) (lo_cons (lpO_ok Uscan_movesOf) lo_nil)) (by kernel_rfl) ((Bscan_movesOf_2b_eq _ _ _ _ _ _ _ _ _ _ _ _ _ _ _ _ _ _ _ _ _ _ _ _ _ _ _ _ _ _).trans h)
def tscan_movesOf (F : FnT) (L0 : Q → Option Yscan_movesOf_0) (L2 : Q → Option Yscan_movesOf_2) (p0_0 : Int) (p0_1 : Int) (p0_2 : Int) (p0_3 : Int) (p0_4 : Int) (p0_5 : Int) (p0_6n : Nat) (p0_6c : List PV) (p1n : Nat) (p1c : List PV) : Option ((Nat) × (List PV)) :=
  bindO (F 114 (RSh.one CK.list) [(PV.list 2 [(PV.list p1n p1c), (PV.list 1 [(PV.int IntKind.i64 p0_0), (PV.int IntKind.i64 p0_1)])])]) fun (y0 : ((Nat) × (List PV))) =>
  bindO (L0 (Tscan_movesOf_0a p1n p1c y0.1 y0.2 (y0.1 : Int) p0_0 p0_1 p0_2 p0_3 p0_4 p0_5 p0_6n p0_6c)) fun z =>
  Sum.elim (fun y1 =>
    some (0, [])) (fun y2 =>
    bif (decide (y2.2.2.2.2.2.2.2.2.2.2 = y2.1)) then
      some (y2.1, y2.2.1)
    else none) z
theorem tscan_movesOf_eq (F : FnT) (L0 : Q → Option Yscan_movesOf_0) (L2 : Q → Option Yscan_movesOf_2) (p0_0 : Int) (p0_1 : Int) (p0_2 : Int) (p0_3 : Int) (p0_4 : Int) (p0_5 : Int) (p0_6n : Nat) (p0_6c : List PV) (p1n : Nat) (p1c : List PV) : semF (callP F Escan_movesOf 20) s90 (loopT [⟨0, Yscan_movesOf_0, L0, XLscan_movesOf_0⟩, ⟨2, Yscan_movesOf_2, L2, XLscan_movesOf_2⟩]) 400 a90 [PV.agg [PV.int IntKind.i64 p0_0, PV.int IntKind.i64 p0_1, PV.int IntKind.i64 p0_2, PV.int IntKind.i64 p0_3, PV.int IntKind.i64 p0_4, PV.int IntKind.i64 p0_5, PV.list p0_6n p0_6c], PV.list p1n p1c] (fun rv => decR (RSh.one CK.list) rv.pv) = tscan_movesOf F L0 L2 p0_0 p0_1 p0_2 p0_3 p0_4 p0_5 p0_6n p0_6c p1n p1c := by kernel_rfl
noncomputable abbrev Fscan_movesOf (args : List PV) := Fn env 90 (RSh.one CK.list) args
theorem Fscan_movesOf_of  (p0_0 : Int) (p0_1 : Int) (p0_2 : Int) (p0_3 : Int) (p0_4 : Int) (p0_5 : Int) (p0_6n : Nat) (p0_6c : List PV) (p1n : Nat) (p1c : List PV) {res : ((Nat) × (List PV))} (h : tscan_movesOf (Fn env) Lscan_movesOf_0 Lscan_movesOf_2 p0_0 p0_1 p0_2 p0_3 p0_4 p0_5 p0_6n p0_6c p1n p1c = some res) : Fscan_movesOf [PV.agg [PV.int IntKind.i64 p0_0, PV.int IntKind.i64 p0_1, PV.int IntKind.i64 p0_2, PV.int IntKind.i64 p0_3, PV.int IntKind.i64 p0_4, PV.int IntKind.i64 p0_5, PV.list p0_6n p0_6c], PV.list p1n p1c] = some res :=
  fn_of Escan_movesOf_ok rfl rfl (lo_cons (lpO_ok Uscan_movesOf) (lo_cons (lpO_ok Uscan_movesOf) lo_nil)) ((tscan_movesOf_eq _ _ _ _ _ _ _ _ _ _ _ _ _).trans h)

end Gv
