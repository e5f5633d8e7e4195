/- What the functions do, round by round: CP1. -/
import Derived.Test.YtkbahledgljaoaaGvEnv
namespace Gv
open Go
set_option maxRecDepth 100000
def Ecloud_errorIf : List Entry := []
theorem Ecloud_errorIf_ok : ∀ e ∈ Ecloud_errorIf, EntOK env e := ent_nil
def tcloud_errorIf (F : FnT) (p0 : Bool) (p1 : Int) : Option (Int) :=
  bif p0 then
    some p1
  else some (0 : Int)
theorem tcloud_errorIf_eq (F : FnT) (p0 : Bool) (p1 : Int) : semF (callP F Ecloud_errorIf 20) s62 (loopT []) 400 a62 [PV.bool p0, PV.int .i64 p1] (fun rv => decR (RSh.one (CK.int .i64)) rv.pv) = tcloud_errorIf F p0 p1 := by kernel_rfl
noncomputable abbrev Fcloud_errorIf (args : List PV) := Fn env 62 (RSh.one (CK.int .i64)) args
theorem Fcloud_errorIf_of  (p0 : Bool) (p1 : Int) {res : (Int)} (h : tcloud_errorIf (Fn env) p0 p1 = some res) : Fcloud_errorIf [PV.bool p0, PV.int .i64 p1] = some res :=
  fn_of Ecloud_errorIf_ok rfl rfl lo_nil ((tcloud_errorIf_eq _ _ _).trans h)
def Ecloud_rangeError : List Entry := [.out 62 (RSh.one (CK.int .i64))]
theorem Ecloud_rangeError_ok : ∀ e ∈ Ecloud_rangeError, EntOK env e := (ent_out ent_nil)
def tcloud_rangeError (F : FnT) (p0 : Int) (p1 : Int) (p2 : Int) : Option (Int) :=
  bif (decide (p0 < p1)) then
    bindO (F 62 (RSh.one (CK.int .i64)) [(PV.bool true), (PV.int .i64 (2 : Int))]) fun (y0 : (Int)) =>
    some y0
  else bif (decide (p0 > p2)) then
    bindO (F 62 (RSh.one (CK.int .i64)) [(PV.bool true), (PV.int .i64 (2 : Int))]) fun (y1 : (Int)) =>
    some y1
  else bindO (F 62 (RSh.one (CK.int .i64)) [(PV.bool false), (PV.int .i64 (2 : Int))]) fun (y2 : (Int)) =>
  some y2
theorem tcloud_rangeError_eq (F : FnT) (p0 : Int) (p1 : Int) (p2 : Int) : semF (callP F Ecloud_rangeError 20) s56 (loopT []) 400 a56 [PV.int .i64 p0, PV.int .i64 p1, PV.int .i64 p2] (fun rv => decR (RSh.one (CK.int .i64)) rv.pv) = tcloud_rangeError F p0 p1 p2 := by kernel_rfl
noncomputable abbrev Fcloud_rangeError (args : List PV) := Fn env 56 (RSh.one (CK.int .i64)) args
theorem Fcloud_rangeError_of  (p0 : Int) (p1 : Int) (p2 : Int) {res : (Int)} (h : tcloud_rangeError (Fn env) p0 p1 p2 = some res) : Fcloud_rangeError [PV.int .i64 p0, PV.int .i64 p1, PV.int .i64 p2] = some res :=
  fn_of Ecloud_rangeError_ok rfl rfl lo_nil ((tcloud_rangeError_eq _ _ _ _).trans h)
def Eb_CopyInts : List Entry := []
theorem Eb_CopyInts_ok : ∀ e ∈ Eb_CopyInts, EntOK env e := ent_nil
def tb_CopyInts (F : FnT) (p0n : Nat) (p0c : List PV) : Option ((Nat) × (List PV)) :=
  bif (decide (p0n = 0)) then
    some (0, [])
  else bif (decide ((List.length p0c) = (p0n * 1))) then
    bif (decide ((0 = 0) ∧ ((0 + p0n) ≤ big))) then
      bif (decide ((0 + p0n) = (0 + p0n))) then
        some ((0 + p0n), ([] ++ p0c))
      else none
    else none
  else none
theorem tb_CopyInts_eq (F : FnT) (p0n : Nat) (p0c : List PV) : semF (callP F Eb_CopyInts 20) s16 (loopT []) 400 a16 [PV.list p0n p0c] (fun rv => decR (RSh.one CK.list) rv.pv) = tb_CopyInts F p0n p0c := by kernel_rfl
noncomputable abbrev Fb_CopyInts (args : List PV) := Fn env 16 (RSh.one CK.list) args
theorem Fb_CopyInts_of  (p0n : Nat) (p0c : List PV) {res : ((Nat) × (List PV))} (h : tb_CopyInts (Fn env) p0n p0c = some res) : Fb_CopyInts [PV.list p0n p0c] = some res :=
  fn_of Eb_CopyInts_ok rfl rfl lo_nil ((tb_CopyInts_eq _ _ _).trans h)
def Eb_Within : List Entry := []
theorem Eb_Within_ok : ∀ e ∈ Eb_Within, EntOK env e := ent_nil
def tb_Within (F : FnT) (p0 : Int) (p1 : Int) (p2 : Int) : Option (Bool) :=
  bif (decide (p1 ≤ p0)) then
    bif (decide (p0 ≤ p2)) then
      some true
    else some false
  else some false
theorem tb_Within_eq (F : FnT) (p0 : Int) (p1 : Int) (p2 : Int) : semF (callP F Eb_Within 20) s14 (loopT []) 400 a14 [PV.int .i64 p0, PV.int .i64 p1, PV.int .i64 p2] (fun rv => decR (RSh.one CK.bool) rv.pv) = tb_Within F p0 p1 p2 := by kernel_rfl
noncomputable abbrev Fb_Within (args : List PV) := Fn env 14 (RSh.one CK.bool) args
theorem Fb_Within_of  (p0 : Int) (p1 : Int) (p2 : Int) {res : (Bool)} (h : tb_Within (Fn env) p0 p1 p2 = some res) : Fb_Within [PV.int .i64 p0, PV.int .i64 p1, PV.int .i64 p2] = some res :=
  fn_of Eb_Within_ok rfl rfl lo_nil ((tb_Within_eq _ _ _ _).trans h)
def Ecloud_within_1 : List Entry := [.out 56 (RSh.one (CK.int .i64))]
theorem Ecloud_within_1_ok : ∀ e ∈ Ecloud_within_1, EntOK env e := (ent_out ent_nil)
def tcloud_within_1 (F : FnT)(n : Nat) (cs : List PV) (x lo hi : Int) : Option (Int) :=
  bindO (F 56 (RSh.one (CK.int .i64)) [(PV.int .i64 x), (PV.int .i64 lo), (PV.int .i64 hi)]) fun (y0 : (Int)) =>
  some y0
theorem tcloud_within_1_eq (F : FnT)(n : Nat) (cs : List PV) (x lo hi : Int) : semF (callP F Ecloud_within_1 20) s105 (loopT []) 400 a105 [.list n cs, .int .i64 x, .imm [.int .i64 lo] 0, .imm [.int .i64 hi] 0] (fun rv => decR (RSh.one (CK.int .i64)) rv.pv) = tcloud_within_1 F n cs x lo hi := by kernel_rfl
noncomputable abbrev Fcloud_within_1 (args : List PV) := Fn env 105 (RSh.one (CK.int .i64)) args
theorem Fcloud_within_1_of (n : Nat) (cs : List PV) (x lo hi : Int) {res : (Int)} (h : tcloud_within_1 (Fn env) n cs x lo hi = some res) : Fcloud_within_1 [.list n cs, .int .i64 x, .imm [.int .i64 lo] 0, .imm [.int .i64 hi] 0] = some res :=
  fn_of Ecloud_within_1_ok rfl rfl lo_nil ((tcloud_within_1_eq _ _ _ _ _ _).trans h)
def Ecloud_itemError_within : List Entry := [.out 105 (RSh.one (CK.int .i64))]
theorem Ecloud_itemError_within_ok : ∀ e ∈ Ecloud_itemError_within, EntOK env e := (ent_out ent_nil)
def Tcloud_itemError_within_0a (n0 : Nat) (c1 : List PV) (i2 : Int) (i3 : Int) (n4 : Nat) (c5 : List PV) (i6 : Int) (i7 : Int) : Q := ⟨(tm 27 [(0, (AV.p (PV.list n0 c1))), (1, (AV.p (PV.fn 105 [(PV.imm [(PV.int .i64 i2)] 0), (PV.imm [(PV.int .i64 i3)] 0)]))), (9, (AV.p (PV.list n4 c5))), (10, (AV.p (PV.int .i64 i6))), (11, (AV.p (PV.int .i64 i7)))]), (mm 27 [])⟩
def Xcloud_itemError_within_0a (y : Int × Int) : Ext × Q := (Ext.ret, ⟨(tm 27 [(4, (AV.p (PV.int .i64 y.1))), (5, (AV.p (PV.int .i64 y.2)))]), (mm 27 [])⟩)
def Icloud_itemError_within_0a (q : Ext × S) : Int × Int := ((pP_int1 (pA_p (avT q.2 4))), (pP_int1 (pA_p (avT q.2 5))))
def Xcloud_itemError_within_0b (y : Unit) : Ext × Q := (Ext.normal, ⟨(tm 27 []), (mm 27 [])⟩)
def Icloud_itemError_within_0b (q : Ext × S) : Unit := ()
abbrev Ycloud_itemError_within_0 : Type := (Int × Int) ⊕ ((Unit))
def XLcloud_itemError_within_0 : XL Ycloud_itemError_within_0 := .more Xcloud_itemError_within_0a (.one Xcloud_itemError_within_0b)
def Icloud_itemError_within_0 (q : Ext × S) : Ycloud_itemError_within_0 := bif (cE q.1 == 2) then (Sum.inl (Icloud_itemError_within_0a q)) else (Sum.inr (Icloud_itemError_within_0b q))
theorem XIcloud_itemError_within_0a (y : Int × Int) : Icloud_itemError_within_0 (xe (Xcloud_itemError_within_0a y)) = (Sum.inl y) := rfl
theorem XIcloud_itemError_within_0b (y : Unit) : Icloud_itemError_within_0 (xe (Xcloud_itemError_within_0b y)) = (Sum.inr y) := rfl
theorem XIcloud_itemError_within_0 (y : Ycloud_itemError_within_0) : Icloud_itemError_within_0 (xe (XLcloud_itemError_within_0.fn y)) = y := (match y with | .inl y => XIcloud_itemError_within_0a y | .inr y => XIcloud_itemError_within_0b y)
noncomputable abbrev Lcloud_itemError_within_0 : Q → Option Ycloud_itemError_within_0 := lpO env a71.body 0 XLcloud_itemError_within_0
noncomputable abbrev Rcloud_itemError_within_0 : Q → Option (Ext × S) := lpR env a71.body 0
theorem Ucloud_itemError_within : uniq ((blocksOf a71.body).map (·.1)) = true := by kernel_rfl
def Bcloud_itemError_within_0a (F : FnT) (N : QO) (E : EO) (L0 : Q → Option Ycloud_itemError_within_0) (n0 : Nat) (c1 : List PV) (i2 : Int) (i3 : Int) (n4 : Nat) (c5 : List PV) (i6 : Int) (i7 : Int) : Option (Ext × S) :=
  bif (decide (i7 < i6)) then
    bif (decide (((0 : Int) ≤ i7) ∧ (i7 < (n4 : Int)))) then
      bindO (intC .i64 (c5[((Int.toNat i7) * 1)]?)) fun x0 =>
      bif (decide (((0 : Int) ≤ i7) ∧ (i7 ≤ ((Prod.mk n0 c1).1 : Int)))) then
        bif (decide ((0 = (Int.toNat i7)) ∨ (((0 * 1) + (((Int.toNat i7) - 0) * 1)) ≤ (List.length c1)))) then
          bindO (F 105 (RSh.one (CK.int .i64)) [(PV.list ((Int.toNat i7) - 0) (List.take (((Int.toNat i7) - 0) * 1) (List.drop 0 c1))), (PV.int .i64 x0), (PV.imm [(PV.int .i64 i2)] 0), (PV.imm [(PV.int .i64 i3)] 0)]) fun (y1 : (Int)) =>
          bif (y1 != (0 : Int)) then
            E (Xcloud_itemError_within_0a (i7, y1))
          else N (Tcloud_itemError_within_0a n0 c1 i2 i3 n4 c5 i6 (w64 (i7 + (1 : Int))))
        else none
      else none
    else none
  else E (Xcloud_itemError_within_0b ())
theorem Bcloud_itemError_within_0a_eq (F : FnT) (N : QO) (E : EO) (L0 : Q → Option Ycloud_itemError_within_0) (n0 : Nat) (c1 : List PV) (i2 : Int) (i3 : Int) (n4 : Nat) (c5 : List PV) (i6 : Int) (i7 : Int) : semB (callP F Ecloud_itemError_within 20) s71 (loopT [⟨0, Ycloud_itemError_within_0, L0, XLcloud_itemError_within_0⟩]) 400 (blkIn a71.body 0) N E (Tcloud_itemError_within_0a n0 c1 i2 i3 n4 c5 i6 i7) = Bcloud_itemError_within_0a F N E L0 n0 c1 i2 i3 n4 c5 i6 i7 := by kernel_rfl
theorem Rcloud_itemError_within_0a_of  (n0 : Nat) (c1 : List PV) (i2 : Int) (i3 : Int) (n4 : Nat) (c5 : List PV) (i6 : Int) (i7 : Int) {r : Ext × S} (h : Bcloud_itemError_within_0a (Fn env) Rcloud_itemError_within_0 exO Lcloud_itemError_within_0 n0 c1 i2 i3 n4 c5 i6 i7 = some r) : Rcloud_itemError_within_0 (Tcloud_itemError_within_0a n0 c1 i2 i3 n4 c5 i6 i7) = some r :=
  lp_of Ecloud_itemError_within_ok (by kernel_rfl) (lo_cons (lpO_ok Ucloud_itemError_within) lo_nil) (by kernel_rfl) ((Bcloud_itemError_within_0a_eq _ _ _ _ _ _ _ _ _ _ _ _).trans h)
def tcloud_itemError_within (F : FnT) (L0 : Q → Option Ycloud_itemError_within_0)(n : Nat) (cs : List PV) (lo hi : Int) : Option ((Int) × (Int)) :=
  bindO (L0 (Tcloud_itemError_within_0a n cs lo hi n cs (n : Int) (0 : Int))) fun z =>
  Sum.elim (fun y0 =>
    some (y0.1, y0.2)) (fun y1 =>
    some ((0 : Int), (0 : Int))) z
theorem tcloud_itemError_within_eq (F : FnT) (L0 : Q → Option Ycloud_itemError_within_0)(n : Nat) (cs : List PV) (lo hi : Int) : semF (callP F Ecloud_itemError_within 20) s71 (loopT [⟨0, Ycloud_itemError_within_0, L0, XLcloud_itemError_within_0⟩]) 400 a71 [.list n cs, .fn 105 [.imm [.int .i64 lo] 0, .imm [.int .i64 hi] 0]] (fun rv => decR (RSh.tup [(Prod.mk false [(CK.int .i64)]), (Prod.mk false [(CK.int .i64)])]) rv.pv) = tcloud_itemError_within F L0 n cs lo hi := by kernel_rfl
noncomputable abbrev Fcloud_itemError_within (args : List PV) := Fn env 71 (RSh.tup [(Prod.mk false [(CK.int .i64)]), (Prod.mk false [(CK.int .i64)])]) args
theorem Fcloud_itemError_within_of (n : Nat) (cs : List PV) (lo hi : Int) {res : ((Int) × (Int))} (h : tcloud_itemError_within (Fn env) Lcloud_itemError_within_0 n cs lo hi = some res) : Fcloud_itemError_within [.list n cs, .fn 105 [.imm [.int .i64 lo] 0, .imm [.int .i64 hi] 0]] = some res :=
  fn_of Ecloud_itemError_within_ok rfl rfl (lo_cons (lpO_ok Ucloud_itemError_within) lo_nil) ((tcloud_itemError_within_eq _ _ _ _ _ _).trans h)
def Ecloud_listError_within : List Entry := [.out 71 (RSh.tup [(Prod.mk false [(CK.int .i64)]), (Prod.mk false [(CK.int .i64)])])]
theorem Ecloud_listError_within_ok : ∀ e ∈ Ecloud_listError_within, EntOK env e := (ent_out ent_nil)
def tcloud_listError_within (F : FnT)(n : Nat) (cs : List PV) (m lo hi : Int) : Option ((Int) × (Int)) :=
  bif (decide ((n : Int) > m)) then
    some ((0 : Int), (8 : Int))
  else bindO (F 71 (RSh.tup [(Prod.mk false [(CK.int .i64)]), (Prod.mk false [(CK.int .i64)])]) [(PV.list n cs), (PV.fn 105 [(PV.imm [(PV.int .i64 lo)] 0), (PV.imm [(PV.int .i64 hi)] 0)])]) fun (y0 : ((Int) × (Int))) =>
  some (y0.1, y0.2)
theorem tcloud_listError_within_eq (F : FnT)(n : Nat) (cs : List PV) (m lo hi : Int) : semF (callP F Ecloud_listError_within 20) s104 (loopT []) 400 a104 [.list n cs, .int .i64 m, .fn 105 [.imm [.int .i64 lo] 0, .imm [.int .i64 hi] 0]] (fun rv => decR (RSh.tup [(Prod.mk false [(CK.int .i64)]), (Prod.mk false [(CK.int .i64)])]) rv.pv) = tcloud_listError_within F n cs m lo hi := by kernel_rfl
noncomputable abbrev Fcloud_listError_within (args : List PV) := Fn env 104 (RSh.tup [(Prod.mk false [(CK.int .i64)]), (Prod.mk false [(CK.int .i64)])]) args
theorem Fcloud_listError_within_of (n : Nat) (cs : List PV) (m lo hi : Int) {res : ((Int) × (Int))} (h : tcloud_listError_within (Fn env) n cs m lo hi = some res) : Fcloud_listError_within [.list n cs, .int .i64 m, .fn 105 [.imm [.int .i64 lo] 0, .imm [.int .i64 hi] 0]] = some res :=
  fn_of Ecloud_listError_within_ok rfl rfl lo_nil ((tcloud_listError_within_eq _ _ _ _ _ _).trans h)
def Ecloud_filledError_within : List Entry := [.out 104 (RSh.tup [(Prod.mk false [(CK.int .i64)]), (Prod.mk false [(CK.int .i64)])])]
theorem Ecloud_filledError_within_ok : ∀ e ∈ Ecloud_filledError_within, EntOK env e := (ent_out ent_nil)
def tcloud_filledError_within (F : FnT)(n : Nat) (cs : List PV) (m lo hi : Int) : Option ((Int) × (Int)) :=
  bif ((n : Int) == (0 : Int)) then
    some ((0 : Int), (10 : Int))
  else bindO (F 104 (RSh.tup [(Prod.mk false [(CK.int .i64)]), (Prod.mk false [(CK.int .i64)])]) [(PV.list n cs), (PV.int .i64 m), (PV.fn 105 [(PV.imm [(PV.int .i64 lo)] 0), (PV.imm [(PV.int .i64 hi)] 0)])]) fun (y0 : ((Int) × (Int))) =>
  some (y0.1, y0.2)
theorem tcloud_filledError_within_eq (F : FnT)(n : Nat) (cs : List PV) (m lo hi : Int) : semF (callP F Ecloud_filledError_within 20) s80 (loopT []) 400 a80 [.list n cs, .int .i64 m, .fn 105 [.imm [.int .i64 lo] 0, .imm [.int .i64 hi] 0]] (fun rv => decR (RSh.tup [(Prod.mk false [(CK.int .i64)]), (Prod.mk false [(CK.int .i64)])]) rv.pv) = tcloud_filledError_within F n cs m lo hi := by kernel_rfl
noncomputable abbrev Fcloud_filledError_within (args : List PV) := Fn env 80 (RSh.tup [(Prod.mk false [(CK.int .i64)]), (Prod.mk false [(CK.int .i64)])]) args
theorem Fcloud_filledError_within_of (n : Nat) (cs : List PV) (m lo hi : Int) {res : ((Int) × (Int))} (h : tcloud_filledError_within (Fn env) n cs m lo hi = some res) : Fcloud_filledError_within [.list n cs, .int .i64 m, .fn 105 [.imm [.int .i64 lo] 0, .imm [.int .i64 hi] 0]] = some res :=
  fn_of Ecloud_filledError_within_ok rfl rfl lo_nil ((tcloud_filledError_within_eq _ _ _ _ _ _).trans h)
end Gv
