import Derived.Test.YtkbahledgljaoaaGreatGvEnv
import Derived.Test.YtkbahledgljaoaaGreatWD1

/- What the functions do, round by round: ZC1. -/
namespace Gv
open Go
set_option maxRecDepth 100000
def Ecloud_errorIf : List Entry := []
theorem Ecloud_errorIf_ok : ∀ e ∈ Ecloud_errorIf, EntOK env e := ent_nil
def tcloud_errorIf (_F : FnT) (p0 : Bool) (p1 : Int) : Option (Int) :=
  bif p0 then
    some p1
  else some (0 : Int)
theorem tcloud_errorIf_eq (F : FnT) (p0 : Bool) (p1 : Int) : semF (callP F Ecloud_errorIf 20) s71 (loopT []) 400 a71 [PV.bool p0, PV.int .i64 p1] (fun rv => decR (RSh.one (CK.int .i64)) rv.pv) = tcloud_errorIf F p0 p1 := by kernel_rfl
noncomputable abbrev Fcloud_errorIf (args : List PV) := Fn env 71 (RSh.one (CK.int .i64)) args
theorem Fcloud_errorIf_of  (p0 : Bool) (p1 : Int) {res : (Int)} (h : tcloud_errorIf (Fn env) p0 p1 = some res) : Fcloud_errorIf [PV.bool p0, PV.int .i64 p1] = some res :=
  fn_of Ecloud_errorIf_ok rfl rfl lo_nil ((tcloud_errorIf_eq _ _ _).trans h)
def Ecloud_rangeError : List Entry := [.out 71 (RSh.one (CK.int .i64))]
theorem Ecloud_rangeError_ok : ∀ e ∈ Ecloud_rangeError, EntOK env e := (ent_out ent_nil)
def tcloud_rangeError (F : FnT) (p0 : Int) (p1 : Int) (p2 : Int) : Option (Int) :=
  bif (decide (p0 < p1)) then
    bindO (F 71 (RSh.one (CK.int .i64)) [(PV.bool true), (PV.int .i64 (2 : Int))]) fun (y0 : (Int)) =>
    some y0
  else bif (decide (p0 > p2)) then
    bindO (F 71 (RSh.one (CK.int .i64)) [(PV.bool true), (PV.int .i64 (2 : Int))]) fun (y1 : (Int)) =>
    some y1
  else bindO (F 71 (RSh.one (CK.int .i64)) [(PV.bool false), (PV.int .i64 (2 : Int))]) fun (y2 : (Int)) =>
  some y2
theorem tcloud_rangeError_eq (F : FnT) (p0 : Int) (p1 : Int) (p2 : Int) : semF (callP F Ecloud_rangeError 20) s69 (loopT []) 400 a69 [PV.int .i64 p0, PV.int .i64 p1, PV.int .i64 p2] (fun rv => decR (RSh.one (CK.int .i64)) rv.pv) = tcloud_rangeError F p0 p1 p2 := by kernel_rfl
noncomputable abbrev Fcloud_rangeError (args : List PV) := Fn env 69 (RSh.one (CK.int .i64)) args
theorem Fcloud_rangeError_of  (p0 : Int) (p1 : Int) (p2 : Int) {res : (Int)} (h : tcloud_rangeError (Fn env) p0 p1 p2 = some res) : Fcloud_rangeError [PV.int .i64 p0, PV.int .i64 p1, PV.int .i64 p2] = some res :=
  fn_of Ecloud_rangeError_ok rfl rfl lo_nil ((tcloud_rangeError_eq _ _ _ _).trans h)
def Eb_CopyInts : List Entry := []
theorem Eb_CopyInts_ok : ∀ e ∈ Eb_CopyInts, EntOK env e := ent_nil
def tb_CopyInts (_F : FnT) (p0n : Nat) (p0c : List PV) : Option ((Nat) × (List PV)) :=
  bif (decide (p0n = 0)) then
    some (0, [])
  else bif (decide ((List.length p0c) = (p0n * 1))) then
    bif (decide ((0 = 0) ∧ ((0 + p0n) ≤ big))) then
      bif (decide ((0 + p0n) = (0 + p0n))) then
        some ((0 + p0n), ([] ++ p0c))
      else none
    else none
  else none
theorem tb_CopyInts_eq (F : FnT) (p0n : Nat) (p0c : List PV) : semF (callP F Eb_CopyInts 20) s11 (loopT []) 400 a11 [PV.list p0n p0c] (fun rv => decR (RSh.one CK.list) rv.pv) = tb_CopyInts F p0n p0c := by kernel_rfl
noncomputable abbrev Fb_CopyInts (args : List PV) := Fn env 11 (RSh.one CK.list) args
theorem Fb_CopyInts_of  (p0n : Nat) (p0c : List PV) {res : ((Nat) × (List PV))} (h : tb_CopyInts (Fn env) p0n p0c = some res) : Fb_CopyInts [PV.list p0n p0c] = some res :=
  fn_of Eb_CopyInts_ok rfl rfl lo_nil ((tb_CopyInts_eq _ _ _).trans h)
def Eb_Within : List Entry := []
theorem Eb_Within_ok : ∀ e ∈ Eb_Within, EntOK env e := ent_nil
def tb_Within (_F : FnT) (p0 : Int) (p1 : Int) (p2 : Int) : Option (Bool) :=
  bif (decide (p1 ≤ p0)) then
    bif (decide (p0 ≤ p2)) then
      some true
    else some false
  else some false
theorem tb_Within_eq (F : FnT) (p0 : Int) (p1 : Int) (p2 : Int) : semF (callP F Eb_Within 20) s31 (loopT []) 400 a31 [PV.int .i64 p0, PV.int .i64 p1, PV.int .i64 p2] (fun rv => decR (RSh.one CK.bool) rv.pv) = tb_Within F p0 p1 p2 := by kernel_rfl
noncomputable abbrev Fb_Within (args : List PV) := Fn env 31 (RSh.one CK.bool) args
theorem Fb_Within_of  (p0 : Int) (p1 : Int) (p2 : Int) {res : (Bool)} (h : tb_Within (Fn env) p0 p1 p2 = some res) : Fb_Within [PV.int .i64 p0, PV.int .i64 p1, PV.int .i64 p2] = some res :=
  fn_of Eb_Within_ok rfl rfl lo_nil ((tb_Within_eq _ _ _ _).trans h)
def Ew_both : List Entry := []
theorem Ew_both_ok : ∀ e ∈ Ew_both, EntOK env e := ent_nil
def tw_both (_F : FnT) (p0 : Int) (p1 : Int) : Option (Int) :=
  bif (p0 != (0 : Int)) then
    some p0
  else some p1
theorem tw_both_eq (F : FnT) (p0 : Int) (p1 : Int) : semF (callP F Ew_both 20) s16 (loopT []) 400 a16 [PV.int .i64 p0, PV.int .i64 p1] (fun rv => decR (RSh.one (CK.int .i64)) rv.pv) = tw_both F p0 p1 := by kernel_rfl
noncomputable abbrev Fw_both (args : List PV) := Fn env 16 (RSh.one (CK.int .i64)) args
theorem Fw_both_of  (p0 : Int) (p1 : Int) {res : (Int)} (h : tw_both (Fn env) p0 p1 = some res) : Fw_both [PV.int .i64 p0, PV.int .i64 p1] = some res :=
  fn_of Ew_both_ok rfl rfl lo_nil ((tw_both_eq _ _ _).trans h)
def Ew_few : List Entry := []
theorem Ew_few_ok : ∀ e ∈ Ew_few, EntOK env e := ent_nil
def tw_few (_F : FnT) (p0n : Nat) (_p0c : List PV) : Option (Bool) :=
  bif (decide ((p0n : Int) ≤ (26 : Int))) then
    some true
  else some false
theorem tw_few_eq (F : FnT) (p0n : Nat) (p0c : List PV) : semF (callP F Ew_few 20) s9 (loopT []) 400 a9 [PV.list p0n p0c] (fun rv => decR (RSh.one CK.bool) rv.pv) = tw_few F p0n p0c := by kernel_rfl
noncomputable abbrev Fw_few (args : List PV) := Fn env 9 (RSh.one CK.bool) args
theorem Fw_few_of  (p0n : Nat) (p0c : List PV) {res : (Bool)} (h : tw_few (Fn env) p0n p0c = some res) : Fw_few [PV.list p0n p0c] = some res :=
  fn_of Ew_few_ok rfl rfl lo_nil ((tw_few_eq _ _ _).trans h)
def Ecloud_firstError_2 : List Entry := []
theorem Ecloud_firstError_2_ok : ∀ e ∈ Ecloud_firstError_2, EntOK env e := ent_nil
def tcloud_firstError_2 (_F : FnT)(e0 e1 : Int) : Option (Int) :=
  bif (e0 != (0 : Int)) then
    some e0
  else bif (e1 != (0 : Int)) then
    some e1
  else some (0 : Int)
theorem tcloud_firstError_2_eq (F : FnT)(e0 e1 : Int) : semF (callP F Ecloud_firstError_2 20) s62 (loopT []) 400 a62 [.list 2 [.int .i64 e0, .int .i64 e1]] (fun rv => decR (RSh.one (CK.int .i64)) rv.pv) = tcloud_firstError_2 F e0 e1 := by kernel_rfl
noncomputable abbrev Fcloud_firstError_2 (args : List PV) := Fn env 62 (RSh.one (CK.int .i64)) args
theorem Fcloud_firstError_2_of (e0 e1 : Int) {res : (Int)} (h : tcloud_firstError_2 (Fn env) e0 e1 = some res) : Fcloud_firstError_2 [.list 2 [.int .i64 e0, .int .i64 e1]] = some res :=
  fn_of Ecloud_firstError_2_ok rfl rfl lo_nil ((tcloud_firstError_2_eq _ _ _).trans h)
def Ecloud_firstError_3 : List Entry := []
theorem Ecloud_firstError_3_ok : ∀ e ∈ Ecloud_firstError_3, EntOK env e := ent_nil
def tcloud_firstError_3 (_F : FnT)(e0 e1 e2 : Int) : Option (Int) :=
  bif (e0 != (0 : Int)) then
    some e0
  else bif (e1 != (0 : Int)) then
    some e1
  else bif (e2 != (0 : Int)) then
    some e2
  else some (0 : Int)
theorem tcloud_firstError_3_eq (F : FnT)(e0 e1 e2 : Int) : semF (callP F Ecloud_firstError_3 20) s62 (loopT []) 400 a62 [.list 3 [.int .i64 e0, .int .i64 e1, .int .i64 e2]] (fun rv => decR (RSh.one (CK.int .i64)) rv.pv) = tcloud_firstError_3 F e0 e1 e2 := by kernel_rfl
noncomputable abbrev Fcloud_firstError_3 (args : List PV) := Fn env 62 (RSh.one (CK.int .i64)) args
theorem Fcloud_firstError_3_of (e0 e1 e2 : Int) {res : (Int)} (h : tcloud_firstError_3 (Fn env) e0 e1 e2 = some res) : Fcloud_firstError_3 [.list 3 [.int .i64 e0, .int .i64 e1, .int .i64 e2]] = some res :=
  fn_of Ecloud_firstError_3_ok rfl rfl lo_nil ((tcloud_firstError_3_eq _ _ _ _).trans h)
def Ecloud_firstError_4 : List Entry := []
theorem Ecloud_firstError_4_ok : ∀ e ∈ Ecloud_firstError_4, EntOK env e := ent_nil
def tcloud_firstError_4 (_F : FnT)(e0 e1 e2 e3 : Int) : Option (Int) :=
  bif (e0 != (0 : Int)) then
    some e0
  else bif (e1 != (0 : Int)) then
    some e1
  else bif (e2 != (0 : Int)) then
    some e2
  else bif (e3 != (0 : Int)) then
    some e3
  else some (0 : Int)
theorem tcloud_firstError_4_eq (F : FnT)(e0 e1 e2 e3 : Int) : semF (callP F Ecloud_firstError_4 20) s62 (loopT []) 400 a62 [.list 4 [.int .i64 e0, .int .i64 e1, .int .i64 e2, .int .i64 e3]] (fun rv => decR (RSh.one (CK.int .i64)) rv.pv) = tcloud_firstError_4 F e0 e1 e2 e3 := by kernel_rfl
noncomputable abbrev Fcloud_firstError_4 (args : List PV) := Fn env 62 (RSh.one (CK.int .i64)) args
theorem Fcloud_firstError_4_of (e0 e1 e2 e3 : Int) {res : (Int)} (h : tcloud_firstError_4 (Fn env) e0 e1 e2 e3 = some res) : Fcloud_firstError_4 [.list 4 [.int .i64 e0, .int .i64 e1, .int .i64 e2, .int .i64 e3]] = some res :=
  fn_of Ecloud_firstError_4_ok rfl rfl lo_nil ((tcloud_firstError_4_eq _ _ _ _ _).trans h)
end Gv

/- What the functions do, round by round: ZC2. -/
namespace Gv
open Go
set_option maxRecDepth 100000
def Ecloud_within_1 : List Entry := [.out 69 (RSh.one (CK.int .i64))]
theorem Ecloud_within_1_ok : ∀ e ∈ Ecloud_within_1, EntOK env e := (ent_out ent_nil)
def tcloud_within_1 (F : FnT)(_n : Nat) (_cs : List PV) (x lo hi : Int) : Option (Int) :=
  bindO (F 69 (RSh.one (CK.int .i64)) [(PV.int .i64 x), (PV.int .i64 lo), (PV.int .i64 hi)]) fun (y0 : (Int)) =>
  some y0
theorem tcloud_within_1_eq (F : FnT)(n : Nat) (cs : List PV) (x lo hi : Int) : semF (callP F Ecloud_within_1 20) s111 (loopT []) 400 a111 [.list n cs, .int .i64 x, .imm [.int .i64 lo] 0, .imm [.int .i64 hi] 0] (fun rv => decR (RSh.one (CK.int .i64)) rv.pv) = tcloud_within_1 F n cs x lo hi := by kernel_rfl
noncomputable abbrev Fcloud_within_1 (args : List PV) := Fn env 111 (RSh.one (CK.int .i64)) args
theorem Fcloud_within_1_of (n : Nat) (cs : List PV) (x lo hi : Int) {res : (Int)} (h : tcloud_within_1 (Fn env) n cs x lo hi = some res) : Fcloud_within_1 [.list n cs, .int .i64 x, .imm [.int .i64 lo] 0, .imm [.int .i64 hi] 0] = some res :=
  fn_of Ecloud_within_1_ok rfl rfl lo_nil ((tcloud_within_1_eq _ _ _ _ _ _).trans h)
def Ecloud_itemError_within : List Entry := [.out 111 (RSh.one (CK.int .i64))]
theorem Ecloud_itemError_within_ok : ∀ e ∈ Ecloud_itemError_within, EntOK env e := (ent_out ent_nil)
def Tcloud_itemError_within_0a (n0 : Nat) (c1 : List PV) (i2 : Int) (i3 : Int) (n4 : Nat) (c5 : List PV) (i6 : Int) (i7 : Int) : Q := ⟨(tm 27 [(0, (AV.p (PV.list n0 c1))), (1, (AV.p (PV.fn 111 [(PV.imm [(PV.int .i64 i2)] 0), (PV.imm [(PV.int .i64 i3)] 0)]))), (9, (AV.p (PV.list n4 c5))), (10, (AV.p (PV.int .i64 i6))), (11, (AV.p (PV.int .i64 i7)))]), (mm 27 [])⟩
def Xcloud_itemError_within_0a (y : Int × Int) : Ext × Q := (Ext.ret, ⟨(tm 27 [(4, (AV.p (PV.int .i64 y.1))), (5, (AV.p (PV.int .i64 y.2)))]), (mm 27 [])⟩)
def Icloud_itemError_within_0a (q : Ext × S) : Int × Int := ((pP_int1 (pA_p (avT q.2 4))), (pP_int1 (pA_p (avT q.2 5))))
def Xcloud_itemError_within_0b (_y : Unit) : Ext × Q := (Ext.normal, ⟨(tm 27 []), (mm 27 [])⟩)
def Icloud_itemError_within_0b (_q : Ext × S) : Unit := ()
abbrev Ycloud_itemError_within_0 : Type := (Int × Int) ⊕ ((Unit))
def XLcloud_itemError_within_0 : XL Ycloud_itemError_within_0 := .more Xcloud_itemError_within_0a (.one Xcloud_itemError_within_0b)
def Icloud_itemError_within_0 (q : Ext × S) : Ycloud_itemError_within_0 := bif (cE q.1 == 2) then (Sum.inl (Icloud_itemError_within_0a q)) else (Sum.inr (Icloud_itemError_within_0b q))
theorem XIcloud_itemError_within_0a (y : Int × Int) : Icloud_itemError_within_0 (xe (Xcloud_itemError_within_0a y)) = (Sum.inl y) := rfl
theorem XIcloud_itemError_within_0b (y : Unit) : Icloud_itemError_within_0 (xe (Xcloud_itemError_within_0b y)) = (Sum.inr y) := rfl
theorem XIcloud_itemError_within_0 (y : Ycloud_itemError_within_0) : Icloud_itemError_within_0 (xe (XLcloud_itemError_within_0.fn y)) = y := (match y with | .inl y => XIcloud_itemError_within_0a y | .inr y => XIcloud_itemError_within_0b y)
noncomputable abbrev Lcloud_itemError_within_0 : Q → Option Ycloud_itemError_within_0 := lpO env a140.body 0 XLcloud_itemError_within_0
noncomputable abbrev Rcloud_itemError_within_0 : Q → Option (Ext × S) := lpR env a140.body 0
theorem Ucloud_itemError_within : uniq ((blocksOf a140.body).map (·.1)) = true := by kernel_rfl
def Bcloud_itemError_within_0a (F : FnT) (N : QO) (E : EO) (_L0 : Q → Option Ycloud_itemError_within_0) (n0 : Nat) (c1 : List PV) (i2 : Int) (i3 : Int) (n4 : Nat) (c5 : List PV) (i6 : Int) (i7 : Int) : Option (Ext × S) :=
  bif (decide (i7 < i6)) then
    bif (decide (((0 : Int) ≤ i7) ∧ (i7 < (n4 : Int)))) then
      bindO (intC .i64 (c5[((Int.toNat i7) * 1)]?)) fun x0 =>
      bif (decide (((0 : Int) ≤ i7) ∧ (i7 ≤ ((Prod.mk n0 c1).1 : Int)))) then
        bif (decide ((0 = (Int.toNat i7)) ∨ (((0 * 1) + (((Int.toNat i7) - 0) * 1)) ≤ (List.length c1)))) then
          bindO (F 111 (RSh.one (CK.int .i64)) [(PV.list ((Int.toNat i7) - 0) (List.take (((Int.toNat i7) - 0) * 1) (List.drop 0 c1))), (PV.int .i64 x0), (PV.imm [(PV.int .i64 i2)] 0), (PV.imm [(PV.int .i64 i3)] 0)]) fun (y1 : (Int)) =>
          bif (y1 != (0 : Int)) then
            E (Xcloud_itemError_within_0a (i7, y1))
          else N (Tcloud_itemError_within_0a n0 c1 i2 i3 n4 c5 i6 (w64 (i7 + (1 : Int))))
        else none
      else none
    else none
  else E (Xcloud_itemError_within_0b ())
theorem Bcloud_itemError_within_0a_eq (F : FnT) (N : QO) (E : EO) (L0 : Q → Option Ycloud_itemError_within_0) (n0 : Nat) (c1 : List PV) (i2 : Int) (i3 : Int) (n4 : Nat) (c5 : List PV) (i6 : Int) (i7 : Int) : semB (callP F Ecloud_itemError_within 20) s140 (loopT [⟨0, Ycloud_itemError_within_0, L0, XLcloud_itemError_within_0⟩]) 400 (blkIn a140.body 0) N E (Tcloud_itemError_within_0a n0 c1 i2 i3 n4 c5 i6 i7) = Bcloud_itemError_within_0a F N E L0 n0 c1 i2 i3 n4 c5 i6 i7 := by kernel_rfl
theorem Rcloud_itemError_within_0a_of  (n0 : Nat) (c1 : List PV) (i2 : Int) (i3 : Int) (n4 : Nat) (c5 : List PV) (i6 : Int) (i7 : Int) {r : Ext × S} (h : Bcloud_itemError_within_0a (Fn env) Rcloud_itemError_within_0 exO Lcloud_itemError_within_0 n0 c1 i2 i3 n4 c5 i6 i7 = some r) : Rcloud_itemError_within_0 (Tcloud_itemError_within_0a n0 c1 i2 i3 n4 c5 i6 i7) = some r :=
  lp_of Ecloud_itemError_within_ok (by kernel_rfl) (lo_cons (lpO_ok Ucloud_itemError_within) lo_nil) (by kernel_rfl) ((Bcloud_itemError_within_0a_eq _ _ _ _ _ _ _ _ _ _ _ _).trans h)
def tcloud_itemError_within (_F : FnT) (L0 : Q → Option Ycloud_itemError_within_0)(n : Nat) (cs : List PV) (lo hi : Int) : Option ((Int) × (Int)) :=
  bindO (L0 (Tcloud_itemError_within_0a n cs lo hi n cs (n : Int) (0 : Int))) fun z =>
  Sum.elim (fun y0 =>
    some (y0.1, y0.2)) (fun _y1 =>
    some ((0 : Int), (0 : Int))) z
theorem tcloud_itemError_within_eq (F : FnT) (L0 : Q → Option Ycloud_itemError_within_0)(n : Nat) (cs : List PV) (lo hi : Int) : semF (callP F Ecloud_itemError_within 20) s140 (loopT [⟨0, Ycloud_itemError_within_0, L0, XLcloud_itemError_within_0⟩]) 400 a140 [.list n cs, .fn 111 [.imm [.int .i64 lo] 0, .imm [.int .i64 hi] 0]] (fun rv => decR (RSh.tup [(Prod.mk false [(CK.int .i64)]), (Prod.mk false [(CK.int .i64)])]) rv.pv) = tcloud_itemError_within F L0 n cs lo hi := by kernel_rfl
noncomputable abbrev Fcloud_itemError_within (args : List PV) := Fn env 140 (RSh.tup [(Prod.mk false [(CK.int .i64)]), (Prod.mk false [(CK.int .i64)])]) args
theorem Fcloud_itemError_within_of (n : Nat) (cs : List PV) (lo hi : Int) {res : ((Int) × (Int))} (h : tcloud_itemError_within (Fn env) Lcloud_itemError_within_0 n cs lo hi = some res) : Fcloud_itemError_within [.list n cs, .fn 111 [.imm [.int .i64 lo] 0, .imm [.int .i64 hi] 0]] = some res :=
  fn_of Ecloud_itemError_within_ok rfl rfl (lo_cons (lpO_ok Ucloud_itemError_within) lo_nil) ((tcloud_itemError_within_eq _ _ _ _ _ _).trans h)
def Ecloud_listError_within : List Entry := [.out 140 (RSh.tup [(Prod.mk false [(CK.int .i64)]), (Prod.mk false [(CK.int .i64)])])]
theorem Ecloud_listError_within_ok : ∀ e ∈ Ecloud_listError_within, EntOK env e := (ent_out ent_nil)
def tcloud_listError_within (F : FnT)(n : Nat) (cs : List PV) (m lo hi : Int) : Option ((Int) × (Int)) :=
  bif (decide ((n : Int) > m)) then
    some ((0 : Int), (8 : Int))
  else bindO (F 140 (RSh.tup [(Prod.mk false [(CK.int .i64)]), (Prod.mk false [(CK.int .i64)])]) [(PV.list n cs), (PV.fn 111 [(PV.imm [(PV.int .i64 lo)] 0), (PV.imm [(PV.int .i64 hi)] 0)])]) fun (y0 : ((Int) × (Int))) =>
  some (y0.1, y0.2)
theorem tcloud_listError_within_eq (F : FnT)(n : Nat) (cs : List PV) (m lo hi : Int) : semF (callP F Ecloud_listError_within 20) s110 (loopT []) 400 a110 [.list n cs, .int .i64 m, .fn 111 [.imm [.int .i64 lo] 0, .imm [.int .i64 hi] 0]] (fun rv => decR (RSh.tup [(Prod.mk false [(CK.int .i64)]), (Prod.mk false [(CK.int .i64)])]) rv.pv) = tcloud_listError_within F n cs m lo hi := by kernel_rfl
noncomputable abbrev Fcloud_listError_within (args : List PV) := Fn env 110 (RSh.tup [(Prod.mk false [(CK.int .i64)]), (Prod.mk false [(CK.int .i64)])]) args
theorem Fcloud_listError_within_of (n : Nat) (cs : List PV) (m lo hi : Int) {res : ((Int) × (Int))} (h : tcloud_listError_within (Fn env) n cs m lo hi = some res) : Fcloud_listError_within [.list n cs, .int .i64 m, .fn 111 [.imm [.int .i64 lo] 0, .imm [.int .i64 hi] 0]] = some res :=
  fn_of Ecloud_listError_within_ok rfl rfl lo_nil ((tcloud_listError_within_eq _ _ _ _ _ _).trans h)
def Ecloud_filledError_within : List Entry := [.out 110 (RSh.tup [(Prod.mk false [(CK.int .i64)]), (Prod.mk false [(CK.int .i64)])])]
theorem Ecloud_filledError_within_ok : ∀ e ∈ Ecloud_filledError_within, EntOK env e := (ent_out ent_nil)
def tcloud_filledError_within (F : FnT)(n : Nat) (cs : List PV) (m lo hi : Int) : Option ((Int) × (Int)) :=
  bif ((n : Int) == (0 : Int)) then
    some ((0 : Int), (10 : Int))
  else bindO (F 110 (RSh.tup [(Prod.mk false [(CK.int .i64)]), (Prod.mk false [(CK.int .i64)])]) [(PV.list n cs), (PV.int .i64 m), (PV.fn 111 [(PV.imm [(PV.int .i64 lo)] 0), (PV.imm [(PV.int .i64 hi)] 0)])]) fun (y0 : ((Int) × (Int))) =>
  some (y0.1, y0.2)
theorem tcloud_filledError_within_eq (F : FnT)(n : Nat) (cs : List PV) (m lo hi : Int) : semF (callP F Ecloud_filledError_within 20) s60 (loopT []) 400 a60 [.list n cs, .int .i64 m, .fn 111 [.imm [.int .i64 lo] 0, .imm [.int .i64 hi] 0]] (fun rv => decR (RSh.tup [(Prod.mk false [(CK.int .i64)]), (Prod.mk false [(CK.int .i64)])]) rv.pv) = tcloud_filledError_within F n cs m lo hi := by kernel_rfl
noncomputable abbrev Fcloud_filledError_within (args : List PV) := Fn env 60 (RSh.tup [(Prod.mk false [(CK.int .i64)]), (Prod.mk false [(CK.int .i64)])]) args
theorem Fcloud_filledError_within_of (n : Nat) (cs : List PV) (m lo hi : Int) {res : ((Int) × (Int))} (h : tcloud_filledError_within (Fn env) n cs m lo hi = some res) : Fcloud_filledError_within [.list n cs, .int .i64 m, .fn 111 [.imm [.int .i64 lo] 0, .imm [.int .i64 hi] 0]] = some res :=
  fn_of Ecloud_filledError_within_ok rfl rfl lo_nil ((tcloud_filledError_within_eq _ _ _ _ _ _).trans h)
def Ecloud_CheckProfile : List Entry := [.inl 61 a61 s61, .out 60 (RSh.tup [(Prod.mk false [(CK.int .i64)]), (Prod.mk false [(CK.int .i64)])])]
theorem Ecloud_CheckProfile_ok : ∀ e ∈ Ecloud_CheckProfile, EntOK env e := (ent_inl rfl (ent_out ent_nil))
def tcloud_CheckProfile (F : FnT) (p0n : Nat) (p0c : List PV) : Option ((Int) × (Int)) :=
  bindO (F 60 (RSh.tup [(Prod.mk false [(CK.int .i64)]), (Prod.mk false [(CK.int .i64)])]) [(PV.list p0n p0c), (PV.int .i64 (24 : Int)), (PV.fn 111 [(PV.imm [(PV.int .i64 (0 : Int))] 0), (PV.imm [(PV.int .i64 (10000 : Int))] 0)])]) fun (y0 : ((Int) × (Int))) =>
  some (y0.1, y0.2)
theorem tcloud_CheckProfile_eq (F : FnT) (p0n : Nat) (p0c : List PV) : semF (callP F Ecloud_CheckProfile 20) s10 (loopT []) 400 a10 [PV.list p0n p0c] (fun rv => decR (RSh.tup [(Prod.mk false [(CK.int .i64)]), (Prod.mk false [(CK.int .i64)])]) rv.pv) = tcloud_CheckProfile F p0n p0c := by kernel_rfl
noncomputable abbrev Fcloud_CheckProfile (args : List PV) := Fn env 10 (RSh.tup [(Prod.mk false [(CK.int .i64)]), (Prod.mk false [(CK.int .i64)])]) args
theorem Fcloud_CheckProfile_of  (p0n : Nat) (p0c : List PV) {res : ((Int) × (Int))} (h : tcloud_CheckProfile (Fn env) p0n p0c = some res) : Fcloud_CheckProfile [PV.list p0n p0c] = some res :=
  fn_of Ecloud_CheckProfile_ok rfl rfl lo_nil ((tcloud_CheckProfile_eq _ _ _).trans h)
def Ecloud_profileError : List Entry := [.out 10 (RSh.tup [(Prod.mk false [(CK.int .i64)]), (Prod.mk false [(CK.int .i64)])])]
theorem Ecloud_profileError_ok : ∀ e ∈ Ecloud_profileError, EntOK env e := (ent_out ent_nil)
def tcloud_profileError (F : FnT) (p0n : Nat) (p0c : List PV) : Option (Int) :=
  bindO (F 10 (RSh.tup [(Prod.mk false [(CK.int .i64)]), (Prod.mk false [(CK.int .i64)])]) [(PV.list p0n p0c)]) fun (y0 : ((Int) × (Int))) =>
  some y0.2
theorem tcloud_profileError_eq (F : FnT) (p0n : Nat) (p0c : List PV) : semF (callP F Ecloud_profileError 20) s63 (loopT []) 400 a63 [PV.list p0n p0c] (fun rv => decR (RSh.one (CK.int .i64)) rv.pv) = tcloud_profileError F p0n p0c := by kernel_rfl
noncomputable abbrev Fcloud_profileError (args : List PV) := Fn env 63 (RSh.one (CK.int .i64)) args
theorem Fcloud_profileError_of  (p0n : Nat) (p0c : List PV) {res : (Int)} (h : tcloud_profileError (Fn env) p0n p0c = some res) : Fcloud_profileError [PV.list p0n p0c] = some res :=
  fn_of Ecloud_profileError_ok rfl rfl lo_nil ((tcloud_profileError_eq _ _ _).trans h)
def Ecloud_constantError : List Entry := [.out 69 (RSh.one (CK.int .i64))]
theorem Ecloud_constantError_ok : ∀ e ∈ Ecloud_constantError, EntOK env e := (ent_out ent_nil)
def tcloud_constantError (F : FnT) (p0 : Int) : Option (Int) :=
  bindO (F 69 (RSh.one (CK.int .i64)) [(PV.int .i64 p0), (PV.int .i64 (1 : Int)), (PV.int .i64 (1000000 : Int))]) fun (y0 : (Int)) =>
  some y0
theorem tcloud_constantError_eq (F : FnT) (p0 : Int) : semF (callP F Ecloud_constantError 20) s64 (loopT []) 400 a64 [PV.int .i64 p0] (fun rv => decR (RSh.one (CK.int .i64)) rv.pv) = tcloud_constantError F p0 := by kernel_rfl
noncomputable abbrev Fcloud_constantError (args : List PV) := Fn env 64 (RSh.one (CK.int .i64)) args
theorem Fcloud_constantError_of  (p0 : Int) {res : (Int)} (h : tcloud_constantError (Fn env) p0 = some res) : Fcloud_constantError [PV.int .i64 p0] = some res :=
  fn_of Ecloud_constantError_ok rfl rfl lo_nil ((tcloud_constantError_eq _ _).trans h)
def Eq_sum : List Entry := []
theorem Eq_sum_ok : ∀ e ∈ Eq_sum, EntOK env e := ent_nil
def Tq_sum_0a (i0 : Int) (n1 : Nat) (c2 : List PV) (i3 : Int) (i4 : Int) : Q := ⟨(tm 17 [(3, (AV.p (PV.int .i64 i0))), (6, (AV.p (PV.list n1 c2))), (7, (AV.p (PV.int .i64 i3))), (8, (AV.p (PV.int .i64 i4)))]), (mm 17 [])⟩
def Xq_sum_0a (y : Int) : Ext × Q := (Ext.normal, ⟨(tm 17 [(3, (AV.p (PV.int .i64 y)))]), (mm 17 [])⟩)
def Iq_sum_0a (q : Ext × S) : Int := (pP_int1 (pA_p (avT q.2 3)))
abbrev Yq_sum_0 : Type := Int
def XLq_sum_0 : XL Yq_sum_0 := .one Xq_sum_0a
def Iq_sum_0 (q : Ext × S) : Yq_sum_0 := (Iq_sum_0a q)
theorem XIq_sum_0a (y : Int) : Iq_sum_0 (xe (Xq_sum_0a y)) = y := rfl
theorem XIq_sum_0 (y : Yq_sum_0) : Iq_sum_0 (xe (XLq_sum_0.fn y)) = y := XIq_sum_0a y
noncomputable abbrev Lq_sum_0 : Q → Option Yq_sum_0 := lpO env a83.body 0 XLq_sum_0
noncomputable abbrev Rq_sum_0 : Q → Option (Ext × S) := lpR env a83.body 0
theorem Lq_sum_0a_of {s : Q} {y : Int} (h : Rq_sum_0 s = exO (Xq_sum_0a y)) : Lq_sum_0 s = some y := lpO_of Iq_sum_0 XIq_sum_0 (y := y) h
theorem Uq_sum : uniq ((blocksOf a83.body).map (·.1)) = true := by kernel_rfl
def Bq_sum_0a (_F : FnT) (N : QO) (E : EO) (_L0 : Q → Option Yq_sum_0) (i0 : Int) (n1 : Nat) (c2 : List PV) (i3 : Int) (i4 : Int) : Option (Ext × S) :=
  bif (decide (i4 < i3)) then
    bif (decide (((0 : Int) ≤ i4) ∧ (i4 < (n1 : Int)))) then
      bindO (intC .i64 (c2[((Int.toNat i4) * 1)]?)) fun x0 =>
      N (Tq_sum_0a (w64 (i0 + x0)) n1 c2 i3 (w64 (i4 + (1 : Int))))
    else none
  else E (Xq_sum_0a i0)
theorem Bq_sum_0a_eq (F : FnT) (N : QO) (E : EO) (L0 : Q → Option Yq_sum_0) (i0 : Int) (n1 : Nat) (c2 : List PV) (i3 : Int) (i4 : Int) : semB (callP F Eq_sum 20) s83 (loopT [⟨0, Yq_sum_0, L0, XLq_sum_0⟩]) 400 (blkIn a83.body 0) N E (Tq_sum_0a i0 n1 c2 i3 i4) = Bq_sum_0a F N E L0 i0 n1 c2 i3 i4 := by kernel_rfl
theorem Rq_sum_0a_of  (i0 : Int) (n1 : Nat) (c2 : List PV) (i3 : Int) (i4 : Int) {r : Ext × S} (h : Bq_sum_0a (Fn env) Rq_sum_0 exO Lq_sum_0 i0 n1 c2 i3 i4 = some r) : Rq_sum_0 (Tq_sum_0a i0 n1 c2 i3 i4) = some r :=
  lp_of Eq_sum_ok (by kernel_rfl) (lo_cons (lpO_ok Uq_sum) lo_nil) (by kernel_rfl) ((Bq_sum_0a_eq _ _ _ _ _ _ _ _ _).trans h)
def tq_sum (_F : FnT) (L0 : Q → Option Yq_sum_0) (p0n : Nat) (p0c : List PV) : Option (Int) :=
  bindO (L0 (Tq_sum_0a (0 : Int) p0n p0c (p0n : Int) (0 : Int))) fun y0 =>
  some y0
theorem tq_sum_eq (F : FnT) (L0 : Q → Option Yq_sum_0) (p0n : Nat) (p0c : List PV) : semF (callP F Eq_sum 20) s83 (loopT [⟨0, Yq_sum_0, L0, XLq_sum_0⟩]) 400 a83 [PV.list p0n p0c] (fun rv => decR (RSh.one (CK.int .i64)) rv.pv) = tq_sum F L0 p0n p0c := by kernel_rfl
noncomputable abbrev Fq_sum (args : List PV) := Fn env 83 (RSh.one (CK.int .i64)) args
theorem Fq_sum_of  (p0n : Nat) (p0c : List PV) {res : (Int)} (h : tq_sum (Fn env) Lq_sum_0 p0n p0c = some res) : Fq_sum [PV.list p0n p0c] = some res :=
  fn_of Eq_sum_ok rfl rfl (lo_cons (lpO_ok Uq_sum) lo_nil) ((tq_sum_eq _ _ _ _).trans h)
def Eq_restBefore : List Entry := [.out 83 (RSh.one (CK.int .i64))]
theorem Eq_restBefore_ok : ∀ e ∈ Eq_restBefore, EntOK env e := (ent_out ent_nil)
def tq_restBefore (F : FnT) (p0n : Nat) (p0c : List PV) (p1 : Int) (p2 : Int) : Option (Int) :=
  bif (decide (((0 : Int) ≤ p1) ∧ (p1 ≤ ((Prod.mk p0n p0c).1 : Int)))) then
    bif (decide ((0 = (Int.toNat p1)) ∨ (((0 * 1) + (((Int.toNat p1) - 0) * 1)) ≤ (List.length p0c)))) then
      bindO (F 83 (RSh.one (CK.int .i64)) [(PV.list ((Int.toNat p1) - 0) (List.take (((Int.toNat p1) - 0) * 1) (List.drop 0 p0c)))]) fun (y0 : (Int)) =>
      some (w64 (p2 - y0))
    else none
  else none
theorem tq_restBefore_eq (F : FnT) (p0n : Nat) (p0c : List PV) (p1 : Int) (p2 : Int) : semF (callP F Eq_restBefore 20) s84 (loopT []) 400 a84 [PV.list p0n p0c, PV.int .i64 p1, PV.int .i64 p2] (fun rv => decR (RSh.one (CK.int .i64)) rv.pv) = tq_restBefore F p0n p0c p1 p2 := by kernel_rfl
noncomputable abbrev Fq_restBefore (args : List PV) := Fn env 84 (RSh.one (CK.int .i64)) args
theorem Fq_restBefore_of  (p0n : Nat) (p0c : List PV) (p1 : Int) (p2 : Int) {res : (Int)} (h : tq_restBefore (Fn env) p0n p0c p1 p2 = some res) : Fq_restBefore [PV.list p0n p0c, PV.int .i64 p1, PV.int .i64 p2] = some res :=
  fn_of Eq_restBefore_ok rfl rfl lo_nil ((tq_restBefore_eq _ _ _ _ _).trans h)
def Eq_breakError : List Entry := [.out 83 (RSh.one (CK.int .i64)), .out 71 (RSh.one (CK.int .i64)), .out 84 (RSh.one (CK.int .i64))]
theorem Eq_breakError_ok : ∀ e ∈ Eq_breakError, EntOK env e := (ent_out (ent_out (ent_out ent_nil)))
def tq_breakError (F : FnT) (p0n : Nat) (p0c : List PV) (p1 : Int) : Option (Int) :=
  bindO (F 83 (RSh.one (CK.int .i64)) [(PV.list p0n p0c)]) fun (y0 : (Int)) =>
  bif (decide (y0 > p1)) then
    bindO (F 71 (RSh.one (CK.int .i64)) [(PV.bool true), (PV.int .i64 (20 : Int))]) fun (y1 : (Int)) =>
    some y1
  else bindO (F 84 (RSh.one (CK.int .i64)) [(PV.list p0n p0c), (PV.int .i64 (w64 ((p0n : Int) - (1 : Int)))), (PV.int .i64 p1)]) fun (y2 : (Int)) =>
  bif (y2 == (0 : Int)) then
    bindO (F 71 (RSh.one (CK.int .i64)) [(PV.bool true), (PV.int .i64 (20 : Int))]) fun (y3 : (Int)) =>
    some y3
  else bindO (F 71 (RSh.one (CK.int .i64)) [(PV.bool false), (PV.int .i64 (20 : Int))]) fun (y4 : (Int)) =>
  some y4
theorem tq_breakError_eq (F : FnT) (p0n : Nat) (p0c : List PV) (p1 : Int) : semF (callP F Eq_breakError 20) s65 (loopT []) 400 a65 [PV.list p0n p0c, PV.int .i64 p1] (fun rv => decR (RSh.one (CK.int .i64)) rv.pv) = tq_breakError F p0n p0c p1 := by kernel_rfl
noncomputable abbrev Fq_breakError (args : List PV) := Fn env 65 (RSh.one (CK.int .i64)) args
theorem Fq_breakError_of  (p0n : Nat) (p0c : List PV) (p1 : Int) {res : (Int)} (h : tq_breakError (Fn env) p0n p0c p1 = some res) : Fq_breakError [PV.list p0n p0c, PV.int .i64 p1] = some res :=
  fn_of Eq_breakError_ok rfl rfl lo_nil ((tq_breakError_eq _ _ _ _).trans h)
def Ecloud_divisorOf : List Entry := []
theorem Ecloud_divisorOf_ok : ∀ e ∈ Ecloud_divisorOf, EntOK env e := ent_nil
def Tcloud_divisorOf_0a (i0 : Int) (i1 : Int) : Q := ⟨(tm 15 [(0, (AV.p (PV.int .i64 i0))), (1, (AV.p (PV.int .i64 i1)))]), (mm 15 [])⟩
def Xcloud_divisorOf_0a (y : Int) : Ext × Q := (Ext.normal, ⟨(tm 15 [(0, (AV.p (PV.int .i64 y)))]), (mm 15 [])⟩)
def Icloud_divisorOf_0a (q : Ext × S) : Int := (pP_int1 (pA_p (avT q.2 0)))
abbrev Ycloud_divisorOf_0 : Type := Int
def XLcloud_divisorOf_0 : XL Ycloud_divisorOf_0 := .one Xcloud_divisorOf_0a
def Icloud_divisorOf_0 (q : Ext × S) : Ycloud_divisorOf_0 := (Icloud_divisorOf_0a q)
theorem XIcloud_divisorOf_0a (y : Int) : Icloud_divisorOf_0 (xe (Xcloud_divisorOf_0a y)) = y := rfl
theorem XIcloud_divisorOf_0 (y : Ycloud_divisorOf_0) : Icloud_divisorOf_0 (xe (XLcloud_divisorOf_0.fn y)) = y := XIcloud_divisorOf_0a y
noncomputable abbrev Lcloud_divisorOf_0 : Q → Option Ycloud_divisorOf_0 := lpO env a116.body 0 XLcloud_divisorOf_0
noncomputable abbrev Rcloud_divisorOf_0 : Q → Option (Ext × S) := lpR env a116.body 0
theorem Lcloud_divisorOf_0a_of {s : Q} {y : Int} (h : Rcloud_divisorOf_0 s = exO (Xcloud_divisorOf_0a y)) : Lcloud_divisorOf_0 s = some y := lpO_of Icloud_divisorOf_0 XIcloud_divisorOf_0 (y := y) h
theorem Ucloud_divisorOf : uniq ((blocksOf a116.body).map (·.1)) = true := by kernel_rfl
def Bcloud_divisorOf_0a (_F : FnT) (N : QO) (E : EO) (_L0 : Q → Option Ycloud_divisorOf_0) (i0 : Int) (i1 : Int) : Option (Ext × S) :=
  bif (i1 != (0 : Int)) then
    bif (decide (i1 ≠ (0 : Int))) then
      N (Tcloud_divisorOf_0a i1 (Int.tmod i0 i1))
    else none
  else E (Xcloud_divisorOf_0a i0)
theorem Bcloud_divisorOf_0a_eq (F : FnT) (N : QO) (E : EO) (L0 : Q → Option Ycloud_divisorOf_0) (i0 : Int) (i1 : Int) : semB (callP F Ecloud_divisorOf 20) s116 (loopT [⟨0, Ycloud_divisorOf_0, L0, XLcloud_divisorOf_0⟩]) 400 (blkIn a116.body 0) N E (Tcloud_divisorOf_0a i0 i1) = Bcloud_divisorOf_0a F N E L0 i0 i1 := by kernel_rfl
theorem Rcloud_divisorOf_0a_of  (i0 : Int) (i1 : Int) {r : Ext × S} (h : Bcloud_divisorOf_0a (Fn env) Rcloud_divisorOf_0 exO Lcloud_divisorOf_0 i0 i1 = some r) : Rcloud_divisorOf_0 (Tcloud_divisorOf_0a i0 i1) = some r :=
  lp_of Ecloud_divisorOf_ok (by kernel_rfl) (lo_cons (lpO_ok Ucloud_divisorOf) lo_nil) (by kernel_rfl) ((Bcloud_divisorOf_0a_eq _ _ _ _ _ _).trans h)
def tcloud_divisorOf (_F : FnT) (L0 : Q → Option Ycloud_divisorOf_0) (p0 : Int) (p1 : Int) : Option (Int) :=
  bindO (L0 (Tcloud_divisorOf_0a p0 p1)) fun y0 =>
  some (if ((w64 ((0 : Int) - y0)) > y0) then (w64 ((0 : Int) - y0)) else y0)
theorem tcloud_divisorOf_eq (F : FnT) (L0 : Q → Option Ycloud_divisorOf_0) (p0 : Int) (p1 : Int) : semF (callP F Ecloud_divisorOf 20) s116 (loopT [⟨0, Ycloud_divisorOf_0, L0, XLcloud_divisorOf_0⟩]) 400 a116 [PV.int .i64 p0, PV.int .i64 p1] (fun rv => decR (RSh.one (CK.int .i64)) rv.pv) = tcloud_divisorOf F L0 p0 p1 := by kernel_rfl
noncomputable abbrev Fcloud_divisorOf (args : List PV) := Fn env 116 (RSh.one (CK.int .i64)) args
theorem Fcloud_divisorOf_of  (p0 : Int) (p1 : Int) {res : (Int)} (h : tcloud_divisorOf (Fn env) Lcloud_divisorOf_0 p0 p1 = some res) : Fcloud_divisorOf [PV.int .i64 p0, PV.int .i64 p1] = some res :=
  fn_of Ecloud_divisorOf_ok rfl rfl (lo_cons (lpO_ok Ucloud_divisorOf) lo_nil) ((tcloud_divisorOf_eq _ _ _ _).trans h)
def Ecloud_lowest : List Entry := [.out 116 (RSh.one (CK.int .i64))]
theorem Ecloud_lowest_ok : ∀ e ∈ Ecloud_lowest, EntOK env e := (ent_out ent_nil)
def tcloud_lowest (F : FnT) (p0 : Int) (p1 : Int) : Option ((Int) × (Int)) :=
  bindO (F 116 (RSh.one (CK.int .i64)) [(PV.int .i64 p0), (PV.int .i64 p1)]) fun (y0 : (Int)) =>
  bif (decide (y0 ≠ (0 : Int))) then
    bif (decide (y0 ≠ (0 : Int))) then
      some ((w64 (Int.tdiv p0 y0)), (w64 (Int.tdiv p1 y0)))
    else none
  else none
theorem tcloud_lowest_eq (F : FnT) (p0 : Int) (p1 : Int) : semF (callP F Ecloud_lowest 20) s112 (loopT []) 400 a112 [PV.int .i64 p0, PV.int .i64 p1] (fun rv => decR (RSh.agg [(CK.int .i64), (CK.int .i64)]) rv.pv) = tcloud_lowest F p0 p1 := by kernel_rfl
noncomputable abbrev Fcloud_lowest (args : List PV) := Fn env 112 (RSh.agg [(CK.int .i64), (CK.int .i64)]) args
theorem Fcloud_lowest_of  (p0 : Int) (p1 : Int) {res : ((Int) × (Int))} (h : tcloud_lowest (Fn env) p0 p1 = some res) : Fcloud_lowest [PV.int .i64 p0, PV.int .i64 p1] = some res :=
  fn_of Ecloud_lowest_ok rfl rfl lo_nil ((tcloud_lowest_eq _ _ _).trans h)
def Eq_shares : List Entry := [.out 84 (RSh.one (CK.int .i64)), .out 112 (RSh.agg [(CK.int .i64), (CK.int .i64)])]
theorem Eq_shares_ok : ∀ e ∈ Eq_shares, EntOK env e := (ent_out (ent_out ent_nil))
def Tq_shares_0a (n0 : Nat) (c1 : List PV) (i2 : Int) (n3 : Nat) (n4 : Nat) (c5 : List PV) (i6 : Int) (i7 : Int) (c8 : List PV) : Q := ⟨(tm 29 [(0, (AV.p (PV.list n0 c1))), (1, (AV.p (PV.int .i64 i2))), (5, (AV.msl 10 0 n3 2)), (11, (AV.p (PV.list n4 c5))), (12, (AV.p (PV.int .i64 i6))), (13, (AV.p (PV.int .i64 i7)))]), (mm 29 [(10, (Bk.pcs true c8))])⟩
def Xq_shares_0a (y : Nat × List PV) : Ext × Q := (Ext.normal, ⟨(tm 29 [(5, (AV.msl 10 0 y.1 2))]), (mm 29 [(10, (Bk.pcs true y.2))])⟩)
def Iq_shares_0a (q : Ext × S) : Nat × List PV := ((pA_msl2 (avT q.2 5)), (pB_pcs1 (avM q.2 10)))
abbrev Yq_shares_0 : Type := Nat × List PV
def XLq_shares_0 : XL Yq_shares_0 := .one Xq_shares_0a
def Iq_shares_0 (q : Ext × S) : Yq_shares_0 := (Iq_shares_0a q)
theorem XIq_shares_0a (y : Nat × List PV) : Iq_shares_0 (xe (Xq_shares_0a y)) = y := (show Iq_shares_0 (xe (Xq_shares_0a y)) = (y.1, ((y.2.map AV.p).map pA_p)) from rfl).trans (by simp only [map_back])
theorem XIq_shares_0 (y : Yq_shares_0) : Iq_shares_0 (xe (XLq_shares_0.fn y)) = y := XIq_shares_0a y
noncomputable abbrev Lq_shares_0 : Q → Option Yq_shares_0 := lpO env a66.body 0 XLq_shares_0
noncomputable abbrev Rq_shares_0 : Q → Option (Ext × S) := lpR env a66.body 0
theorem Lq_shares_0a_of {s : Q} {y : Nat × List PV} (h : Rq_shares_0 s = exO (Xq_shares_0a y)) : Lq_shares_0 s = some y := lpO_of Iq_shares_0 XIq_shares_0 (y := y) h
theorem Uq_shares : uniq ((blocksOf a66.body).map (·.1)) = true := by kernel_rfl
def Bq_shares_0a (F : FnT) (N : QO) (E : EO) (_L0 : Q → Option Yq_shares_0) (n0 : Nat) (c1 : List PV) (i2 : Int) (n3 : Nat) (n4 : Nat) (c5 : List PV) (i6 : Int) (i7 : Int) (c8 : List PV) : Option (Ext × S) :=
  bif (decide (i7 < i6)) then
    bif (decide (((0 : Int) ≤ i7) ∧ (i7 < (n4 : Int)))) then
      bindO (intC .i64 (c5[((Int.toNat i7) * 1)]?)) fun x0 =>
      bindO (F 84 (RSh.one (CK.int .i64)) [(PV.list n0 c1), (PV.int .i64 i7), (PV.int .i64 i2)]) fun (y1 : (Int)) =>
      bindO (F 112 (RSh.agg [(CK.int .i64), (CK.int .i64)]) [(PV.int .i64 x0), (PV.int .i64 y1)]) fun (y2 : ((Int) × (Int))) =>
      bif (decide (((0 : Int) ≤ i7) ∧ (i7 < (n3 : Int)))) then
        bindO (Gv.overO c8 (0 + ((Int.toNat i7) * 2)) [(PV.int .i64 y2.1), (PV.int .i64 y2.2)]) fun x3 =>
        N (Tq_shares_0a n0 c1 i2 n3 n4 c5 i6 (w64 (i7 + (1 : Int))) x3)
      else none
    else none
  else E (Xq_shares_0a (n3, c8))
theorem Bq_shares_0a_eq (F : FnT) (N : QO) (E : EO) (L0 : Q → Option Yq_shares_0) (n0 : Nat) (c1 : List PV) (i2 : Int) (n3 : Nat) (n4 : Nat) (c5 : List PV) (i6 : Int) (i7 : Int) (c8 : List PV) : semB (callP F Eq_shares 20) s66 (loopT [⟨0, Yq_shares_0, L0, XLq_shares_0⟩]) 400 (blkIn a66.body 0) N E (Tq_shares_0a n0 c1 i2 n3 n4 c5 i6 i7 c8) = Bq_shares_0a F N E L0 n0 c1 i2 n3 n4 c5 i6 i7 c8 := by kernel_rfl
theorem Rq_shares_0a_of  (n0 : Nat) (c1 : List PV) (i2 : Int) (n3 : Nat) (n4 : Nat) (c5 : List PV) (i6 : Int) (i7 : Int) (c8 : List PV) {r : Ext × S} (h : Bq_shares_0a (Fn env) Rq_shares_0 exO Lq_shares_0 n0 c1 i2 n3 n4 c5 i6 i7 c8 = some r) : Rq_shares_0 (Tq_shares_0a n0 c1 i2 n3 n4 c5 i6 i7 c8) = some r :=
  lp_of Eq_shares_ok (by kernel_rfl) (lo_cons (lpO_ok Uq_shares) lo_nil) (by kernel_rfl) ((Bq_shares_0a_eq _ _ _ _ _ _ _ _ _ _ _ _ _).trans h)
def tq_shares (_F : FnT) (L0 : Q → Option Yq_shares_0) (p0n : Nat) (p0c : List PV) (p1 : Int) : Option ((Nat) × (List PV)) :=
  bif (decide (((p0n : Int) = (p0n : Int)) ∧ (((0 : Int) ≤ (p0n : Int)) ∧ ((p0n : Int) ≤ (big : Int))))) then
    bindO (L0 (Tq_shares_0a p0n p0c p1 (Int.toNat (p0n : Int)) p0n p0c (p0n : Int) (0 : Int) (rep [(PV.int .i64 (0 : Int)), (PV.int .i64 (0 : Int))] (Int.toNat (p0n : Int))))) fun y0 =>
    bif (decide ((0 + (y0.1 * 2)) ≤ (List.length y0.2))) then
      some (y0.1, (List.take (y0.1 * 2) (List.drop 0 y0.2)))
    else none
  else none
theorem tq_shares_eq (F : FnT) (L0 : Q → Option Yq_shares_0) (p0n : Nat) (p0c : List PV) (p1 : Int) : semF (callP F Eq_shares 20) s66 (loopT [⟨0, Yq_shares_0, L0, XLq_shares_0⟩]) 400 a66 [PV.list p0n p0c, PV.int .i64 p1] (fun rv => decR (RSh.one CK.list) rv.pv) = tq_shares F L0 p0n p0c p1 := by kernel_rfl
noncomputable abbrev Fq_shares (args : List PV) := Fn env 66 (RSh.one CK.list) args
theorem Fq_shares_of  (p0n : Nat) (p0c : List PV) (p1 : Int) {res : ((Nat) × (List PV))} (h : tq_shares (Fn env) Lq_shares_0 p0n p0c p1 = some res) : Fq_shares [PV.list p0n p0c, PV.int .i64 p1] = some res :=
  fn_of Eq_shares_ok rfl rfl (lo_cons (lpO_ok Uq_shares) lo_nil) ((tq_shares_eq _ _ _ _ _).trans h)
def Er_CheckProfile : List Entry := [.out 31 (RSh.one CK.bool)]
theorem Er_CheckProfile_ok : ∀ e ∈ Er_CheckProfile, EntOK env e := (ent_out ent_nil)
def Tr_CheckProfile_0a (n0 : Nat) (c1 : List PV) (i2 : Int) : Q := ⟨(tm 24 [(0, (AV.p (PV.list n0 c1))), (4, (AV.p (PV.int .i64 i2)))]), (mm 24 [])⟩
def Xr_CheckProfile_0a (y : Int) : Ext × Q := (Ext.ret, ⟨(tm 24 [(2, (AV.p (PV.int .i64 y))), (3, (AV.p (PV.int .i64 (2 : Int))))]), (mm 24 [])⟩)
def Ir_CheckProfile_0a (q : Ext × S) : Int := (pP_int1 (pA_p (avT q.2 2)))
def Xr_CheckProfile_0b (_y : Unit) : Ext × Q := (Ext.normal, ⟨(tm 24 []), (mm 24 [])⟩)
def Ir_CheckProfile_0b (_q : Ext × S) : Unit := ()
abbrev Yr_CheckProfile_0 : Type := (Int) ⊕ ((Unit))
def XLr_CheckProfile_0 : XL Yr_CheckProfile_0 := .more Xr_CheckProfile_0a (.one Xr_CheckProfile_0b)
def Ir_CheckProfile_0 (q : Ext × S) : Yr_CheckProfile_0 := bif (cE q.1 == 2) then (Sum.inl (Ir_CheckProfile_0a q)) else (Sum.inr (Ir_CheckProfile_0b q))
theorem XIr_CheckProfile_0a (y : Int) : Ir_CheckProfile_0 (xe (Xr_CheckProfile_0a y)) = (Sum.inl y) := rfl
theorem XIr_CheckProfile_0b (y : Unit) : Ir_CheckProfile_0 (xe (Xr_CheckProfile_0b y)) = (Sum.inr y) := rfl
theorem XIr_CheckProfile_0 (y : Yr_CheckProfile_0) : Ir_CheckProfile_0 (xe (XLr_CheckProfile_0.fn y)) = y := (match y with | .inl y => XIr_CheckProfile_0a y | .inr y => XIr_CheckProfile_0b y)
noncomputable abbrev Lr_CheckProfile_0 : Q → Option Yr_CheckProfile_0 := lpO env a15.body 0 XLr_CheckProfile_0
noncomputable abbrev Rr_CheckProfile_0 : Q → Option (Ext × S) := lpR env a15.body 0
theorem Lr_CheckProfile_0a_of {s : Q} {y : Int} (h : Rr_CheckProfile_0 s = exO (Xr_CheckProfile_0a y)) : Lr_CheckProfile_0 s = some (Sum.inl y) := lpO_of Ir_CheckProfile_0 XIr_CheckProfile_0 (y := (Sum.inl y)) h
theorem Lr_CheckProfile_0b_of {s : Q} {y : Unit} (h : Rr_CheckProfile_0 s = exO (Xr_CheckProfile_0b y)) : Lr_CheckProfile_0 s = some (Sum.inr y) := lpO_of Ir_CheckProfile_0 XIr_CheckProfile_0 (y := (Sum.inr y)) h
theorem Ur_CheckProfile : uniq ((blocksOf a15.body).map (·.1)) = true := by kernel_rfl
def Br_CheckProfile_0a (F : FnT) (N : QO) (E : EO) (_L0 : Q → Option Yr_CheckProfile_0) (n0 : Nat) (c1 : List PV) (i2 : Int) : Option (Ext × S) :=
  bif (decide (i2 < (n0 : Int))) then
    bif (decide (((0 : Int) ≤ i2) ∧ (i2 < (n0 : Int)))) then
      bindO (intC .i64 (c1[((Int.toNat i2) * 1)]?)) fun x0 =>
      bindO (F 31 (RSh.one CK.bool) [(PV.int .i64 x0), (PV.int .i64 (0 : Int)), (PV.int .i64 (10000 : Int))]) fun (y1 : (Bool)) =>
      bif y1 then
        N (Tr_CheckProfile_0a n0 c1 (w64 (i2 + (1 : Int))))
      else E (Xr_CheckProfile_0a i2)
    else none
  else E (Xr_CheckProfile_0b ())
theorem Br_CheckProfile_0a_eq (F : FnT) (N : QO) (E : EO) (L0 : Q → Option Yr_CheckProfile_0) (n0 : Nat) (c1 : List PV) (i2 : Int) : semB (callP F Er_CheckProfile 20) s15 (loopT [⟨0, Yr_CheckProfile_0, L0, XLr_CheckProfile_0⟩]) 400 (blkIn a15.body 0) N E (Tr_CheckProfile_0a n0 c1 i2) = Br_CheckProfile_0a F N E L0 n0 c1 i2 := by kernel_rfl
theorem Rr_CheckProfile_0a_of  (n0 : Nat) (c1 : List PV) (i2 : Int) {r : Ext × S} (h : Br_CheckProfile_0a (Fn env) Rr_CheckProfile_0 exO Lr_CheckProfile_0 n0 c1 i2 = some r) : Rr_CheckProfile_0 (Tr_CheckProfile_0a n0 c1 i2) = some r :=
  lp_of Er_CheckProfile_ok (by kernel_rfl) (lo_cons (lpO_ok Ur_CheckProfile) lo_nil) (by kernel_rfl) ((Br_CheckProfile_0a_eq _ _ _ _ _ _ _).trans h)
def tr_CheckProfile (_F : FnT) (L0 : Q → Option Yr_CheckProfile_0) (p0n : Nat) (p0c : List PV) : Option ((Int) × (Int)) :=
  bif ((p0n : Int) == (0 : Int)) then
    some ((0 : Int), (10 : Int))
  else bif (decide ((p0n : Int) > (24 : Int))) then
    some ((0 : Int), (8 : Int))
  else bindO (L0 (Tr_CheckProfile_0a p0n p0c (0 : Int))) fun z =>
  Sum.elim (fun y0 =>
    some (y0, (2 : Int))) (fun _y1 =>
    some ((0 : Int), (0 : Int))) z
theorem tr_CheckProfile_eq (F : FnT) (L0 : Q → Option Yr_CheckProfile_0) (p0n : Nat) (p0c : List PV) : semF (callP F Er_CheckProfile 20) s15 (loopT [⟨0, Yr_CheckProfile_0, L0, XLr_CheckProfile_0⟩]) 400 a15 [PV.list p0n p0c] (fun rv => decR (RSh.tup [(Prod.mk false [(CK.int .i64)]), (Prod.mk false [(CK.int .i64)])]) rv.pv) = tr_CheckProfile F L0 p0n p0c := by kernel_rfl
noncomputable abbrev Fr_CheckProfile (args : List PV) := Fn env 15 (RSh.tup [(Prod.mk false [(CK.int .i64)]), (Prod.mk false [(CK.int .i64)])]) args
theorem Fr_CheckProfile_of  (p0n : Nat) (p0c : List PV) {res : ((Int) × (Int))} (h : tr_CheckProfile (Fn env) Lr_CheckProfile_0 p0n p0c = some res) : Fr_CheckProfile [PV.list p0n p0c] = some res :=
  fn_of Er_CheckProfile_ok rfl rfl (lo_cons (lpO_ok Ur_CheckProfile) lo_nil) ((tr_CheckProfile_eq _ _ _ _).trans h)
def Er_ProfileErr : List Entry := [.out 15 (RSh.tup [(Prod.mk false [(CK.int .i64)]), (Prod.mk false [(CK.int .i64)])])]
theorem Er_ProfileErr_ok : ∀ e ∈ Er_ProfileErr, EntOK env e := (ent_out ent_nil)
def tr_ProfileErr (F : FnT) (p0n : Nat) (p0c : List PV) : Option (Int) :=
  bindO (F 15 (RSh.tup [(Prod.mk false [(CK.int .i64)]), (Prod.mk false [(CK.int .i64)])]) [(PV.list p0n p0c)]) fun (y0 : ((Int) × (Int))) =>
  some y0.2
theorem tr_ProfileErr_eq (F : FnT) (p0n : Nat) (p0c : List PV) : semF (callP F Er_ProfileErr 20) s26 (loopT []) 400 a26 [PV.list p0n p0c] (fun rv => decR (RSh.one (CK.int .i64)) rv.pv) = tr_ProfileErr F p0n p0c := by kernel_rfl
noncomputable abbrev Fr_ProfileErr (args : List PV) := Fn env 26 (RSh.one (CK.int .i64)) args
theorem Fr_ProfileErr_of  (p0n : Nat) (p0c : List PV) {res : (Int)} (h : tr_ProfileErr (Fn env) p0n p0c = some res) : Fr_ProfileErr [PV.list p0n p0c] = some res :=
  fn_of Er_ProfileErr_ok rfl rfl lo_nil ((tr_ProfileErr_eq _ _ _).trans h)
def Er_ConstantErr : List Entry := [.out 31 (RSh.one CK.bool)]
theorem Er_ConstantErr_ok : ∀ e ∈ Er_ConstantErr, EntOK env e := (ent_out ent_nil)
def tr_ConstantErr (F : FnT) (p0 : Int) : Option (Int) :=
  bindO (F 31 (RSh.one CK.bool) [(PV.int .i64 p0), (PV.int .i64 (1 : Int)), (PV.int .i64 (1000000 : Int))]) fun (y0 : (Bool)) =>
  bif y0 then
    some (0 : Int)
  else some (2 : Int)
theorem tr_ConstantErr_eq (F : FnT) (p0 : Int) : semF (callP F Er_ConstantErr 20) s17 (loopT []) 400 a17 [PV.int .i64 p0] (fun rv => decR (RSh.one (CK.int .i64)) rv.pv) = tr_ConstantErr F p0 := by kernel_rfl
noncomputable abbrev Fr_ConstantErr (args : List PV) := Fn env 17 (RSh.one (CK.int .i64)) args
theorem Fr_ConstantErr_of  (p0 : Int) {res : (Int)} (h : tr_ConstantErr (Fn env) p0 = some res) : Fr_ConstantErr [PV.int .i64 p0] = some res :=
  fn_of Er_ConstantErr_ok rfl rfl lo_nil ((tr_ConstantErr_eq _ _).trans h)
def Er_Rest : List Entry := []
theorem Er_Rest_ok : ∀ e ∈ Er_Rest, EntOK env e := ent_nil
def Tr_Rest_0a (n0 : Nat) (c1 : List PV) (i2 : Int) (i3 : Int) (i4 : Int) : Q := ⟨(tm 20 [(0, (AV.p (PV.list n0 c1))), (1, (AV.p (PV.int .i64 i2))), (2, (AV.p (PV.int .i64 i3))), (7, (AV.p (PV.int .i64 i4)))]), (mm 20 [])⟩
def Xr_Rest_0a (y : Int) : Ext × Q := (Ext.normal, ⟨(tm 20 [(1, (AV.p (PV.int .i64 y)))]), (mm 20 [])⟩)
def Ir_Rest_0a (q : Ext × S) : Int := (pP_int1 (pA_p (avT q.2 1)))
abbrev Yr_Rest_0 : Type := Int
def XLr_Rest_0 : XL Yr_Rest_0 := .one Xr_Rest_0a
def Ir_Rest_0 (q : Ext × S) : Yr_Rest_0 := (Ir_Rest_0a q)
theorem XIr_Rest_0a (y : Int) : Ir_Rest_0 (xe (Xr_Rest_0a y)) = y := rfl
theorem XIr_Rest_0 (y : Yr_Rest_0) : Ir_Rest_0 (xe (XLr_Rest_0.fn y)) = y := XIr_Rest_0a y
noncomputable abbrev Lr_Rest_0 : Q → Option Yr_Rest_0 := lpO env a38.body 0 XLr_Rest_0
noncomputable abbrev Rr_Rest_0 : Q → Option (Ext × S) := lpR env a38.body 0
theorem Lr_Rest_0a_of {s : Q} {y : Int} (h : Rr_Rest_0 s = exO (Xr_Rest_0a y)) : Lr_Rest_0 s = some y := lpO_of Ir_Rest_0 XIr_Rest_0 (y := y) h
theorem Ur_Rest : uniq ((blocksOf a38.body).map (·.1)) = true := by kernel_rfl
def Br_Rest_0a (_F : FnT) (N : QO) (E : EO) (_L0 : Q → Option Yr_Rest_0) (n0 : Nat) (c1 : List PV) (i2 : Int) (i3 : Int) (i4 : Int) : Option (Ext × S) :=
  bif (decide (i4 < i3)) then
    bif (decide (((0 : Int) ≤ i4) ∧ (i4 < (n0 : Int)))) then
      bindO (intC .i64 (c1[((Int.toNat i4) * 1)]?)) fun x0 =>
      N (Tr_Rest_0a n0 c1 (w64 (i2 - x0)) i3 (w64 (i4 + (1 : Int))))
    else none
  else E (Xr_Rest_0a i2)
theorem Br_Rest_0a_eq (F : FnT) (N : QO) (E : EO) (L0 : Q → Option Yr_Rest_0) (n0 : Nat) (c1 : List PV) (i2 : Int) (i3 : Int) (i4 : Int) : semB (callP F Er_Rest 20) s38 (loopT [⟨0, Yr_Rest_0, L0, XLr_Rest_0⟩]) 400 (blkIn a38.body 0) N E (Tr_Rest_0a n0 c1 i2 i3 i4) = Br_Rest_0a F N E L0 n0 c1 i2 i3 i4 := by kernel_rfl
theorem Rr_Rest_0a_of  (n0 : Nat) (c1 : List PV) (i2 : Int) (i3 : Int) (i4 : Int) {r : Ext × S} (h : Br_Rest_0a (Fn env) Rr_Rest_0 exO Lr_Rest_0 n0 c1 i2 i3 i4 = some r) : Rr_Rest_0 (Tr_Rest_0a n0 c1 i2 i3 i4) = some r :=
  lp_of Er_Rest_ok (by kernel_rfl) (lo_cons (lpO_ok Ur_Rest) lo_nil) (by kernel_rfl) ((Br_Rest_0a_eq _ _ _ _ _ _ _ _ _).trans h)
def tr_Rest (_F : FnT) (L0 : Q → Option Yr_Rest_0) (p0n : Nat) (p0c : List PV) (p1 : Int) (p2 : Int) : Option (Int) :=
  bindO (L0 (Tr_Rest_0a p0n p0c p1 p2 (0 : Int))) fun y0 =>
  some y0
theorem tr_Rest_eq (F : FnT) (L0 : Q → Option Yr_Rest_0) (p0n : Nat) (p0c : List PV) (p1 : Int) (p2 : Int) : semF (callP F Er_Rest 20) s38 (loopT [⟨0, Yr_Rest_0, L0, XLr_Rest_0⟩]) 400 a38 [PV.list p0n p0c, PV.int .i64 p1, PV.int .i64 p2] (fun rv => decR (RSh.one (CK.int .i64)) rv.pv) = tr_Rest F L0 p0n p0c p1 p2 := by kernel_rfl
noncomputable abbrev Fr_Rest (args : List PV) := Fn env 38 (RSh.one (CK.int .i64)) args
theorem Fr_Rest_of  (p0n : Nat) (p0c : List PV) (p1 : Int) (p2 : Int) {res : (Int)} (h : tr_Rest (Fn env) Lr_Rest_0 p0n p0c p1 p2 = some res) : Fr_Rest [PV.list p0n p0c, PV.int .i64 p1, PV.int .i64 p2] = some res :=
  fn_of Er_Rest_ok rfl rfl (lo_cons (lpO_ok Ur_Rest) lo_nil) ((tr_Rest_eq _ _ _ _ _ _).trans h)
def Er_BreakErr : List Entry := [.out 38 (RSh.one (CK.int .i64))]
theorem Er_BreakErr_ok : ∀ e ∈ Er_BreakErr, EntOK env e := (ent_out ent_nil)
def Tr_BreakErr_0a (n0 : Nat) (c1 : List PV) (i2 : Int) (i3 : Int) : Q := ⟨(tm 23 [(0, (AV.p (PV.list n0 c1))), (1, (AV.p (PV.int .i64 i2))), (5, (AV.p (PV.int .i64 i3)))]), (mm 23 [])⟩
def Xr_BreakErr_0a (_y : Unit) : Ext × Q := (Ext.ret, ⟨(tm 23 [(4, (AV.p (PV.int .i64 (20 : Int))))]), (mm 23 [])⟩)
def Ir_BreakErr_0a (_q : Ext × S) : Unit := ()
def Xr_BreakErr_0b (y : Nat × List PV × Int) : Ext × Q := (Ext.normal, ⟨(tm 23 [(0, (AV.p (PV.list y.1 y.2.1))), (1, (AV.p (PV.int .i64 y.2.2)))]), (mm 23 [])⟩)
def Ir_BreakErr_0b (q : Ext × S) : Nat × List PV × Int := ((pP_list0 (pA_p (avT q.2 0))), (pP_list1 (pA_p (avT q.2 0))), (pP_int1 (pA_p (avT q.2 1))))
abbrev Yr_BreakErr_0 : Type := (Unit) ⊕ ((Nat × List PV × Int))
def XLr_BreakErr_0 : XL Yr_BreakErr_0 := .more Xr_BreakErr_0a (.one Xr_BreakErr_0b)
def Ir_BreakErr_0 (q : Ext × S) : Yr_BreakErr_0 := bif (cE q.1 == 2) then (Sum.inl (Ir_BreakErr_0a q)) else (Sum.inr (Ir_BreakErr_0b q))
theorem XIr_BreakErr_0a (y : Unit) : Ir_BreakErr_0 (xe (Xr_BreakErr_0a y)) = (Sum.inl y) := rfl
theorem XIr_BreakErr_0b (y : Nat × List PV × Int) : Ir_BreakErr_0 (xe (Xr_BreakErr_0b y)) = (Sum.inr y) := rfl
theorem XIr_BreakErr_0 (y : Yr_BreakErr_0) : Ir_BreakErr_0 (xe (XLr_BreakErr_0.fn y)) = y := (match y with | .inl y => XIr_BreakErr_0a y | .inr y => XIr_BreakErr_0b y)
noncomputable abbrev Lr_BreakErr_0 : Q → Option Yr_BreakErr_0 := lpO env a18.body 0 XLr_BreakErr_0
noncomputable abbrev Rr_BreakErr_0 : Q → Option (Ext × S) := lpR env a18.body 0
theorem Lr_BreakErr_0a_of {s : Q} {y : Unit} (h : Rr_BreakErr_0 s = exO (Xr_BreakErr_0a y)) : Lr_BreakErr_0 s = some (Sum.inl y) := lpO_of Ir_BreakErr_0 XIr_BreakErr_0 (y := (Sum.inl y)) h
theorem Lr_BreakErr_0b_of {s : Q} {y : Nat × List PV × Int} (h : Rr_BreakErr_0 s = exO (Xr_BreakErr_0b y)) : Lr_BreakErr_0 s = some (Sum.inr y) := lpO_of Ir_BreakErr_0 XIr_BreakErr_0 (y := (Sum.inr y)) h
theorem Ur_BreakErr : uniq ((blocksOf a18.body).map (·.1)) = true := by kernel_rfl
def Br_BreakErr_0a (F : FnT) (N : QO) (E : EO) (_L0 : Q → Option Yr_BreakErr_0) (n0 : Nat) (c1 : List PV) (i2 : Int) (i3 : Int) : Option (Ext × S) :=
  bif (decide (i3 < (n0 : Int))) then
    bindO (F 38 (RSh.one (CK.int .i64)) [(PV.list n0 c1), (PV.int .i64 i2), (PV.int .i64 i3)]) fun (y0 : (Int)) =>
    bif (decide (y0 ≤ (0 : Int))) then
      E (Xr_BreakErr_0a ())
    else N (Tr_BreakErr_0a n0 c1 i2 (w64 (i3 + (1 : Int))))
  else E (Xr_BreakErr_0b (n0, c1, i2))
theorem Br_BreakErr_0a_eq (F : FnT) (N : QO) (E : EO) (L0 : Q → Option Yr_BreakErr_0) (n0 : Nat) (c1 : List PV) (i2 : Int) (i3 : Int) : semB (callP F Er_BreakErr 20) s18 (loopT [⟨0, Yr_BreakErr_0, L0, XLr_BreakErr_0⟩]) 400 (blkIn a18.body 0) N E (Tr_BreakErr_0a n0 c1 i2 i3) = Br_BreakErr_0a F N E L0 n0 c1 i2 i3 := by kernel_rfl
theorem Rr_BreakErr_0a_of  (n0 : Nat) (c1 : List PV) (i2 : Int) (i3 : Int) {r : Ext × S} (h : Br_BreakErr_0a (Fn env) Rr_BreakErr_0 exO Lr_BreakErr_0 n0 c1 i2 i3 = some r) : Rr_BreakErr_0 (Tr_BreakErr_0a n0 c1 i2 i3) = some r :=
  lp_of Er_BreakErr_ok (by kernel_rfl) (lo_cons (lpO_ok Ur_BreakErr) lo_nil) (by kernel_rfl) ((Br_BreakErr_0a_eq _ _ _ _ _ _ _ _).trans h)
def tr_BreakErr (F : FnT) (L0 : Q → Option Yr_BreakErr_0) (p0n : Nat) (p0c : List PV) (p1 : Int) : Option (Int) :=
  bindO (L0 (Tr_BreakErr_0a p0n p0c p1 (0 : Int))) fun z =>
  Sum.elim (fun _y0 =>
    some (20 : Int)) (fun y1 =>
    bindO (F 38 (RSh.one (CK.int .i64)) [(PV.list y1.1 y1.2.1), (PV.int .i64 y1.2.2), (PV.int .i64 (y1.1 : Int))]) fun (y2 : (Int)) =>
    bif (decide (y2 < (0 : Int))) then
      some (20 : Int)
    else some (0 : Int)) z
theorem tr_BreakErr_eq (F : FnT) (L0 : Q → Option Yr_BreakErr_0) (p0n : Nat) (p0c : List PV) (p1 : Int) : semF (callP F Er_BreakErr 20) s18 (loopT [⟨0, Yr_BreakErr_0, L0, XLr_BreakErr_0⟩]) 400 a18 [PV.list p0n p0c, PV.int .i64 p1] (fun rv => decR (RSh.one (CK.int .i64)) rv.pv) = tr_BreakErr F L0 p0n p0c p1 := by kernel_rfl
noncomputable abbrev Fr_BreakErr (args : List PV) := Fn env 18 (RSh.one (CK.int .i64)) args
theorem Fr_BreakErr_of  (p0n : Nat) (p0c : List PV) (p1 : Int) {res : (Int)} (h : tr_BreakErr (Fn env) Lr_BreakErr_0 p0n p0c p1 = some res) : Fr_BreakErr [PV.list p0n p0c, PV.int .i64 p1] = some res :=
  fn_of Er_BreakErr_ok rfl rfl (lo_cons (lpO_ok Ur_BreakErr) lo_nil) ((tr_BreakErr_eq _ _ _ _ _).trans h)
def Eb_Gcd : List Entry := [.out 142 (RSh.one (CK.int .i64))]
theorem Eb_Gcd_ok : ∀ e ∈ Eb_Gcd, EntOK env e := (ent_out ent_nil)
def Tb_Gcd_0a (i0 : Int) (i1 : Int) : Q := ⟨(tm 13 [(0, (AV.p (PV.int .i64 i0))), (1, (AV.p (PV.int .i64 i1)))]), (mm 13 [])⟩
def Xb_Gcd_0a (y : Int) : Ext × Q := (Ext.normal, ⟨(tm 13 [(0, (AV.p (PV.int .i64 y)))]), (mm 13 [])⟩)
def Ib_Gcd_0a (q : Ext × S) : Int := (pP_int1 (pA_p (avT q.2 0)))
abbrev Yb_Gcd_0 : Type := Int
def XLb_Gcd_0 : XL Yb_Gcd_0 := .one Xb_Gcd_0a
def Ib_Gcd_0 (q : Ext × S) : Yb_Gcd_0 := (Ib_Gcd_0a q)
theorem XIb_Gcd_0a (y : Int) : Ib_Gcd_0 (xe (Xb_Gcd_0a y)) = y := rfl
theorem XIb_Gcd_0 (y : Yb_Gcd_0) : Ib_Gcd_0 (xe (XLb_Gcd_0.fn y)) = y := XIb_Gcd_0a y
noncomputable abbrev Lb_Gcd_0 : Q → Option Yb_Gcd_0 := lpO env a114.body 0 XLb_Gcd_0
noncomputable abbrev Rb_Gcd_0 : Q → Option (Ext × S) := lpR env a114.body 0
theorem Lb_Gcd_0a_of {s : Q} {y : Int} (h : Rb_Gcd_0 s = exO (Xb_Gcd_0a y)) : Lb_Gcd_0 s = some y := lpO_of Ib_Gcd_0 XIb_Gcd_0 (y := y) h
theorem Ub_Gcd : uniq ((blocksOf a114.body).map (·.1)) = true := by kernel_rfl
def Bb_Gcd_0a (_F : FnT) (N : QO) (E : EO) (_L0 : Q → Option Yb_Gcd_0) (i0 : Int) (i1 : Int) : Option (Ext × S) :=
  bif (i1 != (0 : Int)) then
    bif (decide (i1 ≠ (0 : Int))) then
      N (Tb_Gcd_0a i1 (Int.tmod i0 i1))
    else none
  else E (Xb_Gcd_0a i0)
theorem Bb_Gcd_0a_eq (F : FnT) (N : QO) (E : EO) (L0 : Q → Option Yb_Gcd_0) (i0 : Int) (i1 : Int) : semB (callP F Eb_Gcd 20) s114 (loopT [⟨0, Yb_Gcd_0, L0, XLb_Gcd_0⟩]) 400 (blkIn a114.body 0) N E (Tb_Gcd_0a i0 i1) = Bb_Gcd_0a F N E L0 i0 i1 := by kernel_rfl
theorem Rb_Gcd_0a_of  (i0 : Int) (i1 : Int) {r : Ext × S} (h : Bb_Gcd_0a (Fn env) Rb_Gcd_0 exO Lb_Gcd_0 i0 i1 = some r) : Rb_Gcd_0 (Tb_Gcd_0a i0 i1) = some r :=
  lp_of Eb_Gcd_ok (by kernel_rfl) (lo_cons (lpO_ok Ub_Gcd) lo_nil) (by kernel_rfl) ((Bb_Gcd_0a_eq _ _ _ _ _ _).trans h)
def tb_Gcd (F : FnT) (L0 : Q → Option Yb_Gcd_0) (p0 : Int) (p1 : Int) : Option (Int) :=
  bindO (L0 (Tb_Gcd_0a p0 p1)) fun y0 =>
  bindO (F 142 (RSh.one (CK.int .i64)) [(PV.int .i64 y0)]) fun (y1 : (Int)) =>
  some y1
theorem tb_Gcd_eq (F : FnT) (L0 : Q → Option Yb_Gcd_0) (p0 : Int) (p1 : Int) : semF (callP F Eb_Gcd 20) s114 (loopT [⟨0, Yb_Gcd_0, L0, XLb_Gcd_0⟩]) 400 a114 [PV.int .i64 p0, PV.int .i64 p1] (fun rv => decR (RSh.one (CK.int .i64)) rv.pv) = tb_Gcd F L0 p0 p1 := by kernel_rfl
noncomputable abbrev Fb_Gcd (args : List PV) := Fn env 114 (RSh.one (CK.int .i64)) args
theorem Fb_Gcd_of  (p0 : Int) (p1 : Int) {res : (Int)} (h : tb_Gcd (Fn env) Lb_Gcd_0 p0 p1 = some res) : Fb_Gcd [PV.int .i64 p0, PV.int .i64 p1] = some res :=
  fn_of Eb_Gcd_ok rfl rfl (lo_cons (lpO_ok Ub_Gcd) lo_nil) ((tb_Gcd_eq _ _ _ _).trans h)
def Eb_Lowest : List Entry := [.out 114 (RSh.one (CK.int .i64))]
theorem Eb_Lowest_ok : ∀ e ∈ Eb_Lowest, EntOK env e := (ent_out ent_nil)
def tb_Lowest (F : FnT) (p0 : Int) (p1 : Int) : Option ((Int) × (Int)) :=
  bindO (F 114 (RSh.one (CK.int .i64)) [(PV.int .i64 p0), (PV.int .i64 p1)]) fun (y0 : (Int)) =>
  bif (decide (p1 < (0 : Int))) then
    bif (decide ((w64 ((0 : Int) - y0)) ≠ (0 : Int))) then
      bif (decide ((w64 ((0 : Int) - y0)) ≠ (0 : Int))) then
        some ((w64 (Int.tdiv p0 (w64 ((0 : Int) - y0)))), (w64 (Int.tdiv p1 (w64 ((0 : Int) - y0)))))
      else none
    else none
  else bif (decide (y0 ≠ (0 : Int))) then
    bif (decide (y0 ≠ (0 : Int))) then
      some ((w64 (Int.tdiv p0 y0)), (w64 (Int.tdiv p1 y0)))
    else none
  else none
theorem tb_Lowest_eq (F : FnT) (p0 : Int) (p1 : Int) : semF (callP F Eb_Lowest 20) s70 (loopT []) 400 a70 [PV.int .i64 p0, PV.int .i64 p1] (fun rv => decR (RSh.agg [(CK.int .i64), (CK.int .i64)]) rv.pv) = tb_Lowest F p0 p1 := by kernel_rfl
noncomputable abbrev Fb_Lowest (args : List PV) := Fn env 70 (RSh.agg [(CK.int .i64), (CK.int .i64)]) args
theorem Fb_Lowest_of  (p0 : Int) (p1 : Int) {res : ((Int) × (Int))} (h : tb_Lowest (Fn env) p0 p1 = some res) : Fb_Lowest [PV.int .i64 p0, PV.int .i64 p1] = some res :=
  fn_of Eb_Lowest_ok rfl rfl lo_nil ((tb_Lowest_eq _ _ _).trans h)
def Er_Shares : List Entry := [.out 38 (RSh.one (CK.int .i64)), .out 70 (RSh.agg [(CK.int .i64), (CK.int .i64)])]
theorem Er_Shares_ok : ∀ e ∈ Er_Shares, EntOK env e := (ent_out (ent_out ent_nil))
def Tr_Shares_0a (n0 : Nat) (c1 : List PV) (i2 : Int) : Q := ⟨(tm 26 [(0, (AV.p (PV.list n0 c1))), (1, (AV.p (PV.int .i64 i2))), (5, AV.nilS), (6, (AV.p (PV.int .i64 (0 : Int))))]), (mm 26 [])⟩
def Tr_Shares_0b (n0 : Nat) (c1 : List PV) (i2 : Int) (n3 : Nat) (c4 : List PV) (i5 : Int) (n6 : Nat) : Q := ⟨(tm 26 [(0, (AV.p (PV.list n0 c1))), (1, (AV.p (PV.int .i64 i2))), (5, (AV.app 24 n3 2 c4)), (6, (AV.p (PV.int .i64 i5)))]), (mm 26 [(24, (Bk.buf n6))])⟩
def Xr_Shares_0a (_y : Unit) : Ext × Q := (Ext.normal, ⟨(tm 26 [(5, AV.nilS)]), (mm 26 [])⟩)
def Ir_Shares_0a (_q : Ext × S) : Unit := ()
def Xr_Shares_0b (y : Nat × List PV × Nat) : Ext × Q := (Ext.normal, ⟨(tm 26 [(5, (AV.app 24 y.1 2 y.2.1))]), (mm 26 [(24, (Bk.buf y.2.2))])⟩)
def Ir_Shares_0b (q : Ext × S) : Nat × List PV × Nat := ((pA_app1 (avT q.2 5)), (pA_app3 (avT q.2 5)), (pB_buf0 (avM q.2 24)))
abbrev Yr_Shares_0 : Type := (Unit) ⊕ ((Nat × List PV × Nat))
def XLr_Shares_0 : XL Yr_Shares_0 := .more Xr_Shares_0a (.one Xr_Shares_0b)
def Ir_Shares_0 (q : Ext × S) : Yr_Shares_0 := bif (cA (avT q.2 5) == 1) then (Sum.inl (Ir_Shares_0a q)) else (Sum.inr (Ir_Shares_0b q))
theorem XIr_Shares_0a (y : Unit) : Ir_Shares_0 (xe (Xr_Shares_0a y)) = (Sum.inl y) := rfl
theorem XIr_Shares_0b (y : Nat × List PV × Nat) : Ir_Shares_0 (xe (Xr_Shares_0b y)) = (Sum.inr y) := rfl
theorem XIr_Shares_0 (y : Yr_Shares_0) : Ir_Shares_0 (xe (XLr_Shares_0.fn y)) = y := (match y with | .inl y => XIr_Shares_0a y | .inr y => XIr_Shares_0b y)
noncomputable abbrev Lr_Shares_0 : Q → Option Yr_Shares_0 := lpO env a20.body 0 XLr_Shares_0
noncomputable abbrev Rr_Shares_0 : Q → Option (Ext × S) := lpR env a20.body 0
theorem Lr_Shares_0b_of {s : Q} {y : Nat × List PV × Nat} (h : Rr_Shares_0 s = exO (Xr_Shares_0b y)) : Lr_Shares_0 s = some (Sum.inr y) := lpO_of Ir_Shares_0 XIr_Shares_0 (y := (Sum.inr y)) h
theorem Ur_Shares : uniq ((blocksOf a20.body).map (·.1)) = true := by kernel_rfl
def Br_Shares_0a (F : FnT) (N : QO) (E : EO) (_L0 : Q → Option Yr_Shares_0) (n0 : Nat) (c1 : List PV) (i2 : Int) : Option (Ext × S) :=
  bif (decide ((0 : Int) < (n0 : Int))) then
    bif (decide (((0 : Int) ≤ (0 : Int)) ∧ ((0 : Int) < (n0 : Int)))) then
      bindO (intC .i64 (c1[0]?)) fun x0 =>
      bindO (F 38 (RSh.one (CK.int .i64)) [(PV.list n0 c1), (PV.int .i64 i2), (PV.int .i64 (0 : Int))]) fun (y1 : (Int)) =>
      bindO (F 70 (RSh.agg [(CK.int .i64), (CK.int .i64)]) [(PV.int .i64 x0), (PV.int .i64 y1)]) fun (y2 : ((Int) × (Int))) =>
      N (Tr_Shares_0b n0 c1 i2 1 [(PV.int .i64 y2.1), (PV.int .i64 y2.2)] (1 : Int) 1)
    else none
  else E (Xr_Shares_0a ())
theorem Br_Shares_0a_eq (F : FnT) (N : QO) (E : EO) (L0 : Q → Option Yr_Shares_0) (n0 : Nat) (c1 : List PV) (i2 : Int) : semB (callP F Er_Shares 20) s20 (loopT [⟨0, Yr_Shares_0, L0, XLr_Shares_0⟩]) 400 (blkIn a20.body 0) N E (Tr_Shares_0a n0 c1 i2) = Br_Shares_0a F N E L0 n0 c1 i2 := by kernel_rfl
theorem Rr_Shares_0a_of  (n0 : Nat) (c1 : List PV) (i2 : Int) {r : Ext × S} (h : Br_Shares_0a (Fn env) Rr_Shares_0 exO Lr_Shares_0 n0 c1 i2 = some r) : Rr_Shares_0 (Tr_Shares_0a n0 c1 i2) = some r :=
  lp_of Er_Shares_ok (by kernel_rfl) (lo_cons (lpO_ok Ur_Shares) lo_nil) (by kernel_rfl) ((Br_Shares_0a_eq _ _ _ _ _ _ _).trans h)
def Br_Shares_0b (F : FnT) (N : QO) (E : EO) (_L0 : Q → Option Yr_Shares_0) (n0 : Nat) (c1 : List PV) (i2 : Int) (n3 : Nat) (c4 : List PV) (i5 : Int) (n6 : Nat) : Option (Ext × S) :=
  bif (decide (i5 < (n0 : Int))) then
    bif (decide (((0 : Int) ≤ i5) ∧ (i5 < (n0 : Int)))) then
      bindO (intC .i64 (c1[((Int.toNat i5) * 1)]?)) fun x0 =>
      bindO (F 38 (RSh.one (CK.int .i64)) [(PV.list n0 c1), (PV.int .i64 i2), (PV.int .i64 i5)]) fun (y1 : (Int)) =>
      bindO (F 70 (RSh.agg [(CK.int .i64), (CK.int .i64)]) [(PV.int .i64 x0), (PV.int .i64 y1)]) fun (y2 : ((Int) × (Int))) =>
      bif (decide ((n6 = n3) ∧ ((n3 + 1) ≤ big))) then
        N (Tr_Shares_0b n0 c1 i2 (n3 + 1) (c4 ++ [(PV.int .i64 y2.1), (PV.int .i64 y2.2)]) (w64 (i5 + (1 : Int))) (n3 + 1))
      else none
    else none
  else E (Xr_Shares_0b (n3, c4, n6))
theorem Br_Shares_0b_eq (F : FnT) (N : QO) (E : EO) (L0 : Q → Option Yr_Shares_0) (n0 : Nat) (c1 : List PV) (i2 : Int) (n3 : Nat) (c4 : List PV) (i5 : Int) (n6 : Nat) : semB (callP F Er_Shares 20) s20 (loopT [⟨0, Yr_Shares_0, L0, XLr_Shares_0⟩]) 400 (blkIn a20.body 0) N E (Tr_Shares_0b n0 c1 i2 n3 c4 i5 n6) = Br_Shares_0b F N E L0 n0 c1 i2 n3 c4 i5 n6 := by kernel_rfl
theorem Rr_Shares_0b_of  (n0 : Nat) (c1 : List PV) (i2 : Int) (n3 : Nat) (c4 : List PV) (i5 : Int) (n6 : Nat) {r : Ext × S} (h : Br_Shares_0b (Fn env) Rr_Shares_0 exO Lr_Shares_0 n0 c1 i2 n3 c4 i5 n6 = some r) : Rr_Shares_0 (Tr_Shares_0b n0 c1 i2 n3 c4 i5 n6) = some r :=
  lp_of Er_Shares_ok (by kernel_rfl) (lo_cons (lpO_ok Ur_Shares) lo_nil) (by kernel_rfl) ((Br_Shares_0b_eq _ _ _ _ _ _ _ _ _ _ _).trans h)
def tr_Shares (_F : FnT) (L0 : Q → Option Yr_Shares_0) (p0n : Nat) (p0c : List PV) (p1 : Int) : Option ((Nat) × (List PV)) :=
  bindO (L0 (Tr_Shares_0a p0n p0c p1)) fun z =>
  Sum.elim (fun _y0 =>
    some (0, [])) (fun y1 =>
    bif (decide (y1.2.2 = y1.1)) then
      some (y1.1, y1.2.1)
    else none) z
theorem tr_Shares_eq (F : FnT) (L0 : Q → Option Yr_Shares_0) (p0n : Nat) (p0c : List PV) (p1 : Int) : semF (callP F Er_Shares 20) s20 (loopT [⟨0, Yr_Shares_0, L0, XLr_Shares_0⟩]) 400 a20 [PV.list p0n p0c, PV.int .i64 p1] (fun rv => decR (RSh.one CK.list) rv.pv) = tr_Shares F L0 p0n p0c p1 := by kernel_rfl
noncomputable abbrev Fr_Shares (args : List PV) := Fn env 20 (RSh.one CK.list) args
theorem Fr_Shares_of  (p0n : Nat) (p0c : List PV) (p1 : Int) {res : ((Nat) × (List PV))} (h : tr_Shares (Fn env) Lr_Shares_0 p0n p0c p1 = some res) : Fr_Shares [PV.list p0n p0c, PV.int .i64 p1] = some res :=
  fn_of Er_Shares_ok rfl rfl (lo_cons (lpO_ok Ur_Shares) lo_nil) ((tr_Shares_eq _ _ _ _ _).trans h)
def Eb_Fracs : List Entry := []
theorem Eb_Fracs_ok : ∀ e ∈ Eb_Fracs, EntOK env e := ent_nil
def Tb_Fracs_0a (n0 : Nat) (c1 : List PV) (n2 : Nat) (c3 : List PV) (i4 : Int) : Q := ⟨(tm 26 [(0, (AV.p (PV.list n0 c1))), (1, (AV.p (PV.list n2 c3))), (5, (AV.p (PV.int .i64 i4)))]), (mm 26 [])⟩
def Xb_Fracs_0a (_y : Unit) : Ext × Q := (Ext.ret, ⟨(tm 26 [(4, (AV.p (PV.bool false)))]), (mm 26 [])⟩)
def Ib_Fracs_0a (_q : Ext × S) : Unit := ()
def Xb_Fracs_0b (_y : Unit) : Ext × Q := (Ext.normal, ⟨(tm 26 []), (mm 26 [])⟩)
def Ib_Fracs_0b (_q : Ext × S) : Unit := ()
abbrev Yb_Fracs_0 : Type := (Unit) ⊕ ((Unit))
def XLb_Fracs_0 : XL Yb_Fracs_0 := .more Xb_Fracs_0a (.one Xb_Fracs_0b)
def Ib_Fracs_0 (q : Ext × S) : Yb_Fracs_0 := bif (cE q.1 == 2) then (Sum.inl (Ib_Fracs_0a q)) else (Sum.inr (Ib_Fracs_0b q))
theorem XIb_Fracs_0a (y : Unit) : Ib_Fracs_0 (xe (Xb_Fracs_0a y)) = (Sum.inl y) := rfl
theorem XIb_Fracs_0b (y : Unit) : Ib_Fracs_0 (xe (Xb_Fracs_0b y)) = (Sum.inr y) := rfl
theorem XIb_Fracs_0 (y : Yb_Fracs_0) : Ib_Fracs_0 (xe (XLb_Fracs_0.fn y)) = y := (match y with | .inl y => XIb_Fracs_0a y | .inr y => XIb_Fracs_0b y)
noncomputable abbrev Lb_Fracs_0 : Q → Option Yb_Fracs_0 := lpO env a19.body 0 XLb_Fracs_0
noncomputable abbrev Rb_Fracs_0 : Q → Option (Ext × S) := lpR env a19.body 0
theorem Lb_Fracs_0b_of {s : Q} {y : Unit} (h : Rb_Fracs_0 s = exO (Xb_Fracs_0b y)) : Lb_Fracs_0 s = some (Sum.inr y) := lpO_of Ib_Fracs_0 XIb_Fracs_0 (y := (Sum.inr y)) h
theorem Ub_Fracs : uniq ((blocksOf a19.body).map (·.1)) = true := by kernel_rfl
def Bb_Fracs_0a (_F : FnT) (N : QO) (E : EO) (_L0 : Q → Option Yb_Fracs_0) (n0 : Nat) (c1 : List PV) (n2 : Nat) (c3 : List PV) (i4 : Int) : Option (Ext × S) :=
  bif (decide (i4 < (n0 : Int))) then
    bif (decide (((0 : Int) ≤ i4) ∧ (i4 < (n0 : Int)))) then
      bindO (intC .i64 (c1[((Int.toNat i4) * 2)]?)) fun x0 =>
      bindO (intC .i64 (c1[(((Int.toNat i4) * 2) + 1)]?)) fun x1 =>
      bif (decide (((0 : Int) ≤ i4) ∧ (i4 < (n2 : Int)))) then
        bindO (intC .i64 (c3[((Int.toNat i4) * 2)]?)) fun x2 =>
        bindO (intC .i64 (c3[(((Int.toNat i4) * 2) + 1)]?)) fun x3 =>
        bif (!((x0 == x2) && ((x1 == x3) && true))) then
          E (Xb_Fracs_0a ())
        else N (Tb_Fracs_0a n0 c1 n2 c3 (w64 (i4 + (1 : Int))))
      else none
    else none
  else E (Xb_Fracs_0b ())
theorem Bb_Fracs_0a_eq (F : FnT) (N : QO) (E : EO) (L0 : Q → Option Yb_Fracs_0) (n0 : Nat) (c1 : List PV) (n2 : Nat) (c3 : List PV) (i4 : Int) : semB (callP F Eb_Fracs 20) s19 (loopT [⟨0, Yb_Fracs_0, L0, XLb_Fracs_0⟩]) 400 (blkIn a19.body 0) N E (Tb_Fracs_0a n0 c1 n2 c3 i4) = Bb_Fracs_0a F N E L0 n0 c1 n2 c3 i4 := by kernel_rfl
theorem Rb_Fracs_0a_of  (n0 : Nat) (c1 : List PV) (n2 : Nat) (c3 : List PV) (i4 : Int) {r : Ext × S} (h : Bb_Fracs_0a (Fn env) Rb_Fracs_0 exO Lb_Fracs_0 n0 c1 n2 c3 i4 = some r) : Rb_Fracs_0 (Tb_Fracs_0a n0 c1 n2 c3 i4) = some r :=
  lp_of Eb_Fracs_ok (by kernel_rfl) (lo_cons (lpO_ok Ub_Fracs) lo_nil) (by kernel_rfl) ((Bb_Fracs_0a_eq _ _ _ _ _ _ _ _ _).trans h)
def tb_Fracs (_F : FnT) (L0 : Q → Option Yb_Fracs_0) (p0n : Nat) (p0c : List PV) (p1n : Nat) (p1c : List PV) : Option (Bool) :=
  bif ((p0n : Int) != (p1n : Int)) then
    some false
  else bindO (L0 (Tb_Fracs_0a p0n p0c p1n p1c (0 : Int))) fun z =>
  Sum.elim (fun _y0 =>
    some false) (fun _y1 =>
    some true) z
theorem tb_Fracs_eq (F : FnT) (L0 : Q → Option Yb_Fracs_0) (p0n : Nat) (p0c : List PV) (p1n : Nat) (p1c : List PV) : semF (callP F Eb_Fracs 20) s19 (loopT [⟨0, Yb_Fracs_0, L0, XLb_Fracs_0⟩]) 400 a19 [PV.list p0n p0c, PV.list p1n p1c] (fun rv => decR (RSh.one CK.bool) rv.pv) = tb_Fracs F L0 p0n p0c p1n p1c := by kernel_rfl
noncomputable abbrev Fb_Fracs (args : List PV) := Fn env 19 (RSh.one CK.bool) args
theorem Fb_Fracs_of  (p0n : Nat) (p0c : List PV) (p1n : Nat) (p1c : List PV) {res : (Bool)} (h : tb_Fracs (Fn env) Lb_Fracs_0 p0n p0c p1n p1c = some res) : Fb_Fracs [PV.list p0n p0c, PV.list p1n p1c] = some res :=
  fn_of Eb_Fracs_ok rfl rfl (lo_cons (lpO_ok Ub_Fracs) lo_nil) ((tb_Fracs_eq _ _ _ _ _ _).trans h)
end Gv

/- What the functions do, round by round: ZC6. -/
namespace Gv
open Go
set_option maxRecDepth 100000
def Ecloud_partError : List Entry := [.out 71 (RSh.one (CK.int .i64)), .out 69 (RSh.one (CK.int .i64)), .out 62 (RSh.one (CK.int .i64)), .out 116 (RSh.one (CK.int .i64))]
theorem Ecloud_partError_ok : ∀ e ∈ Ecloud_partError, EntOK env e := (ent_out (ent_out (ent_out (ent_out ent_nil))))
def tcloud_partError (F : FnT) (p0_0 : Int) (p0_1 : Int) : Option (Int) :=
  bif (decide (p0_1 ≤ (0 : Int))) then
    bindO (F 71 (RSh.one (CK.int .i64)) [(PV.bool true), (PV.int .i64 (3 : Int))]) fun (y0 : (Int)) =>
    bindO (F 69 (RSh.one (CK.int .i64)) [(PV.int .i64 p0_0), (PV.int .i64 (0 : Int)), (PV.int .i64 p0_1)]) fun (y1 : (Int)) =>
    bif (decide (p0_1 > (1000000000 : Int))) then
      bindO (F 71 (RSh.one (CK.int .i64)) [(PV.bool true), (PV.int .i64 (2 : Int))]) fun (y2 : (Int)) =>
      bindO (F 62 (RSh.one (CK.int .i64)) [(PV.list 3 [(PV.int .i64 y0), (PV.int .i64 y1), (PV.int .i64 y2)])]) fun (y3 : (Int)) =>
      some y3
    else bindO (F 71 (RSh.one (CK.int .i64)) [(PV.bool false), (PV.int .i64 (2 : Int))]) fun (y4 : (Int)) =>
    bindO (F 62 (RSh.one (CK.int .i64)) [(PV.list 3 [(PV.int .i64 y0), (PV.int .i64 y1), (PV.int .i64 y4)])]) fun (y5 : (Int)) =>
    some y5
  else bindO (F 116 (RSh.one (CK.int .i64)) [(PV.int .i64 p0_0), (PV.int .i64 p0_1)]) fun (y6 : (Int)) =>
  bif (y6 != (1 : Int)) then
    bindO (F 71 (RSh.one (CK.int .i64)) [(PV.bool true), (PV.int .i64 (3 : Int))]) fun (y7 : (Int)) =>
    bindO (F 69 (RSh.one (CK.int .i64)) [(PV.int .i64 p0_0), (PV.int .i64 (0 : Int)), (PV.int .i64 p0_1)]) fun (y8 : (Int)) =>
    bif (decide (p0_1 > (1000000000 : Int))) then
      bindO (F 71 (RSh.one (CK.int .i64)) [(PV.bool true), (PV.int .i64 (2 : Int))]) fun (y9 : (Int)) =>
      bindO (F 62 (RSh.one (CK.int .i64)) [(PV.list 3 [(PV.int .i64 y7), (PV.int .i64 y8), (PV.int .i64 y9)])]) fun (y10 : (Int)) =>
      some y10
    else bindO (F 71 (RSh.one (CK.int .i64)) [(PV.bool false), (PV.int .i64 (2 : Int))]) fun (y11 : (Int)) =>
    bindO (F 62 (RSh.one (CK.int .i64)) [(PV.list 3 [(PV.int .i64 y7), (PV.int .i64 y8), (PV.int .i64 y11)])]) fun (y12 : (Int)) =>
    some y12
  else bindO (F 71 (RSh.one (CK.int .i64)) [(PV.bool false), (PV.int .i64 (3 : Int))]) fun (y13 : (Int)) =>
  bindO (F 69 (RSh.one (CK.int .i64)) [(PV.int .i64 p0_0), (PV.int .i64 (0 : Int)), (PV.int .i64 p0_1)]) fun (y14 : (Int)) =>
  bif (decide (p0_1 > (1000000000 : Int))) then
    bindO (F 71 (RSh.one (CK.int .i64)) [(PV.bool true), (PV.int .i64 (2 : Int))]) fun (y15 : (Int)) =>
    bindO (F 62 (RSh.one (CK.int .i64)) [(PV.list 3 [(PV.int .i64 y13), (PV.int .i64 y14), (PV.int .i64 y15)])]) fun (y16 : (Int)) =>
    some y16
  else bindO (F 71 (RSh.one (CK.int .i64)) [(PV.bool false), (PV.int .i64 (2 : Int))]) fun (y17 : (Int)) =>
  bindO (F 62 (RSh.one (CK.int .i64)) [(PV.list 3 [(PV.int .i64 y13), (PV.int .i64 y14), (PV.int .i64 y17)])]) fun (y18 : (Int)) =>
  some y18
theorem tcloud_partError_eq (F : FnT) (p0_0 : Int) (p0_1 : Int) : semF (callP F Ecloud_partError 20) s74 (loopT []) 400 a74 [PV.agg [PV.int .i64 p0_0, PV.int .i64 p0_1]] (fun rv => decR (RSh.one (CK.int .i64)) rv.pv) = tcloud_partError F p0_0 p0_1 := by kernel_rfl
noncomputable abbrev Fcloud_partError (args : List PV) := Fn env 74 (RSh.one (CK.int .i64)) args
theorem Fcloud_partError_of  (p0_0 : Int) (p0_1 : Int) {res : (Int)} (h : tcloud_partError (Fn env) p0_0 p0_1 = some res) : Fcloud_partError [PV.agg [PV.int .i64 p0_0, PV.int .i64 p0_1]] = some res :=
  fn_of Ecloud_partError_ok rfl rfl lo_nil ((tcloud_partError_eq _ _ _).trans h)
def Ecloud_Attenuated_1 : List Entry := [.out 74 (RSh.one (CK.int .i64))]
theorem Ecloud_Attenuated_1_ok : ∀ e ∈ Ecloud_Attenuated_1, EntOK env e := (ent_out ent_nil)
def tcloud_Attenuated_1 (F : FnT)(_n : Nat) (_cs : List PV) (a b : Int) : Option (Int) :=
  bindO (F 74 (RSh.one (CK.int .i64)) [(PV.agg [(PV.int .i64 a), (PV.int .i64 b)])]) fun (y0 : (Int)) =>
  some y0
theorem tcloud_Attenuated_1_eq (F : FnT)(n : Nat) (cs : List PV) (a b : Int) : semF (callP F Ecloud_Attenuated_1 20) s73 (loopT []) 400 a73 [.list n cs, .agg [.int .i64 a, .int .i64 b]] (fun rv => decR (RSh.one (CK.int .i64)) rv.pv) = tcloud_Attenuated_1 F n cs a b := by kernel_rfl
noncomputable abbrev Fcloud_Attenuated_1 (args : List PV) := Fn env 73 (RSh.one (CK.int .i64)) args
theorem Fcloud_Attenuated_1_of (n : Nat) (cs : List PV) (a b : Int) {res : (Int)} (h : tcloud_Attenuated_1 (Fn env) n cs a b = some res) : Fcloud_Attenuated_1 [.list n cs, .agg [.int .i64 a, .int .i64 b]] = some res :=
  fn_of Ecloud_Attenuated_1_ok rfl rfl lo_nil ((tcloud_Attenuated_1_eq _ _ _ _ _).trans h)
def Ecloud_itemError_fracs : List Entry := [.out 73 (RSh.one (CK.int .i64))]
theorem Ecloud_itemError_fracs_ok : ∀ e ∈ Ecloud_itemError_fracs, EntOK env e := (ent_out ent_nil)
def Tcloud_itemError_fracs_0a (n0 : Nat) (c1 : List PV) (n2 : Nat) (c3 : List PV) (i4 : Int) (i5 : Int) : Q := ⟨(tm 27 [(0, (AV.p (PV.list n0 c1))), (1, (AV.p (PV.fn 73 []))), (9, (AV.p (PV.list n2 c3))), (10, (AV.p (PV.int .i64 i4))), (11, (AV.p (PV.int .i64 i5)))]), (mm 27 [])⟩
def Xcloud_itemError_fracs_0a (y : Int × Int) : Ext × Q := (Ext.ret, ⟨(tm 27 [(4, (AV.p (PV.int .i64 y.1))), (5, (AV.p (PV.int .i64 y.2)))]), (mm 27 [])⟩)
def Icloud_itemError_fracs_0a (q : Ext × S) : Int × Int := ((pP_int1 (pA_p (avT q.2 4))), (pP_int1 (pA_p (avT q.2 5))))
def Xcloud_itemError_fracs_0b (_y : Unit) : Ext × Q := (Ext.normal, ⟨(tm 27 []), (mm 27 [])⟩)
def Icloud_itemError_fracs_0b (_q : Ext × S) : Unit := ()
abbrev Ycloud_itemError_fracs_0 : Type := (Int × Int) ⊕ ((Unit))
def XLcloud_itemError_fracs_0 : XL Ycloud_itemError_fracs_0 := .more Xcloud_itemError_fracs_0a (.one Xcloud_itemError_fracs_0b)
def Icloud_itemError_fracs_0 (q : Ext × S) : Ycloud_itemError_fracs_0 := bif (cE q.1 == 2) then (Sum.inl (Icloud_itemError_fracs_0a q)) else (Sum.inr (Icloud_itemError_fracs_0b q))
theorem XIcloud_itemError_fracs_0a (y : Int × Int) : Icloud_itemError_fracs_0 (xe (Xcloud_itemError_fracs_0a y)) = (Sum.inl y) := rfl
theorem XIcloud_itemError_fracs_0b (y : Unit) : Icloud_itemError_fracs_0 (xe (Xcloud_itemError_fracs_0b y)) = (Sum.inr y) := rfl
theorem XIcloud_itemError_fracs_0 (y : Ycloud_itemError_fracs_0) : Icloud_itemError_fracs_0 (xe (XLcloud_itemError_fracs_0.fn y)) = y := (match y with | .inl y => XIcloud_itemError_fracs_0a y | .inr y => XIcloud_itemError_fracs_0b y)
noncomputable abbrev Lcloud_itemError_fracs_0 : Q → Option Ycloud_itemError_fracs_0 := lpO env a143.body 0 XLcloud_itemError_fracs_0
noncomputable abbrev Rcloud_itemError_fracs_0 : Q → Option (Ext × S) := lpR env a143.body 0
theorem Ucloud_itemError_fracs : uniq ((blocksOf a143.body).map (·.1)) = true := by kernel_rfl
def Bcloud_itemError_fracs_0a (F : FnT) (N : QO) (E : EO) (_L0 : Q → Option Ycloud_itemError_fracs_0) (n0 : Nat) (c1 : List PV) (n2 : Nat) (c3 : List PV) (i4 : Int) (i5 : Int) : Option (Ext × S) :=
  bif (decide (i5 < i4)) then
    bif (decide (((0 : Int) ≤ i5) ∧ (i5 < (n2 : Int)))) then
      bindO (intC .i64 (c3[((Int.toNat i5) * 2)]?)) fun x0 =>
      bindO (intC .i64 (c3[(((Int.toNat i5) * 2) + 1)]?)) fun x1 =>
      bif (decide (((0 : Int) ≤ i5) ∧ (i5 ≤ ((Prod.mk n0 c1).1 : Int)))) then
        bif (decide ((0 = (Int.toNat i5)) ∨ (((0 * 2) + (((Int.toNat i5) - 0) * 2)) ≤ (List.length c1)))) then
          bindO (F 73 (RSh.one (CK.int .i64)) [(PV.list ((Int.toNat i5) - 0) (List.take (((Int.toNat i5) - 0) * 2) (List.drop 0 c1))), (PV.agg [(PV.int .i64 x0), (PV.int .i64 x1)])]) fun (y2 : (Int)) =>
          bif (y2 != (0 : Int)) then
            E (Xcloud_itemError_fracs_0a (i5, y2))
          else N (Tcloud_itemError_fracs_0a n0 c1 n2 c3 i4 (w64 (i5 + (1 : Int))))
        else none
      else none
    else none
  else E (Xcloud_itemError_fracs_0b ())
theorem Bcloud_itemError_fracs_0a_eq (F : FnT) (N : QO) (E : EO) (L0 : Q → Option Ycloud_itemError_fracs_0) (n0 : Nat) (c1 : List PV) (n2 : Nat) (c3 : List PV) (i4 : Int) (i5 : Int) : semB (callP F Ecloud_itemError_fracs 20) s143 (loopT [⟨0, Ycloud_itemError_fracs_0, L0, XLcloud_itemError_fracs_0⟩]) 400 (blkIn a143.body 0) N E (Tcloud_itemError_fracs_0a n0 c1 n2 c3 i4 i5) = Bcloud_itemError_fracs_0a F N E L0 n0 c1 n2 c3 i4 i5 := by kernel_rfl
theorem Rcloud_itemError_fracs_0a_of  (n0 : Nat) (c1 : List PV) (n2 : Nat) (c3 : List PV) (i4 : Int) (i5 : Int) {r : Ext × S} (h : Bcloud_itemError_fracs_0a (Fn env) Rcloud_itemError_fracs_0 exO Lcloud_itemError_fracs_0 n0 c1 n2 c3 i4 i5 = some r) : Rcloud_itemError_fracs_0 (Tcloud_itemError_fracs_0a n0 c1 n2 c3 i4 i5) = some r :=
  lp_of Ecloud_itemError_fracs_ok (by kernel_rfl) (lo_cons (lpO_ok Ucloud_itemError_fracs) lo_nil) (by kernel_rfl) ((Bcloud_itemError_fracs_0a_eq _ _ _ _ _ _ _ _ _ _).trans h)
def tcloud_itemError_fracs (_F : FnT) (L0 : Q → Option Ycloud_itemError_fracs_0)(n : Nat) (cs : List PV) : Option ((Int) × (Int)) :=
  bindO (L0 (Tcloud_itemError_fracs_0a n cs n cs (n : Int) (0 : Int))) fun z =>
  Sum.elim (fun y0 =>
    some (y0.1, y0.2)) (fun _y1 =>
    some ((0 : Int), (0 : Int))) z
theorem tcloud_itemError_fracs_eq (F : FnT) (L0 : Q → Option Ycloud_itemError_fracs_0)(n : Nat) (cs : List PV) : semF (callP F Ecloud_itemError_fracs 20) s143 (loopT [⟨0, Ycloud_itemError_fracs_0, L0, XLcloud_itemError_fracs_0⟩]) 400 a143 [.list n cs, .fn 73 []] (fun rv => decR (RSh.tup [(Prod.mk false [(CK.int .i64)]), (Prod.mk false [(CK.int .i64)])]) rv.pv) = tcloud_itemError_fracs F L0 n cs := by kernel_rfl
noncomputable abbrev Fcloud_itemError_fracs (args : List PV) := Fn env 143 (RSh.tup [(Prod.mk false [(CK.int .i64)]), (Prod.mk false [(CK.int .i64)])]) args
theorem Fcloud_itemError_fracs_of (n : Nat) (cs : List PV) {res : ((Int) × (Int))} (h : tcloud_itemError_fracs (Fn env) Lcloud_itemError_fracs_0 n cs = some res) : Fcloud_itemError_fracs [.list n cs, .fn 73 []] = some res :=
  fn_of Ecloud_itemError_fracs_ok rfl rfl (lo_cons (lpO_ok Ucloud_itemError_fracs) lo_nil) ((tcloud_itemError_fracs_eq _ _ _ _).trans h)
def Ecloud_listError_fracs : List Entry := [.out 143 (RSh.tup [(Prod.mk false [(CK.int .i64)]), (Prod.mk false [(CK.int .i64)])])]
theorem Ecloud_listError_fracs_ok : ∀ e ∈ Ecloud_listError_fracs, EntOK env e := (ent_out ent_nil)
def tcloud_listError_fracs (F : FnT)(n : Nat) (cs : List PV) (m : Int) : Option ((Int) × (Int)) :=
  bif (decide ((n : Int) > m)) then
    some ((0 : Int), (8 : Int))
  else bindO (F 143 (RSh.tup [(Prod.mk false [(CK.int .i64)]), (Prod.mk false [(CK.int .i64)])]) [(PV.list n cs), (PV.fn 73 [])]) fun (y0 : ((Int) × (Int))) =>
  some (y0.1, y0.2)
theorem tcloud_listError_fracs_eq (F : FnT)(n : Nat) (cs : List PV) (m : Int) : semF (callP F Ecloud_listError_fracs 20) s115 (loopT []) 400 a115 [.list n cs, .int .i64 m, .fn 73 []] (fun rv => decR (RSh.tup [(Prod.mk false [(CK.int .i64)]), (Prod.mk false [(CK.int .i64)])]) rv.pv) = tcloud_listError_fracs F n cs m := by kernel_rfl
noncomputable abbrev Fcloud_listError_fracs (args : List PV) := Fn env 115 (RSh.tup [(Prod.mk false [(CK.int .i64)]), (Prod.mk false [(CK.int .i64)])]) args
theorem Fcloud_listError_fracs_of (n : Nat) (cs : List PV) (m : Int) {res : ((Int) × (Int))} (h : tcloud_listError_fracs (Fn env) n cs m = some res) : Fcloud_listError_fracs [.list n cs, .int .i64 m, .fn 73 []] = some res :=
  fn_of Ecloud_listError_fracs_ok rfl rfl lo_nil ((tcloud_listError_fracs_eq _ _ _ _).trans h)
def Ecloud_filledError_fracs : List Entry := [.out 115 (RSh.tup [(Prod.mk false [(CK.int .i64)]), (Prod.mk false [(CK.int .i64)])])]
theorem Ecloud_filledError_fracs_ok : ∀ e ∈ Ecloud_filledError_fracs, EntOK env e := (ent_out ent_nil)
def tcloud_filledError_fracs (F : FnT)(n : Nat) (cs : List PV) (m : Int) : Option ((Int) × (Int)) :=
  bif ((n : Int) == (0 : Int)) then
    some ((0 : Int), (10 : Int))
  else bindO (F 115 (RSh.tup [(Prod.mk false [(CK.int .i64)]), (Prod.mk false [(CK.int .i64)])]) [(PV.list n cs), (PV.int .i64 m), (PV.fn 73 [])]) fun (y0 : ((Int) × (Int))) =>
  some (y0.1, y0.2)
theorem tcloud_filledError_fracs_eq (F : FnT)(n : Nat) (cs : List PV) (m : Int) : semF (callP F Ecloud_filledError_fracs 20) s72 (loopT []) 400 a72 [.list n cs, .int .i64 m, .fn 73 []] (fun rv => decR (RSh.tup [(Prod.mk false [(CK.int .i64)]), (Prod.mk false [(CK.int .i64)])]) rv.pv) = tcloud_filledError_fracs F n cs m := by kernel_rfl
noncomputable abbrev Fcloud_filledError_fracs (args : List PV) := Fn env 72 (RSh.tup [(Prod.mk false [(CK.int .i64)]), (Prod.mk false [(CK.int .i64)])]) args
theorem Fcloud_filledError_fracs_of (n : Nat) (cs : List PV) (m : Int) {res : ((Int) × (Int))} (h : tcloud_filledError_fracs (Fn env) n cs m = some res) : Fcloud_filledError_fracs [.list n cs, .int .i64 m, .fn 73 []] = some res :=
  fn_of Ecloud_filledError_fracs_ok rfl rfl lo_nil ((tcloud_filledError_fracs_eq _ _ _ _).trans h)
def Ecloud_isLarge : List Entry := []
theorem Ecloud_isLarge_ok : ∀ e ∈ Ecloud_isLarge, EntOK env e := ent_nil
def tcloud_isLarge (_F : FnT) (p0 : Int) (p1 : Int) : Option (Bool) :=
  bif (decide (p0 > (0 : Int))) then
    bif (decide (p0 ≠ (0 : Int))) then
      bif (decide (p1 > (w64 (Int.tdiv (1000000000 : Int) p0)))) then
        some true
      else some false
    else none
  else some false
theorem tcloud_isLarge_eq (F : FnT) (p0 : Int) (p1 : Int) : semF (callP F Ecloud_isLarge 20) s117 (loopT []) 400 a117 [PV.int .i64 p0, PV.int .i64 p1] (fun rv => decR (RSh.one CK.bool) rv.pv) = tcloud_isLarge F p0 p1 := by kernel_rfl
noncomputable abbrev Fcloud_isLarge (args : List PV) := Fn env 117 (RSh.one CK.bool) args
theorem Fcloud_isLarge_of  (p0 : Int) (p1 : Int) {res : (Bool)} (h : tcloud_isLarge (Fn env) p0 p1 = some res) : Fcloud_isLarge [PV.int .i64 p0, PV.int .i64 p1] = some res :=
  fn_of Ecloud_isLarge_ok rfl rfl lo_nil ((tcloud_isLarge_eq _ _ _).trans h)
def Ecloud_product : List Entry := [.out 112 (RSh.agg [(CK.int .i64), (CK.int .i64)]), .out 117 (RSh.one CK.bool)]
theorem Ecloud_product_ok : ∀ e ∈ Ecloud_product, EntOK env e := (ent_out (ent_out ent_nil))
def tcloud_product (F : FnT) (p0_0 : Int) (p0_1 : Int) (p1_0 : Int) (p1_1 : Int) : Option ((Int) × ((Int) × (Int))) :=
  bindO (F 112 (RSh.agg [(CK.int .i64), (CK.int .i64)]) [(PV.int .i64 p0_0), (PV.int .i64 p1_1)]) fun (y0 : ((Int) × (Int))) =>
  bindO (F 112 (RSh.agg [(CK.int .i64), (CK.int .i64)]) [(PV.int .i64 p1_0), (PV.int .i64 p0_1)]) fun (y1 : ((Int) × (Int))) =>
  bindO (F 117 (RSh.one CK.bool) [(PV.int .i64 y0.1), (PV.int .i64 y1.1)]) fun (y2 : (Bool)) =>
  bif y2 then
    some ((0 : Int), ((0 : Int), (8 : Int)))
  else bindO (F 117 (RSh.one CK.bool) [(PV.int .i64 y0.2), (PV.int .i64 y1.2)]) fun (y3 : (Bool)) =>
  bif y3 then
    some ((0 : Int), ((0 : Int), (8 : Int)))
  else some ((w64 (y0.1 * y1.1)), ((w64 (y0.2 * y1.2)), (0 : Int)))
theorem tcloud_product_eq (F : FnT) (p0_0 : Int) (p0_1 : Int) (p1_0 : Int) (p1_1 : Int) : semF (callP F Ecloud_product 20) s75 (loopT []) 400 a75 [PV.agg [PV.int .i64 p0_0, PV.int .i64 p0_1], PV.agg [PV.int .i64 p1_0, PV.int .i64 p1_1]] (fun rv => decR (RSh.tup [(Prod.mk true [(CK.int .i64), (CK.int .i64)]), (Prod.mk false [(CK.int .i64)])]) rv.pv) = tcloud_product F p0_0 p0_1 p1_0 p1_1 := by kernel_rfl
noncomputable abbrev Fcloud_product (args : List PV) := Fn env 75 (RSh.tup [(Prod.mk true [(CK.int .i64), (CK.int .i64)]), (Prod.mk false [(CK.int .i64)])]) args
theorem Fcloud_product_of  (p0_0 : Int) (p0_1 : Int) (p1_0 : Int) (p1_1 : Int) {res : ((Int) × ((Int) × (Int)))} (h : tcloud_product (Fn env) p0_0 p0_1 p1_0 p1_1 = some res) : Fcloud_product [PV.agg [PV.int .i64 p0_0, PV.int .i64 p0_1], PV.agg [PV.int .i64 p1_0, PV.int .i64 p1_1]] = some res :=
  fn_of Ecloud_product_ok rfl rfl lo_nil ((tcloud_product_eq _ _ _ _ _).trans h)
def Ecloud_restAfter : List Entry := [.out 112 (RSh.agg [(CK.int .i64), (CK.int .i64)])]
theorem Ecloud_restAfter_ok : ∀ e ∈ Ecloud_restAfter, EntOK env e := (ent_out ent_nil)
def tcloud_restAfter (F : FnT) (p0_0 : Int) (p0_1 : Int) (p1_0 : Int) (p1_1 : Int) (p2_0 : Int) (p2_1 : Int) : Option ((Int) × (Int)) :=
  bif (p1_0 == (0 : Int)) then
    some (p0_0, p0_1)
  else bindO (F 112 (RSh.agg [(CK.int .i64), (CK.int .i64)]) [(PV.int .i64 (w64 (p2_0 * (w64 (p1_1 - p1_0))))), (PV.int .i64 (w64 (p2_1 * p1_0)))]) fun (y0 : ((Int) × (Int))) =>
  some (y0.1, y0.2)
theorem tcloud_restAfter_eq (F : FnT) (p0_0 : Int) (p0_1 : Int) (p1_0 : Int) (p1_1 : Int) (p2_0 : Int) (p2_1 : Int) : semF (callP F Ecloud_restAfter 20) s76 (loopT []) 400 a76 [PV.agg [PV.int .i64 p0_0, PV.int .i64 p0_1], PV.agg [PV.int .i64 p1_0, PV.int .i64 p1_1], PV.agg [PV.int .i64 p2_0, PV.int .i64 p2_1]] (fun rv => decR (RSh.agg [(CK.int .i64), (CK.int .i64)]) rv.pv) = tcloud_restAfter F p0_0 p0_1 p1_0 p1_1 p2_0 p2_1 := by kernel_rfl
noncomputable abbrev Fcloud_restAfter (args : List PV) := Fn env 76 (RSh.agg [(CK.int .i64), (CK.int .i64)]) args
theorem Fcloud_restAfter_of  (p0_0 : Int) (p0_1 : Int) (p1_0 : Int) (p1_1 : Int) (p2_0 : Int) (p2_1 : Int) {res : ((Int) × (Int))} (h : tcloud_restAfter (Fn env) p0_0 p0_1 p1_0 p1_1 p2_0 p2_1 = some res) : Fcloud_restAfter [PV.agg [PV.int .i64 p0_0, PV.int .i64 p0_1], PV.agg [PV.int .i64 p1_0, PV.int .i64 p1_1], PV.agg [PV.int .i64 p2_0, PV.int .i64 p2_1]] = some res :=
  fn_of Ecloud_restAfter_ok rfl rfl lo_nil ((tcloud_restAfter_eq _ _ _ _ _ _ _).trans h)
def Ecloud_Attenuated : List Entry := [.out 72 (RSh.tup [(Prod.mk false [(CK.int .i64)]), (Prod.mk false [(CK.int .i64)])]), .out 64 (RSh.one (CK.int .i64)), .out 62 (RSh.one (CK.int .i64)), .out 75 (RSh.tup [(Prod.mk true [(CK.int .i64), (CK.int .i64)]), (Prod.mk false [(CK.int .i64)])]), .out 76 (RSh.agg [(CK.int .i64), (CK.int .i64)])]
theorem Ecloud_Attenuated_ok : ∀ e ∈ Ecloud_Attenuated, EntOK env e := (ent_out (ent_out (ent_out (ent_out (ent_out ent_nil)))))
def Tcloud_Attenuated_0a (n0 : Nat) (n1 : Nat) (c2 : List PV) (i3 : Int) (i4 : Int) (i5 : Int) (i6 : Int) (c7 : List PV) : Q := ⟨(tm 59 [(9, (AV.msl 30 0 n0 2)), (10, (AV.loc 10 0)), (33, (AV.p (PV.list n1 c2))), (34, (AV.p (PV.int .i64 i3))), (35, (AV.p (PV.int .i64 i4)))]), (mm 59 [(10, (Bk.pcs true [(PV.int .i64 i5), (PV.int .i64 i6)])), (30, (Bk.pcs true c7))])⟩
def Xcloud_Attenuated_0a (y : Int × List PV) : Ext × Q := (Ext.ret, ⟨(tm 59 [(4, AV.nilS), (5, (AV.p (PV.int .i64 y.1)))]), (mm 59 [(30, (Bk.pcs true y.2))])⟩)
def Icloud_Attenuated_0a (q : Ext × S) : Int × List PV := ((pP_int1 (pA_p (avT q.2 5))), (pB_pcs1 (avM q.2 30)))
def Xcloud_Attenuated_0b (y : Nat × Int × Int × List PV) : Ext × Q := (Ext.normal, ⟨(tm 59 [(9, (AV.msl 30 0 y.1 2))]), (mm 59 [(10, (Bk.pcs true [(PV.int .i64 y.2.1), (PV.int .i64 y.2.2.1)])), (30, (Bk.pcs true y.2.2.2))])⟩)
def Icloud_Attenuated_0b (q : Ext × S) : Nat × Int × Int × List PV := ((pA_msl2 (avT q.2 9)), (pP_int1 (hdP (pB_pcs1 (avM q.2 10)))), (pP_int1 (hdP (List.tail (pB_pcs1 (avM q.2 10))))), (pB_pcs1 (avM q.2 30)))
abbrev Ycloud_Attenuated_0 : Type := (Int × List PV) ⊕ ((Nat × Int × Int × List PV))
def XLcloud_Attenuated_0 : XL Ycloud_Attenuated_0 := .more Xcloud_Attenuated_0a (.one Xcloud_Attenuated_0b)
def Icloud_Attenuated_0 (q : Ext × S) : Ycloud_Attenuated_0 := bif (cE q.1 == 2) then (Sum.inl (Icloud_Attenuated_0a q)) else (Sum.inr (Icloud_Attenuated_0b q))
theorem XIcloud_Attenuated_0a (y : Int × List PV) : Icloud_Attenuated_0 (xe (Xcloud_Attenuated_0a y)) = (Sum.inl y) := (show Icloud_Attenuated_0 (xe (Xcloud_Attenuated_0a y)) = (Sum.inl (y.1, ((y.2.map AV.p).map pA_p))) from rfl).trans (by simp only [map_back])
theorem XIcloud_Attenuated_0b (y : Nat × Int × Int × List PV) : Icloud_Attenuated_0 (xe (Xcloud_Attenuated_0b y)) = (Sum.inr y) := (show Icloud_Attenuated_0 (xe (Xcloud_Attenuated_0b y)) = (Sum.inr (y.1, y.2.1, y.2.2.1, ((y.2.2.2.map AV.p).map pA_p))) from rfl).trans (by simp only [map_back])
theorem XIcloud_Attenuated_0 (y : Ycloud_Attenuated_0) : Icloud_Attenuated_0 (xe (XLcloud_Attenuated_0.fn y)) = y := (match y with | .inl y => XIcloud_Attenuated_0a y | .inr y => XIcloud_Attenuated_0b y)
noncomputable abbrev Lcloud_Attenuated_0 : Q → Option Ycloud_Attenuated_0 := lpO env a24.body 0 XLcloud_Attenuated_0
noncomputable abbrev Rcloud_Attenuated_0 : Q → Option (Ext × S) := lpR env a24.body 0
theorem Lcloud_Attenuated_0a_of {s : Q} {y : Int × List PV} (h : Rcloud_Attenuated_0 s = exO (Xcloud_Attenuated_0a y)) : Lcloud_Attenuated_0 s = some (Sum.inl y) := lpO_of Icloud_Attenuated_0 XIcloud_Attenuated_0 (y := (Sum.inl y)) h
theorem Lcloud_Attenuated_0b_of {s : Q} {y : Nat × Int × Int × List PV} (h : Rcloud_Attenuated_0 s = exO (Xcloud_Attenuated_0b y)) : Lcloud_Attenuated_0 s = some (Sum.inr y) := lpO_of Icloud_Attenuated_0 XIcloud_Attenuated_0 (y := (Sum.inr y)) h
theorem Ucloud_Attenuated : uniq ((blocksOf a24.body).map (·.1)) = true := by kernel_rfl
def Bcloud_Attenuated_0a (F : FnT) (N : QO) (E : EO) (_L0 : Q → Option Ycloud_Attenuated_0) (n0 : Nat) (n1 : Nat) (c2 : List PV) (i3 : Int) (i4 : Int) (i5 : Int) (i6 : Int) (c7 : List PV) : Option (Ext × S) :=
  bif (decide (i4 < i3)) then
    bif (decide (((0 : Int) ≤ i4) ∧ (i4 < (n1 : Int)))) then
      bindO (intC .i64 (c2[((Int.toNat i4) * 2)]?)) fun x0 =>
      bindO (intC .i64 (c2[(((Int.toNat i4) * 2) + 1)]?)) fun x1 =>
      bindO (F 75 (RSh.tup [(Prod.mk true [(CK.int .i64), (CK.int .i64)]), (Prod.mk false [(CK.int .i64)])]) [(PV.agg [(PV.int .i64 x0), (PV.int .i64 x1)]), (PV.agg [(PV.int .i64 i5), (PV.int .i64 i6)])]) fun (y2 : ((Int) × ((Int) × (Int)))) =>
      bif (y2.2.2 != (0 : Int)) then
        E (Xcloud_Attenuated_0a (y2.2.2, c7))
      else bif (decide (((0 : Int) ≤ i4) ∧ (i4 < (n0 : Int)))) then
        bindO (Gv.overO c7 (0 + ((Int.toNat i4) * 2)) [(PV.int .i64 y2.1), (PV.int .i64 y2.2.1)]) fun x3 =>
        bindO (F 76 (RSh.agg [(CK.int .i64), (CK.int .i64)]) [(PV.agg [(PV.int .i64 i5), (PV.int .i64 i6)]), (PV.agg [(PV.int .i64 x0), (PV.int .i64 x1)]), (PV.agg [(PV.int .i64 y2.1), (PV.int .i64 y2.2.1)])]) fun (y4 : ((Int) × (Int))) =>
        N (Tcloud_Attenuated_0a n0 n1 c2 i3 (w64 (i4 + (1 : Int))) y4.1 y4.2 x3)
      else none
    else none
  else E (Xcloud_Attenuated_0b (n0, i5, i6, c7))
theorem Bcloud_Attenuated_0a_eq (F : FnT) (N : QO) (E : EO) (L0 : Q → Option Ycloud_Attenuated_0) (n0 : Nat) (n1 : Nat) (c2 : List PV) (i3 : Int) (i4 : Int) (i5 : Int) (i6 : Int) (c7 : List PV) : semB (callP F Ecloud_Attenuated 20) s24 (loopT [⟨0, Ycloud_Attenuated_0, L0, XLcloud_Attenuated_0⟩]) 400 (blkIn a24.body 0) N E (Tcloud_Attenuated_0a n0 n1 c2 i3 i4 i5 i6 c7) = Bcloud_Attenuated_0a F N E L0 n0 n1 c2 i3 i4 i5 i6 c7 := by kernel_rfl
theorem Rcloud_Attenuated_0a_of  (n0 : Nat) (n1 : Nat) (c2 : List PV) (i3 : Int) (i4 : Int) (i5 : Int) (i6 : Int) (c7 : List PV) {r : Ext × S} (h : Bcloud_Attenuated_0a (Fn env) Rcloud_Attenuated_0 exO Lcloud_Attenuated_0 n0 n1 c2 i3 i4 i5 i6 c7 = some r) : Rcloud_Attenuated_0 (Tcloud_Attenuated_0a n0 n1 c2 i3 i4 i5 i6 c7) = some r :=
  lp_of Ecloud_Attenuated_ok (by kernel_rfl) (lo_cons (lpO_ok Ucloud_Attenuated) lo_nil) (by kernel_rfl) ((Bcloud_Attenuated_0a_eq _ _ _ _ _ _ _ _ _ _ _ _).trans h)
def tcloud_Attenuated (F : FnT) (L0 : Q → Option Ycloud_Attenuated_0) (p0n : Nat) (p0c : List PV) (p1 : Int) : Option (((Nat) × (List PV)) × (Int)) :=
  bindO (F 72 (RSh.tup [(Prod.mk false [(CK.int .i64)]), (Prod.mk false [(CK.int .i64)])]) [(PV.list p0n p0c), (PV.int .i64 (24 : Int)), (PV.fn 73 [])]) fun (y0 : ((Int) × (Int))) =>
  bindO (F 64 (RSh.one (CK.int .i64)) [(PV.int .i64 p1)]) fun (y1 : (Int)) =>
  bindO (F 62 (RSh.one (CK.int .i64)) [(PV.list 2 [(PV.int .i64 y0.2), (PV.int .i64 y1)])]) fun (y2 : (Int)) =>
  bif (y2 != (0 : Int)) then
    some ((0, []), y2)
  else bif (decide (((p0n : Int) = (p0n : Int)) ∧ (((0 : Int) ≤ (p0n : Int)) ∧ ((p0n : Int) ≤ (big : Int))))) then
    bindO (L0 (Tcloud_Attenuated_0a (Int.toNat (p0n : Int)) p0n p0c (p0n : Int) (0 : Int) p1 (1 : Int) (rep [(PV.int .i64 (0 : Int)), (PV.int .i64 (0 : Int))] (Int.toNat (p0n : Int))))) fun z =>
    Sum.elim (fun y3 =>
      some ((0, []), y3.1)) (fun y4 =>
      bif (decide ((0 + (y4.1 * 2)) ≤ (List.length y4.2.2.2))) then
        some ((y4.1, (List.take (y4.1 * 2) (List.drop 0 y4.2.2.2))), (0 : Int))
      else none) z
  else none
theorem tcloud_Attenuated_eq (F : FnT) (L0 : Q → Option Ycloud_Attenuated_0) (p0n : Nat) (p0c : List PV) (p1 : Int) : semF (callP F Ecloud_Attenuated 20) s24 (loopT [⟨0, Ycloud_Attenuated_0, L0, XLcloud_Attenuated_0⟩]) 400 a24 [PV.list p0n p0c, PV.int .i64 p1] (fun rv => decR (RSh.tup [(Prod.mk false [CK.list]), (Prod.mk false [(CK.int .i64)])]) rv.pv) = tcloud_Attenuated F L0 p0n p0c p1 := by kernel_rfl
noncomputable abbrev Fcloud_Attenuated (args : List PV) := Fn env 24 (RSh.tup [(Prod.mk false [CK.list]), (Prod.mk false [(CK.int .i64)])]) args
theorem Fcloud_Attenuated_of  (p0n : Nat) (p0c : List PV) (p1 : Int) {res : (((Nat) × (List PV)) × (Int))} (h : tcloud_Attenuated (Fn env) Lcloud_Attenuated_0 p0n p0c p1 = some res) : Fcloud_Attenuated [PV.list p0n p0c, PV.int .i64 p1] = some res :=
  fn_of Ecloud_Attenuated_ok rfl rfl (lo_cons (lpO_ok Ucloud_Attenuated) lo_nil) ((tcloud_Attenuated_eq _ _ _ _ _).trans h)
def Ecloud_UndoneIn : List Entry := [.out 63 (RSh.one (CK.int .i64)), .out 64 (RSh.one (CK.int .i64)), .out 71 (RSh.one (CK.int .i64)), .out 62 (RSh.one (CK.int .i64)), .out 65 (RSh.one (CK.int .i64)), .out 66 (RSh.one CK.list)]
theorem Ecloud_UndoneIn_ok : ∀ e ∈ Ecloud_UndoneIn, EntOK env e := (ent_out (ent_out (ent_out (ent_out (ent_out (ent_out ent_nil))))))
def Tcloud_UndoneIn_0a (n0 : Nat) (c1 : List PV) (n2 : Nat) (c3 : List PV) (n4 : Nat) (i5 : Int) (i6 : Int) (i7 : Int) (c8 : List PV) : Q := ⟨(tm 70 [(9, (AV.p (PV.list n0 c1))), (10, (AV.p (PV.list n2 c3))), (11, (AV.msl 50 0 n4 4)), (52, (AV.p (PV.int .i64 i5))), (53, (AV.p (PV.int .i64 (0 : Int))))]), (mm 70 [(3, (Bk.pcs true [(PV.int .i64 i6), (PV.int .i64 i7)])), (50, (Bk.pcs true c8))])⟩
def Tcloud_UndoneIn_0b (n0 : Nat) (c1 : List PV) (n2 : Nat) (c3 : List PV) (n4 : Nat) (i5 : Int) (i6 : Int) (c7 : List PV) : Q := ⟨(tm 70 [(9, (AV.p (PV.list n0 c1))), (10, (AV.p (PV.list n2 c3))), (11, (AV.msl 50 0 n4 4)), (52, (AV.p (PV.int .i64 i5))), (53, (AV.p (PV.int .i64 i6)))]), (mm 70 [(50, (Bk.pcs true c7))])⟩
def Xcloud_UndoneIn_0a (y : Nat × List PV) : Ext × Q := (Ext.normal, ⟨(tm 70 [(11, (AV.msl 50 0 y.1 4))]), (mm 70 [(50, (Bk.pcs true y.2))])⟩)
def Icloud_UndoneIn_0a (q : Ext × S) : Nat × List PV := ((pA_msl2 (avT q.2 11)), (pB_pcs1 (avM q.2 50)))
abbrev Ycloud_UndoneIn_0 : Type := Nat × List PV
def XLcloud_UndoneIn_0 : XL Ycloud_UndoneIn_0 := .one Xcloud_UndoneIn_0a
def Icloud_UndoneIn_0 (q : Ext × S) : Ycloud_UndoneIn_0 := (Icloud_UndoneIn_0a q)
theorem XIcloud_UndoneIn_0a (y : Nat × List PV) : Icloud_UndoneIn_0 (xe (Xcloud_UndoneIn_0a y)) = y := (show Icloud_UndoneIn_0 (xe (Xcloud_UndoneIn_0a y)) = (y.1, ((y.2.map AV.p).map pA_p)) from rfl).trans (by simp only [map_back])
theorem XIcloud_UndoneIn_0 (y : Ycloud_UndoneIn_0) : Icloud_UndoneIn_0 (xe (XLcloud_UndoneIn_0.fn y)) = y := XIcloud_UndoneIn_0a y
noncomputable abbrev Lcloud_UndoneIn_0 : Q → Option Ycloud_UndoneIn_0 := lpO env a23.body 0 XLcloud_UndoneIn_0
noncomputable abbrev Rcloud_UndoneIn_0 : Q → Option (Ext × S) := lpR env a23.body 0
theorem Lcloud_UndoneIn_0a_of {s : Q} {y : Nat × List PV} (h : Rcloud_UndoneIn_0 s = exO (Xcloud_UndoneIn_0a y)) : Lcloud_UndoneIn_0 s = some y := lpO_of Icloud_UndoneIn_0 XIcloud_UndoneIn_0 (y := y) h
theorem Ucloud_UndoneIn : uniq ((blocksOf a23.body).map (·.1)) = true := by kernel_rfl
def Bcloud_UndoneIn_0a (_F : FnT) (N : QO) (E : EO) (_L0 : Q → Option Ycloud_UndoneIn_0) (n0 : Nat) (c1 : List PV) (n2 : Nat) (c3 : List PV) (n4 : Nat) (i5 : Int) (_i6 : Int) (_i7 : Int) (c8 : List PV) : Option (Ext × S) :=
  bif (decide ((0 : Int) < i5)) then
    bif (decide (((0 : Int) ≤ (0 : Int)) ∧ ((0 : Int) < (n0 : Int)))) then
      bindO (intC .i64 (c1[0]?)) fun x0 =>
      bindO (intC .i64 (c1[1]?)) fun x1 =>
      bif (decide (((0 : Int) ≤ (0 : Int)) ∧ ((0 : Int) < (n2 : Int)))) then
        bindO (intC .i64 (c3[0]?)) fun x2 =>
        bindO (intC .i64 (c3[1]?)) fun x3 =>
        bif (decide (((0 : Int) ≤ (0 : Int)) ∧ ((0 : Int) < (n4 : Int)))) then
          bindO (Gv.overO c8 0 [(PV.int .i64 x0), (PV.int .i64 x1), (PV.int .i64 x2), (PV.int .i64 x3)]) fun x4 =>
          N (Tcloud_UndoneIn_0b n0 c1 n2 c3 n4 i5 (1 : Int) x4)
        else none
      else none
    else none
  else E (Xcloud_UndoneIn_0a (n4, c8))
theorem Bcloud_UndoneIn_0a_eq (F : FnT) (N : QO) (E : EO) (L0 : Q → Option Ycloud_UndoneIn_0) (n0 : Nat) (c1 : List PV) (n2 : Nat) (c3 : List PV) (n4 : Nat) (i5 : Int) (i6 : Int) (i7 : Int) (c8 : List PV) : semB (callP F Ecloud_UndoneIn 20) s23 (loopT [⟨0, Ycloud_UndoneIn_0, L0, XLcloud_UndoneIn_0⟩]) 400 (blkIn a23.body 0) N E (Tcloud_UndoneIn_0a n0 c1 n2 c3 n4 i5 i6 i7 c8) = Bcloud_UndoneIn_0a F N E L0 n0 c1 n2 c3 n4 i5 i6 i7 c8 := by kernel_rfl
theorem Rcloud_UndoneIn_0a_of  (n0 : Nat) (c1 : List PV) (n2 : Nat) (c3 : List PV) (n4 : Nat) (i5 : Int) (i6 : Int) (i7 : Int) (c8 : List PV) {r : Ext × S} (h : Bcloud_UndoneIn_0a (Fn env) Rcloud_UndoneIn_0 exO Lcloud_UndoneIn_0 n0 c1 n2 c3 n4 i5 i6 i7 c8 = some r) : Rcloud_UndoneIn_0 (Tcloud_UndoneIn_0a n0 c1 n2 c3 n4 i5 i6 i7 c8) = some r :=
  lp_of Ecloud_UndoneIn_ok (by kernel_rfl) (lo_cons (lpO_ok Ucloud_UndoneIn) lo_nil) (by kernel_rfl) ((Bcloud_UndoneIn_0a_eq _ _ _ _ _ _ _ _ _ _ _ _ _).trans h)
def Bcloud_UndoneIn_0b (_F : FnT) (N : QO) (E : EO) (_L0 : Q → Option Ycloud_UndoneIn_0) (n0 : Nat) (c1 : List PV) (n2 : Nat) (c3 : List PV) (n4 : Nat) (i5 : Int) (i6 : Int) (c7 : List PV) : Option (Ext × S) :=
  bif (decide (i6 < i5)) then
    bif (decide (((0 : Int) ≤ i6) ∧ (i6 < (n0 : Int)))) then
      bindO (intC .i64 (c1[((Int.toNat i6) * 2)]?)) fun x0 =>
      bindO (intC .i64 (c1[(((Int.toNat i6) * 2) + 1)]?)) fun x1 =>
      bif (decide (((0 : Int) ≤ i6) ∧ (i6 < (n2 : Int)))) then
        bindO (intC .i64 (c3[((Int.toNat i6) * 2)]?)) fun x2 =>
        bindO (intC .i64 (c3[(((Int.toNat i6) * 2) + 1)]?)) fun x3 =>
        bif (decide (((0 : Int) ≤ i6) ∧ (i6 < (n4 : Int)))) then
          bindO (Gv.overO c7 (0 + ((Int.toNat i6) * 4)) [(PV.int .i64 x0), (PV.int .i64 x1), (PV.int .i64 x2), (PV.int .i64 x3)]) fun x4 =>
          N (Tcloud_UndoneIn_0b n0 c1 n2 c3 n4 i5 (w64 (i6 + (1 : Int))) x4)
        else none
      else none
    else none
  else E (Xcloud_UndoneIn_0a (n4, c7))
theorem Bcloud_UndoneIn_0b_eq (F : FnT) (N : QO) (E : EO) (L0 : Q → Option Ycloud_UndoneIn_0) (n0 : Nat) (c1 : List PV) (n2 : Nat) (c3 : List PV) (n4 : Nat) (i5 : Int) (i6 : Int) (c7 : List PV) : semB (callP F Ecloud_UndoneIn 20) s23 (loopT [⟨0, Ycloud_UndoneIn_0, L0, XLcloud_UndoneIn_0⟩]) 400 (blkIn a23.body 0) N E (Tcloud_UndoneIn_0b n0 c1 n2 c3 n4 i5 i6 c7) = Bcloud_UndoneIn_0b F N E L0 n0 c1 n2 c3 n4 i5 i6 c7 := by kernel_rfl
theorem Rcloud_UndoneIn_0b_of  (n0 : Nat) (c1 : List PV) (n2 : Nat) (c3 : List PV) (n4 : Nat) (i5 : Int) (i6 : Int) (c7 : List PV) {r : Ext × S} (h : Bcloud_UndoneIn_0b (Fn env) Rcloud_UndoneIn_0 exO Lcloud_UndoneIn_0 n0 c1 n2 c3 n4 i5 i6 c7 = some r) : Rcloud_UndoneIn_0 (Tcloud_UndoneIn_0b n0 c1 n2 c3 n4 i5 i6 c7) = some r :=
  lp_of Ecloud_UndoneIn_ok (by kernel_rfl) (lo_cons (lpO_ok Ucloud_UndoneIn) lo_nil) (by kernel_rfl) ((Bcloud_UndoneIn_0b_eq _ _ _ _ _ _ _ _ _ _ _ _).trans h)
def tcloud_UndoneIn (F : FnT) (L0 : Q → Option Ycloud_UndoneIn_0) (p0n : Nat) (p0c : List PV) (p1_0 : Int) (p1_1 : Int) : Option (((Nat) × (List PV)) × (Int)) :=
  bindO (F 63 (RSh.one (CK.int .i64)) [(PV.list p0n p0c)]) fun (y0 : (Int)) =>
  bindO (F 64 (RSh.one (CK.int .i64)) [(PV.int .i64 p1_0)]) fun (y1 : (Int)) =>
  bindO (F 64 (RSh.one (CK.int .i64)) [(PV.int .i64 p1_1)]) fun (y2 : (Int)) =>
  bif (decide (p1_0 > p1_1)) then
    bindO (F 71 (RSh.one (CK.int .i64)) [(PV.bool true), (PV.int .i64 (9 : Int))]) fun (y3 : (Int)) =>
    bindO (F 62 (RSh.one (CK.int .i64)) [(PV.list 4 [(PV.int .i64 y0), (PV.int .i64 y1), (PV.int .i64 y2), (PV.int .i64 y3)])]) fun (y4 : (Int)) =>
    bif (y4 != (0 : Int)) then
      some ((0, []), y4)
    else bindO (F 65 (RSh.one (CK.int .i64)) [(PV.list p0n p0c), (PV.int .i64 p1_0)]) fun (y5 : (Int)) =>
    bif (y5 != (0 : Int)) then
      some ((0, []), y5)
    else bindO (F 66 (RSh.one CK.list) [(PV.list p0n p0c), (PV.int .i64 p1_1)]) fun (y6 : ((Nat) × (List PV))) =>
    bindO (F 66 (RSh.one CK.list) [(PV.list p0n p0c), (PV.int .i64 p1_0)]) fun (y7 : ((Nat) × (List PV))) =>
    bif (decide (((p0n : Int) = (p0n : Int)) ∧ (((0 : Int) ≤ (p0n : Int)) ∧ ((p0n : Int) ≤ (big : Int))))) then
      bindO (L0 (Tcloud_UndoneIn_0a y6.1 y6.2 y7.1 y7.2 (Int.toNat (p0n : Int)) ((Int.toNat (p0n : Int)) : Int) p1_0 p1_1 (rep [(PV.int .i64 (0 : Int)), (PV.int .i64 (0 : Int)), (PV.int .i64 (0 : Int)), (PV.int .i64 (0 : Int))] (Int.toNat (p0n : Int))))) fun y8 =>
      bif (decide ((0 + (y8.1 * 4)) ≤ (List.length y8.2))) then
        some ((y8.1, (List.take (y8.1 * 4) (List.drop 0 y8.2))), (0 : Int))
      else none
    else none
  else bindO (F 71 (RSh.one (CK.int .i64)) [(PV.bool false), (PV.int .i64 (9 : Int))]) fun (y9 : (Int)) =>
  bindO (F 62 (RSh.one (CK.int .i64)) [(PV.list 4 [(PV.int .i64 y0), (PV.int .i64 y1), (PV.int .i64 y2), (PV.int .i64 y9)])]) fun (y10 : (Int)) =>
  bif (y10 != (0 : Int)) then
    some ((0, []), y10)
  else bindO (F 65 (RSh.one (CK.int .i64)) [(PV.list p0n p0c), (PV.int .i64 p1_0)]) fun (y11 : (Int)) =>
  bif (y11 != (0 : Int)) then
    some ((0, []), y11)
  else bindO (F 66 (RSh.one CK.list) [(PV.list p0n p0c), (PV.int .i64 p1_1)]) fun (y12 : ((Nat) × (List PV))) =>
  bindO (F 66 (RSh.one CK.list) [(PV.list p0n p0c), (PV.int .i64 p1_0)]) fun (y13 : ((Nat) × (List PV))) =>
  bif (decide (((p0n : Int) = (p0n : Int)) ∧ (((0 : Int) ≤ (p0n : Int)) ∧ ((p0n : Int) ≤ (big : Int))))) then
    bindO (L0 (Tcloud_UndoneIn_0a y12.1 y12.2 y13.1 y13.2 (Int.toNat (p0n : Int)) ((Int.toNat (p0n : Int)) : Int) p1_0 p1_1 (rep [(PV.int .i64 (0 : Int)), (PV.int .i64 (0 : Int)), (PV.int .i64 (0 : Int)), (PV.int .i64 (0 : Int))] (Int.toNat (p0n : Int))))) fun y14 =>
    bif (decide ((0 + (y14.1 * 4)) ≤ (List.length y14.2))) then
      some ((y14.1, (List.take (y14.1 * 4) (List.drop 0 y14.2))), (0 : Int))
    else none
  else none
theorem tcloud_UndoneIn_eq (F : FnT) (L0 : Q → Option Ycloud_UndoneIn_0) (p0n : Nat) (p0c : List PV) (p1_0 : Int) (p1_1 : Int) : semF (callP F Ecloud_UndoneIn 20) s23 (loopT [⟨0, Ycloud_UndoneIn_0, L0, XLcloud_UndoneIn_0⟩]) 400 a23 [PV.list p0n p0c, PV.agg [PV.int .i64 p1_0, PV.int .i64 p1_1]] (fun rv => decR (RSh.tup [(Prod.mk false [CK.list]), (Prod.mk false [(CK.int .i64)])]) rv.pv) = tcloud_UndoneIn F L0 p0n p0c p1_0 p1_1 := by kernel_rfl
noncomputable abbrev Fcloud_UndoneIn (args : List PV) := Fn env 23 (RSh.tup [(Prod.mk false [CK.list]), (Prod.mk false [(CK.int .i64)])]) args
theorem Fcloud_UndoneIn_of  (p0n : Nat) (p0c : List PV) (p1_0 : Int) (p1_1 : Int) {res : (((Nat) × (List PV)) × (Int))} (h : tcloud_UndoneIn (Fn env) Lcloud_UndoneIn_0 p0n p0c p1_0 p1_1 = some res) : Fcloud_UndoneIn [PV.list p0n p0c, PV.agg [PV.int .i64 p1_0, PV.int .i64 p1_1]] = some res :=
  fn_of Ecloud_UndoneIn_ok rfl rfl (lo_cons (lpO_ok Ucloud_UndoneIn) lo_nil) ((tcloud_UndoneIn_eq _ _ _ _ _ _).trans h)
def Eb_IsLowest : List Entry := [.out 114 (RSh.one (CK.int .i64))]
theorem Eb_IsLowest_ok : ∀ e ∈ Eb_IsLowest, EntOK env e := (ent_out ent_nil)
def tb_IsLowest (F : FnT) (p0_0 : Int) (p0_1 : Int) : Option (Bool) :=
  bif (decide (p0_1 > (0 : Int))) then
    bindO (F 114 (RSh.one (CK.int .i64)) [(PV.int .i64 p0_0), (PV.int .i64 p0_1)]) fun (y0 : (Int)) =>
    bif (y0 == (1 : Int)) then
      some true
    else some false
  else some false
theorem tb_IsLowest_eq (F : FnT) (p0_0 : Int) (p0_1 : Int) : semF (callP F Eb_IsLowest 20) s82 (loopT []) 400 a82 [PV.agg [PV.int .i64 p0_0, PV.int .i64 p0_1]] (fun rv => decR (RSh.one CK.bool) rv.pv) = tb_IsLowest F p0_0 p0_1 := by kernel_rfl
noncomputable abbrev Fb_IsLowest (args : List PV) := Fn env 82 (RSh.one CK.bool) args
theorem Fb_IsLowest_of  (p0_0 : Int) (p0_1 : Int) {res : (Bool)} (h : tb_IsLowest (Fn env) p0_0 p0_1 = some res) : Fb_IsLowest [PV.agg [PV.int .i64 p0_0, PV.int .i64 p0_1]] = some res :=
  fn_of Eb_IsLowest_ok rfl rfl lo_nil ((tb_IsLowest_eq _ _ _).trans h)
def Er_PartErr : List Entry := [.out 82 (RSh.one CK.bool), .out 31 (RSh.one CK.bool)]
theorem Er_PartErr_ok : ∀ e ∈ Er_PartErr, EntOK env e := (ent_out (ent_out ent_nil))
def tr_PartErr (F : FnT) (p0_0 : Int) (p0_1 : Int) : Option (Int) :=
  bindO (F 82 (RSh.one CK.bool) [(PV.agg [(PV.int .i64 p0_0), (PV.int .i64 p0_1)])]) fun (y0 : (Bool)) =>
  bif y0 then
    bindO (F 31 (RSh.one CK.bool) [(PV.int .i64 p0_0), (PV.int .i64 (0 : Int)), (PV.int .i64 p0_1)]) fun (y1 : (Bool)) =>
    bif y1 then
      bif (decide (p0_1 > (1000000000 : Int))) then
        some (2 : Int)
      else some (0 : Int)
    else some (2 : Int)
  else some (3 : Int)
theorem tr_PartErr_eq (F : FnT) (p0_0 : Int) (p0_1 : Int) : semF (callP F Er_PartErr 20) s32 (loopT []) 400 a32 [PV.agg [PV.int .i64 p0_0, PV.int .i64 p0_1]] (fun rv => decR (RSh.one (CK.int .i64)) rv.pv) = tr_PartErr F p0_0 p0_1 := by kernel_rfl
noncomputable abbrev Fr_PartErr (args : List PV) := Fn env 32 (RSh.one (CK.int .i64)) args
theorem Fr_PartErr_of  (p0_0 : Int) (p0_1 : Int) {res : (Int)} (h : tr_PartErr (Fn env) p0_0 p0_1 = some res) : Fr_PartErr [PV.agg [PV.int .i64 p0_0, PV.int .i64 p0_1]] = some res :=
  fn_of Er_PartErr_ok rfl rfl lo_nil ((tr_PartErr_eq _ _ _).trans h)
def Eb_CopyFracs : List Entry := []
theorem Eb_CopyFracs_ok : ∀ e ∈ Eb_CopyFracs, EntOK env e := ent_nil
def tb_CopyFracs (_F : FnT) (p0n : Nat) (p0c : List PV) : Option ((Nat) × (List PV)) :=
  bif (decide (p0n = 0)) then
    some (0, [])
  else bif (decide ((List.length p0c) = (p0n * 2))) then
    bif (decide ((0 = 0) ∧ ((0 + p0n) ≤ big))) then
      bif (decide ((0 + p0n) = (0 + p0n))) then
        some ((0 + p0n), ([] ++ p0c))
      else none
    else none
  else none
theorem tb_CopyFracs_eq (F : FnT) (p0n : Nat) (p0c : List PV) : semF (callP F Eb_CopyFracs 20) s25 (loopT []) 400 a25 [PV.list p0n p0c] (fun rv => decR (RSh.one CK.list) rv.pv) = tb_CopyFracs F p0n p0c := by kernel_rfl
noncomputable abbrev Fb_CopyFracs (args : List PV) := Fn env 25 (RSh.one CK.list) args
theorem Fb_CopyFracs_of  (p0n : Nat) (p0c : List PV) {res : ((Nat) × (List PV))} (h : tb_CopyFracs (Fn env) p0n p0c = some res) : Fb_CopyFracs [PV.list p0n p0c] = some res :=
  fn_of Eb_CopyFracs_ok rfl rfl lo_nil ((tb_CopyFracs_eq _ _ _).trans h)
end Gv

/- What the functions do, round by round: ZC8. -/
namespace Gv
open Go
set_option maxRecDepth 100000
def Er_SameSpans : List Entry := []
theorem Er_SameSpans_ok : ∀ e ∈ Er_SameSpans, EntOK env e := ent_nil
def Tr_SameSpans_0a (n0 : Nat) (c1 : List PV) (n2 : Nat) (c3 : List PV) (i4 : Int) : Q := ⟨(tm 26 [(0, (AV.p (PV.list n0 c1))), (1, (AV.p (PV.list n2 c3))), (5, (AV.p (PV.int .i64 i4)))]), (mm 26 [])⟩
def Xr_SameSpans_0a (_y : Unit) : Ext × Q := (Ext.ret, ⟨(tm 26 [(4, (AV.p (PV.bool false)))]), (mm 26 [])⟩)
def Ir_SameSpans_0a (_q : Ext × S) : Unit := ()
def Xr_SameSpans_0b (_y : Unit) : Ext × Q := (Ext.normal, ⟨(tm 26 []), (mm 26 [])⟩)
def Ir_SameSpans_0b (_q : Ext × S) : Unit := ()
abbrev Yr_SameSpans_0 : Type := (Unit) ⊕ ((Unit))
def XLr_SameSpans_0 : XL Yr_SameSpans_0 := .more Xr_SameSpans_0a (.one Xr_SameSpans_0b)
def Ir_SameSpans_0 (q : Ext × S) : Yr_SameSpans_0 := bif (cE q.1 == 2) then (Sum.inl (Ir_SameSpans_0a q)) else (Sum.inr (Ir_SameSpans_0b q))
theorem XIr_SameSpans_0a (y : Unit) : Ir_SameSpans_0 (xe (Xr_SameSpans_0a y)) = (Sum.inl y) := rfl
theorem XIr_SameSpans_0b (y : Unit) : Ir_SameSpans_0 (xe (Xr_SameSpans_0b y)) = (Sum.inr y) := rfl
theorem XIr_SameSpans_0 (y : Yr_SameSpans_0) : Ir_SameSpans_0 (xe (XLr_SameSpans_0.fn y)) = y := (match y with | .inl y => XIr_SameSpans_0a y | .inr y => XIr_SameSpans_0b y)
noncomputable abbrev Lr_SameSpans_0 : Q → Option Yr_SameSpans_0 := lpO env a27.body 0 XLr_SameSpans_0
noncomputable abbrev Rr_SameSpans_0 : Q → Option (Ext × S) := lpR env a27.body 0
theorem Lr_SameSpans_0b_of {s : Q} {y : Unit} (h : Rr_SameSpans_0 s = exO (Xr_SameSpans_0b y)) : Lr_SameSpans_0 s = some (Sum.inr y) := lpO_of Ir_SameSpans_0 XIr_SameSpans_0 (y := (Sum.inr y)) h
theorem Ur_SameSpans : uniq ((blocksOf a27.body).map (·.1)) = true := by kernel_rfl
def Br_SameSpans_0a (_F : FnT) (N : QO) (E : EO) (_L0 : Q → Option Yr_SameSpans_0) (n0 : Nat) (c1 : List PV) (n2 : Nat) (c3 : List PV) (i4 : Int) : Option (Ext × S) :=
  bif (decide (i4 < (n0 : Int))) then
    bif (decide (((0 : Int) ≤ i4) ∧ (i4 < (n0 : Int)))) then
      bindO (intC .i64 (c1[((Int.toNat i4) * 4)]?)) fun x0 =>
      bindO (intC .i64 (c1[(((Int.toNat i4) * 4) + 1)]?)) fun x1 =>
      bindO (intC .i64 (c1[((((Int.toNat i4) * 4) + 1) + 1)]?)) fun x2 =>
      bindO (intC .i64 (c1[(((((Int.toNat i4) * 4) + 1) + 1) + 1)]?)) fun x3 =>
      bif (decide (((0 : Int) ≤ i4) ∧ (i4 < (n2 : Int)))) then
        bindO (intC .i64 (c3[((Int.toNat i4) * 4)]?)) fun x4 =>
        bindO (intC .i64 (c3[(((Int.toNat i4) * 4) + 1)]?)) fun x5 =>
        bindO (intC .i64 (c3[((((Int.toNat i4) * 4) + 1) + 1)]?)) fun x6 =>
        bindO (intC .i64 (c3[(((((Int.toNat i4) * 4) + 1) + 1) + 1)]?)) fun x7 =>
        bif (!((x0 == x4) && ((x1 == x5) && ((x2 == x6) && ((x3 == x7) && true))))) then
          E (Xr_SameSpans_0a ())
        else N (Tr_SameSpans_0a n0 c1 n2 c3 (w64 (i4 + (1 : Int))))
      else none
    else none
  else E (Xr_SameSpans_0b ())
theorem Br_SameSpans_0a_eq (F : FnT) (N : QO) (E : EO) (L0 : Q → Option Yr_SameSpans_0) (n0 : Nat) (c1 : List PV) (n2 : Nat) (c3 : List PV) (i4 : Int) : semB (callP F Er_SameSpans 20) s27 (loopT [⟨0, Yr_SameSpans_0, L0, XLr_SameSpans_0⟩]) 400 (blkIn a27.body 0) N E (Tr_SameSpans_0a n0 c1 n2 c3 i4) = Br_SameSpans_0a F N E L0 n0 c1 n2 c3 i4 := by kernel_rfl
theorem Rr_SameSpans_0a_of  (n0 : Nat) (c1 : List PV) (n2 : Nat) (c3 : List PV) (i4 : Int) {r : Ext × S} (h : Br_SameSpans_0a (Fn env) Rr_SameSpans_0 exO Lr_SameSpans_0 n0 c1 n2 c3 i4 = some r) : Rr_SameSpans_0 (Tr_SameSpans_0a n0 c1 n2 c3 i4) = some r :=
  lp_of Er_SameSpans_ok (by kernel_rfl) (lo_cons (lpO_ok Ur_SameSpans) lo_nil) (by kernel_rfl) ((Br_SameSpans_0a_eq _ _ _ _ _ _ _ _ _).trans h)
def tr_SameSpans (_F : FnT) (L0 : Q → Option Yr_SameSpans_0) (p0n : Nat) (p0c : List PV) (p1n : Nat) (p1c : List PV) : Option (Bool) :=
  bif ((p0n : Int) != (p1n : Int)) then
    some false
  else bindO (L0 (Tr_SameSpans_0a p0n p0c p1n p1c (0 : Int))) fun z =>
  Sum.elim (fun _y0 =>
    some false) (fun _y1 =>
    some true) z
theorem tr_SameSpans_eq (F : FnT) (L0 : Q → Option Yr_SameSpans_0) (p0n : Nat) (p0c : List PV) (p1n : Nat) (p1c : List PV) : semF (callP F Er_SameSpans 20) s27 (loopT [⟨0, Yr_SameSpans_0, L0, XLr_SameSpans_0⟩]) 400 a27 [PV.list p0n p0c, PV.list p1n p1c] (fun rv => decR (RSh.one CK.bool) rv.pv) = tr_SameSpans F L0 p0n p0c p1n p1c := by kernel_rfl
noncomputable abbrev Fr_SameSpans (args : List PV) := Fn env 27 (RSh.one CK.bool) args
theorem Fr_SameSpans_of  (p0n : Nat) (p0c : List PV) (p1n : Nat) (p1c : List PV) {res : (Bool)} (h : tr_SameSpans (Fn env) Lr_SameSpans_0 p0n p0c p1n p1c = some res) : Fr_SameSpans [PV.list p0n p0c, PV.list p1n p1c] = some res :=
  fn_of Er_SameSpans_ok rfl rfl (lo_cons (lpO_ok Ur_SameSpans) lo_nil) ((tr_SameSpans_eq _ _ _ _ _ _).trans h)
def Er_Spans : List Entry := [.out 20 (RSh.one CK.list)]
theorem Er_Spans_ok : ∀ e ∈ Er_Spans, EntOK env e := (ent_out ent_nil)
def Tr_Spans_0a (n0 : Nat) (c1 : List PV) (n2 : Nat) (c3 : List PV) (n4 : Nat) (c5 : List PV) (i6 : Int) (i7 : Int) : Q := ⟨(tm 36 [(0, (AV.p (PV.list n0 c1))), (5, (AV.p (PV.list n2 c3))), (6, (AV.p (PV.list n4 c5))), (7, AV.nilS), (8, (AV.p (PV.int .i64 (0 : Int))))]), (mm 36 [(3, (Bk.pcs true [(PV.int .i64 i6), (PV.int .i64 i7)]))])⟩
def Tr_Spans_0b (n0 : Nat) (c1 : List PV) (n2 : Nat) (c3 : List PV) (n4 : Nat) (c5 : List PV) (n6 : Nat) (c7 : List PV) (i8 : Int) (n9 : Nat) : Q := ⟨(tm 36 [(0, (AV.p (PV.list n0 c1))), (5, (AV.p (PV.list n2 c3))), (6, (AV.p (PV.list n4 c5))), (7, (AV.app 34 n6 4 c7)), (8, (AV.p (PV.int .i64 i8)))]), (mm 36 [(34, (Bk.buf n9))])⟩
def Xr_Spans_0a (_y : Unit) : Ext × Q := (Ext.normal, ⟨(tm 36 [(7, AV.nilS)]), (mm 36 [])⟩)
def Ir_Spans_0a (_q : Ext × S) : Unit := ()
def Xr_Spans_0b (y : Nat × List PV × Nat) : Ext × Q := (Ext.normal, ⟨(tm 36 [(7, (AV.app 34 y.1 4 y.2.1))]), (mm 36 [(34, (Bk.buf y.2.2))])⟩)
def Ir_Spans_0b (q : Ext × S) : Nat × List PV × Nat := ((pA_app1 (avT q.2 7)), (pA_app3 (avT q.2 7)), (pB_buf0 (avM q.2 34)))
abbrev Yr_Spans_0 : Type := (Unit) ⊕ ((Nat × List PV × Nat))
def XLr_Spans_0 : XL Yr_Spans_0 := .more Xr_Spans_0a (.one Xr_Spans_0b)
def Ir_Spans_0 (q : Ext × S) : Yr_Spans_0 := bif (cA (avT q.2 7) == 1) then (Sum.inl (Ir_Spans_0a q)) else (Sum.inr (Ir_Spans_0b q))
theorem XIr_Spans_0a (y : Unit) : Ir_Spans_0 (xe (Xr_Spans_0a y)) = (Sum.inl y) := rfl
theorem XIr_Spans_0b (y : Nat × List PV × Nat) : Ir_Spans_0 (xe (Xr_Spans_0b y)) = (Sum.inr y) := rfl
theorem XIr_Spans_0 (y : Yr_Spans_0) : Ir_Spans_0 (xe (XLr_Spans_0.fn y)) = y := (match y with | .inl y => XIr_Spans_0a y | .inr y => XIr_Spans_0b y)
noncomputable abbrev Lr_Spans_0 : Q → Option Yr_Spans_0 := lpO env a28.body 0 XLr_Spans_0
noncomputable abbrev Rr_Spans_0 : Q → Option (Ext × S) := lpR env a28.body 0
theorem Lr_Spans_0b_of {s : Q} {y : Nat × List PV × Nat} (h : Rr_Spans_0 s = exO (Xr_Spans_0b y)) : Lr_Spans_0 s = some (Sum.inr y) := lpO_of Ir_Spans_0 XIr_Spans_0 (y := (Sum.inr y)) h
theorem Ur_Spans : uniq ((blocksOf a28.body).map (·.1)) = true := by kernel_rfl
def Br_Spans_0a (_F : FnT) (N : QO) (E : EO) (_L0 : Q → Option Yr_Spans_0) (n0 : Nat) (c1 : List PV) (n2 : Nat) (c3 : List PV) (n4 : Nat) (c5 : List PV) (_i6 : Int) (_i7 : Int) : Option (Ext × S) :=
  bif (decide ((0 : Int) < (n0 : Int))) then
    bif (decide (((0 : Int) ≤ (0 : Int)) ∧ ((0 : Int) < (n2 : Int)))) then
      bindO (intC .i64 (c3[0]?)) fun x0 =>
      bindO (intC .i64 (c3[1]?)) fun x1 =>
      bif (decide (((0 : Int) ≤ (0 : Int)) ∧ ((0 : Int) < (n4 : Int)))) then
        bindO (intC .i64 (c5[0]?)) fun x2 =>
        bindO (intC .i64 (c5[1]?)) fun x3 =>
        N (Tr_Spans_0b n0 c1 n2 c3 n4 c5 1 [(PV.int .i64 x0), (PV.int .i64 x1), (PV.int .i64 x2), (PV.int .i64 x3)] (1 : Int) 1)
      else none
    else none
  else E (Xr_Spans_0a ())
theorem Br_Spans_0a_eq (F : FnT) (N : QO) (E : EO) (L0 : Q → Option Yr_Spans_0) (n0 : Nat) (c1 : List PV) (n2 : Nat) (c3 : List PV) (n4 : Nat) (c5 : List PV) (i6 : Int) (i7 : Int) : semB (callP F Er_Spans 20) s28 (loopT [⟨0, Yr_Spans_0, L0, XLr_Spans_0⟩]) 400 (blkIn a28.body 0) N E (Tr_Spans_0a n0 c1 n2 c3 n4 c5 i6 i7) = Br_Spans_0a F N E L0 n0 c1 n2 c3 n4 c5 i6 i7 := by kernel_rfl
theorem Rr_Spans_0a_of  (n0 : Nat) (c1 : List PV) (n2 : Nat) (c3 : List PV) (n4 : Nat) (c5 : List PV) (i6 : Int) (i7 : Int) {r : Ext × S} (h : Br_Spans_0a (Fn env) Rr_Spans_0 exO Lr_Spans_0 n0 c1 n2 c3 n4 c5 i6 i7 = some r) : Rr_Spans_0 (Tr_Spans_0a n0 c1 n2 c3 n4 c5 i6 i7) = some r :=
  lp_of Er_Spans_ok (by kernel_rfl) (lo_cons (lpO_ok Ur_Spans) lo_nil) (by kernel_rfl) ((Br_Spans_0a_eq _ _ _ _ _ _ _ _ _ _ _ _).trans h)
def Br_Spans_0b (_F : FnT) (N : QO) (E : EO) (_L0 : Q → Option Yr_Spans_0) (n0 : Nat) (c1 : List PV) (n2 : Nat) (c3 : List PV) (n4 : Nat) (c5 : List PV) (n6 : Nat) (c7 : List PV) (i8 : Int) (n9 : Nat) : Option (Ext × S) :=
  bif (decide (i8 < (n0 : Int))) then
    bif (decide (((0 : Int) ≤ i8) ∧ (i8 < (n2 : Int)))) then
      bindO (intC .i64 (c3[((Int.toNat i8) * 2)]?)) fun x0 =>
      bindO (intC .i64 (c3[(((Int.toNat i8) * 2) + 1)]?)) fun x1 =>
      bif (decide (((0 : Int) ≤ i8) ∧ (i8 < (n4 : Int)))) then
        bindO (intC .i64 (c5[((Int.toNat i8) * 2)]?)) fun x2 =>
        bindO (intC .i64 (c5[(((Int.toNat i8) * 2) + 1)]?)) fun x3 =>
        bif (decide ((n9 = n6) ∧ ((n6 + 1) ≤ big))) then
          N (Tr_Spans_0b n0 c1 n2 c3 n4 c5 (n6 + 1) (c7 ++ [(PV.int .i64 x0), (PV.int .i64 x1), (PV.int .i64 x2), (PV.int .i64 x3)]) (w64 (i8 + (1 : Int))) (n6 + 1))
        else none
      else none
    else none
  else E (Xr_Spans_0b (n6, c7, n9))
theorem Br_Spans_0b_eq (F : FnT) (N : QO) (E : EO) (L0 : Q → Option Yr_Spans_0) (n0 : Nat) (c1 : List PV) (n2 : Nat) (c3 : List PV) (n4 : Nat) (c5 : List PV) (n6 : Nat) (c7 : List PV) (i8 : Int) (n9 : Nat) : semB (callP F Er_Spans 20) s28 (loopT [⟨0, Yr_Spans_0, L0, XLr_Spans_0⟩]) 400 (blkIn a28.body 0) N E (Tr_Spans_0b n0 c1 n2 c3 n4 c5 n6 c7 i8 n9) = Br_Spans_0b F N E L0 n0 c1 n2 c3 n4 c5 n6 c7 i8 n9 := by kernel_rfl
theorem Rr_Spans_0b_of  (n0 : Nat) (c1 : List PV) (n2 : Nat) (c3 : List PV) (n4 : Nat) (c5 : List PV) (n6 : Nat) (c7 : List PV) (i8 : Int) (n9 : Nat) {r : Ext × S} (h : Br_Spans_0b (Fn env) Rr_Spans_0 exO Lr_Spans_0 n0 c1 n2 c3 n4 c5 n6 c7 i8 n9 = some r) : Rr_Spans_0 (Tr_Spans_0b n0 c1 n2 c3 n4 c5 n6 c7 i8 n9) = some r :=
  lp_of Er_Spans_ok (by kernel_rfl) (lo_cons (lpO_ok Ur_Spans) lo_nil) (by kernel_rfl) ((Br_Spans_0b_eq _ _ _ _ _ _ _ _ _ _ _ _ _ _).trans h)
def tr_Spans (F : FnT) (L0 : Q → Option Yr_Spans_0) (p0n : Nat) (p0c : List PV) (p1_0 : Int) (p1_1 : Int) : Option ((Nat) × (List PV)) :=
  bindO (F 20 (RSh.one CK.list) [(PV.list p0n p0c), (PV.int .i64 p1_1)]) fun (y0 : ((Nat) × (List PV))) =>
  bindO (F 20 (RSh.one CK.list) [(PV.list p0n p0c), (PV.int .i64 p1_0)]) fun (y1 : ((Nat) × (List PV))) =>
  bindO (L0 (Tr_Spans_0a p0n p0c y0.1 y0.2 y1.1 y1.2 p1_0 p1_1)) fun z =>
  Sum.elim (fun _y2 =>
    some (0, [])) (fun y3 =>
    bif (decide (y3.2.2 = y3.1)) then
      some (y3.1, y3.2.1)
    else none) z
theorem tr_Spans_eq (F : FnT) (L0 : Q → Option Yr_Spans_0) (p0n : Nat) (p0c : List PV) (p1_0 : Int) (p1_1 : Int) : semF (callP F Er_Spans 20) s28 (loopT [⟨0, Yr_Spans_0, L0, XLr_Spans_0⟩]) 400 a28 [PV.list p0n p0c, PV.agg [PV.int .i64 p1_0, PV.int .i64 p1_1]] (fun rv => decR (RSh.one CK.list) rv.pv) = tr_Spans F L0 p0n p0c p1_0 p1_1 := by kernel_rfl
noncomputable abbrev Fr_Spans (args : List PV) := Fn env 28 (RSh.one CK.list) args
theorem Fr_Spans_of  (p0n : Nat) (p0c : List PV) (p1_0 : Int) (p1_1 : Int) {res : ((Nat) × (List PV))} (h : tr_Spans (Fn env) Lr_Spans_0 p0n p0c p1_0 p1_1 = some res) : Fr_Spans [PV.list p0n p0c, PV.agg [PV.int .i64 p1_0, PV.int .i64 p1_1]] = some res :=
  fn_of Er_Spans_ok rfl rfl (lo_cons (lpO_ok Ur_Spans) lo_nil) ((tr_Spans_eq _ _ _ _ _ _).trans h)
def Er_SharesErr : List Entry := [.out 32 (RSh.one (CK.int .i64))]
theorem Er_SharesErr_ok : ∀ e ∈ Er_SharesErr, EntOK env e := (ent_out ent_nil)
def Tr_SharesErr_0a (n0 : Nat) (c1 : List PV) (i2 : Int) : Q := ⟨(tm 25 [(0, (AV.p (PV.list n0 c1))), (3, (AV.p (PV.int .i64 i2)))]), (mm 25 [])⟩
def Xr_SharesErr_0a (y : Int) : Ext × Q := (Ext.ret, ⟨(tm 25 [(2, (AV.p (PV.int .i64 y)))]), (mm 25 [])⟩)
def Ir_SharesErr_0a (q : Ext × S) : Int := (pP_int1 (pA_p (avT q.2 2)))
def Xr_SharesErr_0b (_y : Unit) : Ext × Q := (Ext.normal, ⟨(tm 25 []), (mm 25 [])⟩)
def Ir_SharesErr_0b (_q : Ext × S) : Unit := ()
abbrev Yr_SharesErr_0 : Type := (Int) ⊕ ((Unit))
def XLr_SharesErr_0 : XL Yr_SharesErr_0 := .more Xr_SharesErr_0a (.one Xr_SharesErr_0b)
def Ir_SharesErr_0 (q : Ext × S) : Yr_SharesErr_0 := bif (cE q.1 == 2) then (Sum.inl (Ir_SharesErr_0a q)) else (Sum.inr (Ir_SharesErr_0b q))
theorem XIr_SharesErr_0a (y : Int) : Ir_SharesErr_0 (xe (Xr_SharesErr_0a y)) = (Sum.inl y) := rfl
theorem XIr_SharesErr_0b (y : Unit) : Ir_SharesErr_0 (xe (Xr_SharesErr_0b y)) = (Sum.inr y) := rfl
theorem XIr_SharesErr_0 (y : Yr_SharesErr_0) : Ir_SharesErr_0 (xe (XLr_SharesErr_0.fn y)) = y := (match y with | .inl y => XIr_SharesErr_0a y | .inr y => XIr_SharesErr_0b y)
noncomputable abbrev Lr_SharesErr_0 : Q → Option Yr_SharesErr_0 := lpO env a29.body 0 XLr_SharesErr_0
noncomputable abbrev Rr_SharesErr_0 : Q → Option (Ext × S) := lpR env a29.body 0
theorem Lr_SharesErr_0a_of {s : Q} {y : Int} (h : Rr_SharesErr_0 s = exO (Xr_SharesErr_0a y)) : Lr_SharesErr_0 s = some (Sum.inl y) := lpO_of Ir_SharesErr_0 XIr_SharesErr_0 (y := (Sum.inl y)) h
theorem Lr_SharesErr_0b_of {s : Q} {y : Unit} (h : Rr_SharesErr_0 s = exO (Xr_SharesErr_0b y)) : Lr_SharesErr_0 s = some (Sum.inr y) := lpO_of Ir_SharesErr_0 XIr_SharesErr_0 (y := (Sum.inr y)) h
theorem Ur_SharesErr : uniq ((blocksOf a29.body).map (·.1)) = true := by kernel_rfl
def Br_SharesErr_0a (F : FnT) (N : QO) (E : EO) (_L0 : Q → Option Yr_SharesErr_0) (n0 : Nat) (c1 : List PV) (i2 : Int) : Option (Ext × S) :=
  bif (decide (i2 < (n0 : Int))) then
    bif (decide (((0 : Int) ≤ i2) ∧ (i2 < (n0 : Int)))) then
      bindO (intC .i64 (c1[((Int.toNat i2) * 2)]?)) fun x0 =>
      bindO (intC .i64 (c1[(((Int.toNat i2) * 2) + 1)]?)) fun x1 =>
      bindO (F 32 (RSh.one (CK.int .i64)) [(PV.agg [(PV.int .i64 x0), (PV.int .i64 x1)])]) fun (y2 : (Int)) =>
      bif (y2 != (0 : Int)) then
        E (Xr_SharesErr_0a y2)
      else N (Tr_SharesErr_0a n0 c1 (w64 (i2 + (1 : Int))))
    else none
  else E (Xr_SharesErr_0b ())
theorem Br_SharesErr_0a_eq (F : FnT) (N : QO) (E : EO) (L0 : Q → Option Yr_SharesErr_0) (n0 : Nat) (c1 : List PV) (i2 : Int) : semB (callP F Er_SharesErr 20) s29 (loopT [⟨0, Yr_SharesErr_0, L0, XLr_SharesErr_0⟩]) 400 (blkIn a29.body 0) N E (Tr_SharesErr_0a n0 c1 i2) = Br_SharesErr_0a F N E L0 n0 c1 i2 := by kernel_rfl
theorem Rr_SharesErr_0a_of  (n0 : Nat) (c1 : List PV) (i2 : Int) {r : Ext × S} (h : Br_SharesErr_0a (Fn env) Rr_SharesErr_0 exO Lr_SharesErr_0 n0 c1 i2 = some r) : Rr_SharesErr_0 (Tr_SharesErr_0a n0 c1 i2) = some r :=
  lp_of Er_SharesErr_ok (by kernel_rfl) (lo_cons (lpO_ok Ur_SharesErr) lo_nil) (by kernel_rfl) ((Br_SharesErr_0a_eq _ _ _ _ _ _ _).trans h)
def tr_SharesErr (_F : FnT) (L0 : Q → Option Yr_SharesErr_0) (p0n : Nat) (p0c : List PV) : Option (Int) :=
  bif ((p0n : Int) == (0 : Int)) then
    some (10 : Int)
  else bif (decide ((p0n : Int) > (24 : Int))) then
    some (8 : Int)
  else bindO (L0 (Tr_SharesErr_0a p0n p0c (0 : Int))) fun z =>
  Sum.elim (fun y0 =>
    some y0) (fun _y1 =>
    some (0 : Int)) z
theorem tr_SharesErr_eq (F : FnT) (L0 : Q → Option Yr_SharesErr_0) (p0n : Nat) (p0c : List PV) : semF (callP F Er_SharesErr 20) s29 (loopT [⟨0, Yr_SharesErr_0, L0, XLr_SharesErr_0⟩]) 400 a29 [PV.list p0n p0c] (fun rv => decR (RSh.one (CK.int .i64)) rv.pv) = tr_SharesErr F L0 p0n p0c := by kernel_rfl
noncomputable abbrev Fr_SharesErr (args : List PV) := Fn env 29 (RSh.one (CK.int .i64)) args
theorem Fr_SharesErr_of  (p0n : Nat) (p0c : List PV) {res : (Int)} (h : tr_SharesErr (Fn env) Lr_SharesErr_0 p0n p0c = some res) : Fr_SharesErr [PV.list p0n p0c] = some res :=
  fn_of Er_SharesErr_ok rfl rfl (lo_cons (lpO_ok Ur_SharesErr) lo_nil) ((tr_SharesErr_eq _ _ _ _).trans h)
def Er_Signals : List Entry := [.out 77 (RSh.agg [(CK.int .i64), CK.list, (CK.int .i64), CK.list]), .out 79 (RSh.agg [(CK.int .i64), CK.list, (CK.int .i64), CK.list]), .out 78 (RSh.agg [(CK.int .i64), CK.list, (CK.int .i64), CK.list]), .out 80 (RSh.tup [(Prod.mk true [(CK.int .i64), (CK.int .i64)]), (Prod.mk false [CK.bool])]), .out 81 (RSh.agg [(CK.int .i64), CK.list, (CK.int .i64), CK.list])]
theorem Er_Signals_ok : ∀ e ∈ Er_Signals, EntOK env e := (ent_out (ent_out (ent_out (ent_out (ent_out ent_nil)))))
def Tr_Signals_0a (n0 : Nat) (c1 : List PV) (i2 : Int) (n3 : Nat) (c4 : List PV) (i5 : Int) (n6 : Nat) (c7 : List PV) : Q := ⟨(tm 42 [(0, (AV.p (PV.list n0 c1))), (6, (AV.loc 6 0)), (7, AV.nilS), (8, (AV.p (PV.int .i64 (0 : Int))))]), (mm 42 [(6, (Bk.cells true [(AV.p (PV.int .i64 i2)), (AV.p (PV.list n3 c4)), (AV.p (PV.int .i64 i5)), (AV.p (PV.list n6 c7))]))])⟩
def Tr_Signals_0b (n0 : Nat) (c1 : List PV) (n2 : Nat) (c3 : List PV) (i4 : Int) (i5 : Int) (n6 : Nat) (c7 : List PV) (i8 : Int) (n9 : Nat) (c10 : List PV) (n11 : Nat) : Q := ⟨(tm 42 [(0, (AV.p (PV.list n0 c1))), (6, (AV.loc 6 0)), (7, (AV.app 40 n2 2 c3)), (8, (AV.p (PV.int .i64 i4)))]), (mm 42 [(6, (Bk.cells true [(AV.p (PV.int .i64 i5)), (AV.p (PV.list n6 c7)), (AV.p (PV.int .i64 i8)), (AV.p (PV.list n9 c10))])), (40, (Bk.buf n11))])⟩
def Xr_Signals_0a (_y : Unit) : Ext × Q := (Ext.ret, ⟨(tm 42 [(4, AV.nilS), (5, (AV.p (PV.bool false)))]), (mm 42 [])⟩)
def Ir_Signals_0a (_q : Ext × S) : Unit := ()
def Xr_Signals_0b (y : Int × Nat × List PV × Int × Nat × List PV) : Ext × Q := (Ext.normal, ⟨(tm 42 [(7, AV.nilS)]), (mm 42 [(6, (Bk.cells true [(AV.p (PV.int .i64 y.1)), (AV.p (PV.list y.2.1 y.2.2.1)), (AV.p (PV.int .i64 y.2.2.2.1)), (AV.p (PV.list y.2.2.2.2.1 y.2.2.2.2.2))]))])⟩)
def Ir_Signals_0b (q : Ext × S) : Int × Nat × List PV × Int × Nat × List PV := ((pP_int1 (pA_p (hdA (pB_cells1 (avM q.2 6))))), (pP_list0 (pA_p (hdA (List.tail (pB_cells1 (avM q.2 6)))))), (pP_list1 (pA_p (hdA (List.tail (pB_cells1 (avM q.2 6)))))), (pP_int1 (pA_p (hdA (List.tail (List.tail (pB_cells1 (avM q.2 6))))))), (pP_list0 (pA_p (hdA (List.tail (List.tail (List.tail (pB_cells1 (avM q.2 6)))))))), (pP_list1 (pA_p (hdA (List.tail (List.tail (List.tail (pB_cells1 (avM q.2 6)))))))))
def Xr_Signals_0c (y : Nat) : Ext × Q := (Ext.ret, ⟨(tm 42 [(4, AV.nilS), (5, (AV.p (PV.bool false)))]), (mm 42 [(40, (Bk.buf y))])⟩)
def Ir_Signals_0c (q : Ext × S) : Nat := (pB_buf0 (avM q.2 40))
def Xr_Signals_0d (y : Nat × List PV × Int × Nat × List PV × Int × Nat × List PV × Nat) : Ext × Q := (Ext.normal, ⟨(tm 42 [(7, (AV.app 40 y.1 2 y.2.1))]), (mm 42 [(6, (Bk.cells true [(AV.p (PV.int .i64 y.2.2.1)), (AV.p (PV.list y.2.2.2.1 y.2.2.2.2.1)), (AV.p (PV.int .i64 y.2.2.2.2.2.1)), (AV.p (PV.list y.2.2.2.2.2.2.1 y.2.2.2.2.2.2.2.1))])), (40, (Bk.buf y.2.2.2.2.2.2.2.2))])⟩)
def Ir_Signals_0d (q : Ext × S) : Nat × List PV × Int × Nat × List PV × Int × Nat × List PV × Nat := ((pA_app1 (avT q.2 7)), (pA_app3 (avT q.2 7)), (pP_int1 (pA_p (hdA (pB_cells1 (avM q.2 6))))), (pP_list0 (pA_p (hdA (List.tail (pB_cells1 (avM q.2 6)))))), (pP_list1 (pA_p (hdA (List.tail (pB_cells1 (avM q.2 6)))))), (pP_int1 (pA_p (hdA (List.tail (List.tail (pB_cells1 (avM q.2 6))))))), (pP_list0 (pA_p (hdA (List.tail (List.tail (List.tail (pB_cells1 (avM q.2 6)))))))), (pP_list1 (pA_p (hdA (List.tail (List.tail (List.tail (pB_cells1 (avM q.2 6)))))))), (pB_buf0 (avM q.2 40)))
abbrev Yr_Signals_0 : Type := (Unit) ⊕ ((Int × Nat × List PV × Int × Nat × List PV) ⊕ ((Nat) ⊕ ((Nat × List PV × Int × Nat × List PV × Int × Nat × List PV × Nat))))
def XLr_Signals_0 : XL Yr_Signals_0 := .more Xr_Signals_0a (.more Xr_Signals_0b (.more Xr_Signals_0c (.one Xr_Signals_0d)))
def Ir_Signals_0 (q : Ext × S) : Yr_Signals_0 := bif (cE q.1 == 2) && (cB (avM q.2 40) == 0) then (Sum.inl (Ir_Signals_0a q)) else bif (cE q.1 == 0) && (cA (avT q.2 7) == 1) then (Sum.inr (Sum.inl (Ir_Signals_0b q))) else bif (cE q.1 == 2) then (Sum.inr (Sum.inr (Sum.inl (Ir_Signals_0c q)))) else (Sum.inr (Sum.inr (Sum.inr (Ir_Signals_0d q))))
theorem XIr_Signals_0a (y : Unit) : Ir_Signals_0 (xe (Xr_Signals_0a y)) = (Sum.inl y) := rfl
theorem XIr_Signals_0b (y : Int × Nat × List PV × Int × Nat × List PV) : Ir_Signals_0 (xe (Xr_Signals_0b y)) = (Sum.inr (Sum.inl y)) := rfl
theorem XIr_Signals_0c (y : Nat) : Ir_Signals_0 (xe (Xr_Signals_0c y)) = (Sum.inr (Sum.inr (Sum.inl y))) := rfl
theorem XIr_Signals_0d (y : Nat × List PV × Int × Nat × List PV × Int × Nat × List PV × Nat) : Ir_Signals_0 (xe (Xr_Signals_0d y)) = (Sum.inr (Sum.inr (Sum.inr y))) := rfl
theorem XIr_Signals_0 (y : Yr_Signals_0) : Ir_Signals_0 (xe (XLr_Signals_0.fn y)) = y := (match y with | .inl y => XIr_Signals_0a y | .inr y => (match y with | .inl y => XIr_Signals_0b y | .inr y => (match y with | .inl y => XIr_Signals_0c y | .inr y => XIr_Signals_0d y)))
noncomputable abbrev Lr_Signals_0 : Q → Option Yr_Signals_0 := lpO env a30.body 0 XLr_Signals_0
noncomputable abbrev Rr_Signals_0 : Q → Option (Ext × S) := lpR env a30.body 0
theorem Lr_Signals_0a_of {s : Q} {y : Unit} (h : Rr_Signals_0 s = exO (Xr_Signals_0a y)) : Lr_Signals_0 s = some (Sum.inl y) := lpO_of Ir_Signals_0 XIr_Signals_0 (y := (Sum.inl y)) h
theorem Lr_Signals_0c_of {s : Q} {y : Nat} (h : Rr_Signals_0 s = exO (Xr_Signals_0c y)) : Lr_Signals_0 s = some (Sum.inr (Sum.inr (Sum.inl y))) := lpO_of Ir_Signals_0 XIr_Signals_0 (y := (Sum.inr (Sum.inr (Sum.inl y)))) h
theorem Lr_Signals_0d_of {s : Q} {y : Nat × List PV × Int × Nat × List PV × Int × Nat × List PV × Nat} (h : Rr_Signals_0 s = exO (Xr_Signals_0d y)) : Lr_Signals_0 s = some (Sum.inr (Sum.inr (Sum.inr y))) := lpO_of Ir_Signals_0 XIr_Signals_0 (y := (Sum.inr (Sum.inr (Sum.inr y)))) h
theorem Ur_Signals : uniq ((blocksOf a30.body).map (·.1)) = true := by kernel_rfl
def Br_Signals_0a (F : FnT) (N : QO) (E : EO) (_L0 : Q → Option Yr_Signals_0) (n0 : Nat) (c1 : List PV) (i2 : Int) (n3 : Nat) (c4 : List PV) (i5 : Int) (n6 : Nat) (c7 : List PV) : Option (Ext × S) :=
  bif (decide ((0 : Int) < (n0 : Int))) then
    bif (decide (((0 : Int) ≤ (0 : Int)) ∧ ((0 : Int) < (n0 : Int)))) then
      bindO (intC .i64 (c1[0]?)) fun x0 =>
      bindO (intC .i64 (c1[1]?)) fun x1 =>
      bindO (F 79 (RSh.agg [(CK.int .i64), CK.list, (CK.int .i64), CK.list]) [(PV.agg [(PV.int .i64 x0), (PV.int .i64 x1)])]) fun (y2 : ((Int) × (((Nat) × (List PV)) × ((Int) × ((Nat) × (List PV)))))) =>
      bindO (F 78 (RSh.agg [(CK.int .i64), CK.list, (CK.int .i64), CK.list]) [(PV.agg [(PV.int .i64 y2.1), (PV.list y2.2.1.1 y2.2.1.2), (PV.int .i64 y2.2.2.1), (PV.list y2.2.2.2.1 y2.2.2.2.2)]), (PV.agg [(PV.int .i64 i2), (PV.list n3 c4), (PV.int .i64 i5), (PV.list n6 c7)])]) fun (y3 : ((Int) × (((Nat) × (List PV)) × ((Int) × ((Nat) × (List PV)))))) =>
      bindO (F 80 (RSh.tup [(Prod.mk true [(CK.int .i64), (CK.int .i64)]), (Prod.mk false [CK.bool])]) [(PV.agg [(PV.int .i64 y3.1), (PV.list y3.2.1.1 y3.2.1.2), (PV.int .i64 y3.2.2.1), (PV.list y3.2.2.2.1 y3.2.2.2.2)])]) fun (y4 : ((Int) × ((Int) × (Bool)))) =>
      bif y4.2.2 then
        bindO (F 81 (RSh.agg [(CK.int .i64), CK.list, (CK.int .i64), CK.list]) [(PV.agg [(PV.int .i64 i2), (PV.list n3 c4), (PV.int .i64 i5), (PV.list n6 c7)]), (PV.agg [(PV.int .i64 y3.1), (PV.list y3.2.1.1 y3.2.1.2), (PV.int .i64 y3.2.2.1), (PV.list y3.2.2.2.1 y3.2.2.2.2)])]) fun (y5 : ((Int) × (((Nat) × (List PV)) × ((Int) × ((Nat) × (List PV)))))) =>
        N (Tr_Signals_0b n0 c1 1 [(PV.int .i64 y4.1), (PV.int .i64 y4.2.1)] (1 : Int) y5.1 y5.2.1.1 y5.2.1.2 y5.2.2.1 y5.2.2.2.1 y5.2.2.2.2 1)
      else E (Xr_Signals_0a ())
    else none
  else E (Xr_Signals_0b (i2, n3, c4, i5, n6, c7))
theorem Br_Signals_0a_eq (F : FnT) (N : QO) (E : EO) (L0 : Q → Option Yr_Signals_0) (n0 : Nat) (c1 : List PV) (i2 : Int) (n3 : Nat) (c4 : List PV) (i5 : Int) (n6 : Nat) (c7 : List PV) : semB (callP F Er_Signals 20) s30 (loopT [⟨0, Yr_Signals_0, L0, XLr_Signals_0⟩]) 400 (blkIn a30.body 0) N E (Tr_Signals_0a n0 c1 i2 n3 c4 i5 n6 c7) = Br_Signals_0a F N E L0 n0 c1 i2 n3 c4 i5 n6 c7 := by kernel_rfl
theorem Rr_Signals_0a_of  (n0 : Nat) (c1 : List PV) (i2 : Int) (n3 : Nat) (c4 : List PV) (i5 : Int) (n6 : Nat) (c7 : List PV) {r : Ext × S} (h : Br_Signals_0a (Fn env) Rr_Signals_0 exO Lr_Signals_0 n0 c1 i2 n3 c4 i5 n6 c7 = some r) : Rr_Signals_0 (Tr_Signals_0a n0 c1 i2 n3 c4 i5 n6 c7) = some r :=
  lp_of Er_Signals_ok (by kernel_rfl) (lo_cons (lpO_ok Ur_Signals) lo_nil) (by kernel_rfl) ((Br_Signals_0a_eq _ _ _ _ _ _ _ _ _ _ _ _).trans h)
def Br_Signals_0b (F : FnT) (N : QO) (E : EO) (_L0 : Q → Option Yr_Signals_0) (n0 : Nat) (c1 : List PV) (n2 : Nat) (c3 : List PV) (i4 : Int) (i5 : Int) (n6 : Nat) (c7 : List PV) (i8 : Int) (n9 : Nat) (c10 : List PV) (n11 : Nat) : Option (Ext × S) :=
  bif (decide (i4 < (n0 : Int))) then
    bif (decide (((0 : Int) ≤ i4) ∧ (i4 < (n0 : Int)))) then
      bindO (intC .i64 (c1[((Int.toNat i4) * 2)]?)) fun x0 =>
      bindO (intC .i64 (c1[(((Int.toNat i4) * 2) + 1)]?)) fun x1 =>
      bindO (F 79 (RSh.agg [(CK.int .i64), CK.list, (CK.int .i64), CK.list]) [(PV.agg [(PV.int .i64 x0), (PV.int .i64 x1)])]) fun (y2 : ((Int) × (((Nat) × (List PV)) × ((Int) × ((Nat) × (List PV)))))) =>
      bindO (F 78 (RSh.agg [(CK.int .i64), CK.list, (CK.int .i64), CK.list]) [(PV.agg [(PV.int .i64 y2.1), (PV.list y2.2.1.1 y2.2.1.2), (PV.int .i64 y2.2.2.1), (PV.list y2.2.2.2.1 y2.2.2.2.2)]), (PV.agg [(PV.int .i64 i5), (PV.list n6 c7), (PV.int .i64 i8), (PV.list n9 c10)])]) fun (y3 : ((Int) × (((Nat) × (List PV)) × ((Int) × ((Nat) × (List PV)))))) =>
      bindO (F 80 (RSh.tup [(Prod.mk true [(CK.int .i64), (CK.int .i64)]), (Prod.mk false [CK.bool])]) [(PV.agg [(PV.int .i64 y3.1), (PV.list y3.2.1.1 y3.2.1.2), (PV.int .i64 y3.2.2.1), (PV.list y3.2.2.2.1 y3.2.2.2.2)])]) fun (y4 : ((Int) × ((Int) × (Bool)))) =>
      bif y4.2.2 then
        bindO (F 81 (RSh.agg [(CK.int .i64), CK.list, (CK.int .i64), CK.list]) [(PV.agg [(PV.int .i64 i5), (PV.list n6 c7), (PV.int .i64 i8), (PV.list n9 c10)]), (PV.agg [(PV.int .i64 y3.1), (PV.list y3.2.1.1 y3.2.1.2), (PV.int .i64 y3.2.2.1), (PV.list y3.2.2.2.1 y3.2.2.2.2)])]) fun (y5 : ((Int) × (((Nat) × (List PV)) × ((Int) × ((Nat) × (List PV)))))) =>
        bif (decide ((n11 = n2) ∧ ((n2 + 1) ≤ big))) then
          N (Tr_Signals_0b n0 c1 (n2 + 1) (c3 ++ [(PV.int .i64 y4.1), (PV.int .i64 y4.2.1)]) (w64 (i4 + (1 : Int))) y5.1 y5.2.1.1 y5.2.1.2 y5.2.2.1 y5.2.2.2.1 y5.2.2.2.2 (n2 + 1))
        else none
      else E (Xr_Signals_0c n11)
    else none
  else E (Xr_Signals_0d (n2, c3, i5, n6, c7, i8, n9, c10, n11))
theorem Br_Signals_0b_eq (F : FnT) (N : QO) (E : EO) (L0 : Q → Option Yr_Signals_0) (n0 : Nat) (c1 : List PV) (n2 : Nat) (c3 : List PV) (i4 : Int) (i5 : Int) (n6 : Nat) (c7 : List PV) (i8 : Int) (n9 : Nat) (c10 : List PV) (n11 : Nat) : semB (callP F Er_Signals 20) s30 (loopT [⟨0, Yr_Signals_0, L0, XLr_Signals_0⟩]) 400 (blkIn a30.body 0) N E (Tr_Signals_0b n0 c1 n2 c3 i4 i5 n6 c7 i8 n9 c10 n11) = Br_Signals_0b F N E L0 n0 c1 n2 c3 i4 i5 n6 c7 i8 n9 c10 n11 := by kernel_rfl
theorem Rr_Signals_0b_of  (n0 : Nat) (c1 : List PV) (n2 : Nat) (c3 : List PV) (i4 : Int) (i5 : Int) (n6 : Nat) (c7 : List PV) (i8 : Int) (n9 : Nat) (c10 : List PV) (n11 : Nat) {r : Ext × S} (h : Br_Signals_0b (Fn env) Rr_Signals_0 exO Lr_Signals_0 n0 c1 n2 c3 i4 i5 n6 c7 i8 n9 c10 n11 = some r) : Rr_Signals_0 (Tr_Signals_0b n0 c1 n2 c3 i4 i5 n6 c7 i8 n9 c10 n11) = some r :=
  lp_of Er_Signals_ok (by kernel_rfl) (lo_cons (lpO_ok Ur_Signals) lo_nil) (by kernel_rfl) ((Br_Signals_0b_eq _ _ _ _ _ _ _ _ _ _ _ _ _ _ _ _).trans h)
def tr_Signals (F : FnT) (L0 : Q → Option Yr_Signals_0) (p0n : Nat) (p0c : List PV) (p1 : Int) : Option (((Nat) × (List PV)) × (Bool)) :=
  bindO (F 77 (RSh.agg [(CK.int .i64), CK.list, (CK.int .i64), CK.list]) [(PV.int .i64 p1)]) fun (y0 : ((Int) × (((Nat) × (List PV)) × ((Int) × ((Nat) × (List PV)))))) =>
  bindO (L0 (Tr_Signals_0a p0n p0c y0.1 y0.2.1.1 y0.2.1.2 y0.2.2.1 y0.2.2.2.1 y0.2.2.2.2)) fun z =>
  Sum.elim (fun _y1 =>
    some ((0, []), false)) (fun z0 => Sum.elim (fun _y2 =>
    some ((0, []), true)) (fun z1 => Sum.elim (fun _y3 =>
    some ((0, []), false)) (fun y4 =>
    some ((y4.1, y4.2.1), true)) z1) z0) z
theorem tr_Signals_eq (F : FnT) (L0 : Q → Option Yr_Signals_0) (p0n : Nat) (p0c : List PV) (p1 : Int) : semF (callP F Er_Signals 20) s30 (loopT [⟨0, Yr_Signals_0, L0, XLr_Signals_0⟩]) 400 a30 [PV.list p0n p0c, PV.int .i64 p1] (fun rv => decR (RSh.tup [(Prod.mk false [CK.list]), (Prod.mk false [CK.bool])]) rv.pv) = tr_Signals F L0 p0n p0c p1 := by kernel_rfl
noncomputable abbrev Fr_Signals (args : List PV) := Fn env 30 (RSh.tup [(Prod.mk false [CK.list]), (Prod.mk false [CK.bool])]) args
theorem Fr_Signals_of  (p0n : Nat) (p0c : List PV) (p1 : Int) {res : (((Nat) × (List PV)) × (Bool))} (h : tr_Signals (Fn env) Lr_Signals_0 p0n p0c p1 = some res) : Fr_Signals [PV.list p0n p0c, PV.int .i64 p1] = some res :=
  fn_of Er_Signals_ok rfl rfl (lo_cons (lpO_ok Ur_Signals) lo_nil) ((tr_Signals_eq _ _ _ _ _).trans h)
end Gv
