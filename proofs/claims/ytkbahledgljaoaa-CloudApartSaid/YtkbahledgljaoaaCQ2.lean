/- What the functions do, round by round: CQ2. -/
import Derived.Test.YtkbahledgljaoaaCP3
namespace Gv
open Go
set_option maxRecDepth 100000
def Ecloud_firstError_3 : List Entry := []
theorem Ecloud_firstError_3_ok : ∀ e ∈ Ecloud_firstError_3, EntOK env e := ent_nil
def tcloud_firstError_3 (F : FnT)(e0 e1 e2 : Int) : Option (Int) :=
  bif (e0 != (0 : Int)) then
    some e0
  else bif (e1 != (0 : Int)) then
    some e1
  else bif (e2 != (0 : Int)) then
    some e2
  else some (0 : Int)
theorem tcloud_firstError_3_eq (F : FnT)(e0 e1 e2 : Int) : semF (callP F Ecloud_firstError_3 20) s54 (loopT []) 400 a54 [.list 3 [.int .i64 e0, .int .i64 e1, .int .i64 e2]] (fun rv => decR (RSh.one (CK.int .i64)) rv.pv) = tcloud_firstError_3 F e0 e1 e2 := by kernel_rfl
noncomputable abbrev Fcloud_firstError_3 (args : List PV) := Fn env 54 (RSh.one (CK.int .i64)) args
theorem Fcloud_firstError_3_of (e0 e1 e2 : Int) {res : (Int)} (h : tcloud_firstError_3 (Fn env) e0 e1 e2 = some res) : Fcloud_firstError_3 [.list 3 [.int .i64 e0, .int .i64 e1, .int .i64 e2]] = some res :=
  fn_of Ecloud_firstError_3_ok rfl rfl lo_nil ((tcloud_firstError_3_eq _ _ _ _).trans h)
def Ecloud_CheckProfile : List Entry := [.inl 81 a81 s81, .out 80 (RSh.tup [(Prod.mk false [(CK.int .i64)]), (Prod.mk false [(CK.int .i64)])])]
theorem Ecloud_CheckProfile_ok : ∀ e ∈ Ecloud_CheckProfile, EntOK env e := (ent_inl rfl (ent_out ent_nil))
def tcloud_CheckProfile (F : FnT) (p0n : Nat) (p0c : List PV) : Option ((Int) × (Int)) :=
  bindO (F 80 (RSh.tup [(Prod.mk false [(CK.int .i64)]), (Prod.mk false [(CK.int .i64)])]) [(PV.list p0n p0c), (PV.int .i64 (24 : Int)), (PV.fn 105 [(PV.imm [(PV.int .i64 (0 : Int))] 0), (PV.imm [(PV.int .i64 (10000 : Int))] 0)])]) fun (y0 : ((Int) × (Int))) =>
  some (y0.1, y0.2)
theorem tcloud_CheckProfile_eq (F : FnT) (p0n : Nat) (p0c : List PV) : semF (callP F Ecloud_CheckProfile 20) s95 (loopT []) 400 a95 [PV.list p0n p0c] (fun rv => decR (RSh.tup [(Prod.mk false [(CK.int .i64)]), (Prod.mk false [(CK.int .i64)])]) rv.pv) = tcloud_CheckProfile F p0n p0c := by kernel_rfl
noncomputable abbrev Fcloud_CheckProfile (args : List PV) := Fn env 95 (RSh.tup [(Prod.mk false [(CK.int .i64)]), (Prod.mk false [(CK.int .i64)])]) args
theorem Fcloud_CheckProfile_of  (p0n : Nat) (p0c : List PV) {res : ((Int) × (Int))} (h : tcloud_CheckProfile (Fn env) p0n p0c = some res) : Fcloud_CheckProfile [PV.list p0n p0c] = some res :=
  fn_of Ecloud_CheckProfile_ok rfl rfl lo_nil ((tcloud_CheckProfile_eq _ _ _).trans h)
def Ecloud_profileError : List Entry := [.out 95 (RSh.tup [(Prod.mk false [(CK.int .i64)]), (Prod.mk false [(CK.int .i64)])])]
theorem Ecloud_profileError_ok : ∀ e ∈ Ecloud_profileError, EntOK env e := (ent_out ent_nil)
def tcloud_profileError (F : FnT) (p0n : Nat) (p0c : List PV) : Option (Int) :=
  bindO (F 95 (RSh.tup [(Prod.mk false [(CK.int .i64)]), (Prod.mk false [(CK.int .i64)])]) [(PV.list p0n p0c)]) fun (y0 : ((Int) × (Int))) =>
  some y0.2
theorem tcloud_profileError_eq (F : FnT) (p0n : Nat) (p0c : List PV) : semF (callP F Ecloud_profileError 20) s55 (loopT []) 400 a55 [PV.list p0n p0c] (fun rv => decR (RSh.one (CK.int .i64)) rv.pv) = tcloud_profileError F p0n p0c := by kernel_rfl
noncomputable abbrev Fcloud_profileError (args : List PV) := Fn env 55 (RSh.one (CK.int .i64)) args
theorem Fcloud_profileError_of  (p0n : Nat) (p0c : List PV) {res : (Int)} (h : tcloud_profileError (Fn env) p0n p0c = some res) : Fcloud_profileError [PV.list p0n p0c] = some res :=
  fn_of Ecloud_profileError_ok rfl rfl lo_nil ((tcloud_profileError_eq _ _ _).trans h)
def Er_CheckProfile : List Entry := [.out 14 (RSh.one CK.bool)]
theorem Er_CheckProfile_ok : ∀ e ∈ Er_CheckProfile, EntOK env e := (ent_out ent_nil)
def Tr_CheckProfile_0a (n0 : Nat) (c1 : List PV) (i2 : Int) : Q := ⟨(tm 24 [(0, (AV.p (PV.list n0 c1))), (4, (AV.p (PV.int .i64 i2)))]), (mm 24 [])⟩
def Xr_CheckProfile_0a (y : Int) : Ext × Q := (Ext.ret, ⟨(tm 24 [(2, (AV.p (PV.int .i64 y))), (3, (AV.p (PV.int .i64 (2 : Int))))]), (mm 24 [])⟩)
def Ir_CheckProfile_0a (q : Ext × S) : Int := (pP_int1 (pA_p (avT q.2 2)))
def Xr_CheckProfile_0b (y : Unit) : Ext × Q := (Ext.normal, ⟨(tm 24 []), (mm 24 [])⟩)
def Ir_CheckProfile_0b (q : Ext × S) : Unit := ()
abbrev Yr_CheckProfile_0 : Type := (Int) ⊕ ((Unit))
def XLr_CheckProfile_0 : XL Yr_CheckProfile_0 := .more Xr_CheckProfile_0a (.one Xr_CheckProfile_0b)
def Ir_CheckProfile_0 (q : Ext × S) : Yr_CheckProfile_0 := bif (cE q.1 == 2) then (Sum.inl (Ir_CheckProfile_0a q)) else (Sum.inr (Ir_CheckProfile_0b q))
theorem XIr_CheckProfile_0a (y : Int) : Ir_CheckProfile_0 (xe (Xr_CheckProfile_0a y)) = (Sum.inl y) := rfl
theorem XIr_CheckProfile_0b (y : Unit) : Ir_CheckProfile_0 (xe (Xr_CheckProfile_0b y)) = (Sum.inr y) := rfl
theorem XIr_CheckProfile_0 (y : Yr_CheckProfile_0) : Ir_CheckProfile_0 (xe (XLr_CheckProfile_0.fn y)) = y := (match y with | .inl y => XIr_CheckProfile_0a y | .inr y => XIr_CheckProfile_0b y)
noncomputable abbrev Lr_CheckProfile_0 : Q → Option Yr_CheckProfile_0 := lpO env a53.body 0 XLr_CheckProfile_0
noncomputable abbrev Rr_CheckProfile_0 : Q → Option (Ext × S) := lpR env a53.body 0
theorem Lr_CheckProfile_0a_of {s : Q} {y : Int} (h : Rr_CheckProfile_0 s = exO (Xr_CheckProfile_0a y)) : Lr_CheckProfile_0 s = some (Sum.inl y) := lpO_of Ir_CheckProfile_0 XIr_CheckProfile_0 (y := (Sum.inl y)) h
theorem Lr_CheckProfile_0b_of {s : Q} {y : Unit} (h : Rr_CheckProfile_0 s = exO (Xr_CheckProfile_0b y)) : Lr_CheckProfile_0 s = some (Sum.inr y) := lpO_of Ir_CheckProfile_0 XIr_CheckProfile_0 (y := (Sum.inr y)) h
theorem Ur_CheckProfile : uniq ((blocksOf a53.body).map (·.1)) = true := by kernel_rfl
def Br_CheckProfile_0a (F : FnT) (N : QO) (E : EO) (L0 : Q → Option Yr_CheckProfile_0) (n0 : Nat) (c1 : List PV) (i2 : Int) : Option (Ext × S) :=
  bif (decide (i2 < (n0 : Int))) then
    bif (decide (((0 : Int) ≤ i2) ∧ (i2 < (n0 : Int)))) then
      bindO (intC .i64 (c1[((Int.toNat i2) * 1)]?)) fun x0 =>
      bindO (F 14 (RSh.one CK.bool) [(PV.int .i64 x0), (PV.int .i64 (0 : Int)), (PV.int .i64 (10000 : Int))]) fun (y1 : (Bool)) =>
      bif y1 then
        N (Tr_CheckProfile_0a n0 c1 (w64 (i2 + (1 : Int))))
      else E (Xr_CheckProfile_0a i2)
    else none
  else E (Xr_CheckProfile_0b ())
theorem Br_CheckProfile_0a_eq (F : FnT) (N : QO) (E : EO) (L0 : Q → Option Yr_CheckProfile_0) (n0 : Nat) (c1 : List PV) (i2 : Int) : semB (callP F Er_CheckProfile 20) s53 (loopT [⟨0, Yr_CheckProfile_0, L0, XLr_CheckProfile_0⟩]) 400 (blkIn a53.body 0) N E (Tr_CheckProfile_0a n0 c1 i2) = Br_CheckProfile_0a F N E L0 n0 c1 i2 := by kernel_rfl
theorem Rr_CheckProfile_0a_of  (n0 : Nat) (c1 : List PV) (i2 : Int) {r : Ext × S} (h : Br_CheckProfile_0a (Fn env) Rr_CheckProfile_0 exO Lr_CheckProfile_0 n0 c1 i2 = some r) : Rr_CheckProfile_0 (Tr_CheckProfile_0a n0 c1 i2) = some r :=
  lp_of Er_CheckProfile_ok (by kernel_rfl) (lo_cons (lpO_ok Ur_CheckProfile) lo_nil) (by kernel_rfl) ((Br_CheckProfile_0a_eq _ _ _ _ _ _ _).trans h)
def tr_CheckProfile (F : FnT) (L0 : Q → Option Yr_CheckProfile_0) (p0n : Nat) (p0c : List PV) : Option ((Int) × (Int)) :=
  bif ((p0n : Int) == (0 : Int)) then
    some ((0 : Int), (10 : Int))
  else bif (decide ((p0n : Int) > (24 : Int))) then
    some ((0 : Int), (8 : Int))
  else bindO (L0 (Tr_CheckProfile_0a p0n p0c (0 : Int))) fun z =>
  Sum.elim (fun y0 =>
    some (y0, (2 : Int))) (fun y1 =>
    some ((0 : Int), (0 : Int))) z
theorem tr_CheckProfile_eq (F : FnT) (L0 : Q → Option Yr_CheckProfile_0) (p0n : Nat) (p0c : List PV) : semF (callP F Er_CheckProfile 20) s53 (loopT [⟨0, Yr_CheckProfile_0, L0, XLr_CheckProfile_0⟩]) 400 a53 [PV.list p0n p0c] (fun rv => decR (RSh.tup [(Prod.mk false [(CK.int .i64)]), (Prod.mk false [(CK.int .i64)])]) rv.pv) = tr_CheckProfile F L0 p0n p0c := by kernel_rfl
noncomputable abbrev Fr_CheckProfile (args : List PV) := Fn env 53 (RSh.tup [(Prod.mk false [(CK.int .i64)]), (Prod.mk false [(CK.int .i64)])]) args
theorem Fr_CheckProfile_of  (p0n : Nat) (p0c : List PV) {res : ((Int) × (Int))} (h : tr_CheckProfile (Fn env) Lr_CheckProfile_0 p0n p0c = some res) : Fr_CheckProfile [PV.list p0n p0c] = some res :=
  fn_of Er_CheckProfile_ok rfl rfl (lo_cons (lpO_ok Ur_CheckProfile) lo_nil) ((tr_CheckProfile_eq _ _ _ _).trans h)
def Er_ProfileErr : List Entry := [.out 53 (RSh.tup [(Prod.mk false [(CK.int .i64)]), (Prod.mk false [(CK.int .i64)])])]
theorem Er_ProfileErr_ok : ∀ e ∈ Er_ProfileErr, EntOK env e := (ent_out ent_nil)
def tr_ProfileErr (F : FnT) (p0n : Nat) (p0c : List PV) : Option (Int) :=
  bindO (F 53 (RSh.tup [(Prod.mk false [(CK.int .i64)]), (Prod.mk false [(CK.int .i64)])]) [(PV.list p0n p0c)]) fun (y0 : ((Int) × (Int))) =>
  some y0.2
theorem tr_ProfileErr_eq (F : FnT) (p0n : Nat) (p0c : List PV) : semF (callP F Er_ProfileErr 20) s12 (loopT []) 400 a12 [PV.list p0n p0c] (fun rv => decR (RSh.one (CK.int .i64)) rv.pv) = tr_ProfileErr F p0n p0c := by kernel_rfl
noncomputable abbrev Fr_ProfileErr (args : List PV) := Fn env 12 (RSh.one (CK.int .i64)) args
theorem Fr_ProfileErr_of  (p0n : Nat) (p0c : List PV) {res : (Int)} (h : tr_ProfileErr (Fn env) p0n p0c = some res) : Fr_ProfileErr [PV.list p0n p0c] = some res :=
  fn_of Er_ProfileErr_ok rfl rfl lo_nil ((tr_ProfileErr_eq _ _ _).trans h)
def Ew_few : List Entry := []
theorem Ew_few_ok : ∀ e ∈ Ew_few, EntOK env e := ent_nil
def tw_few (F : FnT) (p0n : Nat) (p0c : List PV) : Option (Bool) :=
  bif (decide ((p0n : Int) ≤ (26 : Int))) then
    some true
  else some false
theorem tw_few_eq (F : FnT) (p0n : Nat) (p0c : List PV) : semF (callP F Ew_few 20) s11 (loopT []) 400 a11 [PV.list p0n p0c] (fun rv => decR (RSh.one CK.bool) rv.pv) = tw_few F p0n p0c := by kernel_rfl
noncomputable abbrev Fw_few (args : List PV) := Fn env 11 (RSh.one CK.bool) args
theorem Fw_few_of  (p0n : Nat) (p0c : List PV) {res : (Bool)} (h : tw_few (Fn env) p0n p0c = some res) : Fw_few [PV.list p0n p0c] = some res :=
  fn_of Ew_few_ok rfl rfl lo_nil ((tw_few_eq _ _ _).trans h)
def Eb_Size : List Entry := []
theorem Eb_Size_ok : ∀ e ∈ Eb_Size, EntOK env e := ent_nil
def tb_Size (F : FnT) (p0 : Int) : Option (Int) :=
  some (if ((w64 ((0 : Int) - p0)) > p0) then (w64 ((0 : Int) - p0)) else p0)
theorem tb_Size_eq (F : FnT) (p0 : Int) : semF (callP F Eb_Size 20) s70 (loopT []) 400 a70 [PV.int .i64 p0] (fun rv => decR (RSh.one (CK.int .i64)) rv.pv) = tb_Size F p0 := by kernel_rfl
noncomputable abbrev Fb_Size (args : List PV) := Fn env 70 (RSh.one (CK.int .i64)) args
theorem Fb_Size_of  (p0 : Int) {res : (Int)} (h : tb_Size (Fn env) p0 = some res) : Fb_Size [PV.int .i64 p0] = some res :=
  fn_of Eb_Size_ok rfl rfl lo_nil ((tb_Size_eq _ _).trans h)
end Gv
