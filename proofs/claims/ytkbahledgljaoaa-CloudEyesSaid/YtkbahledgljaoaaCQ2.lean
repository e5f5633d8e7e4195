/- What the functions do, round by round: CQ2. -/
import Derived.Test.YtkbahledgljaoaaCP3
namespace Gv
open Go
set_option maxRecDepth 100000

/-! ### cloud_firstError_3 -/

def Ecloud_firstError_3 : List Entry := []
theorem Ecloud_firstError_3_ok : ∀ e ∈ Ecloud_firstError_3, EntOK env e := ent_nil
theorem Ucloud_firstError_3 : uniq ((blocksOf a54.body).map (·.1)) = true := by kernel_rfl
def tcloud_firstError_3 (_F : FnT)(e0 e1 e2 : Int) : Option (Int) :=
  bif (e0 != (0 : Int)) then
    some e0
  else bif (e1 != (0 : Int)) then
    some e1
  else bif (e2 != (0 : Int)) then
    some e2
  else some (0 : Int)
theorem tcloud_firstError_3_eq (F : FnT)(e0 e1 e2 : Int) : semF (callP F Ecloud_firstError_3 20) s54 (loopT []) 400 a54 [.list 3 [.int .i64 e0, .int .i64 e1, .int .i64 e2]] (fun rv => decR (RSh.one (CK.int IntKind.i64)) rv.pv) = tcloud_firstError_3 F e0 e1 e2 := by kernel_rfl
noncomputable abbrev Fcloud_firstError_3 (args : List PV) := Fn env 54 (RSh.one (CK.int IntKind.i64)) args
theorem Fcloud_firstError_3_of (e0 e1 e2 : Int) {res : (Int)} (h : tcloud_firstError_3 (Fn env) e0 e1 e2 = some res) : Fcloud_firstError_3 [.list 3 [.int .i64 e0, .int .i64 e1, .int .i64 e2]] = some res :=
  fn_of Ecloud_firstError_3_ok rfl rfl lo_nil ((tcloud_firstError_3_eq _ _ _ _).trans h)

/-! ### cloud_CheckProfile -/

def Ecloud_CheckProfile : List Entry := [.inl 81 a81 s81, .out 80 (RSh.tup [(Prod.mk false [(CK.int IntKind.i64)]), (Prod.mk false [(CK.int IntKind.i64)])])]
theorem Ecloud_CheckProfile_ok : ∀ e ∈ Ecloud_CheckProfile, EntOK env e := (ent_inl rfl (ent_out ent_nil))
theorem Ucloud_CheckProfile : uniq ((blocksOf a95.body).map (·.1)) = true := by kernel_rfl
def tcloud_CheckProfile (F : FnT) (p0n : Nat) (p0c : List PV) : Option ((Int) × (Int)) :=
  bindO (F 80 (RSh.tup [(Prod.mk false [(CK.int IntKind.i64)]), (Prod.mk false [(CK.int IntKind.i64)])]) [(PV.list p0n p0c), (PV.int IntKind.i64 (24 : Int)), (PV.fn 105 [(PV.imm [(PV.int IntKind.i64 (0 : Int))] 0), (PV.imm [(PV.int IntKind.i64 (10000 : Int))] 0)])]) fun (y0 : ((Int) × (Int))) =>
  some (y0.1, y0.2)
theorem tcloud_CheckProfile_eq (F : FnT) (p0n : Nat) (p0c : List PV) : semF (callP F Ecloud_CheckProfile 20) s95 (loopT []) 400 a95 [PV.list p0n p0c] (fun rv => decR (RSh.tup [(Prod.mk false [(CK.int IntKind.i64)]), (Prod.mk false [(CK.int IntKind.i64)])]) rv.pv) = tcloud_CheckProfile F p0n p0c := by kernel_rfl
noncomputable abbrev Fcloud_CheckProfile (args : List PV) := Fn env 95 (RSh.tup [(Prod.mk false [(CK.int IntKind.i64)]), (Prod.mk false [(CK.int IntKind.i64)])]) args
theorem Fcloud_CheckProfile_of  (p0n : Nat) (p0c : List PV) {res : ((Int) × (Int))} (h : tcloud_CheckProfile (Fn env) p0n p0c = some res) : Fcloud_CheckProfile [PV.list p0n p0c] = some res :=
  fn_of Ecloud_CheckProfile_ok rfl rfl lo_nil ((tcloud_CheckProfile_eq _ _ _).trans h)

/-! ### cloud_profileError -/

def Ecloud_profileError : List Entry := [.out 95 (RSh.tup [(Prod.mk false [(CK.int IntKind.i64)]), (Prod.mk false [(CK.int IntKind.i64)])])]
theorem Ecloud_profileError_ok : ∀ e ∈ Ecloud_profileError, EntOK env e := (ent_out ent_nil)
theorem Ucloud_profileError : uniq ((blocksOf a55.body).map (·.1)) = true := by kernel_rfl
def tcloud_profileError (F : FnT) (p0n : Nat) (p0c : List PV) : Option (Int) :=
  bindO (F 95 (RSh.tup [(Prod.mk false [(CK.int IntKind.i64)]), (Prod.mk false [(CK.int IntKind.i64)])]) [(PV.list p0n p0c)]) fun (y0 : ((Int) × (Int))) =>
  some y0.2
theorem tcloud_profileError_eq (F : FnT) (p0n : Nat) (p0c : List PV) : semF (callP F Ecloud_profileError 20) s55 (loopT []) 400 a55 [PV.list p0n p0c] (fun rv => decR (RSh.one (CK.int IntKind.i64)) rv.pv) = tcloud_profileError F p0n p0c := by kernel_rfl
noncomputable abbrev Fcloud_profileError (args : List PV) := Fn env 55 (RSh.one (CK.int IntKind.i64)) args
theorem Fcloud_profileError_of  (p0n : Nat) (p0c : List PV) {res : (Int)} (h : tcloud_profileError (Fn env) p0n p0c = some res) : Fcloud_profileError [PV.list p0n p0c] = some res :=
  fn_of Ecloud_profileError_ok rfl rfl lo_nil ((tcloud_profileError_eq _ _ _).trans h)

/-! ### cloud_penaltyError -/

def Ecloud_penaltyError : List Entry := [.out 56 (RSh.one (CK.int IntKind.i64))]
theorem Ecloud_penaltyError_ok : ∀ e ∈ Ecloud_penaltyError, EntOK env e := (ent_out ent_nil)
theorem Ucloud_penaltyError : uniq ((blocksOf a67.body).map (·.1)) = true := by kernel_rfl
def tcloud_penaltyError (F : FnT) (p0 : Int) : Option (Int) :=
  bindO (F 56 (RSh.one (CK.int IntKind.i64)) [(PV.int IntKind.i64 p0), (PV.int IntKind.i64 (0 : Int)), (PV.int IntKind.i64 (1000000 : Int))]) fun (y0 : (Int)) =>
  some y0
theorem tcloud_penaltyError_eq (F : FnT) (p0 : Int) : semF (callP F Ecloud_penaltyError 20) s67 (loopT []) 400 a67 [PV.int IntKind.i64 p0] (fun rv => decR (RSh.one (CK.int IntKind.i64)) rv.pv) = tcloud_penaltyError F p0 := by kernel_rfl
noncomputable abbrev Fcloud_penaltyError (args : List PV) := Fn env 67 (RSh.one (CK.int IntKind.i64)) args
theorem Fcloud_penaltyError_of  (p0 : Int) {res : (Int)} (h : tcloud_penaltyError (Fn env) p0 = some res) : Fcloud_penaltyError [PV.int IntKind.i64 p0] = some res :=
  fn_of Ecloud_penaltyError_ok rfl rfl lo_nil ((tcloud_penaltyError_eq _ _).trans h)

/-! ### _glidepath_cloud_profile__cost -/

def E_glidepath_cloud_profile__cost : List Entry := [.out 82 (RSh.one (CK.int IntKind.i64))]
theorem E_glidepath_cloud_profile__cost_ok : ∀ e ∈ E_glidepath_cloud_profile__cost, EntOK env e := (ent_out ent_nil)
def T_glidepath_cloud_profile__cost_0a (i0 : Int) (i1 : Int) (n2 : Nat) (c3 : List PV) (i4 : Int) (i5 : Int) : Q := ⟨(tm 35 [(8, (AV.p (PV.int IntKind.i64 i0))), (9, (AV.p (PV.int IntKind.i64 i1))), (18, (AV.p (PV.list n2 c3))), (19, (AV.p (PV.int IntKind.i64 i4))), (20, (AV.p (PV.int IntKind.i64 i5)))]), (mm 35 [])⟩
def X_glidepath_cloud_profile__cost_0a (y : Int) : Ext × Q := (Ext.normal, ⟨(tm 35 [(9, (AV.p (PV.int IntKind.i64 y)))]), (mm 35 [])⟩)
def I_glidepath_cloud_profile__cost_0a (q : Ext × S) : Int := (pP_int1 (pA_p (avT q.2 9)))
abbrev Y_glidepath_cloud_profile__cost_0 : Type := Int
def XL_glidepath_cloud_profile__cost_0 : XL Y_glidepath_cloud_profile__cost_0 := .one X_glidepath_cloud_profile__cost_0a
def I_glidepath_cloud_profile__cost_0 (q : Ext × S) : Y_glidepath_cloud_profile__cost_0 := (I_glidepath_cloud_profile__cost_0a q)
theorem XI_glidepath_cloud_profile__cost_0a (y : Int) : I_glidepath_cloud_profile__cost_0 (xe (X_glidepath_cloud_profile__cost_0a y)) = y := rfl
theorem XI_glidepath_cloud_profile__cost_0 (y : Y_glidepath_cloud_profile__cost_0) : I_glidepath_cloud_profile__cost_0 (xe (XL_glidepath_cloud_profile__cost_0.fn y)) = y := XI_glidepath_cloud_profile__cost_0a y
noncomputable abbrev L_glidepath_cloud_profile__cost_0 : Q → Option Y_glidepath_cloud_profile__cost_0 := lpO env a66.body 0 XL_glidepath_cloud_profile__cost_0
noncomputable abbrev R_glidepath_cloud_profile__cost_0 : Q → Option (Ext × S) := lpR env a66.body 0
theorem L_glidepath_cloud_profile__cost_0a_of {s : Q} {y : Int} (h : R_glidepath_cloud_profile__cost_0 s = exO (X_glidepath_cloud_profile__cost_0a y)) : L_glidepath_cloud_profile__cost_0 s = some y := lpO_of I_glidepath_cloud_profile__cost_0 XI_glidepath_cloud_profile__cost_0 (y := y) h
theorem U_glidepath_cloud_profile__cost : uniq ((blocksOf a66.body).map (·.1)) = true := by kernel_rfl
def B_glidepath_cloud_profile__cost_0a (_F : FnT) (N : Q → Option (Ext × S)) (E : Ext × Q → Option (Ext × S)) (_L0 : Q → Option Y_glidepath_cloud_profile__cost_0) (i0 : Int) (i1 : Int) (n2 : Nat) (c3 : List PV) (i4 : Int) (i5 : Int) : Option (Ext × S) :=
  bif (decide (i5 < i4)) then
    bif (decide (((0 : Int) ≤ i5) ∧ (i5 < (n2 : Int)))) then
      bindO (intC IntKind.i64 (c3[((Int.toNat i5) * 1)]?)) fun x0 =>
      N (T_glidepath_cloud_profile__cost_0a i0 (w64 (i1 + (if ((w64 (i0 - x0)) > (w64 (x0 - i0))) then (w64 (i0 - x0)) else (w64 (x0 - i0))))) n2 c3 i4 (w64 (i5 + (1 : Int))))
    else none
  else E (X_glidepath_cloud_profile__cost_0a i1)
theorem B_glidepath_cloud_profile__cost_0a_eq (F : FnT) (N : Q → Option (Ext × S)) (E : Ext × Q → Option (Ext × S)) (L0 : Q → Option Y_glidepath_cloud_profile__cost_0) (i0 : Int) (i1 : Int) (n2 : Nat) (c3 : List PV) (i4 : Int) (i5 : Int) : semB (callP F E_glidepath_cloud_profile__cost 20) s66 (loopT [⟨0, Y_glidepath_cloud_profile__cost_0, L0, XL_glidepath_cloud_profile__cost_0⟩]) 400 (blkIn a66.body 0) N E (T_glidepath_cloud_profile__cost_0a i0 i1 n2 c3 i4 i5) = B_glidepath_cloud_profile__cost_0a F N E L0 i0 i1 n2 c3 i4 i5 := by kernel_rfl
theorem R_glidepath_cloud_profile__cost_0a_of  (i0 : Int) (i1 : Int) (n2 : Nat) (c3 : List PV) (i4 : Int) (i5 : Int) {r : Ext × S} (h : B_glidepath_cloud_profile__cost_0a (Fn env) R_glidepath_cloud_profile__cost_0 exO L_glidepath_cloud_profile__cost_0 i0 i1 n2 c3 i4 i5 = some r) : R_glidepath_cloud_profile__cost_0 (T_glidepath_cloud_profile__cost_0a i0 i1 n2 c3 i4 i5) = some r :=
  lp_of E_glidepath_cloud_profile__cost_ok (by kernel_rfl) (lo_cons (lpO_ok U_glidepath_cloud_profile__cost) lo_nil) (by kernel_rfl) ((B_glidepath_cloud_profile__cost_0a_eq _ _ _ _ _ _ _ _ _ _).trans h)
def t_glidepath_cloud_profile__cost (F : FnT) (L0 : Q → Option Y_glidepath_cloud_profile__cost_0) (p0n : Nat) (p0c : List PV) (p1 : Int) (p2 : Int) : Option (Int) :=
  bif (decide (((0 : Int) ≤ p1) ∧ ((p1 ≤ p2) ∧ (p2 ≤ ((Prod.mk p0n p0c).1 : Int))))) then
    bif (decide (((Int.toNat p1) = (Int.toNat p2)) ∨ ((((Int.toNat p1) * 1) + (((Int.toNat p2) - (Int.toNat p1)) * 1)) ≤ (List.length p0c)))) then
      bindO (F 82 (RSh.one (CK.int IntKind.i64)) [(PV.list ((Int.toNat p2) - (Int.toNat p1)) (List.take (((Int.toNat p2) - (Int.toNat p1)) * 1) (List.drop ((Int.toNat p1) * 1) p0c)))]) fun (y0 : (Int)) =>
      bindO (L0 (T_glidepath_cloud_profile__cost_0a y0 (0 : Int) ((Int.toNat p2) - (Int.toNat p1)) (List.take (((Int.toNat p2) - (Int.toNat p1)) * 1) (List.drop ((Int.toNat p1) * 1) p0c)) ((((Int.toNat p2) - (Int.toNat p1)) : Nat) : Int) (0 : Int))) fun y1 =>
      some y1
    else none
  else none
theorem t_glidepath_cloud_profile__cost_eq (F : FnT) (L0 : Q → Option Y_glidepath_cloud_profile__cost_0) (p0n : Nat) (p0c : List PV) (p1 : Int) (p2 : Int) : semF (callP F E_glidepath_cloud_profile__cost 20) s66 (loopT [⟨0, Y_glidepath_cloud_profile__cost_0, L0, XL_glidepath_cloud_profile__cost_0⟩]) 400 a66 [PV.list p0n p0c, PV.int IntKind.i64 p1, PV.int IntKind.i64 p2] (fun rv => decR (RSh.one (CK.int IntKind.i64)) rv.pv) = t_glidepath_cloud_profile__cost F L0 p0n p0c p1 p2 := by kernel_rfl
noncomputable abbrev F_glidepath_cloud_profile__cost (args : List PV) := Fn env 66 (RSh.one (CK.int IntKind.i64)) args
theorem F_glidepath_cloud_profile__cost_of  (p0n : Nat) (p0c : List PV) (p1 : Int) (p2 : Int) {res : (Int)} (h : t_glidepath_cloud_profile__cost (Fn env) L_glidepath_cloud_profile__cost_0 p0n p0c p1 p2 = some res) : F_glidepath_cloud_profile__cost [PV.list p0n p0c, PV.int IntKind.i64 p1, PV.int IntKind.i64 p2] = some res :=
  fn_of E_glidepath_cloud_profile__cost_ok rfl rfl (lo_cons (lpO_ok U_glidepath_cloud_profile__cost) lo_nil) ((t_glidepath_cloud_profile__cost_eq _ _ _ _ _ _).trans h)

/-! ### _glidepath_cloud_profile__potentialAfter -/

def E_glidepath_cloud_profile__potentialAfter : List Entry := [.out 66 (RSh.one (CK.int IntKind.i64))]
theorem E_glidepath_cloud_profile__potentialAfter_ok : ∀ e ∈ E_glidepath_cloud_profile__potentialAfter, EntOK env e := (ent_out ent_nil)
def T_glidepath_cloud_profile__potentialAfter_0a (n0 : Nat) (c1 : List PV) (n2 : Nat) (c3 : List PV) (i4 : Int) (i5 : Int) (n6 : Nat) (c7 : List PV) (i8 : Int) (i9 : Int) : Q := ⟨(tm 33 [(0, (AV.p (PV.list n0 c1))), (1, (AV.p (PV.list n2 c3))), (2, (AV.p (PV.int IntKind.i64 i4))), (7, (AV.p (PV.int IntKind.i64 i5))), (13, (AV.p (PV.list n6 c7))), (14, (AV.p (PV.int IntKind.i64 i8))), (15, (AV.p (PV.int IntKind.i64 i9)))]), (mm 33 [])⟩
def X_glidepath_cloud_profile__potentialAfter_0a (y : Int) : Ext × Q := (Ext.normal, ⟨(tm 33 [(7, (AV.p (PV.int IntKind.i64 y)))]), (mm 33 [])⟩)
def I_glidepath_cloud_profile__potentialAfter_0a (q : Ext × S) : Int := (pP_int1 (pA_p (avT q.2 7)))
abbrev Y_glidepath_cloud_profile__potentialAfter_0 : Type := Int
def XL_glidepath_cloud_profile__potentialAfter_0 : XL Y_glidepath_cloud_profile__potentialAfter_0 := .one X_glidepath_cloud_profile__potentialAfter_0a
def I_glidepath_cloud_profile__potentialAfter_0 (q : Ext × S) : Y_glidepath_cloud_profile__potentialAfter_0 := (I_glidepath_cloud_profile__potentialAfter_0a q)
theorem XI_glidepath_cloud_profile__potentialAfter_0a (y : Int) : I_glidepath_cloud_profile__potentialAfter_0 (xe (X_glidepath_cloud_profile__potentialAfter_0a y)) = y := rfl
theorem XI_glidepath_cloud_profile__potentialAfter_0 (y : Y_glidepath_cloud_profile__potentialAfter_0) : I_glidepath_cloud_profile__potentialAfter_0 (xe (XL_glidepath_cloud_profile__potentialAfter_0.fn y)) = y := XI_glidepath_cloud_profile__potentialAfter_0a y
noncomputable abbrev L_glidepath_cloud_profile__potentialAfter_0 : Q → Option Y_glidepath_cloud_profile__potentialAfter_0 := lpO env a69.body 0 XL_glidepath_cloud_profile__potentialAfter_0
noncomputable abbrev R_glidepath_cloud_profile__potentialAfter_0 : Q → Option (Ext × S) := lpR env a69.body 0
theorem L_glidepath_cloud_profile__potentialAfter_0a_of {s : Q} {y : Int} (h : R_glidepath_cloud_profile__potentialAfter_0 s = exO (X_glidepath_cloud_profile__potentialAfter_0a y)) : L_glidepath_cloud_profile__potentialAfter_0 s = some y := lpO_of I_glidepath_cloud_profile__potentialAfter_0 XI_glidepath_cloud_profile__potentialAfter_0 (y := y) h
theorem U_glidepath_cloud_profile__potentialAfter : uniq ((blocksOf a69.body).map (·.1)) = true := by kernel_rfl
def B_glidepath_cloud_profile__potentialAfter_0a (F : FnT) (N : Q → Option (Ext × S)) (E : Ext × Q → Option (Ext × S)) (_L0 : Q → Option Y_glidepath_cloud_profile__potentialAfter_0) (n0 : Nat) (c1 : List PV) (n2 : Nat) (c3 : List PV) (i4 : Int) (i5 : Int) (n6 : Nat) (c7 : List PV) (i8 : Int) (i9 : Int) : Option (Ext × S) :=
  bif (decide (i9 < i8)) then
    bif (decide (((0 : Int) ≤ i9) ∧ (i9 < (n6 : Int)))) then
      bindO (intC IntKind.i64 (c7[((Int.toNat i9) * 1)]?)) fun x0 =>
      bindO (F 66 (RSh.one (CK.int IntKind.i64)) [(PV.list n0 c1), (PV.int IntKind.i64 i9), (PV.int IntKind.i64 (n2 : Int))]) fun (y1 : (Int)) =>
      N (T_glidepath_cloud_profile__potentialAfter_0a n0 c1 n2 c3 i4 (if ((w64 ((w64 (x0 + y1)) + i4)) < i5) then (w64 ((w64 (x0 + y1)) + i4)) else i5) n6 c7 i8 (w64 (i9 + (1 : Int))))
    else none
  else E (X_glidepath_cloud_profile__potentialAfter_0a i5)
theorem B_glidepath_cloud_profile__potentialAfter_0a_eq (F : FnT) (N : Q → Option (Ext × S)) (E : Ext × Q → Option (Ext × S)) (L0 : Q → Option Y_glidepath_cloud_profile__potentialAfter_0) (n0 : Nat) (c1 : List PV) (n2 : Nat) (c3 : List PV) (i4 : Int) (i5 : Int) (n6 : Nat) (c7 : List PV) (i8 : Int) (i9 : Int) : semB (callP F E_glidepath_cloud_profile__potentialAfter 20) s69 (loopT [⟨0, Y_glidepath_cloud_profile__potentialAfter_0, L0, XL_glidepath_cloud_profile__potentialAfter_0⟩]) 400 (blkIn a69.body 0) N E (T_glidepath_cloud_profile__potentialAfter_0a n0 c1 n2 c3 i4 i5 n6 c7 i8 i9) = B_glidepath_cloud_profile__potentialAfter_0a F N E L0 n0 c1 n2 c3 i4 i5 n6 c7 i8 i9 := by kernel_rfl
theorem R_glidepath_cloud_profile__potentialAfter_0a_of  (n0 : Nat) (c1 : List PV) (n2 : Nat) (c3 : List PV) (i4 : Int) (i5 : Int) (n6 : Nat) (c7 : List PV) (i8 : Int) (i9 : Int) {r : Ext × S} (h : B_glidepath_cloud_profile__potentialAfter_0a (Fn env) R_glidepath_cloud_profile__potentialAfter_0 exO L_glidepath_cloud_profile__potentialAfter_0 n0 c1 n2 c3 i4 i5 n6 c7 i8 i9 = some r) : R_glidepath_cloud_profile__potentialAfter_0 (T_glidepath_cloud_profile__potentialAfter_0a n0 c1 n2 c3 i4 i5 n6 c7 i8 i9) = some r :=
  lp_of E_glidepath_cloud_profile__potentialAfter_ok (by kernel_rfl) (lo_cons (lpO_ok U_glidepath_cloud_profile__potentialAfter) lo_nil) (by kernel_rfl) ((B_glidepath_cloud_profile__potentialAfter_0a_eq _ _ _ _ _ _ _ _ _ _ _ _ _ _).trans h)
def t_glidepath_cloud_profile__potentialAfter (_F : FnT) (L0 : Q → Option Y_glidepath_cloud_profile__potentialAfter_0) (p0n : Nat) (p0c : List PV) (p1n : Nat) (p1c : List PV) (p2 : Int) : Option (Int) :=
  bif ((p1n : Int) == (0 : Int)) then
    some (0 : Int)
  else bindO (L0 (T_glidepath_cloud_profile__potentialAfter_0a p0n p0c p1n p1c p2 (9223372036854775807 : Int) p1n p1c (p1n : Int) (0 : Int))) fun y0 =>
  some y0
theorem t_glidepath_cloud_profile__potentialAfter_eq (F : FnT) (L0 : Q → Option Y_glidepath_cloud_profile__potentialAfter_0) (p0n : Nat) (p0c : List PV) (p1n : Nat) (p1c : List PV) (p2 : Int) : semF (callP F E_glidepath_cloud_profile__potentialAfter 20) s69 (loopT [⟨0, Y_glidepath_cloud_profile__potentialAfter_0, L0, XL_glidepath_cloud_profile__potentialAfter_0⟩]) 400 a69 [PV.list p0n p0c, PV.list p1n p1c, PV.int IntKind.i64 p2] (fun rv => decR (RSh.one (CK.int IntKind.i64)) rv.pv) = t_glidepath_cloud_profile__potentialAfter F L0 p0n p0c p1n p1c p2 := by kernel_rfl
noncomputable abbrev F_glidepath_cloud_profile__potentialAfter (args : List PV) := Fn env 69 (RSh.one (CK.int IntKind.i64)) args
theorem F_glidepath_cloud_profile__potentialAfter_of  (p0n : Nat) (p0c : List PV) (p1n : Nat) (p1c : List PV) (p2 : Int) {res : (Int)} (h : t_glidepath_cloud_profile__potentialAfter (Fn env) L_glidepath_cloud_profile__potentialAfter_0 p0n p0c p1n p1c p2 = some res) : F_glidepath_cloud_profile__potentialAfter [PV.list p0n p0c, PV.list p1n p1c, PV.int IntKind.i64 p2] = some res :=
  fn_of E_glidepath_cloud_profile__potentialAfter_ok rfl rfl (lo_cons (lpO_ok U_glidepath_cloud_profile__potentialAfter) lo_nil) ((t_glidepath_cloud_profile__potentialAfter_eq _ _ _ _ _ _ _).trans h)

/-! ### cloud_CheckPotentials_1 -/

def Ecloud_CheckPotentials_1 : List Entry := [.out 69 (RSh.one (CK.int IntKind.i64)), .out 62 (RSh.one (CK.int IntKind.i64))]
theorem Ecloud_CheckPotentials_1_ok : ∀ e ∈ Ecloud_CheckPotentials_1, EntOK env e := (ent_out (ent_out ent_nil))
theorem Ucloud_CheckPotentials_1 : uniq ((blocksOf a72.body).map (·.1)) = true := by kernel_rfl
def tcloud_CheckPotentials_1 (F : FnT)(n : Nat) (cs : List PV) (x : Int) (ln : Nat) (lc : List PV) (pen : Int) : Option (Int) :=
  bindO (F 69 (RSh.one (CK.int IntKind.i64)) [(PV.list (Prod.mk ln lc).1 (Prod.mk ln lc).2), (PV.list n cs), (PV.int IntKind.i64 pen)]) fun (y0 : (Int)) =>
  bif (x != y0) then
    bindO (F 62 (RSh.one (CK.int IntKind.i64)) [(PV.bool true), (PV.int IntKind.i64 (17 : Int))]) fun (y1 : (Int)) =>
    some y1
  else bindO (F 62 (RSh.one (CK.int IntKind.i64)) [(PV.bool false), (PV.int IntKind.i64 (17 : Int))]) fun (y2 : (Int)) =>
  some y2
theorem tcloud_CheckPotentials_1_eq (F : FnT)(n : Nat) (cs : List PV) (x : Int) (ln : Nat) (lc : List PV) (pen : Int) : semF (callP F Ecloud_CheckPotentials_1 20) s72 (loopT []) 400 a72 [.list n cs, .int .i64 x, .imm [.list ln lc] 0, .imm [.int .i64 pen] 0] (fun rv => decR (RSh.one (CK.int IntKind.i64)) rv.pv) = tcloud_CheckPotentials_1 F n cs x ln lc pen := by kernel_rfl
noncomputable abbrev Fcloud_CheckPotentials_1 (args : List PV) := Fn env 72 (RSh.one (CK.int IntKind.i64)) args
theorem Fcloud_CheckPotentials_1_of (n : Nat) (cs : List PV) (x : Int) (ln : Nat) (lc : List PV) (pen : Int) {res : (Int)} (h : tcloud_CheckPotentials_1 (Fn env) n cs x ln lc pen = some res) : Fcloud_CheckPotentials_1 [.list n cs, .int .i64 x, .imm [.list ln lc] 0, .imm [.int .i64 pen] 0] = some res :=
  fn_of Ecloud_CheckPotentials_1_ok rfl rfl lo_nil ((tcloud_CheckPotentials_1_eq _ _ _ _ _ _ _).trans h)

/-! ### cloud_itemError_pots -/

def Ecloud_itemError_pots : List Entry := [.out 72 (RSh.one (CK.int IntKind.i64))]
theorem Ecloud_itemError_pots_ok : ∀ e ∈ Ecloud_itemError_pots, EntOK env e := (ent_out ent_nil)
def Tcloud_itemError_pots_0a (n0 : Nat) (c1 : List PV) (n2 : Nat) (c3 : List PV) (i4 : Int) (n5 : Nat) (c6 : List PV) (i7 : Int) (i8 : Int) : Q := ⟨(tm 27 [(0, (AV.p (PV.list n0 c1))), (1, (AV.p (PV.fn 72 [(PV.imm [(PV.list n2 c3)] 0), (PV.imm [(PV.int IntKind.i64 i4)] 0)]))), (9, (AV.p (PV.list n5 c6))), (10, (AV.p (PV.int IntKind.i64 i7))), (11, (AV.p (PV.int IntKind.i64 i8)))]), (mm 27 [])⟩
def Xcloud_itemError_pots_0a (y : Int × Int) : Ext × Q := (Ext.ret, ⟨(tm 27 [(4, (AV.p (PV.int IntKind.i64 y.1))), (5, (AV.p (PV.int IntKind.i64 y.2)))]), (mm 27 [])⟩)
def Icloud_itemError_pots_0a (q : Ext × S) : Int × Int := ((pP_int1 (pA_p (avT q.2 4))), (pP_int1 (pA_p (avT q.2 5))))
def Xcloud_itemError_pots_0b (_y : Unit) : Ext × Q := (Ext.normal, ⟨(tm 27 []), (mm 27 [])⟩)
def Icloud_itemError_pots_0b (_q : Ext × S) : Unit := ()
abbrev Ycloud_itemError_pots_0 : Type := (Int × Int) ⊕ ((Unit))
def XLcloud_itemError_pots_0 : XL Ycloud_itemError_pots_0 := .more Xcloud_itemError_pots_0a (.one Xcloud_itemError_pots_0b)
def Icloud_itemError_pots_0 (q : Ext × S) : Ycloud_itemError_pots_0 := bif (cE q.1 == 2) then (Sum.inl (Icloud_itemError_pots_0a q)) else (Sum.inr (Icloud_itemError_pots_0b q))
theorem XIcloud_itemError_pots_0a (y : Int × Int) : Icloud_itemError_pots_0 (xe (Xcloud_itemError_pots_0a y)) = (Sum.inl y) := rfl
theorem XIcloud_itemError_pots_0b (y : Unit) : Icloud_itemError_pots_0 (xe (Xcloud_itemError_pots_0b y)) = (Sum.inr y) := rfl
theorem XIcloud_itemError_pots_0 (y : Ycloud_itemError_pots_0) : Icloud_itemError_pots_0 (xe (XLcloud_itemError_pots_0.fn y)) = y := (match y with | .inl y => XIcloud_itemError_pots_0a y | .inr y => XIcloud_itemError_pots_0b y)
noncomputable abbrev Lcloud_itemError_pots_0 : Q → Option Ycloud_itemError_pots_0 := lpO env a71.body 0 XLcloud_itemError_pots_0
noncomputable abbrev Rcloud_itemError_pots_0 : Q → Option (Ext × S) := lpR env a71.body 0
theorem Lcloud_itemError_pots_0a_of {s : Q} {y : Int × Int} (h : Rcloud_itemError_pots_0 s = exO (Xcloud_itemError_pots_0a y)) : Lcloud_itemError_pots_0 s = some (Sum.inl y) := lpO_of Icloud_itemError_pots_0 XIcloud_itemError_pots_0 (y := (Sum.inl y)) h
theorem Lcloud_itemError_pots_0b_of {s : Q} {y : Unit} (h : Rcloud_itemError_pots_0 s = exO (Xcloud_itemError_pots_0b y)) : Lcloud_itemError_pots_0 s = some (Sum.inr y) := lpO_of Icloud_itemError_pots_0 XIcloud_itemError_pots_0 (y := (Sum.inr y)) h
theorem Ucloud_itemError_pots : uniq ((blocksOf a71.body).map (·.1)) = true := by kernel_rfl
def Bcloud_itemError_pots_0a (F : FnT) (N : Q → Option (Ext × S)) (E : Ext × Q → Option (Ext × S)) (_L0 : Q → Option Ycloud_itemError_pots_0) (n0 : Nat) (c1 : List PV) (n2 : Nat) (c3 : List PV) (i4 : Int) (n5 : Nat) (c6 : List PV) (i7 : Int) (i8 : Int) : Option (Ext × S) :=
  bif (decide (i8 < i7)) then
    bif (decide (((0 : Int) ≤ i8) ∧ (i8 < (n5 : Int)))) then
      bindO (intC IntKind.i64 (c6[((Int.toNat i8) * 1)]?)) fun x0 =>
      bif (decide (((0 : Int) ≤ i8) ∧ (i8 ≤ ((Prod.mk n0 c1).1 : Int)))) then
        bif (decide ((0 = (Int.toNat i8)) ∨ (((0 * 1) + (((Int.toNat i8) - 0) * 1)) ≤ (List.length c1)))) then
          bindO (F 72 (RSh.one (CK.int IntKind.i64)) [(PV.list ((Int.toNat i8) - 0) (List.take (((Int.toNat i8) - 0) * 1) (List.drop 0 c1))), (PV.int IntKind.i64 x0), (PV.imm [(PV.list n2 c3)] 0), (PV.imm [(PV.int IntKind.i64 i4)] 0)]) fun (y1 : (Int)) =>
          bif (y1 != (0 : Int)) then
            E (Xcloud_itemError_pots_0a (i8, y1))
          else N (Tcloud_itemError_pots_0a n0 c1 n2 c3 i4 n5 c6 i7 (w64 (i8 + (1 : Int))))
        else none
      else none
    else none
  else E (Xcloud_itemError_pots_0b ())
theorem Bcloud_itemError_pots_0a_eq (F : FnT) (N : Q → Option (Ext × S)) (E : Ext × Q → Option (Ext × S)) (L0 : Q → Option Ycloud_itemError_pots_0) (n0 : Nat) (c1 : List PV) (n2 : Nat) (c3 : List PV) (i4 : Int) (n5 : Nat) (c6 : List PV) (i7 : Int) (i8 : Int) : semB (callP F Ecloud_itemError_pots 20) s71 (loopT [⟨0, Ycloud_itemError_pots_0, L0, XLcloud_itemError_pots_0⟩]) 400 (blkIn a71.body 0) N E (Tcloud_itemError_pots_0a n0 c1 n2 c3 i4 n5 c6 i7 i8) = Bcloud_itemError_pots_0a F N E L0 n0 c1 n2 c3 i4 n5 c6 i7 i8 := by kernel_rfl
theorem Rcloud_itemError_pots_0a_of  (n0 : Nat) (c1 : List PV) (n2 : Nat) (c3 : List PV) (i4 : Int) (n5 : Nat) (c6 : List PV) (i7 : Int) (i8 : Int) {r : Ext × S} (h : Bcloud_itemError_pots_0a (Fn env) Rcloud_itemError_pots_0 exO Lcloud_itemError_pots_0 n0 c1 n2 c3 i4 n5 c6 i7 i8 = some r) : Rcloud_itemError_pots_0 (Tcloud_itemError_pots_0a n0 c1 n2 c3 i4 n5 c6 i7 i8) = some r :=
  lp_of Ecloud_itemError_pots_ok (by kernel_rfl) (lo_cons (lpO_ok Ucloud_itemError_pots) lo_nil) (by kernel_rfl) ((Bcloud_itemError_pots_0a_eq _ _ _ _ _ _ _ _ _ _ _ _ _).trans h)
def tcloud_itemError_pots (_F : FnT) (L0 : Q → Option Ycloud_itemError_pots_0)(n : Nat) (cs : List PV) (ln : Nat) (lc : List PV) (pen : Int) : Option ((Int) × (Int)) :=
  bindO (L0 (Tcloud_itemError_pots_0a n cs ln lc pen n cs (n : Int) (0 : Int))) fun z =>
  Sum.elim (fun y0 =>
    some (y0.1, y0.2)) (fun _y1 =>
    some ((0 : Int), (0 : Int))) z
theorem tcloud_itemError_pots_eq (F : FnT) (L0 : Q → Option Ycloud_itemError_pots_0)(n : Nat) (cs : List PV) (ln : Nat) (lc : List PV) (pen : Int) : semF (callP F Ecloud_itemError_pots 20) s71 (loopT [⟨0, Ycloud_itemError_pots_0, L0, XLcloud_itemError_pots_0⟩]) 400 a71 [.list n cs, .fn 72 [.imm [.list ln lc] 0, .imm [.int .i64 pen] 0]] (fun rv => decR (RSh.tup [(Prod.mk false [(CK.int IntKind.i64)]), (Prod.mk false [(CK.int IntKind.i64)])]) rv.pv) = tcloud_itemError_pots F L0 n cs ln lc pen := by kernel_rfl
noncomputable abbrev Fcloud_itemError_pots (args : List PV) := Fn env 71 (RSh.tup [(Prod.mk false [(CK.int IntKind.i64)]), (Prod.mk false [(CK.int IntKind.i64)])]) args
theorem Fcloud_itemError_pots_of (n : Nat) (cs : List PV) (ln : Nat) (lc : List PV) (pen : Int) {res : ((Int) × (Int))} (h : tcloud_itemError_pots (Fn env) Lcloud_itemError_pots_0 n cs ln lc pen = some res) : Fcloud_itemError_pots [.list n cs, .fn 72 [.imm [.list ln lc] 0, .imm [.int .i64 pen] 0]] = some res :=
  fn_of Ecloud_itemError_pots_ok rfl rfl (lo_cons (lpO_ok Ucloud_itemError_pots) lo_nil) ((tcloud_itemError_pots_eq _ _ _ _ _ _ _).trans h)

/-! ### cloud_CheckPotentials -/

def Ecloud_CheckPotentials : List Entry := [.out 55 (RSh.one (CK.int IntKind.i64)), .out 67 (RSh.one (CK.int IntKind.i64)), .out 62 (RSh.one (CK.int IntKind.i64)), .out 54 (RSh.one (CK.int IntKind.i64)), .out 71 (RSh.tup [(Prod.mk false [(CK.int IntKind.i64)]), (Prod.mk false [(CK.int IntKind.i64)])])]
theorem Ecloud_CheckPotentials_ok : ∀ e ∈ Ecloud_CheckPotentials, EntOK env e := (ent_out (ent_out (ent_out (ent_out (ent_out ent_nil)))))
theorem Ucloud_CheckPotentials : uniq ((blocksOf a31.body).map (·.1)) = true := by kernel_rfl
def tcloud_CheckPotentials (F : FnT) (p0n : Nat) (p0c : List PV) (p1 : Int) (p2n : Nat) (p2c : List PV) : Option ((Int) × (Int)) :=
  bindO (F 55 (RSh.one (CK.int IntKind.i64)) [(PV.list p0n p0c)]) fun (y0 : (Int)) =>
  bindO (F 67 (RSh.one (CK.int IntKind.i64)) [(PV.int IntKind.i64 p1)]) fun (y1 : (Int)) =>
  bif ((p2n : Int) != (w64 ((p0n : Int) + (1 : Int)))) then
    bindO (F 62 (RSh.one (CK.int IntKind.i64)) [(PV.bool true), (PV.int IntKind.i64 (10 : Int))]) fun (y2 : (Int)) =>
    bindO (F 54 (RSh.one (CK.int IntKind.i64)) [(PV.list 3 [(PV.int IntKind.i64 y0), (PV.int IntKind.i64 y1), (PV.int IntKind.i64 y2)])]) fun (y3 : (Int)) =>
    bif (y3 != (0 : Int)) then
      some ((0 : Int), y3)
    else bindO (F 71 (RSh.tup [(Prod.mk false [(CK.int IntKind.i64)]), (Prod.mk false [(CK.int IntKind.i64)])]) [(PV.list p2n p2c), (PV.fn 72 [(PV.imm [(PV.list p0n p0c)] 0), (PV.imm [(PV.int IntKind.i64 p1)] 0)])]) fun (y4 : ((Int) × (Int))) =>
    bif (y4.2 != (0 : Int)) then
      some (y4.1, y4.2)
    else bif (decide (((0 : Int) ≤ (p0n : Int)) ∧ ((p0n : Int) < (p2n : Int)))) then
      bindO (intC IntKind.i64 (p2c[((Int.toNat (p0n : Int)) * 1)]?)) fun x5 =>
      some (x5, (0 : Int))
    else none
  else bindO (F 62 (RSh.one (CK.int IntKind.i64)) [(PV.bool false), (PV.int IntKind.i64 (10 : Int))]) fun (y6 : (Int)) =>
  bindO (F 54 (RSh.one (CK.int IntKind.i64)) [(PV.list 3 [(PV.int IntKind.i64 y0), (PV.int IntKind.i64 y1), (PV.int IntKind.i64 y6)])]) fun (y7 : (Int)) =>
  bif (y7 != (0 : Int)) then
    some ((0 : Int), y7)
  else bindO (F 71 (RSh.tup [(Prod.mk false [(CK.int IntKind.i64)]), (Prod.mk false [(CK.int IntKind.i64)])]) [(PV.list p2n p2c), (PV.fn 72 [(PV.imm [(PV.list p0n p0c)] 0), (PV.imm [(PV.int IntKind.i64 p1)] 0)])]) fun (y8 : ((Int) × (Int))) =>
  bif (y8.2 != (0 : Int)) then
    some (y8.1, y8.2)
  else bif (decide (((0 : Int) ≤ (p0n : Int)) ∧ ((p0n : Int) < (p2n : Int)))) then
    bindO (intC IntKind.i64 (p2c[((Int.toNat (p0n : Int)) * 1)]?)) fun x9 =>
    some (x9, (0 : Int))
  else none
theorem tcloud_CheckPotentials_eq (F : FnT) (p0n : Nat) (p0c : List PV) (p1 : Int) (p2n : Nat) (p2c : List PV) : semF (callP F Ecloud_CheckPotentials 20) s31 (loopT []) 400 a31 [PV.list p0n p0c, PV.int IntKind.i64 p1, PV.list p2n p2c] (fun rv => decR (RSh.tup [(Prod.mk false [(CK.int IntKind.i64)]), (Prod.mk false [(CK.int IntKind.i64)])]) rv.pv) = tcloud_CheckPotentials F p0n p0c p1 p2n p2c := by kernel_rfl
noncomputable abbrev Fcloud_CheckPotentials (args : List PV) := Fn env 31 (RSh.tup [(Prod.mk false [(CK.int IntKind.i64)]), (Prod.mk false [(CK.int IntKind.i64)])]) args
theorem Fcloud_CheckPotentials_of  (p0n : Nat) (p0c : List PV) (p1 : Int) (p2n : Nat) (p2c : List PV) {res : ((Int) × (Int))} (h : tcloud_CheckPotentials (Fn env) p0n p0c p1 p2n p2c = some res) : Fcloud_CheckPotentials [PV.list p0n p0c, PV.int IntKind.i64 p1, PV.list p2n p2c] = some res :=
  fn_of Ecloud_CheckPotentials_ok rfl rfl lo_nil ((tcloud_CheckPotentials_eq _ _ _ _ _ _).trans h)

/-! ### glidepathref08_CheckProfile -/

def Eglidepathref08_CheckProfile : List Entry := [.out 14 (RSh.one CK.bool)]
theorem Eglidepathref08_CheckProfile_ok : ∀ e ∈ Eglidepathref08_CheckProfile, EntOK env e := (ent_out ent_nil)
def Tglidepathref08_CheckProfile_0a (n0 : Nat) (c1 : List PV) (i2 : Int) : Q := ⟨(tm 24 [(0, (AV.p (PV.list n0 c1))), (4, (AV.p (PV.int IntKind.i64 i2)))]), (mm 24 [])⟩
def Xglidepathref08_CheckProfile_0a (y : Int) : Ext × Q := (Ext.ret, ⟨(tm 24 [(2, (AV.p (PV.int IntKind.i64 y))), (3, (AV.p (PV.int IntKind.i64 (2 : Int))))]), (mm 24 [])⟩)
def Iglidepathref08_CheckProfile_0a (q : Ext × S) : Int := (pP_int1 (pA_p (avT q.2 2)))
def Xglidepathref08_CheckProfile_0b (_y : Unit) : Ext × Q := (Ext.normal, ⟨(tm 24 []), (mm 24 [])⟩)
def Iglidepathref08_CheckProfile_0b (_q : Ext × S) : Unit := ()
abbrev Yglidepathref08_CheckProfile_0 : Type := (Int) ⊕ ((Unit))
def XLglidepathref08_CheckProfile_0 : XL Yglidepathref08_CheckProfile_0 := .more Xglidepathref08_CheckProfile_0a (.one Xglidepathref08_CheckProfile_0b)
def Iglidepathref08_CheckProfile_0 (q : Ext × S) : Yglidepathref08_CheckProfile_0 := bif (cE q.1 == 2) then (Sum.inl (Iglidepathref08_CheckProfile_0a q)) else (Sum.inr (Iglidepathref08_CheckProfile_0b q))
theorem XIglidepathref08_CheckProfile_0a (y : Int) : Iglidepathref08_CheckProfile_0 (xe (Xglidepathref08_CheckProfile_0a y)) = (Sum.inl y) := rfl
theorem XIglidepathref08_CheckProfile_0b (y : Unit) : Iglidepathref08_CheckProfile_0 (xe (Xglidepathref08_CheckProfile_0b y)) = (Sum.inr y) := rfl
theorem XIglidepathref08_CheckProfile_0 (y : Yglidepathref08_CheckProfile_0) : Iglidepathref08_CheckProfile_0 (xe (XLglidepathref08_CheckProfile_0.fn y)) = y := (match y with | .inl y => XIglidepathref08_CheckProfile_0a y | .inr y => XIglidepathref08_CheckProfile_0b y)
noncomputable abbrev Lglidepathref08_CheckProfile_0 : Q → Option Yglidepathref08_CheckProfile_0 := lpO env a53.body 0 XLglidepathref08_CheckProfile_0
noncomputable abbrev Rglidepathref08_CheckProfile_0 : Q → Option (Ext × S) := lpR env a53.body 0
theorem Lglidepathref08_CheckProfile_0a_of {s : Q} {y : Int} (h : Rglidepathref08_CheckProfile_0 s = exO (Xglidepathref08_CheckProfile_0a y)) : Lglidepathref08_CheckProfile_0 s = some (Sum.inl y) := lpO_of Iglidepathref08_CheckProfile_0 XIglidepathref08_CheckProfile_0 (y := (Sum.inl y)) h
theorem Lglidepathref08_CheckProfile_0b_of {s : Q} {y : Unit} (h : Rglidepathref08_CheckProfile_0 s = exO (Xglidepathref08_CheckProfile_0b y)) : Lglidepathref08_CheckProfile_0 s = some (Sum.inr y) := lpO_of Iglidepathref08_CheckProfile_0 XIglidepathref08_CheckProfile_0 (y := (Sum.inr y)) h
theorem Uglidepathref08_CheckProfile : uniq ((blocksOf a53.body).map (·.1)) = true := by kernel_rfl
def Bglidepathref08_CheckProfile_0a (F : FnT) (N : Q → Option (Ext × S)) (E : Ext × Q → Option (Ext × S)) (_L0 : Q → Option Yglidepathref08_CheckProfile_0) (n0 : Nat) (c1 : List PV) (i2 : Int) : Option (Ext × S) :=
  bif (decide (i2 < (n0 : Int))) then
    bif (decide (((0 : Int) ≤ i2) ∧ (i2 < (n0 : Int)))) then
      bindO (intC IntKind.i64 (c1[((Int.toNat i2) * 1)]?)) fun x0 =>
      bindO (F 14 (RSh.one CK.bool) [(PV.int IntKind.i64 x0), (PV.int IntKind.i64 (0 : Int)), (PV.int IntKind.i64 (10000 : Int))]) fun (y1 : (Bool)) =>
      bif y1 then
        N (Tglidepathref08_CheckProfile_0a n0 c1 (w64 (i2 + (1 : Int))))
      else E (Xglidepathref08_CheckProfile_0a i2)
    else none
  else E (Xglidepathref08_CheckProfile_0b ())
theorem Bglidepathref08_CheckProfile_0a_eq (F : FnT) (N : Q → Option (Ext × S)) (E : Ext × Q → Option (Ext × S)) (L0 : Q → Option Yglidepathref08_CheckProfile_0) (n0 : Nat) (c1 : List PV) (i2 : Int) : semB (callP F Eglidepathref08_CheckProfile 20) s53 (loopT [⟨0, Yglidepathref08_CheckProfile_0, L0, XLglidepathref08_CheckProfile_0⟩]) 400 (blkIn a53.body 0) N E (Tglidepathref08_CheckProfile_0a n0 c1 i2) = Bglidepathref08_CheckProfile_0a F N E L0 n0 c1 i2 := by kernel_rfl
theorem Rglidepathref08_CheckProfile_0a_of  (n0 : Nat) (c1 : List PV) (i2 : Int) {r : Ext × S} (h : Bglidepathref08_CheckProfile_0a (Fn env) Rglidepathref08_CheckProfile_0 exO Lglidepathref08_CheckProfile_0 n0 c1 i2 = some r) : Rglidepathref08_CheckProfile_0 (Tglidepathref08_CheckProfile_0a n0 c1 i2) = some r :=
  lp_of Eglidepathref08_CheckProfile_ok (by kernel_rfl) (lo_cons (lpO_ok Uglidepathref08_CheckProfile) lo_nil) (by kernel_rfl) ((Bglidepathref08_CheckProfile_0a_eq _ _ _ _ _ _ _).trans h)
def tglidepathref08_CheckProfile (_F : FnT) (L0 : Q → Option Yglidepathref08_CheckProfile_0) (p0n : Nat) (p0c : List PV) : Option ((Int) × (Int)) :=
  bif ((p0n : Int) == (0 : Int)) then
    some ((0 : Int), (10 : Int))
  else bif (decide ((p0n : Int) > (24 : Int))) then
    some ((0 : Int), (8 : Int))
  else bindO (L0 (Tglidepathref08_CheckProfile_0a p0n p0c (0 : Int))) fun z =>
  Sum.elim (fun y0 =>
    some (y0, (2 : Int))) (fun _y1 =>
    some ((0 : Int), (0 : Int))) z
theorem tglidepathref08_CheckProfile_eq (F : FnT) (L0 : Q → Option Yglidepathref08_CheckProfile_0) (p0n : Nat) (p0c : List PV) : semF (callP F Eglidepathref08_CheckProfile 20) s53 (loopT [⟨0, Yglidepathref08_CheckProfile_0, L0, XLglidepathref08_CheckProfile_0⟩]) 400 a53 [PV.list p0n p0c] (fun rv => decR (RSh.tup [(Prod.mk false [(CK.int IntKind.i64)]), (Prod.mk false [(CK.int IntKind.i64)])]) rv.pv) = tglidepathref08_CheckProfile F L0 p0n p0c := by kernel_rfl
noncomputable abbrev Fglidepathref08_CheckProfile (args : List PV) := Fn env 53 (RSh.tup [(Prod.mk false [(CK.int IntKind.i64)]), (Prod.mk false [(CK.int IntKind.i64)])]) args
theorem Fglidepathref08_CheckProfile_of  (p0n : Nat) (p0c : List PV) {res : ((Int) × (Int))} (h : tglidepathref08_CheckProfile (Fn env) Lglidepathref08_CheckProfile_0 p0n p0c = some res) : Fglidepathref08_CheckProfile [PV.list p0n p0c] = some res :=
  fn_of Eglidepathref08_CheckProfile_ok rfl rfl (lo_cons (lpO_ok Uglidepathref08_CheckProfile) lo_nil) ((tglidepathref08_CheckProfile_eq _ _ _ _).trans h)

/-! ### glidepathref08_ProfileErr -/

def Eglidepathref08_ProfileErr : List Entry := [.out 53 (RSh.tup [(Prod.mk false [(CK.int IntKind.i64)]), (Prod.mk false [(CK.int IntKind.i64)])])]
theorem Eglidepathref08_ProfileErr_ok : ∀ e ∈ Eglidepathref08_ProfileErr, EntOK env e := (ent_out ent_nil)
theorem Uglidepathref08_ProfileErr : uniq ((blocksOf a12.body).map (·.1)) = true := by kernel_rfl
def tglidepathref08_ProfileErr (F : FnT) (p0n : Nat) (p0c : List PV) : Option (Int) :=
  bindO (F 53 (RSh.tup [(Prod.mk false [(CK.int IntKind.i64)]), (Prod.mk false [(CK.int IntKind.i64)])]) [(PV.list p0n p0c)]) fun (y0 : ((Int) × (Int))) =>
  some y0.2
theorem tglidepathref08_ProfileErr_eq (F : FnT) (p0n : Nat) (p0c : List PV) : semF (callP F Eglidepathref08_ProfileErr 20) s12 (loopT []) 400 a12 [PV.list p0n p0c] (fun rv => decR (RSh.one (CK.int IntKind.i64)) rv.pv) = tglidepathref08_ProfileErr F p0n p0c := by kernel_rfl
noncomputable abbrev Fglidepathref08_ProfileErr (args : List PV) := Fn env 12 (RSh.one (CK.int IntKind.i64)) args
theorem Fglidepathref08_ProfileErr_of  (p0n : Nat) (p0c : List PV) {res : (Int)} (h : tglidepathref08_ProfileErr (Fn env) p0n p0c = some res) : Fglidepathref08_ProfileErr [PV.list p0n p0c] = some res :=
  fn_of Eglidepathref08_ProfileErr_ok rfl rfl lo_nil ((tglidepathref08_ProfileErr_eq _ _ _).trans h)

/-! ### glidepathref08_PenaltyErr -/

def Eglidepathref08_PenaltyErr : List Entry := [.out 14 (RSh.one CK.bool)]
theorem Eglidepathref08_PenaltyErr_ok : ∀ e ∈ Eglidepathref08_PenaltyErr, EntOK env e := (ent_out ent_nil)
theorem Uglidepathref08_PenaltyErr : uniq ((blocksOf a27.body).map (·.1)) = true := by kernel_rfl
def tglidepathref08_PenaltyErr (F : FnT) (p0 : Int) : Option (Int) :=
  bindO (F 14 (RSh.one CK.bool) [(PV.int IntKind.i64 p0), (PV.int IntKind.i64 (0 : Int)), (PV.int IntKind.i64 (1000000 : Int))]) fun (y0 : (Bool)) =>
  bif y0 then
    some (0 : Int)
  else some (2 : Int)
theorem tglidepathref08_PenaltyErr_eq (F : FnT) (p0 : Int) : semF (callP F Eglidepathref08_PenaltyErr 20) s27 (loopT []) 400 a27 [PV.int IntKind.i64 p0] (fun rv => decR (RSh.one (CK.int IntKind.i64)) rv.pv) = tglidepathref08_PenaltyErr F p0 := by kernel_rfl
noncomputable abbrev Fglidepathref08_PenaltyErr (args : List PV) := Fn env 27 (RSh.one (CK.int IntKind.i64)) args
theorem Fglidepathref08_PenaltyErr_of  (p0 : Int) {res : (Int)} (h : tglidepathref08_PenaltyErr (Fn env) p0 = some res) : Fglidepathref08_PenaltyErr [PV.int IntKind.i64 p0] = some res :=
  fn_of Eglidepathref08_PenaltyErr_ok rfl rfl lo_nil ((tglidepathref08_PenaltyErr_eq _ _).trans h)

/-! ### glidepathlaw08_both -/

def Eglidepathlaw08_both : List Entry := []
theorem Eglidepathlaw08_both_ok : ∀ e ∈ Eglidepathlaw08_both, EntOK env e := ent_nil
theorem Uglidepathlaw08_both : uniq ((blocksOf a26.body).map (·.1)) = true := by kernel_rfl
def tglidepathlaw08_both (_F : FnT) (p0 : Int) (p1 : Int) : Option (Int) :=
  bif (p0 != (0 : Int)) then
    some p0
  else some p1
theorem tglidepathlaw08_both_eq (F : FnT) (p0 : Int) (p1 : Int) : semF (callP F Eglidepathlaw08_both 20) s26 (loopT []) 400 a26 [PV.int IntKind.i64 p0, PV.int IntKind.i64 p1] (fun rv => decR (RSh.one (CK.int IntKind.i64)) rv.pv) = tglidepathlaw08_both F p0 p1 := by kernel_rfl
noncomputable abbrev Fglidepathlaw08_both (args : List PV) := Fn env 26 (RSh.one (CK.int IntKind.i64)) args
theorem Fglidepathlaw08_both_of  (p0 : Int) (p1 : Int) {res : (Int)} (h : tglidepathlaw08_both (Fn env) p0 p1 = some res) : Fglidepathlaw08_both [PV.int IntKind.i64 p0, PV.int IntKind.i64 p1] = some res :=
  fn_of Eglidepathlaw08_both_ok rfl rfl lo_nil ((tglidepathlaw08_both_eq _ _ _).trans h)

/-! ### glidepathlaw08_few -/

def Eglidepathlaw08_few : List Entry := []
theorem Eglidepathlaw08_few_ok : ∀ e ∈ Eglidepathlaw08_few, EntOK env e := ent_nil
theorem Uglidepathlaw08_few : uniq ((blocksOf a11.body).map (·.1)) = true := by kernel_rfl
def tglidepathlaw08_few (_F : FnT) (p0n : Nat) (_p0c : List PV) : Option (Bool) :=
  bif (decide ((p0n : Int) ≤ (26 : Int))) then
    some true
  else some false
theorem tglidepathlaw08_few_eq (F : FnT) (p0n : Nat) (p0c : List PV) : semF (callP F Eglidepathlaw08_few 20) s11 (loopT []) 400 a11 [PV.list p0n p0c] (fun rv => decR (RSh.one CK.bool) rv.pv) = tglidepathlaw08_few F p0n p0c := by kernel_rfl
noncomputable abbrev Fglidepathlaw08_few (args : List PV) := Fn env 11 (RSh.one CK.bool) args
theorem Fglidepathlaw08_few_of  (p0n : Nat) (p0c : List PV) {res : (Bool)} (h : tglidepathlaw08_few (Fn env) p0n p0c = some res) : Fglidepathlaw08_few [PV.list p0n p0c] = some res :=
  fn_of Eglidepathlaw08_few_ok rfl rfl lo_nil ((tglidepathlaw08_few_eq _ _ _).trans h)

/-! ### glidepathbase_Size -/

def Eglidepathbase_Size : List Entry := []
theorem Eglidepathbase_Size_ok : ∀ e ∈ Eglidepathbase_Size, EntOK env e := ent_nil
theorem Uglidepathbase_Size : uniq ((blocksOf a70.body).map (·.1)) = true := by kernel_rfl
def tglidepathbase_Size (_F : FnT) (p0 : Int) : Option (Int) :=
  some (if ((w64 ((0 : Int) - p0)) > p0) then (w64 ((0 : Int) - p0)) else p0)
theorem tglidepathbase_Size_eq (F : FnT) (p0 : Int) : semF (callP F Eglidepathbase_Size 20) s70 (loopT []) 400 a70 [PV.int IntKind.i64 p0] (fun rv => decR (RSh.one (CK.int IntKind.i64)) rv.pv) = tglidepathbase_Size F p0 := by kernel_rfl
noncomputable abbrev Fglidepathbase_Size (args : List PV) := Fn env 70 (RSh.one (CK.int IntKind.i64)) args
theorem Fglidepathbase_Size_of  (p0 : Int) {res : (Int)} (h : tglidepathbase_Size (Fn env) p0 = some res) : Fglidepathbase_Size [PV.int IntKind.i64 p0] = some res :=
  fn_of Eglidepathbase_Size_ok rfl rfl lo_nil ((tglidepathbase_Size_eq _ _).trans h)

/-! ### glidepathref08_Cost -/

def Eglidepathref08_Cost : List Entry := [.out 70 (RSh.one (CK.int IntKind.i64))]
theorem Eglidepathref08_Cost_ok : ∀ e ∈ Eglidepathref08_Cost, EntOK env e := (ent_out ent_nil)
def Tglidepathref08_Cost_0a (n0 : Nat) (c1 : List PV) (i2 : Int) (i3 : Int) (i4 : Int) (i5 : Int) : Q := ⟨(tm 44 [(0, (AV.p (PV.list n0 c1))), (1, (AV.p (PV.int IntKind.i64 i2))), (2, (AV.p (PV.int IntKind.i64 i3))), (7, (AV.p (PV.int IntKind.i64 i4))), (8, (AV.p (PV.int IntKind.i64 i5)))]), (mm 44 [])⟩
def Xglidepathref08_Cost_0a (y : Int) : Ext × Q := (Ext.normal, ⟨(tm 44 [(7, (AV.p (PV.int IntKind.i64 y)))]), (mm 44 [])⟩)
def Iglidepathref08_Cost_0a (q : Ext × S) : Int := (pP_int1 (pA_p (avT q.2 7)))
abbrev Yglidepathref08_Cost_0 : Type := Int
def XLglidepathref08_Cost_0 : XL Yglidepathref08_Cost_0 := .one Xglidepathref08_Cost_0a
def Iglidepathref08_Cost_0 (q : Ext × S) : Yglidepathref08_Cost_0 := (Iglidepathref08_Cost_0a q)
theorem XIglidepathref08_Cost_0a (y : Int) : Iglidepathref08_Cost_0 (xe (Xglidepathref08_Cost_0a y)) = y := rfl
theorem XIglidepathref08_Cost_0 (y : Yglidepathref08_Cost_0) : Iglidepathref08_Cost_0 (xe (XLglidepathref08_Cost_0.fn y)) = y := XIglidepathref08_Cost_0a y
noncomputable abbrev Lglidepathref08_Cost_0 : Q → Option Yglidepathref08_Cost_0 := lpO env a25.body 0 XLglidepathref08_Cost_0
noncomputable abbrev Rglidepathref08_Cost_0 : Q → Option (Ext × S) := lpR env a25.body 0
theorem Lglidepathref08_Cost_0a_of {s : Q} {y : Int} (h : Rglidepathref08_Cost_0 s = exO (Xglidepathref08_Cost_0a y)) : Lglidepathref08_Cost_0 s = some y := lpO_of Iglidepathref08_Cost_0 XIglidepathref08_Cost_0 (y := y) h
def Tglidepathref08_Cost_2a (n0 : Nat) (c1 : List PV) (i2 : Int) (i3 : Int) (i4 : Int) (i5 : Int) (i6 : Int) (i7 : Int) : Q := ⟨(tm 44 [(0, (AV.p (PV.list n0 c1))), (1, (AV.p (PV.int IntKind.i64 i2))), (2, (AV.p (PV.int IntKind.i64 i3))), (7, (AV.p (PV.int IntKind.i64 i4))), (8, (AV.p (PV.int IntKind.i64 i5))), (9, (AV.p (PV.int IntKind.i64 i6))), (10, (AV.p (PV.int IntKind.i64 i7)))]), (mm 44 [])⟩
def Xglidepathref08_Cost_2a (y : Nat × List PV × Int × Int × Int × Int × Int) : Ext × Q := (Ext.normal, ⟨(tm 44 [(0, (AV.p (PV.list y.1 y.2.1))), (1, (AV.p (PV.int IntKind.i64 y.2.2.1))), (2, (AV.p (PV.int IntKind.i64 y.2.2.2.1))), (7, (AV.p (PV.int IntKind.i64 y.2.2.2.2.1))), (8, (AV.p (PV.int IntKind.i64 y.2.2.2.2.2.1))), (9, (AV.p (PV.int IntKind.i64 y.2.2.2.2.2.2)))]), (mm 44 [])⟩)
def Iglidepathref08_Cost_2a (q : Ext × S) : Nat × List PV × Int × Int × Int × Int × Int := ((pP_list0 (pA_p (avT q.2 0))), (pP_list1 (pA_p (avT q.2 0))), (pP_int1 (pA_p (avT q.2 1))), (pP_int1 (pA_p (avT q.2 2))), (pP_int1 (pA_p (avT q.2 7))), (pP_int1 (pA_p (avT q.2 8))), (pP_int1 (pA_p (avT q.2 9))))
abbrev Yglidepathref08_Cost_2 : Type := Nat × List PV × Int × Int × Int × Int × Int
def XLglidepathref08_Cost_2 : XL Yglidepathref08_Cost_2 := .one Xglidepathref08_Cost_2a
def Iglidepathref08_Cost_2 (q : Ext × S) : Yglidepathref08_Cost_2 := (Iglidepathref08_Cost_2a q)
theorem XIglidepathref08_Cost_2a (y : Nat × List PV × Int × Int × Int × Int × Int) : Iglidepathref08_Cost_2 (xe (Xglidepathref08_Cost_2a y)) = y := rfl
theorem XIglidepathref08_Cost_2 (y : Yglidepathref08_Cost_2) : Iglidepathref08_Cost_2 (xe (XLglidepathref08_Cost_2.fn y)) = y := XIglidepathref08_Cost_2a y
noncomputable abbrev Lglidepathref08_Cost_2 : Q → Option Yglidepathref08_Cost_2 := lpO env a25.body 2 XLglidepathref08_Cost_2
noncomputable abbrev Rglidepathref08_Cost_2 : Q → Option (Ext × S) := lpR env a25.body 2
theorem Lglidepathref08_Cost_2a_of {s : Q} {y : Nat × List PV × Int × Int × Int × Int × Int} (h : Rglidepathref08_Cost_2 s = exO (Xglidepathref08_Cost_2a y)) : Lglidepathref08_Cost_2 s = some y := lpO_of Iglidepathref08_Cost_2 XIglidepathref08_Cost_2 (y := y) h
theorem Uglidepathref08_Cost : uniq ((blocksOf a25.body).map (·.1)) = true := by kernel_rfl
def Bglidepathref08_Cost_0a (_F : FnT) (N : Q → Option (Ext × S)) (E : Ext × Q → Option (Ext × S)) (_L0 : Q → Option Yglidepathref08_Cost_0) (L2 : Q → Option Yglidepathref08_Cost_2) (n0 : Nat) (c1 : List PV) (i2 : Int) (i3 : Int) (i4 : Int) (i5 : Int) : Option (Ext × S) :=
  bif (decide (i5 ≤ i3)) then
    bindO (L2 (Tglidepathref08_Cost_2a n0 c1 i2 i3 i4 i5 (0 : Int) i2)) fun y0 =>
    bif (decide (y0.2.2.2.2.1 < (0 : Int))) then
      N (Tglidepathref08_Cost_0a y0.1 y0.2.1 y0.2.2.1 y0.2.2.2.1 y0.2.2.2.2.2.2 (w64 (y0.2.2.2.2.2.1 + (1 : Int))))
    else bif (decide (y0.2.2.2.2.2.2 < y0.2.2.2.2.1)) then
      N (Tglidepathref08_Cost_0a y0.1 y0.2.1 y0.2.2.1 y0.2.2.2.1 y0.2.2.2.2.2.2 (w64 (y0.2.2.2.2.2.1 + (1 : Int))))
    else N (Tglidepathref08_Cost_0a y0.1 y0.2.1 y0.2.2.1 y0.2.2.2.1 y0.2.2.2.2.1 (w64 (y0.2.2.2.2.2.1 + (1 : Int))))
  else E (Xglidepathref08_Cost_0a i4)
theorem Bglidepathref08_Cost_0a_eq (F : FnT) (N : Q → Option (Ext × S)) (E : Ext × Q → Option (Ext × S)) (L0 : Q → Option Yglidepathref08_Cost_0) (L2 : Q → Option Yglidepathref08_Cost_2) (n0 : Nat) (c1 : List PV) (i2 : Int) (i3 : Int) (i4 : Int) (i5 : Int) : semB (callP F Eglidepathref08_Cost 20) s25 (loopT [⟨0, Yglidepathref08_Cost_0, L0, XLglidepathref08_Cost_0⟩, ⟨2, Yglidepathref08_Cost_2, L2, XLglidepathref08_Cost_2⟩]) 400 (blkIn a25.body 0) N E (Tglidepathref08_Cost_0a n0 c1 i2 i3 i4 i5) = Bglidepathref08_Cost_0a F N E L0 L2 n0 c1 i2 i3 i4 i5 := by kernel_rfl
theorem Rglidepathref08_Cost_0a_of  (n0 : Nat) (c1 : List PV) (i2 : Int) (i3 : Int) (i4 : Int) (i5 : Int) {r : Ext × S} (h : Bglidepathref08_Cost_0a (Fn env) Rglidepathref08_Cost_0 exO Lglidepathref08_Cost_0 Lglidepathref08_Cost_2 n0 c1 i2 i3 i4 i5 = some r) : Rglidepathref08_Cost_0 (Tglidepathref08_Cost_0a n0 c1 i2 i3 i4 i5) = some r :=
  lp_of Eglidepathref08_Cost_ok (by kernel_rfl) (lo_cons (lpO_ok Uglidepathref08_Cost) (lo_cons (lpO_ok Uglidepathref08_Cost) lo_nil)) (by kernel_rfl) ((Bglidepathref08_Cost_0a_eq _ _ _ _ _ _ _ _ _ _ _).trans h)
def Bglidepathref08_Cost_2a (F : FnT) (N : Q → Option (Ext × S)) (E : Ext × Q → Option (Ext × S)) (_L0 : Q → Option Yglidepathref08_Cost_0) (_L2 : Q → Option Yglidepathref08_Cost_2) (n0 : Nat) (c1 : List PV) (i2 : Int) (i3 : Int) (i4 : Int) (i5 : Int) (i6 : Int) (i7 : Int) : Option (Ext × S) :=
  bif (decide (i7 ≤ i3)) then
    bif (decide (((0 : Int) ≤ i7) ∧ (i7 < (n0 : Int)))) then
      bindO (intC IntKind.i64 (c1[((Int.toNat i7) * 1)]?)) fun x0 =>
      bif (decide (((0 : Int) ≤ i5) ∧ (i5 < (n0 : Int)))) then
        bindO (intC IntKind.i64 (c1[((Int.toNat i5) * 1)]?)) fun x1 =>
        bindO (F 70 (RSh.one (CK.int IntKind.i64)) [(PV.int IntKind.i64 (w64 (x0 - x1)))]) fun (y2 : (Int)) =>
        N (Tglidepathref08_Cost_2a n0 c1 i2 i3 i4 i5 (w64 (i6 + y2)) (w64 (i7 + (1 : Int))))
      else none
    else none
  else E (Xglidepathref08_Cost_2a (n0, c1, i2, i3, i4, i5, i6))
theorem Bglidepathref08_Cost_2a_eq (F : FnT) (N : Q → Option (Ext × S)) (E : Ext × Q → Option (Ext × S)) (L0 : Q → Option Yglidepathref08_Cost_0) (L2 : Q → Option Yglidepathref08_Cost_2) (n0 : Nat) (c1 : List PV) (i2 : Int) (i3 : Int) (i4 : Int) (i5 : Int) (i6 : Int) (i7 : Int) : semB (callP F Eglidepathref08_Cost 20) s25 (loopT [⟨0, Yglidepathref08_Cost_0, L0, XLglidepathref08_Cost_0⟩, ⟨2, Yglidepathref08_Cost_2, L2, XLglidepathref08_Cost_2⟩]) 400 (blkIn a25.body 2) N E (Tglidepathref08_Cost_2a n0 c1 i2 i3 i4 i5 i6 i7) = Bglidepathref08_Cost_2a F N E L0 L2 n0 c1 i2 i3 i4 i5 i6 i7 := by kernel_rfl
theorem Rglidepathref08_Cost_2a_of  (n0 : Nat) (c1 : List PV) (i2 : Int) (i3 : Int) (i4 : Int) (i5 : Int) (i6 : Int) (i7 : Int) {r : Ext × S} (h : Bglidepathref08_Cost_2a (Fn env) Rglidepathref08_Cost_2 exO Lglidepathref08_Cost_0 Lglidepathref08_Cost_2 n0 c1 i2 i3 i4 i5 i6 i7 = some r) : Rglidepathref08_Cost_2 (Tglidepathref08_Cost_2a n0 c1 i2 i3 i4 i5 i6 i7) = some r :=
  lp_of Eglidepathref08_Cost_ok (by kernel_rfl) (lo_cons (lpO_ok Uglidepathref08_Cost) (lo_cons (lpO_ok Uglidepathref08_Cost) lo_nil)) (by kernel_rfl) ((Bglidepathref08_Cost_2a_eq _ _ _ _ _ _ _ _ _ _ _ _ _).trans h)
def tglidepathref08_Cost (_F : FnT) (L0 : Q → Option Yglidepathref08_Cost_0) (_L2 : Q → Option Yglidepathref08_Cost_2) (p0n : Nat) (p0c : List PV) (p1 : Int) (p2 : Int) : Option (Int) :=
  bindO (L0 (Tglidepathref08_Cost_0a p0n p0c p1 p2 (-1 : Int) p1)) fun y0 =>
  some y0
theorem tglidepathref08_Cost_eq (F : FnT) (L0 : Q → Option Yglidepathref08_Cost_0) (L2 : Q → Option Yglidepathref08_Cost_2) (p0n : Nat) (p0c : List PV) (p1 : Int) (p2 : Int) : semF (callP F Eglidepathref08_Cost 20) s25 (loopT [⟨0, Yglidepathref08_Cost_0, L0, XLglidepathref08_Cost_0⟩, ⟨2, Yglidepathref08_Cost_2, L2, XLglidepathref08_Cost_2⟩]) 400 a25 [PV.list p0n p0c, PV.int IntKind.i64 p1, PV.int IntKind.i64 p2] (fun rv => decR (RSh.one (CK.int IntKind.i64)) rv.pv) = tglidepathref08_Cost F L0 L2 p0n p0c p1 p2 := by kernel_rfl
noncomputable abbrev Fglidepathref08_Cost (args : List PV) := Fn env 25 (RSh.one (CK.int IntKind.i64)) args
theorem Fglidepathref08_Cost_of  (p0n : Nat) (p0c : List PV) (p1 : Int) (p2 : Int) {res : (Int)} (h : tglidepathref08_Cost (Fn env) Lglidepathref08_Cost_0 Lglidepathref08_Cost_2 p0n p0c p1 p2 = some res) : Fglidepathref08_Cost [PV.list p0n p0c, PV.int IntKind.i64 p1, PV.int IntKind.i64 p2] = some res :=
  fn_of Eglidepathref08_Cost_ok rfl rfl (lo_cons (lpO_ok Uglidepathref08_Cost) (lo_cons (lpO_ok Uglidepathref08_Cost) lo_nil)) ((tglidepathref08_Cost_eq _ _ _ _ _ _ _).trans h)

/-! ### glidepathref08_Potentials -/

def Eglidepathref08_Potentials : List Entry := [.out 25 (RSh.one (CK.int IntKind.i64))]
theorem Eglidepathref08_Potentials_ok : ∀ e ∈ Eglidepathref08_Potentials, EntOK env e := (ent_out ent_nil)
def Tglidepathref08_Potentials_0a (n0 : Nat) (c1 : List PV) (i2 : Int) : Q := ⟨(tm 47 [(0, (AV.p (PV.list n0 c1))), (1, (AV.p (PV.int IntKind.i64 i2))), (5, (AV.lit 1 1 [(PV.int IntKind.i64 (0 : Int))])), (6, (AV.p (PV.int IntKind.i64 (1 : Int))))]), (mm 47 [])⟩
def Tglidepathref08_Potentials_0b (n0 : Nat) (c1 : List PV) (i2 : Int) (n3 : Nat) (c4 : List PV) (i5 : Int) (n6 : Nat) : Q := ⟨(tm 47 [(0, (AV.p (PV.list n0 c1))), (1, (AV.p (PV.int IntKind.i64 i2))), (5, (AV.app 45 n3 1 c4)), (6, (AV.p (PV.int IntKind.i64 i5)))]), (mm 47 [(45, (Bk.buf n6))])⟩
def Xglidepathref08_Potentials_0a (_y : Unit) : Ext × Q := (Ext.normal, ⟨(tm 47 [(5, (AV.lit 1 1 [(PV.int IntKind.i64 (0 : Int))]))]), (mm 47 [])⟩)
def Iglidepathref08_Potentials_0a (_q : Ext × S) : Unit := ()
def Xglidepathref08_Potentials_0b (y : Nat × List PV × Nat) : Ext × Q := (Ext.normal, ⟨(tm 47 [(5, (AV.app 45 y.1 1 y.2.1))]), (mm 47 [(45, (Bk.buf y.2.2))])⟩)
def Iglidepathref08_Potentials_0b (q : Ext × S) : Nat × List PV × Nat := ((pA_app1 (avT q.2 5)), (pA_app3 (avT q.2 5)), (pB_buf0 (avM q.2 45)))
abbrev Yglidepathref08_Potentials_0 : Type := (Unit) ⊕ ((Nat × List PV × Nat))
def XLglidepathref08_Potentials_0 : XL Yglidepathref08_Potentials_0 := .more Xglidepathref08_Potentials_0a (.one Xglidepathref08_Potentials_0b)
def Iglidepathref08_Potentials_0 (q : Ext × S) : Yglidepathref08_Potentials_0 := bif (cA (avT q.2 5) == 4) then (Sum.inl (Iglidepathref08_Potentials_0a q)) else (Sum.inr (Iglidepathref08_Potentials_0b q))
theorem XIglidepathref08_Potentials_0a (y : Unit) : Iglidepathref08_Potentials_0 (xe (Xglidepathref08_Potentials_0a y)) = (Sum.inl y) := rfl
theorem XIglidepathref08_Potentials_0b (y : Nat × List PV × Nat) : Iglidepathref08_Potentials_0 (xe (Xglidepathref08_Potentials_0b y)) = (Sum.inr y) := rfl
theorem XIglidepathref08_Potentials_0 (y : Yglidepathref08_Potentials_0) : Iglidepathref08_Potentials_0 (xe (XLglidepathref08_Potentials_0.fn y)) = y := (match y with | .inl y => XIglidepathref08_Potentials_0a y | .inr y => XIglidepathref08_Potentials_0b y)
noncomputable abbrev Lglidepathref08_Potentials_0 : Q → Option Yglidepathref08_Potentials_0 := lpO env a30.body 0 XLglidepathref08_Potentials_0
noncomputable abbrev Rglidepathref08_Potentials_0 : Q → Option (Ext × S) := lpR env a30.body 0
theorem Lglidepathref08_Potentials_0a_of {s : Q} {y : Unit} (h : Rglidepathref08_Potentials_0 s = exO (Xglidepathref08_Potentials_0a y)) : Lglidepathref08_Potentials_0 s = some (Sum.inl y) := lpO_of Iglidepathref08_Potentials_0 XIglidepathref08_Potentials_0 (y := (Sum.inl y)) h
theorem Lglidepathref08_Potentials_0b_of {s : Q} {y : Nat × List PV × Nat} (h : Rglidepathref08_Potentials_0 s = exO (Xglidepathref08_Potentials_0b y)) : Lglidepathref08_Potentials_0 s = some (Sum.inr y) := lpO_of Iglidepathref08_Potentials_0 XIglidepathref08_Potentials_0 (y := (Sum.inr y)) h
def Tglidepathref08_Potentials_2a (n0 : Nat) (c1 : List PV) (i2 : Int) (i3 : Int) (i4 : Int) : Q := ⟨(tm 47 [(0, (AV.p (PV.list n0 c1))), (1, (AV.p (PV.int IntKind.i64 i2))), (5, (AV.lit 1 1 [(PV.int IntKind.i64 (0 : Int))])), (6, (AV.p (PV.int IntKind.i64 (1 : Int)))), (7, (AV.p (PV.int IntKind.i64 i3))), (8, (AV.p (PV.int IntKind.i64 i4)))]), (mm 47 [])⟩
def Tglidepathref08_Potentials_2b (n0 : Nat) (c1 : List PV) (i2 : Int) (n3 : Nat) (c4 : List PV) (i5 : Int) (i6 : Int) (i7 : Int) (n8 : Nat) : Q := ⟨(tm 47 [(0, (AV.p (PV.list n0 c1))), (1, (AV.p (PV.int IntKind.i64 i2))), (5, (AV.app 45 n3 1 c4)), (6, (AV.p (PV.int IntKind.i64 i5))), (7, (AV.p (PV.int IntKind.i64 i6))), (8, (AV.p (PV.int IntKind.i64 i7)))]), (mm 47 [(45, (Bk.buf n8))])⟩
def Xglidepathref08_Potentials_2a (y : Nat × List PV × Int × Int) : Ext × Q := (Ext.normal, ⟨(tm 47 [(0, (AV.p (PV.list y.1 y.2.1))), (1, (AV.p (PV.int IntKind.i64 y.2.2.1))), (5, (AV.lit 1 1 [(PV.int IntKind.i64 (0 : Int))])), (6, (AV.p (PV.int IntKind.i64 (1 : Int)))), (7, (AV.p (PV.int IntKind.i64 y.2.2.2)))]), (mm 47 [])⟩)
def Iglidepathref08_Potentials_2a (q : Ext × S) : Nat × List PV × Int × Int := ((pP_list0 (pA_p (avT q.2 0))), (pP_list1 (pA_p (avT q.2 0))), (pP_int1 (pA_p (avT q.2 1))), (pP_int1 (pA_p (avT q.2 7))))
def Xglidepathref08_Potentials_2b (y : Nat × List PV × Int × Nat × List PV × Int × Int × Nat) : Ext × Q := (Ext.normal, ⟨(tm 47 [(0, (AV.p (PV.list y.1 y.2.1))), (1, (AV.p (PV.int IntKind.i64 y.2.2.1))), (5, (AV.app 45 y.2.2.2.1 1 y.2.2.2.2.1)), (6, (AV.p (PV.int IntKind.i64 y.2.2.2.2.2.1))), (7, (AV.p (PV.int IntKind.i64 y.2.2.2.2.2.2.1)))]), (mm 47 [(45, (Bk.buf y.2.2.2.2.2.2.2))])⟩)
def Iglidepathref08_Potentials_2b (q : Ext × S) : Nat × List PV × Int × Nat × List PV × Int × Int × Nat := ((pP_list0 (pA_p (avT q.2 0))), (pP_list1 (pA_p (avT q.2 0))), (pP_int1 (pA_p (avT q.2 1))), (pA_app1 (avT q.2 5)), (pA_app3 (avT q.2 5)), (pP_int1 (pA_p (avT q.2 6))), (pP_int1 (pA_p (avT q.2 7))), (pB_buf0 (avM q.2 45)))
abbrev Yglidepathref08_Potentials_2 : Type := (Nat × List PV × Int × Int) ⊕ ((Nat × List PV × Int × Nat × List PV × Int × Int × Nat))
def XLglidepathref08_Potentials_2 : XL Yglidepathref08_Potentials_2 := .more Xglidepathref08_Potentials_2a (.one Xglidepathref08_Potentials_2b)
def Iglidepathref08_Potentials_2 (q : Ext × S) : Yglidepathref08_Potentials_2 := bif (cA (avT q.2 5) == 4) then (Sum.inl (Iglidepathref08_Potentials_2a q)) else (Sum.inr (Iglidepathref08_Potentials_2b q))
theorem XIglidepathref08_Potentials_2a (y : Nat × List PV × Int × Int) : Iglidepathref08_Potentials_2 (xe (Xglidepathref08_Potentials_2a y)) = (Sum.inl y) := rfl
theorem XIglidepathref08_Potentials_2b (y : Nat × List PV × Int × Nat × List PV × Int × Int × Nat) : Iglidepathref08_Potentials_2 (xe (Xglidepathref08_Potentials_2b y)) = (Sum.inr y) := rfl
theorem XIglidepathref08_Potentials_2 (y : Yglidepathref08_Potentials_2) : Iglidepathref08_Potentials_2 (xe (XLglidepathref08_Potentials_2.fn y)) = y := (match y with | .inl y => XIglidepathref08_Potentials_2a y | .inr y => XIglidepathref08_Potentials_2b y)
noncomputable abbrev Lglidepathref08_Potentials_2 : Q → Option Yglidepathref08_Potentials_2 := lpO env a30.body 2 XLglidepathref08_Potentials_2
noncomputable abbrev Rglidepathref08_Potentials_2 : Q → Option (Ext × S) := lpR env a30.body 2
theorem Lglidepathref08_Potentials_2a_of {s : Q} {y : Nat × List PV × Int × Int} (h : Rglidepathref08_Potentials_2 s = exO (Xglidepathref08_Potentials_2a y)) : Lglidepathref08_Potentials_2 s = some (Sum.inl y) := lpO_of Iglidepathref08_Potentials_2 XIglidepathref08_Potentials_2 (y := (Sum.inl y)) h
theorem Lglidepathref08_Potentials_2b_of {s : Q} {y : Nat × List PV × Int × Nat × List PV × Int × Int × Nat} (h : Rglidepathref08_Potentials_2 s = exO (Xglidepathref08_Potentials_2b y)) : Lglidepathref08_Potentials_2 s = some (Sum.inr y) := lpO_of Iglidepathref08_Potentials_2 XIglidepathref08_Potentials_2 (y := (Sum.inr y)) h
theorem Uglidepathref08_Potentials : uniq ((blocksOf a30.body).map (·.1)) = true := by kernel_rfl
def Bglidepathref08_Potentials_0a (_F : FnT) (N : Q → Option (Ext × S)) (E : Ext × Q → Option (Ext × S)) (_L0 : Q → Option Yglidepathref08_Potentials_0) (L2 : Q → Option Yglidepathref08_Potentials_2) (n0 : Nat) (c1 : List PV) (i2 : Int) : Option (Ext × S) :=
  bif (decide ((1 : Int) ≤ (n0 : Int))) then
    bindO (L2 (Tglidepathref08_Potentials_2a n0 c1 i2 (-1 : Int) (0 : Int))) fun z =>
    Sum.elim (fun y0 =>
      N (Tglidepathref08_Potentials_0b y0.1 y0.2.1 y0.2.2.1 2 [(PV.int IntKind.i64 (0 : Int)), (PV.int IntKind.i64 y0.2.2.2)] (2 : Int) 2)) (fun y1 =>
      bif (decide ((y1.2.2.2.2.2.2.2 = y1.2.2.2.1) ∧ ((y1.2.2.2.1 + 1) ≤ big))) then
        N (Tglidepathref08_Potentials_0b y1.1 y1.2.1 y1.2.2.1 (y1.2.2.2.1 + 1) (y1.2.2.2.2.1 ++ [(PV.int IntKind.i64 y1.2.2.2.2.2.2.1)]) (w64 (y1.2.2.2.2.2.1 + (1 : Int))) (y1.2.2.2.1 + 1))
      else none) z
  else E (Xglidepathref08_Potentials_0a ())
theorem Bglidepathref08_Potentials_0a_eq (F : FnT) (N : Q → Option (Ext × S)) (E : Ext × Q → Option (Ext × S)) (L0 : Q → Option Yglidepathref08_Potentials_0) (L2 : Q → Option Yglidepathref08_Potentials_2) (n0 : Nat) (c1 : List PV) (i2 : Int) : semB (callP F Eglidepathref08_Potentials 20) s30 (loopT [⟨0, Yglidepathref08_Potentials_0, L0, XLglidepathref08_Potentials_0⟩, ⟨2, Yglidepathref08_Potentials_2, L2, XLglidepathref08_Potentials_2⟩]) 400 (blkIn a30.body 0) N E (Tglidepathref08_Potentials_0a n0 c1 i2) = Bglidepathref08_Potentials_0a F N E L0 L2 n0 c1 i2 := by kernel_rfl
theorem Rglidepathref08_Potentials_0a_of  (n0 : Nat) (c1 : List PV) (i2 : Int) {r : Ext × S} (h : Bglidepathref08_Potentials_0a (Fn env) Rglidepathref08_Potentials_0 exO Lglidepathref08_Potentials_0 Lglidepathref08_Potentials_2 n0 c1 i2 = some r) : Rglidepathref08_Potentials_0 (Tglidepathref08_Potentials_0a n0 c1 i2) = some r :=
  lp_of Eglidepathref08_Potentials_ok (by kernel_rfl) (lo_cons (lpO_ok Uglidepathref08_Potentials) (lo_cons (lpO_ok Uglidepathref08_Potentials) lo_nil)) (by kernel_rfl) ((Bglidepathref08_Potentials_0a_eq _ _ _ _ _ _ _ _).trans h)
def Bglidepathref08_Potentials_0b (_F : FnT) (N : Q → Option (Ext × S)) (E : Ext × Q → Option (Ext × S)) (_L0 : Q → Option Yglidepathref08_Potentials_0) (L2 : Q → Option Yglidepathref08_Potentials_2) (n0 : Nat) (c1 : List PV) (i2 : Int) (n3 : Nat) (c4 : List PV) (i5 : Int) (n6 : Nat) : Option (Ext × S) :=
  bif (decide (i5 ≤ (n0 : Int))) then
    bindO (L2 (Tglidepathref08_Potentials_2b n0 c1 i2 n3 c4 i5 (-1 : Int) (0 : Int) n6)) fun z =>
    Sum.elim (fun y0 =>
      N (Tglidepathref08_Potentials_0b y0.1 y0.2.1 y0.2.2.1 2 [(PV.int IntKind.i64 (0 : Int)), (PV.int IntKind.i64 y0.2.2.2)] (2 : Int) 2)) (fun y1 =>
      bif (decide ((y1.2.2.2.2.2.2.2 = y1.2.2.2.1) ∧ ((y1.2.2.2.1 + 1) ≤ big))) then
        N (Tglidepathref08_Potentials_0b y1.1 y1.2.1 y1.2.2.1 (y1.2.2.2.1 + 1) (y1.2.2.2.2.1 ++ [(PV.int IntKind.i64 y1.2.2.2.2.2.2.1)]) (w64 (y1.2.2.2.2.2.1 + (1 : Int))) (y1.2.2.2.1 + 1))
      else none) z
  else E (Xglidepathref08_Potentials_0b (n3, c4, n6))
theorem Bglidepathref08_Potentials_0b_eq (F : FnT) (N : Q → Option (Ext × S)) (E : Ext × Q → Option (Ext × S)) (L0 : Q → Option Yglidepathref08_Potentials_0) (L2 : Q → Option Yglidepathref08_Potentials_2) (n0 : Nat) (c1 : List PV) (i2 : Int) (n3 : Nat) (c4 : List PV) (i5 : Int) (n6 : Nat) : semB (callP F Eglidepathref08_Potentials 20) s30 (loopT [⟨0, Yglidepathref08_Potentials_0, L0, XLglidepathref08_Potentials_0⟩, ⟨2, Yglidepathref08_Potentials_2, L2, XLglidepathref08_Potentials_2⟩]) 400 (blkIn a30.body 0) N E (Tglidepathref08_Potentials_0b n0 c1 i2 n3 c4 i5 n6) = Bglidepathref08_Potentials_0b F N E L0 L2 n0 c1 i2 n3 c4 i5 n6 := by kernel_rfl
theorem Rglidepathref08_Potentials_0b_of  (n0 : Nat) (c1 : List PV) (i2 : Int) (n3 : Nat) (c4 : List PV) (i5 : Int) (n6 : Nat) {r : Ext × S} (h : Bglidepathref08_Potentials_0b (Fn env) Rglidepathref08_Potentials_0 exO Lglidepathref08_Potentials_0 Lglidepathref08_Potentials_2 n0 c1 i2 n3 c4 i5 n6 = some r) : Rglidepathref08_Potentials_0 (Tglidepathref08_Potentials_0b n0 c1 i2 n3 c4 i5 n6) = some r :=
  lp_of Eglidepathref08_Potentials_ok (by kernel_rfl) (lo_cons (lpO_ok Uglidepathref08_Potentials) (lo_cons (lpO_ok Uglidepathref08_Potentials) lo_nil)) (by kernel_rfl) ((Bglidepathref08_Potentials_0b_eq _ _ _ _ _ _ _ _ _ _ _ _).trans h)
def Bglidepathref08_Potentials_2a (F : FnT) (N : Q → Option (Ext × S)) (E : Ext × Q → Option (Ext × S)) (_L0 : Q → Option Yglidepathref08_Potentials_0) (_L2 : Q → Option Yglidepathref08_Potentials_2) (n0 : Nat) (c1 : List PV) (i2 : Int) (i3 : Int) (i4 : Int) : Option (Ext × S) :=
  bif (decide (i4 < (1 : Int))) then
    bif (decide (((0 : Int) ≤ i4) ∧ (i4 < (1 : Int)))) then
      bindO (intC IntKind.i64 ([(PV.int IntKind.i64 (0 : Int))][((Int.toNat i4) * 1)]?)) fun x0 =>
      bindO (F 25 (RSh.one (CK.int IntKind.i64)) [(PV.list n0 c1), (PV.int IntKind.i64 i4), (PV.int IntKind.i64 (0 : Int))]) fun (y1 : (Int)) =>
      bif (decide (i3 < (0 : Int))) then
        N (Tglidepathref08_Potentials_2a n0 c1 i2 (w64 ((w64 (x0 + y1)) + i2)) (w64 (i4 + (1 : Int))))
      else bif (decide ((w64 ((w64 (x0 + y1)) + i2)) < i3)) then
        N (Tglidepathref08_Potentials_2a n0 c1 i2 (w64 ((w64 (x0 + y1)) + i2)) (w64 (i4 + (1 : Int))))
      else N (Tglidepathref08_Potentials_2a n0 c1 i2 i3 (w64 (i4 + (1 : Int))))
    else none
  else E (Xglidepathref08_Potentials_2a (n0, c1, i2, i3))
theorem Bglidepathref08_Potentials_2a_eq (F : FnT) (N : Q → Option (Ext × S)) (E : Ext × Q → Option (Ext × S)) (L0 : Q → Option Yglidepathref08_Potentials_0) (L2 : Q → Option Yglidepathref08_Potentials_2) (n0 : Nat) (c1 : List PV) (i2 : Int) (i3 : Int) (i4 : Int) : semB (callP F Eglidepathref08_Potentials 20) s30 (loopT [⟨0, Yglidepathref08_Potentials_0, L0, XLglidepathref08_Potentials_0⟩, ⟨2, Yglidepathref08_Potentials_2, L2, XLglidepathref08_Potentials_2⟩]) 400 (blkIn a30.body 2) N E (Tglidepathref08_Potentials_2a n0 c1 i2 i3 i4) = Bglidepathref08_Potentials_2a F N E L0 L2 n0 c1 i2 i3 i4 := by kernel_rfl
theorem Rglidepathref08_Potentials_2a_of  (n0 : Nat) (c1 : List PV) (i2 : Int) (i3 : Int) (i4 : Int) {r : Ext × S} (h : Bglidepathref08_Potentials_2a (Fn env) Rglidepathref08_Potentials_2 exO Lglidepathref08_Potentials_0 Lglidepathref08_Potentials_2 n0 c1 i2 i3 i4 = some r) : Rglidepathref08_Potentials_2 (Tglidepathref08_Potentials_2a n0 c1 i2 i3 i4) = some r :=
  lp_of Eglidepathref08_Potentials_ok (by kernel_rfl) (lo_cons (lpO_ok Uglidepathref08_Potentials) (lo_cons (lpO_ok Uglidepathref08_Potentials) lo_nil)) (by kernel_rfl) ((Bglidepathref08_Potentials_2a_eq _ _ _ _ _ _ _ _ _ _).trans h)
def Bglidepathref08_Potentials_2b (F : FnT) (N : Q → Option (Ext × S)) (E : Ext × Q → Option (Ext × S)) (_L0 : Q → Option Yglidepathref08_Potentials_0) (_L2 : Q → Option Yglidepathref08_Potentials_2) (n0 : Nat) (c1 : List PV) (i2 : Int) (n3 : Nat) (c4 : List PV) (i5 : Int) (i6 : Int) (i7 : Int) (n8 : Nat) : Option (Ext × S) :=
  bif (decide (i7 < i5)) then
    bif (decide (((0 : Int) ≤ i7) ∧ (i7 < (n3 : Int)))) then
      bindO (intC IntKind.i64 (c4[((Int.toNat i7) * 1)]?)) fun x0 =>
      bindO (F 25 (RSh.one (CK.int IntKind.i64)) [(PV.list n0 c1), (PV.int IntKind.i64 i7), (PV.int IntKind.i64 (w64 (i5 - (1 : Int))))]) fun (y1 : (Int)) =>
      bif (decide (i6 < (0 : Int))) then
        N (Tglidepathref08_Potentials_2b n0 c1 i2 n3 c4 i5 (w64 ((w64 (x0 + y1)) + i2)) (w64 (i7 + (1 : Int))) n8)
      else bif (decide ((w64 ((w64 (x0 + y1)) + i2)) < i6)) then
        N (Tglidepathref08_Potentials_2b n0 c1 i2 n3 c4 i5 (w64 ((w64 (x0 + y1)) + i2)) (w64 (i7 + (1 : Int))) n8)
      else N (Tglidepathref08_Potentials_2b n0 c1 i2 n3 c4 i5 i6 (w64 (i7 + (1 : Int))) n8)
    else none
  else E (Xglidepathref08_Potentials_2b (n0, c1, i2, n3, c4, i5, i6, n8))
theorem Bglidepathref08_Potentials_2b_eq (F : FnT) (N : Q → Option (Ext × S)) (E : Ext × Q → Option (Ext × S)) (L0 : Q → Option Yglidepathref08_Potentials_0) (L2 : Q → Option Yglidepathref08_Potentials_2) (n0 : Nat) (c1 : List PV) (i2 : Int) (n3 : Nat) (c4 : List PV) (i5 : Int) (i6 : Int) (i7 : Int) (n8 : Nat) : semB (callP F Eglidepathref08_Potentials 20) s30 (loopT [⟨0, Yglidepathref08_Potentials_0, L0, XLglidepathref08_Potentials_0⟩, ⟨2, Yglidepathref08_Potentials_2, L2, XLglidepathref08_Potentials_2⟩]) 400 (blkIn a30.body 2) N E (Tglidepathref08_Potentials_2b n0 c1 i2 n3 c4 i5 i6 i7 n8) = Bglidepathref08_Potentials_2b F N E L0 L2 n0 c1 i2 n3 c4 i5 i6 i7 n8 := by kernel_rfl
theorem Rglidepathref08_Potentials_2b_of  (n0 : Nat) (c1 : List PV) (i2 : Int) (n3 : Nat) (c4 : List PV) (i5 : Int) (i6 : Int) (i7 : Int) (n8 : Nat) {r : Ext × S} (h : Bglidepathref08_Potentials_2b (Fn env) Rglidepathref08_Potentials_2 exO Lglidepathref08_Potentials_0 Lglidepathref08_Potentials_2 n0 c1 i2 n3 c4 i5 i6 i7 n8 = some r) : Rglidepathref08_Potentials_2 (Tglidepathref08_Potentials_2b n0 c1 i2 n3 c4 i5 i6 i7 n8) = some r :=
  lp_of Eglidepathref08_Potentials_ok (by kernel_rfl) (lo_cons (lpO_ok Uglidepathref08_Potentials) (lo_cons (lpO_ok Uglidepathref08_Potentials) lo_nil)) (by kernel_rfl) ((Bglidepathref08_Potentials_2b_eq _ _ _ _ _ _ _ _ _ _ _ _ _ _).trans h)
def tglidepathref08_Potentials (_F : FnT) (L0 : Q → Option Yglidepathref08_Potentials_0) (_L2 : Q → Option Yglidepathref08_Potentials_2) (p0n : Nat) (p0c : List PV) (p1 : Int) : Option ((Nat) × (List PV)) :=
  bindO (L0 (Tglidepathref08_Potentials_0a p0n p0c p1)) fun z =>
  Sum.elim (fun _y0 =>
    some (1, [(PV.int IntKind.i64 (0 : Int))])) (fun y1 =>
    bif (decide (y1.2.2 = y1.1)) then
      some (y1.1, y1.2.1)
    else none) z
theorem tglidepathref08_Potentials_eq (F : FnT) (L0 : Q → Option Yglidepathref08_Potentials_0) (L2 : Q → Option Yglidepathref08_Potentials_2) (p0n : Nat) (p0c : List PV) (p1 : Int) : semF (callP F Eglidepathref08_Potentials 20) s30 (loopT [⟨0, Yglidepathref08_Potentials_0, L0, XLglidepathref08_Potentials_0⟩, ⟨2, Yglidepathref08_Potentials_2, L2, XLglidepathref08_Potentials_2⟩]) 400 a30 [PV.list p0n p0c, PV.int IntKind.i64 p1] (fun rv => decR (RSh.one CK.list) rv.pv) = tglidepathref08_Potentials F L0 L2 p0n p0c p1 := by kernel_rfl
noncomputable abbrev Fglidepathref08_Potentials (args : List PV) := Fn env 30 (RSh.one CK.list) args
theorem Fglidepathref08_Potentials_of  (p0n : Nat) (p0c : List PV) (p1 : Int) {res : ((Nat) × (List PV))} (h : tglidepathref08_Potentials (Fn env) Lglidepathref08_Potentials_0 Lglidepathref08_Potentials_2 p0n p0c p1 = some res) : Fglidepathref08_Potentials [PV.list p0n p0c, PV.int IntKind.i64 p1] = some res :=
  fn_of Eglidepathref08_Potentials_ok rfl rfl (lo_cons (lpO_ok Uglidepathref08_Potentials) (lo_cons (lpO_ok Uglidepathref08_Potentials) lo_nil)) ((tglidepathref08_Potentials_eq _ _ _ _ _ _).trans h)

end Gv
