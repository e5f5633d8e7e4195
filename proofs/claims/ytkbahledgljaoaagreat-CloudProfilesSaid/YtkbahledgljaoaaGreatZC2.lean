/- What the functions do, round by round: ZC2. -/
import Derived.Test.YtkbahledgljaoaaGreatZC1
namespace Gv
open Go
set_option maxRecDepth 100000

/-! ### cloud_within_1 -/

def Ecloud_within_1 : List Entry := [.out 69 (RSh.one (CK.int IntKind.i64))]
theorem Ecloud_within_1_ok : ∀ e ∈ Ecloud_within_1, EntOK env e := (ent_out ent_nil)
theorem Ucloud_within_1 : uniq ((blocksOf a111.body).map (·.1)) = true := by kernel_rfl
def tcloud_within_1 (F : FnT)(_n : Nat) (_cs : List PV) (x lo hi : Int) : Option (Int) :=
  bindO (F 69 (RSh.one (CK.int IntKind.i64)) [(PV.int IntKind.i64 x), (PV.int IntKind.i64 lo), (PV.int IntKind.i64 hi)]) fun (y0 : (Int)) =>
  some y0
theorem tcloud_within_1_eq (F : FnT)(n : Nat) (cs : List PV) (x lo hi : Int) : semF (callP F Ecloud_within_1 20) s111 (loopT []) 400 a111 [.list n cs, .int .i64 x, .imm [.int .i64 lo] 0, .imm [.int .i64 hi] 0] (fun rv => decR (RSh.one (CK.int IntKind.i64)) rv.pv) = tcloud_within_1 F n cs x lo hi := by kernel_rfl
noncomputable abbrev Fcloud_within_1 (args : List PV) := Fn env 111 (RSh.one (CK.int IntKind.i64)) args
theorem Fcloud_within_1_of (n : Nat) (cs : List PV) (x lo hi : Int) {res : (Int)} (h : tcloud_within_1 (Fn env) n cs x lo hi = some res) : Fcloud_within_1 [.list n cs, .int .i64 x, .imm [.int .i64 lo] 0, .imm [.int .i64 hi] 0] = some res :=
  fn_of Ecloud_within_1_ok rfl rfl lo_nil ((tcloud_within_1_eq _ _ _ _ _ _).trans h)

/-! ### cloud_itemError_within -/

def Ecloud_itemError_within : List Entry := [.out 111 (RSh.one (CK.int IntKind.i64))]
theorem Ecloud_itemError_within_ok : ∀ e ∈ Ecloud_itemError_within, EntOK env e := (ent_out ent_nil)
def Tcloud_itemError_within_0a (n0 : Nat) (c1 : List PV) (i2 : Int) (i3 : Int) (n4 : Nat) (c5 : List PV) (i6 : Int) (i7 : Int) : Q := ⟨(tm 27 [(0, (AV.p (PV.list n0 c1))), (1, (AV.p (PV.fn 111 [(PV.imm [(PV.int IntKind.i64 i2)] 0), (PV.imm [(PV.int IntKind.i64 i3)] 0)]))), (9, (AV.p (PV.list n4 c5))), (10, (AV.p (PV.int IntKind.i64 i6))), (11, (AV.p (PV.int IntKind.i64 i7)))]), (mm 27 [])⟩
def Xcloud_itemError_within_0a (y : Int × Int) : Ext × Q := (Ext.ret, ⟨(tm 27 [(4, (AV.p (PV.int IntKind.i64 y.1))), (5, (AV.p (PV.int IntKind.i64 y.2)))]), (mm 27 [])⟩)
def Icloud_itemError_within_0a (q : Ext × S) : Int × Int := ((pP_int1 (pA_p (avT q.2 4))), (pP_int1 (pA_p (avT q.2 5))))
def Xcloud_itemError_within_0b (_y : Unit) : Ext × Q := (Ext.normal, ⟨(tm 27 []), (mm 27 [])⟩)
def Icloud_itemError_within_0b (_q : Ext × S) : Unit := ()
abbrev Ycloud_itemError_within_0 : Type := (Int × Int) ⊕ ((Unit))
def XLcloud_itemError_within_0 : XL Ycloud_itemError_within_0 := .more Xcloud_itemError_within_0a (.one Xcloud_itemError_within_0b)
def Icloud_itemError_within_0 (q : Ext × S) : Ycloud_itemError_within_0 := bif (cE q.1 == 2) then (Sum.inl (Icloud_itemError_within_0a q)) else (Sum.inr (Icloud_itemError_within_0b q))
theorem XIcloud_itemError_within_0a (y : Int × Int) : Icloud_itemError_within_0 (xe (Xcloud_itemError_within_0a y)) = (Sum.inl y) := rfl
theorem XIcloud_itemError_within_0b (y : Unit) : Icloud_itemError_within_0 (xe (Xcloud_itemError_within_0b y)) = (Sum.inr y) := rfl
theorem XIcloud_itemError_within_0 (y : Ycloud_itemError_within_0) : Icloud_itemError_within_0 (xe (XLcloud_itemError_within_0.fn y)) = y := (match y with | .inl y => XIcloud_itemError_within_0a y | .inr y => XIcloud_itemError_within_0b y)
noncomputable abbrev Lcloud_itemError_within_0 : Q → Option Ycloud_itemError_within_0 := lpO env a140.body 0 XLcloud_itemError_within_0
noncomputable abbrev Rcloud_itemError_within_0 : Q → Option (Ext × S) := lpR env a140.body 0
theorem Lcloud_itemError_within_0a_of {s : Q} {y : Int × Int} (h : Rcloud_itemError_within_0 s = exO (Xcloud_itemError_within_0a y)) : Lcloud_itemError_within_0 s = some (Sum.inl y) := lpO_of Icloud_itemError_within_0 XIcloud_itemError_within_0 (y := (Sum.inl y)) h
theorem Lcloud_itemError_within_0b_of {s : Q} {y : Unit} (h : Rcloud_itemError_within_0 s = exO (Xcloud_itemError_within_0b y)) : Lcloud_itemError_within_0 s = some (Sum.inr y) := lpO_of Icloud_itemError_within_0 XIcloud_itemError_within_0 (y := (Sum.inr y)) h
theorem Ucloud_itemError_within : uniq ((blocksOf a140.body).map (·.1)) = true := by kernel_rfl
def Bcloud_itemError_within_0a (F : FnT) (N : Q → Option (Ext × S)) (E : Ext × Q → Option (Ext × S)) (_L0 : Q → Option Ycloud_itemError_within_0) (n0 : Nat) (c1 : List PV) (i2 : Int) (i3 : Int) (n4 : Nat) (c5 : List PV) (i6 : Int) (i7 : Int) : Option (Ext × S) :=
  bif (decide (i7 < i6)) then
    bif (decide (((0 : Int) ≤ i7) ∧ (i7 < (n4 : Int)))) then
      bindO (intC IntKind.i64 (c5[((Int.toNat i7) * 1)]?)) fun x0 =>
      bif (decide (((0 : Int) ≤ i7) ∧ (i7 ≤ ((Prod.mk n0 c1).1 : Int)))) then
        bif (decide ((0 = (Int.toNat i7)) ∨ (((0 * 1) + (((Int.toNat i7) - 0) * 1)) ≤ (List.length c1)))) then
          bindO (F 111 (RSh.one (CK.int IntKind.i64)) [(PV.list ((Int.toNat i7) - 0) (List.take (((Int.toNat i7) - 0) * 1) (List.drop 0 c1))), (PV.int IntKind.i64 x0), (PV.imm [(PV.int IntKind.i64 i2)] 0), (PV.imm [(PV.int IntKind.i64 i3)] 0)]) fun (y1 : (Int)) =>
          bif (y1 != (0 : Int)) then
            E (Xcloud_itemError_within_0a (i7, y1))
          else N (Tcloud_itemError_within_0a n0 c1 i2 i3 n4 c5 i6 (w64 (i7 + (1 : Int))))
        else none
      else none
    else none
  else E (Xcloud_itemError_within_0b ())
theorem Bcloud_itemError_within_0a_eq (F : FnT) (N : Q → Option (Ext × S)) (E : Ext × Q → Option (Ext × S)) (L0 : Q → Option Ycloud_itemError_within_0) (n0 : Nat) (c1 : List PV) (i2 : Int) (i3 : Int) (n4 : Nat) (c5 : List PV) (i6 : Int) (i7 : Int) : semB (callP F Ecloud_itemError_within 20) s140 (loopT [⟨0, Ycloud_itemError_within_0, L0, XLcloud_itemError_within_0⟩]) 400 (blkIn a140.body 0) N E (Tcloud_itemError_within_0a n0 c1 i2 i3 n4 c5 i6 i7) = Bcloud_itemError_within_0a F N E L0 n0 c1 i2 i3 n4 c5 i6 i7 := by kernel_rfl
theorem Rcloud_itemError_within_0a_of  (n0 : Nat) (c1 : List PV) (i2 : Int) (i3 : Int) (n4 : Nat) (c5 : List PV) (i6 : Int) (i7 : Int) {r : Ext × S} (h : Bcloud_itemError_within_0a (Fn env) Rcloud_itemError_within_0 exO Lcloud_itemError_within_0 n0 c1 i2 i3 n4 c5 i6 i7 = some r) : Rcloud_itemError_within_0 (Tcloud_itemError_within_0a n0 c1 i2 i3 n4 c5 i6 i7) = some r :=
  lp_of Ecloud_itemError_within_ok (by kernel_rfl) (lo_cons (lpO_ok Ucloud_itemError_within) lo_nil) (by kernel_rfl) ((Bcloud_itemError_within_0a_eq _ _ _ _ _ _ _ _ _ _ _ _).trans h)
def tcloud_itemError_within (_F : FnT) (L0 : Q → Option Ycloud_itemError_within_0)(n : Nat) (cs : List PV) (lo hi : Int) : Option ((Int) × (Int)) :=
  bindO (L0 (Tcloud_itemError_within_0a n cs lo hi n cs (n : Int) (0 : Int))) fun z =>
  Sum.elim (fun y0 =>
    some (y0.1, y0.2)) (fun _y1 =>
    some ((0 : Int), (0 : Int))) z
theorem tcloud_itemError_within_eq (F : FnT) (L0 : Q → Option Ycloud_itemError_within_0)(n : Nat) (cs : List PV) (lo hi : Int) : semF (callP F Ecloud_itemError_within 20) s140 (loopT [⟨0, Ycloud_itemError_within_0, L0, XLcloud_itemError_within_0⟩]) 400 a140 [.list n cs, .fn 111 [.imm [.int .i64 lo] 0, .imm [.int .i64 hi] 0]] (fun rv => decR (RSh.tup [(Prod.mk false [(CK.int IntKind.i64)]), (Prod.mk false [(CK.int IntKind.i64)])]) rv.pv) = tcloud_itemError_within F L0 n cs lo hi := by kernel_rfl
noncomputable abbrev Fcloud_itemError_within (args : List PV) := Fn env 140 (RSh.tup [(Prod.mk false [(CK.int IntKind.i64)]), (Prod.mk false [(CK.int IntKind.i64)])]) args
theorem Fcloud_itemError_within_of (n : Nat) (cs : List PV) (lo hi : Int) {res : ((Int) × (Int))} (h : tcloud_itemError_within (Fn env) Lcloud_itemError_within_0 n cs lo hi = some res) : Fcloud_itemError_within [.list n cs, .fn 111 [.imm [.int .i64 lo] 0, .imm [.int .i64 hi] 0]] = some res :=
  fn_of Ecloud_itemError_within_ok rfl rfl (lo_cons (lpO_ok Ucloud_itemError_within) lo_nil) ((tcloud_itemError_within_eq _ _ _ _ _ _).trans h)

/-! ### cloud_listError_within -/

def Ecloud_listError_within : List Entry := [.out 140 (RSh.tup [(Prod.mk false [(CK.int IntKind.i64)]), (Prod.mk false [(CK.int IntKind.i64)])])]
theorem Ecloud_listError_within_ok : ∀ e ∈ Ecloud_listError_within, EntOK env e := (ent_out ent_nil)
theorem Ucloud_listError_within : uniq ((blocksOf a110.body).map (·.1)) = true := by kernel_rfl
def tcloud_listError_within (F : FnT)(n : Nat) (cs : List PV) (m lo hi : Int) : Option ((Int) × (Int)) :=
  bif (decide ((n : Int) > m)) then
    some ((0 : Int), (8 : Int))
  else bindO (F 140 (RSh.tup [(Prod.mk false [(CK.int IntKind.i64)]), (Prod.mk false [(CK.int IntKind.i64)])]) [(PV.list n cs), (PV.fn 111 [(PV.imm [(PV.int IntKind.i64 lo)] 0), (PV.imm [(PV.int IntKind.i64 hi)] 0)])]) fun (y0 : ((Int) × (Int))) =>
  some (y0.1, y0.2)
theorem tcloud_listError_within_eq (F : FnT)(n : Nat) (cs : List PV) (m lo hi : Int) : semF (callP F Ecloud_listError_within 20) s110 (loopT []) 400 a110 [.list n cs, .int .i64 m, .fn 111 [.imm [.int .i64 lo] 0, .imm [.int .i64 hi] 0]] (fun rv => decR (RSh.tup [(Prod.mk false [(CK.int IntKind.i64)]), (Prod.mk false [(CK.int IntKind.i64)])]) rv.pv) = tcloud_listError_within F n cs m lo hi := by kernel_rfl
noncomputable abbrev Fcloud_listError_within (args : List PV) := Fn env 110 (RSh.tup [(Prod.mk false [(CK.int IntKind.i64)]), (Prod.mk false [(CK.int IntKind.i64)])]) args
theorem Fcloud_listError_within_of (n : Nat) (cs : List PV) (m lo hi : Int) {res : ((Int) × (Int))} (h : tcloud_listError_within (Fn env) n cs m lo hi = some res) : Fcloud_listError_within [.list n cs, .int .i64 m, .fn 111 [.imm [.int .i64 lo] 0, .imm [.int .i64 hi] 0]] = some res :=
  fn_of Ecloud_listError_within_ok rfl rfl lo_nil ((tcloud_listError_within_eq _ _ _ _ _ _).trans h)

/-! ### cloud_filledError_within -/

def Ecloud_filledError_within : List Entry := [.out 110 (RSh.tup [(Prod.mk false [(CK.int IntKind.i64)]), (Prod.mk false [(CK.int IntKind.i64)])])]
theorem Ecloud_filledError_within_ok : ∀ e ∈ Ecloud_filledError_within, EntOK env e := (ent_out ent_nil)
theorem Ucloud_filledError_within : uniq ((blocksOf a60.body).map (·.1)) = true := by kernel_rfl
def tcloud_filledError_within (F : FnT)(n : Nat) (cs : List PV) (m lo hi : Int) : Option ((Int) × (Int)) :=
  bif ((n : Int) == (0 : Int)) then
    some ((0 : Int), (10 : Int))
  else bindO (F 110 (RSh.tup [(Prod.mk false [(CK.int IntKind.i64)]), (Prod.mk false [(CK.int IntKind.i64)])]) [(PV.list n cs), (PV.int IntKind.i64 m), (PV.fn 111 [(PV.imm [(PV.int IntKind.i64 lo)] 0), (PV.imm [(PV.int IntKind.i64 hi)] 0)])]) fun (y0 : ((Int) × (Int))) =>
  some (y0.1, y0.2)
theorem tcloud_filledError_within_eq (F : FnT)(n : Nat) (cs : List PV) (m lo hi : Int) : semF (callP F Ecloud_filledError_within 20) s60 (loopT []) 400 a60 [.list n cs, .int .i64 m, .fn 111 [.imm [.int .i64 lo] 0, .imm [.int .i64 hi] 0]] (fun rv => decR (RSh.tup [(Prod.mk false [(CK.int IntKind.i64)]), (Prod.mk false [(CK.int IntKind.i64)])]) rv.pv) = tcloud_filledError_within F n cs m lo hi := by kernel_rfl
noncomputable abbrev Fcloud_filledError_within (args : List PV) := Fn env 60 (RSh.tup [(Prod.mk false [(CK.int IntKind.i64)]), (Prod.mk false [(CK.int IntKind.i64)])]) args
theorem Fcloud_filledError_within_of (n : Nat) (cs : List PV) (m lo hi : Int) {res : ((Int) × (Int))} (h : tcloud_filledError_within (Fn env) n cs m lo hi = some res) : Fcloud_filledError_within [.list n cs, .int .i64 m, .fn 111 [.imm [.int .i64 lo] 0, .imm [.int .i64 hi] 0]] = some res :=
  fn_of Ecloud_filledError_within_ok rfl rfl lo_nil ((tcloud_filledError_within_eq _ _ _ _ _ _).trans h)

/-! ### cloud_CheckProfile -/

def Ecloud_CheckProfile : List Entry := [.inl 61 a61 s61, .out 60 (RSh.tup [(Prod.mk false [(CK.int IntKind.i64)]), (Prod.mk false [(CK.int IntKind.i64)])])]
theorem Ecloud_CheckProfile_ok : ∀ e ∈ Ecloud_CheckProfile, EntOK env e := (ent_inl rfl (ent_out ent_nil))
theorem Ucloud_CheckProfile : uniq ((blocksOf a10.body).map (·.1)) = true := by kernel_rfl
def tcloud_CheckProfile (F : FnT) (p0n : Nat) (p0c : List PV) : Option ((Int) × (Int)) :=
  bindO (F 60 (RSh.tup [(Prod.mk false [(CK.int IntKind.i64)]), (Prod.mk false [(CK.int IntKind.i64)])]) [(PV.list p0n p0c), (PV.int IntKind.i64 (24 : Int)), (PV.fn 111 [(PV.imm [(PV.int IntKind.i64 (0 : Int))] 0), (PV.imm [(PV.int IntKind.i64 (10000 : Int))] 0)])]) fun (y0 : ((Int) × (Int))) =>
  some (y0.1, y0.2)
theorem tcloud_CheckProfile_eq (F : FnT) (p0n : Nat) (p0c : List PV) : semF (callP F Ecloud_CheckProfile 20) s10 (loopT []) 400 a10 [PV.list p0n p0c] (fun rv => decR (RSh.tup [(Prod.mk false [(CK.int IntKind.i64)]), (Prod.mk false [(CK.int IntKind.i64)])]) rv.pv) = tcloud_CheckProfile F p0n p0c := by kernel_rfl
noncomputable abbrev Fcloud_CheckProfile (args : List PV) := Fn env 10 (RSh.tup [(Prod.mk false [(CK.int IntKind.i64)]), (Prod.mk false [(CK.int IntKind.i64)])]) args
theorem Fcloud_CheckProfile_of  (p0n : Nat) (p0c : List PV) {res : ((Int) × (Int))} (h : tcloud_CheckProfile (Fn env) p0n p0c = some res) : Fcloud_CheckProfile [PV.list p0n p0c] = some res :=
  fn_of Ecloud_CheckProfile_ok rfl rfl lo_nil ((tcloud_CheckProfile_eq _ _ _).trans h)

/-! ### cloud_profileError -/

def Ecloud_profileError : List Entry := [.out 10 (RSh.tup [(Prod.mk false [(CK.int IntKind.i64)]), (Prod.mk false [(CK.int IntKind.i64)])])]
theorem Ecloud_profileError_ok : ∀ e ∈ Ecloud_profileError, EntOK env e := (ent_out ent_nil)
theorem Ucloud_profileError : uniq ((blocksOf a63.body).map (·.1)) = true := by kernel_rfl
def tcloud_profileError (F : FnT) (p0n : Nat) (p0c : List PV) : Option (Int) :=
  bindO (F 10 (RSh.tup [(Prod.mk false [(CK.int IntKind.i64)]), (Prod.mk false [(CK.int IntKind.i64)])]) [(PV.list p0n p0c)]) fun (y0 : ((Int) × (Int))) =>
  some y0.2
theorem tcloud_profileError_eq (F : FnT) (p0n : Nat) (p0c : List PV) : semF (callP F Ecloud_profileError 20) s63 (loopT []) 400 a63 [PV.list p0n p0c] (fun rv => decR (RSh.one (CK.int IntKind.i64)) rv.pv) = tcloud_profileError F p0n p0c := by kernel_rfl
noncomputable abbrev Fcloud_profileError (args : List PV) := Fn env 63 (RSh.one (CK.int IntKind.i64)) args
theorem Fcloud_profileError_of  (p0n : Nat) (p0c : List PV) {res : (Int)} (h : tcloud_profileError (Fn env) p0n p0c = some res) : Fcloud_profileError [PV.list p0n p0c] = some res :=
  fn_of Ecloud_profileError_ok rfl rfl lo_nil ((tcloud_profileError_eq _ _ _).trans h)

/-! ### cloud_constantError -/

def Ecloud_constantError : List Entry := [.out 69 (RSh.one (CK.int IntKind.i64))]
theorem Ecloud_constantError_ok : ∀ e ∈ Ecloud_constantError, EntOK env e := (ent_out ent_nil)
theorem Ucloud_constantError : uniq ((blocksOf a64.body).map (·.1)) = true := by kernel_rfl
def tcloud_constantError (F : FnT) (p0 : Int) : Option (Int) :=
  bindO (F 69 (RSh.one (CK.int IntKind.i64)) [(PV.int IntKind.i64 p0), (PV.int IntKind.i64 (1 : Int)), (PV.int IntKind.i64 (1000000 : Int))]) fun (y0 : (Int)) =>
  some y0
theorem tcloud_constantError_eq (F : FnT) (p0 : Int) : semF (callP F Ecloud_constantError 20) s64 (loopT []) 400 a64 [PV.int IntKind.i64 p0] (fun rv => decR (RSh.one (CK.int IntKind.i64)) rv.pv) = tcloud_constantError F p0 := by kernel_rfl
noncomputable abbrev Fcloud_constantError (args : List PV) := Fn env 64 (RSh.one (CK.int IntKind.i64)) args
theorem Fcloud_constantError_of  (p0 : Int) {res : (Int)} (h : tcloud_constantError (Fn env) p0 = some res) : Fcloud_constantError [PV.int IntKind.i64 p0] = some res :=
  fn_of Ecloud_constantError_ok rfl rfl lo_nil ((tcloud_constantError_eq _ _).trans h)

/-! ### _glidepath_cloud_profile__sum -/

def E_glidepath_cloud_profile__sum : List Entry := []
theorem E_glidepath_cloud_profile__sum_ok : ∀ e ∈ E_glidepath_cloud_profile__sum, EntOK env e := ent_nil
def T_glidepath_cloud_profile__sum_0a (i0 : Int) (n1 : Nat) (c2 : List PV) (i3 : Int) (i4 : Int) : Q := ⟨(tm 17 [(3, (AV.p (PV.int IntKind.i64 i0))), (6, (AV.p (PV.list n1 c2))), (7, (AV.p (PV.int IntKind.i64 i3))), (8, (AV.p (PV.int IntKind.i64 i4)))]), (mm 17 [])⟩
def X_glidepath_cloud_profile__sum_0a (y : Int) : Ext × Q := (Ext.normal, ⟨(tm 17 [(3, (AV.p (PV.int IntKind.i64 y)))]), (mm 17 [])⟩)
def I_glidepath_cloud_profile__sum_0a (q : Ext × S) : Int := (pP_int1 (pA_p (avT q.2 3)))
abbrev Y_glidepath_cloud_profile__sum_0 : Type := Int
def XL_glidepath_cloud_profile__sum_0 : XL Y_glidepath_cloud_profile__sum_0 := .one X_glidepath_cloud_profile__sum_0a
def I_glidepath_cloud_profile__sum_0 (q : Ext × S) : Y_glidepath_cloud_profile__sum_0 := (I_glidepath_cloud_profile__sum_0a q)
theorem XI_glidepath_cloud_profile__sum_0a (y : Int) : I_glidepath_cloud_profile__sum_0 (xe (X_glidepath_cloud_profile__sum_0a y)) = y := rfl
theorem XI_glidepath_cloud_profile__sum_0 (y : Y_glidepath_cloud_profile__sum_0) : I_glidepath_cloud_profile__sum_0 (xe (XL_glidepath_cloud_profile__sum_0.fn y)) = y := XI_glidepath_cloud_profile__sum_0a y
noncomputable abbrev L_glidepath_cloud_profile__sum_0 : Q → Option Y_glidepath_cloud_profile__sum_0 := lpO env a83.body 0 XL_glidepath_cloud_profile__sum_0
noncomputable abbrev R_glidepath_cloud_profile__sum_0 : Q → Option (Ext × S) := lpR env a83.body 0
theorem L_glidepath_cloud_profile__sum_0a_of {s : Q} {y : Int} (h : R_glidepath_cloud_profile__sum_0 s = exO (X_glidepath_cloud_profile__sum_0a y)) : L_glidepath_cloud_profile__sum_0 s = some y := lpO_of I_glidepath_cloud_profile__sum_0 XI_glidepath_cloud_profile__sum_0 (y := y) h
theorem U_glidepath_cloud_profile__sum : uniq ((blocksOf a83.body).map (·.1)) = true := by kernel_rfl
def B_glidepath_cloud_profile__sum_0a (_F : FnT) (N : Q → Option (Ext × S)) (E : Ext × Q → Option (Ext × S)) (_L0 : Q → Option Y_glidepath_cloud_profile__sum_0) (i0 : Int) (n1 : Nat) (c2 : List PV) (i3 : Int) (i4 : Int) : Option (Ext × S) :=
  bif (decide (i4 < i3)) then
    bif (decide (((0 : Int) ≤ i4) ∧ (i4 < (n1 : Int)))) then
      bindO (intC IntKind.i64 (c2[((Int.toNat i4) * 1)]?)) fun x0 =>
      N (T_glidepath_cloud_profile__sum_0a (w64 (i0 + x0)) n1 c2 i3 (w64 (i4 + (1 : Int))))
    else none
  else E (X_glidepath_cloud_profile__sum_0a i0)
theorem B_glidepath_cloud_profile__sum_0a_eq (F : FnT) (N : Q → Option (Ext × S)) (E : Ext × Q → Option (Ext × S)) (L0 : Q → Option Y_glidepath_cloud_profile__sum_0) (i0 : Int) (n1 : Nat) (c2 : List PV) (i3 : Int) (i4 : Int) : semB (callP F E_glidepath_cloud_profile__sum 20) s83 (loopT [⟨0, Y_glidepath_cloud_profile__sum_0, L0, XL_glidepath_cloud_profile__sum_0⟩]) 400 (blkIn a83.body 0) N E (T_glidepath_cloud_profile__sum_0a i0 n1 c2 i3 i4) = B_glidepath_cloud_profile__sum_0a F N E L0 i0 n1 c2 i3 i4 := by kernel_rfl
theorem R_glidepath_cloud_profile__sum_0a_of  (i0 : Int) (n1 : Nat) (c2 : List PV) (i3 : Int) (i4 : Int) {r : Ext × S} (h : B_glidepath_cloud_profile__sum_0a (Fn env) R_glidepath_cloud_profile__sum_0 exO L_glidepath_cloud_profile__sum_0 i0 n1 c2 i3 i4 = some r) : R_glidepath_cloud_profile__sum_0 (T_glidepath_cloud_profile__sum_0a i0 n1 c2 i3 i4) = some r :=
  lp_of E_glidepath_cloud_profile__sum_ok (by kernel_rfl) (lo_cons (lpO_ok U_glidepath_cloud_profile__sum) lo_nil) (by kernel_rfl) ((B_glidepath_cloud_profile__sum_0a_eq _ _ _ _ _ _ _ _ _).trans h)
def t_glidepath_cloud_profile__sum (_F : FnT) (L0 : Q → Option Y_glidepath_cloud_profile__sum_0) (p0n : Nat) (p0c : List PV) : Option (Int) :=
  bindO (L0 (T_glidepath_cloud_profile__sum_0a (0 : Int) p0n p0c (p0n : Int) (0 : Int))) fun y0 =>
  some y0
theorem t_glidepath_cloud_profile__sum_eq (F : FnT) (L0 : Q → Option Y_glidepath_cloud_profile__sum_0) (p0n : Nat) (p0c : List PV) : semF (callP F E_glidepath_cloud_profile__sum 20) s83 (loopT [⟨0, Y_glidepath_cloud_profile__sum_0, L0, XL_glidepath_cloud_profile__sum_0⟩]) 400 a83 [PV.list p0n p0c] (fun rv => decR (RSh.one (CK.int IntKind.i64)) rv.pv) = t_glidepath_cloud_profile__sum F L0 p0n p0c := by kernel_rfl
noncomputable abbrev F_glidepath_cloud_profile__sum (args : List PV) := Fn env 83 (RSh.one (CK.int IntKind.i64)) args
theorem F_glidepath_cloud_profile__sum_of  (p0n : Nat) (p0c : List PV) {res : (Int)} (h : t_glidepath_cloud_profile__sum (Fn env) L_glidepath_cloud_profile__sum_0 p0n p0c = some res) : F_glidepath_cloud_profile__sum [PV.list p0n p0c] = some res :=
  fn_of E_glidepath_cloud_profile__sum_ok rfl rfl (lo_cons (lpO_ok U_glidepath_cloud_profile__sum) lo_nil) ((t_glidepath_cloud_profile__sum_eq _ _ _ _).trans h)

/-! ### _glidepath_cloud_profile__restBefore -/

def E_glidepath_cloud_profile__restBefore : List Entry := [.out 83 (RSh.one (CK.int IntKind.i64))]
theorem E_glidepath_cloud_profile__restBefore_ok : ∀ e ∈ E_glidepath_cloud_profile__restBefore, EntOK env e := (ent_out ent_nil)
theorem U_glidepath_cloud_profile__restBefore : uniq ((blocksOf a84.body).map (·.1)) = true := by kernel_rfl
def t_glidepath_cloud_profile__restBefore (F : FnT) (p0n : Nat) (p0c : List PV) (p1 : Int) (p2 : Int) : Option (Int) :=
  bif (decide (((0 : Int) ≤ p1) ∧ (p1 ≤ ((Prod.mk p0n p0c).1 : Int)))) then
    bif (decide ((0 = (Int.toNat p1)) ∨ (((0 * 1) + (((Int.toNat p1) - 0) * 1)) ≤ (List.length p0c)))) then
      bindO (F 83 (RSh.one (CK.int IntKind.i64)) [(PV.list ((Int.toNat p1) - 0) (List.take (((Int.toNat p1) - 0) * 1) (List.drop 0 p0c)))]) fun (y0 : (Int)) =>
      some (w64 (p2 - y0))
    else none
  else none
theorem t_glidepath_cloud_profile__restBefore_eq (F : FnT) (p0n : Nat) (p0c : List PV) (p1 : Int) (p2 : Int) : semF (callP F E_glidepath_cloud_profile__restBefore 20) s84 (loopT []) 400 a84 [PV.list p0n p0c, PV.int IntKind.i64 p1, PV.int IntKind.i64 p2] (fun rv => decR (RSh.one (CK.int IntKind.i64)) rv.pv) = t_glidepath_cloud_profile__restBefore F p0n p0c p1 p2 := by kernel_rfl
noncomputable abbrev F_glidepath_cloud_profile__restBefore (args : List PV) := Fn env 84 (RSh.one (CK.int IntKind.i64)) args
theorem F_glidepath_cloud_profile__restBefore_of  (p0n : Nat) (p0c : List PV) (p1 : Int) (p2 : Int) {res : (Int)} (h : t_glidepath_cloud_profile__restBefore (Fn env) p0n p0c p1 p2 = some res) : F_glidepath_cloud_profile__restBefore [PV.list p0n p0c, PV.int IntKind.i64 p1, PV.int IntKind.i64 p2] = some res :=
  fn_of E_glidepath_cloud_profile__restBefore_ok rfl rfl lo_nil ((t_glidepath_cloud_profile__restBefore_eq _ _ _ _ _).trans h)

/-! ### _glidepath_cloud_profile__breakError -/

def E_glidepath_cloud_profile__breakError : List Entry := [.out 83 (RSh.one (CK.int IntKind.i64)), .out 71 (RSh.one (CK.int IntKind.i64)), .out 84 (RSh.one (CK.int IntKind.i64))]
theorem E_glidepath_cloud_profile__breakError_ok : ∀ e ∈ E_glidepath_cloud_profile__breakError, EntOK env e := (ent_out (ent_out (ent_out ent_nil)))
theorem U_glidepath_cloud_profile__breakError : uniq ((blocksOf a65.body).map (·.1)) = true := by kernel_rfl
def t_glidepath_cloud_profile__breakError (F : FnT) (p0n : Nat) (p0c : List PV) (p1 : Int) : Option (Int) :=
  bindO (F 83 (RSh.one (CK.int IntKind.i64)) [(PV.list p0n p0c)]) fun (y0 : (Int)) =>
  bif (decide (y0 > p1)) then
    bindO (F 71 (RSh.one (CK.int IntKind.i64)) [(PV.bool true), (PV.int IntKind.i64 (20 : Int))]) fun (y1 : (Int)) =>
    some y1
  else bindO (F 84 (RSh.one (CK.int IntKind.i64)) [(PV.list p0n p0c), (PV.int IntKind.i64 (w64 ((p0n : Int) - (1 : Int)))), (PV.int IntKind.i64 p1)]) fun (y2 : (Int)) =>
  bif (y2 == (0 : Int)) then
    bindO (F 71 (RSh.one (CK.int IntKind.i64)) [(PV.bool true), (PV.int IntKind.i64 (20 : Int))]) fun (y3 : (Int)) =>
    some y3
  else bindO (F 71 (RSh.one (CK.int IntKind.i64)) [(PV.bool false), (PV.int IntKind.i64 (20 : Int))]) fun (y4 : (Int)) =>
  some y4
theorem t_glidepath_cloud_profile__breakError_eq (F : FnT) (p0n : Nat) (p0c : List PV) (p1 : Int) : semF (callP F E_glidepath_cloud_profile__breakError 20) s65 (loopT []) 400 a65 [PV.list p0n p0c, PV.int IntKind.i64 p1] (fun rv => decR (RSh.one (CK.int IntKind.i64)) rv.pv) = t_glidepath_cloud_profile__breakError F p0n p0c p1 := by kernel_rfl
noncomputable abbrev F_glidepath_cloud_profile__breakError (args : List PV) := Fn env 65 (RSh.one (CK.int IntKind.i64)) args
theorem F_glidepath_cloud_profile__breakError_of  (p0n : Nat) (p0c : List PV) (p1 : Int) {res : (Int)} (h : t_glidepath_cloud_profile__breakError (Fn env) p0n p0c p1 = some res) : F_glidepath_cloud_profile__breakError [PV.list p0n p0c, PV.int IntKind.i64 p1] = some res :=
  fn_of E_glidepath_cloud_profile__breakError_ok rfl rfl lo_nil ((t_glidepath_cloud_profile__breakError_eq _ _ _ _).trans h)

/-! ### cloud_divisorOf -/

def Ecloud_divisorOf : List Entry := []
theorem Ecloud_divisorOf_ok : ∀ e ∈ Ecloud_divisorOf, EntOK env e := ent_nil
def Tcloud_divisorOf_0a (i0 : Int) (i1 : Int) : Q := ⟨(tm 15 [(0, (AV.p (PV.int IntKind.i64 i0))), (1, (AV.p (PV.int IntKind.i64 i1)))]), (mm 15 [])⟩
def Xcloud_divisorOf_0a (y : Int) : Ext × Q := (Ext.normal, ⟨(tm 15 [(0, (AV.p (PV.int IntKind.i64 y)))]), (mm 15 [])⟩)
def Icloud_divisorOf_0a (q : Ext × S) : Int := (pP_int1 (pA_p (avT q.2 0)))
abbrev Ycloud_divisorOf_0 : Type := Int
def XLcloud_divisorOf_0 : XL Ycloud_divisorOf_0 := .one Xcloud_divisorOf_0a
def Icloud_divisorOf_0 (q : Ext × S) : Ycloud_divisorOf_0 := (Icloud_divisorOf_0a q)
theorem XIcloud_divisorOf_0a (y : Int) : Icloud_divisorOf_0 (xe (Xcloud_divisorOf_0a y)) = y := rfl
theorem XIcloud_divisorOf_0 (y : Ycloud_divisorOf_0) : Icloud_divisorOf_0 (xe (XLcloud_divisorOf_0.fn y)) = y := XIcloud_divisorOf_0a y
noncomputable abbrev Lcloud_divisorOf_0 : Q → Option Ycloud_divisorOf_0 := lpO env a116.body 0 XLcloud_divisorOf_0
noncomputable abbrev Rcloud_divisorOf_0 : Q → Option (Ext × S) := lpR env a116.body 0
theorem Lcloud_divisorOf_0a_of {s : Q} {y : Int} (h : Rcloud_divisorOf_0 s = exO (Xcloud_divisorOf_0a y)) : Lcloud_divisorOf_0 s = some y := lpO_of Icloud_divisorOf_0 XIcloud_divisorOf_0 (y := y) h
theorem Ucloud_divisorOf : uniq ((blocksOf a116.body).map (·.1)) = true := by kernel_rfl
def Bcloud_divisorOf_0a (_F : FnT) (N : Q → Option (Ext × S)) (E : Ext × Q → Option (Ext × S)) (_L0 : Q → Option Ycloud_divisorOf_0) (i0 : Int) (i1 : Int) : Option (Ext × S) :=
  bif (i1 != (0 : Int)) then
    bif (decide (i1 ≠ (0 : Int))) then
      N (Tcloud_divisorOf_0a i1 (Int.tmod i0 i1))
    else none
  else E (Xcloud_divisorOf_0a i0)
theorem Bcloud_divisorOf_0a_eq (F : FnT) (N : Q → Option (Ext × S)) (E : Ext × Q → Option (Ext × S)) (L0 : Q → Option Ycloud_divisorOf_0) (i0 : Int) (i1 : Int) : semB (callP F Ecloud_divisorOf 20) s116 (loopT [⟨0, Ycloud_divisorOf_0, L0, XLcloud_divisorOf_0⟩]) 400 (blkIn a116.body 0) N E (Tcloud_divisorOf_0a i0 i1) = Bcloud_divisorOf_0a F N E L0 i0 i1 := by kernel_rfl
theorem Rcloud_divisorOf_0a_of  (i0 : Int) (i1 : Int) {r : Ext × S} (h : Bcloud_divisorOf_0a (Fn env) Rcloud_divisorOf_0 exO Lcloud_divisorOf_0 i0 i1 = some r) : Rcloud_divisorOf_0 (Tcloud_divisorOf_0a i0 i1) = some r :=
  lp_of Ecloud_divisorOf_ok (by kernel_rfl) (lo_cons (lpO_ok Ucloud_divisorOf) lo_nil) (by kernel_rfl) ((Bcloud_divisorOf_0a_eq _ _ _ _ _ _).trans h)
def tcloud_divisorOf (_F : FnT) (L0 : Q → Option Ycloud_divisorOf_0) (p0 : Int) (p1 : Int) : Option (Int) :=
  bindO (L0 (Tcloud_divisorOf_0a p0 p1)) fun y0 =>
  some (if ((w64 ((0 : Int) - y0)) > y0) then (w64 ((0 : Int) - y0)) else y0)
theorem tcloud_divisorOf_eq (F : FnT) (L0 : Q → Option Ycloud_divisorOf_0) (p0 : Int) (p1 : Int) : semF (callP F Ecloud_divisorOf 20) s116 (loopT [⟨0, Ycloud_divisorOf_0, L0, XLcloud_divisorOf_0⟩]) 400 a116 [PV.int IntKind.i64 p0, PV.int IntKind.i64 p1] (fun rv => decR (RSh.one (CK.int IntKind.i64)) rv.pv) = tcloud_divisorOf F L0 p0 p1 := by kernel_rfl
noncomputable abbrev Fcloud_divisorOf (args : List PV) := Fn env 116 (RSh.one (CK.int IntKind.i64)) args
theorem Fcloud_divisorOf_of  (p0 : Int) (p1 : Int) {res : (Int)} (h : tcloud_divisorOf (Fn env) Lcloud_divisorOf_0 p0 p1 = some res) : Fcloud_divisorOf [PV.int IntKind.i64 p0, PV.int IntKind.i64 p1] = some res :=
  fn_of Ecloud_divisorOf_ok rfl rfl (lo_cons (lpO_ok Ucloud_divisorOf) lo_nil) ((tcloud_divisorOf_eq _ _ _ _).trans h)

/-! ### cloud_lowest -/

def Ecloud_lowest : List Entry := [.out 116 (RSh.one (CK.int IntKind.i64))]
theorem Ecloud_lowest_ok : ∀ e ∈ Ecloud_lowest, EntOK env e := (ent_out ent_nil)
theorem Ucloud_lowest : uniq ((blocksOf a112.body).map (·.1)) = true := by kernel_rfl
def tcloud_lowest (F : FnT) (p0 : Int) (p1 : Int) : Option ((Int) × (Int)) :=
  bindO (F 116 (RSh.one (CK.int IntKind.i64)) [(PV.int IntKind.i64 p0), (PV.int IntKind.i64 p1)]) fun (y0 : (Int)) =>
  bif (decide (y0 ≠ (0 : Int))) then
    bif (decide (y0 ≠ (0 : Int))) then
      some ((w64 (Int.tdiv p0 y0)), (w64 (Int.tdiv p1 y0)))
    else none
  else none
theorem tcloud_lowest_eq (F : FnT) (p0 : Int) (p1 : Int) : semF (callP F Ecloud_lowest 20) s112 (loopT []) 400 a112 [PV.int IntKind.i64 p0, PV.int IntKind.i64 p1] (fun rv => decR (RSh.agg [(CK.int IntKind.i64), (CK.int IntKind.i64)]) rv.pv) = tcloud_lowest F p0 p1 := by kernel_rfl
noncomputable abbrev Fcloud_lowest (args : List PV) := Fn env 112 (RSh.agg [(CK.int IntKind.i64), (CK.int IntKind.i64)]) args
theorem Fcloud_lowest_of  (p0 : Int) (p1 : Int) {res : ((Int) × (Int))} (h : tcloud_lowest (Fn env) p0 p1 = some res) : Fcloud_lowest [PV.int IntKind.i64 p0, PV.int IntKind.i64 p1] = some res :=
  fn_of Ecloud_lowest_ok rfl rfl lo_nil ((tcloud_lowest_eq _ _ _).trans h)

/-! ### _glidepath_cloud_profile__shares -/

def E_glidepath_cloud_profile__shares : List Entry := [.out 84 (RSh.one (CK.int IntKind.i64)), .out 112 (RSh.agg [(CK.int IntKind.i64), (CK.int IntKind.i64)])]
theorem E_glidepath_cloud_profile__shares_ok : ∀ e ∈ E_glidepath_cloud_profile__shares, EntOK env e := (ent_out (ent_out ent_nil))
def T_glidepath_cloud_profile__shares_0a (n0 : Nat) (c1 : List PV) (i2 : Int) (n3 : Nat) (n4 : Nat) (c5 : List PV) (i6 : Int) (i7 : Int) (c8 : List PV) : Q := ⟨(tm 29 [(0, (AV.p (PV.list n0 c1))), (1, (AV.p (PV.int IntKind.i64 i2))), (5, (AV.msl 10 0 n3 2)), (11, (AV.p (PV.list n4 c5))), (12, (AV.p (PV.int IntKind.i64 i6))), (13, (AV.p (PV.int IntKind.i64 i7)))]), (mm 29 [(10, (Bk.pcs true c8))])⟩
def X_glidepath_cloud_profile__shares_0a (y : Nat × List PV) : Ext × Q := (Ext.normal, ⟨(tm 29 [(5, (AV.msl 10 0 y.1 2))]), (mm 29 [(10, (Bk.pcs true y.2))])⟩)
def I_glidepath_cloud_profile__shares_0a (q : Ext × S) : Nat × List PV := ((pA_msl2 (avT q.2 5)), (pB_pcs1 (avM q.2 10)))
abbrev Y_glidepath_cloud_profile__shares_0 : Type := Nat × List PV
def XL_glidepath_cloud_profile__shares_0 : XL Y_glidepath_cloud_profile__shares_0 := .one X_glidepath_cloud_profile__shares_0a
def I_glidepath_cloud_profile__shares_0 (q : Ext × S) : Y_glidepath_cloud_profile__shares_0 := (I_glidepath_cloud_profile__shares_0a q)
theorem XI_glidepath_cloud_profile__shares_0a (y : Nat × List PV) : I_glidepath_cloud_profile__shares_0 (xe (X_glidepath_cloud_profile__shares_0a y)) = y := (show I_glidepath_cloud_profile__shares_0 (xe (X_glidepath_cloud_profile__shares_0a y)) = (y.1, ((y.2.map AV.p).map pA_p)) from rfl).trans (by simp only [map_back])
theorem XI_glidepath_cloud_profile__shares_0 (y : Y_glidepath_cloud_profile__shares_0) : I_glidepath_cloud_profile__shares_0 (xe (XL_glidepath_cloud_profile__shares_0.fn y)) = y := XI_glidepath_cloud_profile__shares_0a y
noncomputable abbrev L_glidepath_cloud_profile__shares_0 : Q → Option Y_glidepath_cloud_profile__shares_0 := lpO env a66.body 0 XL_glidepath_cloud_profile__shares_0
noncomputable abbrev R_glidepath_cloud_profile__shares_0 : Q → Option (Ext × S) := lpR env a66.body 0
theorem L_glidepath_cloud_profile__shares_0a_of {s : Q} {y : Nat × List PV} (h : R_glidepath_cloud_profile__shares_0 s = exO (X_glidepath_cloud_profile__shares_0a y)) : L_glidepath_cloud_profile__shares_0 s = some y := lpO_of I_glidepath_cloud_profile__shares_0 XI_glidepath_cloud_profile__shares_0 (y := y) h
theorem U_glidepath_cloud_profile__shares : uniq ((blocksOf a66.body).map (·.1)) = true := by kernel_rfl
def B_glidepath_cloud_profile__shares_0a (F : FnT) (N : Q → Option (Ext × S)) (E : Ext × Q → Option (Ext × S)) (_L0 : Q → Option Y_glidepath_cloud_profile__shares_0) (n0 : Nat) (c1 : List PV) (i2 : Int) (n3 : Nat) (n4 : Nat) (c5 : List PV) (i6 : Int) (i7 : Int) (c8 : List PV) : Option (Ext × S) :=
  bif (decide (i7 < i6)) then
    bif (decide (((0 : Int) ≤ i7) ∧ (i7 < (n4 : Int)))) then
      bindO (intC IntKind.i64 (c5[((Int.toNat i7) * 1)]?)) fun x0 =>
      bindO (F 84 (RSh.one (CK.int IntKind.i64)) [(PV.list n0 c1), (PV.int IntKind.i64 i7), (PV.int IntKind.i64 i2)]) fun (y1 : (Int)) =>
      bindO (F 112 (RSh.agg [(CK.int IntKind.i64), (CK.int IntKind.i64)]) [(PV.int IntKind.i64 x0), (PV.int IntKind.i64 y1)]) fun (y2 : ((Int) × (Int))) =>
      bif (decide (((0 : Int) ≤ i7) ∧ (i7 < (n3 : Int)))) then
        bindO (Gv.overO c8 (0 + ((Int.toNat i7) * 2)) [(PV.int IntKind.i64 y2.1), (PV.int IntKind.i64 y2.2)]) fun x3 =>
        N (T_glidepath_cloud_profile__shares_0a n0 c1 i2 n3 n4 c5 i6 (w64 (i7 + (1 : Int))) x3)
      else none
    else none
  else E (X_glidepath_cloud_profile__shares_0a (n3, c8))
theorem B_glidepath_cloud_profile__shares_0a_eq (F : FnT) (N : Q → Option (Ext × S)) (E : Ext × Q → Option (Ext × S)) (L0 : Q → Option Y_glidepath_cloud_profile__shares_0) (n0 : Nat) (c1 : List PV) (i2 : Int) (n3 : Nat) (n4 : Nat) (c5 : List PV) (i6 : Int) (i7 : Int) (c8 : List PV) : semB (callP F E_glidepath_cloud_profile__shares 20) s66 (loopT [⟨0, Y_glidepath_cloud_profile__shares_0, L0, XL_glidepath_cloud_profile__shares_0⟩]) 400 (blkIn a66.body 0) N E (T_glidepath_cloud_profile__shares_0a n0 c1 i2 n3 n4 c5 i6 i7 c8) = B_glidepath_cloud_profile__shares_0a F N E L0 n0 c1 i2 n3 n4 c5 i6 i7 c8 := by kernel_rfl
theorem R_glidepath_cloud_profile__shares_0a_of  (n0 : Nat) (c1 : List PV) (i2 : Int) (n3 : Nat) (n4 : Nat) (c5 : List PV) (i6 : Int) (i7 : Int) (c8 : List PV) {r : Ext × S} (h : B_glidepath_cloud_profile__shares_0a (Fn env) R_glidepath_cloud_profile__shares_0 exO L_glidepath_cloud_profile__shares_0 n0 c1 i2 n3 n4 c5 i6 i7 c8 = some r) : R_glidepath_cloud_profile__shares_0 (T_glidepath_cloud_profile__shares_0a n0 c1 i2 n3 n4 c5 i6 i7 c8) = some r :=
  lp_of E_glidepath_cloud_profile__shares_ok (by kernel_rfl) (lo_cons (lpO_ok U_glidepath_cloud_profile__shares) lo_nil) (by kernel_rfl) ((B_glidepath_cloud_profile__shares_0a_eq _ _ _ _ _ _ _ _ _ _ _ _ _).trans h)
def t_glidepath_cloud_profile__shares (_F : FnT) (L0 : Q → Option Y_glidepath_cloud_profile__shares_0) (p0n : Nat) (p0c : List PV) (p1 : Int) : Option ((Nat) × (List PV)) :=
  bif (decide (((p0n : Int) = (p0n : Int)) ∧ (((0 : Int) ≤ (p0n : Int)) ∧ ((p0n : Int) ≤ (big : Int))))) then
    bindO (L0 (T_glidepath_cloud_profile__shares_0a p0n p0c p1 (Int.toNat (p0n : Int)) p0n p0c (p0n : Int) (0 : Int) (rep [(PV.int IntKind.i64 (0 : Int)), (PV.int IntKind.i64 (0 : Int))] (Int.toNat (p0n : Int))))) fun y0 =>
    bif (decide ((0 + (y0.1 * 2)) ≤ (List.length y0.2))) then
      some (y0.1, (List.take (y0.1 * 2) (List.drop 0 y0.2)))
    else none
  else none
theorem t_glidepath_cloud_profile__shares_eq (F : FnT) (L0 : Q → Option Y_glidepath_cloud_profile__shares_0) (p0n : Nat) (p0c : List PV) (p1 : Int) : semF (callP F E_glidepath_cloud_profile__shares 20) s66 (loopT [⟨0, Y_glidepath_cloud_profile__shares_0, L0, XL_glidepath_cloud_profile__shares_0⟩]) 400 a66 [PV.list p0n p0c, PV.int IntKind.i64 p1] (fun rv => decR (RSh.one CK.list) rv.pv) = t_glidepath_cloud_profile__shares F L0 p0n p0c p1 := by kernel_rfl
noncomputable abbrev F_glidepath_cloud_profile__shares (args : List PV) := Fn env 66 (RSh.one CK.list) args
theorem F_glidepath_cloud_profile__shares_of  (p0n : Nat) (p0c : List PV) (p1 : Int) {res : ((Nat) × (List PV))} (h : t_glidepath_cloud_profile__shares (Fn env) L_glidepath_cloud_profile__shares_0 p0n p0c p1 = some res) : F_glidepath_cloud_profile__shares [PV.list p0n p0c, PV.int IntKind.i64 p1] = some res :=
  fn_of E_glidepath_cloud_profile__shares_ok rfl rfl (lo_cons (lpO_ok U_glidepath_cloud_profile__shares) lo_nil) ((t_glidepath_cloud_profile__shares_eq _ _ _ _ _).trans h)

/-! ### cloud_Undone -/

def Ecloud_Undone : List Entry := [.out 63 (RSh.one (CK.int IntKind.i64)), .out 64 (RSh.one (CK.int IntKind.i64)), .out 62 (RSh.one (CK.int IntKind.i64)), .out 65 (RSh.one (CK.int IntKind.i64)), .out 66 (RSh.one CK.list)]
theorem Ecloud_Undone_ok : ∀ e ∈ Ecloud_Undone, EntOK env e := (ent_out (ent_out (ent_out (ent_out (ent_out ent_nil)))))
theorem Ucloud_Undone : uniq ((blocksOf a12.body).map (·.1)) = true := by kernel_rfl
def tcloud_Undone (F : FnT) (p0n : Nat) (p0c : List PV) (p1 : Int) : Option (((Nat) × (List PV)) × (Int)) :=
  bindO (F 63 (RSh.one (CK.int IntKind.i64)) [(PV.list p0n p0c)]) fun (y0 : (Int)) =>
  bindO (F 64 (RSh.one (CK.int IntKind.i64)) [(PV.int IntKind.i64 p1)]) fun (y1 : (Int)) =>
  bindO (F 62 (RSh.one (CK.int IntKind.i64)) [(PV.list 2 [(PV.int IntKind.i64 y0), (PV.int IntKind.i64 y1)])]) fun (y2 : (Int)) =>
  bif (y2 != (0 : Int)) then
    some ((0, []), y2)
  else bindO (F 65 (RSh.one (CK.int IntKind.i64)) [(PV.list p0n p0c), (PV.int IntKind.i64 p1)]) fun (y3 : (Int)) =>
  bif (y3 != (0 : Int)) then
    some ((0, []), y3)
  else bindO (F 66 (RSh.one CK.list) [(PV.list p0n p0c), (PV.int IntKind.i64 p1)]) fun (y4 : ((Nat) × (List PV))) =>
  some ((y4.1, y4.2), (0 : Int))
theorem tcloud_Undone_eq (F : FnT) (p0n : Nat) (p0c : List PV) (p1 : Int) : semF (callP F Ecloud_Undone 20) s12 (loopT []) 400 a12 [PV.list p0n p0c, PV.int IntKind.i64 p1] (fun rv => decR (RSh.tup [(Prod.mk false [CK.list]), (Prod.mk false [(CK.int IntKind.i64)])]) rv.pv) = tcloud_Undone F p0n p0c p1 := by kernel_rfl
noncomputable abbrev Fcloud_Undone (args : List PV) := Fn env 12 (RSh.tup [(Prod.mk false [CK.list]), (Prod.mk false [(CK.int IntKind.i64)])]) args
theorem Fcloud_Undone_of  (p0n : Nat) (p0c : List PV) (p1 : Int) {res : (((Nat) × (List PV)) × (Int))} (h : tcloud_Undone (Fn env) p0n p0c p1 = some res) : Fcloud_Undone [PV.list p0n p0c, PV.int IntKind.i64 p1] = some res :=
  fn_of Ecloud_Undone_ok rfl rfl lo_nil ((tcloud_Undone_eq _ _ _ _).trans h)

/-! ### cloud_ConstantOf_1 -/

def Ecloud_ConstantOf_1 : List Entry := [.out 69 (RSh.one (CK.int IntKind.i64)), .out 62 (RSh.one (CK.int IntKind.i64))]
theorem Ecloud_ConstantOf_1_ok : ∀ e ∈ Ecloud_ConstantOf_1, EntOK env e := (ent_out (ent_out ent_nil))
theorem Ucloud_ConstantOf_1 : uniq ((blocksOf a68.body).map (·.1)) = true := by kernel_rfl
def tcloud_ConstantOf_1 (F : FnT)(_n : Nat) (_cs : List PV) (a b : Int) : Option (Int) :=
  bindO (F 69 (RSh.one (CK.int IntKind.i64)) [(PV.int IntKind.i64 a), (PV.int IntKind.i64 (1 : Int)), (PV.int IntKind.i64 (1000000 : Int))]) fun (y0 : (Int)) =>
  bindO (F 69 (RSh.one (CK.int IntKind.i64)) [(PV.int IntKind.i64 b), (PV.int IntKind.i64 (0 : Int)), (PV.int IntKind.i64 (1000000 : Int))]) fun (y1 : (Int)) =>
  bindO (F 62 (RSh.one (CK.int IntKind.i64)) [(PV.list 2 [(PV.int IntKind.i64 y0), (PV.int IntKind.i64 y1)])]) fun (y2 : (Int)) =>
  some y2
theorem tcloud_ConstantOf_1_eq (F : FnT)(n : Nat) (cs : List PV) (a b : Int) : semF (callP F Ecloud_ConstantOf_1 20) s68 (loopT []) 400 a68 [.list n cs, .agg [.int .i64 a, .int .i64 b]] (fun rv => decR (RSh.one (CK.int IntKind.i64)) rv.pv) = tcloud_ConstantOf_1 F n cs a b := by kernel_rfl
noncomputable abbrev Fcloud_ConstantOf_1 (args : List PV) := Fn env 68 (RSh.one (CK.int IntKind.i64)) args
theorem Fcloud_ConstantOf_1_of (n : Nat) (cs : List PV) (a b : Int) {res : (Int)} (h : tcloud_ConstantOf_1 (Fn env) n cs a b = some res) : Fcloud_ConstantOf_1 [.list n cs, .agg [.int .i64 a, .int .i64 b]] = some res :=
  fn_of Ecloud_ConstantOf_1_ok rfl rfl lo_nil ((tcloud_ConstantOf_1_eq _ _ _ _ _).trans h)

/-! ### cloud_itemError_points -/

def Ecloud_itemError_points : List Entry := [.out 68 (RSh.one (CK.int IntKind.i64))]
theorem Ecloud_itemError_points_ok : ∀ e ∈ Ecloud_itemError_points, EntOK env e := (ent_out ent_nil)
def Tcloud_itemError_points_0a (n0 : Nat) (c1 : List PV) (n2 : Nat) (c3 : List PV) (i4 : Int) (i5 : Int) : Q := ⟨(tm 27 [(0, (AV.p (PV.list n0 c1))), (1, (AV.p (PV.fn 68 []))), (9, (AV.p (PV.list n2 c3))), (10, (AV.p (PV.int IntKind.i64 i4))), (11, (AV.p (PV.int IntKind.i64 i5)))]), (mm 27 [])⟩
def Xcloud_itemError_points_0a (y : Int × Int) : Ext × Q := (Ext.ret, ⟨(tm 27 [(4, (AV.p (PV.int IntKind.i64 y.1))), (5, (AV.p (PV.int IntKind.i64 y.2)))]), (mm 27 [])⟩)
def Icloud_itemError_points_0a (q : Ext × S) : Int × Int := ((pP_int1 (pA_p (avT q.2 4))), (pP_int1 (pA_p (avT q.2 5))))
def Xcloud_itemError_points_0b (_y : Unit) : Ext × Q := (Ext.normal, ⟨(tm 27 []), (mm 27 [])⟩)
def Icloud_itemError_points_0b (_q : Ext × S) : Unit := ()
abbrev Ycloud_itemError_points_0 : Type := (Int × Int) ⊕ ((Unit))
def XLcloud_itemError_points_0 : XL Ycloud_itemError_points_0 := .more Xcloud_itemError_points_0a (.one Xcloud_itemError_points_0b)
def Icloud_itemError_points_0 (q : Ext × S) : Ycloud_itemError_points_0 := bif (cE q.1 == 2) then (Sum.inl (Icloud_itemError_points_0a q)) else (Sum.inr (Icloud_itemError_points_0b q))
theorem XIcloud_itemError_points_0a (y : Int × Int) : Icloud_itemError_points_0 (xe (Xcloud_itemError_points_0a y)) = (Sum.inl y) := rfl
theorem XIcloud_itemError_points_0b (y : Unit) : Icloud_itemError_points_0 (xe (Xcloud_itemError_points_0b y)) = (Sum.inr y) := rfl
theorem XIcloud_itemError_points_0 (y : Ycloud_itemError_points_0) : Icloud_itemError_points_0 (xe (XLcloud_itemError_points_0.fn y)) = y := (match y with | .inl y => XIcloud_itemError_points_0a y | .inr y => XIcloud_itemError_points_0b y)
noncomputable abbrev Lcloud_itemError_points_0 : Q → Option Ycloud_itemError_points_0 := lpO env a141.body 0 XLcloud_itemError_points_0
noncomputable abbrev Rcloud_itemError_points_0 : Q → Option (Ext × S) := lpR env a141.body 0
theorem Lcloud_itemError_points_0a_of {s : Q} {y : Int × Int} (h : Rcloud_itemError_points_0 s = exO (Xcloud_itemError_points_0a y)) : Lcloud_itemError_points_0 s = some (Sum.inl y) := lpO_of Icloud_itemError_points_0 XIcloud_itemError_points_0 (y := (Sum.inl y)) h
theorem Lcloud_itemError_points_0b_of {s : Q} {y : Unit} (h : Rcloud_itemError_points_0 s = exO (Xcloud_itemError_points_0b y)) : Lcloud_itemError_points_0 s = some (Sum.inr y) := lpO_of Icloud_itemError_points_0 XIcloud_itemError_points_0 (y := (Sum.inr y)) h
theorem Ucloud_itemError_points : uniq ((blocksOf a141.body).map (·.1)) = true := by kernel_rfl
def Bcloud_itemError_points_0a (F : FnT) (N : Q → Option (Ext × S)) (E : Ext × Q → Option (Ext × S)) (_L0 : Q → Option Ycloud_itemError_points_0) (n0 : Nat) (c1 : List PV) (n2 : Nat) (c3 : List PV) (i4 : Int) (i5 : Int) : Option (Ext × S) :=
  bif (decide (i5 < i4)) then
    bif (decide (((0 : Int) ≤ i5) ∧ (i5 < (n2 : Int)))) then
      bindO (intC IntKind.i64 (c3[((Int.toNat i5) * 2)]?)) fun x0 =>
      bindO (intC IntKind.i64 (c3[(((Int.toNat i5) * 2) + 1)]?)) fun x1 =>
      bif (decide (((0 : Int) ≤ i5) ∧ (i5 ≤ ((Prod.mk n0 c1).1 : Int)))) then
        bif (decide ((0 = (Int.toNat i5)) ∨ (((0 * 2) + (((Int.toNat i5) - 0) * 2)) ≤ (List.length c1)))) then
          bindO (F 68 (RSh.one (CK.int IntKind.i64)) [(PV.list ((Int.toNat i5) - 0) (List.take (((Int.toNat i5) - 0) * 2) (List.drop 0 c1))), (PV.agg [(PV.int IntKind.i64 x0), (PV.int IntKind.i64 x1)])]) fun (y2 : (Int)) =>
          bif (y2 != (0 : Int)) then
            E (Xcloud_itemError_points_0a (i5, y2))
          else N (Tcloud_itemError_points_0a n0 c1 n2 c3 i4 (w64 (i5 + (1 : Int))))
        else none
      else none
    else none
  else E (Xcloud_itemError_points_0b ())
theorem Bcloud_itemError_points_0a_eq (F : FnT) (N : Q → Option (Ext × S)) (E : Ext × Q → Option (Ext × S)) (L0 : Q → Option Ycloud_itemError_points_0) (n0 : Nat) (c1 : List PV) (n2 : Nat) (c3 : List PV) (i4 : Int) (i5 : Int) : semB (callP F Ecloud_itemError_points 20) s141 (loopT [⟨0, Ycloud_itemError_points_0, L0, XLcloud_itemError_points_0⟩]) 400 (blkIn a141.body 0) N E (Tcloud_itemError_points_0a n0 c1 n2 c3 i4 i5) = Bcloud_itemError_points_0a F N E L0 n0 c1 n2 c3 i4 i5 := by kernel_rfl
theorem Rcloud_itemError_points_0a_of  (n0 : Nat) (c1 : List PV) (n2 : Nat) (c3 : List PV) (i4 : Int) (i5 : Int) {r : Ext × S} (h : Bcloud_itemError_points_0a (Fn env) Rcloud_itemError_points_0 exO Lcloud_itemError_points_0 n0 c1 n2 c3 i4 i5 = some r) : Rcloud_itemError_points_0 (Tcloud_itemError_points_0a n0 c1 n2 c3 i4 i5) = some r :=
  lp_of Ecloud_itemError_points_ok (by kernel_rfl) (lo_cons (lpO_ok Ucloud_itemError_points) lo_nil) (by kernel_rfl) ((Bcloud_itemError_points_0a_eq _ _ _ _ _ _ _ _ _ _).trans h)
def tcloud_itemError_points (_F : FnT) (L0 : Q → Option Ycloud_itemError_points_0)(n : Nat) (cs : List PV) : Option ((Int) × (Int)) :=
  bindO (L0 (Tcloud_itemError_points_0a n cs n cs (n : Int) (0 : Int))) fun z =>
  Sum.elim (fun y0 =>
    some (y0.1, y0.2)) (fun _y1 =>
    some ((0 : Int), (0 : Int))) z
theorem tcloud_itemError_points_eq (F : FnT) (L0 : Q → Option Ycloud_itemError_points_0)(n : Nat) (cs : List PV) : semF (callP F Ecloud_itemError_points 20) s141 (loopT [⟨0, Ycloud_itemError_points_0, L0, XLcloud_itemError_points_0⟩]) 400 a141 [.list n cs, .fn 68 []] (fun rv => decR (RSh.tup [(Prod.mk false [(CK.int IntKind.i64)]), (Prod.mk false [(CK.int IntKind.i64)])]) rv.pv) = tcloud_itemError_points F L0 n cs := by kernel_rfl
noncomputable abbrev Fcloud_itemError_points (args : List PV) := Fn env 141 (RSh.tup [(Prod.mk false [(CK.int IntKind.i64)]), (Prod.mk false [(CK.int IntKind.i64)])]) args
theorem Fcloud_itemError_points_of (n : Nat) (cs : List PV) {res : ((Int) × (Int))} (h : tcloud_itemError_points (Fn env) Lcloud_itemError_points_0 n cs = some res) : Fcloud_itemError_points [.list n cs, .fn 68 []] = some res :=
  fn_of Ecloud_itemError_points_ok rfl rfl (lo_cons (lpO_ok Ucloud_itemError_points) lo_nil) ((tcloud_itemError_points_eq _ _ _ _).trans h)

/-! ### cloud_listError_points -/

def Ecloud_listError_points : List Entry := [.out 141 (RSh.tup [(Prod.mk false [(CK.int IntKind.i64)]), (Prod.mk false [(CK.int IntKind.i64)])])]
theorem Ecloud_listError_points_ok : ∀ e ∈ Ecloud_listError_points, EntOK env e := (ent_out ent_nil)
theorem Ucloud_listError_points : uniq ((blocksOf a113.body).map (·.1)) = true := by kernel_rfl
def tcloud_listError_points (F : FnT)(n : Nat) (cs : List PV) (m : Int) : Option ((Int) × (Int)) :=
  bif (decide ((n : Int) > m)) then
    some ((0 : Int), (8 : Int))
  else bindO (F 141 (RSh.tup [(Prod.mk false [(CK.int IntKind.i64)]), (Prod.mk false [(CK.int IntKind.i64)])]) [(PV.list n cs), (PV.fn 68 [])]) fun (y0 : ((Int) × (Int))) =>
  some (y0.1, y0.2)
theorem tcloud_listError_points_eq (F : FnT)(n : Nat) (cs : List PV) (m : Int) : semF (callP F Ecloud_listError_points 20) s113 (loopT []) 400 a113 [.list n cs, .int .i64 m, .fn 68 []] (fun rv => decR (RSh.tup [(Prod.mk false [(CK.int IntKind.i64)]), (Prod.mk false [(CK.int IntKind.i64)])]) rv.pv) = tcloud_listError_points F n cs m := by kernel_rfl
noncomputable abbrev Fcloud_listError_points (args : List PV) := Fn env 113 (RSh.tup [(Prod.mk false [(CK.int IntKind.i64)]), (Prod.mk false [(CK.int IntKind.i64)])]) args
theorem Fcloud_listError_points_of (n : Nat) (cs : List PV) (m : Int) {res : ((Int) × (Int))} (h : tcloud_listError_points (Fn env) n cs m = some res) : Fcloud_listError_points [.list n cs, .int .i64 m, .fn 68 []] = some res :=
  fn_of Ecloud_listError_points_ok rfl rfl lo_nil ((tcloud_listError_points_eq _ _ _ _).trans h)

/-! ### cloud_filledError_points -/

def Ecloud_filledError_points : List Entry := [.out 113 (RSh.tup [(Prod.mk false [(CK.int IntKind.i64)]), (Prod.mk false [(CK.int IntKind.i64)])])]
theorem Ecloud_filledError_points_ok : ∀ e ∈ Ecloud_filledError_points, EntOK env e := (ent_out ent_nil)
theorem Ucloud_filledError_points : uniq ((blocksOf a67.body).map (·.1)) = true := by kernel_rfl
def tcloud_filledError_points (F : FnT)(n : Nat) (cs : List PV) (m : Int) : Option ((Int) × (Int)) :=
  bif ((n : Int) == (0 : Int)) then
    some ((0 : Int), (10 : Int))
  else bindO (F 113 (RSh.tup [(Prod.mk false [(CK.int IntKind.i64)]), (Prod.mk false [(CK.int IntKind.i64)])]) [(PV.list n cs), (PV.int IntKind.i64 m), (PV.fn 68 [])]) fun (y0 : ((Int) × (Int))) =>
  some (y0.1, y0.2)
theorem tcloud_filledError_points_eq (F : FnT)(n : Nat) (cs : List PV) (m : Int) : semF (callP F Ecloud_filledError_points 20) s67 (loopT []) 400 a67 [.list n cs, .int .i64 m, .fn 68 []] (fun rv => decR (RSh.tup [(Prod.mk false [(CK.int IntKind.i64)]), (Prod.mk false [(CK.int IntKind.i64)])]) rv.pv) = tcloud_filledError_points F n cs m := by kernel_rfl
noncomputable abbrev Fcloud_filledError_points (args : List PV) := Fn env 67 (RSh.tup [(Prod.mk false [(CK.int IntKind.i64)]), (Prod.mk false [(CK.int IntKind.i64)])]) args
theorem Fcloud_filledError_points_of (n : Nat) (cs : List PV) (m : Int) {res : ((Int) × (Int))} (h : tcloud_filledError_points (Fn env) n cs m = some res) : Fcloud_filledError_points [.list n cs, .int .i64 m, .fn 68 []] = some res :=
  fn_of Ecloud_filledError_points_ok rfl rfl lo_nil ((tcloud_filledError_points_eq _ _ _ _).trans h)

/-! ### cloud_ConstantOf -/

def Ecloud_ConstantOf : List Entry := [.out 67 (RSh.tup [(Prod.mk false [(CK.int IntKind.i64)]), (Prod.mk false [(CK.int IntKind.i64)])])]
theorem Ecloud_ConstantOf_ok : ∀ e ∈ Ecloud_ConstantOf, EntOK env e := (ent_out ent_nil)
def Tcloud_ConstantOf_0a (n0 : Nat) (c1 : List PV) (i2 : Int) (i3 : Int) (i4 : Int) (i5 : Int) : Q := ⟨(tm 69 [(2, (AV.loc 2 0)), (6, (AV.loc 6 0)), (37, (AV.p (PV.list n0 c1))), (38, (AV.p (PV.int IntKind.i64 i2))), (39, (AV.p (PV.int IntKind.i64 i3)))]), (mm 69 [(2, (Bk.pcs true [(PV.int IntKind.i64 (0 : Int)), (PV.int IntKind.i64 (0 : Int))])), (6, (Bk.pcs true [(PV.int IntKind.i64 i4), (PV.int IntKind.i64 i5)]))])⟩
def Xcloud_ConstantOf_0a (y : Int × Int) : Ext × Q := (Ext.normal, ⟨(tm 69 [(2, (AV.loc 2 0)), (6, (AV.loc 6 0))]), (mm 69 [(2, (Bk.pcs true [(PV.int IntKind.i64 (0 : Int)), (PV.int IntKind.i64 (0 : Int))])), (6, (Bk.pcs true [(PV.int IntKind.i64 y.1), (PV.int IntKind.i64 y.2)]))])⟩)
def Icloud_ConstantOf_0a (q : Ext × S) : Int × Int := ((pP_int1 (hdP (pB_pcs1 (avM q.2 6)))), (pP_int1 (hdP (List.tail (pB_pcs1 (avM q.2 6))))))
abbrev Ycloud_ConstantOf_0 : Type := Int × Int
def XLcloud_ConstantOf_0 : XL Ycloud_ConstantOf_0 := .one Xcloud_ConstantOf_0a
def Icloud_ConstantOf_0 (q : Ext × S) : Ycloud_ConstantOf_0 := (Icloud_ConstantOf_0a q)
theorem XIcloud_ConstantOf_0a (y : Int × Int) : Icloud_ConstantOf_0 (xe (Xcloud_ConstantOf_0a y)) = y := rfl
theorem XIcloud_ConstantOf_0 (y : Ycloud_ConstantOf_0) : Icloud_ConstantOf_0 (xe (XLcloud_ConstantOf_0.fn y)) = y := XIcloud_ConstantOf_0a y
noncomputable abbrev Lcloud_ConstantOf_0 : Q → Option Ycloud_ConstantOf_0 := lpO env a13.body 0 XLcloud_ConstantOf_0
noncomputable abbrev Rcloud_ConstantOf_0 : Q → Option (Ext × S) := lpR env a13.body 0
theorem Lcloud_ConstantOf_0a_of {s : Q} {y : Int × Int} (h : Rcloud_ConstantOf_0 s = exO (Xcloud_ConstantOf_0a y)) : Lcloud_ConstantOf_0 s = some y := lpO_of Icloud_ConstantOf_0 XIcloud_ConstantOf_0 (y := y) h
theorem Ucloud_ConstantOf : uniq ((blocksOf a13.body).map (·.1)) = true := by kernel_rfl
def Bcloud_ConstantOf_0a (_F : FnT) (N : Q → Option (Ext × S)) (E : Ext × Q → Option (Ext × S)) (_L0 : Q → Option Ycloud_ConstantOf_0) (n0 : Nat) (c1 : List PV) (i2 : Int) (i3 : Int) (i4 : Int) (i5 : Int) : Option (Ext × S) :=
  bif (decide (i3 < i2)) then
    bif (decide (((0 : Int) ≤ i3) ∧ (i3 < (n0 : Int)))) then
      bindO (intC IntKind.i64 (c1[((Int.toNat i3) * 2)]?)) fun x0 =>
      bindO (intC IntKind.i64 (c1[(((Int.toNat i3) * 2) + 1)]?)) fun x1 =>
      N (Tcloud_ConstantOf_0a n0 c1 i2 (w64 (i3 + (1 : Int))) (if ((w64 (x0 - x1)) > i4) then (w64 (x0 - x1)) else i4) (if ((w64 (x0 + x1)) < i5) then (w64 (x0 + x1)) else i5))
    else none
  else E (Xcloud_ConstantOf_0a (i4, i5))
theorem Bcloud_ConstantOf_0a_eq (F : FnT) (N : Q → Option (Ext × S)) (E : Ext × Q → Option (Ext × S)) (L0 : Q → Option Ycloud_ConstantOf_0) (n0 : Nat) (c1 : List PV) (i2 : Int) (i3 : Int) (i4 : Int) (i5 : Int) : semB (callP F Ecloud_ConstantOf 20) s13 (loopT [⟨0, Ycloud_ConstantOf_0, L0, XLcloud_ConstantOf_0⟩]) 400 (blkIn a13.body 0) N E (Tcloud_ConstantOf_0a n0 c1 i2 i3 i4 i5) = Bcloud_ConstantOf_0a F N E L0 n0 c1 i2 i3 i4 i5 := by kernel_rfl
theorem Rcloud_ConstantOf_0a_of  (n0 : Nat) (c1 : List PV) (i2 : Int) (i3 : Int) (i4 : Int) (i5 : Int) {r : Ext × S} (h : Bcloud_ConstantOf_0a (Fn env) Rcloud_ConstantOf_0 exO Lcloud_ConstantOf_0 n0 c1 i2 i3 i4 i5 = some r) : Rcloud_ConstantOf_0 (Tcloud_ConstantOf_0a n0 c1 i2 i3 i4 i5) = some r :=
  lp_of Ecloud_ConstantOf_ok (by kernel_rfl) (lo_cons (lpO_ok Ucloud_ConstantOf) lo_nil) (by kernel_rfl) ((Bcloud_ConstantOf_0a_eq _ _ _ _ _ _ _ _ _ _).trans h)
def tcloud_ConstantOf (F : FnT) (L0 : Q → Option Ycloud_ConstantOf_0) (p0n : Nat) (p0c : List PV) : Option ((Int) × ((Int) × (Int))) :=
  bindO (F 67 (RSh.tup [(Prod.mk false [(CK.int IntKind.i64)]), (Prod.mk false [(CK.int IntKind.i64)])]) [(PV.list p0n p0c), (PV.int IntKind.i64 (12 : Int)), (PV.fn 68 [])]) fun (y0 : ((Int) × (Int))) =>
  bif (y0.2 != (0 : Int)) then
    some ((0 : Int), ((0 : Int), y0.2))
  else bif (decide (((0 : Int) ≤ (0 : Int)) ∧ ((0 : Int) < (p0n : Int)))) then
    bindO (intC IntKind.i64 (p0c[0]?)) fun x1 =>
    bif (decide (((0 : Int) ≤ (0 : Int)) ∧ ((0 : Int) < (p0n : Int)))) then
      bindO (intC IntKind.i64 (p0c[1]?)) fun x2 =>
      bif (decide (((0 : Int) ≤ (0 : Int)) ∧ ((0 : Int) < (p0n : Int)))) then
        bindO (intC IntKind.i64 (p0c[0]?)) fun x3 =>
        bif (decide (((0 : Int) ≤ (0 : Int)) ∧ ((0 : Int) < (p0n : Int)))) then
          bindO (intC IntKind.i64 (p0c[1]?)) fun x4 =>
          bindO (L0 (Tcloud_ConstantOf_0a p0n p0c (p0n : Int) (0 : Int) (w64 (x1 - x2)) (w64 (x3 + x4)))) fun y5 =>
          bif (decide (y5.1 > y5.2)) then
            some ((0 : Int), ((0 : Int), (12 : Int)))
          else some (y5.1, (y5.2, (0 : Int)))
        else none
      else none
    else none
  else none
theorem tcloud_ConstantOf_eq (F : FnT) (L0 : Q → Option Ycloud_ConstantOf_0) (p0n : Nat) (p0c : List PV) : semF (callP F Ecloud_ConstantOf 20) s13 (loopT [⟨0, Ycloud_ConstantOf_0, L0, XLcloud_ConstantOf_0⟩]) 400 a13 [PV.list p0n p0c] (fun rv => decR (RSh.tup [(Prod.mk true [(CK.int IntKind.i64), (CK.int IntKind.i64)]), (Prod.mk false [(CK.int IntKind.i64)])]) rv.pv) = tcloud_ConstantOf F L0 p0n p0c := by kernel_rfl
noncomputable abbrev Fcloud_ConstantOf (args : List PV) := Fn env 13 (RSh.tup [(Prod.mk true [(CK.int IntKind.i64), (CK.int IntKind.i64)]), (Prod.mk false [(CK.int IntKind.i64)])]) args
theorem Fcloud_ConstantOf_of  (p0n : Nat) (p0c : List PV) {res : ((Int) × ((Int) × (Int)))} (h : tcloud_ConstantOf (Fn env) Lcloud_ConstantOf_0 p0n p0c = some res) : Fcloud_ConstantOf [PV.list p0n p0c] = some res :=
  fn_of Ecloud_ConstantOf_ok rfl rfl (lo_cons (lpO_ok Ucloud_ConstantOf) lo_nil) ((tcloud_ConstantOf_eq _ _ _ _).trans h)

/-! ### glidepathref08_CheckProfile -/

def Eglidepathref08_CheckProfile : List Entry := [.out 31 (RSh.one CK.bool)]
theorem Eglidepathref08_CheckProfile_ok : ∀ e ∈ Eglidepathref08_CheckProfile, EntOK env e := (ent_out ent_nil)
def Tglidepathref08_CheckProfile_0a (n0 : Nat) (c1 : List PV) (i2 : Int) : Q := ⟨(tm 24 [(0, (AV.p (PV.list n0 c1))), (4, (AV.p (PV.int IntKind.i64 i2)))]), (mm 24 [])⟩
def Xglidepathref08_CheckProfile_0a (y : Int) : Ext × Q := (Ext.ret, ⟨(tm 24 [(2, (AV.p (PV.int IntKind.i64 y))), (3, (AV.p (PV.int IntKind.i64 (2 : Int))))]), (mm 24 [])⟩)
def Iglidepathref08_CheckProfile_0a (q : Ext × S) : Int := (pP_int1 (pA_p (avT q.2 2)))
def Xglidepathref08_CheckProfile_0b (_y : Unit) : Ext × Q := (Ext.normal, ⟨(tm 24 []), (mm 24 [])⟩)
def Iglidepathref08_CheckProfile_0b (_q : Ext × S) : Unit := ()
abbrev Yglidepathref08_CheckProfile_0 : Type := (Int) ⊕ ((Unit))
def XLglidepathref08_CheckProfile_0 : XL Yglidepathref08_CheckProfile_0 := .more Xglidepathref08_CheckProfile_0a (.one Xglidepathref08_CheckProfile_0b)
def Iglidepathref08_CheckProfile_0 (q : Ext × S) : Yglidepathref08_CheckProfile_0 := bif (cE q.1 == 2) then (Sum.inl (Iglidepathref08_CheckProfile_0a q)) else (Sum.inr (Iglidepathref08_CheckProfile_0b q))
theorem XIglidepathref08_CheckProfile_0a (y : Int) : Iglidepathref08_CheckProfile_0 (xe (Xglidepathref08_CheckProfile_0a y)) = (Sum.inl y) := rfl
theorem XIglidepathref08_CheckProfile_0b (y : Unit) : Iglidepathref08_CheckProfile_0 (xe (Xglidepathref08_CheckProfile_0b y)) = (Sum.inr y) := rfl
theorem XIglidepathref08_CheckProfile_0 (y : Yglidepathref08_CheckProfile_0) : Iglidepathref08_CheckProfile_0 (xe (XLglidepathref08_CheckProfile_0.fn y)) = y := (match y with | .inl y => XIglidepathref08_CheckProfile_0a y | .inr y => XIglidepathref08_CheckProfile_0b y)
noncomputable abbrev Lglidepathref08_CheckProfile_0 : Q → Option Yglidepathref08_CheckProfile_0 := lpO env a15.body 0 XLglidepathref08_CheckProfile_0
noncomputable abbrev Rglidepathref08_CheckProfile_0 : Q → Option (Ext × S) := lpR env a15.body 0
theorem Lglidepathref08_CheckProfile_0a_of {s : Q} {y : Int} (h : Rglidepathref08_CheckProfile_0 s = exO (Xglidepathref08_CheckProfile_0a y)) : Lglidepathref08_CheckProfile_0 s = some (Sum.inl y) := lpO_of Iglidepathref08_CheckProfile_0 XIglidepathref08_CheckProfile_0 (y := (Sum.inl y)) h
theorem Lglidepathref08_CheckProfile_0b_of {s : Q} {y : Unit} (h : Rglidepathref08_CheckProfile_0 s = exO (Xglidepathref08_CheckProfile_0b y)) : Lglidepathref08_CheckProfile_0 s = some (Sum.inr y) := lpO_of Iglidepathref08_CheckProfile_0 XIglidepathref08_CheckProfile_0 (y := (Sum.inr y)) h
theorem Uglidepathref08_CheckProfile : uniq ((blocksOf a15.body).map (·.1)) = true := by kernel_rfl
def Bglidepathref08_CheckProfile_0a (F : FnT) (N : Q → Option (Ext × S)) (E : Ext × Q → Option (Ext × S)) (_L0 : Q → Option Yglidepathref08_CheckProfile_0) (n0 : Nat) (c1 : List PV) (i2 : Int) : Option (Ext × S) :=
  bif (decide (i2 < (n0 : Int))) then
    bif (decide (((0 : Int) ≤ i2) ∧ (i2 < (n0 : Int)))) then
      bindO (intC IntKind.i64 (c1[((Int.toNat i2) * 1)]?)) fun x0 =>
      bindO (F 31 (RSh.one CK.bool) [(PV.int IntKind.i64 x0), (PV.int IntKind.i64 (0 : Int)), (PV.int IntKind.i64 (10000 : Int))]) fun (y1 : (Bool)) =>
      bif y1 then
        N (Tglidepathref08_CheckProfile_0a n0 c1 (w64 (i2 + (1 : Int))))
      else E (Xglidepathref08_CheckProfile_0a i2)
    else none
  else E (Xglidepathref08_CheckProfile_0b ())
theorem Bglidepathref08_CheckProfile_0a_eq (F : FnT) (N : Q → Option (Ext × S)) (E : Ext × Q → Option (Ext × S)) (L0 : Q → Option Yglidepathref08_CheckProfile_0) (n0 : Nat) (c1 : List PV) (i2 : Int) : semB (callP F Eglidepathref08_CheckProfile 20) s15 (loopT [⟨0, Yglidepathref08_CheckProfile_0, L0, XLglidepathref08_CheckProfile_0⟩]) 400 (blkIn a15.body 0) N E (Tglidepathref08_CheckProfile_0a n0 c1 i2) = Bglidepathref08_CheckProfile_0a F N E L0 n0 c1 i2 := by kernel_rfl
theorem Rglidepathref08_CheckProfile_0a_of  (n0 : Nat) (c1 : List PV) (i2 : Int) {r : Ext × S} (h : Bglidepathref08_CheckProfile_0a (Fn env) Rglidepathref08_CheckProfile_0 exO Lglidepathref08_CheckProfile_0 n0 c1 i2 = some r) : Rglidepathref08_CheckProfile_0 (Tglidepathref08_CheckProfile_0a n0 c1 i2) = some r :=
  lp_of Eglidepathref08_CheckProfile_ok (by kernel_rfl) (lo_cons (lpO_ok Uglidepathref08_CheckProfile) lo_nil) (by kernel_rfl) ((Bglidepathref08_CheckProfile_0a_eq _ _ _ _ _ _ _).trans h)
def tglidepathref08_CheckProfile (_F : FnT) (L0 : Q → Option Yglidepathref08_CheckProfile_0) (p0n : Nat) (p0c : List PV) : Option ((Int) × (Int)) :=
  bif ((p0n : Int) == (0 : Int)) then
    some ((0 : Int), (10 : Int))
  else bif (decide ((p0n : Int) > (24 : Int))) then
    some ((0 : Int), (8 : Int))
  else bindO (L0 (Tglidepathref08_CheckProfile_0a p0n p0c (0 : Int))) fun z =>
  Sum.elim (fun y0 =>
    some (y0, (2 : Int))) (fun _y1 =>
    some ((0 : Int), (0 : Int))) z
theorem tglidepathref08_CheckProfile_eq (F : FnT) (L0 : Q → Option Yglidepathref08_CheckProfile_0) (p0n : Nat) (p0c : List PV) : semF (callP F Eglidepathref08_CheckProfile 20) s15 (loopT [⟨0, Yglidepathref08_CheckProfile_0, L0, XLglidepathref08_CheckProfile_0⟩]) 400 a15 [PV.list p0n p0c] (fun rv => decR (RSh.tup [(Prod.mk false [(CK.int IntKind.i64)]), (Prod.mk false [(CK.int IntKind.i64)])]) rv.pv) = tglidepathref08_CheckProfile F L0 p0n p0c := by kernel_rfl
noncomputable abbrev Fglidepathref08_CheckProfile (args : List PV) := Fn env 15 (RSh.tup [(Prod.mk false [(CK.int IntKind.i64)]), (Prod.mk false [(CK.int IntKind.i64)])]) args
theorem Fglidepathref08_CheckProfile_of  (p0n : Nat) (p0c : List PV) {res : ((Int) × (Int))} (h : tglidepathref08_CheckProfile (Fn env) Lglidepathref08_CheckProfile_0 p0n p0c = some res) : Fglidepathref08_CheckProfile [PV.list p0n p0c] = some res :=
  fn_of Eglidepathref08_CheckProfile_ok rfl rfl (lo_cons (lpO_ok Uglidepathref08_CheckProfile) lo_nil) ((tglidepathref08_CheckProfile_eq _ _ _ _).trans h)

/-! ### glidepathref08_ProfileErr -/

def Eglidepathref08_ProfileErr : List Entry := [.out 15 (RSh.tup [(Prod.mk false [(CK.int IntKind.i64)]), (Prod.mk false [(CK.int IntKind.i64)])])]
theorem Eglidepathref08_ProfileErr_ok : ∀ e ∈ Eglidepathref08_ProfileErr, EntOK env e := (ent_out ent_nil)
theorem Uglidepathref08_ProfileErr : uniq ((blocksOf a26.body).map (·.1)) = true := by kernel_rfl
def tglidepathref08_ProfileErr (F : FnT) (p0n : Nat) (p0c : List PV) : Option (Int) :=
  bindO (F 15 (RSh.tup [(Prod.mk false [(CK.int IntKind.i64)]), (Prod.mk false [(CK.int IntKind.i64)])]) [(PV.list p0n p0c)]) fun (y0 : ((Int) × (Int))) =>
  some y0.2
theorem tglidepathref08_ProfileErr_eq (F : FnT) (p0n : Nat) (p0c : List PV) : semF (callP F Eglidepathref08_ProfileErr 20) s26 (loopT []) 400 a26 [PV.list p0n p0c] (fun rv => decR (RSh.one (CK.int IntKind.i64)) rv.pv) = tglidepathref08_ProfileErr F p0n p0c := by kernel_rfl
noncomputable abbrev Fglidepathref08_ProfileErr (args : List PV) := Fn env 26 (RSh.one (CK.int IntKind.i64)) args
theorem Fglidepathref08_ProfileErr_of  (p0n : Nat) (p0c : List PV) {res : (Int)} (h : tglidepathref08_ProfileErr (Fn env) p0n p0c = some res) : Fglidepathref08_ProfileErr [PV.list p0n p0c] = some res :=
  fn_of Eglidepathref08_ProfileErr_ok rfl rfl lo_nil ((tglidepathref08_ProfileErr_eq _ _ _).trans h)

/-! ### glidepathref08_ConstantErr -/

def Eglidepathref08_ConstantErr : List Entry := [.out 31 (RSh.one CK.bool)]
theorem Eglidepathref08_ConstantErr_ok : ∀ e ∈ Eglidepathref08_ConstantErr, EntOK env e := (ent_out ent_nil)
theorem Uglidepathref08_ConstantErr : uniq ((blocksOf a17.body).map (·.1)) = true := by kernel_rfl
def tglidepathref08_ConstantErr (F : FnT) (p0 : Int) : Option (Int) :=
  bindO (F 31 (RSh.one CK.bool) [(PV.int IntKind.i64 p0), (PV.int IntKind.i64 (1 : Int)), (PV.int IntKind.i64 (1000000 : Int))]) fun (y0 : (Bool)) =>
  bif y0 then
    some (0 : Int)
  else some (2 : Int)
theorem tglidepathref08_ConstantErr_eq (F : FnT) (p0 : Int) : semF (callP F Eglidepathref08_ConstantErr 20) s17 (loopT []) 400 a17 [PV.int IntKind.i64 p0] (fun rv => decR (RSh.one (CK.int IntKind.i64)) rv.pv) = tglidepathref08_ConstantErr F p0 := by kernel_rfl
noncomputable abbrev Fglidepathref08_ConstantErr (args : List PV) := Fn env 17 (RSh.one (CK.int IntKind.i64)) args
theorem Fglidepathref08_ConstantErr_of  (p0 : Int) {res : (Int)} (h : tglidepathref08_ConstantErr (Fn env) p0 = some res) : Fglidepathref08_ConstantErr [PV.int IntKind.i64 p0] = some res :=
  fn_of Eglidepathref08_ConstantErr_ok rfl rfl lo_nil ((tglidepathref08_ConstantErr_eq _ _).trans h)

/-! ### glidepathref08_Rest -/

def Eglidepathref08_Rest : List Entry := []
theorem Eglidepathref08_Rest_ok : ∀ e ∈ Eglidepathref08_Rest, EntOK env e := ent_nil
def Tglidepathref08_Rest_0a (n0 : Nat) (c1 : List PV) (i2 : Int) (i3 : Int) (i4 : Int) : Q := ⟨(tm 20 [(0, (AV.p (PV.list n0 c1))), (1, (AV.p (PV.int IntKind.i64 i2))), (2, (AV.p (PV.int IntKind.i64 i3))), (7, (AV.p (PV.int IntKind.i64 i4)))]), (mm 20 [])⟩
def Xglidepathref08_Rest_0a (y : Int) : Ext × Q := (Ext.normal, ⟨(tm 20 [(1, (AV.p (PV.int IntKind.i64 y)))]), (mm 20 [])⟩)
def Iglidepathref08_Rest_0a (q : Ext × S) : Int := (pP_int1 (pA_p (avT q.2 1)))
abbrev Yglidepathref08_Rest_0 : Type := Int
def XLglidepathref08_Rest_0 : XL Yglidepathref08_Rest_0 := .one Xglidepathref08_Rest_0a
def Iglidepathref08_Rest_0 (q : Ext × S) : Yglidepathref08_Rest_0 := (Iglidepathref08_Rest_0a q)
theorem XIglidepathref08_Rest_0a (y : Int) : Iglidepathref08_Rest_0 (xe (Xglidepathref08_Rest_0a y)) = y := rfl
theorem XIglidepathref08_Rest_0 (y : Yglidepathref08_Rest_0) : Iglidepathref08_Rest_0 (xe (XLglidepathref08_Rest_0.fn y)) = y := XIglidepathref08_Rest_0a y
noncomputable abbrev Lglidepathref08_Rest_0 : Q → Option Yglidepathref08_Rest_0 := lpO env a38.body 0 XLglidepathref08_Rest_0
noncomputable abbrev Rglidepathref08_Rest_0 : Q → Option (Ext × S) := lpR env a38.body 0
theorem Lglidepathref08_Rest_0a_of {s : Q} {y : Int} (h : Rglidepathref08_Rest_0 s = exO (Xglidepathref08_Rest_0a y)) : Lglidepathref08_Rest_0 s = some y := lpO_of Iglidepathref08_Rest_0 XIglidepathref08_Rest_0 (y := y) h
theorem Uglidepathref08_Rest : uniq ((blocksOf a38.body).map (·.1)) = true := by kernel_rfl
def Bglidepathref08_Rest_0a (_F : FnT) (N : Q → Option (Ext × S)) (E : Ext × Q → Option (Ext × S)) (_L0 : Q → Option Yglidepathref08_Rest_0) (n0 : Nat) (c1 : List PV) (i2 : Int) (i3 : Int) (i4 : Int) : Option (Ext × S) :=
  bif (decide (i4 < i3)) then
    bif (decide (((0 : Int) ≤ i4) ∧ (i4 < (n0 : Int)))) then
      bindO (intC IntKind.i64 (c1[((Int.toNat i4) * 1)]?)) fun x0 =>
      N (Tglidepathref08_Rest_0a n0 c1 (w64 (i2 - x0)) i3 (w64 (i4 + (1 : Int))))
    else none
  else E (Xglidepathref08_Rest_0a i2)
theorem Bglidepathref08_Rest_0a_eq (F : FnT) (N : Q → Option (Ext × S)) (E : Ext × Q → Option (Ext × S)) (L0 : Q → Option Yglidepathref08_Rest_0) (n0 : Nat) (c1 : List PV) (i2 : Int) (i3 : Int) (i4 : Int) : semB (callP F Eglidepathref08_Rest 20) s38 (loopT [⟨0, Yglidepathref08_Rest_0, L0, XLglidepathref08_Rest_0⟩]) 400 (blkIn a38.body 0) N E (Tglidepathref08_Rest_0a n0 c1 i2 i3 i4) = Bglidepathref08_Rest_0a F N E L0 n0 c1 i2 i3 i4 := by kernel_rfl
theorem Rglidepathref08_Rest_0a_of  (n0 : Nat) (c1 : List PV) (i2 : Int) (i3 : Int) (i4 : Int) {r : Ext × S} (h : Bglidepathref08_Rest_0a (Fn env) Rglidepathref08_Rest_0 exO Lglidepathref08_Rest_0 n0 c1 i2 i3 i4 = some r) : Rglidepathref08_Rest_0 (Tglidepathref08_Rest_0a n0 c1 i2 i3 i4) = some r :=
  lp_of Eglidepathref08_Rest_ok (by kernel_rfl) (lo_cons (lpO_ok Uglidepathref08_Rest) lo_nil) (by kernel_rfl) ((Bglidepathref08_Rest_0a_eq _ _ _ _ _ _ _ _ _).trans h)
def tglidepathref08_Rest (_F : FnT) (L0 : Q → Option Yglidepathref08_Rest_0) (p0n : Nat) (p0c : List PV) (p1 : Int) (p2 : Int) : Option (Int) :=
  bindO (L0 (Tglidepathref08_Rest_0a p0n p0c p1 p2 (0 : Int))) fun y0 =>
  some y0
theorem tglidepathref08_Rest_eq (F : FnT) (L0 : Q → Option Yglidepathref08_Rest_0) (p0n : Nat) (p0c : List PV) (p1 : Int) (p2 : Int) : semF (callP F Eglidepathref08_Rest 20) s38 (loopT [⟨0, Yglidepathref08_Rest_0, L0, XLglidepathref08_Rest_0⟩]) 400 a38 [PV.list p0n p0c, PV.int IntKind.i64 p1, PV.int IntKind.i64 p2] (fun rv => decR (RSh.one (CK.int IntKind.i64)) rv.pv) = tglidepathref08_Rest F L0 p0n p0c p1 p2 := by kernel_rfl
noncomputable abbrev Fglidepathref08_Rest (args : List PV) := Fn env 38 (RSh.one (CK.int IntKind.i64)) args
theorem Fglidepathref08_Rest_of  (p0n : Nat) (p0c : List PV) (p1 : Int) (p2 : Int) {res : (Int)} (h : tglidepathref08_Rest (Fn env) Lglidepathref08_Rest_0 p0n p0c p1 p2 = some res) : Fglidepathref08_Rest [PV.list p0n p0c, PV.int IntKind.i64 p1, PV.int IntKind.i64 p2] = some res :=
  fn_of Eglidepathref08_Rest_ok rfl rfl (lo_cons (lpO_ok Uglidepathref08_Rest) lo_nil) ((tglidepathref08_Rest_eq _ _ _ _ _ _).trans h)

/-! ### glidepathref08_BreakErr -/

def Eglidepathref08_BreakErr : List Entry := [.out 38 (RSh.one (CK.int IntKind.i64))]
theorem Eglidepathref08_BreakErr_ok : ∀ e ∈ Eglidepathref08_BreakErr, EntOK env e := (ent_out ent_nil)
def Tglidepathref08_BreakErr_0a (n0 : Nat) (c1 : List PV) (i2 : Int) (i3 : Int) : Q := ⟨(tm 23 [(0, (AV.p (PV.list n0 c1))), (1, (AV.p (PV.int IntKind.i64 i2))), (5, (AV.p (PV.int IntKind.i64 i3)))]), (mm 23 [])⟩
def Xglidepathref08_BreakErr_0a (_y : Unit) : Ext × Q := (Ext.ret, ⟨(tm 23 [(4, (AV.p (PV.int IntKind.i64 (20 : Int))))]), (mm 23 [])⟩)
def Iglidepathref08_BreakErr_0a (_q : Ext × S) : Unit := ()
def Xglidepathref08_BreakErr_0b (y : Nat × List PV × Int) : Ext × Q := (Ext.normal, ⟨(tm 23 [(0, (AV.p (PV.list y.1 y.2.1))), (1, (AV.p (PV.int IntKind.i64 y.2.2)))]), (mm 23 [])⟩)
def Iglidepathref08_BreakErr_0b (q : Ext × S) : Nat × List PV × Int := ((pP_list0 (pA_p (avT q.2 0))), (pP_list1 (pA_p (avT q.2 0))), (pP_int1 (pA_p (avT q.2 1))))
abbrev Yglidepathref08_BreakErr_0 : Type := (Unit) ⊕ ((Nat × List PV × Int))
def XLglidepathref08_BreakErr_0 : XL Yglidepathref08_BreakErr_0 := .more Xglidepathref08_BreakErr_0a (.one Xglidepathref08_BreakErr_0b)
def Iglidepathref08_BreakErr_0 (q : Ext × S) : Yglidepathref08_BreakErr_0 := bif (cE q.1 == 2) then (Sum.inl (Iglidepathref08_BreakErr_0a q)) else (Sum.inr (Iglidepathref08_BreakErr_0b q))
theorem XIglidepathref08_BreakErr_0a (y : Unit) : Iglidepathref08_BreakErr_0 (xe (Xglidepathref08_BreakErr_0a y)) = (Sum.inl y) := rfl
theorem XIglidepathref08_BreakErr_0b (y : Nat × List PV × Int) : Iglidepathref08_BreakErr_0 (xe (Xglidepathref08_BreakErr_0b y)) = (Sum.inr y) := rfl
theorem XIglidepathref08_BreakErr_0 (y : Yglidepathref08_BreakErr_0) : Iglidepathref08_BreakErr_0 (xe (XLglidepathref08_BreakErr_0.fn y)) = y := (match y with | .inl y => XIglidepathref08_BreakErr_0a y | .inr y => XIglidepathref08_BreakErr_0b y)
noncomputable abbrev Lglidepathref08_BreakErr_0 : Q → Option Yglidepathref08_BreakErr_0 := lpO env a18.body 0 XLglidepathref08_BreakErr_0
noncomputable abbrev Rglidepathref08_BreakErr_0 : Q → Option (Ext × S) := lpR env a18.body 0
theorem Lglidepathref08_BreakErr_0a_of {s : Q} {y : Unit} (h : Rglidepathref08_BreakErr_0 s = exO (Xglidepathref08_BreakErr_0a y)) : Lglidepathref08_BreakErr_0 s = some (Sum.inl y) := lpO_of Iglidepathref08_BreakErr_0 XIglidepathref08_BreakErr_0 (y := (Sum.inl y)) h
theorem Lglidepathref08_BreakErr_0b_of {s : Q} {y : Nat × List PV × Int} (h : Rglidepathref08_BreakErr_0 s = exO (Xglidepathref08_BreakErr_0b y)) : Lglidepathref08_BreakErr_0 s = some (Sum.inr y) := lpO_of Iglidepathref08_BreakErr_0 XIglidepathref08_BreakErr_0 (y := (Sum.inr y)) h
theorem Uglidepathref08_BreakErr : uniq ((blocksOf a18.body).map (·.1)) = true := by kernel_rfl
def Bglidepathref08_BreakErr_0a (F : FnT) (N : Q → Option (Ext × S)) (E : Ext × Q → Option (Ext × S)) (_L0 : Q → Option Yglidepathref08_BreakErr_0) (n0 : Nat) (c1 : List PV) (i2 : Int) (i3 : Int) : Option (Ext × S) :=
  bif (decide (i3 < (n0 : Int))) then
    bindO (F 38 (RSh.one (CK.int IntKind.i64)) [(PV.list n0 c1), (PV.int IntKind.i64 i2), (PV.int IntKind.i64 i3)]) fun (y0 : (Int)) =>
    bif (decide (y0 ≤ (0 : Int))) then
      E (Xglidepathref08_BreakErr_0a ())
    else N (Tglidepathref08_BreakErr_0a n0 c1 i2 (w64 (i3 + (1 : Int))))
  else E (Xglidepathref08_BreakErr_0b (n0, c1, i2))
theorem Bglidepathref08_BreakErr_0a_eq (F : FnT) (N : Q → Option (Ext × S)) (E : Ext × Q → Option (Ext × S)) (L0 : Q → Option Yglidepathref08_BreakErr_0) (n0 : Nat) (c1 : List PV) (i2 : Int) (i3 : Int) : semB (callP F Eglidepathref08_BreakErr 20) s18 (loopT [⟨0, Yglidepathref08_BreakErr_0, L0, XLglidepathref08_BreakErr_0⟩]) 400 (blkIn a18.body 0) N E (Tglidepathref08_BreakErr_0a n0 c1 i2 i3) = Bglidepathref08_BreakErr_0a F N E L0 n0 c1 i2 i3 := by kernel_rfl
theorem Rglidepathref08_BreakErr_0a_of  (n0 : Nat) (c1 : List PV) (i2 : Int) (i3 : Int) {r : Ext × S} (h : Bglidepathref08_BreakErr_0a (Fn env) Rglidepathref08_BreakErr_0 exO Lglidepathref08_BreakErr_0 n0 c1 i2 i3 = some r) : Rglidepathref08_BreakErr_0 (Tglidepathref08_BreakErr_0a n0 c1 i2 i3) = some r :=
  lp_of Eglidepathref08_BreakErr_ok (by kernel_rfl) (lo_cons (lpO_ok Uglidepathref08_BreakErr) lo_nil) (by kernel_rfl) ((Bglidepathref08_BreakErr_0a_eq _ _ _ _ _ _ _ _).trans h)
def tglidepathref08_BreakErr (F : FnT) (L0 : Q → Option Yglidepathref08_BreakErr_0) (p0n : Nat) (p0c : List PV) (p1 : Int) : Option (Int) :=
  bindO (L0 (Tglidepathref08_BreakErr_0a p0n p0c p1 (0 : Int))) fun z =>
  Sum.elim (fun _y0 =>
    some (20 : Int)) (fun y1 =>
    bindO (F 38 (RSh.one (CK.int IntKind.i64)) [(PV.list y1.1 y1.2.1), (PV.int IntKind.i64 y1.2.2), (PV.int IntKind.i64 (y1.1 : Int))]) fun (y2 : (Int)) =>
    bif (decide (y2 < (0 : Int))) then
      some (20 : Int)
    else some (0 : Int)) z
theorem tglidepathref08_BreakErr_eq (F : FnT) (L0 : Q → Option Yglidepathref08_BreakErr_0) (p0n : Nat) (p0c : List PV) (p1 : Int) : semF (callP F Eglidepathref08_BreakErr 20) s18 (loopT [⟨0, Yglidepathref08_BreakErr_0, L0, XLglidepathref08_BreakErr_0⟩]) 400 a18 [PV.list p0n p0c, PV.int IntKind.i64 p1] (fun rv => decR (RSh.one (CK.int IntKind.i64)) rv.pv) = tglidepathref08_BreakErr F L0 p0n p0c p1 := by kernel_rfl
noncomputable abbrev Fglidepathref08_BreakErr (args : List PV) := Fn env 18 (RSh.one (CK.int IntKind.i64)) args
theorem Fglidepathref08_BreakErr_of  (p0n : Nat) (p0c : List PV) (p1 : Int) {res : (Int)} (h : tglidepathref08_BreakErr (Fn env) Lglidepathref08_BreakErr_0 p0n p0c p1 = some res) : Fglidepathref08_BreakErr [PV.list p0n p0c, PV.int IntKind.i64 p1] = some res :=
  fn_of Eglidepathref08_BreakErr_ok rfl rfl (lo_cons (lpO_ok Uglidepathref08_BreakErr) lo_nil) ((tglidepathref08_BreakErr_eq _ _ _ _ _).trans h)

/-! ### glidepathbase_Gcd -/

def Eglidepathbase_Gcd : List Entry := [.out 142 (RSh.one (CK.int IntKind.i64))]
theorem Eglidepathbase_Gcd_ok : ∀ e ∈ Eglidepathbase_Gcd, EntOK env e := (ent_out ent_nil)
def Tglidepathbase_Gcd_0a (i0 : Int) (i1 : Int) : Q := ⟨(tm 13 [(0, (AV.p (PV.int IntKind.i64 i0))), (1, (AV.p (PV.int IntKind.i64 i1)))]), (mm 13 [])⟩
def Xglidepathbase_Gcd_0a (y : Int) : Ext × Q := (Ext.normal, ⟨(tm 13 [(0, (AV.p (PV.int IntKind.i64 y)))]), (mm 13 [])⟩)
def Iglidepathbase_Gcd_0a (q : Ext × S) : Int := (pP_int1 (pA_p (avT q.2 0)))
abbrev Yglidepathbase_Gcd_0 : Type := Int
def XLglidepathbase_Gcd_0 : XL Yglidepathbase_Gcd_0 := .one Xglidepathbase_Gcd_0a
def Iglidepathbase_Gcd_0 (q : Ext × S) : Yglidepathbase_Gcd_0 := (Iglidepathbase_Gcd_0a q)
theorem XIglidepathbase_Gcd_0a (y : Int) : Iglidepathbase_Gcd_0 (xe (Xglidepathbase_Gcd_0a y)) = y := rfl
theorem XIglidepathbase_Gcd_0 (y : Yglidepathbase_Gcd_0) : Iglidepathbase_Gcd_0 (xe (XLglidepathbase_Gcd_0.fn y)) = y := XIglidepathbase_Gcd_0a y
noncomputable abbrev Lglidepathbase_Gcd_0 : Q → Option Yglidepathbase_Gcd_0 := lpO env a114.body 0 XLglidepathbase_Gcd_0
noncomputable abbrev Rglidepathbase_Gcd_0 : Q → Option (Ext × S) := lpR env a114.body 0
theorem Lglidepathbase_Gcd_0a_of {s : Q} {y : Int} (h : Rglidepathbase_Gcd_0 s = exO (Xglidepathbase_Gcd_0a y)) : Lglidepathbase_Gcd_0 s = some y := lpO_of Iglidepathbase_Gcd_0 XIglidepathbase_Gcd_0 (y := y) h
theorem Uglidepathbase_Gcd : uniq ((blocksOf a114.body).map (·.1)) = true := by kernel_rfl
def Bglidepathbase_Gcd_0a (_F : FnT) (N : Q → Option (Ext × S)) (E : Ext × Q → Option (Ext × S)) (_L0 : Q → Option Yglidepathbase_Gcd_0) (i0 : Int) (i1 : Int) : Option (Ext × S) :=
  bif (i1 != (0 : Int)) then
    bif (decide (i1 ≠ (0 : Int))) then
      N (Tglidepathbase_Gcd_0a i1 (Int.tmod i0 i1))
    else none
  else E (Xglidepathbase_Gcd_0a i0)
theorem Bglidepathbase_Gcd_0a_eq (F : FnT) (N : Q → Option (Ext × S)) (E : Ext × Q → Option (Ext × S)) (L0 : Q → Option Yglidepathbase_Gcd_0) (i0 : Int) (i1 : Int) : semB (callP F Eglidepathbase_Gcd 20) s114 (loopT [⟨0, Yglidepathbase_Gcd_0, L0, XLglidepathbase_Gcd_0⟩]) 400 (blkIn a114.body 0) N E (Tglidepathbase_Gcd_0a i0 i1) = Bglidepathbase_Gcd_0a F N E L0 i0 i1 := by kernel_rfl
theorem Rglidepathbase_Gcd_0a_of  (i0 : Int) (i1 : Int) {r : Ext × S} (h : Bglidepathbase_Gcd_0a (Fn env) Rglidepathbase_Gcd_0 exO Lglidepathbase_Gcd_0 i0 i1 = some r) : Rglidepathbase_Gcd_0 (Tglidepathbase_Gcd_0a i0 i1) = some r :=
  lp_of Eglidepathbase_Gcd_ok (by kernel_rfl) (lo_cons (lpO_ok Uglidepathbase_Gcd) lo_nil) (by kernel_rfl) ((Bglidepathbase_Gcd_0a_eq _ _ _ _ _ _).trans h)
def tglidepathbase_Gcd (F : FnT) (L0 : Q → Option Yglidepathbase_Gcd_0) (p0 : Int) (p1 : Int) : Option (Int) :=
  bindO (L0 (Tglidepathbase_Gcd_0a p0 p1)) fun y0 =>
  bindO (F 142 (RSh.one (CK.int IntKind.i64)) [(PV.int IntKind.i64 y0)]) fun (y1 : (Int)) =>
  some y1
theorem tglidepathbase_Gcd_eq (F : FnT) (L0 : Q → Option Yglidepathbase_Gcd_0) (p0 : Int) (p1 : Int) : semF (callP F Eglidepathbase_Gcd 20) s114 (loopT [⟨0, Yglidepathbase_Gcd_0, L0, XLglidepathbase_Gcd_0⟩]) 400 a114 [PV.int IntKind.i64 p0, PV.int IntKind.i64 p1] (fun rv => decR (RSh.one (CK.int IntKind.i64)) rv.pv) = tglidepathbase_Gcd F L0 p0 p1 := by kernel_rfl
noncomputable abbrev Fglidepathbase_Gcd (args : List PV) := Fn env 114 (RSh.one (CK.int IntKind.i64)) args
theorem Fglidepathbase_Gcd_of  (p0 : Int) (p1 : Int) {res : (Int)} (h : tglidepathbase_Gcd (Fn env) Lglidepathbase_Gcd_0 p0 p1 = some res) : Fglidepathbase_Gcd [PV.int IntKind.i64 p0, PV.int IntKind.i64 p1] = some res :=
  fn_of Eglidepathbase_Gcd_ok rfl rfl (lo_cons (lpO_ok Uglidepathbase_Gcd) lo_nil) ((tglidepathbase_Gcd_eq _ _ _ _).trans h)

/-! ### glidepathbase_Lowest -/

def Eglidepathbase_Lowest : List Entry := [.out 114 (RSh.one (CK.int IntKind.i64))]
theorem Eglidepathbase_Lowest_ok : ∀ e ∈ Eglidepathbase_Lowest, EntOK env e := (ent_out ent_nil)
theorem Uglidepathbase_Lowest : uniq ((blocksOf a70.body).map (·.1)) = true := by kernel_rfl
def tglidepathbase_Lowest (F : FnT) (p0 : Int) (p1 : Int) : Option ((Int) × (Int)) :=
  bindO (F 114 (RSh.one (CK.int IntKind.i64)) [(PV.int IntKind.i64 p0), (PV.int IntKind.i64 p1)]) fun (y0 : (Int)) =>
  bif (decide (p1 < (0 : Int))) then
    bif (decide ((w64 ((0 : Int) - y0)) ≠ (0 : Int))) then
      bif (decide ((w64 ((0 : Int) - y0)) ≠ (0 : Int))) then
        some ((w64 (Int.tdiv p0 (w64 ((0 : Int) - y0)))), (w64 (Int.tdiv p1 (w64 ((0 : Int) - y0)))))
      else none
    else none
  else bif (decide (y0 ≠ (0 : Int))) then
    bif (decide (y0 ≠ (0 : Int))) then
      some ((w64 (Int.tdiv p0 y0)), (w64 (Int.tdiv p1 y0)))
    else none
  else none
theorem tglidepathbase_Lowest_eq (F : FnT) (p0 : Int) (p1 : Int) : semF (callP F Eglidepathbase_Lowest 20) s70 (loopT []) 400 a70 [PV.int IntKind.i64 p0, PV.int IntKind.i64 p1] (fun rv => decR (RSh.agg [(CK.int IntKind.i64), (CK.int IntKind.i64)]) rv.pv) = tglidepathbase_Lowest F p0 p1 := by kernel_rfl
noncomputable abbrev Fglidepathbase_Lowest (args : List PV) := Fn env 70 (RSh.agg [(CK.int IntKind.i64), (CK.int IntKind.i64)]) args
theorem Fglidepathbase_Lowest_of  (p0 : Int) (p1 : Int) {res : ((Int) × (Int))} (h : tglidepathbase_Lowest (Fn env) p0 p1 = some res) : Fglidepathbase_Lowest [PV.int IntKind.i64 p0, PV.int IntKind.i64 p1] = some res :=
  fn_of Eglidepathbase_Lowest_ok rfl rfl lo_nil ((tglidepathbase_Lowest_eq _ _ _).trans h)

/-! ### glidepathref08_Shares -/

def Eglidepathref08_Shares : List Entry := [.out 38 (RSh.one (CK.int IntKind.i64)), .out 70 (RSh.agg [(CK.int IntKind.i64), (CK.int IntKind.i64)])]
theorem Eglidepathref08_Shares_ok : ∀ e ∈ Eglidepathref08_Shares, EntOK env e := (ent_out (ent_out ent_nil))
def Tglidepathref08_Shares_0a (n0 : Nat) (c1 : List PV) (i2 : Int) : Q := ⟨(tm 26 [(0, (AV.p (PV.list n0 c1))), (1, (AV.p (PV.int IntKind.i64 i2))), (5, AV.nilS), (6, (AV.p (PV.int IntKind.i64 (0 : Int))))]), (mm 26 [])⟩
def Tglidepathref08_Shares_0b (n0 : Nat) (c1 : List PV) (i2 : Int) (n3 : Nat) (c4 : List PV) (i5 : Int) (n6 : Nat) : Q := ⟨(tm 26 [(0, (AV.p (PV.list n0 c1))), (1, (AV.p (PV.int IntKind.i64 i2))), (5, (AV.app 24 n3 2 c4)), (6, (AV.p (PV.int IntKind.i64 i5)))]), (mm 26 [(24, (Bk.buf n6))])⟩
def Xglidepathref08_Shares_0a (_y : Unit) : Ext × Q := (Ext.normal, ⟨(tm 26 [(5, AV.nilS)]), (mm 26 [])⟩)
def Iglidepathref08_Shares_0a (_q : Ext × S) : Unit := ()
def Xglidepathref08_Shares_0b (y : Nat × List PV × Nat) : Ext × Q := (Ext.normal, ⟨(tm 26 [(5, (AV.app 24 y.1 2 y.2.1))]), (mm 26 [(24, (Bk.buf y.2.2))])⟩)
def Iglidepathref08_Shares_0b (q : Ext × S) : Nat × List PV × Nat := ((pA_app1 (avT q.2 5)), (pA_app3 (avT q.2 5)), (pB_buf0 (avM q.2 24)))
abbrev Yglidepathref08_Shares_0 : Type := (Unit) ⊕ ((Nat × List PV × Nat))
def XLglidepathref08_Shares_0 : XL Yglidepathref08_Shares_0 := .more Xglidepathref08_Shares_0a (.one Xglidepathref08_Shares_0b)
def Iglidepathref08_Shares_0 (q : Ext × S) : Yglidepathref08_Shares_0 := bif (cA (avT q.2 5) == 1) then (Sum.inl (Iglidepathref08_Shares_0a q)) else (Sum.inr (Iglidepathref08_Shares_0b q))
theorem XIglidepathref08_Shares_0a (y : Unit) : Iglidepathref08_Shares_0 (xe (Xglidepathref08_Shares_0a y)) = (Sum.inl y) := rfl
theorem XIglidepathref08_Shares_0b (y : Nat × List PV × Nat) : Iglidepathref08_Shares_0 (xe (Xglidepathref08_Shares_0b y)) = (Sum.inr y) := rfl
theorem XIglidepathref08_Shares_0 (y : Yglidepathref08_Shares_0) : Iglidepathref08_Shares_0 (xe (XLglidepathref08_Shares_0.fn y)) = y := (match y with | .inl y => XIglidepathref08_Shares_0a y | .inr y => XIglidepathref08_Shares_0b y)
noncomputable abbrev Lglidepathref08_Shares_0 : Q → Option Yglidepathref08_Shares_0 := lpO env a20.body 0 XLglidepathref08_Shares_0
noncomputable abbrev Rglidepathref08_Shares_0 : Q → Option (Ext × S) := lpR env a20.body 0
theorem Lglidepathref08_Shares_0a_of {s : Q} {y : Unit} (h : Rglidepathref08_Shares_0 s = exO (Xglidepathref08_Shares_0a y)) : Lglidepathref08_Shares_0 s = some (Sum.inl y) := lpO_of Iglidepathref08_Shares_0 XIglidepathref08_Shares_0 (y := (Sum.inl y)) h
theorem Lglidepathref08_Shares_0b_of {s : Q} {y : Nat × List PV × Nat} (h : Rglidepathref08_Shares_0 s = exO (Xglidepathref08_Shares_0b y)) : Lglidepathref08_Shares_0 s = some (Sum.inr y) := lpO_of Iglidepathref08_Shares_0 XIglidepathref08_Shares_0 (y := (Sum.inr y)) h
theorem Uglidepathref08_Shares : uniq ((blocksOf a20.body).map (·.1)) = true := by kernel_rfl
def Bglidepathref08_Shares_0a (F : FnT) (N : Q → Option (Ext × S)) (E : Ext × Q → Option (Ext × S)) (_L0 : Q → Option Yglidepathref08_Shares_0) (n0 : Nat) (c1 : List PV) (i2 : Int) : Option (Ext × S) :=
  bif (decide ((0 : Int) < (n0 : Int))) then
    bif (decide (((0 : Int) ≤ (0 : Int)) ∧ ((0 : Int) < (n0 : Int)))) then
      bindO (intC IntKind.i64 (c1[0]?)) fun x0 =>
      bindO (F 38 (RSh.one (CK.int IntKind.i64)) [(PV.list n0 c1), (PV.int IntKind.i64 i2), (PV.int IntKind.i64 (0 : Int))]) fun (y1 : (Int)) =>
      bindO (F 70 (RSh.agg [(CK.int IntKind.i64), (CK.int IntKind.i64)]) [(PV.int IntKind.i64 x0), (PV.int IntKind.i64 y1)]) fun (y2 : ((Int) × (Int))) =>
      N (Tglidepathref08_Shares_0b n0 c1 i2 1 [(PV.int IntKind.i64 y2.1), (PV.int IntKind.i64 y2.2)] (1 : Int) 1)
    else none
  else E (Xglidepathref08_Shares_0a ())
theorem Bglidepathref08_Shares_0a_eq (F : FnT) (N : Q → Option (Ext × S)) (E : Ext × Q → Option (Ext × S)) (L0 : Q → Option Yglidepathref08_Shares_0) (n0 : Nat) (c1 : List PV) (i2 : Int) : semB (callP F Eglidepathref08_Shares 20) s20 (loopT [⟨0, Yglidepathref08_Shares_0, L0, XLglidepathref08_Shares_0⟩]) 400 (blkIn a20.body 0) N E (Tglidepathref08_Shares_0a n0 c1 i2) = Bglidepathref08_Shares_0a F N E L0 n0 c1 i2 := by kernel_rfl
theorem Rglidepathref08_Shares_0a_of  (n0 : Nat) (c1 : List PV) (i2 : Int) {r : Ext × S} (h : Bglidepathref08_Shares_0a (Fn env) Rglidepathref08_Shares_0 exO Lglidepathref08_Shares_0 n0 c1 i2 = some r) : Rglidepathref08_Shares_0 (Tglidepathref08_Shares_0a n0 c1 i2) = some r :=
  lp_of Eglidepathref08_Shares_ok (by kernel_rfl) (lo_cons (lpO_ok Uglidepathref08_Shares) lo_nil) (by kernel_rfl) ((Bglidepathref08_Shares_0a_eq _ _ _ _ _ _ _).trans h)
def Bglidepathref08_Shares_0b (F : FnT) (N : Q → Option (Ext × S)) (E : Ext × Q → Option (Ext × S)) (_L0 : Q → Option Yglidepathref08_Shares_0) (n0 : Nat) (c1 : List PV) (i2 : Int) (n3 : Nat) (c4 : List PV) (i5 : Int) (n6 : Nat) : Option (Ext × S) :=
  bif (decide (i5 < (n0 : Int))) then
    bif (decide (((0 : Int) ≤ i5) ∧ (i5 < (n0 : Int)))) then
      bindO (intC IntKind.i64 (c1[((Int.toNat i5) * 1)]?)) fun x0 =>
      bindO (F 38 (RSh.one (CK.int IntKind.i64)) [(PV.list n0 c1), (PV.int IntKind.i64 i2), (PV.int IntKind.i64 i5)]) fun (y1 : (Int)) =>
      bindO (F 70 (RSh.agg [(CK.int IntKind.i64), (CK.int IntKind.i64)]) [(PV.int IntKind.i64 x0), (PV.int IntKind.i64 y1)]) fun (y2 : ((Int) × (Int))) =>
      bif (decide ((n6 = n3) ∧ ((n3 + 1) ≤ big))) then
        N (Tglidepathref08_Shares_0b n0 c1 i2 (n3 + 1) (c4 ++ [(PV.int IntKind.i64 y2.1), (PV.int IntKind.i64 y2.2)]) (w64 (i5 + (1 : Int))) (n3 + 1))
      else none
    else none
  else E (Xglidepathref08_Shares_0b (n3, c4, n6))
theorem Bglidepathref08_Shares_0b_eq (F : FnT) (N : Q → Option (Ext × S)) (E : Ext × Q → Option (Ext × S)) (L0 : Q → Option Yglidepathref08_Shares_0) (n0 : Nat) (c1 : List PV) (i2 : Int) (n3 : Nat) (c4 : List PV) (i5 : Int) (n6 : Nat) : semB (callP F Eglidepathref08_Shares 20) s20 (loopT [⟨0, Yglidepathref08_Shares_0, L0, XLglidepathref08_Shares_0⟩]) 400 (blkIn a20.body 0) N E (Tglidepathref08_Shares_0b n0 c1 i2 n3 c4 i5 n6) = Bglidepathref08_Shares_0b F N E L0 n0 c1 i2 n3 c4 i5 n6 := by kernel_rfl
theorem Rglidepathref08_Shares_0b_of  (n0 : Nat) (c1 : List PV) (i2 : Int) (n3 : Nat) (c4 : List PV) (i5 : Int) (n6 : Nat) {r : Ext × S} (h : Bglidepathref08_Shares_0b (Fn env) Rglidepathref08_Shares_0 exO Lglidepathref08_Shares_0 n0 c1 i2 n3 c4 i5 n6 = some r) : Rglidepathref08_Shares_0 (Tglidepathref08_Shares_0b n0 c1 i2 n3 c4 i5 n6) = some r :=
  lp_of Eglidepathref08_Shares_ok (by kernel_rfl) (lo_cons (lpO_ok Uglidepathref08_Shares) lo_nil) (by kernel_rfl) ((Bglidepathref08_Shares_0b_eq _ _ _ _ _ _ _ _ _ _ _).trans h)
def tglidepathref08_Shares (_F : FnT) (L0 : Q → Option Yglidepathref08_Shares_0) (p0n : Nat) (p0c : List PV) (p1 : Int) : Option ((Nat) × (List PV)) :=
  bindO (L0 (Tglidepathref08_Shares_0a p0n p0c p1)) fun z =>
  Sum.elim (fun _y0 =>
    some (0, [])) (fun y1 =>
    bif (decide (y1.2.2 = y1.1)) then
      some (y1.1, y1.2.1)
    else none) z
theorem tglidepathref08_Shares_eq (F : FnT) (L0 : Q → Option Yglidepathref08_Shares_0) (p0n : Nat) (p0c : List PV) (p1 : Int) : semF (callP F Eglidepathref08_Shares 20) s20 (loopT [⟨0, Yglidepathref08_Shares_0, L0, XLglidepathref08_Shares_0⟩]) 400 a20 [PV.list p0n p0c, PV.int IntKind.i64 p1] (fun rv => decR (RSh.one CK.list) rv.pv) = tglidepathref08_Shares F L0 p0n p0c p1 := by kernel_rfl
noncomputable abbrev Fglidepathref08_Shares (args : List PV) := Fn env 20 (RSh.one CK.list) args
theorem Fglidepathref08_Shares_of  (p0n : Nat) (p0c : List PV) (p1 : Int) {res : ((Nat) × (List PV))} (h : tglidepathref08_Shares (Fn env) Lglidepathref08_Shares_0 p0n p0c p1 = some res) : Fglidepathref08_Shares [PV.list p0n p0c, PV.int IntKind.i64 p1] = some res :=
  fn_of Eglidepathref08_Shares_ok rfl rfl (lo_cons (lpO_ok Uglidepathref08_Shares) lo_nil) ((tglidepathref08_Shares_eq _ _ _ _ _).trans h)

/-! ### glidepathbase_Fracs -/

def Eglidepathbase_Fracs : List Entry := []
theorem Eglidepathbase_Fracs_ok : ∀ e ∈ Eglidepathbase_Fracs, EntOK env e := ent_nil
def Tglidepathbase_Fracs_0a (n0 : Nat) (c1 : List PV) (n2 : Nat) (c3 : List PV) (i4 : Int) : Q := ⟨(tm 26 [(0, (AV.p (PV.list n0 c1))), (1, (AV.p (PV.list n2 c3))), (5, (AV.p (PV.int IntKind.i64 i4)))]), (mm 26 [])⟩
def Xglidepathbase_Fracs_0a (_y : Unit) : Ext × Q := (Ext.ret, ⟨(tm 26 [(4, (AV.p (PV.bool false)))]), (mm 26 [])⟩)
def Iglidepathbase_Fracs_0a (_q : Ext × S) : Unit := ()
def Xglidepathbase_Fracs_0b (_y : Unit) : Ext × Q := (Ext.normal, ⟨(tm 26 []), (mm 26 [])⟩)
def Iglidepathbase_Fracs_0b (_q : Ext × S) : Unit := ()
abbrev Yglidepathbase_Fracs_0 : Type := (Unit) ⊕ ((Unit))
def XLglidepathbase_Fracs_0 : XL Yglidepathbase_Fracs_0 := .more Xglidepathbase_Fracs_0a (.one Xglidepathbase_Fracs_0b)
def Iglidepathbase_Fracs_0 (q : Ext × S) : Yglidepathbase_Fracs_0 := bif (cE q.1 == 2) then (Sum.inl (Iglidepathbase_Fracs_0a q)) else (Sum.inr (Iglidepathbase_Fracs_0b q))
theorem XIglidepathbase_Fracs_0a (y : Unit) : Iglidepathbase_Fracs_0 (xe (Xglidepathbase_Fracs_0a y)) = (Sum.inl y) := rfl
theorem XIglidepathbase_Fracs_0b (y : Unit) : Iglidepathbase_Fracs_0 (xe (Xglidepathbase_Fracs_0b y)) = (Sum.inr y) := rfl
theorem XIglidepathbase_Fracs_0 (y : Yglidepathbase_Fracs_0) : Iglidepathbase_Fracs_0 (xe (XLglidepathbase_Fracs_0.fn y)) = y := (match y with | .inl y => XIglidepathbase_Fracs_0a y | .inr y => XIglidepathbase_Fracs_0b y)
noncomputable abbrev Lglidepathbase_Fracs_0 : Q → Option Yglidepathbase_Fracs_0 := lpO env a19.body 0 XLglidepathbase_Fracs_0
noncomputable abbrev Rglidepathbase_Fracs_0 : Q → Option (Ext × S) := lpR env a19.body 0
theorem Lglidepathbase_Fracs_0a_of {s : Q} {y : Unit} (h : Rglidepathbase_Fracs_0 s = exO (Xglidepathbase_Fracs_0a y)) : Lglidepathbase_Fracs_0 s = some (Sum.inl y) := lpO_of Iglidepathbase_Fracs_0 XIglidepathbase_Fracs_0 (y := (Sum.inl y)) h
theorem Lglidepathbase_Fracs_0b_of {s : Q} {y : Unit} (h : Rglidepathbase_Fracs_0 s = exO (Xglidepathbase_Fracs_0b y)) : Lglidepathbase_Fracs_0 s = some (Sum.inr y) := lpO_of Iglidepathbase_Fracs_0 XIglidepathbase_Fracs_0 (y := (Sum.inr y)) h
theorem Uglidepathbase_Fracs : uniq ((blocksOf a19.body).map (·.1)) = true := by kernel_rfl
def Bglidepathbase_Fracs_0a (_F : FnT) (N : Q → Option (Ext × S)) (E : Ext × Q → Option (Ext × S)) (_L0 : Q → Option Yglidepathbase_Fracs_0) (n0 : Nat) (c1 : List PV) (n2 : Nat) (c3 : List PV) (i4 : Int) : Option (Ext × S) :=
  bif (decide (i4 < (n0 : Int))) then
    bif (decide (((0 : Int) ≤ i4) ∧ (i4 < (n0 : Int)))) then
      bindO (intC IntKind.i64 (c1[((Int.toNat i4) * 2)]?)) fun x0 =>
      bindO (intC IntKind.i64 (c1[(((Int.toNat i4) * 2) + 1)]?)) fun x1 =>
      bif (decide (((0 : Int) ≤ i4) ∧ (i4 < (n2 : Int)))) then
        bindO (intC IntKind.i64 (c3[((Int.toNat i4) * 2)]?)) fun x2 =>
        bindO (intC IntKind.i64 (c3[(((Int.toNat i4) * 2) + 1)]?)) fun x3 =>
        bif (!((x0 == x2) && ((x1 == x3) && true))) then
          E (Xglidepathbase_Fracs_0a ())
        else N (Tglidepathbase_Fracs_0a n0 c1 n2 c3 (w64 (i4 + (1 : Int))))
      else none
    else none
  else E (Xglidepathbase_Fracs_0b ())
theorem Bglidepathbase_Fracs_0a_eq (F : FnT) (N : Q → Option (Ext × S)) (E : Ext × Q → Option (Ext × S)) (L0 : Q → Option Yglidepathbase_Fracs_0) (n0 : Nat) (c1 : List PV) (n2 : Nat) (c3 : List PV) (i4 : Int) : semB (callP F Eglidepathbase_Fracs 20) s19 (loopT [⟨0, Yglidepathbase_Fracs_0, L0, XLglidepathbase_Fracs_0⟩]) 400 (blkIn a19.body 0) N E (Tglidepathbase_Fracs_0a n0 c1 n2 c3 i4) = Bglidepathbase_Fracs_0a F N E L0 n0 c1 n2 c3 i4 := by kernel_rfl
theorem Rglidepathbase_Fracs_0a_of  (n0 : Nat) (c1 : List PV) (n2 : Nat) (c3 : List PV) (i4 : Int) {r : Ext × S} (h : Bglidepathbase_Fracs_0a (Fn env) Rglidepathbase_Fracs_0 exO Lglidepathbase_Fracs_0 n0 c1 n2 c3 i4 = some r) : Rglidepathbase_Fracs_0 (Tglidepathbase_Fracs_0a n0 c1 n2 c3 i4) = some r :=
  lp_of Eglidepathbase_Fracs_ok (by kernel_rfl) (lo_cons (lpO_ok Uglidepathbase_Fracs) lo_nil) (by kernel_rfl) ((Bglidepathbase_Fracs_0a_eq _ _ _ _ _ _ _ _ _).trans h)
def tglidepathbase_Fracs (_F : FnT) (L0 : Q → Option Yglidepathbase_Fracs_0) (p0n : Nat) (p0c : List PV) (p1n : Nat) (p1c : List PV) : Option (Bool) :=
  bif ((p0n : Int) != (p1n : Int)) then
    some false
  else bindO (L0 (Tglidepathbase_Fracs_0a p0n p0c p1n p1c (0 : Int))) fun z =>
  Sum.elim (fun _y0 =>
    some false) (fun _y1 =>
    some true) z
theorem tglidepathbase_Fracs_eq (F : FnT) (L0 : Q → Option Yglidepathbase_Fracs_0) (p0n : Nat) (p0c : List PV) (p1n : Nat) (p1c : List PV) : semF (callP F Eglidepathbase_Fracs 20) s19 (loopT [⟨0, Yglidepathbase_Fracs_0, L0, XLglidepathbase_Fracs_0⟩]) 400 a19 [PV.list p0n p0c, PV.list p1n p1c] (fun rv => decR (RSh.one CK.bool) rv.pv) = tglidepathbase_Fracs F L0 p0n p0c p1n p1c := by kernel_rfl
noncomputable abbrev Fglidepathbase_Fracs (args : List PV) := Fn env 19 (RSh.one CK.bool) args
theorem Fglidepathbase_Fracs_of  (p0n : Nat) (p0c : List PV) (p1n : Nat) (p1c : List PV) {res : (Bool)} (h : tglidepathbase_Fracs (Fn env) Lglidepathbase_Fracs_0 p0n p0c p1n p1c = some res) : Fglidepathbase_Fracs [PV.list p0n p0c, PV.list p1n p1c] = some res :=
  fn_of Eglidepathbase_Fracs_ok rfl rfl (lo_cons (lpO_ok Uglidepathbase_Fracs) lo_nil) ((tglidepathbase_Fracs_eq _ _ _ _ _ _).trans h)

/-! ### glidepathref08_CopyPoints -/

def Eglidepathref08_CopyPoints : List Entry := []
theorem Eglidepathref08_CopyPoints_ok : ∀ e ∈ Eglidepathref08_CopyPoints, EntOK env e := ent_nil
theorem Uglidepathref08_CopyPoints : uniq ((blocksOf a14.body).map (·.1)) = true := by kernel_rfl
def tglidepathref08_CopyPoints (_F : FnT) (p0n : Nat) (p0c : List PV) : Option ((Nat) × (List PV)) :=
  bif (decide (p0n = 0)) then
    some (0, [])
  else bif (decide ((List.length p0c) = (p0n * 2))) then
    bif (decide ((0 = 0) ∧ ((0 + p0n) ≤ big))) then
      bif (decide ((0 + p0n) = (0 + p0n))) then
        some ((0 + p0n), ([] ++ p0c))
      else none
    else none
  else none
theorem tglidepathref08_CopyPoints_eq (F : FnT) (p0n : Nat) (p0c : List PV) : semF (callP F Eglidepathref08_CopyPoints 20) s14 (loopT []) 400 a14 [PV.list p0n p0c] (fun rv => decR (RSh.one CK.list) rv.pv) = tglidepathref08_CopyPoints F p0n p0c := by kernel_rfl
noncomputable abbrev Fglidepathref08_CopyPoints (args : List PV) := Fn env 14 (RSh.one CK.list) args
theorem Fglidepathref08_CopyPoints_of  (p0n : Nat) (p0c : List PV) {res : ((Nat) × (List PV))} (h : tglidepathref08_CopyPoints (Fn env) p0n p0c = some res) : Fglidepathref08_CopyPoints [PV.list p0n p0c] = some res :=
  fn_of Eglidepathref08_CopyPoints_ok rfl rfl lo_nil ((tglidepathref08_CopyPoints_eq _ _ _).trans h)

/-! ### glidepathref08_PointsErr -/

def Eglidepathref08_PointsErr : List Entry := [.out 31 (RSh.one CK.bool)]
theorem Eglidepathref08_PointsErr_ok : ∀ e ∈ Eglidepathref08_PointsErr, EntOK env e := (ent_out ent_nil)
def Tglidepathref08_PointsErr_0a (n0 : Nat) (c1 : List PV) (i2 : Int) : Q := ⟨(tm 32 [(0, (AV.p (PV.list n0 c1))), (3, (AV.p (PV.int IntKind.i64 i2)))]), (mm 32 [])⟩
def Xglidepathref08_PointsErr_0a (_y : Unit) : Ext × Q := (Ext.ret, ⟨(tm 32 [(2, (AV.p (PV.int IntKind.i64 (2 : Int))))]), (mm 32 [])⟩)
def Iglidepathref08_PointsErr_0a (_q : Ext × S) : Unit := ()
def Xglidepathref08_PointsErr_0b (_y : Unit) : Ext × Q := (Ext.normal, ⟨(tm 32 []), (mm 32 [])⟩)
def Iglidepathref08_PointsErr_0b (_q : Ext × S) : Unit := ()
abbrev Yglidepathref08_PointsErr_0 : Type := (Unit) ⊕ ((Unit))
def XLglidepathref08_PointsErr_0 : XL Yglidepathref08_PointsErr_0 := .more Xglidepathref08_PointsErr_0a (.one Xglidepathref08_PointsErr_0b)
def Iglidepathref08_PointsErr_0 (q : Ext × S) : Yglidepathref08_PointsErr_0 := bif (cE q.1 == 2) then (Sum.inl (Iglidepathref08_PointsErr_0a q)) else (Sum.inr (Iglidepathref08_PointsErr_0b q))
theorem XIglidepathref08_PointsErr_0a (y : Unit) : Iglidepathref08_PointsErr_0 (xe (Xglidepathref08_PointsErr_0a y)) = (Sum.inl y) := rfl
theorem XIglidepathref08_PointsErr_0b (y : Unit) : Iglidepathref08_PointsErr_0 (xe (Xglidepathref08_PointsErr_0b y)) = (Sum.inr y) := rfl
theorem XIglidepathref08_PointsErr_0 (y : Yglidepathref08_PointsErr_0) : Iglidepathref08_PointsErr_0 (xe (XLglidepathref08_PointsErr_0.fn y)) = y := (match y with | .inl y => XIglidepathref08_PointsErr_0a y | .inr y => XIglidepathref08_PointsErr_0b y)
noncomputable abbrev Lglidepathref08_PointsErr_0 : Q → Option Yglidepathref08_PointsErr_0 := lpO env a21.body 0 XLglidepathref08_PointsErr_0
noncomputable abbrev Rglidepathref08_PointsErr_0 : Q → Option (Ext × S) := lpR env a21.body 0
theorem Lglidepathref08_PointsErr_0a_of {s : Q} {y : Unit} (h : Rglidepathref08_PointsErr_0 s = exO (Xglidepathref08_PointsErr_0a y)) : Lglidepathref08_PointsErr_0 s = some (Sum.inl y) := lpO_of Iglidepathref08_PointsErr_0 XIglidepathref08_PointsErr_0 (y := (Sum.inl y)) h
theorem Lglidepathref08_PointsErr_0b_of {s : Q} {y : Unit} (h : Rglidepathref08_PointsErr_0 s = exO (Xglidepathref08_PointsErr_0b y)) : Lglidepathref08_PointsErr_0 s = some (Sum.inr y) := lpO_of Iglidepathref08_PointsErr_0 XIglidepathref08_PointsErr_0 (y := (Sum.inr y)) h
theorem Uglidepathref08_PointsErr : uniq ((blocksOf a21.body).map (·.1)) = true := by kernel_rfl
def Bglidepathref08_PointsErr_0a (F : FnT) (N : Q → Option (Ext × S)) (E : Ext × Q → Option (Ext × S)) (_L0 : Q → Option Yglidepathref08_PointsErr_0) (n0 : Nat) (c1 : List PV) (i2 : Int) : Option (Ext × S) :=
  bif (decide (i2 < (n0 : Int))) then
    bif (decide (((0 : Int) ≤ i2) ∧ (i2 < (n0 : Int)))) then
      bindO (intC IntKind.i64 (c1[(((Int.toNat i2) * 2) + 0)]?)) fun x0 =>
      bindO (F 31 (RSh.one CK.bool) [(PV.int IntKind.i64 x0), (PV.int IntKind.i64 (1 : Int)), (PV.int IntKind.i64 (1000000 : Int))]) fun (y1 : (Bool)) =>
      bif y1 then
        bif (decide (((0 : Int) ≤ i2) ∧ (i2 < (n0 : Int)))) then
          bindO (intC IntKind.i64 (c1[(((Int.toNat i2) * 2) + 1)]?)) fun x2 =>
          bindO (F 31 (RSh.one CK.bool) [(PV.int IntKind.i64 x2), (PV.int IntKind.i64 (0 : Int)), (PV.int IntKind.i64 (1000000 : Int))]) fun (y3 : (Bool)) =>
          bif y3 then
            N (Tglidepathref08_PointsErr_0a n0 c1 (w64 (i2 + (1 : Int))))
          else E (Xglidepathref08_PointsErr_0a ())
        else none
      else E (Xglidepathref08_PointsErr_0a ())
    else none
  else E (Xglidepathref08_PointsErr_0b ())
theorem Bglidepathref08_PointsErr_0a_eq (F : FnT) (N : Q → Option (Ext × S)) (E : Ext × Q → Option (Ext × S)) (L0 : Q → Option Yglidepathref08_PointsErr_0) (n0 : Nat) (c1 : List PV) (i2 : Int) : semB (callP F Eglidepathref08_PointsErr 20) s21 (loopT [⟨0, Yglidepathref08_PointsErr_0, L0, XLglidepathref08_PointsErr_0⟩]) 400 (blkIn a21.body 0) N E (Tglidepathref08_PointsErr_0a n0 c1 i2) = Bglidepathref08_PointsErr_0a F N E L0 n0 c1 i2 := by kernel_rfl
theorem Rglidepathref08_PointsErr_0a_of  (n0 : Nat) (c1 : List PV) (i2 : Int) {r : Ext × S} (h : Bglidepathref08_PointsErr_0a (Fn env) Rglidepathref08_PointsErr_0 exO Lglidepathref08_PointsErr_0 n0 c1 i2 = some r) : Rglidepathref08_PointsErr_0 (Tglidepathref08_PointsErr_0a n0 c1 i2) = some r :=
  lp_of Eglidepathref08_PointsErr_ok (by kernel_rfl) (lo_cons (lpO_ok Uglidepathref08_PointsErr) lo_nil) (by kernel_rfl) ((Bglidepathref08_PointsErr_0a_eq _ _ _ _ _ _ _).trans h)
def tglidepathref08_PointsErr (_F : FnT) (L0 : Q → Option Yglidepathref08_PointsErr_0) (p0n : Nat) (p0c : List PV) : Option (Int) :=
  bif ((p0n : Int) == (0 : Int)) then
    some (10 : Int)
  else bif (decide ((p0n : Int) > (12 : Int))) then
    some (8 : Int)
  else bindO (L0 (Tglidepathref08_PointsErr_0a p0n p0c (0 : Int))) fun z =>
  Sum.elim (fun _y0 =>
    some (2 : Int)) (fun _y1 =>
    some (0 : Int)) z
theorem tglidepathref08_PointsErr_eq (F : FnT) (L0 : Q → Option Yglidepathref08_PointsErr_0) (p0n : Nat) (p0c : List PV) : semF (callP F Eglidepathref08_PointsErr 20) s21 (loopT [⟨0, Yglidepathref08_PointsErr_0, L0, XLglidepathref08_PointsErr_0⟩]) 400 a21 [PV.list p0n p0c] (fun rv => decR (RSh.one (CK.int IntKind.i64)) rv.pv) = tglidepathref08_PointsErr F L0 p0n p0c := by kernel_rfl
noncomputable abbrev Fglidepathref08_PointsErr (args : List PV) := Fn env 21 (RSh.one (CK.int IntKind.i64)) args
theorem Fglidepathref08_PointsErr_of  (p0n : Nat) (p0c : List PV) {res : (Int)} (h : tglidepathref08_PointsErr (Fn env) Lglidepathref08_PointsErr_0 p0n p0c = some res) : Fglidepathref08_PointsErr [PV.list p0n p0c] = some res :=
  fn_of Eglidepathref08_PointsErr_ok rfl rfl (lo_cons (lpO_ok Uglidepathref08_PointsErr) lo_nil) ((tglidepathref08_PointsErr_eq _ _ _ _).trans h)

/-! ### glidepathref08_Constants -/

def Eglidepathref08_Constants : List Entry := []
theorem Eglidepathref08_Constants_ok : ∀ e ∈ Eglidepathref08_Constants, EntOK env e := ent_nil
def Tglidepathref08_Constants_0a (n0 : Nat) (c1 : List PV) (i2 : Int) (i3 : Int) (i4 : Int) : Q := ⟨(tm 67 [(0, (AV.p (PV.list n0 c1))), (2, (AV.loc 2 0)), (4, (AV.loc 4 0)), (5, (AV.p (PV.int IntKind.i64 i2)))]), (mm 67 [(2, (Bk.pcs true [(PV.int IntKind.i64 (0 : Int)), (PV.int IntKind.i64 (0 : Int))])), (4, (Bk.pcs true [(PV.int IntKind.i64 i3), (PV.int IntKind.i64 i4)]))])⟩
def Xglidepathref08_Constants_0a (y : Int × Int) : Ext × Q := (Ext.normal, ⟨(tm 67 [(2, (AV.loc 2 0)), (4, (AV.loc 4 0))]), (mm 67 [(2, (Bk.pcs true [(PV.int IntKind.i64 (0 : Int)), (PV.int IntKind.i64 (0 : Int))])), (4, (Bk.pcs true [(PV.int IntKind.i64 y.1), (PV.int IntKind.i64 y.2)]))])⟩)
def Iglidepathref08_Constants_0a (q : Ext × S) : Int × Int := ((pP_int1 (hdP (pB_pcs1 (avM q.2 4)))), (pP_int1 (hdP (List.tail (pB_pcs1 (avM q.2 4))))))
abbrev Yglidepathref08_Constants_0 : Type := Int × Int
def XLglidepathref08_Constants_0 : XL Yglidepathref08_Constants_0 := .one Xglidepathref08_Constants_0a
def Iglidepathref08_Constants_0 (q : Ext × S) : Yglidepathref08_Constants_0 := (Iglidepathref08_Constants_0a q)
theorem XIglidepathref08_Constants_0a (y : Int × Int) : Iglidepathref08_Constants_0 (xe (Xglidepathref08_Constants_0a y)) = y := rfl
theorem XIglidepathref08_Constants_0 (y : Yglidepathref08_Constants_0) : Iglidepathref08_Constants_0 (xe (XLglidepathref08_Constants_0.fn y)) = y := XIglidepathref08_Constants_0a y
noncomputable abbrev Lglidepathref08_Constants_0 : Q → Option Yglidepathref08_Constants_0 := lpO env a22.body 0 XLglidepathref08_Constants_0
noncomputable abbrev Rglidepathref08_Constants_0 : Q → Option (Ext × S) := lpR env a22.body 0
theorem Lglidepathref08_Constants_0a_of {s : Q} {y : Int × Int} (h : Rglidepathref08_Constants_0 s = exO (Xglidepathref08_Constants_0a y)) : Lglidepathref08_Constants_0 s = some y := lpO_of Iglidepathref08_Constants_0 XIglidepathref08_Constants_0 (y := y) h
theorem Uglidepathref08_Constants : uniq ((blocksOf a22.body).map (·.1)) = true := by kernel_rfl
def Bglidepathref08_Constants_0a (_F : FnT) (N : Q → Option (Ext × S)) (E : Ext × Q → Option (Ext × S)) (_L0 : Q → Option Yglidepathref08_Constants_0) (n0 : Nat) (c1 : List PV) (i2 : Int) (i3 : Int) (i4 : Int) : Option (Ext × S) :=
  bif (decide (i2 < (n0 : Int))) then
    bif (decide (((0 : Int) ≤ i2) ∧ (i2 < (n0 : Int)))) then
      bindO (intC IntKind.i64 (c1[(((Int.toNat i2) * 2) + 0)]?)) fun x0 =>
      bif (decide (((0 : Int) ≤ i2) ∧ (i2 < (n0 : Int)))) then
        bindO (intC IntKind.i64 (c1[(((Int.toNat i2) * 2) + 1)]?)) fun x1 =>
        bif (decide (((0 : Int) ≤ i2) ∧ (i2 < (n0 : Int)))) then
          bindO (intC IntKind.i64 (c1[(((Int.toNat i2) * 2) + 0)]?)) fun x2 =>
          bif (decide (((0 : Int) ≤ i2) ∧ (i2 < (n0 : Int)))) then
            bindO (intC IntKind.i64 (c1[(((Int.toNat i2) * 2) + 1)]?)) fun x3 =>
            N (Tglidepathref08_Constants_0a n0 c1 (w64 (i2 + (1 : Int))) (if ((w64 (x0 - x1)) > i3) then (w64 (x0 - x1)) else i3) (if ((w64 (x2 + x3)) < i4) then (w64 (x2 + x3)) else i4))
          else none
        else none
      else none
    else none
  else E (Xglidepathref08_Constants_0a (i3, i4))
theorem Bglidepathref08_Constants_0a_eq (F : FnT) (N : Q → Option (Ext × S)) (E : Ext × Q → Option (Ext × S)) (L0 : Q → Option Yglidepathref08_Constants_0) (n0 : Nat) (c1 : List PV) (i2 : Int) (i3 : Int) (i4 : Int) : semB (callP F Eglidepathref08_Constants 20) s22 (loopT [⟨0, Yglidepathref08_Constants_0, L0, XLglidepathref08_Constants_0⟩]) 400 (blkIn a22.body 0) N E (Tglidepathref08_Constants_0a n0 c1 i2 i3 i4) = Bglidepathref08_Constants_0a F N E L0 n0 c1 i2 i3 i4 := by kernel_rfl
theorem Rglidepathref08_Constants_0a_of  (n0 : Nat) (c1 : List PV) (i2 : Int) (i3 : Int) (i4 : Int) {r : Ext × S} (h : Bglidepathref08_Constants_0a (Fn env) Rglidepathref08_Constants_0 exO Lglidepathref08_Constants_0 n0 c1 i2 i3 i4 = some r) : Rglidepathref08_Constants_0 (Tglidepathref08_Constants_0a n0 c1 i2 i3 i4) = some r :=
  lp_of Eglidepathref08_Constants_ok (by kernel_rfl) (lo_cons (lpO_ok Uglidepathref08_Constants) lo_nil) (by kernel_rfl) ((Bglidepathref08_Constants_0a_eq _ _ _ _ _ _ _ _ _).trans h)
def tglidepathref08_Constants (_F : FnT) (L0 : Q → Option Yglidepathref08_Constants_0) (p0n : Nat) (p0c : List PV) : Option ((Int) × ((Int) × (Bool))) :=
  bif (decide (((0 : Int) ≤ (0 : Int)) ∧ ((0 : Int) < (p0n : Int)))) then
    bindO (intC IntKind.i64 (p0c[0]?)) fun x0 =>
    bif (decide (((0 : Int) ≤ (0 : Int)) ∧ ((0 : Int) < (p0n : Int)))) then
      bindO (intC IntKind.i64 (p0c[1]?)) fun x1 =>
      bif (decide (((0 : Int) ≤ (0 : Int)) ∧ ((0 : Int) < (p0n : Int)))) then
        bindO (intC IntKind.i64 (p0c[0]?)) fun x2 =>
        bif (decide (((0 : Int) ≤ (0 : Int)) ∧ ((0 : Int) < (p0n : Int)))) then
          bindO (intC IntKind.i64 (p0c[1]?)) fun x3 =>
          bindO (L0 (Tglidepathref08_Constants_0a p0n p0c (1 : Int) (w64 (x0 - x1)) (w64 (x2 + x3)))) fun y4 =>
          bif (decide (y4.1 > y4.2)) then
            some ((0 : Int), ((0 : Int), false))
          else some (y4.1, (y4.2, true))
        else none
      else none
    else none
  else none
theorem tglidepathref08_Constants_eq (F : FnT) (L0 : Q → Option Yglidepathref08_Constants_0) (p0n : Nat) (p0c : List PV) : semF (callP F Eglidepathref08_Constants 20) s22 (loopT [⟨0, Yglidepathref08_Constants_0, L0, XLglidepathref08_Constants_0⟩]) 400 a22 [PV.list p0n p0c] (fun rv => decR (RSh.tup [(Prod.mk true [(CK.int IntKind.i64), (CK.int IntKind.i64)]), (Prod.mk false [CK.bool])]) rv.pv) = tglidepathref08_Constants F L0 p0n p0c := by kernel_rfl
noncomputable abbrev Fglidepathref08_Constants (args : List PV) := Fn env 22 (RSh.tup [(Prod.mk true [(CK.int IntKind.i64), (CK.int IntKind.i64)]), (Prod.mk false [CK.bool])]) args
theorem Fglidepathref08_Constants_of  (p0n : Nat) (p0c : List PV) {res : ((Int) × ((Int) × (Bool)))} (h : tglidepathref08_Constants (Fn env) Lglidepathref08_Constants_0 p0n p0c = some res) : Fglidepathref08_Constants [PV.list p0n p0c] = some res :=
  fn_of Eglidepathref08_Constants_ok rfl rfl (lo_cons (lpO_ok Uglidepathref08_Constants) lo_nil) ((tglidepathref08_Constants_eq _ _ _ _).trans h)

end Gv
