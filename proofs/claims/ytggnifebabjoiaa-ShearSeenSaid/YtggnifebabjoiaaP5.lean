/- What the functions do, round by round: P5. -/
import Derived.Test.YtggnifebabjoiaaGvEnv
namespace Gv
open Go
set_option maxRecDepth 100000
def EbWi : List Entry := []
theorem EbWi_ok : ∀ e ∈ EbWi, EntOK env e := ent_nil
def tbWi (_F : FnT) (p0 : Int) (p1 : Int) (p2 : Int) : Option (Bool) :=
  bif (decide (p1 ≤ p0)) then
    bif (decide (p0 ≤ p2)) then
      some true
    else some false
  else some false
theorem tbWi_eq (F : FnT) (p0 : Int) (p1 : Int) (p2 : Int) : semF (callP F EbWi 20) s29 (loopT []) 400 a29 [PV.int .i64 p0, PV.int .i64 p1, PV.int .i64 p2] (fun rv => decR (RSh.one CK.bool) rv.pv) = tbWi F p0 p1 p2 := by kernel_rfl
noncomputable abbrev FbWi (args : List PV) := Fn env 29 (RSh.one CK.bool) args
theorem FbWi_of  (p0 : Int) (p1 : Int) (p2 : Int) {res : (Bool)} (h : tbWi (Fn env) p0 p1 p2 = some res) : FbWi [PV.int .i64 p0, PV.int .i64 p1, PV.int .i64 p2] = some res :=
  fn_of EbWi_ok rfl rfl lo_nil ((tbWi_eq _ _ _ _).trans h)
def EbRgs : List Entry := []
theorem EbRgs_ok : ∀ e ∈ EbRgs, EntOK env e := ent_nil
def TbRgs_0a (n0 : Nat) (c1 : List PV) (n2 : Nat) (c3 : List PV) (i4 : Int) : Q := ⟨(tm 26 [(0, (AV.p (PV.list n0 c1))), (1, (AV.p (PV.list n2 c3))), (5, (AV.p (PV.int .i64 i4)))]), (mm 26 [])⟩
def XbRgs_0a (_y : Unit) : Ext × Q := (Ext.ret, ⟨(tm 26 [(4, (AV.p (PV.bool false)))]), (mm 26 [])⟩)
def IbRgs_0a (_q : Ext × S) : Unit := ()
def XbRgs_0b (_y : Unit) : Ext × Q := (Ext.normal, ⟨(tm 26 []), (mm 26 [])⟩)
def IbRgs_0b (_q : Ext × S) : Unit := ()
abbrev YbRgs_0 : Type := (Unit) ⊕ ((Unit))
def XLbRgs_0 : XL YbRgs_0 := .more XbRgs_0a (.one XbRgs_0b)
def IbRgs_0 (q : Ext × S) : YbRgs_0 := bif (cE q.1 == 2) then (Sum.inl (IbRgs_0a q)) else (Sum.inr (IbRgs_0b q))
theorem XIbRgs_0a (y : Unit) : IbRgs_0 (xe (XbRgs_0a y)) = (Sum.inl y) := rfl
theorem XIbRgs_0b (y : Unit) : IbRgs_0 (xe (XbRgs_0b y)) = (Sum.inr y) := rfl
theorem XIbRgs_0 (y : YbRgs_0) : IbRgs_0 (xe (XLbRgs_0.fn y)) = y := (match y with | .inl y => XIbRgs_0a y | .inr y => XIbRgs_0b y)
noncomputable abbrev LbRgs_0 : Q → Option YbRgs_0 := lpO env a32.body 0 XLbRgs_0
noncomputable abbrev RbRgs_0 : Q → Option (Ext × S) := lpR env a32.body 0
theorem UbRgs : uniq ((blocksOf a32.body).map (·.1)) = true := by kernel_rfl
def BbRgs_0a (_F : FnT) (N : QO) (E : EO) (_L0 : Q → Option YbRgs_0) (n0 : Nat) (c1 : List PV) (n2 : Nat) (c3 : List PV) (i4 : Int) : Option (Ext × S) :=
  bif (decide (i4 < (n0 : Int))) then
    bif (decide (((0 : Int) ≤ i4) ∧ (i4 < (n0 : Int)))) then
      bindO (intC .i64 (c1[((Int.toNat i4) * 2)]?)) fun x0 =>
      bindO (intC .i64 (c1[(((Int.toNat i4) * 2) + 1)]?)) fun x1 =>
      bif (decide (((0 : Int) ≤ i4) ∧ (i4 < (n2 : Int)))) then
        bindO (intC .i64 (c3[((Int.toNat i4) * 2)]?)) fun x2 =>
        bindO (intC .i64 (c3[(((Int.toNat i4) * 2) + 1)]?)) fun x3 =>
        bif (!((x0 == x2) && ((x1 == x3) && true))) then
          E (XbRgs_0a ())
        else N (TbRgs_0a n0 c1 n2 c3 (w64 (i4 + (1 : Int))))
      else none
    else none
  else E (XbRgs_0b ())
theorem BbRgs_0a_eq (F : FnT) (N : QO) (E : EO) (L0 : Q → Option YbRgs_0) (n0 : Nat) (c1 : List PV) (n2 : Nat) (c3 : List PV) (i4 : Int) : semB (callP F EbRgs 20) s32 (loopT [⟨0, YbRgs_0, L0, XLbRgs_0⟩]) 400 (blkIn a32.body 0) N E (TbRgs_0a n0 c1 n2 c3 i4) = BbRgs_0a F N E L0 n0 c1 n2 c3 i4 := by kernel_rfl
theorem RbRgs_0a_of  (n0 : Nat) (c1 : List PV) (n2 : Nat) (c3 : List PV) (i4 : Int) {r : Ext × S} (h : BbRgs_0a (Fn env) RbRgs_0 exO LbRgs_0 n0 c1 n2 c3 i4 = some r) : RbRgs_0 (TbRgs_0a n0 c1 n2 c3 i4) = some r :=
  lp_of EbRgs_ok (by kernel_rfl) (lo_cons (lpO_ok UbRgs) lo_nil) (by kernel_rfl) ((BbRgs_0a_eq _ _ _ _ _ _ _ _ _).trans h)
def tbRgs (_F : FnT) (L0 : Q → Option YbRgs_0) (p0n : Nat) (p0c : List PV) (p1n : Nat) (p1c : List PV) : Option (Bool) :=
  bif ((p0n : Int) != (p1n : Int)) then
    some false
  else bindO (L0 (TbRgs_0a p0n p0c p1n p1c (0 : Int))) fun z =>
  Sum.elim (fun _y0 =>
    some false) (fun _y1 =>
    some true) z
theorem tbRgs_eq (F : FnT) (L0 : Q → Option YbRgs_0) (p0n : Nat) (p0c : List PV) (p1n : Nat) (p1c : List PV) : semF (callP F EbRgs 20) s32 (loopT [⟨0, YbRgs_0, L0, XLbRgs_0⟩]) 400 a32 [PV.list p0n p0c, PV.list p1n p1c] (fun rv => decR (RSh.one CK.bool) rv.pv) = tbRgs F L0 p0n p0c p1n p1c := by kernel_rfl
noncomputable abbrev FbRgs (args : List PV) := Fn env 32 (RSh.one CK.bool) args
theorem FbRgs_of  (p0n : Nat) (p0c : List PV) (p1n : Nat) (p1c : List PV) {res : (Bool)} (h : tbRgs (Fn env) LbRgs_0 p0n p0c p1n p1c = some res) : FbRgs [PV.list p0n p0c, PV.list p1n p1c] = some res :=
  fn_of EbRgs_ok rfl rfl (lo_cons (lpO_ok UbRgs) lo_nil) ((tbRgs_eq _ _ _ _ _ _).trans h)
def EbFloor : List Entry := []
theorem EbFloor_ok : ∀ e ∈ EbFloor, EntOK env e := ent_nil
def tbFloor (_F : FnT) (p0 : Int) (p1 : Int) : Option (Int) :=
  bif (decide (p1 ≠ (0 : Int))) then
    bif (decide (p1 ≠ (0 : Int))) then
      bif (decide ((Int.tmod p0 p1) < (0 : Int))) then
        some (w64 ((w64 (Int.tdiv p0 p1)) - (1 : Int)))
      else some (w64 (Int.tdiv p0 p1))
    else none
  else none
theorem tbFloor_eq (F : FnT) (p0 : Int) (p1 : Int) : semF (callP F EbFloor 20) s81 (loopT []) 400 a81 [PV.int .i64 p0, PV.int .i64 p1] (fun rv => decR (RSh.one (CK.int .i64)) rv.pv) = tbFloor F p0 p1 := by kernel_rfl
noncomputable abbrev FbFloor (args : List PV) := Fn env 81 (RSh.one (CK.int .i64)) args
theorem FbFloor_of  (p0 : Int) (p1 : Int) {res : (Int)} (h : tbFloor (Fn env) p0 p1 = some res) : FbFloor [PV.int .i64 p0, PV.int .i64 p1] = some res :=
  fn_of EbFloor_ok rfl rfl lo_nil ((tbFloor_eq _ _ _).trans h)
def EbCeil : List Entry := [.out 81 (RSh.one (CK.int .i64))]
theorem EbCeil_ok : ∀ e ∈ EbCeil, EntOK env e := (ent_out ent_nil)
def tbCeil (F : FnT) (p0 : Int) (p1 : Int) : Option (Int) :=
  bindO (F 81 (RSh.one (CK.int .i64)) [(PV.int .i64 (w64 ((0 : Int) - p0))), (PV.int .i64 p1)]) fun (y0 : (Int)) =>
  some (w64 ((0 : Int) - y0))
theorem tbCeil_eq (F : FnT) (p0 : Int) (p1 : Int) : semF (callP F EbCeil 20) s82 (loopT []) 400 a82 [PV.int .i64 p0, PV.int .i64 p1] (fun rv => decR (RSh.one (CK.int .i64)) rv.pv) = tbCeil F p0 p1 := by kernel_rfl
noncomputable abbrev FbCeil (args : List PV) := Fn env 82 (RSh.one (CK.int .i64)) args
theorem FbCeil_of  (p0 : Int) (p1 : Int) {res : (Int)} (h : tbCeil (Fn env) p0 p1 = some res) : FbCeil [PV.int .i64 p0, PV.int .i64 p1] = some res :=
  fn_of EbCeil_ok rfl rfl lo_nil ((tbCeil_eq _ _ _).trans h)
def EbSize : List Entry := []
theorem EbSize_ok : ∀ e ∈ EbSize, EntOK env e := ent_nil
def tbSize (_F : FnT) (p0 : Int) : Option (Int) :=
  some (if ((w64 ((0 : Int) - p0)) > p0) then (w64 ((0 : Int) - p0)) else p0)
theorem tbSize_eq (F : FnT) (p0 : Int) : semF (callP F EbSize 20) s96 (loopT []) 400 a96 [PV.int .i64 p0] (fun rv => decR (RSh.one (CK.int .i64)) rv.pv) = tbSize F p0 := by kernel_rfl
noncomputable abbrev FbSize (args : List PV) := Fn env 96 (RSh.one (CK.int .i64)) args
theorem FbSize_of  (p0 : Int) {res : (Int)} (h : tbSize (Fn env) p0 = some res) : FbSize [PV.int .i64 p0] = some res :=
  fn_of EbSize_ok rfl rfl lo_nil ((tbSize_eq _ _).trans h)
def ErWind : List Entry := [.out 29 (RSh.one CK.bool)]
theorem ErWind_ok : ∀ e ∈ ErWind, EntOK env e := (ent_out ent_nil)
def trWind (F : FnT) (p0 : Int) : Option (Bool) :=
  bindO (F 29 (RSh.one CK.bool) [(PV.int .i64 p0), (PV.int .i64 (-10000 : Int)), (PV.int .i64 (10000 : Int))]) fun (y0 : (Bool)) =>
  bif y0 then
    some true
  else some false
theorem trWind_eq (F : FnT) (p0 : Int) : semF (callP F ErWind 20) s80 (loopT []) 400 a80 [PV.int .i64 p0] (fun rv => decR (RSh.one CK.bool) rv.pv) = trWind F p0 := by kernel_rfl
noncomputable abbrev FrWind (args : List PV) := Fn env 80 (RSh.one CK.bool) args
theorem FrWind_of  (p0 : Int) {res : (Bool)} (h : trWind (Fn env) p0 = some res) : FrWind [PV.int .i64 p0] = some res :=
  fn_of ErWind_ok rfl rfl lo_nil ((trWind_eq _ _).trans h)
def ErAtE : List Entry := [.out 29 (RSh.one CK.bool)]
theorem ErAtE_ok : ∀ e ∈ ErAtE, EntOK env e := (ent_out ent_nil)
def trAtE (F : FnT) (p0 : Int) : Option (Int) :=
  bindO (F 29 (RSh.one CK.bool) [(PV.int .i64 p0), (PV.int .i64 (0 : Int)), (PV.int .i64 (50000 : Int))]) fun (y0 : (Bool)) =>
  bif y0 then
    some (0 : Int)
  else some (2 : Int)
theorem trAtE_eq (F : FnT) (p0 : Int) : semF (callP F ErAtE 20) s34 (loopT []) 400 a34 [PV.int .i64 p0] (fun rv => decR (RSh.one (CK.int .i64)) rv.pv) = trAtE F p0 := by kernel_rfl
noncomputable abbrev FrAtE (args : List PV) := Fn env 34 (RSh.one (CK.int .i64)) args
theorem FrAtE_of  (p0 : Int) {res : (Int)} (h : trAtE (Fn env) p0 = some res) : FrAtE [PV.int .i64 p0] = some res :=
  fn_of ErAtE_ok rfl rfl lo_nil ((trAtE_eq _ _).trans h)
def ErCP : List Entry := [.out 34 (RSh.one (CK.int .i64)), .out 80 (RSh.one CK.bool)]
theorem ErCP_ok : ∀ e ∈ ErCP, EntOK env e := (ent_out (ent_out ent_nil))
def TrCP_0a (n0 : Nat) (c1 : List PV) (i2 : Int) : Q := ⟨(tm 74 [(0, (AV.p (PV.list n0 c1))), (4, (AV.p (PV.int .i64 i2)))]), (mm 74 [])⟩
def XrCP_0a (y : Int × Int) : Ext × Q := (Ext.ret, ⟨(tm 74 [(2, (AV.p (PV.int .i64 y.1))), (3, (AV.p (PV.int .i64 y.2)))]), (mm 74 [])⟩)
def IrCP_0a (q : Ext × S) : Int × Int := ((pP_int1 (pA_p (avT q.2 2))), (pP_int1 (pA_p (avT q.2 3))))
def XrCP_0b (_y : Unit) : Ext × Q := (Ext.normal, ⟨(tm 74 []), (mm 74 [])⟩)
def IrCP_0b (_q : Ext × S) : Unit := ()
abbrev YrCP_0 : Type := (Int × Int) ⊕ ((Unit))
def XLrCP_0 : XL YrCP_0 := .more XrCP_0a (.one XrCP_0b)
def IrCP_0 (q : Ext × S) : YrCP_0 := bif (cE q.1 == 2) then (Sum.inl (IrCP_0a q)) else (Sum.inr (IrCP_0b q))
theorem XIrCP_0a (y : Int × Int) : IrCP_0 (xe (XrCP_0a y)) = (Sum.inl y) := rfl
theorem XIrCP_0b (y : Unit) : IrCP_0 (xe (XrCP_0b y)) = (Sum.inr y) := rfl
theorem XIrCP_0 (y : YrCP_0) : IrCP_0 (xe (XLrCP_0.fn y)) = y := (match y with | .inl y => XIrCP_0a y | .inr y => XIrCP_0b y)
noncomputable abbrev LrCP_0 : Q → Option YrCP_0 := lpO env a28.body 0 XLrCP_0
noncomputable abbrev RrCP_0 : Q → Option (Ext × S) := lpR env a28.body 0
theorem UrCP : uniq ((blocksOf a28.body).map (·.1)) = true := by kernel_rfl
def BrCP_0a (F : FnT) (N : QO) (E : EO) (_L0 : Q → Option YrCP_0) (n0 : Nat) (c1 : List PV) (i2 : Int) : Option (Ext × S) :=
  bif (decide (i2 < (n0 : Int))) then
    bif (decide (((0 : Int) ≤ i2) ∧ (i2 < (n0 : Int)))) then
      bindO (intC .i64 (c1[(((Int.toNat i2) * 3) + 0)]?)) fun x0 =>
      bindO (F 34 (RSh.one (CK.int .i64)) [(PV.int .i64 x0)]) fun (y1 : (Int)) =>
      bif (y1 != (0 : Int)) then
        E (XrCP_0a (i2, (2 : Int)))
      else bif (decide (((0 : Int) ≤ i2) ∧ (i2 < (n0 : Int)))) then
        bindO (intC .i64 (c1[((((Int.toNat i2) * 3) + 1) + 0)]?)) fun x2 =>
        bindO (F 80 (RSh.one CK.bool) [(PV.int .i64 x2)]) fun (y3 : (Bool)) =>
        bif y3 then
          bif (decide (((0 : Int) ≤ i2) ∧ (i2 < (n0 : Int)))) then
            bindO (intC .i64 (c1[((((Int.toNat i2) * 3) + 1) + 1)]?)) fun x4 =>
            bindO (F 80 (RSh.one CK.bool) [(PV.int .i64 x4)]) fun (y5 : (Bool)) =>
            bif y5 then
              bif (decide (((0 : Int) ≤ i2) ∧ (i2 < (n0 : Int)))) then
                bindO (intC .i64 (c1[((((Int.toNat i2) * 3) + 1) + 0)]?)) fun x6 =>
                bif (decide (((0 : Int) ≤ i2) ∧ (i2 < (n0 : Int)))) then
                  bindO (intC .i64 (c1[((((Int.toNat i2) * 3) + 1) + 1)]?)) fun x7 =>
                  bif (decide (x6 > x7)) then
                    E (XrCP_0a (i2, (9 : Int)))
                  else bif (decide (i2 > (0 : Int))) then
                    bif (decide (((0 : Int) ≤ i2) ∧ (i2 < (n0 : Int)))) then
                      bindO (intC .i64 (c1[(((Int.toNat i2) * 3) + 0)]?)) fun x8 =>
                      bif (decide (((0 : Int) ≤ (w64 (i2 - (1 : Int)))) ∧ ((w64 (i2 - (1 : Int))) < (n0 : Int)))) then
                        bindO (intC .i64 (c1[(((Int.toNat (w64 (i2 - (1 : Int)))) * 3) + 0)]?)) fun x9 =>
                        bif (decide (x8 ≤ x9)) then
                          E (XrCP_0a (i2, (9 : Int)))
                        else N (TrCP_0a n0 c1 (w64 (i2 + (1 : Int))))
                      else none
                    else none
                  else N (TrCP_0a n0 c1 (w64 (i2 + (1 : Int))))
                else none
              else none
            else E (XrCP_0a (i2, (2 : Int)))
          else none
        else E (XrCP_0a (i2, (2 : Int)))
      else none
    else none
  else E (XrCP_0b ())
theorem BrCP_0a_eq (F : FnT) (N : QO) (E : EO) (L0 : Q → Option YrCP_0) (n0 : Nat) (c1 : List PV) (i2 : Int) : semB (callP F ErCP 20) s28 (loopT [⟨0, YrCP_0, L0, XLrCP_0⟩]) 400 (blkIn a28.body 0) N E (TrCP_0a n0 c1 i2) = BrCP_0a F N E L0 n0 c1 i2 := by kernel_rfl
theorem RrCP_0a_of  (n0 : Nat) (c1 : List PV) (i2 : Int) {r : Ext × S} (h : BrCP_0a (Fn env) RrCP_0 exO LrCP_0 n0 c1 i2 = some r) : RrCP_0 (TrCP_0a n0 c1 i2) = some r :=
  lp_of ErCP_ok (by kernel_rfl) (lo_cons (lpO_ok UrCP) lo_nil) (by kernel_rfl) ((BrCP_0a_eq _ _ _ _ _ _ _).trans h)
def trCP (_F : FnT) (L0 : Q → Option YrCP_0) (p0n : Nat) (p0c : List PV) : Option ((Int) × (Int)) :=
  bif (decide ((p0n : Int) > (20 : Int))) then
    some ((0 : Int), (8 : Int))
  else bindO (L0 (TrCP_0a p0n p0c (0 : Int))) fun z =>
  Sum.elim (fun y0 =>
    some (y0.1, y0.2)) (fun _y1 =>
    some ((0 : Int), (0 : Int))) z
theorem trCP_eq (F : FnT) (L0 : Q → Option YrCP_0) (p0n : Nat) (p0c : List PV) : semF (callP F ErCP 20) s28 (loopT [⟨0, YrCP_0, L0, XLrCP_0⟩]) 400 a28 [PV.list p0n p0c] (fun rv => decR (RSh.tup [(Prod.mk false [(CK.int .i64)]), (Prod.mk false [(CK.int .i64)])]) rv.pv) = trCP F L0 p0n p0c := by kernel_rfl
noncomputable abbrev FrCP (args : List PV) := Fn env 28 (RSh.tup [(Prod.mk false [(CK.int .i64)]), (Prod.mk false [(CK.int .i64)])]) args
theorem FrCP_of  (p0n : Nat) (p0c : List PV) {res : ((Int) × (Int))} (h : trCP (Fn env) LrCP_0 p0n p0c = some res) : FrCP [PV.list p0n p0c] = some res :=
  fn_of ErCP_ok rfl rfl (lo_cons (lpO_ok UrCP) lo_nil) ((trCP_eq _ _ _ _).trans h)
def ErPE : List Entry := [.out 28 (RSh.tup [(Prod.mk false [(CK.int .i64)]), (Prod.mk false [(CK.int .i64)])])]
theorem ErPE_ok : ∀ e ∈ ErPE, EntOK env e := (ent_out ent_nil)
def trPE (F : FnT) (p0n : Nat) (p0c : List PV) : Option (Int) :=
  bindO (F 28 (RSh.tup [(Prod.mk false [(CK.int .i64)]), (Prod.mk false [(CK.int .i64)])]) [(PV.list p0n p0c)]) fun (y0 : ((Int) × (Int))) =>
  some y0.2
theorem trPE_eq (F : FnT) (p0n : Nat) (p0c : List PV) : semF (callP F ErPE 20) s37 (loopT []) 400 a37 [PV.list p0n p0c] (fun rv => decR (RSh.one (CK.int .i64)) rv.pv) = trPE F p0n p0c := by kernel_rfl
noncomputable abbrev FrPE (args : List PV) := Fn env 37 (RSh.one (CK.int .i64)) args
theorem FrPE_of  (p0n : Nat) (p0c : List PV) {res : (Int)} (h : trPE (Fn env) p0n p0c = some res) : FrPE [PV.list p0n p0c] = some res :=
  fn_of ErPE_ok rfl rfl lo_nil ((trPE_eq _ _ _).trans h)
def ErSpE : List Entry := [.out 34 (RSh.one (CK.int .i64))]
theorem ErSpE_ok : ∀ e ∈ ErSpE, EntOK env e := (ent_out ent_nil)
def trSpE (F : FnT) (p0_0 : Int) (p0_1 : Int) : Option (Int) :=
  bindO (F 34 (RSh.one (CK.int .i64)) [(PV.int .i64 p0_0)]) fun (y0 : (Int)) =>
  bif (y0 != (0 : Int)) then
    some (2 : Int)
  else bindO (F 34 (RSh.one (CK.int .i64)) [(PV.int .i64 p0_1)]) fun (y1 : (Int)) =>
  bif (y1 != (0 : Int)) then
    some (2 : Int)
  else bif (decide (p0_0 > p0_1)) then
    some (9 : Int)
  else some (0 : Int)
theorem trSpE_eq (F : FnT) (p0_0 : Int) (p0_1 : Int) : semF (callP F ErSpE 20) s38 (loopT []) 400 a38 [PV.agg [PV.int .i64 p0_0, PV.int .i64 p0_1]] (fun rv => decR (RSh.one (CK.int .i64)) rv.pv) = trSpE F p0_0 p0_1 := by kernel_rfl
noncomputable abbrev FrSpE (args : List PV) := Fn env 38 (RSh.one (CK.int .i64)) args
theorem FrSpE_of  (p0_0 : Int) (p0_1 : Int) {res : (Int)} (h : trSpE (Fn env) p0_0 p0_1 = some res) : FrSpE [PV.agg [PV.int .i64 p0_0, PV.int .i64 p0_1]] = some res :=
  fn_of ErSpE_ok rfl rfl lo_nil ((trSpE_eq _ _ _).trans h)
def ErIsB : List Entry := [.out 96 (RSh.one (CK.int .i64))]
theorem ErIsB_ok : ∀ e ∈ ErIsB, EntOK env e := (ent_out ent_nil)
def TrIsB_0a (n0 : Nat) (c1 : List PV) (i2 : Int) (i3 : Int) (i4 : Int) : Q := ⟨(tm 24 [(0, (AV.p (PV.list n0 c1))), (1, (AV.p (PV.int .i64 i2))), (2, (AV.p (PV.int .i64 i3))), (7, (AV.p (PV.int .i64 i4)))]), (mm 24 [])⟩
def XrIsB_0a (_y : Unit) : Ext × Q := (Ext.ret, ⟨(tm 24 [(6, (AV.p (PV.bool false)))]), (mm 24 [])⟩)
def IrIsB_0a (_q : Ext × S) : Unit := ()
def XrIsB_0b (_y : Unit) : Ext × Q := (Ext.normal, ⟨(tm 24 []), (mm 24 [])⟩)
def IrIsB_0b (_q : Ext × S) : Unit := ()
abbrev YrIsB_0 : Type := (Unit) ⊕ ((Unit))
def XLrIsB_0 : XL YrIsB_0 := .more XrIsB_0a (.one XrIsB_0b)
def IrIsB_0 (q : Ext × S) : YrIsB_0 := bif (cE q.1 == 2) then (Sum.inl (IrIsB_0a q)) else (Sum.inr (IrIsB_0b q))
theorem XIrIsB_0a (y : Unit) : IrIsB_0 (xe (XrIsB_0a y)) = (Sum.inl y) := rfl
theorem XIrIsB_0b (y : Unit) : IrIsB_0 (xe (XrIsB_0b y)) = (Sum.inr y) := rfl
theorem XIrIsB_0 (y : YrIsB_0) : IrIsB_0 (xe (XLrIsB_0.fn y)) = y := (match y with | .inl y => XIrIsB_0a y | .inr y => XIrIsB_0b y)
noncomputable abbrev LrIsB_0 : Q → Option YrIsB_0 := lpO env a45.body 0 XLrIsB_0
noncomputable abbrev RrIsB_0 : Q → Option (Ext × S) := lpR env a45.body 0
theorem UrIsB : uniq ((blocksOf a45.body).map (·.1)) = true := by kernel_rfl
def BrIsB_0a (F : FnT) (N : QO) (E : EO) (_L0 : Q → Option YrIsB_0) (n0 : Nat) (c1 : List PV) (i2 : Int) (i3 : Int) (i4 : Int) : Option (Ext × S) :=
  bif (decide (i4 < (n0 : Int))) then
    bif (decide (((0 : Int) ≤ i4) ∧ (i4 < (n0 : Int)))) then
      bindO (intC .i64 (c1[(((Int.toNat i4) * 3) + 0)]?)) fun x0 =>
      bindO (F 96 (RSh.one (CK.int .i64)) [(PV.int .i64 (w64 (x0 - i3)))]) fun (y1 : (Int)) =>
      bif (decide (y1 ≤ i2)) then
        E (XrIsB_0a ())
      else N (TrIsB_0a n0 c1 i2 i3 (w64 (i4 + (1 : Int))))
    else none
  else E (XrIsB_0b ())
theorem BrIsB_0a_eq (F : FnT) (N : QO) (E : EO) (L0 : Q → Option YrIsB_0) (n0 : Nat) (c1 : List PV) (i2 : Int) (i3 : Int) (i4 : Int) : semB (callP F ErIsB 20) s45 (loopT [⟨0, YrIsB_0, L0, XLrIsB_0⟩]) 400 (blkIn a45.body 0) N E (TrIsB_0a n0 c1 i2 i3 i4) = BrIsB_0a F N E L0 n0 c1 i2 i3 i4 := by kernel_rfl
theorem RrIsB_0a_of  (n0 : Nat) (c1 : List PV) (i2 : Int) (i3 : Int) (i4 : Int) {r : Ext × S} (h : BrIsB_0a (Fn env) RrIsB_0 exO LrIsB_0 n0 c1 i2 i3 i4 = some r) : RrIsB_0 (TrIsB_0a n0 c1 i2 i3 i4) = some r :=
  lp_of ErIsB_ok (by kernel_rfl) (lo_cons (lpO_ok UrIsB) lo_nil) (by kernel_rfl) ((BrIsB_0a_eq _ _ _ _ _ _ _ _ _).trans h)
def trIsB (_F : FnT) (L0 : Q → Option YrIsB_0) (p0n : Nat) (p0c : List PV) (p1 : Int) (p2 : Int) : Option (Bool) :=
  bindO (L0 (TrIsB_0a p0n p0c p1 p2 (0 : Int))) fun z =>
  Sum.elim (fun _y0 =>
    some false) (fun _y1 =>
    some true) z
theorem trIsB_eq (F : FnT) (L0 : Q → Option YrIsB_0) (p0n : Nat) (p0c : List PV) (p1 : Int) (p2 : Int) : semF (callP F ErIsB 20) s45 (loopT [⟨0, YrIsB_0, L0, XLrIsB_0⟩]) 400 a45 [PV.list p0n p0c, PV.int .i64 p1, PV.int .i64 p2] (fun rv => decR (RSh.one CK.bool) rv.pv) = trIsB F L0 p0n p0c p1 p2 := by kernel_rfl
noncomputable abbrev FrIsB (args : List PV) := Fn env 45 (RSh.one CK.bool) args
theorem FrIsB_of  (p0n : Nat) (p0c : List PV) (p1 : Int) (p2 : Int) {res : (Bool)} (h : trIsB (Fn env) LrIsB_0 p0n p0c p1 p2 = some res) : FrIsB [PV.list p0n p0c, PV.int .i64 p1, PV.int .i64 p2] = some res :=
  fn_of ErIsB_ok rfl rfl (lo_cons (lpO_ok UrIsB) lo_nil) ((trIsB_eq _ _ _ _ _ _).trans h)
def ErBl : List Entry := [.out 45 (RSh.one CK.bool)]
theorem ErBl_ok : ∀ e ∈ ErBl, EntOK env e := (ent_out ent_nil)
def TrBl_0a (n0 : Nat) (c1 : List PV) (i2 : Int) (i3 : Int) (i4 : Int) (i5 : Int) : Q := ⟨(tm 51 [(0, (AV.p (PV.list n0 c1))), (2, (AV.p (PV.int .i64 i2))), (4, (AV.loc 4 0)), (7, AV.nilS), (8, (AV.p (PV.int .i64 i3)))]), (mm 51 [(4, (Bk.pcs true [(PV.int .i64 i4), (PV.int .i64 i5)]))])⟩
def TrBl_0b (n0 : Nat) (c1 : List PV) (i2 : Int) (n3 : Nat) (i4 : Int) (i5 : Int) (i6 : Int) (n7 : Nat) (c8 : List PV) : Q := ⟨(tm 51 [(0, (AV.p (PV.list n0 c1))), (2, (AV.p (PV.int .i64 i2))), (4, (AV.loc 4 0)), (7, (AV.vap 49 n3 2)), (8, (AV.p (PV.int .i64 i4)))]), (mm 51 [(4, (Bk.pcs true [(PV.int .i64 i5), (PV.int .i64 i6)])), (49, (Bk.vec true n7 2 c8))])⟩
def XrBl_0a (y : Int × Int) : Ext × Q := (Ext.normal, ⟨(tm 51 [(7, AV.nilS)]), (mm 51 [(4, (Bk.pcs true [(PV.int .i64 y.1), (PV.int .i64 y.2)]))])⟩)
def IrBl_0a (q : Ext × S) : Int × Int := ((pP_int1 (hdP (pB_pcs1 (avM q.2 4)))), (pP_int1 (hdP (List.tail (pB_pcs1 (avM q.2 4))))))
def XrBl_0b (y : Nat × Int × Int × Nat × List PV) : Ext × Q := (Ext.normal, ⟨(tm 51 [(7, (AV.vap 49 y.1 2))]), (mm 51 [(4, (Bk.pcs true [(PV.int .i64 y.2.1), (PV.int .i64 y.2.2.1)])), (49, (Bk.vec true y.2.2.2.1 2 y.2.2.2.2))])⟩)
def IrBl_0b (q : Ext × S) : Nat × Int × Int × Nat × List PV := ((pA_vap1 (avT q.2 7)), (pP_int1 (hdP (pB_pcs1 (avM q.2 4)))), (pP_int1 (hdP (List.tail (pB_pcs1 (avM q.2 4))))), (pB_vec1 (avM q.2 49)), (pB_vec3 (avM q.2 49)))
abbrev YrBl_0 : Type := (Int × Int) ⊕ ((Nat × Int × Int × Nat × List PV))
def XLrBl_0 : XL YrBl_0 := .more XrBl_0a (.one XrBl_0b)
def IrBl_0 (q : Ext × S) : YrBl_0 := bif (cA (avT q.2 7) == 1) then (Sum.inl (IrBl_0a q)) else (Sum.inr (IrBl_0b q))
theorem XIrBl_0a (y : Int × Int) : IrBl_0 (xe (XrBl_0a y)) = (Sum.inl y) := rfl
theorem XIrBl_0b (y : Nat × Int × Int × Nat × List PV) : IrBl_0 (xe (XrBl_0b y)) = (Sum.inr y) := rfl
theorem XIrBl_0 (y : YrBl_0) : IrBl_0 (xe (XLrBl_0.fn y)) = y := (match y with | .inl y => XIrBl_0a y | .inr y => XIrBl_0b y)
noncomputable abbrev LrBl_0 : Q → Option YrBl_0 := lpO env a43.body 0 XLrBl_0
noncomputable abbrev RrBl_0 : Q → Option (Ext × S) := lpR env a43.body 0
theorem UrBl : uniq ((blocksOf a43.body).map (·.1)) = true := by kernel_rfl
def BrBl_0a (F : FnT) (N : QO) (E : EO) (_L0 : Q → Option YrBl_0) (n0 : Nat) (c1 : List PV) (i2 : Int) (i3 : Int) (i4 : Int) (i5 : Int) : Option (Ext × S) :=
  bif (decide (i3 ≤ i5)) then
    bindO (F 45 (RSh.one CK.bool) [(PV.list n0 c1), (PV.int .i64 i2), (PV.int .i64 i3)]) fun (y0 : (Bool)) =>
    bif y0 then
      N (TrBl_0b n0 c1 i2 1 (w64 (i3 + (1 : Int))) i4 i5 1 [(PV.int .i64 i3), (PV.int .i64 i3)])
    else N (TrBl_0a n0 c1 i2 (w64 (i3 + (1 : Int))) i4 i5)
  else E (XrBl_0a (i4, i5))
theorem BrBl_0a_eq (F : FnT) (N : QO) (E : EO) (L0 : Q → Option YrBl_0) (n0 : Nat) (c1 : List PV) (i2 : Int) (i3 : Int) (i4 : Int) (i5 : Int) : semB (callP F ErBl 20) s43 (loopT [⟨0, YrBl_0, L0, XLrBl_0⟩]) 400 (blkIn a43.body 0) N E (TrBl_0a n0 c1 i2 i3 i4 i5) = BrBl_0a F N E L0 n0 c1 i2 i3 i4 i5 := by kernel_rfl
theorem RrBl_0a_of  (n0 : Nat) (c1 : List PV) (i2 : Int) (i3 : Int) (i4 : Int) (i5 : Int) {r : Ext × S} (h : BrBl_0a (Fn env) RrBl_0 exO LrBl_0 n0 c1 i2 i3 i4 i5 = some r) : RrBl_0 (TrBl_0a n0 c1 i2 i3 i4 i5) = some r :=
  lp_of ErBl_ok (by kernel_rfl) (lo_cons (lpO_ok UrBl) lo_nil) (by kernel_rfl) ((BrBl_0a_eq _ _ _ _ _ _ _ _ _ _).trans h)
def BrBl_0b (F : FnT) (N : QO) (E : EO) (_L0 : Q → Option YrBl_0) (n0 : Nat) (c1 : List PV) (i2 : Int) (n3 : Nat) (i4 : Int) (i5 : Int) (i6 : Int) (n7 : Nat) (c8 : List PV) : Option (Ext × S) :=
  bif (decide (i4 ≤ i6)) then
    bindO (F 45 (RSh.one CK.bool) [(PV.list n0 c1), (PV.int .i64 i2), (PV.int .i64 i4)]) fun (y0 : (Bool)) =>
    bif y0 then
      bif (decide ((n3 : Int) > (0 : Int))) then
        bif (decide (((0 : Int) ≤ (w64 ((n3 : Int) - (1 : Int)))) ∧ ((w64 ((n3 : Int) - (1 : Int))) < (n3 : Int)))) then
          bif (decide (n7 = n3)) then
            bindO (intC .i64 (c8[(((Int.toNat (w64 ((n3 : Int) - (1 : Int)))) * 2) + 1)]?)) fun x1 =>
            bif (x1 == (w64 (i4 - (1 : Int)))) then
              bif (decide (((0 : Int) ≤ (w64 ((n3 : Int) - (1 : Int)))) ∧ ((w64 ((n3 : Int) - (1 : Int))) < (n3 : Int)))) then
                bif (decide (n7 = n3)) then
                  bindO (Gv.overO c8 (((Int.toNat (w64 ((n3 : Int) - (1 : Int)))) * 2) + 1) [(PV.int .i64 i4)]) fun x2 =>
                  N (TrBl_0b n0 c1 i2 n3 (w64 (i4 + (1 : Int))) i5 i6 n3 x2)
                else none
              else none
            else bif (decide ((n7 = n3) ∧ ((n3 + 1) ≤ big))) then
              N (TrBl_0b n0 c1 i2 (n3 + 1) (w64 (i4 + (1 : Int))) i5 i6 (n3 + 1) (c8 ++ [(PV.int .i64 i4), (PV.int .i64 i4)]))
            else none
          else none
        else none
      else bif (decide ((n7 = n3) ∧ ((n3 + 1) ≤ big))) then
        N (TrBl_0b n0 c1 i2 (n3 + 1) (w64 (i4 + (1 : Int))) i5 i6 (n3 + 1) (c8 ++ [(PV.int .i64 i4), (PV.int .i64 i4)]))
      else none
    else N (TrBl_0b n0 c1 i2 n3 (w64 (i4 + (1 : Int))) i5 i6 n7 c8)
  else E (XrBl_0b (n3, i5, i6, n7, c8))
theorem BrBl_0b_eq (F : FnT) (N : QO) (E : EO) (L0 : Q → Option YrBl_0) (n0 : Nat) (c1 : List PV) (i2 : Int) (n3 : Nat) (i4 : Int) (i5 : Int) (i6 : Int) (n7 : Nat) (c8 : List PV) : semB (callP F ErBl 20) s43 (loopT [⟨0, YrBl_0, L0, XLrBl_0⟩]) 400 (blkIn a43.body 0) N E (TrBl_0b n0 c1 i2 n3 i4 i5 i6 n7 c8) = BrBl_0b F N E L0 n0 c1 i2 n3 i4 i5 i6 n7 c8 := by kernel_rfl
theorem RrBl_0b_of  (n0 : Nat) (c1 : List PV) (i2 : Int) (n3 : Nat) (i4 : Int) (i5 : Int) (i6 : Int) (n7 : Nat) (c8 : List PV) {r : Ext × S} (h : BrBl_0b (Fn env) RrBl_0 exO LrBl_0 n0 c1 i2 n3 i4 i5 i6 n7 c8 = some r) : RrBl_0 (TrBl_0b n0 c1 i2 n3 i4 i5 i6 n7 c8) = some r :=
  lp_of ErBl_ok (by kernel_rfl) (lo_cons (lpO_ok UrBl) lo_nil) (by kernel_rfl) ((BrBl_0b_eq _ _ _ _ _ _ _ _ _ _ _ _ _).trans h)
def trBl (_F : FnT) (L0 : Q → Option YrBl_0) (p0n : Nat) (p0c : List PV) (p1_0 : Int) (p1_1 : Int) (p2 : Int) : Option ((Nat) × (List PV)) :=
  bindO (L0 (TrBl_0a p0n p0c p2 p1_0 p1_0 p1_1)) fun z =>
  Sum.elim (fun _y0 =>
    some (0, [])) (fun y1 =>
    bif (decide (y1.2.2.2.1 = y1.1)) then
      some (y1.1, y1.2.2.2.2)
    else none) z
theorem trBl_eq (F : FnT) (L0 : Q → Option YrBl_0) (p0n : Nat) (p0c : List PV) (p1_0 : Int) (p1_1 : Int) (p2 : Int) : semF (callP F ErBl 20) s43 (loopT [⟨0, YrBl_0, L0, XLrBl_0⟩]) 400 a43 [PV.list p0n p0c, PV.agg [PV.int .i64 p1_0, PV.int .i64 p1_1], PV.int .i64 p2] (fun rv => decR (RSh.one CK.list) rv.pv) = trBl F L0 p0n p0c p1_0 p1_1 p2 := by kernel_rfl
noncomputable abbrev FrBl (args : List PV) := Fn env 43 (RSh.one CK.list) args
theorem FrBl_of  (p0n : Nat) (p0c : List PV) (p1_0 : Int) (p1_1 : Int) (p2 : Int) {res : ((Nat) × (List PV))} (h : trBl (Fn env) LrBl_0 p0n p0c p1_0 p1_1 p2 = some res) : FrBl [PV.list p0n p0c, PV.agg [PV.int .i64 p1_0, PV.int .i64 p1_1], PV.int .i64 p2] = some res :=
  fn_of ErBl_ok rfl rfl (lo_cons (lpO_ok UrBl) lo_nil) ((trBl_eq _ _ _ _ _ _ _).trans h)
def ErLdE : List Entry := [.out 34 (RSh.one (CK.int .i64)), .out 29 (RSh.one CK.bool)]
theorem ErLdE_ok : ∀ e ∈ ErLdE, EntOK env e := (ent_out (ent_out ent_nil))
def trLdE (F : FnT) (p0 : Int) (p1_0 : Int) (p1_1 : Int) : Option (Int) :=
  bindO (F 34 (RSh.one (CK.int .i64)) [(PV.int .i64 p0)]) fun (y0 : (Int)) =>
  bif (y0 != (0 : Int)) then
    some (2 : Int)
  else bindO (F 29 (RSh.one CK.bool) [(PV.int .i64 p1_0), (PV.int .i64 (1 : Int)), (PV.int .i64 (1000 : Int))]) fun (y1 : (Bool)) =>
  bif y1 then
    bindO (F 29 (RSh.one CK.bool) [(PV.int .i64 p1_1), (PV.int .i64 (1 : Int)), (PV.int .i64 (1000 : Int))]) fun (y2 : (Bool)) =>
    bif y2 then
      bif (decide (p1_0 > p1_1)) then
        some (9 : Int)
      else some (0 : Int)
    else some (2 : Int)
  else some (2 : Int)
theorem trLdE_eq (F : FnT) (p0 : Int) (p1_0 : Int) (p1_1 : Int) : semF (callP F ErLdE 20) s41 (loopT []) 400 a41 [PV.int .i64 p0, PV.agg [PV.int .i64 p1_0, PV.int .i64 p1_1]] (fun rv => decR (RSh.one (CK.int .i64)) rv.pv) = trLdE F p0 p1_0 p1_1 := by kernel_rfl
noncomputable abbrev FrLdE (args : List PV) := Fn env 41 (RSh.one (CK.int .i64)) args
theorem FrLdE_of  (p0 : Int) (p1_0 : Int) (p1_1 : Int) {res : (Int)} (h : trLdE (Fn env) p0 p1_0 p1_1 = some res) : FrLdE [PV.int .i64 p0, PV.agg [PV.int .i64 p1_0, PV.int .i64 p1_1]] = some res :=
  fn_of ErLdE_ok rfl rfl lo_nil ((trLdE_eq _ _ _ _).trans h)
def ErLead : List Entry := [.out 81 (RSh.one (CK.int .i64)), .out 82 (RSh.one (CK.int .i64))]
theorem ErLead_ok : ∀ e ∈ ErLead, EntOK env e := (ent_out (ent_out ent_nil))
def trLead (F : FnT) (p0 : Int) (p1_0 : Int) (p1_1 : Int) : Option ((Int) × (Int)) :=
  bindO (F 81 (RSh.one (CK.int .i64)) [(PV.int .i64 p0), (PV.int .i64 p1_1)]) fun (y0 : (Int)) =>
  bindO (F 82 (RSh.one (CK.int .i64)) [(PV.int .i64 p0), (PV.int .i64 p1_0)]) fun (y1 : (Int)) =>
  some (y0, y1)
theorem trLead_eq (F : FnT) (p0 : Int) (p1_0 : Int) (p1_1 : Int) : semF (callP F ErLead 20) s42 (loopT []) 400 a42 [PV.int .i64 p0, PV.agg [PV.int .i64 p1_0, PV.int .i64 p1_1]] (fun rv => decR (RSh.agg [(CK.int .i64), (CK.int .i64)]) rv.pv) = trLead F p0 p1_0 p1_1 := by kernel_rfl
noncomputable abbrev FrLead (args : List PV) := Fn env 42 (RSh.agg [(CK.int .i64), (CK.int .i64)]) args
theorem FrLead_of  (p0 : Int) (p1_0 : Int) (p1_1 : Int) {res : ((Int) × (Int))} (h : trLead (Fn env) p0 p1_0 p1_1 = some res) : FrLead [PV.int .i64 p0, PV.agg [PV.int .i64 p1_0, PV.int .i64 p1_1]] = some res :=
  fn_of ErLead_ok rfl rfl lo_nil ((trLead_eq _ _ _ _).trans h)
end Gv
