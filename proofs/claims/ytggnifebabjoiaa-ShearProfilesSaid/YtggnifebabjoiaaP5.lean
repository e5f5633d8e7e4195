/- What the functions do, round by round: P5. -/
import Derived.Test.YtggnifebabjoiaaGvEnv
namespace Gv
open Go
set_option maxRecDepth 100000
def EbWi : List Entry := []
theorem EbWi_ok : ∀ e ∈ EbWi, EntOK env e := ent_nil
def tbWi (_F : FnT) (p0 : Int) (p1 : Int) (p2 : Int) : Option (Bool) :=
  bif (decide (p1 ≤ p0)) then
    bif (decide (p0 ≤ p2)) then
      some true
    else some false
  else some false
theorem tbWi_eq (F : FnT) (p0 : Int) (p1 : Int) (p2 : Int) : semF (callP F EbWi 20) s29 (loopT []) 400 a29 [PV.int .i64 p0, PV.int .i64 p1, PV.int .i64 p2] (fun rv => decR (RSh.one CK.bool) rv.pv) = tbWi F p0 p1 p2 := by kernel_rfl
noncomputable abbrev FbWi (args : List PV) := Fn env 29 (RSh.one CK.bool) args
theorem FbWi_of  (p0 : Int) (p1 : Int) (p2 : Int) {res : (Bool)} (h : tbWi (Fn env) p0 p1 p2 = some res) : FbWi [PV.int .i64 p0, PV.int .i64 p1, PV.int .i64 p2] = some res :=
  fn_of EbWi_ok rfl rfl lo_nil ((tbWi_eq _ _ _ _).trans h)
def EbRgs : List Entry := []
theorem EbRgs_ok : ∀ e ∈ EbRgs, EntOK env e := ent_nil
def TbRgs_0a (n0 : Nat) (c1 : List PV) (n2 : Nat) (c3 : List PV) (i4 : Int) : Q := ⟨(tm 26 [(0, (AV.p (PV.list n0 c1))), (1, (AV.p (PV.list n2 c3))), (5, (AV.p (PV.int .i64 i4)))]), (mm 26 [])⟩
def XbRgs_0a (_y : Unit) : Ext × Q := (Ext.ret, ⟨(tm 26 [(4, (AV.p (PV.bool false)))]), (mm 26 [])⟩)
def IbRgs_0a (_q : Ext × S) : Unit := ()
def XbRgs_0b (_y : Unit) : Ext × Q := (Ext.normal, ⟨(tm 26 []), (mm 26 [])⟩)
def IbRgs_0b (_q : Ext × S) : Unit := ()
abbrev YbRgs_0 : Type := (Unit) ⊕ ((Unit))
def XLbRgs_0 : XL YbRgs_0 := .more XbRgs_0a (.one XbRgs_0b)
def IbRgs_0 (q : Ext × S) : YbRgs_0 := bif (cE q.1 == 2) then (Sum.inl (IbRgs_0a q)) else (Sum.inr (IbRgs_0b q))
theorem XIbRgs_0a (y : Unit) : IbRgs_0 (xe (XbRgs_0a y)) = (Sum.inl y) := by kernel_rfl
theorem XIbRgs_0b (y : Unit) : IbRgs_0 (xe (XbRgs_0b y)) = (Sum.inr y) := by kernel_rfl
theorem XIbRgs_0 (y : YbRgs_0) : IbRgs_0 (xe (XLbRgs_0.fn y)) = y := (match y with | .inl y => XIbRgs_0a y | .inr y => XIbRgs_0b y)
noncomputable abbrev LbRgs_0 : Q → Option YbRgs_0 := lpO env a32.body 0 XLbRgs_0
noncomputable abbrev RbRgs_0 : Q → Option (Ext × S) := lpR env a32.body 0
theorem UbRgs : uniq ((blocksOf a32.body).map (·.1)) = true := by kernel_rfl
def BbRgs_0a (_F : FnT) (N : QO) (E : EO) (_L0 : Q → Option YbRgs_0) (n0 : Nat) (c1 : List PV) (n2 : Nat) (c3 : List PV) (i4 : Int) : Option (Ext × S) :=
  bif (decide (i4 < (n0 : Int))) then
    bif (decide (((0 : Int) ≤ i4) ∧ (i4 < (n0 : Int)))) then
      bindO (intC .i64 (c1[((Int.toNat i4) * 2)]?)) fun x0 =>
      bindO (intC .i64 (c1[(((Int.toNat i4) * 2) + 1)]?)) fun x1 =>
      bif (decide (((0 : Int) ≤ i4) ∧ (i4 < (n2 : Int)))) then
        bindO (intC .i64 (c3[((Int.toNat i4) * 2)]?)) fun x2 =>
        bindO (intC .i64 (c3[(((Int.toNat i4) * 2) + 1)]?)) fun x3 =>
        bif (!((x0 == x2) && ((x1 == x3) && true))) then
          E (XbRgs_0a ())
        else N (TbRgs_0a n0 c1 n2 c3 (w64 (i4 + (1 : Int))))
      else none
    else none
  else E (XbRgs_0b ())
theorem BbRgs_0a_eq (F : FnT) (N : QO) (E : EO) (L0 : Q → Option YbRgs_0) (n0 : Nat) (c1 : List PV) (n2 : Nat) (c3 : List PV) (i4 : Int) : semB (callP F EbRgs 20) s32 (loopT [⟨0, YbRgs_0, L0, XLbRgs_0⟩]) 400 (blkIn a32.body 0) N E (TbRgs_0a n0 c1 n2 c3 i4) = BbRgs_0a F N E L0 n0 c1 n2 c3 i4 := by kernel_rfl
theorem RbRgs_0a_of  (n0 : Nat) (c1 : List PV) (n2 : Nat) (c3 : List PV) (i4 : Int) {r : Ext × S} (h : BbRgs_0a (Fn env) RbRgs_0 exO LbRgs_0 n0 c1 n2 c3 i4 = some r) : RbRgs_0 (TbRgs_0a n0 c1 n2 c3 i4) = some r :=
  lp_of EbRgs_ok (by kernel_rfl) (lo_cons (lpO_ok UbRgs) lo_nil) (by kernel_rfl) ((BbRgs_0a_eq _ _ _ _ _ _ _ _ _).trans h)
def tbRgs (_F : FnT) (L0 : Q → Option YbRgs_0) (p0n : Nat) (p0c : List PV) (p1n : Nat) (p1c : List PV) : Option (Bool) :=
  bif ((p0n : Int) != (p1n : Int)) then
    some false
  else bindO (L0 (TbRgs_0a p0n p0c p1n p1c (0 : Int))) fun z =>
  Sum.elim (fun _y0 =>
    some false) (fun _y1 =>
    some true) z
theorem tbRgs_eq (F : FnT) (L0 : Q → Option YbRgs_0) (p0n : Nat) (p0c : List PV) (p1n : Nat) (p1c : List PV) : semF (callP F EbRgs 20) s32 (loopT [⟨0, YbRgs_0, L0, XLbRgs_0⟩]) 400 a32 [PV.list p0n p0c, PV.list p1n p1c] (fun rv => decR (RSh.one CK.bool) rv.pv) = tbRgs F L0 p0n p0c p1n p1c := by kernel_rfl
noncomputable abbrev FbRgs (args : List PV) := Fn env 32 (RSh.one CK.bool) args
theorem FbRgs_of  (p0n : Nat) (p0c : List PV) (p1n : Nat) (p1c : List PV) {res : (Bool)} (h : tbRgs (Fn env) LbRgs_0 p0n p0c p1n p1c = some res) : FbRgs [PV.list p0n p0c, PV.list p1n p1c] = some res :=
  fn_of EbRgs_ok rfl rfl (lo_cons (lpO_ok UbRgs) lo_nil) ((tbRgs_eq _ _ _ _ _ _).trans h)
def ErWind : List Entry := [.out 29 (RSh.one CK.bool)]
theorem ErWind_ok : ∀ e ∈ ErWind, EntOK env e := (ent_out ent_nil)
def trWind (F : FnT) (p0 : Int) : Option (Bool) :=
  bindO (F 29 (RSh.one CK.bool) [(PV.int .i64 p0), (PV.int .i64 (-10000 : Int)), (PV.int .i64 (10000 : Int))]) fun (y0 : (Bool)) =>
  bif y0 then
    some true
  else some false
theorem trWind_eq (F : FnT) (p0 : Int) : semF (callP F ErWind 20) s80 (loopT []) 400 a80 [PV.int .i64 p0] (fun rv => decR (RSh.one CK.bool) rv.pv) = trWind F p0 := by kernel_rfl
noncomputable abbrev FrWind (args : List PV) := Fn env 80 (RSh.one CK.bool) args
theorem FrWind_of  (p0 : Int) {res : (Bool)} (h : trWind (Fn env) p0 = some res) : FrWind [PV.int .i64 p0] = some res :=
  fn_of ErWind_ok rfl rfl lo_nil ((trWind_eq _ _).trans h)
def ErAtE : List Entry := [.out 29 (RSh.one CK.bool)]
theorem ErAtE_ok : ∀ e ∈ ErAtE, EntOK env e := (ent_out ent_nil)
def trAtE (F : FnT) (p0 : Int) : Option (Int) :=
  bindO (F 29 (RSh.one CK.bool) [(PV.int .i64 p0), (PV.int .i64 (0 : Int)), (PV.int .i64 (50000 : Int))]) fun (y0 : (Bool)) =>
  bif y0 then
    some (0 : Int)
  else some (2 : Int)
theorem trAtE_eq (F : FnT) (p0 : Int) : semF (callP F ErAtE 20) s34 (loopT []) 400 a34 [PV.int .i64 p0] (fun rv => decR (RSh.one (CK.int .i64)) rv.pv) = trAtE F p0 := by kernel_rfl
noncomputable abbrev FrAtE (args : List PV) := Fn env 34 (RSh.one (CK.int .i64)) args
theorem FrAtE_of  (p0 : Int) {res : (Int)} (h : trAtE (Fn env) p0 = some res) : FrAtE [PV.int .i64 p0] = some res :=
  fn_of ErAtE_ok rfl rfl lo_nil ((trAtE_eq _ _).trans h)
def ErCP : List Entry := [.out 34 (RSh.one (CK.int .i64)), .out 80 (RSh.one CK.bool)]
theorem ErCP_ok : ∀ e ∈ ErCP, EntOK env e := (ent_out (ent_out ent_nil))
def TrCP_0a (n0 : Nat) (c1 : List PV) (i2 : Int) : Q := ⟨(tm 74 [(0, (AV.p (PV.list n0 c1))), (4, (AV.p (PV.int .i64 i2)))]), (mm 74 [])⟩
def XrCP_0a (y : Int × Int) : Ext × Q := (Ext.ret, ⟨(tm 74 [(2, (AV.p (PV.int .i64 y.1))), (3, (AV.p (PV.int .i64 y.2)))]), (mm 74 [])⟩)
def IrCP_0a (q : Ext × S) : Int × Int := ((pP_int1 (pA_p (avT q.2 2))), (pP_int1 (pA_p (avT q.2 3))))
def XrCP_0b (_y : Unit) : Ext × Q := (Ext.normal, ⟨(tm 74 []), (mm 74 [])⟩)
def IrCP_0b (_q : Ext × S) : Unit := ()
abbrev YrCP_0 : Type := (Int × Int) ⊕ ((Unit))
def XLrCP_0 : XL YrCP_0 := .more XrCP_0a (.one XrCP_0b)
def IrCP_0 (q : Ext × S) : YrCP_0 := bif (cE q.1 == 2) then (Sum.inl (IrCP_0a q)) else (Sum.inr (IrCP_0b q))
theorem XIrCP_0a (y : Int × Int) : IrCP_0 (xe (XrCP_0a y)) = (Sum.inl y) := by kernel_rfl
theorem XIrCP_0b (y : Unit) : IrCP_0 (xe (XrCP_0b y)) = (Sum.inr y) := by kernel_rfl
theorem XIrCP_0 (y : YrCP_0) : IrCP_0 (xe (XLrCP_0.fn y)) = y := (match y with | .inl y => XIrCP_0a y | .inr y => XIrCP_0b y)
noncomputable abbrev LrCP_0 : Q → Option YrCP_0 := lpO env a28.body 0 XLrCP_0
noncomputable abbrev RrCP_0 : Q → Option (Ext × S) := lpR env a28.body 0
theorem UrCP : uniq ((blocksOf a28.body).map (·.1)) = true := by kernel_rfl
def BrCP_0a (F : FnT) (N : QO) (E : EO) (_L0 : Q → Option YrCP_0) (n0 : Nat) (c1 : List PV) (i2 : Int) : Option (Ext × S) :=
  bif (decide (i2 < (n0 : Int))) then
    bif (decide (((0 : Int) ≤ i2) ∧ (i2 < (n0 : Int)))) then
      bindO (intC .i64 (c1[(((Int.toNat i2) * 3) + 0)]?)) fun x0 =>
      bindO (F 34 (RSh.one (CK.int .i64)) [(PV.int .i64 x0)]) fun (y1 : (Int)) =>
      bif (y1 != (0 : Int)) then
        E (XrCP_0a (i2, (2 : Int)))
      else bif (decide (((0 : Int) ≤ i2) ∧ (i2 < (n0 : Int)))) then
        bindO (intC .i64 (c1[((((Int.toNat i2) * 3) + 1) + 0)]?)) fun x2 =>
        bindO (F 80 (RSh.one CK.bool) [(PV.int .i64 x2)]) fun (y3 : (Bool)) =>
        bif y3 then
          bif (decide (((0 : Int) ≤ i2) ∧ (i2 < (n0 : Int)))) then
            bindO (intC .i64 (c1[((((Int.toNat i2) * 3) + 1) + 1)]?)) fun x4 =>
            bindO (F 80 (RSh.one CK.bool) [(PV.int .i64 x4)]) fun (y5 : (Bool)) =>
            bif y5 then
              bif (decide (((0 : Int) ≤ i2) ∧ (i2 < (n0 : Int)))) then
                bindO (intC .i64 (c1[((((Int.toNat i2) * 3) + 1) + 0)]?)) fun x6 =>
                bif (decide (((0 : Int) ≤ i2) ∧ (i2 < (n0 : Int)))) then
                  bindO (intC .i64 (c1[((((Int.toNat i2) * 3) + 1) + 1)]?)) fun x7 =>
                  bif (decide (x6 > x7)) then
                    E (XrCP_0a (i2, (9 : Int)))
                  else bif (decide (i2 > (0 : Int))) then
                    bif (decide (((0 : Int) ≤ i2) ∧ (i2 < (n0 : Int)))) then
                      bindO (intC .i64 (c1[(((Int.toNat i2) * 3) + 0)]?)) fun x8 =>
                      bif (decide (((0 : Int) ≤ (w64 (i2 - (1 : Int)))) ∧ ((w64 (i2 - (1 : Int))) < (n0 : Int)))) then
                        bindO (intC .i64 (c1[(((Int.toNat (w64 (i2 - (1 : Int)))) * 3) + 0)]?)) fun x9 =>
                        bif (decide (x8 ≤ x9)) then
                          E (XrCP_0a (i2, (9 : Int)))
                        else N (TrCP_0a n0 c1 (w64 (i2 + (1 : Int))))
                      else none
                    else none
                  else N (TrCP_0a n0 c1 (w64 (i2 + (1 : Int))))
                else none
              else none
            else E (XrCP_0a (i2, (2 : Int)))
          else none
        else E (XrCP_0a (i2, (2 : Int)))
      else none
    else none
  else E (XrCP_0b ())
theorem BrCP_0a_eq (F : FnT) (N : QO) (E : EO) (L0 : Q → Option YrCP_0) (n0 : Nat) (c1 : List PV) (i2 : Int) : semB (callP F ErCP 20) s28 (loopT [⟨0, YrCP_0, L0, XLrCP_0⟩]) 400 (blkIn a28.body 0) N E (TrCP_0a n0 c1 i2) = BrCP_0a F N E L0 n0 c1 i2 := by kernel_rfl
theorem RrCP_0a_of  (n0 : Nat) (c1 : List PV) (i2 : Int) {r : Ext × S} (h : BrCP_0a (Fn env) RrCP_0 exO LrCP_0 n0 c1 i2 = some r) : RrCP_0 (TrCP_0a n0 c1 i2) = some r :=
  lp_of ErCP_ok (by kernel_rfl) (lo_cons (lpO_ok UrCP) lo_nil) (by kernel_rfl) ((BrCP_0a_eq _ _ _ _ _ _ _).trans h)
def trCP (_F : FnT) (L0 : Q → Option YrCP_0) (p0n : Nat) (p0c : List PV) : Option ((Int) × (Int)) :=
  bif (decide ((p0n : Int) > (20 : Int))) then
    some ((0 : Int), (8 : Int))
  else bindO (L0 (TrCP_0a p0n p0c (0 : Int))) fun z =>
  Sum.elim (fun y0 =>
    some (y0.1, y0.2)) (fun _y1 =>
    some ((0 : Int), (0 : Int))) z
theorem trCP_eq (F : FnT) (L0 : Q → Option YrCP_0) (p0n : Nat) (p0c : List PV) : semF (callP F ErCP 20) s28 (loopT [⟨0, YrCP_0, L0, XLrCP_0⟩]) 400 a28 [PV.list p0n p0c] (fun rv => decR (RSh.tup [(Prod.mk false [(CK.int .i64)]), (Prod.mk false [(CK.int .i64)])]) rv.pv) = trCP F L0 p0n p0c := by kernel_rfl
noncomputable abbrev FrCP (args : List PV) := Fn env 28 (RSh.tup [(Prod.mk false [(CK.int .i64)]), (Prod.mk false [(CK.int .i64)])]) args
theorem FrCP_of  (p0n : Nat) (p0c : List PV) {res : ((Int) × (Int))} (h : trCP (Fn env) LrCP_0 p0n p0c = some res) : FrCP [PV.list p0n p0c] = some res :=
  fn_of ErCP_ok rfl rfl (lo_cons (lpO_ok UrCP) lo_nil) ((trCP_eq _ _ _ _).trans h)
def ErLoss : List Entry := []
theorem ErLoss_ok : ∀ e ∈ ErLoss, EntOK env e := ent_nil
def trLoss (_F : FnT) (p0n : Nat) (p0c : List PV) (p1 : Int) (p2 : Int) : Option ((Int) × (Int)) :=
  bif (decide (((0 : Int) ≤ p1) ∧ (p1 < (p0n : Int)))) then
    bindO (intC .i64 (p0c[(((Int.toNat p1) * 3) + 1)]?)) fun x0 =>
    bindO (intC .i64 (p0c[((((Int.toNat p1) * 3) + 1) + 1)]?)) fun x1 =>
    bif (decide (((0 : Int) ≤ p2) ∧ (p2 < (p0n : Int)))) then
      bindO (intC .i64 (p0c[(((Int.toNat p2) * 3) + 1)]?)) fun x2 =>
      bindO (intC .i64 (p0c[((((Int.toNat p2) * 3) + 1) + 1)]?)) fun x3 =>
      some ((w64 (x0 - x3)), (w64 (x1 - x2)))
    else none
  else none
theorem trLoss_eq (F : FnT) (p0n : Nat) (p0c : List PV) (p1 : Int) (p2 : Int) : semF (callP F ErLoss 20) s30 (loopT []) 400 a30 [PV.list p0n p0c, PV.int .i64 p1, PV.int .i64 p2] (fun rv => decR (RSh.agg [(CK.int .i64), (CK.int .i64)]) rv.pv) = trLoss F p0n p0c p1 p2 := by kernel_rfl
noncomputable abbrev FrLoss (args : List PV) := Fn env 30 (RSh.agg [(CK.int .i64), (CK.int .i64)]) args
theorem FrLoss_of  (p0n : Nat) (p0c : List PV) (p1 : Int) (p2 : Int) {res : ((Int) × (Int))} (h : trLoss (Fn env) p0n p0c p1 p2 = some res) : FrLoss [PV.list p0n p0c, PV.int .i64 p1, PV.int .i64 p2] = some res :=
  fn_of ErLoss_ok rfl rfl lo_nil ((trLoss_eq _ _ _ _ _).trans h)
def ErOpp : List Entry := []
theorem ErOpp_ok : ∀ e ∈ ErOpp, EntOK env e := ent_nil
def trOpp (_F : FnT) (p0_0 : Int) (p0_1 : Int) : Option ((Int) × (Int)) :=
  some ((w64 ((0 : Int) - p0_1)), (w64 ((0 : Int) - p0_0)))
theorem trOpp_eq (F : FnT) (p0_0 : Int) (p0_1 : Int) : semF (callP F ErOpp 20) s94 (loopT []) 400 a94 [PV.agg [PV.int .i64 p0_0, PV.int .i64 p0_1]] (fun rv => decR (RSh.agg [(CK.int .i64), (CK.int .i64)]) rv.pv) = trOpp F p0_0 p0_1 := by kernel_rfl
noncomputable abbrev FrOpp (args : List PV) := Fn env 94 (RSh.agg [(CK.int .i64), (CK.int .i64)]) args
theorem FrOpp_of  (p0_0 : Int) (p0_1 : Int) {res : ((Int) × (Int))} (h : trOpp (Fn env) p0_0 p0_1 = some res) : FrOpp [PV.agg [PV.int .i64 p0_0, PV.int .i64 p0_1]] = some res :=
  fn_of ErOpp_ok rfl rfl lo_nil ((trOpp_eq _ _ _).trans h)
def ErStr : List Entry := [.out 30 (RSh.agg [(CK.int .i64), (CK.int .i64)]), .out 94 (RSh.agg [(CK.int .i64), (CK.int .i64)])]
theorem ErStr_ok : ∀ e ∈ ErStr, EntOK env e := (ent_out (ent_out ent_nil))
def TrStr_0a (n0 : Nat) (c1 : List PV) (i2 : Int) (b3 : Bool) (b4 : Bool) (i5 : Int) (i6 : Int) (i7 : Int) (i8 : Int) (i9 : Int) : Q := ⟨(tm 63 [(0, (AV.p (PV.list n0 c1))), (1, (AV.p (PV.int .i64 i2))), (2, (AV.p (PV.bool b3))), (6, (AV.loc 6 0)), (8, (AV.loc 8 0)), (9, (AV.p (PV.bool b4))), (10, (AV.p (PV.int .i64 i5)))]), (mm 63 [(6, (Bk.pcs true [(PV.int .i64 (0 : Int)), (PV.int .i64 (0 : Int)), (PV.int .i64 (0 : Int)), (PV.int .i64 (0 : Int))])), (8, (Bk.pcs true [(PV.int .i64 i6), (PV.int .i64 i7), (PV.int .i64 i8), (PV.int .i64 i9)]))])⟩
def XrStr_0a (y : Bool × Int × Int × Int × Int) : Ext × Q := (Ext.normal, ⟨(tm 63 [(6, (AV.loc 6 0)), (8, (AV.loc 8 0)), (9, (AV.p (PV.bool y.1)))]), (mm 63 [(6, (Bk.pcs true [(PV.int .i64 (0 : Int)), (PV.int .i64 (0 : Int)), (PV.int .i64 (0 : Int)), (PV.int .i64 (0 : Int))])), (8, (Bk.pcs true [(PV.int .i64 y.2.1), (PV.int .i64 y.2.2.1), (PV.int .i64 y.2.2.2.1), (PV.int .i64 y.2.2.2.2)]))])⟩)
def IrStr_0a (q : Ext × S) : Bool × Int × Int × Int × Int := ((pP_bool0 (pA_p (avT q.2 9))), (pP_int1 (hdP (pB_pcs1 (avM q.2 8)))), (pP_int1 (hdP (List.tail (pB_pcs1 (avM q.2 8))))), (pP_int1 (hdP (List.tail (List.tail (pB_pcs1 (avM q.2 8)))))), (pP_int1 (hdP (List.tail (List.tail (List.tail (pB_pcs1 (avM q.2 8))))))))
abbrev YrStr_0 : Type := Bool × Int × Int × Int × Int
def XLrStr_0 : XL YrStr_0 := .one XrStr_0a
def IrStr_0 (q : Ext × S) : YrStr_0 := (IrStr_0a q)
theorem XIrStr_0a (y : Bool × Int × Int × Int × Int) : IrStr_0 (xe (XrStr_0a y)) = y := by kernel_rfl
theorem XIrStr_0 (y : YrStr_0) : IrStr_0 (xe (XLrStr_0.fn y)) = y := XIrStr_0a y
noncomputable abbrev LrStr_0 : Q → Option YrStr_0 := lpO env a35.body 0 XLrStr_0
noncomputable abbrev RrStr_0 : Q → Option (Ext × S) := lpR env a35.body 0
theorem LrStr_0a_of {s : Q} {y : Bool × Int × Int × Int × Int} (h : RrStr_0 s = exO (XrStr_0a y)) : LrStr_0 s = some y := lpO_of IrStr_0 XIrStr_0 (y := y) h
def TrStr_2a (n0 : Nat) (c1 : List PV) (i2 : Int) (b3 : Bool) (b4 : Bool) (i5 : Int) (i6 : Int) (i7 : Int) (i8 : Int) (i9 : Int) (i10 : Int) : Q := ⟨(tm 63 [(0, (AV.p (PV.list n0 c1))), (1, (AV.p (PV.int .i64 i2))), (2, (AV.p (PV.bool b3))), (6, (AV.loc 6 0)), (8, (AV.loc 8 0)), (9, (AV.p (PV.bool b4))), (10, (AV.p (PV.int .i64 i5))), (11, (AV.p (PV.int .i64 i6)))]), (mm 63 [(6, (Bk.pcs true [(PV.int .i64 (0 : Int)), (PV.int .i64 (0 : Int)), (PV.int .i64 (0 : Int)), (PV.int .i64 (0 : Int))])), (8, (Bk.pcs true [(PV.int .i64 i7), (PV.int .i64 i8), (PV.int .i64 i9), (PV.int .i64 i10)]))])⟩
def XrStr_2a (y : Nat × List PV × Int × Bool × Bool × Int × Int × Int × Int × Int) : Ext × Q := (Ext.normal, ⟨(tm 63 [(0, (AV.p (PV.list y.1 y.2.1))), (1, (AV.p (PV.int .i64 y.2.2.1))), (2, (AV.p (PV.bool y.2.2.2.1))), (6, (AV.loc 6 0)), (8, (AV.loc 8 0)), (9, (AV.p (PV.bool y.2.2.2.2.1))), (10, (AV.p (PV.int .i64 y.2.2.2.2.2.1)))]), (mm 63 [(6, (Bk.pcs true [(PV.int .i64 (0 : Int)), (PV.int .i64 (0 : Int)), (PV.int .i64 (0 : Int)), (PV.int .i64 (0 : Int))])), (8, (Bk.pcs true [(PV.int .i64 y.2.2.2.2.2.2.1), (PV.int .i64 y.2.2.2.2.2.2.2.1), (PV.int .i64 y.2.2.2.2.2.2.2.2.1), (PV.int .i64 y.2.2.2.2.2.2.2.2.2)]))])⟩)
def IrStr_2a (q : Ext × S) : Nat × List PV × Int × Bool × Bool × Int × Int × Int × Int × Int := ((pP_list0 (pA_p (avT q.2 0))), (pP_list1 (pA_p (avT q.2 0))), (pP_int1 (pA_p (avT q.2 1))), (pP_bool0 (pA_p (avT q.2 2))), (pP_bool0 (pA_p (avT q.2 9))), (pP_int1 (pA_p (avT q.2 10))), (pP_int1 (hdP (pB_pcs1 (avM q.2 8)))), (pP_int1 (hdP (List.tail (pB_pcs1 (avM q.2 8))))), (pP_int1 (hdP (List.tail (List.tail (pB_pcs1 (avM q.2 8)))))), (pP_int1 (hdP (List.tail (List.tail (List.tail (pB_pcs1 (avM q.2 8))))))))
abbrev YrStr_2 : Type := Nat × List PV × Int × Bool × Bool × Int × Int × Int × Int × Int
def XLrStr_2 : XL YrStr_2 := .one XrStr_2a
def IrStr_2 (q : Ext × S) : YrStr_2 := (IrStr_2a q)
theorem XIrStr_2a (y : Nat × List PV × Int × Bool × Bool × Int × Int × Int × Int × Int) : IrStr_2 (xe (XrStr_2a y)) = y := by kernel_rfl
theorem XIrStr_2 (y : YrStr_2) : IrStr_2 (xe (XLrStr_2.fn y)) = y := XIrStr_2a y
noncomputable abbrev LrStr_2 : Q → Option YrStr_2 := lpO env a35.body 2 XLrStr_2
noncomputable abbrev RrStr_2 : Q → Option (Ext × S) := lpR env a35.body 2
theorem LrStr_2a_of {s : Q} {y : Nat × List PV × Int × Bool × Bool × Int × Int × Int × Int × Int} (h : RrStr_2 s = exO (XrStr_2a y)) : LrStr_2 s = some y := lpO_of IrStr_2 XIrStr_2 (y := y) h
theorem UrStr : uniq ((blocksOf a35.body).map (·.1)) = true := by kernel_rfl
def BrStr_0a (_F : FnT) (N : QO) (E : EO) (_L0 : Q → Option YrStr_0) (L2 : Q → Option YrStr_2) (n0 : Nat) (c1 : List PV) (i2 : Int) (b3 : Bool) (b4 : Bool) (i5 : Int) (i6 : Int) (i7 : Int) (i8 : Int) (i9 : Int) : Option (Ext × S) :=
  bif (decide (i5 < (n0 : Int))) then
    bindO (L2 (TrStr_2a n0 c1 i2 b3 b4 i5 (w64 (i5 + (1 : Int))) i6 i7 i8 i9)) fun y0 =>
    N (TrStr_0a y0.1 y0.2.1 y0.2.2.1 y0.2.2.2.1 y0.2.2.2.2.1 (w64 (y0.2.2.2.2.2.1 + (1 : Int))) y0.2.2.2.2.2.2.1 y0.2.2.2.2.2.2.2.1 y0.2.2.2.2.2.2.2.2.1 y0.2.2.2.2.2.2.2.2.2)
  else E (XrStr_0a (b4, i6, i7, i8, i9))
theorem BrStr_0a_eq (F : FnT) (N : QO) (E : EO) (L0 : Q → Option YrStr_0) (L2 : Q → Option YrStr_2) (n0 : Nat) (c1 : List PV) (i2 : Int) (b3 : Bool) (b4 : Bool) (i5 : Int) (i6 : Int) (i7 : Int) (i8 : Int) (i9 : Int) : semB (callP F ErStr 20) s35 (loopT [⟨0, YrStr_0, L0, XLrStr_0⟩, ⟨2, YrStr_2, L2, XLrStr_2⟩]) 400 (blkIn a35.body 0) N E (TrStr_0a n0 c1 i2 b3 b4 i5 i6 i7 i8 i9) = BrStr_0a F N E L0 L2 n0 c1 i2 b3 b4 i5 i6 i7 i8 i9 := by kernel_rfl
theorem RrStr_0a_of  (n0 : Nat) (c1 : List PV) (i2 : Int) (b3 : Bool) (b4 : Bool) (i5 : Int) (i6 : Int) (i7 : Int) (i8 : Int) (i9 : Int) {r : Ext × S} (h : BrStr_0a (Fn env) RrStr_0 exO LrStr_0 LrStr_2 n0 c1 i2 b3 b4 i5 i6 i7 i8 i9 = some r) : RrStr_0 (TrStr_0a n0 c1 i2 b3 b4 i5 i6 i7 i8 i9) = some r :=
  lp_of ErStr_ok (by kernel_rfl) (lo_cons (lpO_ok UrStr) (lo_cons (lpO_ok UrStr) lo_nil)) (by kernel_rfl) ((BrStr_0a_eq _ _ _ _ _ _ _ _ _ _ _ _ _ _ _).trans h)
def BrStr_2a (F : FnT) (N : QO) (E : EO) (_L0 : Q → Option YrStr_0) (_L2 : Q → Option YrStr_2) (n0 : Nat) (c1 : List PV) (i2 : Int) (b3 : Bool) (b4 : Bool) (i5 : Int) (i6 : Int) (i7 : Int) (i8 : Int) (i9 : Int) (i10 : Int) : Option (Ext × S) :=
  bif (decide (i6 < (n0 : Int))) then
    bif (decide (((0 : Int) ≤ i6) ∧ (i6 < (n0 : Int)))) then
      bindO (intC .i64 (c1[(((Int.toNat i6) * 3) + 0)]?)) fun x0 =>
      bif (decide (((0 : Int) ≤ i5) ∧ (i5 < (n0 : Int)))) then
        bindO (intC .i64 (c1[(((Int.toNat i5) * 3) + 0)]?)) fun x1 =>
        bif (decide ((w64 (x0 - x1)) > i2)) then
          N (TrStr_2a n0 c1 i2 b3 b4 i5 (w64 (i6 + (1 : Int))) i7 i8 i9 i10)
        else bindO (F 30 (RSh.agg [(CK.int .i64), (CK.int .i64)]) [(PV.list n0 c1), (PV.int .i64 i5), (PV.int .i64 i6)]) fun (y2 : ((Int) × (Int))) =>
        bif b3 then
          bindO (F 94 (RSh.agg [(CK.int .i64), (CK.int .i64)]) [(PV.agg [(PV.int .i64 y2.1), (PV.int .i64 y2.2)])]) fun (y3 : ((Int) × (Int))) =>
          bif b4 then
            bif (decide (y3.1 > i9)) then
              N (TrStr_2a n0 c1 i2 b3 true i5 (w64 (i6 + (1 : Int))) i5 i6 y3.1 y3.2)
            else N (TrStr_2a n0 c1 i2 b3 b4 i5 (w64 (i6 + (1 : Int))) i7 i8 i9 i10)
          else N (TrStr_2a n0 c1 i2 b3 true i5 (w64 (i6 + (1 : Int))) i5 i6 y3.1 y3.2)
        else bif b4 then
          bif (decide (y2.1 > i9)) then
            N (TrStr_2a n0 c1 i2 b3 true i5 (w64 (i6 + (1 : Int))) i5 i6 y2.1 y2.2)
          else N (TrStr_2a n0 c1 i2 b3 b4 i5 (w64 (i6 + (1 : Int))) i7 i8 i9 i10)
        else N (TrStr_2a n0 c1 i2 b3 true i5 (w64 (i6 + (1 : Int))) i5 i6 y2.1 y2.2)
      else none
    else none
  else E (XrStr_2a (n0, c1, i2, b3, b4, i5, i7, i8, i9, i10))
theorem BrStr_2a_eq (F : FnT) (N : QO) (E : EO) (L0 : Q → Option YrStr_0) (L2 : Q → Option YrStr_2) (n0 : Nat) (c1 : List PV) (i2 : Int) (b3 : Bool) (b4 : Bool) (i5 : Int) (i6 : Int) (i7 : Int) (i8 : Int) (i9 : Int) (i10 : Int) : semB (callP F ErStr 20) s35 (loopT [⟨0, YrStr_0, L0, XLrStr_0⟩, ⟨2, YrStr_2, L2, XLrStr_2⟩]) 400 (blkIn a35.body 2) N E (TrStr_2a n0 c1 i2 b3 b4 i5 i6 i7 i8 i9 i10) = BrStr_2a F N E L0 L2 n0 c1 i2 b3 b4 i5 i6 i7 i8 i9 i10 := by kernel_rfl
theorem RrStr_2a_of  (n0 : Nat) (c1 : List PV) (i2 : Int) (b3 : Bool) (b4 : Bool) (i5 : Int) (i6 : Int) (i7 : Int) (i8 : Int) (i9 : Int) (i10 : Int) {r : Ext × S} (h : BrStr_2a (Fn env) RrStr_2 exO LrStr_0 LrStr_2 n0 c1 i2 b3 b4 i5 i6 i7 i8 i9 i10 = some r) : RrStr_2 (TrStr_2a n0 c1 i2 b3 b4 i5 i6 i7 i8 i9 i10) = some r :=
  lp_of ErStr_ok (by kernel_rfl) (lo_cons (lpO_ok UrStr) (lo_cons (lpO_ok UrStr) lo_nil)) (by kernel_rfl) ((BrStr_2a_eq _ _ _ _ _ _ _ _ _ _ _ _ _ _ _ _).trans h)
def trStr (_F : FnT) (L0 : Q → Option YrStr_0) (_L2 : Q → Option YrStr_2) (p0n : Nat) (p0c : List PV) (p1 : Int) (p2 : Bool) : Option ((Int) × ((Int) × ((Int) × ((Int) × (Bool))))) :=
  bindO (L0 (TrStr_0a p0n p0c p1 p2 false (0 : Int) (0 : Int) (0 : Int) (0 : Int) (0 : Int))) fun y0 =>
  bif y0.1 then
    some (y0.2.1, (y0.2.2.1, (y0.2.2.2.1, (y0.2.2.2.2, true))))
  else some (y0.2.1, (y0.2.2.1, (y0.2.2.2.1, (y0.2.2.2.2, false))))
theorem trStr_eq (F : FnT) (L0 : Q → Option YrStr_0) (L2 : Q → Option YrStr_2) (p0n : Nat) (p0c : List PV) (p1 : Int) (p2 : Bool) : semF (callP F ErStr 20) s35 (loopT [⟨0, YrStr_0, L0, XLrStr_0⟩, ⟨2, YrStr_2, L2, XLrStr_2⟩]) 400 a35 [PV.list p0n p0c, PV.int .i64 p1, PV.bool p2] (fun rv => decR (RSh.tup [(Prod.mk true [(CK.int .i64), (CK.int .i64), (CK.int .i64), (CK.int .i64)]), (Prod.mk false [CK.bool])]) rv.pv) = trStr F L0 L2 p0n p0c p1 p2 := by kernel_rfl
noncomputable abbrev FrStr (args : List PV) := Fn env 35 (RSh.tup [(Prod.mk true [(CK.int .i64), (CK.int .i64), (CK.int .i64), (CK.int .i64)]), (Prod.mk false [CK.bool])]) args
theorem FrStr_of  (p0n : Nat) (p0c : List PV) (p1 : Int) (p2 : Bool) {res : ((Int) × ((Int) × ((Int) × ((Int) × (Bool)))))} (h : trStr (Fn env) LrStr_0 LrStr_2 p0n p0c p1 p2 = some res) : FrStr [PV.list p0n p0c, PV.int .i64 p1, PV.bool p2] = some res :=
  fn_of ErStr_ok rfl rfl (lo_cons (lpO_ok UrStr) (lo_cons (lpO_ok UrStr) lo_nil)) ((trStr_eq _ _ _ _ _ _ _).trans h)
def ErPos : List Entry := [.out 30 (RSh.agg [(CK.int .i64), (CK.int .i64)])]
theorem ErPos_ok : ∀ e ∈ ErPos, EntOK env e := (ent_out ent_nil)
def TrPos_0a (n0 : Nat) (c1 : List PV) (i2 : Int) (i3 : Int) (b4 : Bool) (i5 : Int) : Q := ⟨(tm 55 [(0, (AV.p (PV.list n0 c1))), (1, (AV.p (PV.int .i64 i2))), (6, (AV.p (PV.int .i64 i3))), (7, (AV.p (PV.bool b4))), (8, (AV.p (PV.int .i64 i5)))]), (mm 55 [])⟩
def XrPos_0a (y : Int × Bool) : Ext × Q := (Ext.normal, ⟨(tm 55 [(6, (AV.p (PV.int .i64 y.1))), (7, (AV.p (PV.bool y.2)))]), (mm 55 [])⟩)
def IrPos_0a (q : Ext × S) : Int × Bool := ((pP_int1 (pA_p (avT q.2 6))), (pP_bool0 (pA_p (avT q.2 7))))
abbrev YrPos_0 : Type := Int × Bool
def XLrPos_0 : XL YrPos_0 := .one XrPos_0a
def IrPos_0 (q : Ext × S) : YrPos_0 := (IrPos_0a q)
theorem XIrPos_0a (y : Int × Bool) : IrPos_0 (xe (XrPos_0a y)) = y := by kernel_rfl
theorem XIrPos_0 (y : YrPos_0) : IrPos_0 (xe (XLrPos_0.fn y)) = y := XIrPos_0a y
noncomputable abbrev LrPos_0 : Q → Option YrPos_0 := lpO env a36.body 0 XLrPos_0
noncomputable abbrev RrPos_0 : Q → Option (Ext × S) := lpR env a36.body 0
theorem LrPos_0a_of {s : Q} {y : Int × Bool} (h : RrPos_0 s = exO (XrPos_0a y)) : LrPos_0 s = some y := lpO_of IrPos_0 XIrPos_0 (y := y) h
def TrPos_2a (n0 : Nat) (c1 : List PV) (i2 : Int) (i3 : Int) (b4 : Bool) (i5 : Int) (i6 : Int) : Q := ⟨(tm 55 [(0, (AV.p (PV.list n0 c1))), (1, (AV.p (PV.int .i64 i2))), (6, (AV.p (PV.int .i64 i3))), (7, (AV.p (PV.bool b4))), (8, (AV.p (PV.int .i64 i5))), (9, (AV.p (PV.int .i64 i6)))]), (mm 55 [])⟩
def XrPos_2a (y : Nat × List PV × Int × Int × Bool × Int) : Ext × Q := (Ext.normal, ⟨(tm 55 [(0, (AV.p (PV.list y.1 y.2.1))), (1, (AV.p (PV.int .i64 y.2.2.1))), (6, (AV.p (PV.int .i64 y.2.2.2.1))), (7, (AV.p (PV.bool y.2.2.2.2.1))), (8, (AV.p (PV.int .i64 y.2.2.2.2.2)))]), (mm 55 [])⟩)
def IrPos_2a (q : Ext × S) : Nat × List PV × Int × Int × Bool × Int := ((pP_list0 (pA_p (avT q.2 0))), (pP_list1 (pA_p (avT q.2 0))), (pP_int1 (pA_p (avT q.2 1))), (pP_int1 (pA_p (avT q.2 6))), (pP_bool0 (pA_p (avT q.2 7))), (pP_int1 (pA_p (avT q.2 8))))
abbrev YrPos_2 : Type := Nat × List PV × Int × Int × Bool × Int
def XLrPos_2 : XL YrPos_2 := .one XrPos_2a
def IrPos_2 (q : Ext × S) : YrPos_2 := (IrPos_2a q)
theorem XIrPos_2a (y : Nat × List PV × Int × Int × Bool × Int) : IrPos_2 (xe (XrPos_2a y)) = y := by kernel_rfl
theorem XIrPos_2 (y : YrPos_2) : IrPos_2 (xe (XLrPos_2.fn y)) = y := XIrPos_2a y
noncomputable abbrev LrPos_2 : Q → Option YrPos_2 := lpO env a36.body 2 XLrPos_2
noncomputable abbrev RrPos_2 : Q → Option (Ext × S) := lpR env a36.body 2
theorem LrPos_2a_of {s : Q} {y : Nat × List PV × Int × Int × Bool × Int} (h : RrPos_2 s = exO (XrPos_2a y)) : LrPos_2 s = some y := lpO_of IrPos_2 XIrPos_2 (y := y) h
theorem UrPos : uniq ((blocksOf a36.body).map (·.1)) = true := by kernel_rfl
def BrPos_0a (_F : FnT) (N : QO) (E : EO) (_L0 : Q → Option YrPos_0) (L2 : Q → Option YrPos_2) (n0 : Nat) (c1 : List PV) (i2 : Int) (i3 : Int) (b4 : Bool) (i5 : Int) : Option (Ext × S) :=
  bif (decide (i5 < (n0 : Int))) then
    bindO (L2 (TrPos_2a n0 c1 i2 i3 b4 i5 (w64 (i5 + (1 : Int))))) fun y0 =>
    N (TrPos_0a y0.1 y0.2.1 y0.2.2.1 y0.2.2.2.1 y0.2.2.2.2.1 (w64 (y0.2.2.2.2.2 + (1 : Int))))
  else E (XrPos_0a (i3, b4))
theorem BrPos_0a_eq (F : FnT) (N : QO) (E : EO) (L0 : Q → Option YrPos_0) (L2 : Q → Option YrPos_2) (n0 : Nat) (c1 : List PV) (i2 : Int) (i3 : Int) (b4 : Bool) (i5 : Int) : semB (callP F ErPos 20) s36 (loopT [⟨0, YrPos_0, L0, XLrPos_0⟩, ⟨2, YrPos_2, L2, XLrPos_2⟩]) 400 (blkIn a36.body 0) N E (TrPos_0a n0 c1 i2 i3 b4 i5) = BrPos_0a F N E L0 L2 n0 c1 i2 i3 b4 i5 := by kernel_rfl
theorem RrPos_0a_of  (n0 : Nat) (c1 : List PV) (i2 : Int) (i3 : Int) (b4 : Bool) (i5 : Int) {r : Ext × S} (h : BrPos_0a (Fn env) RrPos_0 exO LrPos_0 LrPos_2 n0 c1 i2 i3 b4 i5 = some r) : RrPos_0 (TrPos_0a n0 c1 i2 i3 b4 i5) = some r :=
  lp_of ErPos_ok (by kernel_rfl) (lo_cons (lpO_ok UrPos) (lo_cons (lpO_ok UrPos) lo_nil)) (by kernel_rfl) ((BrPos_0a_eq _ _ _ _ _ _ _ _ _ _ _).trans h)
def BrPos_2a (F : FnT) (N : QO) (E : EO) (_L0 : Q → Option YrPos_0) (_L2 : Q → Option YrPos_2) (n0 : Nat) (c1 : List PV) (i2 : Int) (i3 : Int) (b4 : Bool) (i5 : Int) (i6 : Int) : Option (Ext × S) :=
  bif (decide (i6 < (n0 : Int))) then
    bindO (F 30 (RSh.agg [(CK.int .i64), (CK.int .i64)]) [(PV.list n0 c1), (PV.int .i64 i5), (PV.int .i64 i6)]) fun (y0 : ((Int) × (Int))) =>
    bif (decide (((0 : Int) ≤ i6) ∧ (i6 < (n0 : Int)))) then
      bindO (intC .i64 (c1[(((Int.toNat i6) * 3) + 0)]?)) fun x1 =>
      bif (decide (((0 : Int) ≤ i5) ∧ (i5 < (n0 : Int)))) then
        bindO (intC .i64 (c1[(((Int.toNat i5) * 3) + 0)]?)) fun x2 =>
        bif (decide ((w64 (x1 - x2)) ≤ i2)) then
          bif b4 then
            bif (decide (y0.2 > i3)) then
              N (TrPos_2a n0 c1 i2 y0.2 true i5 (w64 (i6 + (1 : Int))))
            else N (TrPos_2a n0 c1 i2 i3 b4 i5 (w64 (i6 + (1 : Int))))
          else N (TrPos_2a n0 c1 i2 y0.2 true i5 (w64 (i6 + (1 : Int))))
        else N (TrPos_2a n0 c1 i2 i3 b4 i5 (w64 (i6 + (1 : Int))))
      else none
    else none
  else E (XrPos_2a (n0, c1, i2, i3, b4, i5))
theorem BrPos_2a_eq (F : FnT) (N : QO) (E : EO) (L0 : Q → Option YrPos_0) (L2 : Q → Option YrPos_2) (n0 : Nat) (c1 : List PV) (i2 : Int) (i3 : Int) (b4 : Bool) (i5 : Int) (i6 : Int) : semB (callP F ErPos 20) s36 (loopT [⟨0, YrPos_0, L0, XLrPos_0⟩, ⟨2, YrPos_2, L2, XLrPos_2⟩]) 400 (blkIn a36.body 2) N E (TrPos_2a n0 c1 i2 i3 b4 i5 i6) = BrPos_2a F N E L0 L2 n0 c1 i2 i3 b4 i5 i6 := by kernel_rfl
theorem RrPos_2a_of  (n0 : Nat) (c1 : List PV) (i2 : Int) (i3 : Int) (b4 : Bool) (i5 : Int) (i6 : Int) {r : Ext × S} (h : BrPos_2a (Fn env) RrPos_2 exO LrPos_0 LrPos_2 n0 c1 i2 i3 b4 i5 i6 = some r) : RrPos_2 (TrPos_2a n0 c1 i2 i3 b4 i5 i6) = some r :=
  lp_of ErPos_ok (by kernel_rfl) (lo_cons (lpO_ok UrPos) (lo_cons (lpO_ok UrPos) lo_nil)) (by kernel_rfl) ((BrPos_2a_eq _ _ _ _ _ _ _ _ _ _ _ _).trans h)
def trPos (_F : FnT) (L0 : Q → Option YrPos_0) (_L2 : Q → Option YrPos_2) (p0n : Nat) (p0c : List PV) (p1 : Int) : Option ((Int) × (Bool)) :=
  bindO (L0 (TrPos_0a p0n p0c p1 (0 : Int) false (0 : Int))) fun y0 =>
  bif y0.2 then
    some (y0.1, true)
  else some (y0.1, false)
theorem trPos_eq (F : FnT) (L0 : Q → Option YrPos_0) (L2 : Q → Option YrPos_2) (p0n : Nat) (p0c : List PV) (p1 : Int) : semF (callP F ErPos 20) s36 (loopT [⟨0, YrPos_0, L0, XLrPos_0⟩, ⟨2, YrPos_2, L2, XLrPos_2⟩]) 400 a36 [PV.list p0n p0c, PV.int .i64 p1] (fun rv => decR (RSh.tup [(Prod.mk false [(CK.int .i64)]), (Prod.mk false [CK.bool])]) rv.pv) = trPos F L0 L2 p0n p0c p1 := by kernel_rfl
noncomputable abbrev FrPos (args : List PV) := Fn env 36 (RSh.tup [(Prod.mk false [(CK.int .i64)]), (Prod.mk false [CK.bool])]) args
theorem FrPos_of  (p0n : Nat) (p0c : List PV) (p1 : Int) {res : ((Int) × (Bool))} (h : trPos (Fn env) LrPos_0 LrPos_2 p0n p0c p1 = some res) : FrPos [PV.list p0n p0c, PV.int .i64 p1] = some res :=
  fn_of ErPos_ok rfl rfl (lo_cons (lpO_ok UrPos) (lo_cons (lpO_ok UrPos) lo_nil)) ((trPos_eq _ _ _ _ _ _).trans h)
def ErRam : List Entry := [.out 30 (RSh.agg [(CK.int .i64), (CK.int .i64)])]
theorem ErRam_ok : ∀ e ∈ ErRam, EntOK env e := (ent_out ent_nil)
def TrRam_0a (n0 : Nat) (c1 : List PV) (i2 : Int) (i3 : Int) : Q := ⟨(tm 51 [(0, (AV.p (PV.list n0 c1))), (1, (AV.p (PV.int .i64 i2))), (5, AV.nilS), (6, (AV.p (PV.int .i64 i3)))]), (mm 51 [])⟩
def TrRam_0b (n0 : Nat) (c1 : List PV) (i2 : Int) (n3 : Nat) (i4 : Int) (n5 : Nat) (c6 : List PV) : Q := ⟨(tm 51 [(0, (AV.p (PV.list n0 c1))), (1, (AV.p (PV.int .i64 i2))), (5, (AV.vap 49 n3 2)), (6, (AV.p (PV.int .i64 i4)))]), (mm 51 [(49, (Bk.vec true n5 2 c6))])⟩
def XrRam_0a (_y : Unit) : Ext × Q := (Ext.normal, ⟨(tm 51 [(5, AV.nilS)]), (mm 51 [])⟩)
def IrRam_0a (_q : Ext × S) : Unit := ()
def XrRam_0b (y : Nat × Nat × List PV) : Ext × Q := (Ext.normal, ⟨(tm 51 [(5, (AV.vap 49 y.1 2))]), (mm 51 [(49, (Bk.vec true y.2.1 2 y.2.2))])⟩)
def IrRam_0b (q : Ext × S) : Nat × Nat × List PV := ((pA_vap1 (avT q.2 5)), (pB_vec1 (avM q.2 49)), (pB_vec3 (avM q.2 49)))
abbrev YrRam_0 : Type := (Unit) ⊕ ((Nat × Nat × List PV))
def XLrRam_0 : XL YrRam_0 := .more XrRam_0a (.one XrRam_0b)
def IrRam_0 (q : Ext × S) : YrRam_0 := bif (cA (avT q.2 5) == 1) then (Sum.inl (IrRam_0a q)) else (Sum.inr (IrRam_0b q))
theorem XIrRam_0a (y : Unit) : IrRam_0 (xe (XrRam_0a y)) = (Sum.inl y) := by kernel_rfl
theorem XIrRam_0b (y : Nat × Nat × List PV) : IrRam_0 (xe (XrRam_0b y)) = (Sum.inr y) := by kernel_rfl
theorem XIrRam_0 (y : YrRam_0) : IrRam_0 (xe (XLrRam_0.fn y)) = y := (match y with | .inl y => XIrRam_0a y | .inr y => XIrRam_0b y)
noncomputable abbrev LrRam_0 : Q → Option YrRam_0 := lpO env a33.body 0 XLrRam_0
noncomputable abbrev RrRam_0 : Q → Option (Ext × S) := lpR env a33.body 0
theorem UrRam : uniq ((blocksOf a33.body).map (·.1)) = true := by kernel_rfl
def BrRam_0a (F : FnT) (N : QO) (E : EO) (_L0 : Q → Option YrRam_0) (n0 : Nat) (c1 : List PV) (i2 : Int) (i3 : Int) : Option (Ext × S) :=
  bif (decide (i3 < (n0 : Int))) then
    bindO (F 30 (RSh.agg [(CK.int .i64), (CK.int .i64)]) [(PV.list n0 c1), (PV.int .i64 (w64 (i3 - (1 : Int)))), (PV.int .i64 i3)]) fun (y0 : ((Int) × (Int))) =>
    bif (decide (y0.1 < i2)) then
      N (TrRam_0a n0 c1 i2 (w64 (i3 + (1 : Int))))
    else N (TrRam_0b n0 c1 i2 1 (w64 (i3 + (1 : Int))) 1 [(PV.int .i64 (w64 (i3 - (1 : Int)))), (PV.int .i64 i3)])
  else E (XrRam_0a ())
theorem BrRam_0a_eq (F : FnT) (N : QO) (E : EO) (L0 : Q → Option YrRam_0) (n0 : Nat) (c1 : List PV) (i2 : Int) (i3 : Int) : semB (callP F ErRam 20) s33 (loopT [⟨0, YrRam_0, L0, XLrRam_0⟩]) 400 (blkIn a33.body 0) N E (TrRam_0a n0 c1 i2 i3) = BrRam_0a F N E L0 n0 c1 i2 i3 := by kernel_rfl
theorem RrRam_0a_of  (n0 : Nat) (c1 : List PV) (i2 : Int) (i3 : Int) {r : Ext × S} (h : BrRam_0a (Fn env) RrRam_0 exO LrRam_0 n0 c1 i2 i3 = some r) : RrRam_0 (TrRam_0a n0 c1 i2 i3) = some r :=
  lp_of ErRam_ok (by kernel_rfl) (lo_cons (lpO_ok UrRam) lo_nil) (by kernel_rfl) ((BrRam_0a_eq _ _ _ _ _ _ _ _).trans h)
def BrRam_0b (F : FnT) (N : QO) (E : EO) (_L0 : Q → Option YrRam_0) (n0 : Nat) (c1 : List PV) (i2 : Int) (n3 : Nat) (i4 : Int) (n5 : Nat) (c6 : List PV) : Option (Ext × S) :=
  bif (decide (i4 < (n0 : Int))) then
    bindO (F 30 (RSh.agg [(CK.int .i64), (CK.int .i64)]) [(PV.list n0 c1), (PV.int .i64 (w64 (i4 - (1 : Int)))), (PV.int .i64 i4)]) fun (y0 : ((Int) × (Int))) =>
    bif (decide (y0.1 < i2)) then
      N (TrRam_0b n0 c1 i2 n3 (w64 (i4 + (1 : Int))) n5 c6)
    else bif (decide ((n3 : Int) > (0 : Int))) then
      bif (decide (((0 : Int) ≤ (w64 ((n3 : Int) - (1 : Int)))) ∧ ((w64 ((n3 : Int) - (1 : Int))) < (n3 : Int)))) then
        bif (decide (n5 = n3)) then
          bindO (intC .i64 (c6[(((Int.toNat (w64 ((n3 : Int) - (1 : Int)))) * 2) + 1)]?)) fun x1 =>
          bif (x1 == (w64 (i4 - (1 : Int)))) then
            bif (decide (((0 : Int) ≤ (w64 ((n3 : Int) - (1 : Int)))) ∧ ((w64 ((n3 : Int) - (1 : Int))) < (n3 : Int)))) then
              bif (decide (n5 = n3)) then
                bindO (Gv.overO c6 (((Int.toNat (w64 ((n3 : Int) - (1 : Int)))) * 2) + 1) [(PV.int .i64 i4)]) fun x2 =>
                N (TrRam_0b n0 c1 i2 n3 (w64 (i4 + (1 : Int))) n3 x2)
              else none
            else none
          else bif (decide ((n5 = n3) ∧ ((n3 + 1) ≤ big))) then
            N (TrRam_0b n0 c1 i2 (n3 + 1) (w64 (i4 + (1 : Int))) (n3 + 1) (c6 ++ [(PV.int .i64 (w64 (i4 - (1 : Int)))), (PV.int .i64 i4)]))
          else none
        else none
      else none
    else bif (decide ((n5 = n3) ∧ ((n3 + 1) ≤ big))) then
      N (TrRam_0b n0 c1 i2 (n3 + 1) (w64 (i4 + (1 : Int))) (n3 + 1) (c6 ++ [(PV.int .i64 (w64 (i4 - (1 : Int)))), (PV.int .i64 i4)]))
    else none
  else E (XrRam_0b (n3, n5, c6))
theorem BrRam_0b_eq (F : FnT) (N : QO) (E : EO) (L0 : Q → Option YrRam_0) (n0 : Nat) (c1 : List PV) (i2 : Int) (n3 : Nat) (i4 : Int) (n5 : Nat) (c6 : List PV) : semB (callP F ErRam 20) s33 (loopT [⟨0, YrRam_0, L0, XLrRam_0⟩]) 400 (blkIn a33.body 0) N E (TrRam_0b n0 c1 i2 n3 i4 n5 c6) = BrRam_0b F N E L0 n0 c1 i2 n3 i4 n5 c6 := by kernel_rfl
theorem RrRam_0b_of  (n0 : Nat) (c1 : List PV) (i2 : Int) (n3 : Nat) (i4 : Int) (n5 : Nat) (c6 : List PV) {r : Ext × S} (h : BrRam_0b (Fn env) RrRam_0 exO LrRam_0 n0 c1 i2 n3 i4 n5 c6 = some r) : RrRam_0 (TrRam_0b n0 c1 i2 n3 i4 n5 c6) = some r :=
  lp_of ErRam_ok (by kernel_rfl) (lo_cons (lpO_ok UrRam) lo_nil) (by kernel_rfl) ((BrRam_0b_eq _ _ _ _ _ _ _ _ _ _ _).trans h)
def trRam (_F : FnT) (L0 : Q → Option YrRam_0) (p0n : Nat) (p0c : List PV) (p1 : Int) : Option ((Nat) × (List PV)) :=
  bindO (L0 (TrRam_0a p0n p0c p1 (1 : Int))) fun z =>
  Sum.elim (fun _y0 =>
    some (0, [])) (fun y1 =>
    bif (decide (y1.2.1 = y1.1)) then
      some (y1.1, y1.2.2)
    else none) z
theorem trRam_eq (F : FnT) (L0 : Q → Option YrRam_0) (p0n : Nat) (p0c : List PV) (p1 : Int) : semF (callP F ErRam 20) s33 (loopT [⟨0, YrRam_0, L0, XLrRam_0⟩]) 400 a33 [PV.list p0n p0c, PV.int .i64 p1] (fun rv => decR (RSh.one CK.list) rv.pv) = trRam F L0 p0n p0c p1 := by kernel_rfl
noncomputable abbrev FrRam (args : List PV) := Fn env 33 (RSh.one CK.list) args
theorem FrRam_of  (p0n : Nat) (p0c : List PV) (p1 : Int) {res : ((Nat) × (List PV))} (h : trRam (Fn env) LrRam_0 p0n p0c p1 = some res) : FrRam [PV.list p0n p0c, PV.int .i64 p1] = some res :=
  fn_of ErRam_ok rfl rfl (lo_cons (lpO_ok UrRam) lo_nil) ((trRam_eq _ _ _ _ _).trans h)
def ErRamE : List Entry := [.out 29 (RSh.one CK.bool)]
theorem ErRamE_ok : ∀ e ∈ ErRamE, EntOK env e := (ent_out ent_nil)
def trRamE (F : FnT) (p0 : Int) : Option (Int) :=
  bindO (F 29 (RSh.one CK.bool) [(PV.int .i64 p0), (PV.int .i64 (1 : Int)), (PV.int .i64 (20000 : Int))]) fun (y0 : (Bool)) =>
  bif y0 then
    some (0 : Int)
  else some (2 : Int)
theorem trRamE_eq (F : FnT) (p0 : Int) : semF (callP F ErRamE 20) s31 (loopT []) 400 a31 [PV.int .i64 p0] (fun rv => decR (RSh.one (CK.int .i64)) rv.pv) = trRamE F p0 := by kernel_rfl
noncomputable abbrev FrRamE (args : List PV) := Fn env 31 (RSh.one (CK.int .i64)) args
theorem FrRamE_of  (p0 : Int) {res : (Int)} (h : trRamE (Fn env) p0 = some res) : FrRamE [PV.int .i64 p0] = some res :=
  fn_of ErRamE_ok rfl rfl lo_nil ((trRamE_eq _ _).trans h)
end Gv
