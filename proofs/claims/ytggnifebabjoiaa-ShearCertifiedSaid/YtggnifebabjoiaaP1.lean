/- What the functions do, round by round: P1. -/
import Derived.Test.YtggnifebabjoiaaGvEnv
namespace Gv
open Go
set_option maxRecDepth 100000
def EeIf : List Entry := []
theorem EeIf_ok : ∀ e ∈ EeIf, EntOK env e := ent_nil
def teIf (_F : FnT) (p0 : Bool) (p1 : Int) : Option (Int) :=
  bif p0 then
    some p1
  else some (0 : Int)
theorem teIf_eq (F : FnT) (p0 : Bool) (p1 : Int) : semF (callP F EeIf 20) s79 (loopT []) 400 a79 [PV.bool p0, PV.int .i64 p1] (fun rv => decR (RSh.one (CK.int .i64)) rv.pv) = teIf F p0 p1 := by kernel_rfl
noncomputable abbrev FeIf (args : List PV) := Fn env 79 (RSh.one (CK.int .i64)) args
theorem FeIf_of  (p0 : Bool) (p1 : Int) {res : (Int)} (h : teIf (Fn env) p0 p1 = some res) : FeIf [PV.bool p0, PV.int .i64 p1] = some res :=
  fn_of EeIf_ok rfl rfl lo_nil ((teIf_eq _ _ _).trans h)
def ErE : List Entry := [.inl 79 a79 s79]
theorem ErE_ok : ∀ e ∈ ErE, EntOK env e := (ent_inl rfl ent_nil)
def trE (_F : FnT) (p0 p1 p2 : Int) : Option (Int) :=
  bif (decide (p0 < p1)) then
    some (2 : Int)
  else bif (decide (p0 > p2)) then
    some (2 : Int)
  else some (0 : Int)
theorem trE_eq (F : FnT) (p0 p1 p2 : Int) : semF (callP F ErE 20) s78 (loopT []) 400 a78 [PV.int .i64 p0, PV.int .i64 p1, PV.int .i64 p2] (fun rv => decR (RSh.one (CK.int .i64)) rv.pv) = trE F p0 p1 p2 := by kernel_rfl
noncomputable abbrev FrE (args : List PV) := Fn env 78 (RSh.one (CK.int .i64)) args
theorem FrE_of  (p0 p1 p2 : Int) {res : (Int)} (h : trE (Fn env) p0 p1 p2 = some res) : FrE [PV.int .i64 p0, PV.int .i64 p1, PV.int .i64 p2] = some res :=
  fn_of ErE_ok rfl rfl lo_nil ((trE_eq _ _ _ _).trans h)
def ElenE : List Entry := [.out 78 (RSh.one (CK.int .i64))]
theorem ElenE_ok : ∀ e ∈ ElenE, EntOK env e := (ent_out ent_nil)
def tlenE (F : FnT) (p0 : Int) : Option (Int) :=
  bindO (F 78 (RSh.one (CK.int .i64)) [(PV.int .i64 p0), (PV.int .i64 (0 : Int)), (PV.int .i64 (50000 : Int))]) fun (y0 : (Int)) =>
  some y0
theorem tlenE_eq (F : FnT) (p0 : Int) : semF (callP F ElenE 20) s86 (loopT []) 400 a86 [PV.int .i64 p0] (fun rv => decR (RSh.one (CK.int .i64)) rv.pv) = tlenE F p0 := by kernel_rfl
noncomputable abbrev FlenE (args : List PV) := Fn env 86 (RSh.one (CK.int .i64)) args
theorem FlenE_of  (p0 : Int) {res : (Int)} (h : tlenE (Fn env) p0 = some res) : FlenE [PV.int .i64 p0] = some res :=
  fn_of ElenE_ok rfl rfl lo_nil ((tlenE_eq _ _).trans h)
def EwE : List Entry := [.out 78 (RSh.one (CK.int .i64))]
theorem EwE_ok : ∀ e ∈ EwE, EntOK env e := (ent_out ent_nil)
def twE (F : FnT) (p0 : Int) : Option (Int) :=
  bindO (F 78 (RSh.one (CK.int .i64)) [(PV.int .i64 p0), (PV.int .i64 (0 : Int)), (PV.int .i64 (250 : Int))]) fun (y0 : (Int)) =>
  some y0
theorem twE_eq (F : FnT) (p0 : Int) : semF (callP F EwE 20) s112 (loopT []) 400 a112 [PV.int .i64 p0] (fun rv => decR (RSh.one (CK.int .i64)) rv.pv) = twE F p0 := by kernel_rfl
noncomputable abbrev FwE (args : List PV) := Fn env 112 (RSh.one (CK.int .i64)) args
theorem FwE_of  (p0 : Int) {res : (Int)} (h : twE (Fn env) p0 = some res) : FwE [PV.int .i64 p0] = some res :=
  fn_of EwE_ok rfl rfl lo_nil ((twE_eq _ _).trans h)
def EfE2 : List Entry := []
theorem EfE2_ok : ∀ e ∈ EfE2, EntOK env e := ent_nil
def tfE2 (_F : FnT)(e0 e1 : Int) : Option (Int) :=
  bif (e0 != (0 : Int)) then
    some e0
  else bif (e1 != (0 : Int)) then
    some e1
  else some (0 : Int)
theorem tfE2_eq (F : FnT)(e0 e1 : Int) : semF (callP F EfE2 20) s73 (loopT []) 400 a73 [.list 2 [.int .i64 e0, .int .i64 e1]] (fun rv => decR (RSh.one (CK.int .i64)) rv.pv) = tfE2 F e0 e1 := by kernel_rfl
noncomputable abbrev FfE2 (args : List PV) := Fn env 73 (RSh.one (CK.int .i64)) args
theorem FfE2_of (e0 e1 : Int) {res : (Int)} (h : tfE2 (Fn env) e0 e1 = some res) : FfE2 [.list 2 [.int .i64 e0, .int .i64 e1]] = some res :=
  fn_of EfE2_ok rfl rfl lo_nil ((tfE2_eq _ _ _).trans h)
def EfE3 : List Entry := []
theorem EfE3_ok : ∀ e ∈ EfE3, EntOK env e := ent_nil
def tfE3 (_F : FnT)(e0 e1 e2 : Int) : Option (Int) :=
  bif (e0 != (0 : Int)) then
    some e0
  else bif (e1 != (0 : Int)) then
    some e1
  else bif (e2 != (0 : Int)) then
    some e2
  else some (0 : Int)
theorem tfE3_eq (F : FnT)(e0 e1 e2 : Int) : semF (callP F EfE3 20) s73 (loopT []) 400 a73 [.list 3 [.int .i64 e0, .int .i64 e1, .int .i64 e2]] (fun rv => decR (RSh.one (CK.int .i64)) rv.pv) = tfE3 F e0 e1 e2 := by kernel_rfl
noncomputable abbrev FfE3 (args : List PV) := Fn env 73 (RSh.one (CK.int .i64)) args
theorem FfE3_of (e0 e1 e2 : Int) {res : (Int)} (h : tfE3 (Fn env) e0 e1 e2 = some res) : FfE3 [.list 3 [.int .i64 e0, .int .i64 e1, .int .i64 e2]] = some res :=
  fn_of EfE3_ok rfl rfl lo_nil ((tfE3_eq _ _ _ _).trans h)
def EfE4 : List Entry := []
theorem EfE4_ok : ∀ e ∈ EfE4, EntOK env e := ent_nil
def tfE4 (_F : FnT)(e0 e1 e2 e3 : Int) : Option (Int) :=
  bif (e0 != (0 : Int)) then
    some e0
  else bif (e1 != (0 : Int)) then
    some e1
  else bif (e2 != (0 : Int)) then
    some e2
  else bif (e3 != (0 : Int)) then
    some e3
  else some (0 : Int)
theorem tfE4_eq (F : FnT)(e0 e1 e2 e3 : Int) : semF (callP F EfE4 20) s73 (loopT []) 400 a73 [.list 4 [.int .i64 e0, .int .i64 e1, .int .i64 e2, .int .i64 e3]] (fun rv => decR (RSh.one (CK.int .i64)) rv.pv) = tfE4 F e0 e1 e2 e3 := by kernel_rfl
noncomputable abbrev FfE4 (args : List PV) := Fn env 73 (RSh.one (CK.int .i64)) args
theorem FfE4_of (e0 e1 e2 e3 : Int) {res : (Int)} (h : tfE4 (Fn env) e0 e1 e2 e3 = some res) : FfE4 [.list 4 [.int .i64 e0, .int .i64 e1, .int .i64 e2, .int .i64 e3]] = some res :=
  fn_of EfE4_ok rfl rfl lo_nil ((tfE4_eq _ _ _ _ _).trans h)
def Eee1 : List Entry := [.out 78 (RSh.one (CK.int .i64)), .out 73 (RSh.one (CK.int .i64))]
theorem Eee1_ok : ∀ e ∈ Eee1, EntOK env e := (ent_out (ent_out ent_nil))
def tee1 (F : FnT)(x0 x1 lo hi : Int) : Option (Int) :=
  bindO (F 78 (RSh.one (CK.int .i64)) [(PV.int .i64 x0), (PV.int .i64 lo), (PV.int .i64 hi)]) fun (y0 : (Int)) =>
  bindO (F 78 (RSh.one (CK.int .i64)) [(PV.int .i64 x1), (PV.int .i64 lo), (PV.int .i64 hi)]) fun (y1 : (Int)) =>
  bindO (F 73 (RSh.one (CK.int .i64)) [(PV.list 2 [(PV.int .i64 y0), (PV.int .i64 y1)])]) fun (y2 : (Int)) =>
  some y2
theorem tee1_eq (F : FnT)(x0 x1 lo hi : Int) : semF (callP F Eee1 20) s115 (loopT []) 400 a115 [.agg [.int .i64 x0, .int .i64 x1], .imm [.int .i64 lo] 0, .imm [.int .i64 hi] 0] (fun rv => decR (RSh.one (CK.int .i64)) rv.pv) = tee1 F x0 x1 lo hi := by kernel_rfl
noncomputable abbrev Fee1 (args : List PV) := Fn env 115 (RSh.one (CK.int .i64)) args
theorem Fee1_of (x0 x1 lo hi : Int) {res : (Int)} (h : tee1 (Fn env) x0 x1 lo hi = some res) : Fee1 [.agg [.int .i64 x0, .int .i64 x1], .imm [.int .i64 lo] 0, .imm [.int .i64 hi] 0] = some res :=
  fn_of Eee1_ok rfl rfl lo_nil ((tee1_eq _ _ _ _ _).trans h)
def Eee2 : List Entry := [.out 79 (RSh.one (CK.int .i64))]
theorem Eee2_ok : ∀ e ∈ Eee2, EntOK env e := (ent_out ent_nil)
def tee2 (F : FnT)(x0 x1 : Int) : Option (Int) :=
  bif (decide (x0 > x1)) then
    bindO (F 79 (RSh.one (CK.int .i64)) [(PV.bool true), (PV.int .i64 (9 : Int))]) fun (y0 : (Int)) =>
    some y0
  else bindO (F 79 (RSh.one (CK.int .i64)) [(PV.bool false), (PV.int .i64 (9 : Int))]) fun (y1 : (Int)) =>
  some y1
theorem tee2_eq (F : FnT)(x0 x1 : Int) : semF (callP F Eee2 20) s116 (loopT []) 400 a116 [.agg [.int .i64 x0, .int .i64 x1]] (fun rv => decR (RSh.one (CK.int .i64)) rv.pv) = tee2 F x0 x1 := by kernel_rfl
noncomputable abbrev Fee2 (args : List PV) := Fn env 116 (RSh.one (CK.int .i64)) args
theorem Fee2_of (x0 x1 : Int) {res : (Int)} (h : tee2 (Fn env) x0 x1 = some res) : Fee2 [.agg [.int .i64 x0, .int .i64 x1]] = some res :=
  fn_of Eee2_ok rfl rfl lo_nil ((tee2_eq _ _ _).trans h)
def EeeA : List Entry := [.inl 114 a114 s114, .out 115 (RSh.one (CK.int .i64)), .out 116 (RSh.one (CK.int .i64)), .out 73 (RSh.one (CK.int .i64))]
theorem EeeA_ok : ∀ e ∈ EeeA, EntOK env e := (ent_inl rfl (ent_out (ent_out (ent_out ent_nil))))
def teeA (F : FnT)(lo hi x0 x1 : Int) : Option (Int) :=
  bindO (F 115 (RSh.one (CK.int .i64)) [(PV.agg [(PV.int .i64 x0), (PV.int .i64 x1)]), (PV.imm [(PV.int .i64 lo)] 0), (PV.imm [(PV.int .i64 hi)] 0)]) fun (y0 : (Int)) =>
  bif (y0 != (0 : Int)) then
    bindO (F 116 (RSh.one (CK.int .i64)) [(PV.agg [(PV.int .i64 x0), (PV.int .i64 x1)])]) fun (y1 : (Int)) =>
    bif (y1 != (0 : Int)) then
      bindO (F 73 (RSh.one (CK.int .i64)) [(PV.list 2 [(PV.int .i64 y0), (PV.int .i64 y1)])]) fun (y2 : (Int)) =>
      some y2
    else bindO (F 73 (RSh.one (CK.int .i64)) [(PV.list 2 [(PV.int .i64 y0), (PV.int .i64 (0 : Int))])]) fun (y3 : (Int)) =>
    some y3
  else bindO (F 116 (RSh.one (CK.int .i64)) [(PV.agg [(PV.int .i64 x0), (PV.int .i64 x1)])]) fun (y4 : (Int)) =>
  bif (y4 != (0 : Int)) then
    bindO (F 73 (RSh.one (CK.int .i64)) [(PV.list 2 [(PV.int .i64 (0 : Int)), (PV.int .i64 y4)])]) fun (y5 : (Int)) =>
    some y5
  else bindO (F 73 (RSh.one (CK.int .i64)) [(PV.list 2 [(PV.int .i64 (0 : Int)), (PV.int .i64 (0 : Int))])]) fun (y6 : (Int)) =>
  some y6
theorem teeA_eq (F : FnT)(lo hi x0 x1 : Int) : semF (callP F EeeA 20) s74 (loopT []) 400 a74 [.int .i64 lo, .int .i64 hi, .list 1 [.int .i64 x0, .int .i64 x1]] (fun rv => decR (RSh.one (CK.int .i64)) rv.pv) = teeA F lo hi x0 x1 := by kernel_rfl
noncomputable abbrev FeeA (args : List PV) := Fn env 74 (RSh.one (CK.int .i64)) args
theorem FeeA_of (lo hi x0 x1 : Int) {res : (Int)} (h : teeA (Fn env) lo hi x0 x1 = some res) : FeeA [.int .i64 lo, .int .i64 hi, .list 1 [.int .i64 x0, .int .i64 x1]] = some res :=
  fn_of EeeA_ok rfl rfl lo_nil ((teeA_eq _ _ _ _ _).trans h)
def TcP_1180000000a (n0 : Nat) (c1 : List PV) (i2 i3 i4 : Int) : Q := ⟨(tm 24 [(1, (AV.clo 85 [(AV.loc 24 0)])), (9, (AV.p (PV.list n0 c1))), (10, (AV.p (PV.int .i64 i2))), (11, (AV.p (PV.int .i64 i3)))]), (mm 26 [(24, (Bk.cells true [(AV.clo 117 [(AV.loc 25 0)])])), (25, (Bk.pcs true [(PV.int .i64 i4)]))])⟩
def XcP_1180000000a (y : Int × Int × Int) : Ext × Q := (Ext.ret, ⟨(tm 24 [(4, (AV.p (PV.int .i64 y.1))), (5, (AV.p (PV.int .i64 y.2.1)))]), (mm 26 [(24, (Bk.cells true [(AV.clo 117 [(AV.loc 25 0)])])), (25, (Bk.pcs true [(PV.int .i64 y.2.2)]))])⟩)
def IcP_1180000000a (q : Ext × S) : Int × Int × Int := ((pP_int1 (pA_p (avT q.2 4))), (pP_int1 (pA_p (avT q.2 5))), (pP_int1 (hdP (pB_pcs1 (avM q.2 25)))))
def XcP_1180000000b (y : Int) : Ext × Q := (Ext.normal, ⟨(tm 24 []), (mm 26 [(24, (Bk.cells true [(AV.clo 117 [(AV.loc 25 0)])])), (25, (Bk.pcs true [(PV.int .i64 y)]))])⟩)
def IcP_1180000000b (q : Ext × S) : Int := (pP_int1 (hdP (pB_pcs1 (avM q.2 25))))
abbrev YcP_1180000000 : Type := (Int × Int × Int) ⊕ ((Int))
def XLcP_1180000000 : XL YcP_1180000000 := .more XcP_1180000000a (.one XcP_1180000000b)
def IcP_1180000000 (q : Ext × S) : YcP_1180000000 := bif (cE q.1 == 2) then (Sum.inl (IcP_1180000000a q)) else (Sum.inr (IcP_1180000000b q))
theorem XIcP_1180000000a (y : Int × Int × Int) : IcP_1180000000 (xe (XcP_1180000000a y)) = (Sum.inl y) := by kernel_rfl
theorem XIcP_1180000000b (y : Int) : IcP_1180000000 (xe (XcP_1180000000b y)) = (Sum.inr y) := by kernel_rfl
theorem XIcP_1180000000 (y : YcP_1180000000) : IcP_1180000000 (xe (XLcP_1180000000.fn y)) = y := (match y with | .inl y => XIcP_1180000000a y | .inr y => XIcP_1180000000b y)
noncomputable abbrev LcP_1180000000 : Q → Option YcP_1180000000 := lpO env a118.body 0 XLcP_1180000000
noncomputable abbrev RcP_1180000000 : Q → Option (Ext × S) := lpR env a118.body 0
theorem UcPg118 : uniq ((blocksOf a118.body).map (·.1)) = true := by kernel_rfl
def EcP (L1180000000 : Q → Option YcP_1180000000) : List Entry := [.inp 118 a118 s118 [⟨0, YcP_1180000000, L1180000000, XLcP_1180000000⟩], .inl 83 a83 s83, .inl 84 a84 s84, .inl 85 a85 s85, .inl 117 a117 s117, .out 86 (RSh.one (CK.int .i64)), .out 74 (RSh.one (CK.int .i64)), .out 79 (RSh.one (CK.int .i64)), .out 73 (RSh.one (CK.int .i64))]
theorem EcP_ok : ∀ e ∈ EcP LcP_1180000000, EntOK env e := (ent_inp rfl (lo_cons (lpO_ok UcPg118) lo_nil) (ent_inl rfl (ent_inl rfl (ent_inl rfl (ent_inl rfl (ent_out (ent_out (ent_out (ent_out ent_nil)))))))))
def BcP_1180000000a (F : FnT) (N : QO) (E : EO) (_L1180000000 : Q → Option YcP_1180000000) (n0 : Nat) (c1 : List PV) (i2 i3 i4 : Int) : Option (Ext × S) :=
  bif (decide (i3 < i2)) then
    bif (decide (((0 : Int) ≤ i3) ∧ (i3 < (n0 : Int)))) then
      bindO (intC .i64 (c1[((Int.toNat i3) * 3)]?)) fun x0 =>
      bindO (intC .i64 (c1[(((Int.toNat i3) * 3) + 1)]?)) fun x1 =>
      bindO (intC .i64 (c1[((((Int.toNat i3) * 3) + 1) + 1)]?)) fun x2 =>
      bindO (F 86 (RSh.one (CK.int .i64)) [(PV.int .i64 x0)]) fun (y3 : (Int)) =>
      bindO (F 74 (RSh.one (CK.int .i64)) [(PV.int .i64 (-10000 : Int)), (PV.int .i64 (10000 : Int)), (PV.list 1 [(PV.int .i64 x1), (PV.int .i64 x2)])]) fun (y4 : (Int)) =>
      bif (decide (x0 ≤ i4)) then
        bindO (F 79 (RSh.one (CK.int .i64)) [(PV.bool true), (PV.int .i64 (9 : Int))]) fun (y5 : (Int)) =>
        bindO (F 73 (RSh.one (CK.int .i64)) [(PV.list 3 [(PV.int .i64 y3), (PV.int .i64 y4), (PV.int .i64 y5)])]) fun (y6 : (Int)) =>
        bif (y6 != (0 : Int)) then
          E (XcP_1180000000a (i3, y6, x0))
        else N (TcP_1180000000a n0 c1 i2 (w64 (i3 + (1 : Int))) x0)
      else bindO (F 79 (RSh.one (CK.int .i64)) [(PV.bool false), (PV.int .i64 (9 : Int))]) fun (y7 : (Int)) =>
      bindO (F 73 (RSh.one (CK.int .i64)) [(PV.list 3 [(PV.int .i64 y3), (PV.int .i64 y4), (PV.int .i64 y7)])]) fun (y8 : (Int)) =>
      bif (y8 != (0 : Int)) then
        E (XcP_1180000000a (i3, y8, x0))
      else N (TcP_1180000000a n0 c1 i2 (w64 (i3 + (1 : Int))) x0)
    else none
  else E (XcP_1180000000b i4)
theorem BcP_1180000000a_eq (F : FnT) (N : QO) (E : EO) (L1180000000 : Q → Option YcP_1180000000) (n0 : Nat) (c1 : List PV) (i2 i3 i4 : Int) : semB (callP F (EcP L1180000000) 20) s118 (loopT [⟨0, YcP_1180000000, L1180000000, XLcP_1180000000⟩]) 400 (blkIn a118.body 0) N E (TcP_1180000000a n0 c1 i2 i3 i4) = BcP_1180000000a F N E L1180000000 n0 c1 i2 i3 i4 := by kernel_rfl
theorem RcP_1180000000a_of  (n0 : Nat) (c1 : List PV) (i2 i3 i4 : Int) {r : Ext × S} (h : BcP_1180000000a (Fn env) RcP_1180000000 exO LcP_1180000000 n0 c1 i2 i3 i4 = some r) : RcP_1180000000 (TcP_1180000000a n0 c1 i2 i3 i4) = some r :=
  lp_of EcP_ok (by kernel_rfl) (lo_cons (lpO_ok UcPg118) lo_nil) (by kernel_rfl) ((BcP_1180000000a_eq _ _ _ _ _ _ _ _ _).trans h)
def tcP (_F : FnT) (L1180000000 : Q → Option YcP_1180000000) (p0n : Nat) (p0c : List PV) : Option ((Int) × (Int)) :=
  bif (decide ((p0n : Int) > (20 : Int))) then
    some ((0 : Int), (8 : Int))
  else bindO (L1180000000 (TcP_1180000000a p0n p0c (p0n : Int) (0 : Int) (-1 : Int))) fun z =>
  Sum.elim (fun y0 =>
    some (y0.1, y0.2.1)) (fun _y1 =>
    some ((0 : Int), (0 : Int))) z
theorem tcP_eq (F : FnT) (L1180000000 : Q → Option YcP_1180000000) (p0n : Nat) (p0c : List PV) : semF (callP F (EcP L1180000000) 20) s21 (loopT []) 400 a21 [PV.list p0n p0c] (fun rv => decR (RSh.tup [(Prod.mk false [(CK.int .i64)]), (Prod.mk false [(CK.int .i64)])]) rv.pv) = tcP F L1180000000 p0n p0c := by kernel_rfl
noncomputable abbrev FcP (args : List PV) := Fn env 21 (RSh.tup [(Prod.mk false [(CK.int .i64)]), (Prod.mk false [(CK.int .i64)])]) args
theorem FcP_of  (p0n : Nat) (p0c : List PV) {res : ((Int) × (Int))} (h : tcP (Fn env) LcP_1180000000 p0n p0c = some res) : FcP [PV.list p0n p0c] = some res :=
  fn_of EcP_ok rfl rfl lo_nil ((tcP_eq _ _ _ _).trans h)
def EpE : List Entry := [.out 21 (RSh.tup [(Prod.mk false [(CK.int .i64)]), (Prod.mk false [(CK.int .i64)])])]
theorem EpE_ok : ∀ e ∈ EpE, EntOK env e := (ent_out ent_nil)
def tpE (F : FnT) (p0n : Nat) (p0c : List PV) : Option (Int) :=
  bindO (F 21 (RSh.tup [(Prod.mk false [(CK.int .i64)]), (Prod.mk false [(CK.int .i64)])]) [(PV.list p0n p0c)]) fun (y0 : ((Int) × (Int))) =>
  some y0.2
theorem tpE_eq (F : FnT) (p0n : Nat) (p0c : List PV) : semF (callP F EpE 20) s87 (loopT []) 400 a87 [PV.list p0n p0c] (fun rv => decR (RSh.one (CK.int .i64)) rv.pv) = tpE F p0n p0c := by kernel_rfl
noncomputable abbrev FpE (args : List PV) := Fn env 87 (RSh.one (CK.int .i64)) args
theorem FpE_of  (p0n : Nat) (p0c : List PV) {res : (Int)} (h : tpE (Fn env) p0n p0c = some res) : FpE [PV.list p0n p0c] = some res :=
  fn_of EpE_ok rfl rfl lo_nil ((tpE_eq _ _ _).trans h)
end Gv
