import Derived.Test.YtfhgjanheaocaaaGvEnv
import Derived.Test.YtfhgjanheaocaaaGvYm

/- What the functions do, round by round: B1. -/
namespace Gv
open Go
set_option maxRecDepth 100000
def ErE : List Entry := [.inl 50 a50 s50]
theorem ErE_ok : ∀ e ∈ ErE, EntOK env e := (ent_inl rfl ent_nil)
def trE (F : FnT) (p0 p1 p2 : Int) : Option (Int) :=
  bif (decide (p0 < p1)) then
    some (2 : Int)
  else bif (decide (p0 > p2)) then
    some (2 : Int)
  else some (0 : Int)
theorem trE_eq (F : FnT) (p0 p1 p2 : Int) : semF (callP F ErE 20) s56 (loopT []) 400 a56 [PV.int .i64 p0, PV.int .i64 p1, PV.int .i64 p2] (fun rv => decR (RSh.one (CK.int .i64)) rv.pv) = trE F p0 p1 p2 := by kernel_rfl
noncomputable abbrev FrE (args : List PV) := Fn env 56 (RSh.one (CK.int .i64)) args
theorem FrE_of  (p0 p1 p2 : Int) {res : (Int)} (h : trE (Fn env) p0 p1 p2 = some res) : FrE [PV.int .i64 p0, PV.int .i64 p1, PV.int .i64 p2] = some res :=
  fn_of ErE_ok rfl rfl lo_nil ((trE_eq _ _ _ _).trans h)
def EfE2 : List Entry := []
theorem EfE2_ok : ∀ e ∈ EfE2, EntOK env e := ent_nil
def tfE2 (F : FnT)(e0 e1 : Int) : Option (Int) :=
  bif (e0 != (0 : Int)) then
    some e0
  else bif (e1 != (0 : Int)) then
    some e1
  else some (0 : Int)
theorem tfE2_eq (F : FnT)(e0 e1 : Int) : semF (callP F EfE2 20) s38 (loopT []) 400 a38 [.list 2 [.int .i64 e0, .int .i64 e1]] (fun rv => decR (RSh.one (CK.int .i64)) rv.pv) = tfE2 F e0 e1 := by kernel_rfl
noncomputable abbrev FfE2 (args : List PV) := Fn env 38 (RSh.one (CK.int .i64)) args
theorem FfE2_of (e0 e1 : Int) {res : (Int)} (h : tfE2 (Fn env) e0 e1 = some res) : FfE2 [.list 2 [.int .i64 e0, .int .i64 e1]] = some res :=
  fn_of EfE2_ok rfl rfl lo_nil ((tfE2_eq _ _ _).trans h)
def EfE3 : List Entry := []
theorem EfE3_ok : ∀ e ∈ EfE3, EntOK env e := ent_nil
def tfE3 (F : FnT)(e0 e1 e2 : Int) : Option (Int) :=
  bif (e0 != (0 : Int)) then
    some e0
  else bif (e1 != (0 : Int)) then
    some e1
  else bif (e2 != (0 : Int)) then
    some e2
  else some (0 : Int)
theorem tfE3_eq (F : FnT)(e0 e1 e2 : Int) : semF (callP F EfE3 20) s38 (loopT []) 400 a38 [.list 3 [.int .i64 e0, .int .i64 e1, .int .i64 e2]] (fun rv => decR (RSh.one (CK.int .i64)) rv.pv) = tfE3 F e0 e1 e2 := by kernel_rfl
noncomputable abbrev FfE3 (args : List PV) := Fn env 38 (RSh.one (CK.int .i64)) args
theorem FfE3_of (e0 e1 e2 : Int) {res : (Int)} (h : tfE3 (Fn env) e0 e1 e2 = some res) : FfE3 [.list 3 [.int .i64 e0, .int .i64 e1, .int .i64 e2]] = some res :=
  fn_of EfE3_ok rfl rfl lo_nil ((tfE3_eq _ _ _ _).trans h)
end Gv

/- What the functions do, round by round: B2. -/
namespace Gv
open Go
set_option maxRecDepth 100000
def EbWi : List Entry := []
theorem EbWi_ok : ∀ e ∈ EbWi, EntOK env e := ent_nil
def tbWi (F : FnT) (p0 p1 p2 : Int) : Option (Bool) :=
  bif (decide (p1 ≤ p0)) then
    bif (decide (p0 ≤ p2)) then
      some true
    else some false
  else some false
theorem tbWi_eq (F : FnT) (p0 p1 p2 : Int) : semF (callP F EbWi 20) s9 (loopT []) 400 a9 [PV.int .i64 p0, PV.int .i64 p1, PV.int .i64 p2] (fun rv => decR (RSh.one CK.bool) rv.pv) = tbWi F p0 p1 p2 := by kernel_rfl
noncomputable abbrev FbWi (args : List PV) := Fn env 9 (RSh.one CK.bool) args
theorem FbWi_of  (p0 p1 p2 : Int) {res : (Bool)} (h : tbWi (Fn env) p0 p1 p2 = some res) : FbWi [PV.int .i64 p0, PV.int .i64 p1, PV.int .i64 p2] = some res :=
  fn_of EbWi_ok rfl rfl lo_nil ((tbWi_eq _ _ _ _).trans h)
end Gv

/- What the functions do, round by round: B13. -/
namespace Gv
open Go
set_option maxRecDepth 100000
def EposE : List Entry := [.out 56 (RSh.one (CK.int .i64)), .out 38 (RSh.one (CK.int .i64))]
theorem EposE_ok : ∀ e ∈ EposE, EntOK env e := (ent_out (ent_out ent_nil))
def tposE (F : FnT) (p0_0 p0_1 : Int) : Option (Int) :=
  bindO (F 56 (RSh.one (CK.int .i64)) [(PV.int .i64 p0_0), (PV.int .i64 (-1000 : Int)), (PV.int .i64 (1000 : Int))]) fun (y0 : (Int)) =>
  bindO (F 56 (RSh.one (CK.int .i64)) [(PV.int .i64 p0_1), (PV.int .i64 (0 : Int)), (PV.int .i64 (1000 : Int))]) fun (y1 : (Int)) =>
  bindO (F 38 (RSh.one (CK.int .i64)) [(PV.list 2 [(PV.int .i64 y0), (PV.int .i64 y1)])]) fun (y2 : (Int)) =>
  some y2
theorem tposE_eq (F : FnT) (p0_0 p0_1 : Int) : semF (callP F EposE 20) s41 (loopT []) 400 a41 [PV.agg [PV.int .i64 p0_0, PV.int .i64 p0_1]] (fun rv => decR (RSh.one (CK.int .i64)) rv.pv) = tposE F p0_0 p0_1 := by kernel_rfl
noncomputable abbrev FposE (args : List PV) := Fn env 41 (RSh.one (CK.int .i64)) args
theorem FposE_of  (p0_0 p0_1 : Int) {res : (Int)} (h : tposE (Fn env) p0_0 p0_1 = some res) : FposE [PV.agg [PV.int .i64 p0_0, PV.int .i64 p0_1]] = some res :=
  fn_of EposE_ok rfl rfl lo_nil ((tposE_eq _ _ _).trans h)
end Gv

/- What the functions do, round by round: B16. -/
namespace Gv
open Go
set_option maxRecDepth 100000
def ErVorE : List Entry := [.out 8 (RSh.one (CK.int .i64)), .out 9 (RSh.one CK.bool)]
theorem ErVorE_ok : ∀ e ∈ ErVorE, EntOK env e := (ent_out (ent_out ent_nil))
def trVorE (F : FnT) (p0_0 p0_1 p0_2 : Int) : Option (Int) :=
  bindO (F 8 (RSh.one (CK.int .i64)) [(PV.agg [(PV.int .i64 p0_0), (PV.int .i64 p0_1)])]) fun (y0 : (Int)) =>
  bif (y0 != (0 : Int)) then
    some y0
  else bindO (F 9 (RSh.one CK.bool) [(PV.int .i64 p0_2), (PV.int .i64 (-10000 : Int)), (PV.int .i64 (10000 : Int))]) fun (y1 : (Bool)) =>
  bif y1 then
    some (0 : Int)
  else some (2 : Int)
theorem trVorE_eq (F : FnT) (p0_0 p0_1 p0_2 : Int) : semF (callP F ErVorE 20) s6 (loopT []) 400 a6 [PV.agg [PV.int .i64 p0_0, PV.int .i64 p0_1, PV.int .i64 p0_2]] (fun rv => decR (RSh.one (CK.int .i64)) rv.pv) = trVorE F p0_0 p0_1 p0_2 := by kernel_rfl
noncomputable abbrev FrVorE (args : List PV) := Fn env 6 (RSh.one (CK.int .i64)) args
theorem FrVorE_of  (p0_0 p0_1 p0_2 : Int) {res : (Int)} (h : trVorE (Fn env) p0_0 p0_1 p0_2 = some res) : FrVorE [PV.agg [PV.int .i64 p0_0, PV.int .i64 p0_1, PV.int .i64 p0_2]] = some res :=
  fn_of ErVorE_ok rfl rfl lo_nil ((trVorE_eq _ _ _ _).trans h)
end Gv

/- What the functions do, round by round: B17. -/
namespace Gv
open Go
set_option maxRecDepth 100000
def EvorE : List Entry := [.out 41 (RSh.one (CK.int .i64)), .out 56 (RSh.one (CK.int .i64)), .out 38 (RSh.one (CK.int .i64))]
theorem EvorE_ok : ∀ e ∈ EvorE, EntOK env e := (ent_out (ent_out (ent_out ent_nil)))
def tvorE (F : FnT) (p0_0 p0_1 p0_2 : Int) : Option (Int) :=
  bindO (F 41 (RSh.one (CK.int .i64)) [(PV.agg [(PV.int .i64 p0_0), (PV.int .i64 p0_1)])]) fun (y0 : (Int)) =>
  bindO (F 56 (RSh.one (CK.int .i64)) [(PV.int .i64 p0_2), (PV.int .i64 (-10000 : Int)), (PV.int .i64 (10000 : Int))]) fun (y1 : (Int)) =>
  bindO (F 38 (RSh.one (CK.int .i64)) [(PV.list 2 [(PV.int .i64 y0), (PV.int .i64 y1)])]) fun (y2 : (Int)) =>
  some y2
theorem tvorE_eq (F : FnT) (p0_0 p0_1 p0_2 : Int) : semF (callP F EvorE 20) s39 (loopT []) 400 a39 [PV.agg [PV.int .i64 p0_0, PV.int .i64 p0_1, PV.int .i64 p0_2]] (fun rv => decR (RSh.one (CK.int .i64)) rv.pv) = tvorE F p0_0 p0_1 p0_2 := by kernel_rfl
noncomputable abbrev FvorE (args : List PV) := Fn env 39 (RSh.one (CK.int .i64)) args
theorem FvorE_of  (p0_0 p0_1 p0_2 : Int) {res : (Int)} (h : tvorE (Fn env) p0_0 p0_1 p0_2 = some res) : FvorE [PV.agg [PV.int .i64 p0_0, PV.int .i64 p0_1, PV.int .i64 p0_2]] = some res :=
  fn_of EvorE_ok rfl rfl lo_nil ((tvorE_eq _ _ _ _).trans h)
end Gv

/- What the functions do, round by round: B19. -/
namespace Gv
open Go
set_option maxRecDepth 100000
def ErPoiE : List Entry := [.out 9 (RSh.one CK.bool)]
theorem ErPoiE_ok : ∀ e ∈ ErPoiE, EntOK env e := (ent_out ent_nil)
def trPoiE (F : FnT) (p0_0 p0_1 : Int) : Option (Int) :=
  bindO (F 9 (RSh.one CK.bool) [(PV.int .i64 p0_0), (PV.int .i64 (-1000 : Int)), (PV.int .i64 (1000 : Int))]) fun (y0 : (Bool)) =>
  bif y0 then
    bindO (F 9 (RSh.one CK.bool) [(PV.int .i64 p0_1), (PV.int .i64 (0 : Int)), (PV.int .i64 (1000 : Int))]) fun (y1 : (Bool)) =>
    bif y1 then
      some (0 : Int)
    else some (2 : Int)
  else some (2 : Int)
theorem trPoiE_eq (F : FnT) (p0_0 p0_1 : Int) : semF (callP F ErPoiE 20) s8 (loopT []) 400 a8 [PV.agg [PV.int .i64 p0_0, PV.int .i64 p0_1]] (fun rv => decR (RSh.one (CK.int .i64)) rv.pv) = trPoiE F p0_0 p0_1 := by kernel_rfl
noncomputable abbrev FrPoiE (args : List PV) := Fn env 8 (RSh.one (CK.int .i64)) args
theorem FrPoiE_of  (p0_0 p0_1 : Int) {res : (Int)} (h : trPoiE (Fn env) p0_0 p0_1 = some res) : FrPoiE [PV.agg [PV.int .i64 p0_0, PV.int .i64 p0_1]] = some res :=
  fn_of ErPoiE_ok rfl rfl lo_nil ((trPoiE_eq _ _ _).trans h)
end Gv

/- Boxes: errors, the box after some ticks, what two boxes have in common. -/
namespace Gv
open Go
set_option maxRecDepth 100000
abbrev B6 := Int × Int × Int × Int × Int × Int
theorem rE_is (x lo hi : Int) : FrE [.int .i64 x, .int .i64 lo, .int .i64 hi] = some (rangeE x lo hi) :=
  FrE_of x lo hi (by
    unfold trE rangeE
    by_cases h1 : x < lo
    · simp [h1]
    · by_cases h2 : x > hi
      · have : hi < x := h2
        simp [h1, this]
      · have : ¬ hi < x := h2
        simp [h1, this])
theorem fE2_is (a b : Int) : FfE2 [.list 2 [.int .i64 a, .int .i64 b]] = some (both a b) :=
  FfE2_of a b (by
    unfold tfE2 both
    simp only [bif_ne]
    by_cases h1 : a = 0 <;> by_cases h2 : b = 0 <;> simp [h1, h2])
theorem fE3_is (a b c : Int) : FfE3 [.list 3 [.int .i64 a, .int .i64 b, .int .i64 c]] = some (first3 a b c) :=
  FfE3_of a b c (by
    unfold tfE3 first3
    simp only [bif_ne]
    by_cases h1 : a = 0 <;> by_cases h2 : b = 0 <;> by_cases h3 : c = 0 <;> simp [h1, h2, h3])
theorem rangeE_if (x a b : Int) : rangeE x a b = if a ≤ x ∧ x ≤ b then 0 else 2 := by unfold rangeE; split <;> split <;> omega
theorem bWi_is (x a b : Int) : FbWi [.int .i64 x, .int .i64 a, .int .i64 b] = some (decide (a ≤ x ∧ x ≤ b)) :=
  FbWi_of _ _ _ (by
    unfold tbWi
    by_cases h1 : a ≤ x <;> by_cases h2 : x ≤ b <;> simp [h1, h2])
def ord3 (a b c d e f : Int) : Int := if a ≤ b ∧ c ≤ d ∧ e ≤ f then 0 else 9
def driE (d : B6) : Int := if ((-100 ≤ d.1 ∧ d.1 ≤ 100) ∧ (-100 ≤ d.2.1 ∧ d.2.1 ≤ 100)) ∧ ((0 ≤ d.2.2.1 ∧ d.2.2.1 ≤ 100) ∧ (0 ≤ d.2.2.2.1 ∧ d.2.2.2.1 ≤ 100)) ∧ ((0 ≤ d.2.2.2.2.1 ∧ d.2.2.2.2.1 ≤ 100) ∧ (0 ≤ d.2.2.2.2.2 ∧ d.2.2.2.2.2 ≤ 100)) then ord3 d.1 d.2.1 d.2.2.1 d.2.2.2.1 d.2.2.2.2.1 d.2.2.2.2.2 else 2
def pos (x : Int) : Int := if x > 0 then x else 0
end Gv

/- Paths: what the program and the specification accept. -/
namespace Gv
open Go
set_option maxRecDepth 100000
abbrev Z3 := Int × Int × Int
def Hd (b : B6) (v : Z3) : Prop := (b.1 ≤ v.1 ∧ v.1 ≤ b.2.1) ∧ (b.2.2.1 ≤ v.2.1 ∧ v.2.1 ≤ b.2.2.2.1) ∧ (b.2.2.2.2.1 ≤ v.2.2 ∧ v.2.2 ≤ b.2.2.2.2.2)
instance (b : B6) (v : Z3) : Decidable (Hd b v) := by unfold Hd; exact inferInstance
def encV (v : Z3) : PV := .agg [.int .i64 v.1, .int .i64 v.2.1, .int .i64 v.2.2]
def InB (a b : B6) : Prop := b.1 ≤ a.1 ∧ a.2.1 ≤ b.2.1 ∧ b.2.2.1 ≤ a.2.2.1 ∧ a.2.2.2.1 ≤ b.2.2.2.1 ∧ b.2.2.2.2.1 ≤ a.2.2.2.2.1 ∧ a.2.2.2.2.2 ≤ b.2.2.2.2.2
instance (a b : B6) : Decidable (InB a b) := by unfold InB; exact inferInstance
end Gv

/- What the functions do, round by round: Q1. -/
namespace Gv
open Go
set_option maxRecDepth 100000
def EwSz : List Entry := []
theorem EwSz_ok : ∀ e ∈ EwSz, EntOK env e := ent_nil
def twSz (_F : FnT) (p0 : Int) : Option (Int) :=
  some (if ((w64 ((0 : Int) - p0)) > p0) then (w64 ((0 : Int) - p0)) else p0)
theorem twSz_eq (F : FnT) (p0 : Int) : semF (callP F EwSz 20) s77 (loopT []) 400 a77 [PV.int .i64 p0] (fun rv => decR (RSh.one (CK.int .i64)) rv.pv) = twSz F p0 := by kernel_rfl
noncomputable abbrev FwSz (args : List PV) := Fn env 77 (RSh.one (CK.int .i64)) args
theorem FwSz_of  (p0 : Int) {res : (Int)} (h : twSz (Fn env) p0 = some res) : FwSz [PV.int .i64 p0] = some res :=
  fn_of EwSz_ok rfl rfl lo_nil ((twSz_eq _ _).trans h)
def Elow : List Entry := [.out 77 (RSh.one (CK.int .i64))]
theorem Elow_ok : ∀ e ∈ Elow, EntOK env e := (ent_out ent_nil)
def Tlow_0a (i0 i1 i2 i3 : Int) : Q := ⟨(tm 26 [(1, (AV.loc 1 0)), (2, (AV.loc 2 0)), (3, (AV.p (PV.int .i64 i0))), (4, (AV.p (PV.int .i64 i1)))]), (mm 26 [(1, (Bk.pcs true [(PV.int .i64 i2), (PV.int .i64 i3)])), (2, (Bk.pcs true [(PV.int .i64 (0 : Int)), (PV.int .i64 (0 : Int))]))])⟩
def Xlow_0a (y : Int × Int × Int) : Ext × Q := (Ext.normal, ⟨(tm 26 [(1, (AV.loc 1 0)), (2, (AV.loc 2 0)), (3, (AV.p (PV.int .i64 y.1)))]), (mm 26 [(1, (Bk.pcs true [(PV.int .i64 y.2.1), (PV.int .i64 y.2.2)])), (2, (Bk.pcs true [(PV.int .i64 (0 : Int)), (PV.int .i64 (0 : Int))]))])⟩)
def Ilow_0a (q : Ext × S) : Int × Int × Int := ((pP_int1 (pA_p (avT q.2 3))), (pP_int1 (hdP (pB_pcs1 (avM q.2 1)))), (pP_int1 (hdP (List.tail (pB_pcs1 (avM q.2 1))))))
abbrev Ylow_0 : Type := Int × Int × Int
def XLlow_0 : XL Ylow_0 := .one Xlow_0a
def Ilow_0 (q : Ext × S) : Ylow_0 := (Ilow_0a q)
theorem XIlow_0a (y : Int × Int × Int) : Ilow_0 (xe (Xlow_0a y)) = y := by kernel_rfl
theorem XIlow_0 (y : Ylow_0) : Ilow_0 (xe (XLlow_0.fn y)) = y := XIlow_0a y
noncomputable abbrev Llow_0 : Q → Option Ylow_0 := lpO env a42.body 0 XLlow_0
noncomputable abbrev Rlow_0 : Q → Option (Ext × S) := lpR env a42.body 0
theorem Llow_0a_of {s : Q} {y : Int × Int × Int} (h : Rlow_0 s = exO (Xlow_0a y)) : Llow_0 s = some y := lpO_of Ilow_0 XIlow_0 (y := y) h
theorem Ulow : uniq ((blocksOf a42.body).map (·.1)) = true := by kernel_rfl
def Blow_0a (_F : FnT) (N : QO) (E : EO) (_L0 : Q → Option Ylow_0) (i0 i1 i2 i3 : Int) : Option (Ext × S) :=
  bif (i1 != (0 : Int)) then
    bif (decide (i1 ≠ (0 : Int))) then
      N (Tlow_0a i1 (Int.tmod i0 i1) i2 i3)
    else none
  else E (Xlow_0a (i0, i2, i3))
theorem Blow_0a_eq (F : FnT) (N : QO) (E : EO) (L0 : Q → Option Ylow_0) (i0 i1 i2 i3 : Int) : semB (callP F Elow 20) s42 (loopT [⟨0, Ylow_0, L0, XLlow_0⟩]) 400 (blkIn a42.body 0) N E (Tlow_0a i0 i1 i2 i3) = Blow_0a F N E L0 i0 i1 i2 i3 := by kernel_rfl
theorem Rlow_0a_of  (i0 i1 i2 i3 : Int) {r : Ext × S} (h : Blow_0a (Fn env) Rlow_0 exO Llow_0 i0 i1 i2 i3 = some r) : Rlow_0 (Tlow_0a i0 i1 i2 i3) = some r :=
  lp_of Elow_ok (by kernel_rfl) (lo_cons (lpO_ok Ulow) lo_nil) (by kernel_rfl) ((Blow_0a_eq _ _ _ _ _ _ _ _).trans h)
def tlow (F : FnT) (L0 : Q → Option Ylow_0) (p0_0 p0_1 : Int) : Option ((Int) × (Int)) :=
  bindO (L0 (Tlow_0a p0_1 p0_0 p0_0 p0_1)) fun y0 =>
  bindO (F 77 (RSh.one (CK.int .i64)) [(PV.int .i64 y0.1)]) fun (y1 : (Int)) =>
  bif (decide (y1 ≠ (0 : Int))) then
    bif (decide (y1 ≠ (0 : Int))) then
      some ((w64 (Int.tdiv y0.2.1 y1)), (w64 (Int.tdiv y0.2.2 y1)))
    else none
  else none
theorem tlow_eq (F : FnT) (L0 : Q → Option Ylow_0) (p0_0 p0_1 : Int) : semF (callP F Elow 20) s42 (loopT [⟨0, Ylow_0, L0, XLlow_0⟩]) 400 a42 [PV.agg [PV.int .i64 p0_0, PV.int .i64 p0_1]] (fun rv => decR (RSh.agg [(CK.int .i64), (CK.int .i64)]) rv.pv) = tlow F L0 p0_0 p0_1 := by kernel_rfl
noncomputable abbrev Flow (args : List PV) := Fn env 42 (RSh.agg [(CK.int .i64), (CK.int .i64)]) args
theorem Flow_of  (p0_0 p0_1 : Int) {res : ((Int) × (Int))} (h : tlow (Fn env) Llow_0 p0_0 p0_1 = some res) : Flow [PV.agg [PV.int .i64 p0_0, PV.int .i64 p0_1]] = some res :=
  fn_of Elow_ok rfl rfl (lo_cons (lpO_ok Ulow) lo_nil) ((tlow_eq _ _ _ _).trans h)
def EisL : List Entry := [.out 77 (RSh.one (CK.int .i64))]
theorem EisL_ok : ∀ e ∈ EisL, EntOK env e := (ent_out ent_nil)
def tisL (F : FnT) (p0_0 _p0_1 : Int) : Option (Bool) :=
  bindO (F 77 (RSh.one (CK.int .i64)) [(PV.int .i64 p0_0)]) fun (y0 : (Int)) =>
  bif (decide (y0 > (1000000000 : Int))) then
    some true
  else some false
theorem tisL_eq (F : FnT) (p0_0 p0_1 : Int) : semF (callP F EisL 20) s44 (loopT []) 400 a44 [PV.agg [PV.int .i64 p0_0, PV.int .i64 p0_1]] (fun rv => decR (RSh.one CK.bool) rv.pv) = tisL F p0_0 p0_1 := by kernel_rfl
noncomputable abbrev FisL (args : List PV) := Fn env 44 (RSh.one CK.bool) args
theorem FisL_of  (p0_0 p0_1 : Int) {res : (Bool)} (h : tisL (Fn env) p0_0 p0_1 = some res) : FisL [PV.agg [PV.int .i64 p0_0, PV.int .i64 p0_1]] = some res :=
  fn_of EisL_ok rfl rfl lo_nil ((tisL_eq _ _ _).trans h)
def Erad : List Entry := []
theorem Erad_ok : ∀ e ∈ Erad, EntOK env e := ent_nil
def trad (_F : FnT) (p0_0 p0_1 p0_2 p1_0 p1_1 p1_2 p2_0 p2_1 : Int) : Option ((Int) × (Int)) :=
  some ((w64 (p0_2 * (w64 ((w64 ((w64 (p2_0 - p0_0)) * (w64 (p2_1 - p1_1)))) - (w64 ((w64 (p2_1 - p0_1)) * (w64 (p2_0 - p1_0)))))))), (w64 ((w64 ((w64 ((w64 (p2_0 - p0_0)) * (w64 (p2_0 - p0_0)))) + (w64 ((w64 (p2_1 - p0_1)) * (w64 (p2_1 - p0_1)))))) + p1_2)))
theorem trad_eq (F : FnT) (p0_0 p0_1 p0_2 p1_0 p1_1 p1_2 p2_0 p2_1 : Int) : semF (callP F Erad 20) s43 (loopT []) 400 a43 [PV.agg [PV.int .i64 p0_0, PV.int .i64 p0_1, PV.int .i64 p0_2], PV.agg [PV.int .i64 p1_0, PV.int .i64 p1_1, PV.int .i64 p1_2], PV.agg [PV.int .i64 p2_0, PV.int .i64 p2_1]] (fun rv => decR (RSh.agg [(CK.int .i64), (CK.int .i64)]) rv.pv) = trad F p0_0 p0_1 p0_2 p1_0 p1_1 p1_2 p2_0 p2_1 := by kernel_rfl
noncomputable abbrev Frad (args : List PV) := Fn env 43 (RSh.agg [(CK.int .i64), (CK.int .i64)]) args
theorem Frad_of  (p0_0 p0_1 p0_2 p1_0 p1_1 p1_2 p2_0 p2_1 : Int) {res : ((Int) × (Int))} (h : trad (Fn env) p0_0 p0_1 p0_2 p1_0 p1_1 p1_2 p2_0 p2_1 = some res) : Frad [PV.agg [PV.int .i64 p0_0, PV.int .i64 p0_1, PV.int .i64 p0_2], PV.agg [PV.int .i64 p1_0, PV.int .i64 p1_1, PV.int .i64 p1_2], PV.agg [PV.int .i64 p2_0, PV.int .i64 p2_1]] = some res :=
  fn_of Erad_ok rfl rfl lo_nil ((trad_eq _ _ _ _ _ _ _ _ _).trans h)
def EradO : List Entry := [.out 39 (RSh.one (CK.int .i64)), .out 40 (RSh.one (CK.int .i64)), .out 41 (RSh.one (CK.int .i64)), .out 38 (RSh.one (CK.int .i64)), .out 43 (RSh.agg [(CK.int .i64), (CK.int .i64)]), .out 42 (RSh.agg [(CK.int .i64), (CK.int .i64)]), .out 44 (RSh.one CK.bool)]
theorem EradO_ok : ∀ e ∈ EradO, EntOK env e := (ent_out (ent_out (ent_out (ent_out (ent_out (ent_out (ent_out ent_nil)))))))
def tradO (F : FnT) (p0_0 p0_1 p0_2 p1_0 p1_1 p1_2 p2_0 p2_1 : Int) : Option ((Int) × ((Int) × (Int))) :=
  bindO (F 39 (RSh.one (CK.int .i64)) [(PV.agg [(PV.int .i64 p0_0), (PV.int .i64 p0_1), (PV.int .i64 p0_2)])]) fun (y0 : (Int)) =>
  bindO (F 40 (RSh.one (CK.int .i64)) [(PV.agg [(PV.int .i64 p1_0), (PV.int .i64 p1_1), (PV.int .i64 p1_2)])]) fun (y1 : (Int)) =>
  bindO (F 41 (RSh.one (CK.int .i64)) [(PV.agg [(PV.int .i64 p2_0), (PV.int .i64 p2_1)])]) fun (y2 : (Int)) =>
  bindO (F 38 (RSh.one (CK.int .i64)) [(PV.list 3 [(PV.int .i64 y0), (PV.int .i64 y1), (PV.int .i64 y2)])]) fun (y3 : (Int)) =>
  bif (y3 != (0 : Int)) then
    some ((0 : Int), ((0 : Int), y3))
  else bindO (F 43 (RSh.agg [(CK.int .i64), (CK.int .i64)]) [(PV.agg [(PV.int .i64 p0_0), (PV.int .i64 p0_1), (PV.int .i64 p0_2)]), (PV.agg [(PV.int .i64 p1_0), (PV.int .i64 p1_1), (PV.int .i64 p1_2)]), (PV.agg [(PV.int .i64 p2_0), (PV.int .i64 p2_1)])]) fun (y4 : ((Int) × (Int))) =>
  bindO (F 42 (RSh.agg [(CK.int .i64), (CK.int .i64)]) [(PV.agg [(PV.int .i64 y4.1), (PV.int .i64 y4.2)])]) fun (y5 : ((Int) × (Int))) =>
  bindO (F 44 (RSh.one CK.bool) [(PV.agg [(PV.int .i64 y5.1), (PV.int .i64 y5.2)])]) fun (y6 : (Bool)) =>
  bif y6 then
    some ((0 : Int), ((0 : Int), (8 : Int)))
  else some (y5.1, (y5.2, (0 : Int)))
theorem tradO_eq (F : FnT) (p0_0 p0_1 p0_2 p1_0 p1_1 p1_2 p2_0 p2_1 : Int) : semF (callP F EradO 20) s10 (loopT []) 400 a10 [PV.agg [PV.int .i64 p0_0, PV.int .i64 p0_1, PV.int .i64 p0_2], PV.agg [PV.int .i64 p1_0, PV.int .i64 p1_1, PV.int .i64 p1_2], PV.agg [PV.int .i64 p2_0, PV.int .i64 p2_1]] (fun rv => decR (RSh.tup [(Prod.mk true [(CK.int .i64), (CK.int .i64)]), (Prod.mk false [(CK.int .i64)])]) rv.pv) = tradO F p0_0 p0_1 p0_2 p1_0 p1_1 p1_2 p2_0 p2_1 := by kernel_rfl
noncomputable abbrev FradO (args : List PV) := Fn env 10 (RSh.tup [(Prod.mk true [(CK.int .i64), (CK.int .i64)]), (Prod.mk false [(CK.int .i64)])]) args
theorem FradO_of  (p0_0 p0_1 p0_2 p1_0 p1_1 p1_2 p2_0 p2_1 : Int) {res : ((Int) × ((Int) × (Int)))} (h : tradO (Fn env) p0_0 p0_1 p0_2 p1_0 p1_1 p1_2 p2_0 p2_1 = some res) : FradO [PV.agg [PV.int .i64 p0_0, PV.int .i64 p0_1, PV.int .i64 p0_2], PV.agg [PV.int .i64 p1_0, PV.int .i64 p1_1, PV.int .i64 p1_2], PV.agg [PV.int .i64 p2_0, PV.int .i64 p2_1]] = some res :=
  fn_of EradO_ok rfl rfl lo_nil ((tradO_eq _ _ _ _ _ _ _ _ _).trans h)
def Ewhol : List Entry := []
theorem Ewhol_ok : ∀ e ∈ Ewhol, EntOK env e := ent_nil
def twhol (_F : FnT) (p0 : Int) : Option ((Int) × (Int)) :=
  some (p0, (1 : Int))
theorem twhol_eq (F : FnT) (p0 : Int) : semF (callP F Ewhol 20) s11 (loopT []) 400 a11 [PV.int .i64 p0] (fun rv => decR (RSh.agg [(CK.int .i64), (CK.int .i64)]) rv.pv) = twhol F p0 := by kernel_rfl
noncomputable abbrev Fwhol (args : List PV) := Fn env 11 (RSh.agg [(CK.int .i64), (CK.int .i64)]) args
theorem Fwhol_of  (p0 : Int) {res : ((Int) × (Int))} (h : twhol (Fn env) p0 = some res) : Fwhol [PV.int .i64 p0] = some res :=
  fn_of Ewhol_ok rfl rfl lo_nil ((twhol_eq _ _).trans h)
def ErSetE : List Entry := [.out 8 (RSh.one (CK.int .i64)), .out 9 (RSh.one CK.bool)]
theorem ErSetE_ok : ∀ e ∈ ErSetE, EntOK env e := (ent_out (ent_out ent_nil))
def trSetE (F : FnT) (p0_0 p0_1 p0_2 : Int) : Option (Int) :=
  bindO (F 8 (RSh.one (CK.int .i64)) [(PV.agg [(PV.int .i64 p0_0), (PV.int .i64 p0_1)])]) fun (y0 : (Int)) =>
  bif (y0 != (0 : Int)) then
    some y0
  else bindO (F 9 (RSh.one CK.bool) [(PV.int .i64 p0_2), (PV.int .i64 (1 : Int)), (PV.int .i64 (10000 : Int))]) fun (y1 : (Bool)) =>
  bif y1 then
    some (0 : Int)
  else some (2 : Int)
theorem trSetE_eq (F : FnT) (p0_0 p0_1 p0_2 : Int) : semF (callP F ErSetE 20) s7 (loopT []) 400 a7 [PV.agg [PV.int .i64 p0_0, PV.int .i64 p0_1, PV.int .i64 p0_2]] (fun rv => decR (RSh.one (CK.int .i64)) rv.pv) = trSetE F p0_0 p0_1 p0_2 := by kernel_rfl
noncomputable abbrev FrSetE (args : List PV) := Fn env 7 (RSh.one (CK.int .i64)) args
theorem FrSetE_of  (p0_0 p0_1 p0_2 : Int) {res : (Int)} (h : trSetE (Fn env) p0_0 p0_1 p0_2 = some res) : FrSetE [PV.agg [PV.int .i64 p0_0, PV.int .i64 p0_1, PV.int .i64 p0_2]] = some res :=
  fn_of ErSetE_ok rfl rfl lo_nil ((trSetE_eq _ _ _ _).trans h)
def EsetE : List Entry := [.out 41 (RSh.one (CK.int .i64)), .out 56 (RSh.one (CK.int .i64)), .out 38 (RSh.one (CK.int .i64))]
theorem EsetE_ok : ∀ e ∈ EsetE, EntOK env e := (ent_out (ent_out (ent_out ent_nil)))
def tsetE (F : FnT) (p0_0 p0_1 p0_2 : Int) : Option (Int) :=
  bindO (F 41 (RSh.one (CK.int .i64)) [(PV.agg [(PV.int .i64 p0_0), (PV.int .i64 p0_1)])]) fun (y0 : (Int)) =>
  bindO (F 56 (RSh.one (CK.int .i64)) [(PV.int .i64 p0_2), (PV.int .i64 (1 : Int)), (PV.int .i64 (10000 : Int))]) fun (y1 : (Int)) =>
  bindO (F 38 (RSh.one (CK.int .i64)) [(PV.list 2 [(PV.int .i64 y0), (PV.int .i64 y1)])]) fun (y2 : (Int)) =>
  some y2
theorem tsetE_eq (F : FnT) (p0_0 p0_1 p0_2 : Int) : semF (callP F EsetE 20) s40 (loopT []) 400 a40 [PV.agg [PV.int .i64 p0_0, PV.int .i64 p0_1, PV.int .i64 p0_2]] (fun rv => decR (RSh.one (CK.int .i64)) rv.pv) = tsetE F p0_0 p0_1 p0_2 := by kernel_rfl
noncomputable abbrev FsetE (args : List PV) := Fn env 40 (RSh.one (CK.int .i64)) args
theorem FsetE_of  (p0_0 p0_1 p0_2 : Int) {res : (Int)} (h : tsetE (Fn env) p0_0 p0_1 p0_2 = some res) : FsetE [PV.agg [PV.int .i64 p0_0, PV.int .i64 p0_1, PV.int .i64 p0_2]] = some res :=
  fn_of EsetE_ok rfl rfl lo_nil ((tsetE_eq _ _ _ _).trans h)
end Gv

/- Errors of vortices and positions. -/
namespace Gv
open Go
set_option maxRecDepth 100000
def poiV (y z : Int) : Int := if (-1000 ≤ y ∧ y ≤ 1000) ∧ (0 ≤ z ∧ z ≤ 1000) then 0 else 2
def vorV (v : Z3) : Int := if ((-1000 ≤ v.1 ∧ v.1 ≤ 1000) ∧ (0 ≤ v.2.1 ∧ v.2.1 ≤ 1000)) ∧ (-10000 ≤ v.2.2 ∧ v.2.2 ≤ 10000) then 0 else 2
theorem posE_is (y z : Int) : FposE [.agg [.int .i64 y, .int .i64 z]] = some (poiV y z) := by
  refine FposE_of _ _ ?_
  unfold tposE poiV
  have h1 : Fn env 56 _ [.int .i64 y, .int .i64 (-1000), .int .i64 1000] = _ := rE_is y (-1000) 1000
  have h2 : Fn env 56 _ [.int .i64 z, .int .i64 0, .int .i64 1000] = _ := rE_is z 0 1000
  rw [h1, h2]
  simp only [bindO_val, fE2_is, rangeE_if, both]
  by_cases a : -1000 ≤ y ∧ y ≤ 1000 <;> by_cases b : 0 ≤ z ∧ z ≤ 1000 <;> simp [a, b]
theorem vorE_is (v : Z3) : FvorE [encV v] = some (vorV v) := by
  refine FvorE_of _ _ _ ?_
  unfold tvorE vorV
  have h1 : Fn env 41 _ [.agg [.int .i64 v.1, .int .i64 v.2.1]] = _ := posE_is v.1 v.2.1
  have h2 : Fn env 56 _ [.int .i64 v.2.2, .int .i64 (-10000), .int .i64 10000] = _ := rE_is v.2.2 (-10000) 10000
  rw [h1, h2]
  simp only [bindO_val, fE2_is, rangeE_if, both, poiV]
  by_cases a : (-1000 ≤ v.1 ∧ v.1 ≤ 1000) ∧ (0 ≤ v.2.1 ∧ v.2.1 ≤ 1000) <;> by_cases b : -10000 ≤ v.2.2 ∧ v.2.2 ≤ 10000 <;> simp [a, b]
theorem vor_in {v : Z3} (h : vorV v = 0) : (-1000 ≤ v.1 ∧ v.1 ≤ 1000) ∧ (0 ≤ v.2.1 ∧ v.2.1 ≤ 1000) ∧ (-10000 ≤ v.2.2 ∧ v.2.2 ≤ 10000) := by
  unfold vorV at h
  split at h
  · rename_i hc
    exact ⟨hc.1.1, hc.1.2, hc.2⟩
  · omega
theorem rPoiE_is (y z : Int) : FrPoiE [.agg [.int .i64 y, .int .i64 z]] = some (poiV y z) := by
  refine FrPoiE_of _ _ ?_
  unfold trPoiE poiV
  have h1 : Fn env 9 _ [.int .i64 y, .int .i64 (-1000), .int .i64 1000] = _ := bWi_is y (-1000) 1000
  have h2 : Fn env 9 _ [.int .i64 z, .int .i64 0, .int .i64 1000] = _ := bWi_is z 0 1000
  rw [h1, h2]
  simp only [bindO_val, bif_dec]
  by_cases a : -1000 ≤ y ∧ y ≤ 1000 <;> by_cases b : 0 ≤ z ∧ z ≤ 1000 <;> simp [a, b]
theorem rVorE_is (v : Z3) : FrVorE [encV v] = some (vorV v) := by
  refine FrVorE_of _ _ _ ?_
  unfold trVorE
  have h1 : Fn env 8 _ [.agg [.int .i64 v.1, .int .i64 v.2.1]] = _ := rPoiE_is v.1 v.2.1
  have h2 : Fn env 9 _ [.int .i64 v.2.2, .int .i64 (-10000), .int .i64 10000] = _ := bWi_is v.2.2 (-10000) 10000
  rw [h1, h2]
  simp only [bindO_val, bif_dec, bif_ne]
  unfold vorV poiV
  by_cases a : (-1000 ≤ v.1 ∧ v.1 ≤ 1000) ∧ (0 ≤ v.2.1 ∧ v.2.1 ≤ 1000) <;> by_cases b : -10000 ≤ v.2.2 ∧ v.2.2 ≤ 10000 <;> simp [a, b]
end Gv

/- The radial product of a vortex. -/
namespace Gv
open Go
set_option maxRecDepth 100000
theorem wSz_is {x : Int} (h : -4000000000000000000 ≤ x ∧ x ≤ 4000000000000000000) : FwSz [.int .i64 x] = some (x.natAbs : Int) := by
  refine FwSz_of _ ?_
  unfold twSz
  rw [w64_in (by omega)]
  by_cases hx : 0 - x > x
  · rw [if_pos hx]
    congr 1
    omega
  · rw [if_neg hx]
    congr 1
    omega
theorem low_0 (i2 i3 : Int) : ∀ (n : Nat) (i0 i1 : Int), i1.natAbs ≤ n → ∃ g, Rlow_0 (Tlow_0a i0 i1 i2 i3) = exO (Xlow_0a (g, i2, i3)) ∧ g.natAbs = Int.gcd i0 i1
  | n, i0, i1, h => by
    by_cases hz : i1 = 0
    · subst hz
      refine ⟨i0, Rlow_0a_of _ _ _ _ ?_, ?_⟩
      · unfold Blow_0a
        rw [bif_ne, if_pos rfl]
        rfl
      · simp
    · match n, h with
      | 0, h => exact absurd (Int.natAbs_eq_zero.1 (by omega)) hz
      | n + 1, h =>
        have hlt : (i0.tmod i1).natAbs < i1.natAbs := by
          rw [natAbs_tmod']
          exact Nat.mod_lt _ (by omega)
        obtain ⟨g, g1, g2⟩ := low_0 i2 i3 n i1 (i0.tmod i1) (by omega)
        refine ⟨g, Rlow_0a_of _ _ _ _ ?_, by rw [g2, gcd_step]⟩
        unfold Blow_0a
        rw [bif_ne, if_neg hz, bif_pos hz]
        exact g1
theorem tdiv_le (n k : Int) : (n.tdiv k).natAbs ≤ n.natAbs := by
  rw [Int.natAbs_tdiv]
  exact Nat.div_le_self _ _
theorem low_is {n d : Int} (hn : -4000000000000000000 ≤ n ∧ n ≤ 4000000000000000000) (hd : 0 < d ∧ d ≤ 4000000000000000000) : Flow [.agg [.int .i64 n, .int .i64 d]] = some (lowF n d) := by
  obtain ⟨g, g1, g2⟩ := low_0 n d n.natAbs d n (Nat.le_refl _)
  have hg : Int.gcd d n = Int.gcd n d := Int.gcd_comm d n
  have hp := gcd_pos (n := n) hd.1
  have hle : Int.gcd n d ≤ d.natAbs := Int.gcd_le_natAbs_right n (by omega)
  have hs : Fn env 77 (RSh.one (CK.int .i64)) [.int .i64 g] = _ := wSz_is (x := g) (by omega)
  have e : (g.natAbs : Int) = (Int.gcd n d : Int) := by rw [g2, hg]
  have b1 := tdiv_le n (Int.gcd n d)
  have b2 := tdiv_le d (Int.gcd n d)
  refine Flow_of _ _ ?_
  unfold tlow
  rw [Llow_0a_of g1, bindO_val]
  dsimp only
  rw [hs, bindO_val, e, bif_pos (by omega), bif_pos (by omega), w64_in (by omega), w64_in (by omega)]
  rfl
theorem mul_in {x y A B : Int} (hx : -A ≤ x ∧ x ≤ A) (hy : -B ≤ y ∧ y ≤ B) : -(A * B) ≤ x * y ∧ x * y ≤ A * B := by
  have h1 : (x * y).natAbs ≤ A.natAbs * B.natAbs := by
    rw [Int.natAbs_mul]
    exact Nat.mul_le_mul (by omega) (by omega)
  have h2 : A * B = ((A.natAbs * B.natAbs : Nat) : Int) := by
    rw [Int.natCast_mul, Int.natAbs_of_nonneg (by omega), Int.natAbs_of_nonneg (by omega)]
  rw [h2]
  omega
def setV (s : Z3) : Int := if ((-1000 ≤ s.1 ∧ s.1 ≤ 1000) ∧ (0 ≤ s.2.1 ∧ s.2.1 ≤ 1000)) ∧ (1 ≤ s.2.2 ∧ s.2.2 ≤ 10000) then 0 else 2
theorem set_in {v : Z3} (h : setV v = 0) : (-1000 ≤ v.1 ∧ v.1 ≤ 1000) ∧ (0 ≤ v.2.1 ∧ v.2.1 ≤ 1000) ∧ (1 ≤ v.2.2 ∧ v.2.2 ≤ 10000) := by
  unfold setV at h
  split at h
  · rename_i hc
    exact ⟨hc.1.1, hc.1.2, hc.2⟩
  · omega
theorem poi_in {y z : Int} (h : poiV y z = 0) : (-1000 ≤ y ∧ y ≤ 1000) ∧ (0 ≤ z ∧ z ≤ 1000) := by
  unfold poiV at h
  split at h
  · assumption
  · omega
theorem vor_ok {v : Z3} (h : (-1000 ≤ v.1 ∧ v.1 ≤ 1000) ∧ (0 ≤ v.2.1 ∧ v.2.1 ≤ 1000) ∧ (-10000 ≤ v.2.2 ∧ v.2.2 ≤ 10000)) : vorV v = 0 := if_pos ⟨⟨h.1, h.2.1⟩, h.2.2⟩
theorem set_ok {v : Z3} (h : (-1000 ≤ v.1 ∧ v.1 ≤ 1000) ∧ (0 ≤ v.2.1 ∧ v.2.1 ≤ 1000) ∧ (1 ≤ v.2.2 ∧ v.2.2 ≤ 10000)) : setV v = 0 := if_pos ⟨⟨h.1, h.2.1⟩, h.2.2⟩
theorem poi_ok {y z : Int} (h : (-1000 ≤ y ∧ y ≤ 1000) ∧ (0 ≤ z ∧ z ≤ 1000)) : poiV y z = 0 := if_pos h
theorem rSetE_is (s : Z3) : FrSetE [encV s] = some (setV s) := by
  refine FrSetE_of _ _ _ ?_
  unfold trSetE
  have h1 : Fn env 8 _ [.agg [.int .i64 s.1, .int .i64 s.2.1]] = _ := rPoiE_is s.1 s.2.1
  have h2 : Fn env 9 _ [.int .i64 s.2.2, .int .i64 1, .int .i64 10000] = _ := bWi_is s.2.2 1 10000
  rw [h1, h2]
  simp only [bindO_val, bif_dec, bif_ne]
  unfold setV poiV
  by_cases a : (-1000 ≤ s.1 ∧ s.1 ≤ 1000) ∧ (0 ≤ s.2.1 ∧ s.2.1 ≤ 1000) <;> by_cases b : 1 ≤ s.2.2 ∧ s.2.2 ≤ 10000 <;> simp [a, b]
theorem setE_is (s : Z3) : FsetE [encV s] = some (setV s) := by
  refine FsetE_of _ _ _ ?_
  unfold tsetE setV
  have h1 : Fn env 41 _ [.agg [.int .i64 s.1, .int .i64 s.2.1]] = _ := posE_is s.1 s.2.1
  have h2 : Fn env 56 _ [.int .i64 s.2.2, .int .i64 1, .int .i64 10000] = _ := rE_is s.2.2 1 10000
  rw [h1, h2]
  simp only [bindO_val, fE2_is, rangeE_if, both, poiV]
  by_cases a : (-1000 ≤ s.1 ∧ s.1 ≤ 1000) ∧ (0 ≤ s.2.1 ∧ s.2.1 ≤ 1000) <;> by_cases b : 1 ≤ s.2.2 ∧ s.2.2 ≤ 10000 <;> simp [a, b]
def radN (v s : Z3) (y z : Int) : Int := v.2.2 * ((y - v.1) * (z - s.2.1) - (z - v.2.1) * (y - s.1))
def radD (v s : Z3) (y z : Int) : Int := (y - v.1) * (y - v.1) + (z - v.2.1) * (z - v.2.1) + s.2.2
theorem rad_in {v s : Z3} {y z : Int} (hv : vorV v = 0) (hs : setV s = 0) (hp : poiV y z = 0) : (-40000000000 ≤ radN v s y z ∧ radN v s y z ≤ 40000000000) ∧ (0 < radD v s y z ∧ radD v s y z ≤ 6000000) ∧ Frad [encV v, encV s, .agg [.int .i64 y, .int .i64 z]] = some (radN v s y z, radD v s y z) := by
  obtain ⟨v1, v2, v3⟩ := vor_in hv
  obtain ⟨s1, s2, s3⟩ := set_in hs
  obtain ⟨p1, p2⟩ := poi_in hp
  have a1 := mul_in (A := 2000) (B := 1000) (x := y - v.1) (y := z - s.2.1) (by omega) (by omega)
  have a2 := mul_in (A := 1000) (B := 2000) (x := z - v.2.1) (y := y - s.1) (by omega) (by omega)
  have a3 := mul_in (A := 2000) (B := 2000) (x := y - v.1) (y := y - v.1) (by omega) (by omega)
  have a4 := mul_in (A := 1000) (B := 1000) (x := z - v.2.1) (y := z - v.2.1) (by omega) (by omega)
  have n3 : 0 ≤ (y - v.1) * (y - v.1) := by
    rcases Int.le_total 0 (y - v.1) with h | h
    · exact Int.mul_nonneg h h
    · exact Int.mul_nonneg_of_nonpos_of_nonpos h h
  have n4 : 0 ≤ (z - v.2.1) * (z - v.2.1) := by
    rcases Int.le_total 0 (z - v.2.1) with h | h
    · exact Int.mul_nonneg h h
    · exact Int.mul_nonneg_of_nonpos_of_nonpos h h
  have a5 := mul_in (A := 10000) (B := 4000000) (x := v.2.2) (y := (y - v.1) * (z - s.2.1) - (z - v.2.1) * (y - s.1)) (by omega) (by omega)
  refine ⟨?_, ?_, ?_⟩
  · unfold radN
    omega
  · unfold radD
    omega
  · refine Frad_of _ _ _ _ _ _ _ _ ?_
    unfold trad radN radD
    rw [w64_in (n := y - v.1) (by omega), w64_in (n := z - s.2.1) (by omega), w64_in (n := z - v.2.1) (by omega), w64_in (n := y - s.1) (by omega), w64_in (n := (y - v.1) * (z - s.2.1)) (by omega), w64_in (n := (z - v.2.1) * (y - s.1)) (by omega), w64_in (n := (y - v.1) * (z - s.2.1) - (z - v.2.1) * (y - s.1)) (by omega), w64_in (n := v.2.2 * ((y - v.1) * (z - s.2.1) - (z - v.2.1) * (y - s.1))) (by omega), w64_in (n := (y - v.1) * (y - v.1)) (by omega), w64_in (n := (z - v.2.1) * (z - v.2.1)) (by omega), w64_in (n := (y - v.1) * (y - v.1) + (z - v.2.1) * (z - v.2.1)) (by omega), w64_in (by omega)]
def radV (v s : Z3) (y z : Int) : Int × Int × Int := if ((lowF (radN v s y z) (radD v s y z)).1.natAbs : Int) > 1000000000 then (0, 0, 8) else ((lowF (radN v s y z) (radD v s y z)).1, (lowF (radN v s y z) (radD v s y z)).2, 0)
theorem radO_is {v s : Z3} {y z : Int} (hv : vorV v = 0) (hs : setV s = 0) (hp : poiV y z = 0) : FradO [encV v, encV s, .agg [.int .i64 y, .int .i64 z]] = some (radV v s y z) := by
  obtain ⟨b1, b2, hr⟩ := rad_in hv hs hp
  have h1 : Fn env 39 (RSh.one (CK.int .i64)) [.agg [.int .i64 v.1, .int .i64 v.2.1, .int .i64 v.2.2]] = _ := vorE_is v
  have h2 : Fn env 40 (RSh.one (CK.int .i64)) [.agg [.int .i64 s.1, .int .i64 s.2.1, .int .i64 s.2.2]] = _ := setE_is s
  have h3 : Fn env 41 (RSh.one (CK.int .i64)) [.agg [.int .i64 y, .int .i64 z]] = _ := posE_is y z
  have h4 : Fn env 38 (RSh.one (CK.int .i64)) [.list 3 [.int .i64 0, .int .i64 0, .int .i64 0]] = _ := fE3_is 0 0 0
  have h5 : Fn env 43 (RSh.agg [(CK.int .i64), (CK.int .i64)]) [.agg [.int .i64 v.1, .int .i64 v.2.1, .int .i64 v.2.2], .agg [.int .i64 s.1, .int .i64 s.2.1, .int .i64 s.2.2], .agg [.int .i64 y, .int .i64 z]] = _ := hr
  have h6 : Fn env 42 (RSh.agg [(CK.int .i64), (CK.int .i64)]) [.agg [.int .i64 (radN v s y z), .int .i64 (radD v s y z)]] = _ := low_is (by omega) (by omega)
  have bl := tdiv_le (radN v s y z) (Int.gcd (radN v s y z) (radD v s y z))
  have h7 : Fn env 44 (RSh.one CK.bool) [.agg [.int .i64 (lowF (radN v s y z) (radD v s y z)).1, .int .i64 (lowF (radN v s y z) (radD v s y z)).2]] = some (decide (((lowF (radN v s y z) (radD v s y z)).1.natAbs : Int) > 1000000000)) := by
    have hsz : Fn env 77 (RSh.one (CK.int .i64)) [.int .i64 (lowF (radN v s y z) (radD v s y z)).1] = _ := wSz_is (x := (lowF (radN v s y z) (radD v s y z)).1) (by
      unfold lowF
      simp only
      omega)
    refine FisL_of _ _ ?_
    unfold tisL
    rw [hsz, bindO_val]
    by_cases h : ((lowF (radN v s y z) (radD v s y z)).1.natAbs : Int) > 1000000000
    · rw [bif_pos h, decide_eq_true h]
    · rw [bif_neg h, decide_eq_false h]
  refine FradO_of _ _ _ _ _ _ _ _ ?_
  unfold tradO radV
  rw [h1, bindO_val, h2, bindO_val, h3, bindO_val, hv, hs, hp, h4, bindO_val, bif_ne, if_pos (show first3 0 0 0 = 0 from rfl), h5, bindO_val]
  dsimp only
  rw [h6, bindO_val, h7, bindO_val]
  by_cases h : ((lowF (radN v s y z) (radD v s y z)).1.natAbs : Int) > 1000000000
  · rw [decide_eq_true h, cond_true, if_pos h]
  · rw [decide_eq_false h, cond_false, if_neg h]
theorem low_neg (n d : Int) : lowF (-n) d = (-(lowF n d).1, (lowF n d).2) := by
  unfold lowF
  rw [Int.neg_gcd, Int.neg_tdiv]
theorem low_null {d : Int} (hd : 0 < d) : lowF 0 d = (0, 1) := by
  unfold lowF
  have e : (Int.gcd 0 d : Int) = d := by
    rw [Int.gcd_zero_left]
    omega
  rw [e, Int.zero_tdiv, Int.tdiv_self (by omega)]
end Gv
