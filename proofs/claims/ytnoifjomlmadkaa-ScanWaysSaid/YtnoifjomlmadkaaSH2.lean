import Derived.Test.YtnoifjomlmadkaaSH1
import Derived.Test.YtnoifjomlmadkaaSS1

/- What the functions do, round by round: SH5. -/
namespace Gv
open Go
set_option maxRecDepth 100000

/-! ### B0_Mod -/

def EB0_Mod : List Entry := []
theorem EB0_Mod_ok : ∀ e ∈ EB0_Mod, EntOK env e := ent_nil
theorem UB0_Mod : uniq ((blocksOf a42.body).map (·.1)) = true := by kernel_rfl
def tB0_Mod (F : FnT) (p0 : Int) (p1 : Int) : Option (Int) :=
  bif (decide (p1 ≠ (0 : Int))) then
    bif (decide ((Int.tmod p0 p1) < (0 : Int))) then
      some (w64 ((Int.tmod p0 p1) + p1))
    else some (Int.tmod p0 p1)
  else none
theorem tB0_Mod_eq (F : FnT) (p0 : Int) (p1 : Int) : semF (callP F EB0_Mod 20) s42 (loopT []) 400 a42 [PV.int IntKind.i64 p0, PV.int IntKind.i64 p1] (fun rv => decR (RSh.one (CK.int IntKind.i64)) rv.pv) = tB0_Mod F p0 p1 := by kernel_rfl
noncomputable abbrev FB0_Mod (args : List PV) := Fn env 42 (RSh.one (CK.int IntKind.i64)) args
theorem FB0_Mod_of  (p0 : Int) (p1 : Int) {res : (Int)} (h : tB0_Mod (Fn env) p0 p1 = some res) : FB0_Mod [PV.int IntKind.i64 p0, PV.int IntKind.i64 p1] = some res :=
  fn_of EB0_Mod_ok rfl rfl lo_nil ((tB0_Mod_eq _ _ _).trans h)

end Gv

/- Heads: their sectors, what is reserved, and their errors; the program's and the specification's. -/
namespace Gv
open Go
set_option maxRecDepth 100000

structure Sec where
  a : Int
  b : Int
  c : Int
  d : Int
def enc4 (s : Sec) : List PV := [.int .i64 s.a, .int .i64 s.b, .int .i64 s.c, .int .i64 s.d]
def encS (l : List Sec) : List PV := l.flatMap enc4
theorem enc4_len (s : Sec) : (enc4 s).length = 4 := rfl
@[simp] theorem encS_len (l : List Sec) : (encS l).length = l.length * 4 := flat_len enc4 4 enc4_len l
theorem encS_0 (l : List Sec) (i : Nat) : (encS l)[i * 4]? = l[i]?.map fun z => PV.int .i64 z.a := by
  have := flat_get enc4 4 enc4_len l i 0 (by omega)
  rw [Nat.add_zero] at this
  unfold encS
  rw [this]
  cases l[i]? <;> rfl
theorem encS_1 (l : List Sec) (i : Nat) : (encS l)[i * 4 + 1]? = l[i]?.map fun z => PV.int .i64 z.b := by
  have := flat_get enc4 4 enc4_len l i 1 (by omega)
  unfold encS
  rw [this]
  cases l[i]? <;> rfl
theorem encS_2 (l : List Sec) (i : Nat) : (encS l)[i * 4 + 1 + 1]? = l[i]?.map fun z => PV.int .i64 z.c := by
  have := flat_get enc4 4 enc4_len l i 2 (by omega)
  unfold encS
  rw [show i * 4 + 1 + 1 = i * 4 + 2 by omega, this]
  cases l[i]? <;> rfl
theorem encS_3 (l : List Sec) (i : Nat) : (encS l)[i * 4 + 1 + 1 + 1]? = l[i]?.map fun z => PV.int .i64 z.d := by
  have := flat_get enc4 4 enc4_len l i 3 (by omega)
  unfold encS
  rw [show i * 4 + 1 + 1 + 1 = i * 4 + 3 by omega, this]
  cases l[i]? <;> rfl

def first5 (a b c d e : Int) : Int := if a ≠ 0 then a else if b ≠ 0 then b else if c ≠ 0 then c else if d ≠ 0 then d else e
theorem first5_nil {a b c d e : Int} (h : first5 a b c d e = 0) : a = 0 ∧ b = 0 ∧ c = 0 ∧ d = 0 ∧ e = 0 := by
  unfold first5 at h
  split at h
  · contradiction
  · split at h
    · contradiction
    · split at h
      · contradiction
      · split at h
        · contradiction
        · exact ⟨by omega, by omega, by omega, by omega, h⟩
theorem firstError4_is (a b c d : Int) : Fn env 59 (RSh.one (CK.int IntKind.i64)) [.list 4 [.int .i64 a, .int .i64 b, .int .i64 c, .int .i64 d]] = some (first4 a b c d) := by
  refine Fscan_firstError_4_of _ _ _ _ ?_
  unfold tscan_firstError_4 first4
  simp only [bif_ne, ne_eq, ite_not]
  by_cases h0 : a = 0 <;> by_cases h1 : b = 0 <;> by_cases h2 : c = 0 <;> by_cases h3 : d = 0 <;> simp [h0, h1, h2, h3]
theorem firstError5_is (a b c d e : Int) : Fn env 59 (RSh.one (CK.int IntKind.i64)) [.list 5 [.int .i64 a, .int .i64 b, .int .i64 c, .int .i64 d, .int .i64 e]] = some (first5 a b c d e) := by
  refine Fscan_firstError_5_of _ _ _ _ _ ?_
  unfold tscan_firstError_5 first5
  simp only [bif_ne, ne_eq, ite_not]
  by_cases h0 : a = 0 <;> by_cases h1 : b = 0 <;> by_cases h2 : c = 0 <;> by_cases h3 : d = 0 <;> by_cases h4 : e = 0 <;> simp [h0, h1, h2, h3, h4]

theorem azimuthError_is (x : Int) : Fscan_azimuthError [.int .i64 x] = some (rangeE x 0 359) := by
  refine Fscan_azimuthError_of _ ?_
  unfold tscan_azimuthError
  simp only [rangeError_is, bindO_val]
theorem elevationError_is (x : Int) : Fscan_elevationError [.int .i64 x] = some (rangeE x 0 90) := by
  refine Fscan_elevationError_of _ ?_
  unfold tscan_elevationError
  simp only [rangeError_is, bindO_val]

def dirE (x y : Int) : Int := both (rangeE x 0 359) (rangeE y 0 90)
theorem dirE_ok {x y : Int} (h : dirE x y = 0) : (0 ≤ x ∧ x ≤ 359) ∧ 0 ≤ y ∧ y ≤ 90 := by
  obtain ⟨h1, h2⟩ := both_nil h
  exact ⟨rangeE_ok h1, rangeE_ok h2⟩
theorem dirE_in {x y : Int} (h1 : 0 ≤ x ∧ x ≤ 359) (h2 : 0 ≤ y ∧ y ≤ 90) : dirE x y = 0 := by
  unfold dirE
  rw [rangeE_in h1, rangeE_in h2]
  rfl
theorem directionError_is (x y : Int) : Fscan_directionError [.agg [.int .i64 x, .int .i64 y]] = some (dirE x y) := by
  refine Fscan_directionError_of _ _ ?_
  unfold tscan_directionError
  simp only [azimuthError_is, elevationError_is, firstError2_is, bindO_val]
  rfl
theorem refDirection_is (x y : Int) : FR3_DirectionErr [.agg [.int .i64 x, .int .i64 y]] = some (dirE x y) := by
  refine FR3_DirectionErr_of _ _ ?_
  unfold tR3_DirectionErr
  simp only [within_is, bindO_val]
  unfold dirE
  by_cases h1 : 0 ≤ x ∧ x ≤ 359
  · by_cases h2 : 0 ≤ y ∧ y ≤ 90
    · rw [bif_pos h1, bif_pos h2, rangeE_in h1, rangeE_in h2]; rfl
    · rw [bif_pos h1, bif_neg h2, rangeE_in h1, rangeE_out h2]; rfl
  · rw [bif_neg h1, rangeE_out h1]; rfl

def secE (s : Sec) : Int := first5 (rangeE s.a 0 359) (rangeE s.b 0 359) (rangeE s.c 0 90) (rangeE s.d 0 90) (if s.c > s.d then 9 else 0)
theorem secE_ok {s : Sec} (h : secE s = 0) : (0 ≤ s.a ∧ s.a ≤ 359) ∧ (0 ≤ s.b ∧ s.b ≤ 359) ∧ (0 ≤ s.c ∧ s.c ≤ 90) ∧ (0 ≤ s.d ∧ s.d ≤ 90) ∧ s.c ≤ s.d := by
  obtain ⟨h1, h2, h3, h4, h5⟩ := first5_nil h
  refine ⟨rangeE_ok h1, rangeE_ok h2, rangeE_ok h3, rangeE_ok h4, ?_⟩
  split at h5
  · cases h5
  · omega
theorem sectorError_is (s : Sec) : Fscan_sectorError [.agg [.int .i64 s.a, .int .i64 s.b, .int .i64 s.c, .int .i64 s.d]] = some (secE s) := by
  refine Fscan_sectorError_of _ _ _ _ ?_
  unfold tscan_sectorError
  simp only [azimuthError_is, elevationError_is, errorIf_is, firstError5_is, bindO_val, if_true, Bool.false_eq_true, if_false]
  unfold secE
  by_cases h : s.c > s.d
  · rw [bif_pos h, if_pos h]
  · rw [bif_neg h, if_neg h]

def upA (p q : Int) : Int := Int.tmod (w64 (w64 (q - p) + 360)) 360
theorem upA_in {p q : Int} (hp : 0 ≤ p ∧ p ≤ 359) (hq : 0 ≤ q ∧ q ≤ 359) : upA p q = (q - p + 360) % 360 := by
  unfold upA
  rw [w64_in (n := q - p) (by omega), w64_in (by omega), Int.tmod_eq_emod_of_nonneg (by omega)]
theorem upwards_is (p q : Int) : Fscan_upwards [.int .i64 p, .int .i64 q] = some (upA p q) := by
  refine Fscan_upwards_of _ _ ?_
  rfl
def hasB (s : Sec) (x y : Int) : Bool := decide (upA s.a x ≤ upA s.a s.b ∧ y ≥ s.c ∧ y ≤ s.d)
theorem hasDirection_is (s : Sec) (x y : Int) : Fscan_hasDirection [.agg [.int .i64 s.a, .int .i64 s.b, .int .i64 s.c, .int .i64 s.d], .agg [.int .i64 x, .int .i64 y]] = some (hasB s x y) := by
  refine Fscan_hasDirection_of _ _ _ _ _ _ ?_
  unfold tscan_hasDirection hasB
  simp only [upwards_is, bindO_val]
  by_cases h1 : upA s.a x ≤ upA s.a s.b
  · by_cases h2 : y ≥ s.c
    · by_cases h3 : y ≤ s.d
      · rw [bif_pos h1, bif_pos h2, bif_pos h3]; simp [h1, h2, h3]
      · rw [bif_pos h1, bif_pos h2, bif_neg h3]; simp [h3]
    · rw [bif_pos h1, bif_neg h2]; simp [h2]
  · rw [bif_neg h1]; simp [h1]

/-! ### What is reserved, by the program -/
theorem isReserved1_is (s : Sec) (x y : Int) : Fscan_isReserved_1 [.agg [.int .i64 s.a, .int .i64 s.b, .int .i64 s.c, .int .i64 s.d], .imm [.int .i64 x, .int .i64 y] 0] = some (hasB s x y) := by
  refine Fscan_isReserved_1_of _ _ _ _ _ _ ?_
  unfold tscan_isReserved_1
  simp only [hasDirection_is, bindO_val]
  cases hasB s x y <;> rfl

def fiS (x y : Int) : List Sec → Nat → Option Nat
  | [], _ => none
  | s :: l, i => if hasB s x y then some i else fiS x y l (i + 1)
theorem fiS_none {x y : Int} : ∀ {l : List Sec} {i : Nat}, fiS x y l i = none → l.any (hasB · x y) = false
  | [], _, _ => rfl
  | s :: l, i, h => by
    simp only [fiS] at h
    split at h
    · cases h
    · rename_i hs
      simp [hs, fiS_none h]
theorem fiS_some {x y : Int} : ∀ {l : List Sec} {i k : Nat}, fiS x y l i = some k → l.any (hasB · x y) = true
  | [], _, _, h => by simp [fiS] at h
  | s :: l, i, k, h => by
    simp only [fiS] at h
    split at h
    · rename_i hs
      simp [hs]
    · simp [fiS_some h]

abbrev XIF (o : Option Nat) : Ext × Q := match o with
  | some k => XixSec_0a (k : Int)
  | none => XixSec_0b ()
theorem ixs_loop (l : List Sec) (x y : Int) (hl : l.length < 4294967296) : ∀ i, i ≤ l.length →
    RixSec_0 (TixSec_0a l.length (encS l) x y (l.length : Int) (i : Int)) = exO (XIF (fiS x y (l.drop i) i)) := by
  refine up_ind _ ?_ ?_
  · rw [List.drop_of_length_le (Nat.le_refl _)]
    refine RixSec_0a_of _ _ _ _ _ _ ?_
    unfold BixSec_0a
    rw [bif_neg (by omega)]
    rfl
  · intro i hi ih
    obtain ⟨s, hs, hd⟩ := get_drop hi
    refine RixSec_0a_of _ _ _ _ _ _ ?_
    unfold BixSec_0a
    rw [bif_pos (by omega), bif_pos (by omega)]
    simp only [Int.toNat_natCast, encS_0, encS_1, encS_2, encS_3, hs, Option.map_some, intC_int, isReserved1_is, bindO_val]
    rw [hd, fiS]
    cases hb : hasB s x y
    · rw [cond_false, if_neg (by simp), w64_in (by omega)]
      exact ih
    · rw [cond_true, if_pos rfl]
      rfl
theorem containsFunc_is (l : List Sec) (x y : Int) (hl : l.length < 4294967296) : FcfSec [.list l.length (encS l), .fn 105 [.imm [.int .i64 x, .int .i64 y] 0]] = some (l.any (hasB · x y)) := by
  refine FcfSec_of _ _ _ _ ?_
  unfold tcfSec
  have h := ixs_loop l x y hl 0 (Nat.zero_le _)
  rw [List.drop_zero, show ((0 : Nat) : Int) = 0 from rfl] at h
  have hI : ∃ r : Int, FixSec [.list l.length (encS l), .fn 105 [.imm [.int .i64 x, .int .i64 y] 0]] = some r ∧ (decide (r ≥ 0) = l.any (hasB · x y)) := by
    cases hf : fiS x y l 0 with
    | none =>
      rw [hf] at h
      refine ⟨-1, FixSec_of _ _ _ _ ?_, by rw [fiS_none hf]; rfl⟩
      unfold tixSec
      rw [LixSec_0b_of h]
      rfl
    | some k =>
      rw [hf] at h
      refine ⟨(k : Int), FixSec_of _ _ _ _ ?_, by rw [fiS_some hf]; simp⟩
      unfold tixSec
      rw [LixSec_0a_of h]
      rfl
  obtain ⟨r, h1, h2⟩ := hI
  simp only [h1, bindO_val, h2]
  cases l.any (hasB · x y) <;> rfl

/-- A head: home, both drives, sectors. -/
structure Hd where
  x : Int
  y : Int
  r1 : Int
  a1 : Int
  r2 : Int
  a2 : Int
  l : List Sec
abbrev encH (h : Hd) : PV := .agg [.int .i64 h.x, .int .i64 h.y, .int .i64 h.r1, .int .i64 h.a1, .int .i64 h.r2, .int .i64 h.a2, .list h.l.length (encS h.l)]
def anyR (h : Hd) (x y : Int) : Bool := h.l.any (hasB · x y)
theorem isReservedP_is (h : Hd) (x y : Int) (hl : h.l.length < 4294967296) : Fscan_isReserved [encH h, .agg [.int .i64 x, .int .i64 y]] = some (anyR h x y) := by
  refine Fscan_isReserved_of _ _ _ _ _ _ _ _ _ _ ?_
  unfold tscan_isReserved
  simp only [containsFunc_is h.l x y hl, bindO_val]
  show (bif anyR h x y then some true else some false) = _
  cases anyR h x y <;> rfl

/-! ### The errors of a head, by the program -/
theorem items_loop (l : List Sec) (hl : l.length < 4294967296) : ∀ i, i ≤ l.length →
    Rscan_itemError_sectors_0 (Tscan_itemError_sectors_0a l.length (encS l) (l.length : Int) (i : Int)) = exO (XLscan_itemError_sectors_0.fn (sumE (findE secE (l.drop i) i))) := by
  refine up_ind _ ?_ ?_
  · rw [List.drop_of_length_le (Nat.le_refl _)]
    refine Rscan_itemError_sectors_0a_of _ _ _ _ ?_
    unfold Bscan_itemError_sectors_0a
    rw [bif_neg (by omega)]
    rfl
  · intro i hi ih
    obtain ⟨s, hs, hd⟩ := get_drop hi
    refine Rscan_itemError_sectors_0a_of _ _ _ _ ?_
    unfold Bscan_itemError_sectors_0a
    rw [bif_pos (by omega), bif_pos (by omega)]
    simp only [Int.toNat_natCast, encS_0, encS_1, encS_2, encS_3, hs, Option.map_some, intC_int, sectorError_is, bindO_val, bif_ne]
    rw [hd, findE]
    by_cases h0 : secE s = 0
    · rw [if_pos h0, if_neg (by simpa using h0), w64_in (by omega)]
      exact ih
    · rw [if_neg h0, if_pos h0]
      rfl
theorem items_is (l : List Sec) (hl : l.length < 4294967296) : Fscan_itemError_sectors [.list l.length (encS l), .fn 73 []] = some ((findE secE l 0).getD (0, 0)) := by
  refine Fscan_itemError_sectors_of _ _ ?_
  unfold tscan_itemError_sectors
  have h := items_loop l hl 0 (Nat.zero_le _)
  rw [List.drop_zero, show ((0 : Nat) : Int) = 0 from rfl] at h
  cases hf : findE secE l 0 with
  | none =>
    rw [hf] at h
    have h := Lscan_itemError_sectors_0b_of (y := ()) h
    simp only [h, bindO_val, Sum.elim_inr]
    rfl
  | some p =>
    rw [hf] at h
    have h := Lscan_itemError_sectors_0a_of (y := p) h
    simp only [h, bindO_val, Sum.elim_inl]
    rfl

def largeE (n : Nat) : Int := if (n : Int) > 6 then 8 else 0
/-- The error of a head, with the index of the sector. -/
def headIE (h : Hd) : Int × Int :=
  if first4 (dirE h.x h.y) (axE h.r1 h.a1) (axE h.r2 h.a2) (largeE h.l.length) ≠ 0 then (0, first4 (dirE h.x h.y) (axE h.r1 h.a1) (axE h.r2 h.a2) (largeE h.l.length))
  else if ((findE secE h.l 0).getD (0, 0)).2 ≠ 0 then (findE secE h.l 0).getD (0, 0)
  else (0, if anyR h h.x h.y then 22 else 0)
theorem checkHead_is (h : Hd) (hl : h.l.length < 4294967296) : Fscan_CheckHead [encH h] = some (headIE h) := by
  refine Fscan_CheckHead_of _ _ _ _ _ _ _ _ ?_
  unfold tscan_CheckHead headIE
  simp only [directionError_is, checkAxis_is, errorIf_is, firstError4_is, items_is h.l hl, isReservedP_is h h.x h.y hl, bindO_val, bif_ne, if_true, Bool.false_eq_true, if_false]
  simp only [ne_eq, ite_not]
  by_cases hn : (h.l.length : Int) > 6
  · rw [bif_pos hn]
    simp only [largeE, if_pos hn]
    by_cases h0 : first4 (dirE h.x h.y) (axE h.r1 h.a1) (axE h.r2 h.a2) 8 = 0
    · exact absurd (first4_nil h0).2.2.2 (by omega)
    · rw [if_neg h0, if_neg h0]
  · rw [bif_neg hn]
    simp only [largeE, if_neg hn]
    by_cases h0 : first4 (dirE h.x h.y) (axE h.r1 h.a1) (axE h.r2 h.a2) 0 = 0
    · rw [if_pos h0, if_pos h0]
      by_cases h1 : ((findE secE h.l 0).getD (0, 0)).2 = 0
      · rw [if_pos h1, if_pos h1]
        cases anyR h h.x h.y <;> rfl
      · rw [if_neg h1, if_neg h1]
    · rw [if_neg h0, if_neg h0]
theorem headError_is (h : Hd) (hl : h.l.length < 4294967296) : Fscan_headError [encH h] = some (headIE h).2 := by
  refine Fscan_headError_of _ _ _ _ _ _ _ _ ?_
  unfold tscan_headError
  simp only [checkHead_is h hl, bindO_val]
theorem isReserved_is (h : Hd) (x y : Int) (hl : h.l.length < 4294967296) : Fscan_IsReserved [encH h, .agg [.int .i64 x, .int .i64 y]] =
    some (if both (headIE h).2 (dirE x y) = 0 then (anyR h x y, 0) else (false, both (headIE h).2 (dirE x y))) := by
  refine Fscan_IsReserved_of _ _ _ _ _ _ _ _ _ _ ?_
  unfold tscan_IsReserved
  simp only [headError_is h hl, directionError_is, firstError2_is, isReservedP_is h x y hl, bindO_val, bif_ne]
  split
  · cases anyR h x y <;> rfl
  · rfl

theorem copyHead_is (h : Hd) (hl : h.l.length ≤ 8) : FR3_CopyHead [encH h] = some (h.x, h.y, h.r1, h.a1, h.r2, h.a2, h.l.length, encS h.l) := by
  refine FR3_CopyHead_of _ _ _ _ _ _ _ _ ?_
  unfold tR3_CopyHead
  by_cases h0 : h.l.length = 0
  · rw [bif_pos h0]
    have e : h.l = [] := List.length_eq_zero_iff.1 h0
    rw [e]
    rfl
  · rw [bif_neg h0, bif_pos (by simp), bif_pos ⟨rfl, by simp only [big]; omega⟩]
    simp
theorem few_is (h : Hd) : FL3_few [encH h] = some (decide ((h.l.length : Int) ≤ 8)) := by
  refine FL3_few_of _ _ _ _ _ _ _ _ ?_
  unfold tL3_few
  by_cases hh : (h.l.length : Int) ≤ 8
  · rw [bif_pos hh]; simp [hh]
  · rw [bif_neg hh]; simp [hh]

/-! ### The specification -/
theorem mod_is (n : Int) (h : 0 ≤ n) : FB0_Mod [.int .i64 n, .int .i64 360] = some (n % 360) := by
  refine FB0_Mod_of _ _ ?_
  unfold tB0_Mod
  rw [bif_pos (by omega), Int.tmod_eq_emod_of_nonneg h, bif_neg (by omega)]
theorem refIsIn_at (s : Sec) (x y : Int) (hs : secE s = 0) (hx : 0 ≤ x ∧ x ≤ 359) : ∀ k : Nat, k ≤ min ((x - s.a + 360) % 360).toNat ((s.b - s.a + 360) % 360).toNat →
    RR3_IsIn_0 (TR3_IsIn_0a ((s.a + k) % 360) s.a s.b s.c s.d x y) = exO (XR3_IsIn_0a (hasB s x y)) := by
  obtain ⟨ha, hb, _, _, _⟩ := secE_ok hs
  refine up_ind _ ?_ ?_
  · refine RR3_IsIn_0a_of _ _ _ _ _ _ _ ?_
    unfold BR3_IsIn_0a hasB
    rw [upA_in ha hx, upA_in ha hb, bif_eq, bif_eq]
    by_cases h : (x - s.a + 360) % 360 ≤ (s.b - s.a + 360) % 360
    · rw [if_pos (by omega)]
      simp only [within_is, bindO_val]
      by_cases hy : s.c ≤ y ∧ y ≤ s.d
      · rw [bif_pos hy, show decide ((x - s.a + 360) % 360 ≤ (s.b - s.a + 360) % 360 ∧ y ≥ s.c ∧ y ≤ s.d) = true from decide_eq_true ⟨h, hy⟩]
        rfl
      · rw [bif_neg hy, show decide ((x - s.a + 360) % 360 ≤ (s.b - s.a + 360) % 360 ∧ y ≥ s.c ∧ y ≤ s.d) = false from decide_eq_false fun hh => hy hh.2]
        rfl
    · rw [if_neg (by omega), if_pos (by omega), show decide ((x - s.a + 360) % 360 ≤ (s.b - s.a + 360) % 360 ∧ y ≥ s.c ∧ y ≤ s.d) = false from decide_eq_false fun hh => h hh.1]
      rfl
  · intro k hk ih
    refine RR3_IsIn_0a_of _ _ _ _ _ _ _ ?_
    unfold BR3_IsIn_0a
    rw [bif_eq, bif_eq, if_neg (by omega), if_neg (by omega), w64_in (by omega)]
    simp only [mod_is _ (show 0 ≤ (s.a + (k : Int)) % 360 + 1 by omega), bindO_val]
    rw [show ((s.a + (k : Int)) % 360 + 1) % 360 = (s.a + ((k + 1 : Nat) : Int)) % 360 by omega]
    exact ih
theorem refIsIn_is (s : Sec) (x y : Int) (hs : secE s = 0) (hx : 0 ≤ x ∧ x ≤ 359) : FR3_IsIn [.agg [.int .i64 s.a, .int .i64 s.b, .int .i64 s.c, .int .i64 s.d], .agg [.int .i64 x, .int .i64 y]] = some (hasB s x y) := by
  refine FR3_IsIn_of _ _ _ _ _ _ ?_
  unfold tR3_IsIn
  have h := refIsIn_at s x y hs hx 0 (Nat.zero_le _)
  obtain ⟨ha, _⟩ := secE_ok hs
  rw [show (s.a + ((0 : Nat) : Int)) % 360 = s.a by omega] at h
  rw [LR3_IsIn_0a_of h]
  rfl

def HdV (h : Hd) : Prop := ∀ s ∈ h.l, secE s = 0

theorem refReserved_loop (h : Hd) (x y : Int) (hl : h.l.length < 4294967296) (hv : HdV h) (hx : 0 ≤ x ∧ x ≤ 359) : ∀ i, i ≤ h.l.length →
    RR3_IsReserved_0 (TR3_IsReserved_0a (i : Int) h.x h.y h.r1 h.a1 h.r2 h.a2 h.l.length (encS h.l) x y) =
      exO (XLR3_IsReserved_0.fn (if (h.l.drop i).any (hasB · x y) then .inl () else .inr (h.x, h.y, h.r1, h.a1, h.r2, h.a2, h.l.length, encS h.l, x, y))) := by
  refine up_ind _ ?_ ?_
  · rw [List.drop_of_length_le (Nat.le_refl _)]
    refine RR3_IsReserved_0a_of _ _ _ _ _ _ _ _ _ _ _ ?_
    unfold BR3_IsReserved_0a
    rw [bif_neg (by omega)]
    rfl
  · intro i hi ih
    obtain ⟨s, hs, hd⟩ := get_drop hi
    have hsm : s ∈ h.l := List.mem_of_getElem? hs
    refine RR3_IsReserved_0a_of _ _ _ _ _ _ _ _ _ _ _ ?_
    unfold BR3_IsReserved_0a
    rw [bif_pos (by omega), bif_pos (by omega)]
    simp only [Int.toNat_natCast, encS_0, encS_1, encS_2, encS_3, hs, Option.map_some, intC_int, refIsIn_is s x y (hv s hsm) hx, bindO_val]
    rw [hd, List.any_cons]
    cases hb : hasB s x y
    · rw [cond_false, Bool.false_or, w64_in (by omega)]
      exact ih
    · rw [cond_true, Bool.true_or, if_pos rfl]
      rfl
theorem refReserved_is (h : Hd) (x y : Int) (hl : h.l.length < 4294967296) (hv : HdV h) (hx : 0 ≤ x ∧ x ≤ 359) : FR3_IsReserved [encH h, .agg [.int .i64 x, .int .i64 y]] = some (anyR h x y) := by
  refine FR3_IsReserved_of _ _ _ _ _ _ _ _ _ _ ?_
  unfold tR3_IsReserved
  have hh := refReserved_loop h x y hl hv hx 0 (Nat.zero_le _)
  rw [List.drop_zero, show ((0 : Nat) : Int) = 0 from rfl] at hh
  unfold anyR
  cases hb : h.l.any (hasB · x y)
  · rw [hb, if_neg (by simp)] at hh
    have hh := LR3_IsReserved_0b_of hh
    simp only [hh, bindO_val, Sum.elim_inr]
  · rw [hb, if_pos rfl] at hh
    have hh := LR3_IsReserved_0a_of (y := ()) hh
    simp only [hh, bindO_val, Sum.elim_inl]

theorem refCheck_loop (h : Hd) (hl : h.l.length < 4294967296) : ∀ i, i ≤ h.l.length →
    RR3_CheckHead_0 (TR3_CheckHead_0a (i : Int) h.x h.y h.r1 h.a1 h.r2 h.a2 h.l.length (encS h.l)) =
      exO (XLR3_CheckHead_0.fn (match findE secE (h.l.drop i) i with | some p => .inl p | none => .inr (h.x, h.y, h.r1, h.a1, h.r2, h.a2, h.l.length, encS h.l))) := by
  refine up_ind _ ?_ ?_
  · rw [List.drop_of_length_le (Nat.le_refl _)]
    refine RR3_CheckHead_0a_of _ _ _ _ _ _ _ _ _ ?_
    unfold BR3_CheckHead_0a
    rw [bif_neg (by omega)]
    rfl
  · intro i hi ih
    obtain ⟨s, hs, hd⟩ := get_drop hi
    refine RR3_CheckHead_0a_of _ _ _ _ _ _ _ _ _ ?_
    unfold BR3_CheckHead_0a
    rw [bif_pos (by omega), bif_pos (by omega)]
    simp only [Int.toNat_natCast, encS_0, encS_1, encS_2, encS_3, hs, Option.map_some, intC_int, within_is, bindO_val]
    rw [hd, findE]
    by_cases h1 : 0 ≤ s.a ∧ s.a ≤ 359
    · rw [bif_pos h1]
      by_cases h2 : 0 ≤ s.b ∧ s.b ≤ 359
      · rw [bif_pos h2]
        by_cases h3 : 0 ≤ s.c ∧ s.c ≤ 90
        · rw [bif_pos h3]
          by_cases h4 : 0 ≤ s.d ∧ s.d ≤ 90
          · rw [bif_pos h4]
            by_cases h5 : s.c > s.d
            · have e : secE s = 9 := by unfold secE first5; simp [rangeE_in h1, rangeE_in h2, rangeE_in h3, rangeE_in h4, h5]
              rw [bif_pos h5, e, if_pos (by omega)]
              rfl
            · have e : secE s = 0 := by unfold secE first5; simp [rangeE_in h1, rangeE_in h2, rangeE_in h3, rangeE_in h4, h5]
              rw [bif_neg h5, e, if_neg (by omega), w64_in (by omega)]
              exact ih
          · have e : secE s = 2 := by unfold secE first5; simp [rangeE_in h1, rangeE_in h2, rangeE_in h3, rangeE_out h4]
            rw [bif_neg h4, e, if_pos (by omega)]
            rfl
        · have e : secE s = 2 := by unfold secE first5; simp [rangeE_in h1, rangeE_in h2, rangeE_out h3]
          rw [bif_neg h3, e, if_pos (by omega)]
          rfl
      · have e : secE s = 2 := by unfold secE first5; simp [rangeE_in h1, rangeE_out h2]
        rw [bif_neg h2, e, if_pos (by omega)]
        rfl
    · have e : secE s = 2 := by unfold secE first5; simp [rangeE_out h1]
      rw [bif_neg h1, e, if_pos (by omega)]
      rfl

theorem findE_all {l : List Sec} {i : Nat} (h : findE secE l i = none) : ∀ s ∈ l, secE s = 0 := findE_none h
theorem refCheckHead_is (h : Hd) (hl : h.l.length < 4294967296) : FR3_CheckHead [encH h] = some (headIE h) := by
  refine FR3_CheckHead_of _ _ _ _ _ _ _ _ ?_
  unfold tR3_CheckHead headIE first4 largeE
  simp only [refDirection_is, refAxis_is, bindO_val, bif_ne]
  by_cases h1 : dirE h.x h.y = 0
  · rw [if_pos h1]
    by_cases h2 : axE h.r1 h.a1 = 0
    · rw [if_pos h2]
      by_cases h3 : axE h.r2 h.a2 = 0
      · rw [if_pos h3]
        by_cases h4 : (h.l.length : Int) > 6
        · rw [bif_pos h4]
          simp [h1, h2, h3, h4]
        · rw [bif_neg h4]
          have hh := refCheck_loop h hl 0 (Nat.zero_le _)
          rw [List.drop_zero, show ((0 : Nat) : Int) = 0 from rfl] at hh
          simp only [h1, h2, h3, if_neg h4, ne_eq, not_true_eq_false, if_false]
          cases hf : findE secE h.l 0 with
          | none =>
            rw [hf] at hh
            have hh := LR3_CheckHead_0b_of hh
            have hr := refReserved_is h h.x h.y hl (findE_all hf) (dirE_ok h1).1
            simp only [hh, bindO_val, Sum.elim_inr, hr, Option.getD_none, not_true_eq_false, if_false]
            cases anyR h h.x h.y <;> rfl
          | some p =>
            rw [hf] at hh
            have hh := LR3_CheckHead_0a_of hh
            have hp := (findE_some hf).1
            simp only [hh, bindO_val, Sum.elim_inl, Option.getD_some, if_pos hp]
      · rw [if_neg h3]
        simp [h1, h2, h3]
    · rw [if_neg h2]
      simp [h1, h2]
  · rw [if_neg h1]
    simp [h1]
theorem headIE_ok {h : Hd} (h0 : (headIE h).2 = 0) : dirE h.x h.y = 0 ∧ axE h.r1 h.a1 = 0 ∧ axE h.r2 h.a2 = 0 ∧ h.l.length ≤ 6 ∧ HdV h ∧ headIE h = (0, 0) ∧ anyR h h.x h.y = false := by
  unfold headIE at h0 ⊢
  by_cases h1 : first4 (dirE h.x h.y) (axE h.r1 h.a1) (axE h.r2 h.a2) (largeE h.l.length) = 0
  · rw [if_neg (by simpa using h1)] at h0 ⊢
    obtain ⟨a1, a2, a3, a4⟩ := first4_nil h1
    have hn : h.l.length ≤ 6 := by
      unfold largeE at a4
      split at a4
      · cases a4
      · omega
    cases hf : findE secE h.l 0 with
    | none =>
      rw [hf] at h0
      simp only [Option.getD_none, ne_eq, not_true_eq_false, if_false] at h0 ⊢
      cases hb : anyR h h.x h.y
      · exact ⟨a1, a2, a3, hn, findE_all hf, by simp, rfl⟩
      · rw [hb] at h0
        simp at h0
    | some p =>
      rw [hf] at h0
      have hp := (findE_some hf).1
      simp only [Option.getD_some, if_pos hp] at h0
      exact absurd h0 hp
  · rw [if_pos h1] at h0
    exact absurd h0 h1
end Gv
