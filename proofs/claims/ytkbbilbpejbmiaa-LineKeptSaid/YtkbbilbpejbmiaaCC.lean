/- C1, C2. -/
import Derived.Test.YtkbbilbpejbmiaaGvEnv
import Derived.Test.YtkbbilbpejbmiaaGvYm
/- What the functions do, round by round: C1. -/
namespace Gv
open Go
set_option maxRecDepth 100000

/-! ### concat -/

def Econcat : List Entry := [.inl 76 a76 s76]
theorem Econcat_ok : ∀ e ∈ Econcat, EntOK env e := (ent_inl rfl ent_nil)
def Tconcat_0a (n0 : Nat) (c1 : List PV) (i2 : Int) (n3 : Nat) (c4 : List PV) (i5 : Int) (i6 : Int) : Q := ⟨(tm 36 [(0, (AV.p (PV.list n0 c1))), (3, (AV.p (PV.int Go.IntKind.i64 i2))), (9, (AV.p (PV.list n3 c4))), (10, (AV.p (PV.int Go.IntKind.i64 i5))), (11, (AV.p (PV.int Go.IntKind.i64 i6)))]), (mm 36 [])⟩
def Xconcat_0a (y : Nat × List PV × Int) : Ext × Q := (Ext.normal, ⟨(tm 36 [(0, (AV.p (PV.list y.1 y.2.1))), (3, (AV.p (PV.int Go.IntKind.i64 y.2.2)))]), (mm 36 [])⟩)
def Iconcat_0a (q : Ext × S) : Nat × List PV × Int := ((pP_list0 (pA_p (avT q.2 0))), (pP_list1 (pA_p (avT q.2 0))), (pP_int1 (pA_p (avT q.2 3))))
abbrev Yconcat_0 : Type := Nat × List PV × Int
def XLconcat_0 : XL Yconcat_0 := .one Xconcat_0a
def Iconcat_0 (q : Ext × S) : Yconcat_0 := (Iconcat_0a q)
theorem XIconcat_0a (y : Nat × List PV × Int) : Iconcat_0 (xe (Xconcat_0a y)) = y := rfl
theorem XIconcat_0 (y : Yconcat_0) : Iconcat_0 (xe (XLconcat_0.fn y)) = y := XIconcat_0a y
noncomputable abbrev Lconcat_0 : Q → Option Yconcat_0 := lpO env a47.body 0 XLconcat_0
noncomputable abbrev Rconcat_0 : Q → Option (Ext × S) := lpR env a47.body 0
theorem Lconcat_0a_of {s : Q} {y : Nat × List PV × Int} (h : Rconcat_0 s = exO (Xconcat_0a y)) : Lconcat_0 s = some y := lpO_of Iconcat_0 XIconcat_0 (y := y) h
def Tconcat_2a (n0 : Nat) (c1 : List PV) (i2 : Int) (i3 : Int) : Q := ⟨(tm 36 [(6, AV.nilS), (25, (AV.p (PV.list n0 c1))), (26, (AV.p (PV.int Go.IntKind.i64 i2))), (27, (AV.p (PV.int Go.IntKind.i64 i3)))]), (mm 36 [])⟩
def Tconcat_2b (n0 : Nat) (c1 : List PV) (n2 : Nat) (c3 : List PV) (i4 : Int) (i5 : Int) (n6 : Nat) : Q := ⟨(tm 36 [(6, (AV.app 33 n0 1 c1)), (25, (AV.p (PV.list n2 c3))), (26, (AV.p (PV.int Go.IntKind.i64 i4))), (27, (AV.p (PV.int Go.IntKind.i64 i5)))]), (mm 36 [(33, (Bk.buf n6))])⟩
def Tconcat_2c (n0 : Nat) (c1 : List PV) (n2 : Nat) (c3 : List PV) (i4 : Int) (i5 : Int) (n6 : Nat) : Q := ⟨(tm 36 [(6, (AV.app 24 n0 1 c1)), (25, (AV.p (PV.list n2 c3))), (26, (AV.p (PV.int Go.IntKind.i64 i4))), (27, (AV.p (PV.int Go.IntKind.i64 i5)))]), (mm 36 [(24, (Bk.buf n6))])⟩
def Xconcat_2a (y : Unit) : Ext × Q := (Ext.normal, ⟨(tm 36 [(6, AV.nilS)]), (mm 36 [])⟩)
def Iconcat_2a (q : Ext × S) : Unit := ()
def Xconcat_2b (y : Nat × List PV × Nat) : Ext × Q := (Ext.normal, ⟨(tm 36 [(6, (AV.app 33 y.1 1 y.2.1))]), (mm 36 [(33, (Bk.buf y.2.2))])⟩)
def Iconcat_2b (q : Ext × S) : Nat × List PV × Nat := ((pA_app1 (avT q.2 6)), (pA_app3 (avT q.2 6)), (pB_buf0 (avM q.2 33)))
def Xconcat_2c (y : Nat × List PV × Nat) : Ext × Q := (Ext.normal, ⟨(tm 36 [(6, (AV.app 24 y.1 1 y.2.1))]), (mm 36 [(24, (Bk.buf y.2.2))])⟩)
def Iconcat_2c (q : Ext × S) : Nat × List PV × Nat := ((pA_app1 (avT q.2 6)), (pA_app3 (avT q.2 6)), (pB_buf0 (avM q.2 24)))
abbrev Yconcat_2 : Type := (Unit) ⊕ ((Nat × List PV × Nat) ⊕ ((Nat × List PV × Nat)))
def XLconcat_2 : XL Yconcat_2 := .more Xconcat_2a (.more Xconcat_2b (.one Xconcat_2c))
def Iconcat_2 (q : Ext × S) : Yconcat_2 := bif (cA (avT q.2 6) == 1) then (Sum.inl (Iconcat_2a q)) else bif (cB (avM q.2 24) == 0) then (Sum.inr (Sum.inl (Iconcat_2b q))) else (Sum.inr (Sum.inr (Iconcat_2c q)))
theorem XIconcat_2a (y : Unit) : Iconcat_2 (xe (Xconcat_2a y)) = (Sum.inl y) := rfl
theorem XIconcat_2b (y : Nat × List PV × Nat) : Iconcat_2 (xe (Xconcat_2b y)) = (Sum.inr (Sum.inl y)) := rfl
theorem XIconcat_2c (y : Nat × List PV × Nat) : Iconcat_2 (xe (Xconcat_2c y)) = (Sum.inr (Sum.inr y)) := rfl
theorem XIconcat_2 (y : Yconcat_2) : Iconcat_2 (xe (XLconcat_2.fn y)) = y := (match y with | .inl y => XIconcat_2a y | .inr y => (match y with | .inl y => XIconcat_2b y | .inr y => XIconcat_2c y))
noncomputable abbrev Lconcat_2 : Q → Option Yconcat_2 := lpO env a47.body 2 XLconcat_2
noncomputable abbrev Rconcat_2 : Q → Option (Ext × S) := lpR env a47.body 2
theorem Lconcat_2a_of {s : Q} {y : Unit} (h : Rconcat_2 s = exO (Xconcat_2a y)) : Lconcat_2 s = some (Sum.inl y) := lpO_of Iconcat_2 XIconcat_2 (y := (Sum.inl y)) h
theorem Lconcat_2b_of {s : Q} {y : Nat × List PV × Nat} (h : Rconcat_2 s = exO (Xconcat_2b y)) : Lconcat_2 s = some (Sum.inr (Sum.inl y)) := lpO_of Iconcat_2 XIconcat_2 (y := (Sum.inr (Sum.inl y))) h
theorem Lconcat_2c_of {s : Q} {y : Nat × List PV × Nat} (h : Rconcat_2 s = exO (Xconcat_2c y)) : Lconcat_2 s = some (Sum.inr (Sum.inr y)) := lpO_of Iconcat_2 XIconcat_2 (y := (Sum.inr (Sum.inr y))) h
theorem Uconcat : uniq ((blocksOf a47.body).map (·.1)) = true := by kernel_rfl
def Bconcat_0a (F : FnT) (N : Q → Option (Ext × S)) (E : Ext × Q → Option (Ext × S)) (L0 : Q → Option Yconcat_0) (L2 : Q → Option Yconcat_2) (n0 : Nat) (c1 : List PV) (i2 : Int) (n3 : Nat) (c4 : List PV) (i5 : Int) (i6 : Int) : Option (Ext × S) :=
  bif (decide (i6 < i5)) then
    bif (decide (((0 : Int) ≤ i6) ∧ (i6 < (n3 : Int)))) then
      bindO (Gv.listC (c4[((Int.toNat i6) * 1)]?)) fun x0 =>
      bif (decide ((w64 (i2 + (x0.1 : Int))) < (0 : Int))) then
        none
      else N (Tconcat_0a n0 c1 (w64 (i2 + (x0.1 : Int))) n3 c4 i5 (w64 (i6 + (1 : Int))))
    else none
  else E (Xconcat_0a (n0, c1, i2))
theorem Bconcat_0a_eq (F : FnT) (N : Q → Option (Ext × S)) (E : Ext × Q → Option (Ext × S)) (L0 : Q → Option Yconcat_0) (L2 : Q → Option Yconcat_2) (n0 : Nat) (c1 : List PV) (i2 : Int) (n3 : Nat) (c4 : List PV) (i5 : Int) (i6 : Int) : semB (callP F Econcat 20) s47 (loopT [⟨0, Yconcat_0, L0, XLconcat_0⟩, ⟨2, Yconcat_2, L2, XLconcat_2⟩]) 400 (blkIn a47.body 0) N E (Tconcat_0a n0 c1 i2 n3 c4 i5 i6) = Bconcat_0a F N E L0 L2 n0 c1 i2 n3 c4 i5 i6 := by kernel_rfl
theorem Rconcat_0a_of  (n0 : Nat) (c1 : List PV) (i2 : Int) (n3 : Nat) (c4 : List PV) (i5 : Int) (i6 : Int) {r : Ext × S} (h : Bconcat_0a (Fn env) Rconcat_0 exO Lconcat_0 Lconcat_2 n0 c1 i2 n3 c4 i5 i6 = some r) : Rconcat_0 (Tconcat_0a n0 c1 i2 n3 c4 i5 i6) = some r :=
  lp_of Econcat_ok (by kernel_rfl) (lo_cons (lpO_ok Uconcat) (lo_cons (lpO_ok Uconcat) lo_nil)) (by kernel_rfl) ((Bconcat_0a_eq _ _ _ _ _ _ _ _ _ _ _ _).trans h)
def Bconcat_2a (F : FnT) (N : Q → Option (Ext × S)) (E : Ext × Q → Option (Ext × S)) (L0 : Q → Option Yconcat_0) (L2 : Q → Option Yconcat_2) (n0 : Nat) (c1 : List PV) (i2 : Int) (i3 : Int) : Option (Ext × S) :=
  bif (decide (i3 < i2)) then
    bif (decide (((0 : Int) ≤ i3) ∧ (i3 < (n0 : Int)))) then
      bindO (Gv.listC (c1[((Int.toNat i3) * 1)]?)) fun x0 =>
      bif (decide (x0.1 = 0)) then
        N (Tconcat_2a n0 c1 i2 (w64 (i3 + (1 : Int))))
      else bif (decide ((List.length x0.2) = (x0.1 * 1))) then
        bif (decide (x0.1 ≤ Gv.big)) then
          N (Tconcat_2b x0.1 x0.2 n0 c1 i2 (w64 (i3 + (1 : Int))) x0.1)
        else none
      else none
    else none
  else E (Xconcat_2a ())
theorem Bconcat_2a_eq (F : FnT) (N : Q → Option (Ext × S)) (E : Ext × Q → Option (Ext × S)) (L0 : Q → Option Yconcat_0) (L2 : Q → Option Yconcat_2) (n0 : Nat) (c1 : List PV) (i2 : Int) (i3 : Int) : semB (callP F Econcat 20) s47 (loopT [⟨0, Yconcat_0, L0, XLconcat_0⟩, ⟨2, Yconcat_2, L2, XLconcat_2⟩]) 400 (blkIn a47.body 2) N E (Tconcat_2a n0 c1 i2 i3) = Bconcat_2a F N E L0 L2 n0 c1 i2 i3 := by kernel_rfl
theorem Rconcat_2a_of  (n0 : Nat) (c1 : List PV) (i2 : Int) (i3 : Int) {r : Ext × S} (h : Bconcat_2a (Fn env) Rconcat_2 exO Lconcat_0 Lconcat_2 n0 c1 i2 i3 = some r) : Rconcat_2 (Tconcat_2a n0 c1 i2 i3) = some r :=
  lp_of Econcat_ok (by kernel_rfl) (lo_cons (lpO_ok Uconcat) (lo_cons (lpO_ok Uconcat) lo_nil)) (by kernel_rfl) ((Bconcat_2a_eq _ _ _ _ _ _ _ _ _).trans h)
def Bconcat_2b (F : FnT) (N : Q → Option (Ext × S)) (E : Ext × Q → Option (Ext × S)) (L0 : Q → Option Yconcat_0) (L2 : Q → Option Yconcat_2) (n0 : Nat) (c1 : List PV) (n2 : Nat) (c3 : List PV) (i4 : Int) (i5 : Int) (n6 : Nat) : Option (Ext × S) :=
  bif (decide (i5 < i4)) then
    bif (decide (((0 : Int) ≤ i5) ∧ (i5 < (n2 : Int)))) then
      bindO (Gv.listC (c3[((Int.toNat i5) * 1)]?)) fun x0 =>
      bif (decide (x0.1 = 0)) then
        N (Tconcat_2b n0 c1 n2 c3 i4 (w64 (i5 + (1 : Int))) n6)
      else bif (decide ((List.length x0.2) = (x0.1 * 1))) then
        bif (decide ((n6 = n0) ∧ ((n0 + x0.1) ≤ Gv.big))) then
          N (Tconcat_2b (n0 + x0.1) (c1 ++ x0.2) n2 c3 i4 (w64 (i5 + (1 : Int))) (n0 + x0.1))
        else none
      else none
    else none
  else E (Xconcat_2b (n0, c1, n6))
theorem Bconcat_2b_eq (F : FnT) (N : Q → Option (Ext × S)) (E : Ext × Q → Option (Ext × S)) (L0 : Q → Option Yconcat_0) (L2 : Q → Option Yconcat_2) (n0 : Nat) (c1 : List PV) (n2 : Nat) (c3 : List PV) (i4 : Int) (i5 : Int) (n6 : Nat) : semB (callP F Econcat 20) s47 (loopT [⟨0, Yconcat_0, L0, XLconcat_0⟩, ⟨2, Yconcat_2, L2, XLconcat_2⟩]) 400 (blkIn a47.body 2) N E (Tconcat_2b n0 c1 n2 c3 i4 i5 n6) = Bconcat_2b F N E L0 L2 n0 c1 n2 c3 i4 i5 n6 := by kernel_rfl
theorem Rconcat_2b_of  (n0 : Nat) (c1 : List PV) (n2 : Nat) (c3 : List PV) (i4 : Int) (i5 : Int) (n6 : Nat) {r : Ext × S} (h : Bconcat_2b (Fn env) Rconcat_2 exO Lconcat_0 Lconcat_2 n0 c1 n2 c3 i4 i5 n6 = some r) : Rconcat_2 (Tconcat_2b n0 c1 n2 c3 i4 i5 n6) = some r :=
  lp_of Econcat_ok (by kernel_rfl) (lo_cons (lpO_ok Uconcat) (lo_cons (lpO_ok Uconcat) lo_nil)) (by kernel_rfl) ((Bconcat_2b_eq _ _ _ _ _ _ _ _ _ _ _ _).trans h)
def Bconcat_2c (F : FnT) (N : Q → Option (Ext × S)) (E : Ext × Q → Option (Ext × S)) (L0 : Q → Option Yconcat_0) (L2 : Q → Option Yconcat_2) (n0 : Nat) (c1 : List PV) (n2 : Nat) (c3 : List PV) (i4 : Int) (i5 : Int) (n6 : Nat) : Option (Ext × S) :=
  bif (decide (i5 < i4)) then
    bif (decide (((0 : Int) ≤ i5) ∧ (i5 < (n2 : Int)))) then
      bindO (Gv.listC (c3[((Int.toNat i5) * 1)]?)) fun x0 =>
      bif (decide (x0.1 = 0)) then
        N (Tconcat_2c n0 c1 n2 c3 i4 (w64 (i5 + (1 : Int))) n6)
      else bif (decide ((List.length x0.2) = (x0.1 * 1))) then
        bif (decide ((n6 = n0) ∧ ((n0 + x0.1) ≤ Gv.big))) then
          N (Tconcat_2c (n0 + x0.1) (c1 ++ x0.2) n2 c3 i4 (w64 (i5 + (1 : Int))) (n0 + x0.1))
        else none
      else none
    else none
  else E (Xconcat_2c (n0, c1, n6))
theorem Bconcat_2c_eq (F : FnT) (N : Q → Option (Ext × S)) (E : Ext × Q → Option (Ext × S)) (L0 : Q → Option Yconcat_0) (L2 : Q → Option Yconcat_2) (n0 : Nat) (c1 : List PV) (n2 : Nat) (c3 : List PV) (i4 : Int) (i5 : Int) (n6 : Nat) : semB (callP F Econcat 20) s47 (loopT [⟨0, Yconcat_0, L0, XLconcat_0⟩, ⟨2, Yconcat_2, L2, XLconcat_2⟩]) 400 (blkIn a47.body 2) N E (Tconcat_2c n0 c1 n2 c3 i4 i5 n6) = Bconcat_2c F N E L0 L2 n0 c1 n2 c3 i4 i5 n6 := by kernel_rfl
theorem Rconcat_2c_of  (n0 : Nat) (c1 : List PV) (n2 : Nat) (c3 : List PV) (i4 : Int) (i5 : Int) (n6 : Nat) {r : Ext × S} (h : Bconcat_2c (Fn env) Rconcat_2 exO Lconcat_0 Lconcat_2 n0 c1 n2 c3 i4 i5 n6 = some r) : Rconcat_2 (Tconcat_2c n0 c1 n2 c3 i4 i5 n6) = some r :=
  lp_of Econcat_ok (by kernel_rfl) (lo_cons (lpO_ok Uconcat) (lo_cons (lpO_ok Uconcat) lo_nil)) (by kernel_rfl) ((Bconcat_2c_eq _ _ _ _ _ _ _ _ _ _ _ _).trans h)
def tconcat (F : FnT) (L0 : Q → Option Yconcat_0) (L2 : Q → Option Yconcat_2) (p0n : Nat) (p0c : List PV) : Option ((Nat) × (List PV)) :=
  bindO (L0 (Tconcat_0a p0n p0c (0 : Int) p0n p0c (p0n : Int) (0 : Int))) fun y0 =>
  bif (decide (y0.2.2 = (0 : Int))) then
    bindO (L2 (Tconcat_2a y0.1 y0.2.1 (y0.1 : Int) (0 : Int))) fun z =>
    Sum.elim (fun y1 =>
      some (0, [])) (fun z0 => Sum.elim (fun y2 =>
      bif (decide (y2.2.2 = y2.1)) then
        some (y2.1, y2.2.1)
      else none) (fun y3 =>
      bif (decide (y3.2.2 = y3.1)) then
        some (y3.1, y3.2.1)
      else none) z0) z
  else bif (decide (((0 : Int) < y0.2.2) ∧ (y0.2.2 ≤ (Gv.big : Int)))) then
    bindO (L2 (Tconcat_2c 0 [] y0.1 y0.2.1 (y0.1 : Int) (0 : Int) 0)) fun z =>
    Sum.elim (fun y4 =>
      some (0, [])) (fun z0 => Sum.elim (fun y5 =>
      bif (decide (y5.2.2 = y5.1)) then
        some (y5.1, y5.2.1)
      else none) (fun y6 =>
      bif (decide (y6.2.2 = y6.1)) then
        some (y6.1, y6.2.1)
      else none) z0) z
  else none
theorem tconcat_eq (F : FnT) (L0 : Q → Option Yconcat_0) (L2 : Q → Option Yconcat_2) (p0n : Nat) (p0c : List PV) : semF (callP F Econcat 20) s47 (loopT [⟨0, Yconcat_0, L0, XLconcat_0⟩, ⟨2, Yconcat_2, L2, XLconcat_2⟩]) 400 a47 [PV.list p0n p0c] (fun rv => decR (Gv.RSh.one Gv.CK.list) rv.pv) = tconcat F L0 L2 p0n p0c := by kernel_rfl
noncomputable abbrev Fconcat (args : List PV) := Fn env 47 (Gv.RSh.one Gv.CK.list) args
theorem Fconcat_of  (p0n : Nat) (p0c : List PV) {res : ((Nat) × (List PV))} (h : tconcat (Fn env) Lconcat_0 Lconcat_2 p0n p0c = some res) : Fconcat [PV.list p0n p0c] = some res :=
  fn_of Econcat_ok rfl rfl (lo_cons (lpO_ok Uconcat) (lo_cons (lpO_ok Uconcat) lo_nil)) ((tconcat_eq _ _ _ _ _).trans h)

end Gv

/- slices.Concat of lists of integers: all of them, one after the other. -/
namespace Gv
open Go

theorem encLL_get' (l : List (List Int)) (i : Nat) : (encLL l)[i]? = (l[i]?).map fun r => PV.list r.length (encI r) := by simp [encLL]
theorem encLL_len' (l : List (List Int)) : (encLL l).length = l.length := by simp [encLL]

/-- How many they are. -/
def lensI (l : List (List Int)) : Nat := (l.map List.length).sum

theorem lensI_drop {l : List (List Int)} {i : Nat} {r : List Int} (h : l.drop i = r :: l.drop (i + 1)) : lensI (l.drop i) = r.length + lensI (l.drop (i + 1)) := by
  rw [h]; simp [lensI]

theorem concat_sum (l : List (List Int)) (hl : l.length ≤ 1000000) (hs : lensI l ≤ 1000000) : ∀ i, i ≤ l.length → ∀ a : Nat, a + lensI (l.drop i) ≤ 1000000 →
    Rconcat_0 (Tconcat_0a l.length (encLL l) (a : Int) l.length (encLL l) (l.length : Int) (i : Int)) = exO (Xconcat_0a (l.length, encLL l, ((a + lensI (l.drop i) : Nat) : Int))) := by
  refine up_ind _ ?_ ?_
  · intro a ha
    refine Rconcat_0a_of _ _ _ _ _ _ _ ?_
    unfold Bconcat_0a
    rw [bif_neg (by omega), List.drop_length]
    simp [lensI]
    rfl
  · intro i hi ih a ha
    obtain ⟨r, h1, h2⟩ := get_drop hi
    have h3 := lensI_drop h2
    refine Rconcat_0a_of _ _ _ _ _ _ _ ?_
    unfold Bconcat_0a
    rw [bif_pos (by omega), bif_pos (by omega), show (i : Int).toNat * 1 = i by omega, encLL_get', h1]
    simp only [Option.map_some, listC_list, bindO_val]
    rw [w64_in (by omega), w64_in (by omega), bif_neg (by omega)]
    have := ih (a + r.length) (by omega)
    rw [show ((a + r.length : Nat) : Int) = (a : Int) + (r.length : Int) by omega, show a + r.length + lensI (l.drop (i + 1)) = a + lensI (l.drop i) by omega] at this
    exact this

theorem lensI_flat (l : List (List Int)) : lensI l = l.flatten.length := by simp [lensI]

theorem concat_nil (l : List (List Int)) (hl : l.length ≤ 1000000) (hs : lensI l = 0) : ∀ i, i ≤ l.length →
    Rconcat_2 (Tconcat_2a l.length (encLL l) (l.length : Int) (i : Int)) = exO (Xconcat_2a ()) := by
  refine up_ind _ ?_ ?_
  · refine Rconcat_2a_of _ _ _ _ ?_
    unfold Bconcat_2a
    rw [bif_neg (by omega)]
    rfl
  · intro i hi ih
    obtain ⟨r, h1, h2⟩ := get_drop hi
    have h3 : r.length = 0 := by
      rw [lensI_flat] at hs
      rw [List.flatten_eq_nil_iff.1 (List.length_eq_zero_iff.1 hs) r (List.mem_of_getElem? h1)]
      rfl
    refine Rconcat_2a_of _ _ _ _ ?_
    unfold Bconcat_2a
    rw [bif_pos (by omega), bif_pos (by omega), show (i : Int).toNat * 1 = i by omega, encLL_get', h1]
    simp only [Option.map_some, listC_list, bindO_val]
    rw [bif_pos h3, w64_in (by omega)]
    exact ih

theorem concat_all (l : List (List Int)) (hl : l.length ≤ 1000000) : ∀ i, i ≤ l.length → ∀ acc : List Int, acc.length + lensI (l.drop i) ≤ 1000000 →
    Rconcat_2 (Tconcat_2c acc.length (encI acc) l.length (encLL l) (l.length : Int) (i : Int) acc.length) =
      exO (Xconcat_2c ((acc ++ (l.drop i).flatten).length, encI (acc ++ (l.drop i).flatten), (acc ++ (l.drop i).flatten).length)) := by
  refine up_ind _ ?_ ?_
  · intro acc ha
    refine Rconcat_2c_of _ _ _ _ _ _ _ ?_
    unfold Bconcat_2c
    rw [bif_neg (by omega), List.drop_length, List.flatten_nil, List.append_nil]
    rfl
  · intro i hi ih acc ha
    obtain ⟨r, h1, h2⟩ := get_drop hi
    have h3 := lensI_drop h2
    have he : acc ++ (l.drop i).flatten = (acc ++ r) ++ (l.drop (i + 1)).flatten := by rw [h2]; simp
    have next := ih (acc ++ r) (by rw [List.length_append]; omega)
    rw [← he, List.length_append, encI_app acc r] at next
    refine Rconcat_2c_of _ _ _ _ _ _ _ ?_
    unfold Bconcat_2c
    rw [bif_pos (by omega), bif_pos (by omega), show (i : Int).toNat * 1 = i by omega, encLL_get', h1]
    simp only [Option.map_some, listC_list, bindO_val]
    rw [w64_in (by omega)]
    by_cases h0 : r.length = 0
    · have hr : r = [] := List.length_eq_zero_iff.1 h0
      subst hr
      rw [bif_pos h0]
      simp [encI] at next ⊢
      exact next
    · rw [bif_neg h0, bif_pos (by simp [encI]), bif_pos ⟨trivial, by unfold big; omega⟩]
      exact next

theorem concat_is (l : List (List Int)) (hl : l.length ≤ 1000000) (hs : l.flatten.length ≤ 1000000) : Fconcat [.list l.length (encLL l)] = some (l.flatten.length, encI l.flatten) := by
  have hs' := lensI_flat l
  refine Fconcat_of _ _ ?_
  have h1 := concat_sum l hl (by omega) 0 (Nat.zero_le _) 0 (by simp; omega)
  simp only [List.drop_zero, Nat.zero_add] at h1
  unfold tconcat
  rw [show (0 : Int) = ((0 : Nat) : Int) from rfl, Lconcat_0a_of h1, bindO_val]
  simp only
  by_cases h0 : lensI l = 0
  · have h2 := concat_nil l hl h0 0 (Nat.zero_le _)
    rw [bif_pos (by omega), Lconcat_2a_of h2, bindO_val]
    have : l.flatten = [] := List.length_eq_zero_iff.1 (by omega)
    simp [this, encI]
  · have h2 := concat_all l hl 0 (Nat.zero_le _) [] (by simp; omega)
    simp only [List.drop_zero, List.nil_append, List.length_nil] at h2
    rw [bif_neg (by omega), bif_pos (by unfold big; omega)]
    rw [show ([] : List PV) = encI [] from rfl, Lconcat_2c_of h2, bindO_val]
    simp
end Gv

