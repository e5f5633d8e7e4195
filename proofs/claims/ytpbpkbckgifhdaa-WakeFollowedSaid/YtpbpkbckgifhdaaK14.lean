import Derived.Test.YtpbpkbckgifhdaaGvEnv
import Derived.Test.YtpbpkbckgifhdaaGvYm
import Derived.Test.YtpbpkbckgifhdaaK2
import Derived.Test.YtpbpkbckgifhdaaX20

/- What the functions do, round by round: B4. -/
namespace Gv
open Go
set_option maxRecDepth 100000
def EcosE : List Entry := [.out 86 (RSh.one (CK.int .i64))]
theorem EcosE_ok : ∀ e ∈ EcosE, EntOK env e := (ent_out ent_nil)
def tcosE (F : FnT) (p0 : Int) : Option (Int) :=
 bindO (F 86 (RSh.one (CK.int .i64)) [(PV.int .i64 p0), (PV.int .i64 (0 : Int)), (PV.int .i64 (10000000 : Int))]) fun (y0 : (Int)) =>
 some y0
theorem tcosE_eq (F : FnT) (p0 : Int) : semF (callP F EcosE 20) s91 (loopT []) 400 a91 [PV.int .i64 p0] (fun rv => decR (RSh.one (CK.int .i64)) rv.pv) = tcosE F p0 := by kernel_rfl
noncomputable abbrev FcosE (args : List PV) := Fn env 91 (RSh.one (CK.int .i64)) args
theorem FcosE_of  (p0 : Int) {res : (Int)} (h : tcosE (Fn env) p0 = some res) : FcosE [PV.int .i64 p0] = some res :=
 fn_of EcosE_ok rfl rfl lo_nil ((tcosE_eq _ _).trans h)
end Gv

/- What the functions do, round by round: B5. -/
namespace Gv
open Go
set_option maxRecDepth 100000
end Gv

/- What the functions do, round by round: B6. -/
namespace Gv
open Go
set_option maxRecDepth 100000
def TsCon_1520000000a (n0 : Nat) (c1 : List PV) (i2 i3 i4 : Int) : Q := ⟨(tm 19 [(0, (AV.p (PV.list n0 c1))), (1, (AV.p (PV.int .i64 i2))), (7, (AV.p (PV.int .i64 i3))), (8, (AV.p (PV.int .i64 i4)))]), (mm 19 [])⟩
def XsCon_1520000000a (y : Int) : Ext × Q := (Ext.ret, ⟨(tm 19 [(4, (AV.p (PV.int .i64 y)))]), (mm 19 [])⟩)
def IsCon_1520000000a (q : Ext × S) : Int := (pP_int1 (pA_p (avT q.2 4)))
def XsCon_1520000000b (_y : Unit) : Ext × Q := (Ext.normal, ⟨(tm 19 []), (mm 19 [])⟩)
def IsCon_1520000000b (_q : Ext × S) : Unit := ()
abbrev YsCon_1520000000 : Type := (Int) ⊕ ((Unit))
def XLsCon_1520000000 : XL YsCon_1520000000 := .more XsCon_1520000000a (.one XsCon_1520000000b)
def IsCon_1520000000 (q : Ext × S) : YsCon_1520000000 := bif (cE q.1 == 2) then (Sum.inl (IsCon_1520000000a q)) else (Sum.inr (IsCon_1520000000b q))
theorem XIsCon_1520000000a (y : Int) : IsCon_1520000000 (xe (XsCon_1520000000a y)) = (Sum.inl y) := by kernel_rfl
theorem XIsCon_1520000000b (y : Unit) : IsCon_1520000000 (xe (XsCon_1520000000b y)) = (Sum.inr y) := by kernel_rfl
theorem XIsCon_1520000000 (y : YsCon_1520000000) : IsCon_1520000000 (xe (XLsCon_1520000000.fn y)) = y := (match y with | .inl y => XIsCon_1520000000a y | .inr y => XIsCon_1520000000b y)
noncomputable abbrev LsCon_1520000000 : Q → Option YsCon_1520000000 := lpO env a152.body 0 XLsCon_1520000000
noncomputable abbrev RsCon_1520000000 : Q → Option (Ext × S) := lpR env a152.body 0
theorem LsCon_1520000000a_of {s : Q} {y : Int} (h : RsCon_1520000000 s = exO (XsCon_1520000000a y)) : LsCon_1520000000 s = some (Sum.inl y) := lpO_of IsCon_1520000000 XIsCon_1520000000 (y := (Sum.inl y)) h
theorem LsCon_1520000000b_of {s : Q} {y : Unit} (h : RsCon_1520000000 s = exO (XsCon_1520000000b y)) : LsCon_1520000000 s = some (Sum.inr y) := lpO_of IsCon_1520000000 XIsCon_1520000000 (y := (Sum.inr y)) h
theorem UsCong152 : uniq ((blocksOf a152.body).map (·.1)) = true := by kernel_rfl
def EsCon (L1520000000 : QQ YsCon_1520000000) : List Entry := [.inp 152 a152 s152 [⟨0, YsCon_1520000000, L1520000000, XLsCon_1520000000⟩]]
theorem EsCon_ok : ∀ e ∈ EsCon LsCon_1520000000, EntOK env e := (ent_inp rfl (lo_cons (lpO_ok UsCong152) lo_nil) ent_nil)
def BsCon_1520000000a (_F : FnT) (N : QO) (E : EO) (_L1520000000 : QQ YsCon_1520000000) (n0 : Nat) (c1 : List PV) (i2 i3 i4 : Int) : OX :=
 bif (decide (i4 < i3)) then
  bif (decide (((0 : Int) ≤ i4) ∧ (i4 < (n0 : Int)))) then
   bindO (intC .i64 (c1[((Int.toNat i4) * 1)]?)) fun x0 =>
   bif (i2 == x0) then
    E (XsCon_1520000000a i4)
   else N (TsCon_1520000000a n0 c1 i2 i3 (w64 (i4 + (1 : Int))))
  else none
 else E (XsCon_1520000000b ())
theorem BsCon_1520000000a_eq (F : FnT) (N : QO) (E : EO) (L1520000000 : QQ YsCon_1520000000) (n0 : Nat) (c1 : List PV) (i2 i3 i4 : Int) : semB (callP F (EsCon L1520000000) 20) s152 (loopT [⟨0, YsCon_1520000000, L1520000000, XLsCon_1520000000⟩]) 400 (blkIn a152.body 0) N E (TsCon_1520000000a n0 c1 i2 i3 i4) = BsCon_1520000000a F N E L1520000000 n0 c1 i2 i3 i4 := by kernel_rfl
theorem RsCon_1520000000a_of  (n0 : Nat) (c1 : List PV) (i2 i3 i4 : Int) {r : Ext × S} (h : BsCon_1520000000a (Fn env) RsCon_1520000000 exO LsCon_1520000000 n0 c1 i2 i3 i4 = some r) : RsCon_1520000000 (TsCon_1520000000a n0 c1 i2 i3 i4) = some r :=
 lp_of EsCon_ok (by kernel_rfl) (lo_cons (lpO_ok UsCong152) lo_nil) (by kernel_rfl) ((BsCon_1520000000a_eq _ _ _ _ _ _ _ _ _).trans h)
def tsCon (_F : FnT) (L1520000000 : QQ YsCon_1520000000) (p0n : Nat) (p0c : List PV) (p1 : Int) : Option (Bool) :=
 bindO (L1520000000 (TsCon_1520000000a p0n p0c p1 (p0n : Int) (0 : Int))) fun z =>
 Sum.elim (fun y0 =>
  bif (decide (y0 ≥ (0 : Int))) then
   some true
  else some false) (fun _y1 =>
  some false) z
theorem tsCon_eq (F : FnT) (L1520000000 : QQ YsCon_1520000000) (p0n : Nat) (p0c : List PV) (p1 : Int) : semF (callP F (EsCon L1520000000) 20) s115 (loopT []) 400 a115 [PV.list p0n p0c, PV.int .i64 p1] (fun rv => decR (RSh.one CK.bool) rv.pv) = tsCon F L1520000000 p0n p0c p1 := by kernel_rfl
noncomputable abbrev FsCon (args : List PV) := Fn env 115 (RSh.one CK.bool) args
theorem FsCon_of  (p0n : Nat) (p0c : List PV) (p1 : Int) {res : (Bool)} (h : tsCon (Fn env) LsCon_1520000000 p0n p0c p1 = some res) : FsCon [PV.list p0n p0c, PV.int .i64 p1] = some res :=
 fn_of EsCon_ok rfl rfl lo_nil ((tsCon_eq _ _ _ _ _).trans h)
end Gv

/- What the functions do, round by round: B7. -/
namespace Gv
open Go
set_option maxRecDepth 100000
end Gv

/- What the functions do, round by round: B9. -/
namespace Gv
open Go
set_option maxRecDepth 100000
end Gv

/- Matrices of costs: encodings, copies, errors, costs. -/
namespace Gv
open Go
set_option maxRecDepth 100000
def rowI (r : List Int) : PV := .list r.length (encI r)
def encM (L : List (List Int)) : List PV := L.map rowI
theorem encM_get (L : List (List Int)) (i : Nat) : (encM L)[i]? = L[i]?.map rowI := by simp [encM]
theorem intI_get {r : List Int} {i : Nat} (h : i < r.length) : intC .i64 (encI r)[i]? = some (r.getD i 0) := by
 rw [encI_get, List.getElem?_eq_getElem h]
 simp [List.getD, List.getElem?_eq_getElem h]
theorem listM_get {L : List (List Int)} {i : Nat} (h : i < L.length) : listC (encM L)[i]? = some ((L.getD i []).length, encI (L.getD i [])) := by
 rw [encM_get, List.getElem?_eq_getElem h]
 simp [List.getD, List.getElem?_eq_getElem h, rowI, listC]
theorem drop_getD {r : List Int} {i : Nat} (h : i < r.length) : r.drop i = r.getD i 0 :: r.drop (i + 1) := by
 rw [List.drop_eq_getElem_cons h]
 simp [List.getD, List.getElem?_eq_getElem h]
theorem getD_memM {L : List (List Int)} {i : Nat} (h : i < L.length) : L.getD i [] ∈ L := by
 simp [List.getD, List.getElem?_eq_getElem h]
def okC (x : Int) : Bool := decide (0 ≤ x ∧ x ≤ 10000000)
def rowE (k : Nat) (r : List Int) : Int := if r.length = k then (if r.all okC = true then 0 else 2) else 10
def matF (k : Nat) : List (List Int) → Nat → Option (Int × Int)
 | [], _ => none
 | r :: L, i => if rowE k r = 0 then matF k L (i + 1) else some ((i : Int), rowE k r)
def matV (L : List (List Int)) : Int × Int := if L.length = 0 then (0, 10) else if 6 < L.length then (0, 8) else (matF L.length L 0).getD (0, 0)
def SmallP (L : List (List Int)) : Prop := L.length ≤ 8 ∧ (∀ r ∈ L, r.length ≤ 8) ∧ ((matV L).2 ≠ 0 ∨ L.length ≤ 5)
instance (L : List (List Int)) : Decidable (SmallP L) := by unfold SmallP; infer_instance
def Zm (L : List (List Int)) (i j : Nat) : Int := (L.getD i []).getD j 0
end Gv

/- Errors of matrices and of assignments. -/
namespace Gv
open Go
set_option maxRecDepth 100000
theorem sCon_loop (r : List Int) (hr : r.length ≤ 1000) (x : Int) : ∀ (m k : Nat), k + m = r.length →
  ∃ j : Nat, RsCon_1520000000 (TsCon_1520000000a r.length (encI r) x r.length k) = if (r.drop k).contains x = true then exO (XsCon_1520000000a (j : Int)) else exO (XsCon_1520000000b ())
 | 0, k, h => by
  refine ⟨0, ?_⟩
  rw [List.drop_of_length_le (by omega), if_neg (by simp)]
  refine RsCon_1520000000a_of _ _ _ _ _ ?_
  unfold BsCon_1520000000a
  rw [bif_neg (by omega)]
  rfl
 | m + 1, k, h => by
  obtain ⟨j, ih⟩ := sCon_loop r hr x m (k + 1) (by omega)
  have hk : k < r.length := by omega
  have hs : BsCon_1520000000a (Fn env) RsCon_1520000000 exO LsCon_1520000000 r.length (encI r) x r.length k = if x = r.getD k 0 then exO (XsCon_1520000000a (k : Int)) else RsCon_1520000000 (TsCon_1520000000a r.length (encI r) x r.length ((k + 1 : Nat) : Int)) := by
   unfold BsCon_1520000000a
   rw [bif_pos (by omega), bif_pos (by omega)]
   simp only [Int.toNat_natCast, Nat.mul_one, intI_get hk, bindO_val]
   rw [w64_in (by omega)]
   by_cases he : x = r.getD k 0
   ·rw [if_pos he, ← he]
    simp
   ·have e : (x == r.getD k 0) = false := by rw [beq_eq_false_iff_ne]; exact he
    rw [if_neg he, e]
    rfl
  rw [drop_getD hk, List.contains_cons]
  by_cases he : x = r.getD k 0
  ·rw [if_pos he] at hs
   refine ⟨k, ?_⟩
   rw [if_pos (by rw [Bool.or_eq_true]; exact .inl (by rw [beq_iff_eq]; exact he))]
   exact RsCon_1520000000a_of _ _ _ _ _ hs
  ·rw [if_neg he, ih] at hs
   refine ⟨j, ?_⟩
   have e : (x == r.getD k 0) = false := by rw [beq_eq_false_iff_ne]; exact he
   rw [e, Bool.false_or]
   split at hs
   ·rename_i ha
    rw [if_pos ha]
    exact RsCon_1520000000a_of _ _ _ _ _ hs
   ·rename_i ha
    rw [if_neg ha]
    exact RsCon_1520000000a_of _ _ _ _ _ hs
theorem sCon_is (r : List Int) (hr : r.length ≤ 1000) (x : Int) : FsCon [.list r.length (encI r), .int .i64 x] = some (r.contains x) := by
 refine FsCon_of _ _ _ ?_
 unfold tsCon
 obtain ⟨j, h⟩ := sCon_loop r hr x r.length 0 (by omega)
 rw [List.drop_zero] at h
 have h : RsCon_1520000000 (TsCon_1520000000a r.length (encI r) x r.length 0) = _ := h
 split at h
 ·rename_i ha
  rw [LsCon_1520000000a_of h, ha]
  simp only [bindO_val, Sum.elim_inl]
  rw [bif_pos (by omega)]
 ·rename_i ha
  rw [LsCon_1520000000b_of h, (Bool.not_eq_true _).mp ha]
  rfl
end Gv

/- An assignment with potentials, as the reference checks it. -/
namespace Gv
open Go
set_option maxRecDepth 100000
section
variable (L : List (List Int)) (hL : L.length ≤ 1000) (a R C : List Int) (ha : a.length = L.length) (hR : R.length = L.length) (hC : C.length = L.length)
include hL ha hR hC
end
end Gv

/- The parts of the program's check of an assignment. -/
namespace Gv
open Go
set_option maxRecDepth 100000
theorem sumI_is {B : Int} : ∀ (r : List Int) (s : Int), (∀ x ∈ r, -B ≤ x ∧ x ≤ B) → 0 ≤ B → B ≤ 100000000 → -(1000000000000 - r.length * B) ≤ s ∧ s ≤ 1000000000000 - r.length * B → r.foldl (fun a x => w64 (a + x)) s = s + r.sum
 | [], s, _, _, _, _ => by simp
 | x :: r, s, h, h0, hB, hs => by
  have hx := h x (by simp)
  have e : (((x :: r).length : Nat) : Int) * B = r.length * B + B := by rw [List.length_cons, Int.natCast_add, Int.add_mul]; simp
  rw [e] at hs
  have hn : 0 ≤ (r.length : Int) * B := Int.mul_nonneg (by omega) h0
  rw [List.foldl_cons, w64_in (by omega), sumI_is r (s + x) (fun y hy => h y (by simp [hy])) h0 hB (by omega), List.sum_cons]
  omega
end Gv

/- The cheapest assignments, as the reference and the program find them. -/
namespace Gv
open Go
set_option maxRecDepth 100000
def minF (c : List Nat → Int) (l : List (List Nat)) (s : Int) : Int := l.foldl (fun s b => if c b < s then c b else s) s
def minL (c : List Nat → Int) (l : List (List Nat)) : Int := minF c (l.drop 1) (c (l.getD 0 []))
def cheapL (c : List Nat → Int) (l : List (List Nat)) : List (List Nat) := l.filter fun b => decide (c b = minL c l)
theorem all_fold (c : List Nat → Int) : ∀ (l p : List (List Nat)) (k : Int), (∀ b ∈ p, k ≤ c b) → l.foldl (allStep c) (some (p.filter (fun b => decide (c b = k)), k)) = some ((p ++ l).filter (fun b => decide (c b = minF c l k)), minF c l k)
 | [], p, k, _ => by rw [List.append_nil]; rfl
 | x :: l, p, k, h => by
  have e : minF c (x :: l) k = minF c l (if c x < k then c x else k) := rfl
  rw [List.foldl_cons, e]
  have hp : p ++ x :: l = (p ++ [x]) ++ l := by simp
  rw [hp]
  by_cases h1 : c x < k
  ·have hs : allStep c (some (p.filter (fun b => decide (c b = k)), k)) x = some ((p ++ [x]).filter (fun b => decide (c b = c x)), c x) := by
    unfold allStep
    simp only [h1, if_true]
    have : p.filter (fun b => decide (c b = c x)) = [] := List.filter_eq_nil_iff.2 fun b hb => by
     have := h b hb
     simp only [decide_eq_true_eq]
     omega
    rw [List.filter_append, this]
    simp
   rw [hs, if_pos h1]
   refine all_fold c l (p ++ [x]) (c x) fun b hb => ?_
   rcases List.mem_append.1 hb with hb | hb
   ·have := h b hb; omega
   ·simp at hb; subst hb; omega
  ·rw [if_neg h1]
   have hge : ∀ b ∈ p ++ [x], k ≤ c b := fun b hb => by
    rcases List.mem_append.1 hb with hb | hb
    ·exact h b hb
    ·simp at hb; subst hb; omega
   by_cases h2 : c x = k
   ·have hs : allStep c (some (p.filter (fun b => decide (c b = k)), k)) x = some ((p ++ [x]).filter (fun b => decide (c b = k)), k) := by
     unfold allStep
     simp only [h1, if_false]
     rw [if_pos h2, List.filter_append]
     simp [h2]
    rw [hs]
    exact all_fold c l (p ++ [x]) k hge
   ·have hs : allStep c (some (p.filter (fun b => decide (c b = k)), k)) x = some ((p ++ [x]).filter (fun b => decide (c b = k)), k) := by
     unfold allStep
     simp only [h1, if_false]
     rw [if_neg h2, List.filter_append]
     simp [h2]
    rw [hs]
    exact all_fold c l (p ++ [x]) k hge
theorem allIn_is (c : List Nat → Int) {l : List (List Nat)} (h : l ≠ []) : allIn c l = some (cheapL c l, minL c l) := by
 obtain ⟨x, r, rfl⟩ := List.exists_cons_of_ne_nil h
 have := all_fold c r [x] (c x) fun b hb => by simp at hb; subst hb; omega
 have e : allIn c (x :: r) = r.foldl (allStep c) (some ([x].filter (fun b => decide (c b = c x)), c x)) := by
  unfold allIn
  rw [List.foldl_cons]
  simp [allStep]
 rw [e, this]
 rfl
def asgs (N : Nat) : List (List Nat) := ext N N []
theorem asgs_row {N : Nat} (h : N ≤ 5) {b : List Nat} (hb : b ∈ asgs N) : b.length = N ∧ ∀ x ∈ b, x < N := ⟨ext_row h b hb, fun x hx => by simpa using List.all_eq_true.1 (ext_all_lt h b hb) x hx⟩
section
variable (L : List (List Int)) (h5 : L.length ≤ 5) (hr : ∀ r ∈ L, r.length = L.length)
include h5 hr
end
end Gv

/- The cheapest assignment and certain rows. -/
namespace Gv
open Go
set_option maxRecDepth 100000
theorem prim1_fn {env : Nat → Option AFn} {f n : Nat} {cs : List PV} {g : List PV → Option PV} {v : PV} (hf : env f = some (primA 1 g)) (hg : g [.list n cs] = some v) : run env f [.list n cs] = some (.val v) := by
 refine (run_iff env).2 ⟨2, ?_⟩
 have e : exN (callN env 1) 1 (primA 1 g).body (start (primA 1 g) [.list n cs]) = some (.normal, ⟨[.p (.list n cs), .p v], [Blk.none, Blk.none]⟩) := by
  show exN (callN env 1) 1 (.ops [{ dst := some 1, grd := none, args := [.tmp 0], k := .l (.prim g) }]) ⟨[.p (.list n cs), .undef], [Blk.none, Blk.none]⟩ = _
  simp only [exN, exOps, exOp, grd]
  have hk : runK (callN env 1) (.l (.prim g)) [.p (.list n cs)] [Blk.none, Blk.none] = some (.p v, [Blk.none, Blk.none]) := by
   simp only [runK, runL, pureAs, pureA, hg, Option.map_some]
  have ha : ([Arg.tmp 0].map (Arg.get [AV.p (.list n cs), .undef])) = [.p (.list n cs)] := rfl
  simp only [ha, hk]
  rfl
 rw [callN_fn env 1 f _ (fun sh caps e => by cases e)]
 simp only [hf]
 rw [if_pos ⟨rfl, rfl⟩, e]
 rfl
theorem zOf_enc (L : List (List Int)) : zOf (encM L) = Zm L := by
 funext i j
 unfold zOf Zm
 rw [encM_get]
 by_cases hi : i < L.length
 ·rw [List.getElem?_eq_getElem hi]
  simp only [Option.map_some, rowI, List.getD, List.getElem?_eq_getElem hi, Option.getD_some]
  unfold intAt
  rw [encI_get]
  by_cases hj : j < L[i].length
  ·rw [List.getElem?_eq_getElem hj]
   rfl
  ·rw [List.getElem?_eq_none (by omega)]
   rfl
 ·rw [List.getElem?_eq_none (by omega)]
  simp [List.getD, List.getElem?_eq_none (show L.length ≤ i by omega)]
theorem rowN_enc {L : List (List Int)} (hr : ∀ r ∈ L, r.length = L.length) : (encM L).length = L.length ∧ (encM L).all (isRowN L.length) = true := by
 refine ⟨by simp [encM], List.all_eq_true.2 fun x hx => ?_⟩
 unfold encM at hx
 obtain ⟨r, h, rfl⟩ := List.mem_map.1 hx
 have := hr r h
 unfold isRowN rowI
 simp only [this, encI_len, decide_true, Bool.true_and]
 exact List.all_eq_true.2 fun y hy => by
  unfold encI at hy
  obtain ⟨z, _, rfl⟩ := List.mem_map.1 hy
  rfl
theorem f94 {L : List (List Int)} (h5 : L.length ≤ 5) (hr : ∀ r ∈ L, r.length = L.length) {b : List Nat} {k : Int} (hb : bestIn (costW (Zm L)) (asgs L.length) = some (b, k)) : Fn env 94 (RSh.one CK.list) [.list L.length (encM L)] = some (b.length, encN b) := by
 have hg : cheapG [.list L.length (encM L)] = some (rowP b) := by
  unfold cheapG
  simp only
  rw [if_pos ⟨h5, rowN_enc hr⟩, zOf_enc]
  unfold asgs at hb
  rw [hb]
 unfold Fn
 rw [prim1_fn (env := env) (f := 94) rfl hg]
 rfl
theorem f96 {L : List (List Int)} (h5 : L.length ≤ 5) (hr : ∀ r ∈ L, r.length = L.length) : Fn env 96 (RSh.one CK.list) [.list L.length (encM L)] = some ((cheapL (costW (Zm L)) (asgs L.length)).length, (cheapL (costW (Zm L)) (asgs L.length)).map rowP) := by
 have hg : allG [.list L.length (encM L)] = some (.list (cheapL (costW (Zm L)) (asgs L.length)).length ((cheapL (costW (Zm L)) (asgs L.length)).map rowP)) := by
  unfold allG
  simp only
  rw [if_pos ⟨h5, rowN_enc hr⟩, zOf_enc]
  have := allIn_is (costW (Zm L)) (l := asgs L.length) (ext_ne h5)
  unfold asgs at this ⊢
  rw [this]
 unfold Fn
 rw [prim1_fn (env := env) (f := 96) rfl hg]
 rfl
section
variable (N : Nat) (M : List PV) (G : List (List Nat)) (hG : 0 < G.length) (hGl : G.length ≤ 1000) (hN : N ≤ 1000) (hrow : ∀ b ∈ G, b.length = N)
include hG hGl hN hrow
omit hN in
omit hN in
omit hN in
end
section
variable {L : List (List Int)} (hz : (matV L).2 = 0) (h5 : L.length ≤ 5)
include hz h5
omit hz in
end
end Gv

/- What the reference's list of all assignments is. -/
namespace Gv
open Go
set_option maxRecDepth 100000
theorem prim1_int {env : Nat → Option AFn} {f : Nat} {k : IntKind} {n : Int} {g : List PV → Option PV} {v : PV} (hf : env f = some (primA 1 g)) (hg : g [.int k n] = some v) : run env f [.int k n] = some (.val v) := by
 refine (run_iff env).2 ⟨2, ?_⟩
 have e : exN (callN env 1) 1 (primA 1 g).body (start (primA 1 g) [.int k n]) = some (.normal, ⟨[.p (.int k n), .p v], [Blk.none, Blk.none]⟩) := by
  show exN (callN env 1) 1 (.ops [{ dst := some 1, grd := none, args := [.tmp 0], k := .l (.prim g) }]) ⟨[.p (.int k n), .undef], [Blk.none, Blk.none]⟩ = _
  simp only [exN, exOps, exOp, grd]
  have hk : runK (callN env 1) (.l (.prim g)) [.p (.int k n)] [Blk.none, Blk.none] = some (.p v, [Blk.none, Blk.none]) := by
   simp only [runK, runL, pureAs, pureA, hg, Option.map_some]
  have ha : ([Arg.tmp 0].map (Arg.get [AV.p (.int k n), .undef])) = [.p (.int k n)] := rfl
  simp only [ha, hk]
  rfl
 rw [callN_fn env 1 f _ (fun sh caps e => by cases e)]
 simp only [hf]
 rw [if_pos ⟨rfl, rfl⟩, e]
 rfl
theorem f99 (N : Nat) (h5 : N ≤ 5) : Fn env 99 (RSh.one CK.list) [.int .i64 N] = some ((asgs N).length, (asgs N).map rowP) := by
 have hg : assignG [.int .i64 (N : Int)] = some (.list (asgs N).length ((asgs N).map rowP)) := by
  unfold assignG asgs
  simp only
  rw [if_pos ⟨trivial, by omega, by omega⟩, Int.toNat_natCast]
 unfold Fn
 rw [prim1_int (env := env) (f := 99) rfl hg]
 rfl
end Gv
