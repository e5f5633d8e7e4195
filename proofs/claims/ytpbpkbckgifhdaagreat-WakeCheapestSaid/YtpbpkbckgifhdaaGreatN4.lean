import Derived.Test.YtpbpkbckgifhdaaGreatK14
import Derived.Test.YtpbpkbckgifhdaaGreatGvEnv
import Derived.Test.YtpbpkbckgifhdaaGreatK34

/- The program's check of an assignment. -/
namespace Gv
open Go
set_option maxRecDepth 100000
def stepsC (call : Nat → Option Int) (K : Option (Int × Int)) : Nat → Nat → Option (Int × Int)
 | 0, _ => K
 | m + 1, i => bindO (call i) fun y => bif y != 0 then some ((i : Int), y) else stepsC call K m (i + 1)
def stepsX (F : FnT) (d : List PV) (p : PV) (K : Option (Int × Int)) : Nat → Nat → Option (Int × Int)
 | 0, _ => K
 | m + 1, i => bindO (listC d[i]?) fun x => bindO (F 60 (RSh.one CK.bool) [.list x.1 x.2, p, .int .i64 (i : Int)]) fun (y : Bool) => bif y then some ((i : Int), 17) else stepsX F d p K m (i + 1)
def asgTail (F : FnT) (n : Nat) (d : List PV) (n1 : Nat) (a : List PV) (n2 : Nat) (b : List PV) (n3 : Nat) (c : List PV) : Option (Int × Int) :=
 stepsC (fun i => F 56 (RSh.one (CK.int .i64)) [.list n1 a, .int .i64 (i : Int)]) (stepsC (fun i => F 58 (RSh.one (CK.int .i64)) [.agg [.list n1 a, .list n2 b, .list n3 c], .int .i64 (i : Int)])
  (stepsX F d (.agg [.list n1 a, .list n2 b, .list n3 c])
   (bindO (F 61 (RSh.one (CK.int .i64)) [.list n2 b]) fun (y1 : Int) => bindO (F 61 (RSh.one (CK.int .i64)) [.list n3 c]) fun (y2 : Int) => bindO (F 49 (RSh.one (CK.int .i64)) [.list n d, .list n1 a]) fun (y3 : Int) =>
    bif (w64 (y1 + y2)) != y3 then some (0, 13) else some (0, 0)) n 0) n 0) n 0
def asgHead (F : FnT) (n : Nat) (d : List PV) (K K2 : Option (Int × Int)) : Option (Int × Int) :=
 bindO (F 45 (RSh.one (CK.int .i64)) [.list n d]) fun (y : Int) => bif y != 0 then (bif y != 0 then some (0, y) else K) else K2
def tcAs (F : FnT) (n : Nat) (d : List PV) (n1 : Nat) (a : List PV) (n2 : Nat) (b : List PV) (n3 : Nat) (c : List PV) : Option (Int × Int) :=
 bif (n1 : Int) == (n : Int) then bif (n2 : Int) == (n : Int) then bif (n3 : Int) == (n : Int) then asgHead F n d (asgTail F n d n1 a n2 b n3 c) (asgTail F n d n1 a n2 b n3 c)
  else asgHead F n d (asgTail F n d n1 a n2 b n3 c) (some (0, 10)) else asgHead F n d (asgTail F n d n1 a n2 b n3 c) (some (0, 10)) else asgHead F n d (asgTail F n d n1 a n2 b n3 c) (some (0, 10))
def EcAs : List Entry := [.inl 53 a53 s53, .inl 54 a54 s54, .inl 55 a55 s55, .inl 57 a57 s57, .inl 59 a59 s59, .out 45 (RSh.one (CK.int .i64)), .out 56 (RSh.one (CK.int .i64)), .out 58 (RSh.one (CK.int .i64)), .out 60 (RSh.one CK.bool), .out 61 (RSh.one (CK.int .i64)), .out 49 (RSh.one (CK.int .i64))]
theorem EcAs_ok : ∀ e ∈ EcAs, EntOK env e := (ent_inl rfl (ent_inl rfl (ent_inl rfl (ent_inl rfl (ent_inl rfl (ent_out (ent_out (ent_out (ent_out (ent_out (ent_out ent_nil)))))))))))
theorem tcAs_0 (F : FnT) (d : List PV) (n1 : Nat) (a : List PV) (n2 : Nat) (b : List PV) (n3 : Nat) (c : List PV) : semF (callP F EcAs 20) s13 (loopT []) 400 a13 [.list 0 d, .agg [.list n1 a, .list n2 b, .list n3 c]] (fun rv => decR (RSh.tup [(Prod.mk false [(CK.int .i64)]), (Prod.mk false [(CK.int .i64)])]) rv.pv) = tcAs F 0 d n1 a n2 b n3 c := by kernel_rfl
theorem tcAs_1 (F : FnT) (d : List PV) (n1 : Nat) (a : List PV) (n2 : Nat) (b : List PV) (n3 : Nat) (c : List PV) : semF (callP F EcAs 20) s13 (loopT []) 400 a13 [.list 1 d, .agg [.list n1 a, .list n2 b, .list n3 c]] (fun rv => decR (RSh.tup [(Prod.mk false [(CK.int .i64)]), (Prod.mk false [(CK.int .i64)])]) rv.pv) = tcAs F 1 d n1 a n2 b n3 c := by kernel_rfl
theorem tcAs_2 (F : FnT) (d : List PV) (n1 : Nat) (a : List PV) (n2 : Nat) (b : List PV) (n3 : Nat) (c : List PV) : semF (callP F EcAs 20) s13 (loopT []) 400 a13 [.list 2 d, .agg [.list n1 a, .list n2 b, .list n3 c]] (fun rv => decR (RSh.tup [(Prod.mk false [(CK.int .i64)]), (Prod.mk false [(CK.int .i64)])]) rv.pv) = tcAs F 2 d n1 a n2 b n3 c := by kernel_rfl
theorem tcAs_3 (F : FnT) (d : List PV) (n1 : Nat) (a : List PV) (n2 : Nat) (b : List PV) (n3 : Nat) (c : List PV) : semF (callP F EcAs 20) s13 (loopT []) 400 a13 [.list 3 d, .agg [.list n1 a, .list n2 b, .list n3 c]] (fun rv => decR (RSh.tup [(Prod.mk false [(CK.int .i64)]), (Prod.mk false [(CK.int .i64)])]) rv.pv) = tcAs F 3 d n1 a n2 b n3 c := by kernel_rfl
theorem tcAs_4 (F : FnT) (d : List PV) (n1 : Nat) (a : List PV) (n2 : Nat) (b : List PV) (n3 : Nat) (c : List PV) : semF (callP F EcAs 20) s13 (loopT []) 400 a13 [.list 4 d, .agg [.list n1 a, .list n2 b, .list n3 c]] (fun rv => decR (RSh.tup [(Prod.mk false [(CK.int .i64)]), (Prod.mk false [(CK.int .i64)])]) rv.pv) = tcAs F 4 d n1 a n2 b n3 c := by kernel_rfl
theorem tcAs_5 (F : FnT) (d : List PV) (n1 : Nat) (a : List PV) (n2 : Nat) (b : List PV) (n3 : Nat) (c : List PV) : semF (callP F EcAs 20) s13 (loopT []) 400 a13 [.list 5 d, .agg [.list n1 a, .list n2 b, .list n3 c]] (fun rv => decR (RSh.tup [(Prod.mk false [(CK.int .i64)]), (Prod.mk false [(CK.int .i64)])]) rv.pv) = tcAs F 5 d n1 a n2 b n3 c := by kernel_rfl
theorem tcAs_6 (F : FnT) (d : List PV) (n1 : Nat) (a : List PV) (n2 : Nat) (b : List PV) (n3 : Nat) (c : List PV) : semF (callP F EcAs 20) s13 (loopT []) 400 a13 [.list 6 d, .agg [.list n1 a, .list n2 b, .list n3 c]] (fun rv => decR (RSh.tup [(Prod.mk false [(CK.int .i64)]), (Prod.mk false [(CK.int .i64)])]) rv.pv) = tcAs F 6 d n1 a n2 b n3 c := by kernel_rfl
theorem tcAs_7 (F : FnT) (d : List PV) (n1 : Nat) (a : List PV) (n2 : Nat) (b : List PV) (n3 : Nat) (c : List PV) : semF (callP F EcAs 20) s13 (loopT []) 400 a13 [.list 7 d, .agg [.list n1 a, .list n2 b, .list n3 c]] (fun rv => decR (RSh.tup [(Prod.mk false [(CK.int .i64)]), (Prod.mk false [(CK.int .i64)])]) rv.pv) = tcAs F 7 d n1 a n2 b n3 c := by kernel_rfl
theorem tcAs_8 (F : FnT) (d : List PV) (n1 : Nat) (a : List PV) (n2 : Nat) (b : List PV) (n3 : Nat) (c : List PV) : semF (callP F EcAs 20) s13 (loopT []) 400 a13 [.list 8 d, .agg [.list n1 a, .list n2 b, .list n3 c]] (fun rv => decR (RSh.tup [(Prod.mk false [(CK.int .i64)]), (Prod.mk false [(CK.int .i64)])]) rv.pv) = tcAs F 8 d n1 a n2 b n3 c := by kernel_rfl
noncomputable abbrev FcAs (args : List PV) := Fn env 13 (RSh.tup [(Prod.mk false [(CK.int .i64)]), (Prod.mk false [(CK.int .i64)])]) args
theorem FcAs_of {n : Nat} (hn : n ≤ 8) (d : List PV) (n1 : Nat) (a : List PV) (n2 : Nat) (b : List PV) (n3 : Nat) (c : List PV) {res : Int × Int} (h : tcAs (Fn env) n d n1 a n2 b n3 c = some res) : FcAs [.list n d, .agg [.list n1 a, .list n2 b, .list n3 c]] = some res := by
 match n, hn with
 | 0, _ => exact fn_of EcAs_ok rfl rfl lo_nil ((tcAs_0 _ _ _ _ _ _ _ _).trans h)
 | 1, _ => exact fn_of EcAs_ok rfl rfl lo_nil ((tcAs_1 _ _ _ _ _ _ _ _).trans h)
 | 2, _ => exact fn_of EcAs_ok rfl rfl lo_nil ((tcAs_2 _ _ _ _ _ _ _ _).trans h)
 | 3, _ => exact fn_of EcAs_ok rfl rfl lo_nil ((tcAs_3 _ _ _ _ _ _ _ _).trans h)
 | 4, _ => exact fn_of EcAs_ok rfl rfl lo_nil ((tcAs_4 _ _ _ _ _ _ _ _).trans h)
 | 5, _ => exact fn_of EcAs_ok rfl rfl lo_nil ((tcAs_5 _ _ _ _ _ _ _ _).trans h)
 | 6, _ => exact fn_of EcAs_ok rfl rfl lo_nil ((tcAs_6 _ _ _ _ _ _ _ _).trans h)
 | 7, _ => exact fn_of EcAs_ok rfl rfl lo_nil ((tcAs_7 _ _ _ _ _ _ _ _).trans h)
 | 8, _ => exact fn_of EcAs_ok rfl rfl lo_nil ((tcAs_8 _ _ _ _ _ _ _ _).trans h)
 | n + 9, h => exact absurd h (by omega)
theorem stepsC_is {call : Nat → Option Int} {f : Nat → Int} {K : Option (Int × Int)} {n : Nat} (h : ∀ i, i < n → call i = some (f i)) : ∀ (m i : Nat), i + m = n → stepsC call K m i = match errF f m i with
  | some y => some y
  | none => K
 | 0, i, _ => rfl
 | m + 1, i, hm => by
  unfold stepsC errF
  rw [h i (by omega), bindO_val, bif_ne]
  by_cases hz : f i = 0
  ·rw [if_pos hz, if_pos hz]
   exact stepsC_is h m (i + 1) (by omega)
  ·rw [if_neg hz, if_neg hz]
theorem stepsX_is {L : List (List Int)} (a R C : List Int) (hL : L.length ≤ 1000) (hR : R.length = L.length) (hC : C.length = L.length) (hr : ∀ r ∈ L, r.length = L.length) {K : Option (Int × Int)} : ∀ (m i : Nat), i + m = L.length → stepsX (Fn env) (encM L) (encP a R C) K m i = match errF (excV L R C) m i with
  | some y => some y
  | none => K
 | 0, i, _ => rfl
 | m + 1, i, hm => by
  have hi : i < L.length := by omega
  have hx : Fn env 60 _ [.list (L.getD i []).length (encI (L.getD i [])), encP a R C, .int .i64 (i : Int)] = _ := isEx_is L a R C hL hR hC i hi (hr _ (getD_memM hi))
  unfold stepsX errF
  simp only [listM_get hi, bindO_val]
  rw [hx]
  simp only [bindO_val]
  have ih := stepsX_is a R C hL hR hC hr (K := K) m (i + 1) (by omega)
  unfold excV
  by_cases he : excF L R C i L.length 0 = true
  ·rw [if_pos he, if_neg (by decide), he]
   rfl
  ·rw [if_neg he, if_pos rfl, (Bool.not_eq_true _).mp he]
   exact ih
theorem asgTail_is (L : List (List Int)) (hL : L.length ≤ 8) (hr : ∀ r ∈ L, r.length = L.length) (a R C : List Int) (ha : a.length = L.length) (hR : R.length = L.length) (hC : C.length = L.length) :
  asgTail (Fn env) L.length (encM L) a.length (encI a) R.length (encI R) C.length (encI C) = some (casV L a R C) := by
 unfold asgTail casV
 rw [if_pos ⟨ha, hR, hC⟩]
 have h1 : ∀ i, i < L.length → Fn env 56 (RSh.one (CK.int .i64)) [.list a.length (encI a), .int .i64 (i : Int)] = some (colV L.length a i) := fun i hi => by
  have := colE_is a (by omega) i (by omega)
  rw [ha] at this ⊢
  exact this
 have h2 : ∀ i, i < L.length → Fn env 58 (RSh.one (CK.int .i64)) [.agg [.list a.length (encI a), .list R.length (encI R), .list C.length (encI C)], .int .i64 (i : Int)] = some (potV R C i) := fun i hi => potE_is a R C i (by omega) (by omega)
 rw [stepsC_is h1 L.length 0 (by omega)]
 cases c0 : errF (colV L.length a) L.length 0 with
 | some y => rfl
 | none =>
  simp only
  rw [stepsC_is h2 L.length 0 (by omega)]
  cases c2 : errF (potV R C) L.length 0 with
  | some y => rfl
  | none =>
   simp only
   have h3 := fun K => stepsX_is (K := K) a R C (by omega) hR hC hr L.length 0 (by omega)
   unfold encP at h3
   rw [h3]
   cases c4 : errF (excV L R C) L.length 0 with
   | some y => rfl
   | none =>
    simp only
    have s1 : Fn env 61 (RSh.one (CK.int .i64)) [.list R.length (encI R)] = _ := sumO_is R (by omega)
    have s2 : Fn env 61 (RSh.one (CK.int .i64)) [.list C.length (encI C)] = _ := sumO_is C (by omega)
    have s3 : Fn env 49 (RSh.one (CK.int .i64)) [.list L.length (encM L), .list a.length (encI a)] = _ := wCost_is L (by omega) hr a (by omega) (cols_ok ha c0)
    rw [s1, s2, s3]
    simp only [bindO_val, bif_ne, sums_are (by omega) hR hC c2]
    split <;> rfl
theorem cAsg_is (L : List (List Int)) (hL : L.length ≤ 8) (hr : ∀ r ∈ L, r.length ≤ 8) (a R C : List Int) : FcAs [.list L.length (encM L), encP a R C] = some (if (matV L).2 = 0 then casV L a R C else (0, (matV L).2)) := by
 refine FcAs_of hL _ _ _ _ _ _ _ ?_
 have hm : Fn env 45 (RSh.one (CK.int .i64)) [.list L.length (encM L)] = _ := matE_is L fun r h => by have := hr r h; omega
 have hd : ∀ K K2, asgHead (Fn env) L.length (encM L) K K2 = if (matV L).2 = 0 then K2 else some (0, (matV L).2) := by
  intro K K2
  unfold asgHead
  rw [hm]
  simp only [bindO_val, bif_ne]
  by_cases hz : (matV L).2 = 0
  ·rw [if_pos hz, if_pos hz]
  ·rw [if_neg hz, if_neg hz, if_neg hz]
 unfold tcAs
 simp only [hd]
 by_cases hz : (matV L).2 = 0
 ·rw [if_pos hz]
  simp only [hz, if_true]
  have hrr : ∀ r ∈ L, r.length = L.length := fun r h => ((matV_ok hz).2.2.2 r h).1
  have bq : ∀ (x : Nat) (p q : Option (Int × Int)), (bif (x : Int) == (L.length : Int) then p else q) = if x = L.length then p else q := by
   intro x p q
   by_cases h : x = L.length
   ·rw [if_pos h, h]
    simp
   ·have : ((x : Int) == (L.length : Int)) = false := by rw [beq_eq_false_iff_ne]; omega
    rw [if_neg h, this]
    rfl
  rw [bq, bq, bq]
  by_cases h1 : a.length = L.length
  ·by_cases h2 : R.length = L.length
   ·by_cases h3 : C.length = L.length
    ·rw [if_pos h1, if_pos h2, if_pos h3]
     exact asgTail_is L hL hrr a R C h1 h2 h3
    ·rw [if_pos h1, if_pos h2, if_neg h3]
     unfold casV
     rw [if_neg fun h => h3 h.2.2]
   ·rw [if_pos h1, if_neg h2]
    unfold casV
    rw [if_neg fun h => h2 h.2.1]
  ·rw [if_neg h1]
   unfold casV
   rw [if_neg fun h => h1 h.1]
 ·rw [if_neg hz]
  simp only [hz, if_false]
  cases (a.length : Int) == (L.length : Int) <;> cases (R.length : Int) == (L.length : Int) <;> cases (C.length : Int) == (L.length : Int) <;> rfl
end Gv

/- The law of accepted assignments. -/
namespace Gv
open Go
set_option maxRecDepth 100000
theorem copP_is (a R C : List Int) (ha : a.length ≤ 8) (hR : R.length ≤ 8) (hC : C.length ≤ 8) : FrCopP [encP a R C] = some ((a.length, encI a), ((R.length, encI R), (C.length, encI C))) := by
 refine FrCopP_of _ _ _ _ _ _ ?_
 unfold trCopP
 have h1 : Fn env 48 _ [.list a.length (encI a)] = _ := copI_is a (by omega)
 have h2 : Fn env 48 _ [.list R.length (encI R)] = _ := copI_is R (by omega)
 have h3 : Fn env 48 _ [.list C.length (encI C)] = _ := copI_is C (by omega)
 rw [h1, h2, h3]
 rfl
end Gv

/- What the functions do, round by round: Z1. -/
namespace Gv
open Go
set_option maxRecDepth 100000
end Gv

/- Costs of links, in the program and in the reference. -/
namespace Gv
open Go
set_option maxRecDepth 100000
def pre (k : Nat) (z : Nat → Int) : List Int := (List.range k).map z
def matL (N : Nat) (Z : Nat → Nat → Int) : List (List Int) := (List.range N).map fun i => pre N (Z i)
theorem pre_len (k : Nat) (z : Nat → Int) : (pre k z).length = k := by simp [pre]
theorem matP_is (N : Nat) (Z : Nat → Nat → Int) : matP N Z = encM (matL N Z) := by
 unfold matP encM matL rowI rowZ
 rw [List.map_map]
 refine List.map_congr_left fun i _ => ?_
 simp only [Function.comp, pre_len]
 simp [encI, pre]
def lz (a b : List Z3) (miss : Int) : Nat → Nat → Int := linkZ a.length b.length miss (vAt a) (vAt b)
theorem f65 (a b : List Z3) (miss : Int) (h8 : a.length + b.length ≤ 8) : Fn env 65 (RSh.one CK.list) [.list a.length (encT a), .list b.length (encT b), .int .i64 miss] = some (a.length + b.length, encM (matL (a.length + b.length) (lz a b miss))) := by
 have hg : linkcG [.list a.length (encT a), .list b.length (encT b), .int .i64 miss] = some (.list (a.length + b.length) (encM (matL (a.length + b.length) (lz a b miss)))) := by
  unfold linkcG
  simp only
  rw [if_pos ⟨trivial, h8, encT_len a, encT_len b, encT_i64 a, encT_i64 b⟩, vOf_enc, vOf_enc, matP_is]
  rfl
 unfold Fn
 rw [prim3_fn (env := env) (f := 65) rfl hg]
 rfl
section
variable (a b : List Z3) (miss : Int) (hN : a.length + b.length ≤ 1000)
include hN
end
end Gv

/- The links of the reference are the links of the program. -/
namespace Gv
open Go
set_option maxRecDepth 100000
section
variable (a b : List Z3) (G : List (List Nat)) (d : List Nat) (hG : 0 < G.length) (hd : G.getD 0 [] = d) (hn : a.length ≤ d.length) (hl : a.length ≤ 1000)
include hG hd hn hl
end
end Gv

/- Potentials of a cheapest assignment: walks of exchanges, none of which in a ring costs less than nothing. -/
namespace Gv
open Go
set_option maxRecDepth 100000
def sw (d : List Nat) (i r : Nat) : List Nat := (d.set i (d.getD r 0)).set r (d.getD i 0)
theorem set_getD (d : List Nat) (i v x : Nat) (hi : i < d.length) : (d.set i v).getD x 0 = if x = i then v else d.getD x 0 := by
 by_cases h : x = i
 ·subst h
  rw [if_pos rfl]
  simp [List.getD, hi]
 ·rw [if_neg h]
  simp [List.getD, List.getElem?_set_ne (fun e => h e.symm)]
theorem sum_upd (f g : Nat → Int) (i : Nat) (h : ∀ x, x ≠ i → f x = g x) : ∀ n, ((List.range n).map f).sum = ((List.range n).map g).sum + if i < n then f i - g i else 0
 | 0 => by simp
 | n + 1 => by
  have ih := sum_upd f g i h n
  rw [List.range_succ, List.map_append, List.map_append, List.sum_append, List.sum_append, ih]
  simp only [List.map_cons, List.map_nil, List.sum_cons, List.sum_nil]
  by_cases e : n = i
  ·subst e
   rw [if_neg (by omega), if_pos (by omega)]
   omega
  ·have := h n e
   by_cases hl : i < n
   ·rw [if_pos hl, if_pos (by omega)]
    omega
   ·rw [if_neg hl, if_neg (by omega)]
    omega
theorem sw_all : ((List.range 6).all fun N => (ext N N []).all fun d => (List.range N).all fun i => (List.range N).all fun r => (ext N N []).contains (sw d i r)) = true := by decide +kernel
theorem sw_mem {N : Nat} (h5 : N ≤ 5) {d : List Nat} (hd : d ∈ asgs N) {i r : Nat} (hi : i < N) (hr : r < N) : sw d i r ∈ asgs N := by
 have k1 := List.all_eq_true.1 sw_all N (by simp; omega)
 have k2 := List.all_eq_true.1 k1 d hd
 have k3 := List.all_eq_true.1 k2 i (by simpa using hi)
 have k4 := List.all_eq_true.1 k3 r (by simpa using hr)
 rw [List.contains_iff_mem] at k4
 exact k4
theorem onto_all : ((List.range 6).all fun N => (ext N N []).all fun d => (List.range N).all fun c => (List.range N).any fun r => d.getD r 0 == c) = true := by decide +kernel
theorem onto {N : Nat} (h5 : N ≤ 5) {d : List Nat} (hd : d ∈ asgs N) {c : Nat} (hc : c < N) : ∃ r, r < N ∧ d.getD r 0 = c := by
 have k1 := List.all_eq_true.1 onto_all N (by simp; omega)
 have k2 := List.all_eq_true.1 k1 d hd
 have k3 := List.all_eq_true.1 k2 c (by simpa using hc)
 obtain ⟨r, hr, h⟩ := List.any_eq_true.1 k3
 exact ⟨r, by simpa using hr, by simpa using h⟩
def cS (Z : Nat → Nat → Int) (N : Nat) (e : List Nat) : Int := ((List.range N).map fun i => Z i (e.getD i 0)).sum
theorem cS_set (Z : Nat → Nat → Int) {N : Nat} {e : List Nat} (he : e.length = N) {i : Nat} (hi : i < N) (v : Nat) : cS Z N (e.set i v) = cS Z N e + (Z i v - Z i (e.getD i 0)) := by
 have h := sum_upd (fun x => Z x ((e.set i v).getD x 0)) (fun x => Z x (e.getD x 0)) i (fun x hx => by
  rw [set_getD e i v x (by omega), if_neg hx]) N
 rw [if_pos hi] at h
 rw [set_getD e i v i (by omega), if_pos rfl] at h
 exact h
theorem cS_sw (Z : Nat → Nat → Int) {N : Nat} {e : List Nat} (he : e.length = N) {i r : Nat} (hi : i < N) (hr : r < N) (hne : i ≠ r) : cS Z N (sw e i r) = cS Z N e + (Z i (e.getD r 0) - Z i (e.getD i 0)) + (Z r (e.getD i 0) - Z r (e.getD r 0)) := by
 unfold sw
 rw [cS_set Z (by rw [List.length_set]; exact he) hr, cS_set Z he hi, set_getD e i _ r (by omega), if_neg (fun h => hne h.symm)]
theorem sw_at {e : List Nat} {i r x : Nat} (hi : i < e.length) (hr : r < e.length) : (sw e i r).getD x 0 = if x = r then e.getD i 0 else if x = i then e.getD r 0 else e.getD x 0 := by
 unfold sw
 rw [set_getD _ r _ x (by rw [List.length_set]; exact hr), set_getD e i _ x hi]
section
variable {N : Nat} (h5 : N ≤ 5) {Z : Nat → Nat → Int} {d : List Nat} (hd : d ∈ asgs N) (hmin : ∀ e ∈ asgs N, cS Z N d ≤ cS Z N e)
def exW (Z : Nat → Nat → Int) (d : List Nat) (a b : Nat) : Int := Z a (d.getD b 0) - Z a (d.getD a 0)
def wkW (w : Nat → Nat → Int) : List Nat → Int
 | x :: y :: l => wkW w (y :: l) + w y x
 | _ => 0
def cyE (d : List Nat) : List Nat → List Nat
 | x :: y :: l => sw (cyE d (y :: l)) y x
 | _ => d
theorem exW_self (a : Nat) : exW Z d a a = 0 := by unfold exW; omega
include h5 hd in
theorem cy_ok : ∀ (l : List Nat) (x : Nat), (x :: l).Nodup → (∀ z ∈ x :: l, z < N) →
  cyE d (x :: l) ∈ asgs N ∧ (cyE d (x :: l)).getD x 0 = d.getD (l.getLastD x) 0 ∧ (∀ z, z ∉ x :: l → (cyE d (x :: l)).getD z 0 = d.getD z 0) ∧ cS Z N (cyE d (x :: l)) = cS Z N d + wkW (exW Z d) (x :: l) + exW Z d x (l.getLastD x)
 | [], x, _, _ => ⟨hd, rfl, fun _ _ => rfl, by
  have : exW Z d x ([].getLastD x) = 0 := exW_self x
  have e : wkW (exW Z d) [x] = 0 := rfl
  rw [this, e]
  show cS Z N d = _
  omega⟩
 | y :: l, x, hn, hlt => by
  rw [List.nodup_cons] at hn
  obtain ⟨i1, i2, i3, i4⟩ := cy_ok l y hn.2 fun z hz => hlt z (List.mem_cons_of_mem _ hz)
  have hx := hlt x List.mem_cons_self
  have hy := hlt y (List.mem_cons_of_mem _ List.mem_cons_self)
  have hlen := (asgs_row h5 i1).1
  have hyx : y ≠ x := fun h => hn.1 (by rw [h]; exact List.mem_cons_self)
  have e : cyE d (x :: y :: l) = sw (cyE d (y :: l)) y x := rfl
  have ew : wkW (exW Z d) (x :: y :: l) = wkW (exW Z d) (y :: l) + exW Z d y x := rfl
  have el : (y :: l).getLastD x = l.getLastD y := by cases l <;> rfl
  rw [e, ew, el]
  refine ⟨sw_mem h5 i1 hy hx, ?_, fun z hz => ?_, ?_⟩
  ·rw [sw_at (by omega) (by omega), if_pos rfl, i2]
  ·simp only [List.mem_cons, not_or] at hz
   rw [sw_at (by omega) (by omega), if_neg hz.1, if_neg hz.2.1]
   exact i3 z (by simp only [List.mem_cons, not_or]; exact hz.2)
  ·rw [cS_sw Z hlen hy hx hyx, i4, i2, i3 x hn.1]
   unfold exW
   omega
include h5 hd hmin in
theorem cy_ge {l : List Nat} {x : Nat} (hn : (x :: l).Nodup) (hlt : ∀ z ∈ x :: l, z < N) : 0 ≤ wkW (exW Z d) (x :: l) + exW Z d x (l.getLastD x) := by
 obtain ⟨i1, _, _, i4⟩ := cy_ok h5 (Z := Z) hd l x hn hlt
 have := hmin _ i1
 omega
theorem wk_app (w : Nat → Nat → Int) : ∀ (p : List Nat) (x : Nat) (s : List Nat), wkW w (p ++ x :: s) = wkW w (p ++ [x]) + wkW w (x :: s)
 | [], x, s => by
  show wkW w (x :: s) = wkW w [x] + wkW w (x :: s)
  have : wkW w [x] = 0 := rfl
  omega
 | [a], x, s => by
  show wkW w (x :: s) + w x a = (wkW w [x] + w x a) + wkW w (x :: s)
  have : wkW w [x] = 0 := rfl
  omega
 | a :: b :: p, x, s => by
  have ih := wk_app w (b :: p) x s
  show wkW w (b :: p ++ x :: s) + w b a = (wkW w (b :: p ++ [x]) + w b a) + wkW w (x :: s)
  omega
include h5 hd hmin in
theorem wk_dom : ∀ (l : List Nat) (x : Nat), (∀ z ∈ x :: l, z < N) → ∃ l', (x :: l').Nodup ∧ (∀ z ∈ x :: l', z < N) ∧ wkW (exW Z d) (x :: l') ≤ wkW (exW Z d) (x :: l)
 | [], x, h => ⟨[], by simp, h, Int.le_refl _⟩
 | y :: l, x, h => by
  obtain ⟨l1, n1, b1, w1⟩ := wk_dom l y fun z hz => h z (List.mem_cons_of_mem _ hz)
  have hx := h x List.mem_cons_self
  have ew : wkW (exW Z d) (x :: y :: l) = wkW (exW Z d) (y :: l) + exW Z d y x := rfl
  by_cases hm : x ∈ y :: l1
  ·obtain ⟨p, s, hps⟩ := List.append_of_mem hm
   have hsub : (x :: s).Sublist (y :: l1) := by
    rw [hps]
    exact List.sublist_append_right p (x :: s)
   refine ⟨s, n1.sublist hsub, fun z hz => b1 z (hsub.subset hz), ?_⟩
   rw [ew]
   cases p with
   | nil =>
    simp only [List.nil_append, List.cons.injEq] at hps
    obtain ⟨rfl, rfl⟩ := hps
    have := exW_self (Z := Z) (d := d) y
    omega
   | cons a p =>
    simp only [List.cons_append, List.cons.injEq] at hps
    obtain ⟨rfl, rfl⟩ := hps
    have hsub2 : (y :: (p ++ [x])).Sublist (y :: (p ++ x :: s)) := List.Sublist.cons_cons _ (List.Sublist.append_left (List.Sublist.cons_cons _ (List.nil_sublist s)) p)
    have hc := cy_ge h5 hd hmin (l := p ++ [x]) (x := y) (n1.sublist hsub2) fun z hz => b1 z (hsub2.subset hz)
    have el : (p ++ [x]).getLastD y = x := by simp [List.getLastD_eq_getLast?]
    rw [el] at hc
    have ha := wk_app (exW Z d) (y :: p) x s
    have ha : wkW (exW Z d) (y :: (p ++ x :: s)) = wkW (exW Z d) (y :: (p ++ [x])) + wkW (exW Z d) (x :: s) := ha
    omega
  ·refine ⟨y :: l1, List.nodup_cons.2 ⟨hm, n1⟩, fun z hz => ?_, ?_⟩
   ·rcases List.mem_cons.1 hz with rfl | hz
    ·exact hx
    ·exact b1 z hz
   ·have e2 : wkW (exW Z d) (x :: y :: l1) = wkW (exW Z d) (y :: l1) + exW Z d y x := rfl
    omega
end
end Gv

/- Potentials of a cheapest assignment: rounds of lowering. -/
namespace Gv
open Go
set_option maxRecDepth 100000
theorem nodup_len {α : Type} [DecidableEq α] : ∀ (l l' : List α), l.Nodup → (∀ x ∈ l, x ∈ l') → l.length ≤ l'.length
 | [], _, _, _ => by simp
 | x :: l, l', hn, hs => by
  have hx := hs x (by simp)
  rw [List.nodup_cons] at hn
  have h := nodup_len l (l'.erase x) hn.2 fun y hy => (List.mem_erase_of_ne (fun e => by subst e; exact hn.1 hy)).2 (hs y (by simp [hy]))
  rw [List.length_erase_of_mem hx] at h
  have : 0 < l'.length := List.length_pos_of_mem hx
  rw [List.length_cons]
  omega
def newR (Z : Nat → Nat → Int) (d : List Nat) (U : Nat → Int) (r : Nat) : Int := Z r (d.getD r 0) - U (d.getD r 0)
def stepU (Z : Nat → Nat → Int) (d : List Nat) (U : Nat → Int) (r : Nat) : Nat → Int := fun c => if Z r c - newR Z d U r < U c then Z r c - newR Z d U r else U c
def sweep (Z : Nat → Nat → Int) (d : List Nat) (N : Nat) (U : Nat → Int) : Nat → Int := (List.range N).foldl (stepU Z d) U
def sweeps (Z : Nat → Nat → Int) (d : List Nat) (N : Nat) : Nat → (Nat → Int)
 | 0 => fun _ => 0
 | k + 1 => sweep Z d N (sweeps Z d N k)
section
variable {N : Nat} (h5 : N ≤ 5) {Z : Nat → Nat → Int} {d : List Nat} (hd : d ∈ asgs N) (hmin : ∀ e ∈ asgs N, cS Z N d ≤ cS Z N e) (hZ : ∀ i j, 0 ≤ Z i j ∧ Z i j ≤ 10000000)
theorem step_le (U : Nat → Int) (r c : Nat) : stepU Z d U r c ≤ U c := by
 unfold stepU
 split <;> omega
theorem step_to (U : Nat → Int) (r c : Nat) : stepU Z d U r c ≤ Z r c - newR Z d U r := by
 unfold stepU
 split <;> omega
theorem fold_mono : ∀ (rs : List Nat) (U : Nat → Int) (c : Nat), rs.foldl (stepU Z d) U c ≤ U c
 | [], _, _ => Int.le_refl _
 | r :: rs, U, c => Int.le_trans (fold_mono rs (stepU Z d U r) c) (step_le U r c)
theorem fold_to : ∀ (rs : List Nat) (U : Nat → Int) (y c : Nat), y ∈ rs → rs.foldl (stepU Z d) U c ≤ Z y c - newR Z d U y
 | [], _, _, _, h => by cases h
 | r :: rs, U, y, c, h => by
  rcases List.mem_cons.1 h with rfl | h
  ·exact Int.le_trans (fold_mono rs (stepU Z d U y) c) (step_to U y c)
  ·have ih := fold_to rs (stepU Z d U r) y c h
   have := step_le (Z := Z) (d := d) U r (d.getD y 0)
   unfold newR at ih ⊢
   rw [List.foldl_cons]
   omega
def WOK (Z : Nat → Nat → Int) (d : List Nat) (N : Nat) (U : Nat → Int) : Prop := ∀ r, r < N → ∃ l, (∀ z ∈ r :: l, z < N) ∧ U (d.getD r 0) = wkW (exW Z d) (r :: l)
theorem wok_step {U : Nat → Int} (h : WOK Z d N U) {r : Nat} (hr : r < N) : WOK Z d N (stepU Z d U r) := by
 intro x hx
 obtain ⟨l, l1, l2⟩ := h r hr
 obtain ⟨k, k1, k2⟩ := h x hx
 unfold stepU
 split
 ·refine ⟨r :: l, fun z hz => ?_, ?_⟩
  ·rcases List.mem_cons.1 hz with rfl | hz
   ·exact hx
   ·exact l1 z hz
  ·have e : wkW (exW Z d) (x :: r :: l) = wkW (exW Z d) (r :: l) + exW Z d r x := rfl
   rw [e, ← l2]
   unfold newR exW
   omega
 ·exact ⟨k, k1, k2⟩
theorem wok_fold : ∀ (rs : List Nat) (U : Nat → Int), WOK Z d N U → (∀ r ∈ rs, r < N) → WOK Z d N (rs.foldl (stepU Z d) U)
 | [], _, h, _ => h
 | r :: rs, U, h, hr => wok_fold rs _ (wok_step h (hr r List.mem_cons_self)) fun x hx => hr x (List.mem_cons_of_mem _ hx)
theorem wok_sweeps : ∀ k, WOK Z d N (sweeps Z d N k)
 | 0 => fun r hr => ⟨[], (fun z hz => by
  rcases List.mem_cons.1 hz with rfl | hz
  ·exact hr
  ·cases hz), rfl⟩
 | k + 1 => wok_fold _ _ (wok_sweeps k) fun r hr => by simpa using hr
theorem low_sweeps : ∀ (k : Nat) (r : Nat) (l : List Nat), (∀ z ∈ r :: l, z < N) → l.length ≤ k → sweeps Z d N k (d.getD r 0) ≤ wkW (exW Z d) (r :: l)
 | 0, r, [], _, _ => Int.le_refl _
 | 0, r, y :: l, _, h => by simp at h
 | k + 1, r, [], hb, _ => Int.le_trans (fold_mono _ _ _) (low_sweeps k r [] hb (Nat.zero_le _))
 | k + 1, r, y :: l, hb, h => by
  have ih := low_sweeps k y l (fun z hz => hb z (List.mem_cons_of_mem _ hz)) (by simpa using h)
  have hy := hb y (List.mem_cons_of_mem _ List.mem_cons_self)
  have ht := fold_to (Z := Z) (d := d) (List.range N) (sweeps Z d N k) y (d.getD r 0) (by simpa using hy)
  have e : wkW (exW Z d) (r :: y :: l) = wkW (exW Z d) (y :: l) + exW Z d y r := rfl
  rw [e]
  unfold newR at ht
  unfold exW
  show sweep Z d N (sweeps Z d N k) (d.getD r 0) ≤ _
  unfold sweep
  unfold exW at ih
  omega
theorem low_zero (k : Nat) {r : Nat} (hr : r < N) : sweeps Z d N k (d.getD r 0) ≤ 0 := low_sweeps k r [] (fun z hz => by
 rcases List.mem_cons.1 hz with rfl | hz
 ·exact hr
 ·cases hz) (Nat.zero_le _)
theorem short {l : List Nat} {x : Nat} (hn : (x :: l).Nodup) (hb : ∀ z ∈ x :: l, z < N) : l.length ≤ N - 1 := by
 have := nodup_len (x :: l) (List.range N) hn fun z hz => by simpa using hb z hz
 rw [List.length_cons, List.length_range] at this
 omega
include hZ in
theorem wk_low : ∀ (l : List Nat) (x : Nat), -(10000000 * (l.length : Int)) ≤ wkW (exW Z d) (x :: l)
 | [], _ => by
  show _ ≤ (0 : Int)
  simp
 | y :: l, x => by
  have ih := wk_low l y
  have e : wkW (exW Z d) (x :: y :: l) = wkW (exW Z d) (y :: l) + exW Z d y x := rfl
  have h1 := hZ y (d.getD x 0)
  have h2 := hZ y (d.getD y 0)
  rw [e, List.length_cons]
  unfold exW at ih ⊢
  omega
include h5 hd hmin hZ in
theorem wok_low {U : Nat → Int} (h : WOK Z d N U) {r : Nat} (hr : r < N) : -40000000 ≤ U (d.getD r 0) := by
 obtain ⟨l, l1, l2⟩ := h r hr
 obtain ⟨k, k1, k2, k3⟩ := wk_dom h5 hd hmin l r l1
 have := wk_low hZ k r (d := d)
 have := short k1 k2
 rw [l2]
 omega
include h5 hd hmin in
theorem pot_fix {r x : Nat} (hr : r < N) (hx : x < N) : sweeps Z d N (N - 1) (d.getD x 0) ≤ sweeps Z d N (N - 1) (d.getD r 0) + exW Z d r x := by
 obtain ⟨l, l1, l2⟩ := wok_sweeps (Z := Z) (d := d) (N := N) (N - 1) r hr
 have hb : ∀ z ∈ x :: r :: l, z < N := fun z hz => by
  rcases List.mem_cons.1 hz with rfl | hz
  ·exact hx
  ·exact l1 z hz
 obtain ⟨k, k1, k2, k3⟩ := wk_dom h5 hd hmin (r :: l) x hb
 have hlow := low_sweeps (Z := Z) (d := d) (N := N) (N - 1) x k k2 (short k1 k2)
 have e : wkW (exW Z d) (x :: r :: l) = wkW (exW Z d) (r :: l) + exW Z d r x := rfl
 rw [e, ← l2] at k3
 exact Int.le_trans hlow k3
include h5 hd hmin in
theorem pot_ge {r c : Nat} (hr : r < N) (hc : c < N) : newR Z d (sweeps Z d N (N - 1)) r + sweeps Z d N (N - 1) c ≤ Z r c := by
 obtain ⟨x, hx, rfl⟩ := onto h5 hd hc
 have := pot_fix h5 hd hmin hr hx
 unfold newR exW at *
 omega
include h5 hd hmin in
theorem step_same {U : Nat → Int} (hU : ∀ c, c < N → U c = sweeps Z d N (N - 1) c) {r : Nat} (hr : r < N) : (∀ c, c < N → stepU Z d U r c = sweeps Z d N (N - 1) c) ∧ newR Z d U r = newR Z d (sweeps Z d N (N - 1)) r := by
 have hdr : d.getD r 0 < N := (asgs_row h5 hd).2 _ (getD_memA (by rw [(asgs_row h5 hd).1]; exact hr))
 have e : newR Z d U r = newR Z d (sweeps Z d N (N - 1)) r := by
  unfold newR
  rw [hU _ hdr]
 refine ⟨fun c hc => ?_, e⟩
 have := pot_ge h5 hd hmin hr hc
 unfold stepU
 rw [e, hU c hc, if_neg (by omega)]
end
end Gv

/- What the functions do, round by round: Z3. -/
namespace Gv
open Go
set_option maxRecDepth 100000
def EpotO : List Entry := [.out 45 (RSh.one (CK.int .i64)), .out 47 (RSh.one CK.list), .out 46 (RSh.agg [CK.list, CK.list, CK.list])]
theorem EpotO_ok : ∀ e ∈ EpotO, EntOK env e := (ent_out (ent_out (ent_out ent_nil)))
def tpotO (F : FnT) (p0n : Nat) (p0c : List PV) : Option (((Nat) × (List PV)) × (((Nat) × (List PV)) × (((Nat) × (List PV)) × (Int)))) :=
 bindO (F 45 (RSh.one (CK.int .i64)) [(PV.list p0n p0c)]) fun (y0 : (Int)) =>
 bif (y0 != (0 : Int)) then
  some ((0, []), ((0, []), ((0, []), y0)))
 else bindO (F 47 (RSh.one CK.list) [(PV.list p0n p0c)]) fun (y1 : ((Nat) × (List PV))) =>
 bindO (F 46 (RSh.agg [CK.list, CK.list, CK.list]) [(PV.list p0n p0c), (PV.list y1.1 y1.2)]) fun (y2 : (((Nat) × (List PV)) × (((Nat) × (List PV)) × ((Nat) × (List PV))))) =>
 some ((y2.1.1, y2.1.2), ((y2.2.1.1, y2.2.1.2), ((y2.2.2.1, y2.2.2.2), (0 : Int))))
theorem tpotO_eq (F p0n p0c) : semF (callP F EpotO 20) s9 (loopT []) 400 a9 [PV.list p0n p0c] (fun rv => decR (RSh.tup [(Prod.mk true [CK.list, CK.list, CK.list]), (Prod.mk false [(CK.int .i64)])]) rv.pv) = tpotO F p0n p0c := by kernel_rfl
noncomputable abbrev FpotO (args : List PV) := Fn env 9 (RSh.tup [(Prod.mk true [CK.list, CK.list, CK.list]), (Prod.mk false [(CK.int .i64)])]) args
theorem FpotO_of  (p0n : Nat) (p0c : List PV) {res : (((Nat) × (List PV)) × (((Nat) × (List PV)) × (((Nat) × (List PV)) × (Int))))} (h : tpotO (Fn env) p0n p0c = some res) : FpotO [PV.list p0n p0c] = some res :=
 fn_of EpotO_ok rfl rfl lo_nil ((tpotO_eq _ _ _).trans h)
def Eprov : List Entry := []
theorem Eprov_ok : ∀ e ∈ Eprov, EntOK env e := ent_nil
def Tprov_0a (n0 : Nat) (c1 : List PV) (n2 : Nat) (c3 : List PV) (n4 n5 : Nat) (i6 i7 : Int) (c8 c9 : List PV) : Q := ⟨(tm 73 [(0, (AV.p (PV.list n0 c1))), (1, (AV.p (PV.list n2 c3))), (4, (AV.loc 4 0)), (5, (AV.msl 14 0 n4 1)), (6, (AV.msl 17 0 n5 1)), (19, (AV.p (PV.int .i64 i6))), (20, (AV.p (PV.int .i64 i7)))]), (mm 73 [(4, (Bk.cells true [AV.nilS, AV.nilS, AV.nilS])), (14, (Bk.pcs true c8)), (17, (Bk.pcs true c9))])⟩
def Xprov_0a (y : Nat × List PV × Nat × Nat × List PV × List PV) : Ext × Q := (Ext.normal, ⟨(tm 73 [(1, (AV.p (PV.list y.1 y.2.1))), (4, (AV.loc 4 0)), (5, (AV.msl 14 0 y.2.2.1 1)), (6, (AV.msl 17 0 y.2.2.2.1 1))]), (mm 73 [(4, (Bk.cells true [AV.nilS, AV.nilS, AV.nilS])), (14, (Bk.pcs true y.2.2.2.2.1)), (17, (Bk.pcs true y.2.2.2.2.2))])⟩)
def Iprov_0a (q : Ext × S) : Nat × List PV × Nat × Nat × List PV × List PV := ((pP_list0 (pA_p (avT q.2 1))), (pP_list1 (pA_p (avT q.2 1))), (pA_msl2 (avT q.2 5)), (pA_msl2 (avT q.2 6)), (pB_pcs1 (avM q.2 14)), (pB_pcs1 (avM q.2 17)))
abbrev Yprov_0 : Type := Nat × List PV × Nat × Nat × List PV × List PV
def XLprov_0 : XL Yprov_0 := .one Xprov_0a
def Iprov_0 (q : Ext × S) : Yprov_0 := (Iprov_0a q)
theorem XIprov_0a (y) : Iprov_0 (xe (Xprov_0a y)) = y := (show Iprov_0 (xe (Xprov_0a y)) = (y.1, y.2.1, y.2.2.1, y.2.2.2.1, ((y.2.2.2.2.1.map AV.p).map pA_p), ((y.2.2.2.2.2.map AV.p).map pA_p)) from by kernel_rfl).trans (by simp only [map_back])
theorem XIprov_0 (y) : Iprov_0 (xe (XLprov_0.fn y)) = y := XIprov_0a y
noncomputable abbrev Lprov_0 : Q → Option Yprov_0 := lpO env a46.body 0 XLprov_0
noncomputable abbrev Rprov_0 : Q → Option (Ext × S) := lpR env a46.body 0
theorem Lprov_0a_of {s y} (h : Rprov_0 s = exO (Xprov_0a y)) : Lprov_0 s = some y := lpO_of Iprov_0 XIprov_0 (y := y) h
def Tprov_2a (n0 : Nat) (c1 : List PV) (n2 : Nat) (c3 : List PV) (n4 n5 : Nat) (i6 i7 : Int) (n8 : Nat) (c9 : List PV) (i10 i11 : Int) (c12 c13 : List PV) : Q := ⟨(tm 73 [(0, (AV.p (PV.list n0 c1))), (1, (AV.p (PV.list n2 c3))), (4, (AV.loc 4 0)), (5, (AV.msl 14 0 n4 1)), (6, (AV.msl 17 0 n5 1)), (19, (AV.p (PV.int .i64 i6))), (20, (AV.p (PV.int .i64 i7))), (22, (AV.p (PV.list n8 c9))), (23, (AV.p (PV.int .i64 i10))), (24, (AV.p (PV.int .i64 i11)))]), (mm 73 [(4, (Bk.cells true [AV.nilS, AV.nilS, AV.nilS])), (14, (Bk.pcs true c12)), (17, (Bk.pcs true c13))])⟩
def Xprov_2a (y : Nat × List PV × Nat × List PV × Nat × Nat × Int × Int × List PV × List PV) : Ext × Q := (Ext.normal, ⟨(tm 73 [(0, (AV.p (PV.list y.1 y.2.1))), (1, (AV.p (PV.list y.2.2.1 y.2.2.2.1))), (4, (AV.loc 4 0)), (5, (AV.msl 14 0 y.2.2.2.2.1 1)), (6, (AV.msl 17 0 y.2.2.2.2.2.1 1)), (19, (AV.p (PV.int .i64 y.2.2.2.2.2.2.1))), (20, (AV.p (PV.int .i64 y.2.2.2.2.2.2.2.1)))]), (mm 73 [(4, (Bk.cells true [AV.nilS, AV.nilS, AV.nilS])), (14, (Bk.pcs true y.2.2.2.2.2.2.2.2.1)), (17, (Bk.pcs true y.2.2.2.2.2.2.2.2.2))])⟩)
def Iprov_2a (q : Ext × S) : Nat × List PV × Nat × List PV × Nat × Nat × Int × Int × List PV × List PV := ((pP_list0 (pA_p (avT q.2 0))), (pP_list1 (pA_p (avT q.2 0))), (pP_list0 (pA_p (avT q.2 1))), (pP_list1 (pA_p (avT q.2 1))), (pA_msl2 (avT q.2 5)), (pA_msl2 (avT q.2 6)), (pP_int1 (pA_p (avT q.2 19))), (pP_int1 (pA_p (avT q.2 20))), (pB_pcs1 (avM q.2 14)), (pB_pcs1 (avM q.2 17)))
abbrev Yprov_2 : Type := Nat × List PV × Nat × List PV × Nat × Nat × Int × Int × List PV × List PV
def XLprov_2 : XL Yprov_2 := .one Xprov_2a
def Iprov_2 (q : Ext × S) : Yprov_2 := (Iprov_2a q)
theorem XIprov_2a (y) : Iprov_2 (xe (Xprov_2a y)) = y := (show Iprov_2 (xe (Xprov_2a y)) = (y.1, y.2.1, y.2.2.1, y.2.2.2.1, y.2.2.2.2.1, y.2.2.2.2.2.1, y.2.2.2.2.2.2.1, y.2.2.2.2.2.2.2.1, ((y.2.2.2.2.2.2.2.2.1.map AV.p).map pA_p), ((y.2.2.2.2.2.2.2.2.2.map AV.p).map pA_p)) from by kernel_rfl).trans (by simp only [map_back])
theorem XIprov_2 (y) : Iprov_2 (xe (XLprov_2.fn y)) = y := XIprov_2a y
noncomputable abbrev Lprov_2 : Q → Option Yprov_2 := lpO env a46.body 2 XLprov_2
noncomputable abbrev Rprov_2 : Q → Option (Ext × S) := lpR env a46.body 2
theorem Lprov_2a_of {s y} (h : Rprov_2 s = exO (Xprov_2a y)) : Lprov_2 s = some y := lpO_of Iprov_2 XIprov_2 (y := y) h
def Tprov_4a (n0 : Nat) (c1 : List PV) (n2 : Nat) (c3 : List PV) (n4 n5 : Nat) (i6 i7 i8 : Int) (n9 : Nat) (c10 : List PV) (i11 i12 : Int) (n13 : Nat) (c14 : List PV) (i15 i16 : Int) (c17 c18 : List PV) : Q := ⟨(tm 73 [(0, (AV.p (PV.list n0 c1))), (1, (AV.p (PV.list n2 c3))), (4, (AV.loc 4 0)), (5, (AV.msl 14 0 n4 1)), (6, (AV.msl 17 0 n5 1)), (7, (AV.p (PV.int .i64 i6))), (19, (AV.p (PV.int .i64 i7))), (20, (AV.p (PV.int .i64 i8))), (22, (AV.p (PV.list n9 c10))), (23, (AV.p (PV.int .i64 i11))), (24, (AV.p (PV.int .i64 i12))), (45, (AV.p (PV.list n13 c14))), (46, (AV.p (PV.int .i64 i15))), (47, (AV.p (PV.int .i64 i16)))]), (mm 73 [(4, (Bk.cells true [AV.nilS, AV.nilS, AV.nilS])), (14, (Bk.pcs true c17)), (17, (Bk.pcs true c18))])⟩
def Xprov_4a (y : Nat × List PV × Nat × List PV × Nat × Nat × Int × Int × Nat × List PV × Int × Int × List PV × List PV) : Ext × Q := (Ext.normal, ⟨(tm 73 [(0, (AV.p (PV.list y.1 y.2.1))), (1, (AV.p (PV.list y.2.2.1 y.2.2.2.1))), (4, (AV.loc 4 0)), (5, (AV.msl 14 0 y.2.2.2.2.1 1)), (6, (AV.msl 17 0 y.2.2.2.2.2.1 1)), (19, (AV.p (PV.int .i64 y.2.2.2.2.2.2.1))), (20, (AV.p (PV.int .i64 y.2.2.2.2.2.2.2.1))), (22, (AV.p (PV.list y.2.2.2.2.2.2.2.2.1 y.2.2.2.2.2.2.2.2.2.1))), (23, (AV.p (PV.int .i64 y.2.2.2.2.2.2.2.2.2.2.1))), (24, (AV.p (PV.int .i64 y.2.2.2.2.2.2.2.2.2.2.2.1)))]), (mm 73 [(4, (Bk.cells true [AV.nilS, AV.nilS, AV.nilS])), (14, (Bk.pcs true y.2.2.2.2.2.2.2.2.2.2.2.2.1)), (17, (Bk.pcs true y.2.2.2.2.2.2.2.2.2.2.2.2.2))])⟩)
def Iprov_4a (q : Ext × S) : Nat × List PV × Nat × List PV × Nat × Nat × Int × Int × Nat × List PV × Int × Int × List PV × List PV := ((pP_list0 (pA_p (avT q.2 0))), (pP_list1 (pA_p (avT q.2 0))), (pP_list0 (pA_p (avT q.2 1))), (pP_list1 (pA_p (avT q.2 1))), (pA_msl2 (avT q.2 5)), (pA_msl2 (avT q.2 6)), (pP_int1 (pA_p (avT q.2 19))), (pP_int1 (pA_p (avT q.2 20))), (pP_list0 (pA_p (avT q.2 22))), (pP_list1 (pA_p (avT q.2 22))), (pP_int1 (pA_p (avT q.2 23))), (pP_int1 (pA_p (avT q.2 24))), (pB_pcs1 (avM q.2 14)), (pB_pcs1 (avM q.2 17)))
abbrev Yprov_4 : Type := Nat × List PV × Nat × List PV × Nat × Nat × Int × Int × Nat × List PV × Int × Int × List PV × List PV
def XLprov_4 : XL Yprov_4 := .one Xprov_4a
def Iprov_4 (q : Ext × S) : Yprov_4 := (Iprov_4a q)
theorem XIprov_4a (y) : Iprov_4 (xe (Xprov_4a y)) = y := (show Iprov_4 (xe (Xprov_4a y)) = (y.1, y.2.1, y.2.2.1, y.2.2.2.1, y.2.2.2.2.1, y.2.2.2.2.2.1, y.2.2.2.2.2.2.1, y.2.2.2.2.2.2.2.1, y.2.2.2.2.2.2.2.2.1, y.2.2.2.2.2.2.2.2.2.1, y.2.2.2.2.2.2.2.2.2.2.1, y.2.2.2.2.2.2.2.2.2.2.2.1, ((y.2.2.2.2.2.2.2.2.2.2.2.2.1.map AV.p).map pA_p), ((y.2.2.2.2.2.2.2.2.2.2.2.2.2.map AV.p).map pA_p)) from by kernel_rfl).trans (by simp only [map_back])
theorem XIprov_4 (y) : Iprov_4 (xe (XLprov_4.fn y)) = y := XIprov_4a y
noncomputable abbrev Lprov_4 : Q → Option Yprov_4 := lpO env a46.body 4 XLprov_4
noncomputable abbrev Rprov_4 : Q → Option (Ext × S) := lpR env a46.body 4
theorem Lprov_4a_of {s y} (h : Rprov_4 s = exO (Xprov_4a y)) : Lprov_4 s = some y := lpO_of Iprov_4 XIprov_4 (y := y) h
theorem Uprov : uniq ((blocksOf a46.body).map (·.1)) = true := by kernel_rfl
def Bprov_0a (_F : FnT) (N : QO) (E : EO) (_L0 : QQ Yprov_0) (L2 : QQ Yprov_2) (_L4 : QQ Yprov_4) (n0 : Nat) (c1 : List PV) (n2 : Nat) (c3 : List PV) (n4 n5 : Nat) (i6 i7 : Int) (c8 c9 : List PV) : OX :=
 bif (decide (i7 < i6)) then
  bindO (L2 (Tprov_2a n0 c1 n2 c3 n4 n5 i6 i7 n0 c1 (n0 : Int) (0 : Int) c8 c9)) fun y0 =>
  N (Tprov_0a y0.1 y0.2.1 y0.2.2.1 y0.2.2.2.1 y0.2.2.2.2.1 y0.2.2.2.2.2.1 y0.2.2.2.2.2.2.1 (w64 (y0.2.2.2.2.2.2.2.1 + (1 : Int))) y0.2.2.2.2.2.2.2.2.1 y0.2.2.2.2.2.2.2.2.2)
 else E (Xprov_0a (n2, c3, n4, n5, c8, c9))
abbrev qN4_1 (L0 : QQ Yprov_0) (L2 : QQ Yprov_2) (L4 : QQ Yprov_4) : List LoopO := [⟨0, Yprov_0, L0, XLprov_0⟩, ⟨2, Yprov_2, L2, XLprov_2⟩, ⟨4, Yprov_4, L4, XLprov_4⟩]
theorem Bprov_0a_eq (F N E L0 L2 L4 n0 c1 n2 c3 n4 n5 i6 i7 c8 c9) : semB (callP F Eprov 20) s46 (loopT (qN4_1 L0 L2 L4)) 400 (blkIn a46.body 0) N E (Tprov_0a n0 c1 n2 c3 n4 n5 i6 i7 c8 c9) = Bprov_0a F N E L0 L2 L4 n0 c1 n2 c3 n4 n5 i6 i7 c8 c9 := by kernel_rfl
theorem oqN4_1 : ∀ o ∈ qN4_1 Lprov_0 Lprov_2 Lprov_4, LoopOOK env a46.body o := lo_cons (lpO_ok Uprov) (lo_cons (lpO_ok Uprov) (lo_cons (lpO_ok Uprov) lo_nil))
theorem Rprov_0a_of (n0 c1 n2 c3 n4 n5 i6 i7 c8 c9) {r} (h : Bprov_0a (Fn env) Rprov_0 exO Lprov_0 Lprov_2 Lprov_4 n0 c1 n2 c3 n4 n5 i6 i7 c8 c9 = some r) : Rprov_0 (Tprov_0a n0 c1 n2 c3 n4 n5 i6 i7 c8 c9) = some r :=
 lp_of Eprov_ok (by kernel_rfl) oqN4_1 (by kernel_rfl) ((Bprov_0a_eq _ _ _ _ _ _ _ _ _ _ _ _ _ _ _ _).trans h)
def Bprov_2a (_F : FnT) (N : QO) (E : EO) (_L0 : QQ Yprov_0) (_L2 : QQ Yprov_2) (L4 : QQ Yprov_4) (n0 : Nat) (c1 : List PV) (n2 : Nat) (c3 : List PV) (n4 n5 : Nat) (i6 i7 : Int) (n8 : Nat) (c9 : List PV) (i10 i11 : Int) (c12 c13 : List PV) : OX :=
 bif (decide (i11 < i10)) then
  bif (decide (((0 : Int) ≤ i11) ∧ (i11 < (n8 : Int)))) then
   bindO (listC (c9[((Int.toNat i11) * 1)]?)) fun x0 =>
   bif (decide (((0 : Int) ≤ i11) ∧ (i11 < (n2 : Int)))) then
    bindO (intC .i64 (c3[((Int.toNat i11) * 1)]?)) fun x1 =>
    bif (decide (((0 : Int) ≤ x1) ∧ (x1 < (x0.1 : Int)))) then
     bindO (intC .i64 (x0.2[((Int.toNat x1) * 1)]?)) fun x2 =>
     bif (decide (((0 : Int) ≤ x1) ∧ (x1 < (n5 : Int)))) then
      bindO (intC .i64 (c13[(0 + ((Int.toNat x1) * 1))]?)) fun x3 =>
      bif (decide (((0 : Int) ≤ i11) ∧ (i11 < (n4 : Int)))) then
       bindO (Gv.overO c12 (0 + ((Int.toNat i11) * 1)) [(PV.int .i64 (w64 (x2 - x3)))]) fun x4 =>
       bindO (L4 (Tprov_4a n0 c1 n2 c3 n4 n5 i11 i6 i7 n8 c9 i10 i11 x0.1 x0.2 (x0.1 : Int) (0 : Int) x4 c13)) fun y5 =>
       N (Tprov_2a y5.1 y5.2.1 y5.2.2.1 y5.2.2.2.1 y5.2.2.2.2.1 y5.2.2.2.2.2.1 y5.2.2.2.2.2.2.1 y5.2.2.2.2.2.2.2.1 y5.2.2.2.2.2.2.2.2.1 y5.2.2.2.2.2.2.2.2.2.1 y5.2.2.2.2.2.2.2.2.2.2.1 (w64 (y5.2.2.2.2.2.2.2.2.2.2.2.1 + (1 : Int))) y5.2.2.2.2.2.2.2.2.2.2.2.2.1 y5.2.2.2.2.2.2.2.2.2.2.2.2.2)
      else none
     else none
    else none
   else none
  else none
 else E (Xprov_2a (n0, c1, n2, c3, n4, n5, i6, i7, c12, c13))
theorem Bprov_2a_eq (F N E L0 L2 L4 n0 c1 n2 c3 n4 n5 i6 i7 n8 c9 i10 i11 c12 c13) : semB (callP F Eprov 20) s46 (loopT (qN4_1 L0 L2 L4)) 400 (blkIn a46.body 2) N E (Tprov_2a n0 c1 n2 c3 n4 n5 i6 i7 n8 c9 i10 i11 c12 c13) = Bprov_2a F N E L0 L2 L4 n0 c1 n2 c3 n4 n5 i6 i7 n8 c9 i10 i11 c12 c13 := by kernel_rfl
theorem Rprov_2a_of (n0 c1 n2 c3 n4 n5 i6 i7 n8 c9 i10 i11 c12 c13) {r} (h : Bprov_2a (Fn env) Rprov_2 exO Lprov_0 Lprov_2 Lprov_4 n0 c1 n2 c3 n4 n5 i6 i7 n8 c9 i10 i11 c12 c13 = some r) : Rprov_2 (Tprov_2a n0 c1 n2 c3 n4 n5 i6 i7 n8 c9 i10 i11 c12 c13) = some r :=
 lp_of Eprov_ok (by kernel_rfl) oqN4_1 (by kernel_rfl) ((Bprov_2a_eq _ _ _ _ _ _ _ _ _ _ _ _ _ _ _ _ _ _ _ _).trans h)
def Bprov_4a (_F : FnT) (N : QO) (E : EO) (_L0 : QQ Yprov_0) (_L2 : QQ Yprov_2) (_L4 : QQ Yprov_4) (n0 : Nat) (c1 : List PV) (n2 : Nat) (c3 : List PV) (n4 n5 : Nat) (i6 i7 i8 : Int) (n9 : Nat) (c10 : List PV) (i11 i12 : Int) (n13 : Nat) (c14 : List PV) (i15 i16 : Int) (c17 c18 : List PV) : OX :=
 bif (decide (i16 < i15)) then
  bif (decide (((0 : Int) ≤ i16) ∧ (i16 < (n13 : Int)))) then
   bindO (intC .i64 (c14[((Int.toNat i16) * 1)]?)) fun x0 =>
   bif (decide (((0 : Int) ≤ i16) ∧ (i16 < (n5 : Int)))) then
    bindO (intC .i64 (c18[(0 + ((Int.toNat i16) * 1))]?)) fun x1 =>
    bif (decide (((0 : Int) ≤ i6) ∧ (i6 < (n4 : Int)))) then
     bindO (intC .i64 (c17[(0 + ((Int.toNat i6) * 1))]?)) fun x2 =>
     bif (decide (((0 : Int) ≤ i16) ∧ (i16 < (n5 : Int)))) then
      bindO (Gv.overO c18 (0 + ((Int.toNat i16) * 1)) [(PV.int .i64 (if ((w64 (x0 - x2)) < x1) then (w64 (x0 - x2)) else x1))]) fun x3 =>
      N (Tprov_4a n0 c1 n2 c3 n4 n5 i6 i7 i8 n9 c10 i11 i12 n13 c14 i15 (w64 (i16 + (1 : Int))) c17 x3)
     else none
    else none
   else none
  else none
 else E (Xprov_4a (n0, c1, n2, c3, n4, n5, i7, i8, n9, c10, i11, i12, c17, c18))
theorem Bprov_4a_eq (F N E L0 L2 L4 n0 c1 n2 c3 n4 n5 i6 i7 i8 n9 c10 i11 i12 n13 c14 i15 i16 c17 c18) : semB (callP F Eprov 20) s46 (loopT (qN4_1 L0 L2 L4)) 400 (blkIn a46.body 4) N E (Tprov_4a n0 c1 n2 c3 n4 n5 i6 i7 i8 n9 c10 i11 i12 n13 c14 i15 i16 c17 c18) = Bprov_4a F N E L0 L2 L4 n0 c1 n2 c3 n4 n5 i6 i7 i8 n9 c10 i11 i12 n13 c14 i15 i16 c17 c18 := by kernel_rfl
theorem Rprov_4a_of (n0 c1 n2 c3 n4 n5 i6 i7 i8 n9 c10 i11 i12 n13 c14 i15 i16 c17 c18) {r} (h : Bprov_4a (Fn env) Rprov_4 exO Lprov_0 Lprov_2 Lprov_4 n0 c1 n2 c3 n4 n5 i6 i7 i8 n9 c10 i11 i12 n13 c14 i15 i16 c17 c18 = some r) : Rprov_4 (Tprov_4a n0 c1 n2 c3 n4 n5 i6 i7 i8 n9 c10 i11 i12 n13 c14 i15 i16 c17 c18) = some r :=
 lp_of Eprov_ok (by kernel_rfl) oqN4_1 (by kernel_rfl) ((Bprov_4a_eq _ _ _ _ _ _ _ _ _ _ _ _ _ _ _ _ _ _ _ _ _ _ _ _ _).trans h)
def tprov (_F : FnT) (L0 : QQ Yprov_0) (_L2 : QQ Yprov_2) (_L4 : QQ Yprov_4) (p0n : Nat) (p0c : List PV) (p1n : Nat) (p1c : List PV) : Option (((Nat) × (List PV)) × (((Nat) × (List PV)) × ((Nat) × (List PV)))) :=
 bif (decide (((p0n : Int) = (p0n : Int)) ∧ (((0 : Int) ≤ (p0n : Int)) ∧ ((p0n : Int) ≤ (big : Int))))) then
  bif (decide (((p0n : Int) = (p0n : Int)) ∧ (((0 : Int) ≤ (p0n : Int)) ∧ ((p0n : Int) ≤ (big : Int))))) then
   bindO (L0 (Tprov_0a p0n p0c p1n p1c (Int.toNat (p0n : Int)) (Int.toNat (p0n : Int)) (p0n : Int) (0 : Int) (rep [(PV.int .i64 (0 : Int))] (Int.toNat (p0n : Int))) (rep [(PV.int .i64 (0 : Int))] (Int.toNat (p0n : Int))))) fun y0 =>
   bif (decide ((0 + (y0.2.2.1 * 1)) ≤ (List.length y0.2.2.2.2.1))) then
    bif (decide ((0 + (y0.2.2.2.1 * 1)) ≤ (List.length y0.2.2.2.2.2))) then
     some ((y0.1, y0.2.1), ((y0.2.2.1, (List.take (y0.2.2.1 * 1) (List.drop 0 y0.2.2.2.2.1))), (y0.2.2.2.1, (List.take (y0.2.2.2.1 * 1) (List.drop 0 y0.2.2.2.2.2)))))
    else none
   else none
  else none
 else none
theorem tprov_eq (F L0 L2 L4 p0n p0c p1n p1c) : semF (callP F Eprov 20) s46 (loopT (qN4_1 L0 L2 L4)) 400 a46 [PV.list p0n p0c, PV.list p1n p1c] (fun rv => decR (RSh.agg [CK.list, CK.list, CK.list]) rv.pv) = tprov F L0 L2 L4 p0n p0c p1n p1c := by kernel_rfl
noncomputable abbrev Fprov (args : List PV) := Fn env 46 (RSh.agg [CK.list, CK.list, CK.list]) args
theorem Fprov_of  (p0n : Nat) (p0c : List PV) (p1n : Nat) (p1c : List PV) {res : (((Nat) × (List PV)) × (((Nat) × (List PV)) × ((Nat) × (List PV))))} (h : tprov (Fn env) Lprov_0 Lprov_2 Lprov_4 p0n p0c p1n p1c = some res) : Fprov [PV.list p0n p0c, PV.list p1n p1c] = some res :=
 fn_of Eprov_ok rfl rfl oqN4_1 ((tprov_eq _ _ _ _ _ _ _ _).trans h)
def EbMod : List Entry := []
theorem EbMod_ok : ∀ e ∈ EbMod, EntOK env e := ent_nil
def tbMod (_F : FnT) (p0 p1 : Int) : Option (Int) :=
 bif (decide (p1 ≠ (0 : Int))) then
  bif (decide ((Int.tmod p0 p1) < (0 : Int))) then
   some (w64 ((Int.tmod p0 p1) + p1))
  else some (Int.tmod p0 p1)
 else none
theorem tbMod_eq (F p0 p1) : semF (callP F EbMod 20) s17 (loopT []) 400 a17 [PV.int .i64 p0, PV.int .i64 p1] (fun rv => decR (RSh.one (CK.int .i64)) rv.pv) = tbMod F p0 p1 := by kernel_rfl
noncomputable abbrev FbMod (args : List PV) := Fn env 17 (RSh.one (CK.int .i64)) args
theorem FbMod_of  (p0 p1 : Int) {res : (Int)} (h : tbMod (Fn env) p0 p1 = some res) : FbMod [PV.int .i64 p0, PV.int .i64 p1] = some res :=
 fn_of EbMod_ok rfl rfl lo_nil ((tbMod_eq _ _ _).trans h)
end Gv

/- The program's potentials. -/
namespace Gv
open Go
set_option maxRecDepth 100000
theorem over_set (l : List Int) {k : Nat} (h : k < l.length) (v : Int) : overO (encI l) (0 + k * 1) [.int .i64 v] = some (encI (l.set k v)) := by
 rw [overO_of (by rw [encI_len]; simp; omega)]
 unfold over encI
 rw [List.map_set, List.set_eq_take_append_cons_drop, if_pos (by rw [List.length_map]; exact h)]
 simp
theorem pre_congr {N : Nat} {f g : Nat → Int} (h : ∀ c, c < N → f c = g c) : pre N f = pre N g := by
 unfold pre
 exact List.map_congr_left fun c hc => h c (by simpa using hc)
theorem pre_getD {N : Nat} {f : Nat → Int} {k : Nat} (h : k < N) : (pre N f).getD k 0 = f k := by simp [pre, List.getD, h]
theorem pre_set {N : Nat} {f : Nat → Int} {k : Nat} {v : Int} : (pre N f).set k v = pre N fun c => if c = k then v else f c := by
 apply List.ext_getElem
 ·simp [pre]
 ·intro i h1 h2
  simp only [pre, List.length_map, List.length_range] at h2
  by_cases e : i = k
  ·subst e
   simp [pre]
  ·rw [List.getElem_set_ne (fun h => e h.symm)]
   simp [pre, e]
theorem Zm_in {L : List (List Int)} (h : ∀ r ∈ L, ∀ x ∈ r, 0 ≤ x ∧ x ≤ 10000000) (i j : Nat) : 0 ≤ Zm L i j ∧ Zm L i j ≤ 10000000 := by
 unfold Zm
 by_cases hi : i < L.length
 ·have hm := getD_memA (d := []) hi
  by_cases hj : j < (L.getD i []).length
  ·exact h _ hm _ (getD_memA hj)
  ·have e : (L.getD i []).getD j 0 = 0 := by rw [List.getD_eq_getElem?_getD (l := L.getD i []), List.getElem?_eq_none (by omega)]; rfl
   rw [e]
   omega
 ·have e : (L.getD i []).getD j 0 = 0 := by rw [List.getD_eq_getElem?_getD (l := L), List.getElem?_eq_none (by omega)]; rfl
  rw [e]
  omega
def rowsF (Z : Nat → Nat → Int) (d : List Nat) : List Int → (Nat → Int) → Nat → Nat → List Int
 | R, _, _, 0 => R
 | R, U, r, m + 1 => rowsF Z d (R.set r (newR Z d U r)) (stepU Z d U r) (r + 1) m
theorem rowsF_len (Z : Nat → Nat → Int) (d : List Nat) : ∀ (m : Nat) (R : List Int) (U : Nat → Int) (r : Nat), (rowsF Z d R U r m).length = R.length
 | 0, _, _, _ => rfl
 | m + 1, R, U, r => by
  unfold rowsF
  rw [rowsF_len Z d m, List.length_set]
def rowsK (Z : Nat → Nat → Int) (d : List Nat) (N : Nat) : Nat → List Int
 | 0 => List.replicate N 0
 | k + 1 => rowsF Z d (rowsK Z d N k) (sweeps Z d N k) 0 N
theorem rowsK_len (Z : Nat → Nat → Int) (d : List Nat) (N : Nat) : ∀ k, (rowsK Z d N k).length = N
 | 0 => List.length_replicate
 | k + 1 => by
  show (rowsF Z d _ _ 0 N).length = N
  rw [rowsF_len, rowsK_len Z d N k]
section
variable (L : List (List Int)) (h5 : L.length ≤ 5) (hr : ∀ r ∈ L, r.length = L.length) (hx : ∀ r ∈ L, ∀ x ∈ r, 0 ≤ x ∧ x ≤ 10000000) {d : List Nat} (hd : d ∈ asgs L.length) (hmin : ∀ e ∈ asgs L.length, cS (Zm L) L.length d ≤ cS (Zm L) L.length e)
def Good (L : List (List Int)) (d : List Nat) (U : Nat → Int) : Prop := WOK (Zm L) d L.length U ∧ ∀ r, r < L.length → U (d.getD r 0) ≤ 0
theorem good_step {U : Nat → Int} (h : Good L d U) {r : Nat} (hrl : r < L.length) : Good L d (stepU (Zm L) d U r) := ⟨wok_step h.1 hrl, fun x hxl => Int.le_trans (step_le U r _) (h.2 x hxl)⟩
theorem good_sweeps (k : Nat) : Good L d (sweeps (Zm L) d L.length k) := ⟨wok_sweeps k, fun _ hrl => low_zero k hrl⟩
include h5 hx hd hmin in
theorem good_in {U : Nat → Int} (h : Good L d U) {c : Nat} (hc : c < L.length) : -40000000 ≤ U c ∧ U c ≤ 0 := by
 obtain ⟨r, r1, rfl⟩ := onto h5 hd hc
 exact ⟨wok_low h5 hd hmin (Zm_in hx) h.1 r1, h.2 r r1⟩
include h5 hx hd hmin in
theorem newR_in {U : Nat → Int} (h : Good L d U) {r : Nat} (hrl : r < L.length) : 0 ≤ newR (Zm L) d U r ∧ newR (Zm L) d U r ≤ 50000000 := by
 have h1 := wok_low h5 hd hmin (Zm_in hx) h.1 hrl
 have h2 := h.2 r hrl
 have h3 := Zm_in hx r (d.getD r 0)
 unfold newR
 omega
def mixU (L : List (List Int)) (d : List Nat) (U : Nat → Int) (r k : Nat) : Nat → Int := fun c => if c < k then stepU (Zm L) d U r c else U c
include h5 hr hx hd hmin in
theorem prov_4 {U : Nat → Int} (hU : Good L d U) {r : Nat} (hrl : r < L.length) (R : List Int) (hR : R.length = L.length) (hRr : R.getD r 0 = newR (Zm L) d U r) (i7 i8 i11 : Int) : ∀ (m k : Nat), k + m = L.length →
  Rprov_4 (Tprov_4a L.length (encM L) d.length (encN d) L.length L.length (r : Int) i7 i8 L.length (encM L) i11 (r : Int) L.length (encI (L.getD r [])) (L.length : Int) (k : Int) (encI R) (encI (pre L.length (mixU L d U r k)))) = exO (Xprov_4a (L.length, encM L, d.length, encN d, L.length, L.length, i7, i8, L.length, encM L, i11, (r : Int), encI R, encI (pre L.length (stepU (Zm L) d U r))))
 | 0, k, h => by
  refine Rprov_4a_of _ _ _ _ _ _ _ _ _ _ _ _ _ _ _ _ _ _ _ ?_
  unfold Bprov_4a
  rw [bif_neg (by omega)]
  have e : pre L.length (mixU L d U r k) = pre L.length (stepU (Zm L) d U r) := pre_congr fun c hc => by
   unfold mixU
   rw [if_pos (by omega)]
  rw [e]
  rfl
 | m + 1, k, h => by
  have ih := prov_4 hU hrl R hR hRr i7 i8 i11 m (k + 1) (by omega)
  have hk : k < L.length := by omega
  have hrow := hr _ (getD_memA (d := []) hrl)
  have hN := newR_in L h5 hx hd hmin hU hrl
  have hz := Zm_in hx r k
  have ez : (L.getD r []).getD k 0 = Zm L r k := rfl
  have g1 : intC .i64 (encI (L.getD r []))[k]? = some (Zm L r k) := intI_get (by omega)
  have g2 : intC .i64 (encI (pre L.length (mixU L d U r k)))[k]? = some (U k) := by
   rw [intI_get (by rw [pre_len]; exact hk), pre_getD hk]
   unfold mixU
   rw [if_neg (by omega)]
  have g3 : intC .i64 (encI R)[r]? = some (newR (Zm L) d U r) := by
   rw [intI_get (by omega), hRr]
  have ew : w64 (Zm L r k - newR (Zm L) d U r) = Zm L r k - newR (Zm L) d U r := w64_in (by omega)
  have eo := over_set (pre L.length (mixU L d U r k)) (k := k) (by rw [pre_len]; exact hk) (if (Zm L r k - newR (Zm L) d U r) < U k then (Zm L r k - newR (Zm L) d U r) else U k)
  have es : (pre L.length (mixU L d U r k)).set k (if (Zm L r k - newR (Zm L) d U r) < U k then (Zm L r k - newR (Zm L) d U r) else U k) = pre L.length (mixU L d U r (k + 1)) := by
   rw [pre_set]
   refine pre_congr fun c hc => ?_
   unfold mixU
   by_cases e : c = k
   ·subst e
    rw [if_pos (show c < c + 1 by omega)]
    show (if c = c then _ else _) = _
    rw [if_pos rfl]
    rfl
   ·rw [if_neg e]
    by_cases hl : c < k
    ·rw [if_pos hl, if_pos (by omega)]
    ·rw [if_neg hl, if_neg (by omega)]
  rw [es] at eo
  refine Rprov_4a_of _ _ _ _ _ _ _ _ _ _ _ _ _ _ _ _ _ _ _ ?_
  unfold Bprov_4a
  rw [bif_pos (by omega), bif_pos (by omega), Int.toNat_natCast, Nat.mul_one, g1, bindO_val, bif_pos (by omega), Nat.zero_add, g2, bindO_val, bif_pos (by omega), Int.toNat_natCast, Nat.zero_add, Nat.mul_one, g3, bindO_val, bif_pos (by omega), ew]
  rw [Nat.zero_add, Nat.mul_one] at eo
  rw [eo, bindO_val, w64_in (by omega)]
  exact ih
include h5 hr hx hd hmin in
theorem prov_2 (i6 i7 : Int) : ∀ (m r : Nat) (U : Nat → Int) (R : List Int), r + m = L.length → Good L d U → R.length = L.length →
  Rprov_2 (Tprov_2a L.length (encM L) d.length (encN d) L.length L.length i6 i7 L.length (encM L) (L.length : Int) (r : Int) (encI R) (encI (pre L.length U))) = exO (Xprov_2a (L.length, encM L, d.length, encN d, L.length, L.length, i6, i7, encI (rowsF (Zm L) d R U r m), encI (pre L.length ((List.range' r m).foldl (stepU (Zm L) d) U))))
 | 0, r, U, R, h, _, _ => by
  refine Rprov_2a_of _ _ _ _ _ _ _ _ _ _ _ _ _ _ ?_
  unfold Bprov_2a
  rw [bif_neg (by omega)]
  rfl
 | m + 1, r, U, R, h, hU, hR => by
  have hrl : r < L.length := by omega
  have hrow := hr _ (getD_memA (d := []) hrl)
  obtain ⟨d1, d2⟩ := asgs_row h5 hd
  have hdr : d.getD r 0 < L.length := d2 _ (getD_memA (by omega))
  have ih := prov_2 i6 i7 m (r + 1) (stepU (Zm L) d U r) (R.set r (newR (Zm L) d U r)) (by omega) (good_step L hU hrl) (by rw [List.length_set]; exact hR)
  have h4 := prov_4 L h5 hr hx hd hmin hU hrl (R.set r (newR (Zm L) d U r)) (by rw [List.length_set]; exact hR) (by simp [List.getD, hR, hrl]) i6 i7 (L.length : Int) L.length 0 (by omega)
  have e0 : pre L.length (mixU L d U r 0) = pre L.length U := pre_congr fun c _ => if_neg (by omega)
  rw [e0] at h4
  have h4 : Lprov_4 (Tprov_4a L.length (encM L) d.length (encN d) L.length L.length (r : Int) i6 i7 L.length (encM L) (L.length : Int) (r : Int) L.length (encI (L.getD r [])) (L.length : Int) 0 (encI (R.set r (newR (Zm L) d U r))) (encI (pre L.length U))) = _ := Lprov_4a_of h4
  have hin := good_in L h5 hx hd hmin hU hdr
  have hz := Zm_in hx r (d.getD r 0)
  have g1 := intN_get (b := d) (i := r) (by omega)
  have g2 : intC .i64 (encI (L.getD r []))[d.getD r 0]? = some (Zm L r (d.getD r 0)) := intI_get (by omega)
  have g3 : intC .i64 (encI (pre L.length U))[d.getD r 0]? = some (U (d.getD r 0)) := by rw [intI_get (by rw [pre_len]; exact hdr), pre_getD hdr]
  have ew : w64 (Zm L r (d.getD r 0) - U (d.getD r 0)) = newR (Zm L) d U r := w64_in (by omega)
  have eo := over_set R (k := r) (by omega) (newR (Zm L) d U r)
  rw [Nat.zero_add, Nat.mul_one] at eo
  refine Rprov_2a_of _ _ _ _ _ _ _ _ _ _ _ _ _ _ ?_
  unfold Bprov_2a
  rw [bif_pos (by omega), bif_pos (by omega), Int.toNat_natCast, Nat.mul_one, listM_get hrl, bindO_val, bif_pos (by omega), g1, bindO_val]
  dsimp only
  rw [bif_pos (by omega), Int.toNat_natCast, Nat.mul_one, g2, bindO_val, bif_pos (by omega), Nat.zero_add, g3, bindO_val, bif_pos (by omega), ew, Nat.zero_add, eo, bindO_val, hrow, h4, bindO_val]
  dsimp only
  rw [w64_in (by omega)]
  exact ih
include h5 hr hx hd hmin in
theorem prov_0 : ∀ (m k : Nat), k + m = L.length →
  Rprov_0 (Tprov_0a L.length (encM L) d.length (encN d) L.length L.length (L.length : Int) (k : Int) (encI (rowsK (Zm L) d L.length k)) (encI (pre L.length (sweeps (Zm L) d L.length k)))) = exO (Xprov_0a (d.length, encN d, L.length, L.length, encI (rowsK (Zm L) d L.length L.length), encI (pre L.length (sweeps (Zm L) d L.length L.length))))
 | 0, k, h => by
  refine Rprov_0a_of _ _ _ _ _ _ _ _ _ _ ?_
  unfold Bprov_0a
  rw [bif_neg (by omega), show k = L.length by omega]
  rfl
 | m + 1, k, h => by
  have ih := prov_0 m (k + 1) (by omega)
  have h2 : Lprov_2 (Tprov_2a L.length (encM L) d.length (encN d) L.length L.length (L.length : Int) (k : Int) L.length (encM L) (L.length : Int) 0 (encI (rowsK (Zm L) d L.length k)) (encI (pre L.length (sweeps (Zm L) d L.length k)))) = _ := Lprov_2a_of (prov_2 L h5 hr hx hd hmin (L.length : Int) (k : Int) L.length 0 (sweeps (Zm L) d L.length k) (rowsK (Zm L) d L.length k) (by omega) (good_sweeps L k) (rowsK_len _ _ _ k))
  have e : (List.range' 0 L.length).foldl (stepU (Zm L) d) (sweeps (Zm L) d L.length k) = sweeps (Zm L) d L.length (k + 1) := by
   show _ = (List.range L.length).foldl _ _
   rw [List.range_eq_range']
  rw [e] at h2
  refine Rprov_0a_of _ _ _ _ _ _ _ _ _ _ ?_
  unfold Bprov_0a
  rw [bif_pos (by omega), h2, bindO_val]
  dsimp only
  rw [w64_in (by omega)]
  exact ih
def potC (L : List (List Int)) (d : List Nat) : Nat → Int := sweeps (Zm L) d L.length (L.length - 1)
include h5 hd hmin in
theorem rows_same : ∀ (m r : Nat) (U : Nat → Int) (R : List Int), r + m = L.length → (∀ c, c < L.length → U c = potC L d c) → R.length = L.length → ∀ j, j < L.length → (rowsF (Zm L) d R U r m).getD j 0 = if r ≤ j then newR (Zm L) d (potC L d) j else R.getD j 0
 | 0, r, U, R, h, _, _, j, hj => by
  unfold rowsF
  rw [if_neg (by omega)]
 | m + 1, r, U, R, h, hU, hR, j, hj => by
  obtain ⟨s1, s2⟩ := step_same h5 hd hmin hU (r := r) (by omega)
  have ih := rows_same m (r + 1) (stepU (Zm L) d U r) (R.set r (newR (Zm L) d U r)) (by omega) s1 (by rw [List.length_set]; exact hR) j hj
  unfold rowsF
  rw [ih]
  by_cases e : j = r
  ·subst e
   rw [if_neg (by omega), if_pos (Nat.le_refl _), s2]
   have : (R.set j (newR (Zm L) d (sweeps (Zm L) d L.length (L.length - 1)) j)).getD j 0 = newR (Zm L) d (sweeps (Zm L) d L.length (L.length - 1)) j := by simp [List.getD, hR, hj]
   exact this
  ·by_cases hl : r + 1 ≤ j
   ·rw [if_pos hl, if_pos (by omega)]
   ·rw [if_neg hl, if_neg (by omega)]
    simp only [List.getD_eq_getElem?_getD]
    rw [List.getElem?_set_ne (fun h => e h.symm)]
include h5 hd hmin in
theorem cols_same : ∀ (rs : List Nat) (U : Nat → Int), (∀ r ∈ rs, r < L.length) → (∀ c, c < L.length → U c = potC L d c) → ∀ c, c < L.length → rs.foldl (stepU (Zm L) d) U c = potC L d c
 | [], _, _, h => h
 | r :: rs, U, hrs, h => cols_same rs _ (fun x hx => hrs x (List.mem_cons_of_mem _ hx)) (step_same h5 hd hmin h (hrs r List.mem_cons_self)).1
include h5 hr hx hd hmin in
theorem prov_is (h0 : 0 < L.length) : Fprov [.list L.length (encM L), .list d.length (encN d)] = some ((d.length, encN d), ((L.length, encI (pre L.length (newR (Zm L) d (potC L d)))), (L.length, encI (pre L.length (potC L d))))) := by
 have e1 : rowsK (Zm L) d L.length L.length = pre L.length (newR (Zm L) d (potC L d)) := by
  obtain ⟨n, hn⟩ : ∃ n, L.length = n + 1 := ⟨L.length - 1, by omega⟩
  have hs : rowsK (Zm L) d L.length L.length = rowsF (Zm L) d (rowsK (Zm L) d L.length n) (sweeps (Zm L) d L.length n) 0 L.length := by
   conv => lhs; arg 4; rw [hn]
   rfl
  rw [hs]
  apply List.ext_getElem
  ·rw [rowsF_len, rowsK_len, pre_len]
  ·intro j h1 h2
   rw [pre_len] at h2
   have := rows_same L h5 hd hmin L.length 0 (sweeps (Zm L) d L.length n) (rowsK (Zm L) d L.length n) (by omega) (fun c _ => by unfold potC; rw [show L.length - 1 = n by omega]) (rowsK_len _ _ _ n) j h2
   rw [if_pos (Nat.zero_le _), getD_at h1] at this
   rw [this]
   simp [pre]
 have e2 : pre L.length (sweeps (Zm L) d L.length L.length) = pre L.length (potC L d) := pre_congr fun c hc => by
  obtain ⟨n, hn⟩ : ∃ n, L.length = n + 1 := ⟨L.length - 1, by omega⟩
  have hs : sweeps (Zm L) d L.length L.length = (List.range L.length).foldl (stepU (Zm L) d) (sweeps (Zm L) d L.length n) := by
   conv => lhs; arg 4; rw [hn]
   rfl
  rw [hs]
  exact cols_same L h5 hd hmin _ _ (fun r hr => by simpa using hr) (fun c _ => by unfold potC; rw [show L.length - 1 = n by omega]) c hc
 have h := prov_0 L h5 hr hx hd hmin L.length 0 (by omega)
 rw [e1, e2] at h
 have h : Rprov_0 (Tprov_0a L.length (encM L) d.length (encN d) L.length L.length (L.length : Int) 0 (encI (List.replicate L.length 0)) (encI (pre L.length fun _ => 0))) = _ := h
 have er : pre L.length (fun _ => 0) = List.replicate L.length 0 := by simp [pre, List.map_const']
 rw [er, ← rep_I] at h
 refine Fprov_of _ _ _ _ ?_
 unfold tprov
 rw [bif_pos ⟨rfl, by omega, by unfold big; omega⟩, bif_pos ⟨rfl, by omega, by unfold big; omega⟩, Int.toNat_natCast, Lprov_0a_of h, bindO_val]
 dsimp only
 rw [bif_pos (by rw [encI_len, pre_len]; omega), bif_pos (by rw [encI_len, pre_len]; omega)]
 have t1 : ∀ (f : Nat → Int), List.take (L.length * 1) (List.drop 0 (encI (pre L.length f))) = encI (pre L.length f) := fun f => by
  rw [List.drop_zero, List.take_of_length_le (by rw [encI_len, pre_len]; omega)]
 rw [t1, t1]
end
end Gv

/- The program's potentials prove its assignment. -/
namespace Gv
open Go
set_option maxRecDepth 100000
theorem bestIn_min {c : List Nat → Int} : ∀ {l : List (List Nat)} {b : List Nat} {k : Int}, bestIn c l = some (b, k) → k = c b ∧ ∀ x ∈ l, k ≤ c x := by
 have h : ∀ (l : List (List Nat)) (s : List Nat × Int) (b : List Nat) (k : Int), s.2 = c s.1 → l.foldl (bestStep c) (some s) = some (b, k) → k = c b ∧ k ≤ s.2 ∧ ∀ x ∈ l, k ≤ c x := by
  intro l
  induction l with
  | nil =>
   intro s b k hs h
   simp only [List.foldl_nil, Option.some.injEq] at h
   subst h
   exact ⟨hs, Int.le_refl _, fun x hx => by cases hx⟩
  | cons y l ih =>
   intro s b k hs h
   rw [List.foldl_cons] at h
   obtain ⟨s1, s2⟩ := s
   unfold bestStep at h
   simp only at h hs
   by_cases hlt : c y < s2
   ·rw [if_pos hlt] at h
    obtain ⟨k1, k2, k3⟩ := ih (y, c y) b k rfl h
    simp only at k2
    refine ⟨k1, by simp only; omega, fun x hx => ?_⟩
    rcases List.mem_cons.1 hx with rfl | hx
    ·exact k2
    ·exact k3 x hx
   ·rw [if_neg hlt] at h
    obtain ⟨k1, k2, k3⟩ := ih (s1, s2) b k hs h
    simp only at k2
    refine ⟨k1, k2, fun x hx => ?_⟩
    rcases List.mem_cons.1 hx with rfl | hx
    ·omega
    ·exact k3 x hx
 intro l b k hb
 cases l with
 | nil => cases hb
 | cons y l =>
  have hb : l.foldl (bestStep c) (some (y, c y)) = some (b, k) := hb
  obtain ⟨k1, k2, k3⟩ := h l (y, c y) b k rfl hb
  refine ⟨k1, fun x hx => ?_⟩
  rcases List.mem_cons.1 hx with rfl | hx
  ·exact k2
  ·exact k3 x hx
theorem col_all : ((List.range 6).all fun N => (ext N N []).all fun d => (List.range N).all fun i => colV N (asI d) i == 0) = true := by decide +kernel
theorem perm_all : ((List.range 6).all fun N => (ext N N []).all fun d => d.isPerm (List.range N)) = true := by decide +kernel
theorem asg_perm {N : Nat} (h5 : N ≤ 5) {d : List Nat} (hd : d ∈ asgs N) : d.Perm (List.range N) := by
 have k1 := List.all_eq_true.1 perm_all N (by simp; omega)
 exact List.isPerm_iff.1 (List.all_eq_true.1 k1 d hd)
theorem perm_sum {l l' : List Int} (h : l.Perm l') : l.sum = l'.sum := by
 induction h with
 | nil => rfl
 | cons x _ ih => rw [List.sum_cons, List.sum_cons, ih]
 | swap x y l =>
  simp only [List.sum_cons]
  omega
 | trans _ _ a b => rw [a, b]
theorem sum_two (f g : Nat → Int) : ∀ l : List Nat, (l.map f).sum + (l.map g).sum = (l.map fun x => f x + g x).sum
 | [] => rfl
 | x :: l => by
  have := sum_two f g l
  simp only [List.map_cons, List.sum_cons]
  omega
theorem errF_zero {f : Nat → Int} : ∀ (m i : Nat), (∀ j, i ≤ j → j < i + m → f j = 0) → errF f m i = none
 | 0, _, _ => rfl
 | m + 1, i, h => by
  unfold errF
  rw [if_pos (h i (Nat.le_refl _) (by omega))]
  exact errF_zero m (i + 1) fun j h1 h2 => h j (by omega) (by omega)
theorem excF_none {L : List (List Int)} {R C : List Int} {i : Nat} : ∀ (m k : Nat), (∀ c, k ≤ c → c < k + m → ¬ Zm L i c < w64 (R.getD i 0 + C.getD c 0)) → excF L R C i m k = false
 | 0, _, _ => rfl
 | m + 1, k, h => by
  unfold excF
  rw [decide_eq_false (h k (Nat.le_refl _) (by omega)), Bool.false_or]
  exact excF_none m (k + 1) fun c h1 h2 => h c (by omega) (by omega)
section
variable {L : List (List Int)} (hz : (matV L).2 = 0) (h5 : L.length ≤ 5) {d : List Nat} {k : Int} (hb : bestIn (costW (Zm L)) (asgs L.length) = some (d, k))
include hz in
theorem mat_rows : (∀ r ∈ L, r.length = L.length) ∧ ∀ r ∈ L, ∀ x ∈ r, 0 ≤ x ∧ x ≤ 10000000 := ⟨fun r h => ((matV_ok hz).2.2.2 r h).1, fun r h => ((matV_ok hz).2.2.2 r h).2⟩
include hz h5 in
theorem cost_cS {e : List Nat} (he : e ∈ asgs L.length) : costW (Zm L) e = cS (Zm L) L.length e := by
 have hl := (asgs_row h5 he).1
 have hx := (mat_rows hz).2
 have := costW_sum (Z := Zm L) (b := e) (by omega) (fun i j => by
  have := Zm_in hx i j
  omega)
 rw [this, hl]
 rfl
include hz h5 hb in
theorem best_min : d ∈ asgs L.length ∧ ∀ e ∈ asgs L.length, cS (Zm L) L.length d ≤ cS (Zm L) L.length e := by
 have hd := bestIn_mem hb
 obtain ⟨m1, m2⟩ := bestIn_min hb
 refine ⟨hd, fun e he => ?_⟩
 have := m2 e he
 rw [m1, cost_cS hz h5 hd, cost_cS hz h5 he] at this
 exact this
include hz h5 hb in
theorem potO_is : FpotO [.list L.length (encM L)] = some ((d.length, encN d), ((L.length, encI (pre L.length (newR (Zm L) d (potC L d)))), ((L.length, encI (pre L.length (potC L d))), 0))) := by
 obtain ⟨hr, hx⟩ := mat_rows hz
 obtain ⟨hd, hmin⟩ := best_min hz h5 hb
 have h1 : Fn env 45 (RSh.one (CK.int .i64)) [.list L.length (encM L)] = _ := matE_is L fun r h => by have := hr r h; omega
 have h3 : Fn env 46 (RSh.agg [CK.list, CK.list, CK.list]) [.list L.length (encM L), .list d.length (encN d)] = _ := prov_is L h5 hr hx hd hmin (matV_ok hz).2.1
 refine FpotO_of _ _ ?_
 unfold tpotO
 rw [h1, bindO_val, bif_ne, if_pos hz, f94 h5 hr hb, bindO_val]
 dsimp only
 rw [h3, bindO_val]
include hz h5 hb in
theorem cas_ok : casV L (asI d) (pre L.length (newR (Zm L) d (potC L d))) (pre L.length (potC L d)) = (0, 0) := by
 obtain ⟨hr, hx⟩ := mat_rows hz
 obtain ⟨hd, hmin⟩ := best_min hz h5 hb
 have hZ := Zm_in hx
 obtain ⟨d1, d2⟩ := asgs_row h5 hd
 have hG : Good L d (potC L d) := good_sweeps L (L.length - 1)
 have c1 : errF (colV L.length (asI d)) L.length 0 = none := errF_zero _ _ fun j _ hj => by
  have k1 := List.all_eq_true.1 col_all L.length (by simp; omega)
  have k2 := List.all_eq_true.1 k1 d hd
  have k3 := List.all_eq_true.1 k2 j (by simp; omega)
  simpa using k3
 have c2 : errF (potV (pre L.length (newR (Zm L) d (potC L d))) (pre L.length (potC L d))) L.length 0 = none := errF_zero _ _ fun j _ hj => by
  have hjl : j < L.length := by omega
  have h1 := newR_in L h5 hx hd hmin hG hjl
  have h2 := good_in L h5 hx hd hmin hG hjl
  unfold potV
  rw [pre_getD hjl, pre_getD hjl, rangeE_in (by omega), rangeE_in (by omega)]
  rfl
 have c3 : errF (excV L (pre L.length (newR (Zm L) d (potC L d))) (pre L.length (potC L d))) L.length 0 = none := errF_zero _ _ fun j _ hj => by
  have hjl : j < L.length := by omega
  unfold excV
  rw [if_neg]
  rw [excF_none L.length 0 fun c _ hc => ?_]
  ·simp
  ·have hcl : c < L.length := by omega
   have h1 := newR_in L h5 hx hd hmin hG hjl
   have h2 := good_in L h5 hx hd hmin hG hcl
   have h3 := pot_ge h5 hd hmin hjl hcl
   rw [pre_getD hjl, pre_getD hcl, w64_in (by omega)]
   unfold potC
   unfold potC at h1 h2
   omega
 have hb1 : ∀ x ∈ pre L.length (newR (Zm L) d (potC L d)), -60000000 ≤ x ∧ x ≤ 60000000 := fun x hx' => by
  obtain ⟨j, hj, rfl⟩ := List.mem_map.1 hx'
  have h1 := newR_in L h5 hx hd hmin hG (by simpa using hj)
  omega
 have hb2 : ∀ x ∈ pre L.length (potC L d), -60000000 ≤ x ∧ x ≤ 60000000 := fun x hx' => by
  obtain ⟨j, hj, rfl⟩ := List.mem_map.1 hx'
  have h1 := good_in L h5 hx hd hmin hG (c := j) (by simpa using hj)
  omega
 have hs := sumRC_is (B := 60000000) (pre L.length (newR (Zm L) d (potC L d))) (pre L.length (potC L d)) 0 (by rw [pre_len, pre_len]) hb1 hb2 (by omega) (by omega) (by rw [pre_len]; omega)
 have hsum : (pre L.length (newR (Zm L) d (potC L d))).sum + (pre L.length (potC L d)).sum = cS (Zm L) L.length d := by
  have p1 : (pre L.length (potC L d)).sum = ((List.range L.length).map fun r => potC L d (d.getD r 0)).sum := by
   have e : (List.range L.length).map (fun r => potC L d (d.getD r 0)) = d.map (potC L d) := by
    apply List.ext_getElem
    ·simp [d1]
    ·intro i h1 h2
     simp only [List.length_map] at h2
     simp [List.getD, h2]
   rw [e]
   exact (perm_sum ((asg_perm h5 hd).map _)).symm
  rw [p1]
  unfold pre cS
  rw [sum_two]
  congr 1
  refine List.map_congr_left fun r _ => ?_
  unfold newR
  omega
 unfold casV
 rw [if_pos ⟨by rw [asI_len]; exact d1, pre_len _ _, pre_len _ _⟩, c1]
 simp only
 rw [c2]
 simp only
 rw [c3]
 simp only
 rw [if_pos]
 rw [hs, hsum, asI_nat, sumW_zero]
 have hc := cost_cS hz h5 hd
 unfold costW at hc
 rw [hc]
 omega
end
end Gv
