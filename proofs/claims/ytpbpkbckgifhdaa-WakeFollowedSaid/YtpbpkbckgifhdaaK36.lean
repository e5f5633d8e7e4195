import Derived.Test.YtpbpkbckgifhdaaGvEnv
import Derived.Test.YtpbpkbckgifhdaaK21
import Derived.Test.YtpbpkbckgifhdaaBL6

/- What the functions do, round by round: B18. -/
namespace Gv
open Go
set_option maxRecDepth 100000
def ErSize : List Entry := []
theorem ErSize_ok : ∀ e ∈ ErSize, EntOK env e := ent_nil
def trSize (_F : FnT) (p0 : Int) : Option (Int) :=
 some (if ((w64 ((0 : Int) - p0)) > p0) then (w64 ((0 : Int) - p0)) else p0)
theorem trSize_eq (F : FnT) (p0 : Int) : semF (callP F ErSize 20) s118 (loopT []) 400 a118 [PV.int .i64 p0] (fun rv => decR (RSh.one (CK.int .i64)) rv.pv) = trSize F p0 := by kernel_rfl
noncomputable abbrev FrSize (args : List PV) := Fn env 118 (RSh.one (CK.int .i64)) args
theorem FrSize_of  (p0 : Int) {res : (Int)} (h : trSize (Fn env) p0 = some res) : FrSize [PV.int .i64 p0] = some res :=
 fn_of ErSize_ok rfl rfl lo_nil ((trSize_eq _ _).trans h)
def ErCopX : List Entry := []
theorem ErCopX_ok : ∀ e ∈ ErCopX, EntOK env e := ent_nil
def trCopX (_F : FnT) (p0n : Nat) (p0c : List PV) : Option ((Nat) × (List PV)) :=
 bif (decide (p0n = 0)) then
  some (0, [])
 else bif (decide ((List.length p0c) = (p0n * 3))) then
  bif (decide ((0 = 0) ∧ ((0 + p0n) ≤ big))) then
   bif (decide ((0 + p0n) = (0 + p0n))) then
    some ((0 + p0n), ([] ++ p0c))
   else none
  else none
 else none
theorem trCopX_eq (F : FnT) (p0n : Nat) (p0c : List PV) : semF (callP F ErCopX 20) s42 (loopT []) 400 a42 [PV.list p0n p0c] (fun rv => decR (RSh.one CK.list) rv.pv) = trCopX F p0n p0c := by kernel_rfl
noncomputable abbrev FrCopX (args : List PV) := Fn env 42 (RSh.one CK.list) args
theorem FrCopX_of  (p0n : Nat) (p0c : List PV) {res : ((Nat) × (List PV))} (h : trCopX (Fn env) p0n p0c = some res) : FrCopX [PV.list p0n p0c] = some res :=
 fn_of ErCopX_ok rfl rfl lo_nil ((trCopX_eq _ _ _).trans h)
end Gv

/- What the functions do, round by round: B19. -/
namespace Gv
open Go
set_option maxRecDepth 100000
def ErPoiE : List Entry := [.out 23 (RSh.one CK.bool)]
theorem ErPoiE_ok : ∀ e ∈ ErPoiE, EntOK env e := (ent_out ent_nil)
def trPoiE (F : FnT) (p0_0 p0_1 : Int) : Option (Int) :=
 bindO (F 23 (RSh.one CK.bool) [(PV.int .i64 p0_0), (PV.int .i64 (-1000 : Int)), (PV.int .i64 (1000 : Int))]) fun (y0 : (Bool)) =>
 bif y0 then
  bindO (F 23 (RSh.one CK.bool) [(PV.int .i64 p0_1), (PV.int .i64 (0 : Int)), (PV.int .i64 (1000 : Int))]) fun (y1 : (Bool)) =>
  bif y1 then
   some (0 : Int)
  else some (2 : Int)
 else some (2 : Int)
theorem trPoiE_eq (F : FnT) (p0_0 p0_1 : Int) : semF (callP F ErPoiE 20) s83 (loopT []) 400 a83 [PV.agg [PV.int .i64 p0_0, PV.int .i64 p0_1]] (fun rv => decR (RSh.one (CK.int .i64)) rv.pv) = trPoiE F p0_0 p0_1 := by kernel_rfl
noncomputable abbrev FrPoiE (args : List PV) := Fn env 83 (RSh.one (CK.int .i64)) args
theorem FrPoiE_of  (p0_0 p0_1 : Int) {res : (Int)} (h : trPoiE (Fn env) p0_0 p0_1 = some res) : FrPoiE [PV.agg [PV.int .i64 p0_0, PV.int .i64 p0_1]] = some res :=
 fn_of ErPoiE_ok rfl rfl lo_nil ((trPoiE_eq _ _ _).trans h)
end Gv

/- What links are: they lead to different places, and cost at most two misses. -/
namespace Gv
open Go
set_option maxRecDepth 100000
theorem asgs_nodup {N : Nat} (h : N ≤ 5) : ∀ d ∈ asgs N, d.Nodup := by
 have : ∀ N, N ≤ 5 → (ext N N []).all (fun d => decide d.Nodup) = true := by decide +kernel
 intro d hd
 simpa using List.all_eq_true.1 (this N h) d hd
theorem bestIn_min {c : List Nat → Int} : ∀ {l : List (List Nat)} {b : List Nat} {k : Int}, bestIn c l = some (b, k) → k = c b ∧ ∀ x ∈ l, k ≤ c x := by
 have h : ∀ (l : List (List Nat)) (s : List Nat × Int) (b : List Nat) (k : Int), s.2 = c s.1 → l.foldl (bestStep c) (some s) = some (b, k) → k = c b ∧ k ≤ s.2 ∧ ∀ x ∈ l, k ≤ c x := by
  intro l
  induction l with
  | nil =>
   intro s b k hs h
   simp only [List.foldl_nil, Option.some.injEq] at h
   subst h
   exact ⟨hs, Int.le_refl _, fun x hx => by cases hx⟩
  | cons y l ih =>
   intro s b k hs h
   rw [List.foldl_cons] at h
   obtain ⟨s1, s2⟩ := s
   unfold bestStep at h
   simp only at h hs
   by_cases hlt : c y < s2
   ·rw [if_pos hlt] at h
    obtain ⟨k1, k2, k3⟩ := ih (y, c y) b k rfl h
    simp only at k2
    refine ⟨k1, by simp only; omega, fun x hx => ?_⟩
    rcases List.mem_cons.1 hx with rfl | hx
    ·exact k2
    ·exact k3 x hx
   ·rw [if_neg hlt] at h
    obtain ⟨k1, k2, k3⟩ := ih (s1, s2) b k hs h
    simp only at k2
    refine ⟨k1, k2, fun x hx => ?_⟩
    rcases List.mem_cons.1 hx with rfl | hx
    ·omega
    ·exact k3 x hx
 intro l b k hb
 cases l with
 | nil => cases hb
 | cons y l =>
  have hb : l.foldl (bestStep c) (some (y, c y)) = some (b, k) := hb
  obtain ⟨k1, k2, k3⟩ := h l (y, c y) b k rfl hb
  refine ⟨k1, fun x hx => ?_⟩
  rcases List.mem_cons.1 hx with rfl | hx
  ·exact k2
  ·exact k3 x hx
theorem lnk_inj {a b : List Z3} {miss : Int} (h5 : a.length + b.length ≤ 5) {i j : Nat} (hi : i < a.length) (hj : j < a.length) (h : (lnk a b miss).getD i 0 = (lnk a b miss).getD j 0) (h0 : 0 ≤ (lnk a b miss).getD i 0) : i = j := by
 obtain ⟨d, k, hb, hl⟩ := lnk_is a b miss h5
 have hd := bestIn_mem hb
 have hnd := asgs_nodup h5 d hd
 have hdl := (asgs_row h5 hd).1
 have ge : ∀ t, t < a.length → (lnk a b miss).getD t 0 = lkV b.length (d.getD t 0) := by
  intro t ht
  rw [hl]
  simp [List.getD, ht]
 rw [ge i hi] at h h0
 rw [ge j hj] at h
 have e : d.getD i 0 = d.getD j 0 := by
  unfold lkV at h h0
  split at h <;> split at h <;> simp_all <;> omega
 have hi2 : i < d.length := by omega
 have hj2 : j < d.length := by omega
 have e2 : d[i] = d[j] := by simpa [List.getD, List.getElem?_eq_getElem hi2, List.getElem?_eq_getElem hj2] using e
 exact (List.getElem_inj hnd).1 e2
end Gv

/- A link costs at most two misses. -/
namespace Gv
open Go
set_option maxRecDepth 100000
def sw (d : List Nat) (i r : Nat) : List Nat := (d.set i (d.getD r 0)).set r (d.getD i 0)
theorem swap_ex {n m : Nat} (h5 : n + m ≤ 5) {d : List Nat} (hd : d ∈ asgs (n + m)) {i : Nat} (hi : i < n) (hm : d.getD i 0 < m) : ∃ r, n ≤ r ∧ r < n + m ∧ m ≤ d.getD r 0 ∧ sw d i r ∈ asgs (n + m) := by
 have key : ((List.range 6).all fun n => (List.range (6 - n)).all fun m => (ext (n + m) (n + m) []).all fun d => (List.range n).all fun i => !(decide (d.getD i 0 < m)) || (List.range (n + m)).any fun r => decide (n ≤ r) && decide (m ≤ d.getD r 0) && (ext (n + m) (n + m) []).contains (sw d i r)) = true := by decide +kernel
 have k1 := List.all_eq_true.1 key n (by simp; omega)
 have k2 := List.all_eq_true.1 k1 m (by simp; omega)
 have k3 := List.all_eq_true.1 k2 d hd
 have k4 := List.all_eq_true.1 k3 i (by simpa using hi)
 have hdm : decide (d.getD i 0 < m) = true := decide_eq_true hm
 rw [hdm, Bool.not_true, Bool.false_or] at k4
 obtain ⟨r, hr, hk⟩ := List.any_eq_true.1 k4
 simp only [Bool.and_eq_true, decide_eq_true_eq, List.contains_iff_mem] at hk
 exact ⟨r, hk.1.1, by simpa using hr, hk.1.2, hk.2⟩
theorem set_getD (d : List Nat) (i v x : Nat) (hi : i < d.length) : (d.set i v).getD x 0 = if x = i then v else d.getD x 0 := by
 by_cases h : x = i
 ·subst h
  rw [if_pos rfl]
  simp [List.getD, hi]
 ·rw [if_neg h]
  simp [List.getD, List.getElem?_set_ne (fun e => h e.symm)]
theorem sum_upd (f g : Nat → Int) (i : Nat) (h : ∀ x, x ≠ i → f x = g x) : ∀ n, ((List.range n).map f).sum = ((List.range n).map g).sum + if i < n then f i - g i else 0
 | 0 => by simp
 | n + 1 => by
  have ih := sum_upd f g i h n
  rw [List.range_succ, List.map_append, List.map_append, List.sum_append, List.sum_append, ih]
  simp only [List.map_cons, List.map_nil, List.sum_cons, List.sum_nil]
  by_cases e : n = i
  ·subst e
   rw [if_neg (by omega), if_pos (by omega)]
   omega
  ·have := h n e
   by_cases hl : i < n
   ·rw [if_pos hl, if_pos (by omega)]
    omega
   ·rw [if_neg hl, if_neg (by omega)]
    omega
theorem costW_sum {Z : Nat → Nat → Int} {b : List Nat} (hl : b.length ≤ 5) (hZ : ∀ i j, -20000000 ≤ Z i j ∧ Z i j ≤ 20000000) : costW Z b = ((List.range b.length).map fun i => Z i (b.getD i 0)).sum := by
 have e : costW Z b = ((List.range b.length).map fun i => Z i (b.getD i 0)).foldl (fun a x => w64 (a + x)) 0 := by
  unfold costW
  rw [List.foldl_map]
 have hlen : ((List.range b.length).map fun i => Z i (b.getD i 0)).length = b.length := by simp
 rw [e, sumI_is (B := 20000000) _ 0 (fun x hx => by
  obtain ⟨i, _, rfl⟩ := List.mem_map.1 hx
  exact hZ i _) (by omega) (by omega) (by rw [hlen]; omega)]
 omega
theorem link_cheap {n m : Nat} {miss : Int} {V U : Nat → Int × Int × Int} (h5 : n + m ≤ 5) (hZ : ∀ i j, -20000000 ≤ linkZ n m miss V U i j ∧ linkZ n m miss V U i j ≤ 20000000) {d : List Nat} {k : Int} (hb : bestIn (costW (linkZ n m miss V U)) (asgs (n + m)) = some (d, k)) {i : Nat} (hi : i < n) (hm : d.getD i 0 < m) : apZ (V i) (U (d.getD i 0)) ≤ 2 * miss := by
 have hd := bestIn_mem hb
 have hdl := (asgs_row h5 hd).1
 obtain ⟨r, r1, r2, r3, r4⟩ := swap_ex h5 hd hi hm
 obtain ⟨m1, m2⟩ := bestIn_min hb
 have hle := m2 _ r4
 rw [m1, costW_sum (by omega) hZ, costW_sum (by rw [(asgs_row h5 r4).1]; exact h5) hZ, (asgs_row h5 r4).1, hdl] at hle
 have hir : i ≠ r := by omega
 have hsw : ∀ x, (sw d i r).getD x 0 = if x = r then d.getD i 0 else if x = i then d.getD r 0 else d.getD x 0 := fun x => by
  unfold sw
  rw [set_getD _ _ _ _ (by simp; omega), set_getD _ _ _ _ (by omega)]
 have s1 := sum_upd (fun x => linkZ n m miss V U x (d.getD x 0)) (fun x => if x = i then linkZ n m miss V U i (d.getD r 0) else linkZ n m miss V U x (d.getD x 0)) i (fun x hx => by simp [hx]) (n + m)
 have s2 := sum_upd (fun x => if x = i then linkZ n m miss V U i (d.getD r 0) else linkZ n m miss V U x (d.getD x 0)) (fun x => linkZ n m miss V U x ((sw d i r).getD x 0)) r (fun x hx => by
  simp only [hsw x, if_neg hx]
  by_cases e : x = i
  ·subst e
   simp
  ·simp [e]) (n + m)
 rw [if_pos (by omega)] at s1 s2
 simp only [if_true, hsw r, if_neg (fun e : r = i => hir e.symm)] at s1 s2
 have z1 : linkZ n m miss V U i (d.getD i 0) = apZ (V i) (U (d.getD i 0)) := by unfold linkZ; rw [if_pos ⟨hi, hm⟩]
 have z2 : linkZ n m miss V U r (d.getD r 0) = 0 := by unfold linkZ; rw [if_neg (by omega), if_neg (by omega)]
 have z3 : linkZ n m miss V U i (d.getD r 0) = miss := by unfold linkZ; rw [if_neg (by omega), if_pos (by omega)]
 have z4 : linkZ n m miss V U r (d.getD i 0) = miss := by unfold linkZ; rw [if_neg (by omega), if_pos (by omega)]
 omega
end Gv

/- The entries of a track: what comes before and behind. -/
namespace Gv
open Go
set_option maxRecDepth 100000
def lnkAt (Ls : List (List Int)) (s x : Int) : Int := (Ls.getD s.toNat []).getD x.toNat 0
theorem trackR_ge (Ls : List (List Int)) : ∀ (m s : Nat) (i : Int) (z : ZZ), z ∈ trackR Ls m s i → (s : Int) + 1 ≤ z.1 ∧ 0 ≤ z.2
 | 0, _, _, z, h => by simp [trackR] at h
 | m + 1, s, i, z, h => by
  unfold trackR at h
  split at h
  ·rename_i hx
   rcases List.mem_cons.1 h with rfl | h
   ·exact ⟨Int.le_refl _, hx⟩
   ·have := trackR_ge Ls m (s + 1) _ z h
    exact ⟨by omega, this.2⟩
  ·cases h
theorem trackR_pred (Ls : List (List Int)) : ∀ (m s : Nat) (i : Int) (z : ZZ), z ∈ trackR Ls m s i → ∃ y : Int, (z.1 - 1, y) ∈ ((s : Int), i) :: trackR Ls m s i ∧ lnkAt Ls (z.1 - 1) y = z.2
 | 0, _, _, z, h => by simp [trackR] at h
 | m + 1, s, i, z, h => by
  have t : trackR Ls (m + 1) s i = if 0 ≤ (Ls.getD s []).getD i.toNat 0 then ((s : Int) + 1, (Ls.getD s []).getD i.toNat 0) :: trackR Ls m (s + 1) ((Ls.getD s []).getD i.toNat 0) else [] := rfl
  by_cases hx : 0 ≤ (Ls.getD s []).getD i.toNat 0
  ·rw [if_pos hx] at t
   rw [t] at h ⊢
   rcases List.mem_cons.1 h with rfl | h
   ·refine ⟨i, ?_, ?_⟩
    ·simp
    ·unfold lnkAt
     simp
   ·obtain ⟨y, h1, h2⟩ := trackR_pred Ls m (s + 1) _ z h
    refine ⟨y, List.mem_cons_of_mem _ ?_, h2⟩
    exact_mod_cast h1
  ·rw [if_neg hx] at t
   rw [t] at h
   cases h
theorem trackR_succ (Ls : List (List Int)) : ∀ (m s : Nat) (i : Int) (z : ZZ), s + m = Ls.length → z ∈ ((s : Int), i) :: trackR Ls m s i → z.1 < Ls.length → 0 ≤ lnkAt Ls z.1 z.2 → (z.1 + 1, lnkAt Ls z.1 z.2) ∈ trackR Ls m s i
 | 0, s, i, z, h, hz, hl, _ => by
  simp [trackR] at hz
  subst hz
  simp at hl
  omega
 | m + 1, s, i, z, h, hz, hl, h0 => by
  have t : trackR Ls (m + 1) s i = if 0 ≤ (Ls.getD s []).getD i.toNat 0 then ((s : Int) + 1, (Ls.getD s []).getD i.toNat 0) :: trackR Ls m (s + 1) ((Ls.getD s []).getD i.toNat 0) else [] := rfl
  rcases List.mem_cons.1 hz with rfl | hz
  ·have e : lnkAt Ls (s : Int) i = (Ls.getD s []).getD i.toNat 0 := by unfold lnkAt; simp
   simp only [e] at h0 ⊢
   rw [t, if_pos h0]
   exact List.mem_cons_self
  ·by_cases hx : 0 ≤ (Ls.getD s []).getD i.toNat 0
   ·rw [t, if_pos hx] at hz
    rw [t, if_pos hx]
    exact List.mem_cons_of_mem _ (trackR_succ Ls m (s + 1) _ z (by omega) (by exact_mod_cast hz) hl h0)
   ·rw [t, if_neg hx] at hz
    cases hz
theorem trackV_one (Ls : List (List Int)) : ∀ (m s : Nat) (i : Int) (z y : ZZ), z ∈ ((s : Int), i) :: trackR Ls m s i → y ∈ ((s : Int), i) :: trackR Ls m s i → z.1 = y.1 → z = y
 | 0, s, i, z, y, hz, hy, _ => by
  simp [trackR] at hz hy
  rw [hz, hy]
 | m + 1, s, i, z, y, hz, hy, e => by
  have t : trackR Ls (m + 1) s i = if 0 ≤ (Ls.getD s []).getD i.toNat 0 then ((s : Int) + 1, (Ls.getD s []).getD i.toNat 0) :: trackR Ls m (s + 1) ((Ls.getD s []).getD i.toNat 0) else [] := rfl
  rcases List.mem_cons.1 hz with rfl | hz
  ·rcases List.mem_cons.1 hy with rfl | hy
   ·rfl
   ·have := (trackR_ge Ls (m + 1) s i y hy).1
    simp only at e
    omega
  ·rcases List.mem_cons.1 hy with rfl | hy
   ·have := (trackR_ge Ls (m + 1) s i z hz).1
    simp only at e
    omega
   ·by_cases hx : 0 ≤ (Ls.getD s []).getD i.toNat 0
    ·rw [t, if_pos hx] at hz hy
     exact trackV_one Ls m (s + 1) _ z y (by exact_mod_cast hz) (by exact_mod_cast hy) e
    ·rw [t, if_neg hx] at hz
     cases hz
theorem nodup_len {α : Type} [DecidableEq α] : ∀ (l l' : List α), l.Nodup → (∀ x ∈ l, x ∈ l') → l.length ≤ l'.length
 | [], _, _, _ => by simp
 | x :: l, l', hn, hs => by
  have hx := hs x (by simp)
  rw [List.nodup_cons] at hn
  have h := nodup_len l (l'.erase x) hn.2 fun y hy => (List.mem_erase_of_ne (fun e => by subst e; exact hn.1 hy)).2 (hs y (by simp [hy]))
  rw [List.length_erase_of_mem hx] at h
  have : 0 < l'.length := List.length_pos_of_mem hx
  rw [List.length_cons]
  omega
end Gv

/- Each vortex is in one track. -/
namespace Gv
open Go
set_option maxRecDepth 100000
structure LinkSet (Ls : List (List Int)) : Prop where
 ok : LinksOK Ls
 inj : ∀ (s i j : Nat), s < Ls.length → i < (Ls.getD s []).length → j < (Ls.getD s []).length → (Ls.getD s []).getD i 0 = (Ls.getD s []).getD j 0 → 0 ≤ (Ls.getD s []).getD i 0 → i = j
theorem trackR_lt {Ls : List (List Int)} (ok : LinksOK Ls) : ∀ (m s : Nat) (i : Int) (z : ZZ), s + m = Ls.length → (s < Ls.length → 0 ≤ i ∧ i < ((Ls.getD s []).length : Int)) → z ∈ trackR Ls m s i → z.1 ≤ Ls.length ∧ (z.1 < Ls.length → z.2 < ((Ls.getD z.1.toNat []).length : Int))
 | 0, _, _, z, _, _, h => by simp [trackR] at h
 | m + 1, s, i, z, hm, hi, h => by
  unfold trackR at h
  split at h
  ·rename_i hx
   have hl : s + 1 < Ls.length → (Ls.getD s []).getD i.toNat 0 < ((Ls.getD (s + 1) []).length : Int) := fun h2 => ok s h2 _ (links_mem (hi (by omega)))
   rcases List.mem_cons.1 h with rfl | h
   ·refine ⟨by simp only; omega, fun h2 => ?_⟩
    simp only at h2 ⊢
    have := hl (by omega)
    rwa [show ((s : Int) + 1).toNat = s + 1 by omega]
   ·exact trackR_lt ok m (s + 1) _ z (by omega) (fun h2 => ⟨hx, hl h2⟩) h
  ·cases h
theorem trackV_mem {Ls : List (List Int)} {t : Nat} {k : Int} {z : ZZ} : z ∈ trackV Ls t k ↔ z ∈ ((t : Int), k) :: trackR Ls (Ls.length - t) t k := Iff.rfl
theorem track_head {Ls : List (List Int)} {t : Nat} {k : Int} : ((t : Int), k) ∈ trackV Ls t k := List.mem_cons_self
theorem track_in {Ls : List (List Int)} (ok : LinksOK Ls) {t : Nat} {k : Int} (ht : t ≤ Ls.length) (hk : 0 ≤ k) (hk2 : t < Ls.length → k < ((Ls.getD t []).length : Int)) {z : ZZ} (hz : z ∈ trackV Ls t k) : (t : Int) ≤ z.1 ∧ z.1 ≤ Ls.length ∧ 0 ≤ z.2 ∧ (z.1 < Ls.length → z.2 < ((Ls.getD z.1.toNat []).length : Int)) := by
 rcases List.mem_cons.1 (trackV_mem.1 hz) with rfl | h
 ·refine ⟨Int.le_refl _, by simp only; omega, hk, fun h => ?_⟩
  simp only at h ⊢
  rw [Int.toNat_natCast]
  exact hk2 (by omega)
 ·have h1 := trackR_ge Ls _ _ _ z h
  have h2 := trackR_lt ok _ _ _ z (by omega) (fun h => ⟨hk, hk2 h⟩) h
  exact ⟨by omega, h2.1, h1.2, h2.2⟩
theorem track_pred {Ls : List (List Int)} {t : Nat} {k : Int} {z : ZZ} (hz : z ∈ trackV Ls t k) (hne : z.1 ≠ t) : ∃ y : Int, (z.1 - 1, y) ∈ trackV Ls t k ∧ lnkAt Ls (z.1 - 1) y = z.2 := by
 rcases List.mem_cons.1 (trackV_mem.1 hz) with rfl | h
 ·exact absurd rfl hne
 ·exact trackR_pred Ls _ _ _ z h
structure Beg (Ls : List (List Int)) (t : Nat) (k : Int) : Prop where
 le : t ≤ Ls.length
 nn : 0 ≤ k
 lt : t < Ls.length → k < ((Ls.getD t []).length : Int)
 st : startC Ls t k.toNat = true
theorem Beg.first {Ls : List (List Int)} {t : Nat} {k : Int} (b : Beg Ls t k) (ok : LinksOK Ls) {t' : Nat} {k' : Int} (b' : Beg Ls t' k') {y : Int} (hy : ((t : Int) - 1, y) ∈ trackV Ls t' k') (hl : lnkAt Ls ((t : Int) - 1) y = k) : False := by
 have hin := track_in ok b'.le b'.nn b'.lt hy
 simp only at hin
 obtain ⟨s, rfl⟩ : ∃ s, t = s + 1 := ⟨t - 1, by omega⟩
 have hb := b.le
 have e : (((s + 1 : Nat) : Int) - 1) = (s : Int) := by omega
 rw [e] at hin hl
 have hlt := hin.2.2.2 (by omega)
 rw [Int.toNat_natCast] at hlt
 have hst := b.st
 unfold startC at hst
 have hc : (Ls.getD (s + 1 - 1) []).contains ((k.toNat : Nat) : Int) = true := by
  rw [List.contains_iff_mem, show ((k.toNat : Nat) : Int) = k by have := b.nn; omega, ← hl]
  unfold lnkAt
  rw [Int.toNat_natCast]
  exact links_mem ⟨hin.2.2.1, hlt⟩
 rw [hc] at hst
 simp at hst
theorem track_disj {Ls : List (List Int)} (L : LinkSet Ls) {t t' : Nat} {k k' : Int} (b : Beg Ls t k) (b' : Beg Ls t' k') : ∀ (n : Nat) (z : ZZ), z.1 = (t : Int) + n → z ∈ trackV Ls t k → z ∈ trackV Ls t' k' → t = t' ∧ k = k'
 | 0, z, hn, h1, h2 => by
  have hz : z = ((t : Int), k) := trackV_one Ls _ t k z _ h1 track_head (by simp only; omega)
  subst hz
  by_cases e : (t : Int) = t'
  ·have h3 : ((t : Int), k) = ((t' : Int), k') := trackV_one Ls _ t' k' _ _ h2 track_head (by simp only; omega)
   simp only [Prod.mk.injEq] at h3
   exact ⟨by omega, h3.2⟩
  ·obtain ⟨y, y1, y2⟩ := track_pred h2 e
   exact (b.first L.ok b' y1 y2).elim
 | n + 1, z, hn, h1, h2 => by
  obtain ⟨y, y1, y2⟩ := track_pred h1 (by omega)
  by_cases e : z.1 = t'
  ·have hz : z = ((t' : Int), k') := trackV_one Ls _ t' k' z _ h2 track_head (by simp only; omega)
   subst hz
   exact (b'.first L.ok b y1 y2).elim
  ·obtain ⟨y', y1', y2'⟩ := track_pred h2 e
   have i1 := track_in L.ok b.le b.nn b.lt h1
   have j1 := track_in L.ok b.le b.nn b.lt y1
   have j2 := track_in L.ok b'.le b'.nn b'.lt y1'
   simp only at j1 j2
   have hy : y = y' := by
    have l1 := j1.2.2.2 (by omega)
    have l2 := j2.2.2.2 (by omega)
    unfold lnkAt at y2 y2'
    have := L.inj (z.1 - 1).toNat y.toNat y'.toNat (by omega) (by omega) (by omega) (by rw [y2, y2']) (by rw [y2]; exact i1.2.2.1)
    omega
   subst hy
   exact track_disj L b b' n (z.1 - 1, y) (by simp only; omega) y1 y1'
theorem track_cover {Ls : List (List Int)} : ∀ (s : Nat) (x : Int), s ≤ Ls.length → 0 ≤ x → (s < Ls.length → x < ((Ls.getD s []).length : Int)) → ∃ (t : Nat) (k : Int), Beg Ls t k ∧ ((s : Int), x) ∈ trackV Ls t k
 | s, x, hs, h0, hl => by
  by_cases hst : startC Ls s x.toNat = true
  ·exact ⟨s, x, ⟨hs, h0, hl, hst⟩, track_head⟩
  ·cases s with
   | zero => exact absurd (by simp [startC]) hst
   | succ s =>
    have hc : (Ls.getD s []).contains ((x.toNat : Nat) : Int) = true := by
     unfold startC at hst
     simp only [Nat.add_sub_cancel] at hst
     cases h : (Ls.getD s []).contains ((x.toNat : Nat) : Int) with
     | true => rfl
     | false => rw [h] at hst; simp at hst
    rw [List.contains_iff_mem, show ((x.toNat : Nat) : Int) = x by omega] at hc
    obtain ⟨y, hy, e⟩ := List.getElem_of_mem hc
    obtain ⟨t, k, b, hm⟩ := track_cover (Ls := Ls) s (y : Int) (by omega) (by omega) (fun _ => by omega)
    refine ⟨t, k, b, ?_⟩
    have el : lnkAt Ls (s : Int) (y : Int) = x := by
     unfold lnkAt
     rw [Int.toNat_natCast, Int.toNat_natCast, ← e]
     have h : ∀ (r : List Int) (h : y < r.length), r.getD y 0 = r[y] := fun r h => by simp [List.getD, List.getElem?_eq_getElem h]
     exact h _ hy
    have := trackR_succ Ls (Ls.length - t) t k ((s : Int), (y : Int)) (by have := b.le; omega) hm (by simp only; omega) (by simp only [el]; exact h0)
    simp only [el] at this
    exact List.mem_cons_of_mem _ (by exact_mod_cast this)
end Gv

/- All entries of all tracks. -/
namespace Gv
open Go
set_option maxRecDepth 100000
def Dj (a b : List ZZ) : Prop := ∀ x ∈ a, ∀ y ∈ b, x ≠ y
theorem rowT_mem {Ls : List (List Int)} {t : Nat} : ∀ {m k : Nat} {tr : List ZZ}, tr ∈ rowT Ls t m k ↔ ∃ k' : Nat, k ≤ k' ∧ k' < k + m ∧ startC Ls t k' = true ∧ tr = trackV Ls t (k' : Int)
 | 0, k, tr => by
  constructor
  ·intro h; simp [rowT] at h
  ·rintro ⟨k', h1, h2, _⟩; omega
 | m + 1, k, tr => by
  unfold rowT
  constructor
  ·intro h
   by_cases hs : startC Ls t k = true
   ·rw [if_pos hs] at h
    rcases List.mem_cons.1 h with rfl | h
    ·exact ⟨k, Nat.le_refl _, by omega, hs, rfl⟩
    ·obtain ⟨k', h1, h2, h3⟩ := rowT_mem.1 h
     exact ⟨k', by omega, by omega, h3⟩
   ·rw [if_neg hs] at h
    obtain ⟨k', h1, h2, h3⟩ := rowT_mem.1 h
    exact ⟨k', by omega, by omega, h3⟩
  ·rintro ⟨k', h1, h2, h3, h4⟩
   by_cases e : k' = k
   ·subst e
    rw [if_pos h3, h4]
    exact List.mem_cons_self
   ·have := rowT_mem.2 ⟨k', (by omega : k + 1 ≤ k'), (by omega : k' < k + 1 + m), h3, h4⟩
    split
    ·exact List.mem_cons_of_mem _ this
    ·exact this
theorem allT_mem {Ls : List (List Int)} {S : List (List Z3)} : ∀ {m t : Nat} {tr : List ZZ}, tr ∈ allT Ls S m t ↔ ∃ (t' k' : Nat), t ≤ t' ∧ t' < t + m ∧ k' < (S.getD t' []).length ∧ startC Ls t' k' = true ∧ tr = trackV Ls t' (k' : Int)
 | 0, t, tr => by
  constructor
  ·intro h; simp [allT] at h
  ·rintro ⟨t', k', h1, h2, _⟩; omega
 | m + 1, t, tr => by
  unfold allT
  rw [List.mem_append]
  constructor
  ·rintro (h | h)
   ·obtain ⟨k', h1, h2, h3, h4⟩ := rowT_mem.1 h
    exact ⟨t, k', Nat.le_refl _, by omega, by omega, h3, h4⟩
   ·obtain ⟨t', k', h1, h2, h3⟩ := allT_mem.1 h
    exact ⟨t', k', by omega, by omega, h3⟩
  ·rintro ⟨t', k', h1, h2, h3, h4, h5⟩
   by_cases e : t' = t
   ·subst e
    exact .inl (rowT_mem.2 ⟨k', Nat.zero_le _, by omega, h4, h5⟩)
   ·exact .inr (allT_mem.2 ⟨t', k', by omega, by omega, h3, h4, h5⟩)
section
variable {Ls : List (List Int)} (L : LinkSet Ls) {S : List (List Z3)} (hS : S.length ≤ Ls.length + 1) (hk : ∀ t, t < Ls.length → (S.getD t []).length = (Ls.getD t []).length)
include L hS hk
omit L in
theorem beg_of {t k : Nat} (ht : t < S.length) (h : k < (S.getD t []).length) (hs : startC Ls t k = true) : Beg Ls t (k : Int) :=
 ⟨by omega, by omega, fun h2 => by have := hk t h2; omega, by rw [Int.toNat_natCast]; exact hs⟩
theorem dj_of {t t' k k' : Nat} (ht : t < S.length) (h : k < (S.getD t []).length) (hs : startC Ls t k = true) (ht' : t' < S.length) (h' : k' < (S.getD t' []).length) (hs' : startC Ls t' k' = true) (hne : ¬ (t = t' ∧ k = k')) : Dj (trackV Ls t (k : Int)) (trackV Ls t' (k' : Int)) := by
 rintro x hx y hy rfl
 have b := beg_of hS hk ht h hs
 have b' := beg_of hS hk ht' h' hs'
 have hin := track_in L.ok b.le b.nn b.lt hx
 have := track_disj L b b' (x.1 - t).toNat x (by omega) hx hy
 exact hne ⟨this.1, by omega⟩
theorem rowT_pw {t : Nat} (ht : t < S.length) : ∀ (m k : Nat), k + m ≤ (S.getD t []).length → (rowT Ls t m k).Pairwise Dj
 | 0, _, _ => List.Pairwise.nil
 | m + 1, k, h => by
  unfold rowT
  have ih := rowT_pw ht m (k + 1) (by omega)
  split
  ·rename_i hs
   refine List.pairwise_cons.2 ⟨fun tr htr => ?_, ih⟩
   obtain ⟨k', h1, h2, h3, rfl⟩ := rowT_mem.1 htr
   exact dj_of L hS hk ht (by omega) hs ht (by omega) h3 (by omega)
  ·exact ih
theorem allT_pw : ∀ (m t : Nat), t + m ≤ S.length → (allT Ls S m t).Pairwise Dj
 | 0, _, _ => List.Pairwise.nil
 | m + 1, t, h => by
  unfold allT
  refine List.pairwise_append.2 ⟨rowT_pw L hS hk (by omega) _ 0 (by omega), allT_pw m (t + 1) (by omega), fun a ha b hb => ?_⟩
  obtain ⟨k, h1, h2, h3, rfl⟩ := rowT_mem.1 ha
  obtain ⟨t', k', g1, g2, g3, g4, rfl⟩ := allT_mem.1 hb
  exact dj_of L hS hk (by omega) (by omega) h3 (by omega) g3 g4 (by omega)
end
theorem trackR_nodup (Ls : List (List Int)) : ∀ (m s : Nat) (i : Int), (trackR Ls m s i).Nodup
 | 0, _, _ => List.nodup_nil
 | m + 1, s, i => by
  unfold trackR
  split
  ·refine List.nodup_cons.2 ⟨fun h => ?_, trackR_nodup Ls m (s + 1) _⟩
   have := (trackR_ge Ls _ _ _ _ h).1
   simp only at this
   omega
  ·exact List.nodup_nil
theorem trackV_nodup (Ls : List (List Int)) (t : Nat) (k : Int) : (trackV Ls t k).Nodup := by
 refine List.nodup_cons.2 ⟨fun h => ?_, trackR_nodup Ls _ _ _⟩
 have := (trackR_ge Ls _ _ _ _ h).1
 simp only at this
 omega
theorem all_nodup {Ls : List (List Int)} (L : LinkSet Ls) {S : List (List Z3)} (hS : S.length ≤ Ls.length + 1) (hk : ∀ t, t < Ls.length → (S.getD t []).length = (Ls.getD t []).length) : (allT Ls S S.length 0).flatten.Nodup := by
 unfold List.Nodup
 rw [List.pairwise_flatten]
 refine ⟨fun tr htr => ?_, ?_⟩
 ·obtain ⟨t, k, _, _, _, _, rfl⟩ := allT_mem.1 htr
  exact trackV_nodup Ls t k
 ·exact allT_pw L hS hk _ 0 (by omega)
end Gv

/- The links of all scans: a set of links. -/
namespace Gv
open Go
set_option maxRecDepth 100000
theorem links_row {S : List (List Z3)} {miss : Int} {s : Nat} (hs : s + 1 < S.length) : (linksL S miss).getD s [] = lnk (S.getD s []) (S.getD (s + 1) []) miss := by
 unfold linksL
 rw [linkN_get S miss _ 0 s (by omega), Nat.zero_add]
theorem links_len (S : List (List Z3)) (miss : Int) : (linksL S miss).length = S.length - 1 := by
 unfold linksL
 rw [linkN_len]
theorem links_rowlen {S : List (List Z3)} {miss : Int} (hp : PairOK S) {s : Nat} (hs : s < (linksL S miss).length) : (S.getD s []).length = ((linksL S miss).getD s []).length := by
 rw [links_len] at hs
 rw [links_row (by omega), lnk_len _ _ _ (hp s (by omega))]
theorem link_set (S : List (List Z3)) (miss : Int) (hp : PairOK S) : LinkSet (linksL S miss) := by
 refine ⟨links_ok S miss hp, ?_⟩
 intro s i j hs hi hj h h0
 rw [links_len] at hs
 have h5 := hp s (by omega)
 rw [links_row (by omega)] at hi hj h h0
 rw [lnk_len _ _ _ h5] at hi hj
 exact lnk_inj h5 hi hj h h0
theorem all_nodupS (S : List (List Z3)) (miss : Int) (hp : PairOK S) : (allT (linksL S miss) S S.length 0).flatten.Nodup :=
 all_nodup (link_set S miss hp) (by rw [links_len]; omega) (fun t ht => (links_rowlen hp ht).symm ▸ rfl)
end Gv

/- Each vortex is an entry of a track. -/
namespace Gv
open Go
set_option maxRecDepth 100000
def allP (S : List (List Z3)) : List ZZ := (List.range S.length).flatMap fun t => (List.range (S.getD t []).length).map fun k : Nat => ((t : Int), (k : Int))
theorem allP_mem {S : List (List Z3)} {z : ZZ} : z ∈ allP S ↔ ∃ t k : Nat, t < S.length ∧ k < (S.getD t []).length ∧ z = ((t : Int), (k : Int)) := by
 unfold allP
 rw [List.mem_flatMap]
 constructor
 ·rintro ⟨t, ht, h⟩
  obtain ⟨k, hk, rfl⟩ := List.mem_map.1 h
  exact ⟨t, k, List.mem_range.1 ht, List.mem_range.1 hk, rfl⟩
 ·rintro ⟨t, k, ht, hk, rfl⟩
  exact ⟨t, List.mem_range.2 ht, List.mem_map.2 ⟨k, List.mem_range.2 hk, rfl⟩⟩
theorem all_cover (S : List (List Z3)) (miss : Int) (hp : PairOK S) : ∀ z ∈ allP S, z ∈ (allT (linksL S miss) S S.length 0).flatten := by
 intro z hz
 obtain ⟨s, x, hs, hx, rfl⟩ := allP_mem.1 hz
 have hl := links_len S miss
 obtain ⟨t, k, b, hm⟩ := track_cover (Ls := linksL S miss) s (x : Int) (by omega) (by omega) (fun h => by have := links_rowlen hp h; omega)
 refine List.mem_flatten.2 ⟨trackV (linksL S miss) t k, allT_mem.2 ⟨t, k.toNat, by omega, ?_, ?_, b.st, ?_⟩, hm⟩
 ·have := b.le; omega
 ·have hn := b.nn
  by_cases ht : t < (linksL S miss).length
  ·have h1 := b.lt ht
   have h2 := links_rowlen hp ht
   omega
  ·have hle := b.le
   have hz : (linksL S miss).length - t = 0 := by omega
   have hm2 := trackV_mem.1 hm
   rw [hz] at hm2
   simp only [trackR, List.mem_cons, List.not_mem_nil, or_false, Prod.mk.injEq] at hm2
   have e : s = t := by omega
   subst e
   omega
 ·rw [Int.toNat_of_nonneg b.nn]
end Gv

/- The entries of the tracks are the vortices, each once. -/
namespace Gv
open Go
set_option maxRecDepth 100000
theorem trackR_lt2 {Ls : List (List Int)} {N : Int} (ok : LinksOK Ls) (hN : ∀ x ∈ Ls.getD (Ls.length - 1) [], x < N) : ∀ (m s : Nat) (i : Int) (z : ZZ), s + m = Ls.length → (s < Ls.length → 0 ≤ i ∧ i < ((Ls.getD s []).length : Int)) → z ∈ trackR Ls m s i → z.1 = Ls.length → z.2 < N
 | 0, _, _, z, _, _, h, _ => by simp [trackR] at h
 | m + 1, s, i, z, hm, hi, h, hz => by
  unfold trackR at h
  split at h
  ·rename_i hx
   have hmem := links_mem (hi (by omega))
   rcases List.mem_cons.1 h with rfl | h
   ·simp only at hz ⊢
    have e : s = Ls.length - 1 := by omega
    rw [e] at hmem ⊢
    exact hN _ hmem
   ·exact trackR_lt2 ok hN m (s + 1) _ z (by omega) (fun h2 => ⟨hx, ok s h2 _ hmem⟩) h hz
  ·simp at h
theorem all_sub (S : List (List Z3)) (miss : Int) (hp : PairOK S) : ∀ z ∈ (allT (linksL S miss) S S.length 0).flatten, z ∈ allP S := by
 intro z hz
 obtain ⟨tr, htr, hm⟩ := List.mem_flatten.1 hz
 obtain ⟨t, k, _, ht, hk, _, rfl⟩ := allT_mem.1 htr
 have hl := links_len S miss
 have ok := links_ok S miss hp
 have hk2 : t < (linksL S miss).length → (k : Int) < (((linksL S miss).getD t []).length : Int) := fun h => by have := links_rowlen hp h; omega
 obtain ⟨h1, h2, h3, h4⟩ := track_in ok (by omega) (by omega) hk2 hm
 refine allP_mem.2 ⟨z.1.toNat, z.2.toNat, by omega, ?_, ?_⟩
 ·by_cases hlt : z.1 < (linksL S miss).length
  ·have := h4 hlt
   have := links_rowlen hp (show z.1.toNat < (linksL S miss).length by omega)
   omega
  ·have e : z.1.toNat = S.length - 1 := by omega
   rw [e]
   rcases List.mem_cons.1 (trackV_mem.1 hm) with rfl | h
   ·simp only at e hlt ⊢
    rw [Int.toNat_natCast] at e ⊢
    rw [← e]
    exact hk
   ·by_cases h0 : (linksL S miss).length = 0
    ·rw [h0, Nat.zero_sub] at h
     simp [trackR] at h
    ·have := trackR_lt2 (N := ((S.getD (S.length - 1) []).length : Int)) ok (fun x hx => by
      have e2 : (linksL S miss).length - 1 + 1 = S.length - 1 := by omega
      rw [links_row (by omega)] at hx
      have := (lnk_mem (hp _ (by omega)) x hx).2
      rw [e2] at this
      exact this) _ t (k : Int) z (by omega) (fun h => ⟨by omega, hk2 h⟩) h (by omega)
     omega
 ·rw [Int.toNat_of_nonneg (by omega), Int.toNat_of_nonneg h3]
theorem allP_nodup (S : List (List Z3)) : (allP S).Nodup := by
 unfold allP
 rw [List.flatMap_def, List.Nodup, List.pairwise_flatten]
 refine ⟨?_, ?_⟩
 ·intro l hl
  obtain ⟨t, _, rfl⟩ := List.mem_map.1 hl
  rw [List.pairwise_map]
  refine List.Pairwise.imp (fun {a b} h e => h ?_) (List.nodup_range (n := (S.getD t []).length))
  simp only [Prod.mk.injEq] at e
  omega
 ·rw [List.pairwise_map]
  refine List.Pairwise.imp (fun {a b} h => ?_) (List.nodup_range (n := S.length))
  intro x hx y hy e
  obtain ⟨_, _, rfl⟩ := List.mem_map.1 hx
  obtain ⟨_, _, e2⟩ := List.mem_map.1 hy
  rw [← e2] at e
  simp only [Prod.mk.injEq] at e
  exact h (by omega)
theorem all_len (S : List (List Z3)) (miss : Int) (hp : PairOK S) : (allT (linksL S miss) S S.length 0).flatten.length = (allP S).length :=
 Nat.le_antisymm (nodup_len _ _ (all_nodupS S miss hp) (all_sub S miss hp)) (nodup_len _ _ (allP_nodup S) (all_cover S miss hp))
end Gv

/- Copies of scans; how far two vortices are apart. -/
namespace Gv
open Go
set_option maxRecDepth 100000
theorem copV_is (l : List Z3) (hl : l.length ≤ 1000) : FrCopX [.list l.length (encT l)] = some (l.length, encT l) := by
 refine FrCopX_of _ _ ?_
 unfold trCopX
 by_cases h : l.length = 0
 ·rw [bif_pos h]
  have e := List.length_eq_zero_iff.1 h
  subst e
  rfl
 ·rw [bif_neg h, bif_pos (encT_len l), bif_pos (⟨rfl, by unfold big; omega⟩), bif_pos rfl, Nat.zero_add, List.nil_append]
theorem encS_take {S : List (List Z3)} {k : Nat} (h : k < S.length) : encS (S.take (k + 1)) = encS (S.take k) ++ [PV.list (S.getD k []).length (encT (S.getD k []))] := by
 have e : S.getD k [] = S[k] := by simp [List.getD, List.getElem?_eq_getElem h]
 rw [e, List.take_succ_eq_append_getElem h]
 unfold encS
 rw [List.map_append]
 rfl
theorem copS_b {S : List (List Z3)} (hS : S.length ≤ 1000) (hl : ∀ t, (S.getD t []).length ≤ 1000) : ∀ (m k : Nat), k + m = S.length →
  RrCopS_0 (TrCopS_0b S.length (encS S) k (encS (S.take k)) (k : Int) k) = exO (XrCopS_0b (S.length, encS S, S.length))
 | 0, k, h => by
  refine RrCopS_0b_of _ _ _ _ _ _ ?_
  unfold BrCopS_0b
  rw [bif_neg (by omega), List.take_of_length_le (by omega), show k = S.length by omega]
  rfl
 | m + 1, k, h => by
  have ih := copS_b hS hl m (k + 1) (by omega)
  have hk : k < S.length := by omega
  have hc : Fn env 42 _ [.list (S.getD k []).length (encT (S.getD k []))] = _ := copV_is _ (hl k)
  refine RrCopS_0b_of _ _ _ _ _ _ ?_
  unfold BrCopS_0b
  rw [bif_pos (by omega), bif_pos (by omega)]
  simp only [Int.toNat_natCast, Nat.mul_one, listS_get hk, bindO_val]
  rw [hc]
  simp only [bindO_val]
  rw [bif_pos ⟨trivial, by unfold big; omega⟩, w64_in (by omega), ← encS_take hk]
  exact ih
theorem copS_is {S : List (List Z3)} (hS : S.length ≤ 1000) (hl : ∀ t, (S.getD t []).length ≤ 1000) : FrCopS [.list S.length (encS S)] = some (S.length, encS S) := by
 refine FrCopS_of _ _ ?_
 by_cases h0 : S.length = 0
 ·have e := List.length_eq_zero_iff.1 h0
  subst e
  have hr : LrCopS_0 (TrCopS_0a 0 []) = _ := LrCopS_0a_of (y := ()) (RrCopS_0a_of _ _ (by
   unfold BrCopS_0a
   rw [bif_neg (by omega)]
   rfl))
  unfold trCopS
  show bindO (LrCopS_0 (TrCopS_0a 0 [])) _ = _
  rw [hr]
  rfl
 ·have hk : 0 < S.length := by omega
  have hc : Fn env 42 _ [.list (S.getD 0 []).length (encT (S.getD 0 []))] = _ := copV_is _ (hl 0)
  have x0 : listC (encS S)[0]? = _ := listS_get hk
  have ih := copS_b hS hl (S.length - 1) 1 (by omega)
  rw [encS_take hk] at ih
  have hr := LrCopS_0b_of (RrCopS_0a_of S.length (encS S) (r := _) (by
   unfold BrCopS_0a
   rw [bif_pos (by omega), bif_pos (by omega)]
   simp only [x0, bindO_val]
   rw [hc]
   simp only [bindO_val]
   exact ih))
  unfold trCopS
  rw [hr]
  simp only [bindO_val, Sum.elim_inr]
  rw [bif_pos trivial]
theorem size_is (p : Int) : FrSize [.int .i64 p] = some (szZ p) := FrSize_of _ rfl
theorem off_is (v u : Z3) : FrOff [.agg (enc3 v), .agg (enc3 u)] = some (apZ v u) := by
 refine FrOff_of _ _ _ _ _ _ ?_
 unfold trOff
 have h : Fn env 118 _ [.int .i64 (w64 (v.2.2 - u.2.2))] = _ := size_is _
 rw [h]
 rfl
theorem sq_le {a b : Int} (h1 : -b ≤ a) (h2 : a ≤ b) : 0 ≤ a * a ∧ a * a ≤ b * b := by
 have h := Int.mul_nonneg (show 0 ≤ b - a by omega) (show 0 ≤ b + a by omega)
 rw [Int.sub_mul, Int.mul_add, Int.mul_add, Int.mul_comm a b] at h
 refine ⟨?_, by omega⟩
 rcases Int.le_total 0 a with h3 | h3
 ·exact Int.mul_nonneg h3 h3
 ·rw [← Int.neg_mul_neg]
  exact Int.mul_nonneg (by omega) (by omega)
theorem vor_in {v : Z3} (h : vorV v = 0) : (-1000 ≤ v.1 ∧ v.1 ≤ 1000) ∧ (0 ≤ v.2.1 ∧ v.2.1 ≤ 1000) ∧ (-10000 ≤ v.2.2 ∧ v.2.2 ≤ 10000) := by
 unfold vorV at h
 split at h
 ·rename_i hc
  exact ⟨hc.1.1, hc.1.2, hc.2⟩
 ·omega
theorem ap_in {v u : Z3} (hv : vorV v = 0) (hu : vorV u = 0) : 0 ≤ apZ v u ∧ apZ v u ≤ 5020000 := by
 obtain ⟨a1, a2, a3⟩ := vor_in hv
 obtain ⟨b1, b2, b3⟩ := vor_in hu
 obtain ⟨c1, c2⟩ := sq_le (a := v.1 - u.1) (b := 2000) (by omega) (by omega)
 obtain ⟨d1, d2⟩ := sq_le (a := v.2.1 - u.2.1) (b := 1000) (by omega) (by omega)
 have e : szZ (v.2.2 - u.2.2) = if 0 - (v.2.2 - u.2.2) > v.2.2 - u.2.2 then 0 - (v.2.2 - u.2.2) else v.2.2 - u.2.2 := by
  unfold szZ
  rw [w64_in (by omega)]
 have hs : 0 ≤ szZ (v.2.2 - u.2.2) ∧ szZ (v.2.2 - u.2.2) ≤ 20000 := by
  rw [e]
  split <;> omega
 unfold apZ
 rw [w64_in (n := v.1 - u.1) (by omega), w64_in (n := v.2.1 - u.2.1) (by omega), w64_in (n := v.2.2 - u.2.2) (by omega), w64_in (n := (v.1 - u.1) * (v.1 - u.1)) (by omega), w64_in (n := (v.2.1 - u.2.1) * (v.2.1 - u.2.1)) (by omega), w64_in (n := (v.1 - u.1) * (v.1 - u.1) + (v.2.1 - u.2.1) * (v.2.1 - u.2.1)) (by omega), w64_in (by omega)]
 omega
theorem linkZ_in {n m : Nat} {miss : Int} {V U : Nat → Z3} (hm : 0 ≤ miss ∧ miss ≤ 10000000) (hV : ∀ i, i < n → vorV (V i) = 0) (hU : ∀ j, j < m → vorV (U j) = 0) (i j : Nat) : -20000000 ≤ linkZ n m miss V U i j ∧ linkZ n m miss V U i j ≤ 20000000 := by
 unfold linkZ
 split
 ·rename_i h
  have := ap_in (hV i h.1) (hU j h.2)
  omega
 ·split <;> omega
end Gv

/- The law of tracks: how many vortices there are. -/
namespace Gv
open Go
set_option maxRecDepth 100000
def vorN (S : List (List Z3)) : Nat := (S.map List.length).sum
theorem vorN_drop {S : List (List Z3)} {k : Nat} (h : k < S.length) : vorN (S.drop k) = (S.getD k []).length + vorN (S.drop (k + 1)) := by
 have e : S.getD k [] = S[k] := by simp [List.getD, List.getElem?_eq_getElem h]
 rw [e, List.drop_eq_getElem_cons h]
 unfold vorN
 rw [List.map_cons, List.sum_cons]
theorem law6_0 {S : List (List Z3)} (hS : S.length ≤ 1000) (hl : ∀ t, (S.getD t []).length ≤ 1000) (miss : Int) (n : Nat) (c : List PV) : ∀ (m k a : Nat), k + m = S.length → a ≤ 1000 * k →
  Rlaw6_0 (Tlaw6_0a S.length (encS S) miss n c (a : Int) (k : Int)) = exO (Xlaw6_0a (S.length, encS S, miss, n, c, ((a + vorN (S.drop k) : Nat) : Int)))
 | 0, k, a, h, ha => by
  refine Rlaw6_0a_of _ _ _ _ _ _ _ ?_
  unfold Blaw6_0a
  rw [bif_neg (by omega), List.drop_of_length_le (by omega)]
  rfl
 | m + 1, k, a, h, ha => by
  have hk : k < S.length := by omega
  have hlk := hl k
  have ih := law6_0 hS hl miss n c m (k + 1) (a + (S.getD k []).length) (by omega) (by omega)
  rw [vorN_drop hk, ← Nat.add_assoc]
  refine Rlaw6_0a_of _ _ _ _ _ _ _ ?_
  unfold Blaw6_0a
  rw [bif_pos (by omega), bif_pos (by omega)]
  simp only [Int.toNat_natCast, Nat.mul_one, listS_get hk, bindO_val]
  rw [w64_in (n := (a : Int) + ((S.getD k []).length : Int)) (by omega), w64_in (by omega)]
  exact ih
theorem sum_range (S : List (List Z3)) : ∀ m, m ≤ S.length → ((List.range m).map fun t => (S.getD t []).length).sum = vorN (S.take m)
 | 0, _ => rfl
 | m + 1, h => by
  have e : S.getD m [] = S[m] := by simp [List.getD, List.getElem?_eq_getElem (show m < S.length by omega)]
  rw [List.range_succ, List.map_append, List.sum_append, sum_range S m (by omega), List.take_succ_eq_append_getElem (by omega)]
  unfold vorN
  rw [List.map_append, List.sum_append, ← e]
  rfl
theorem allP_len (S : List (List Z3)) : (allP S).length = vorN S := by
 have h := sum_range S S.length (Nat.le_refl _)
 rw [List.take_length] at h
 unfold allP
 rw [List.length_flatMap, ← h]
 congr 1
 refine List.map_congr_left fun t _ => ?_
 rw [List.length_map, List.length_range]
end Gv

/- The law of tracks: an entry that was not seen before. -/
namespace Gv
open Go
set_option maxRecDepth 100000
theorem law6_6 (n0 : Nat) (c1 : List PV) (i2 : Int) (n3 : Nat) (c4 : List PV) (i5 i6 i9 i10 : Int) (z : ZZ) (n14 : Nat) {l : List ZZ} (hl : l.length ≤ 1000000) (hz : z ∉ l) : ∀ (m k : Nat), k + m = l.length →
  Rlaw6_6 (Tlaw6_6b n0 c1 i2 n3 c4 i5 i6 l.length (encG l) i9 i10 (k : Int) z.1 z.2 n14) = exO (Xlaw6_6c (n0, c1, i2, n3, c4, i5, i6, l.length, encG l, i9, i10, z.1, z.2, n14))
 | 0, k, h => by
  refine Rlaw6_6b_of _ _ _ _ _ _ _ _ _ _ _ _ _ _ _ ?_
  unfold Blaw6_6b
  rw [bif_neg (by omega)]
  rfl
 | m + 1, k, h => by
  have ih := law6_6 n0 c1 i2 n3 c4 i5 i6 i9 i10 z n14 hl hz m (k + 1) (by omega)
  have hk : k < l.length := by omega
  have g0 := encG_0 l k
  have g1 := encG_1 l k
  rw [List.getElem?_eq_getElem hk, Option.map_some] at g0 g1
  have hne : ((l[k].1 == z.1) && ((l[k].2 == z.2) && true)) = false := by
   cases he : ((l[k].1 == z.1) && ((l[k].2 == z.2) && true)) with
   | false => rfl
   | true =>
    simp only [Bool.and_true, Bool.and_eq_true, beq_iff_eq] at he
    exact absurd (by rw [show z = l[k] from Prod.ext he.1.symm he.2.symm]; exact List.getElem_mem hk) hz
  refine Rlaw6_6b_of _ _ _ _ _ _ _ _ _ _ _ _ _ _ _ ?_
  unfold Blaw6_6b
  rw [bif_pos (by omega), bif_pos (by omega)]
  simp only [Int.toNat_natCast, g0, g1, intC_int, bindO_val]
  rw [hne, cond_false, w64_in (by omega)]
  exact ih
end Gv

/- The reference's errors of scans; which scans the law looks at; the links of two scans. -/
namespace Gv
open Go
set_option maxRecDepth 100000
theorem rPoiE_is (y z : Int) : FrPoiE [.agg [.int .i64 y, .int .i64 z]] = some (poiV y z) := by
 refine FrPoiE_of _ _ ?_
 unfold trPoiE poiV
 have h1 : Fn env 23 _ [.int .i64 y, .int .i64 (-1000), .int .i64 1000] = _ := bWi_is y (-1000) 1000
 have h2 : Fn env 23 _ [.int .i64 z, .int .i64 0, .int .i64 1000] = _ := bWi_is z 0 1000
 rw [h1, h2]
 simp only [bindO_val, bif_dec]
 by_cases a : -1000 ≤ y ∧ y ≤ 1000 <;> by_cases b : 0 ≤ z ∧ z ≤ 1000 <;> simp [a, b]
theorem rVorE_is (v : Z3) : FrVorE [encV v] = some (vorV v) := by
 refine FrVorE_of _ _ _ ?_
 unfold trVorE
 have h1 : Fn env 83 _ [.agg [.int .i64 v.1, .int .i64 v.2.1]] = _ := rPoiE_is v.1 v.2.1
 have h2 : Fn env 23 _ [.int .i64 v.2.2, .int .i64 (-10000), .int .i64 10000] = _ := bWi_is v.2.2 (-10000) 10000
 rw [h1, h2]
 simp only [bindO_val, bif_dec, bif_ne]
 unfold vorV poiV
 by_cases a : (-1000 ≤ v.1 ∧ v.1 ≤ 1000) ∧ (0 ≤ v.2.1 ∧ v.2.1 ≤ 1000) <;> by_cases b : -10000 ≤ v.2.2 ∧ v.2.2 ≤ 10000 <;> simp [a, b]
theorem rMisE_is (m : Int) : FrMisE [.int .i64 m] = some (rangeE m 0 10000000) := by
 refine FrMisE_of _ ?_
 unfold trMisE
 have h2 : Fn env 23 _ [.int .i64 m, .int .i64 0, .int .i64 10000000] = _ := bWi_is m 0 10000000
 rw [h2]
 simp only [bindO_val, bif_dec, rangeE_if]
 by_cases b : 0 ≤ m ∧ m ≤ 10000000 <;> simp [b]
theorem rScaE_loop (l : List Z3) (hl : l.length ≤ 1000) : ∀ (m k : Nat), k + m = l.length → RrScaE_0 (TrScaE_0a l.length (encT l) k) = if scaF (l.drop k) = 0 then exO (XrScaE_0b ()) else exO (XrScaE_0a (scaF (l.drop k)))
 | 0, k, h => by
  rw [List.drop_of_length_le (by omega)]
  refine RrScaE_0a_of _ _ _ ?_
  unfold BrScaE_0a
  rw [bif_neg (by omega)]
  rfl
 | m + 1, k, h => by
  have ih := rScaE_loop l hl m (k + 1) (by omega)
  have hk : k < l.length := by omega
  obtain ⟨v, hv, hd⟩ := drop_getZ hk
  have g0 := encT_0 l k
  have g1 := encT_1 l k
  have g2 := encT_2 l k
  rw [hv] at g0 g1 g2
  simp only [Option.map_some] at g0 g1 g2
  have h1 : Fn env 148 (RSh.one (CK.int .i64)) [.agg [.int .i64 v.1, .int .i64 v.2.1, .int .i64 v.2.2]] = _ := rVorE_is v
  have hs : BrScaE_0a (Fn env) RrScaE_0 exO LrScaE_0 l.length (encT l) k = if vorV v = 0 then RrScaE_0 (TrScaE_0a l.length (encT l) ((k + 1 : Nat) : Int)) else exO (XrScaE_0a (vorV v)) := by
   unfold BrScaE_0a
   rw [bif_pos (by omega), bif_pos (by omega)]
   simp only [Int.toNat_natCast, g0, g1, g2, intC_int, bindO_val]
   rw [h1]
   simp only [bindO_val, bif_ne]
   rw [w64_in (by omega)]
   rfl
  rw [hd]
  by_cases hz : vorV v = 0
  ·rw [if_pos hz, ih] at hs
   have e2 : scaF (v :: l.drop (k + 1)) = scaF (l.drop (k + 1)) := if_pos hz
   rw [e2]
   split at hs
   ·rename_i hn
    rw [if_pos hn]
    exact RrScaE_0a_of _ _ _ hs
   ·rename_i hn
    rw [if_neg hn]
    exact RrScaE_0a_of _ _ _ hs
  ·rw [if_neg hz] at hs
   have e2 : scaF (v :: l.drop (k + 1)) = vorV v := if_neg hz
   rw [e2, if_neg hz]
   exact RrScaE_0a_of _ _ _ hs
theorem rScaE_is (l : List Z3) : FrScaE [.list l.length (encT l)] = some (scaV l) := by
 refine FrScaE_of _ _ ?_
 unfold trScaE scaV
 by_cases h : 3 < l.length
 ·rw [bif_pos (by omega), if_pos h]
 ·rw [bif_neg (by omega), if_neg h]
  have h0 := rScaE_loop l (by omega) l.length 0 (by omega)
  have h0 : RrScaE_0 (TrScaE_0a l.length (encT l) 0) = _ := h0
  rw [List.drop_zero] at h0
  by_cases hz : scaF l = 0
  ·rw [if_pos hz] at h0
   rw [LrScaE_0b_of h0, hz]
   rfl
  ·rw [if_neg hz] at h0
   rw [LrScaE_0a_of h0]
   rfl
theorem rScsE_loop (S : List (List Z3)) (hS : S.length ≤ 1000) (miss : Int) : ∀ (m k : Nat), k + m = S.length → RrScsE_0 (TrScsE_0a S.length (encS S) miss k) = if scsF (S.drop k) = 0 then exO (XrScsE_0b miss) else exO (XrScsE_0a (scsF (S.drop k)))
 | 0, k, h => by
  rw [List.drop_of_length_le (by omega)]
  refine RrScsE_0a_of _ _ _ _ ?_
  unfold BrScsE_0a
  rw [bif_neg (by omega)]
  rfl
 | m + 1, k, h => by
  have ih := rScsE_loop S hS miss m (k + 1) (by omega)
  have hk : k < S.length := by omega
  have h1 : Fn env 110 (RSh.one (CK.int .i64)) [.list (S.getD k []).length (encT (S.getD k []))] = _ := rScaE_is (S.getD k [])
  have hs : BrScsE_0a (Fn env) RrScsE_0 exO LrScsE_0 S.length (encS S) miss k = if scaV (S.getD k []) = 0 then RrScsE_0 (TrScsE_0a S.length (encS S) miss ((k + 1 : Nat) : Int)) else exO (XrScsE_0a (scaV (S.getD k []))) := by
   unfold BrScsE_0a
   rw [bif_pos (by omega), bif_pos (by omega)]
   simp only [Int.toNat_natCast, Nat.mul_one, listS_get hk, bindO_val]
   rw [h1]
   simp only [bindO_val, bif_ne]
   rw [w64_in (by omega)]
   rfl
  rw [drop_getS hk]
  by_cases hz : scaV (S.getD k []) = 0
  ·rw [if_pos hz, ih] at hs
   have e2 : scsF (S.getD k [] :: S.drop (k + 1)) = scsF (S.drop (k + 1)) := if_pos hz
   rw [e2]
   split at hs
   ·rename_i hn
    rw [if_pos hn]
    exact RrScsE_0a_of _ _ _ _ hs
   ·rename_i hn
    rw [if_neg hn]
    exact RrScsE_0a_of _ _ _ _ hs
  ·rw [if_neg hz] at hs
   have e2 : scsF (S.getD k [] :: S.drop (k + 1)) = scaV (S.getD k []) := if_neg hz
   rw [e2, if_neg hz]
   exact RrScsE_0a_of _ _ _ _ hs
theorem rScsE_is (S : List (List Z3)) (miss : Int) : FrScsE [.list S.length (encS S), .int .i64 miss] = some (both (scsV S) (rangeE miss 0 10000000)) := by
 refine FrScsE_of _ _ _ ?_
 unfold trScsE scsV
 by_cases h : 6 < S.length
 ·rw [bif_pos (by omega), if_pos h, both_not (by omega)]
 ·rw [bif_neg (by omega), if_neg h]
  have h0 := rScsE_loop S (by omega) miss S.length 0 (by omega)
  have h0 : RrScsE_0 (TrScsE_0a S.length (encS S) miss 0) = _ := h0
  have h1 : Fn env 111 _ [.int .i64 miss] = _ := rMisE_is miss
  rw [List.drop_zero] at h0
  by_cases hz : scsF S = 0
  ·rw [if_pos hz] at h0
   rw [LrScsE_0b_of h0]
   simp only [bindO_val, Sum.elim_inr]
   rw [h1, both_zero hz]
   rfl
  ·rw [if_neg hz] at h0
   rw [LrScsE_0a_of h0, both_not hz]
   rfl
theorem brief_is (l : List Z3) : Fbrief [.list l.length (encT l)] = some (decide (l.length ≤ 5)) := by
 refine Fbrief_of _ _ ?_
 unfold tbrief
 by_cases h : l.length ≤ 5
 ·rw [bif_pos (by omega), decide_eq_true h]
 ·rw [bif_neg (by omega), decide_eq_false h]
theorem scann_loop (S : List (List Z3)) (h8 : S.length ≤ 8) : ∀ (m i : Nat), i + m = S.length → (0 < i → (S.getD (i - 1) []).length ≤ 5) →
  Rscann_0 (Tscann_0a S.length (encS S) i) = exO (Xscann_0a ()) ∨ (Rscann_0 (Tscann_0a S.length (encS S) i) = exO (Xscann_0b ()) ∧ (scsV S = 0 → ∀ t, i ≤ t → t < S.length → 0 < t → (S.getD (t - 1) []).length + (S.getD t []).length ≤ 5))
 | 0, i, h, _ => by
  refine .inr ⟨?_, fun _ t h1 h2 => by omega⟩
  refine Rscann_0a_of _ _ _ ?_
  unfold Bscann_0a
  rw [bif_neg (by omega)]
  rfl
 | m + 1, i, h, hb => by
  have hi : i < S.length := by omega
  have h1 : Fn env 109 (RSh.one CK.bool) [.list (S.getD i []).length (encT (S.getD i []))] = _ := brief_is (S.getD i [])
  have h2 : Fn env 38 (RSh.one (CK.int .i64)) [.list S.length (encS S), .int .i64 0] = _ := rScsE_is S 0
  have e0 : rangeE 0 0 10000000 = 0 := rangeE_in (by omega)
  have e1 : both (scsV S) (rangeE 0 0 10000000) = scsV S := by
   rw [e0]
   unfold both
   split <;> simp_all
  rw [e1] at h2
  by_cases h5 : (S.getD i []).length ≤ 5
  ·have ih := scann_loop S h8 m (i + 1) (by omega) (fun _ => by rw [Nat.add_sub_cancel]; exact h5)
   have hs : Rscann_0 (Tscann_0a S.length (encS S) i) = if 0 < i ∧ 5 < (S.getD (i - 1) []).length + (S.getD i []).length ∧ scsV S = 0 then exO (Xscann_0a ()) else Rscann_0 (Tscann_0a S.length (encS S) ((i + 1 : Nat) : Int)) := by
    have key : Bscann_0a (Fn env) Rscann_0 exO Lscann_0 S.length (encS S) i = if 0 < i ∧ 5 < (S.getD (i - 1) []).length + (S.getD i []).length ∧ scsV S = 0 then exO (Xscann_0a ()) else Rscann_0 (Tscann_0a S.length (encS S) ((i + 1 : Nat) : Int)) := by
     unfold Bscann_0a
     rw [bif_pos (by omega), bif_pos (by omega)]
     simp only [Int.toNat_natCast, Nat.mul_one, listS_get hi, bindO_val]
     rw [h1]
     simp only [bindO_val, h5, decide_true, cond_true]
     have ew : w64 ((i : Int) + 1) = ((i + 1 : Nat) : Int) := by rw [w64_in (by omega)]; omega
     by_cases hp : 0 < i
     ·have hb := hb hp
      have ew2 : w64 ((i : Int) - 1) = ((i - 1 : Nat) : Int) := by rw [w64_in (by omega)]; omega
      have hi2 : i - 1 < S.length := by omega
      rw [bif_pos (by omega), bif_pos (by omega)]
      simp only [ew2]
      rw [bif_pos (by omega)]
      simp only [Int.toNat_natCast, listS_get hi2, bindO_val]
      rw [w64_in (n := ((S.getD i []).length : Int) + ((S.getD (i - 1) []).length : Int)) (by omega)]
      by_cases hg : 5 < (S.getD (i - 1) []).length + (S.getD i []).length
      ·rw [bif_pos (by omega), h2]
       simp only [bindO_val, bif_eq, ew]
       by_cases hz : scsV S = 0
       ·rw [if_pos hz, if_pos ⟨hp, hg, hz⟩]
       ·rw [if_neg hz, if_neg (fun c => hz c.2.2)]
      ·rw [bif_neg (by omega), if_neg (fun c => hg c.2.1), ew]
     ·rw [bif_neg (by omega), if_neg (fun c => hp c.1), ew]
    split
    ·rename_i c
     rw [if_pos c] at key
     exact Rscann_0a_of _ _ _ key
    ·rename_i c
     rw [if_neg c] at key
     have : Rscann_0 (Tscann_0a S.length (encS S) ((i + 1 : Nat) : Int)) = exO (Xscann_0a ()) ∨ Rscann_0 (Tscann_0a S.length (encS S) ((i + 1 : Nat) : Int)) = exO (Xscann_0b ()) := ih.imp id And.left
     rcases this with a | a
     ·rw [a] at key ⊢
      exact Rscann_0a_of _ _ _ key
     ·rw [a] at key ⊢
      exact Rscann_0a_of _ _ _ key
   rw [hs]
   split
   ·exact .inl rfl
   ·rename_i c
    refine ih.imp id fun ⟨a, b⟩ => ⟨a, fun hz t t1 t2 t3 => ?_⟩
    by_cases e : t = i
    ·subst e
     exact Nat.le_of_not_lt fun hlt => c ⟨t3, hlt, hz⟩
    ·exact b hz t (by omega) t2 t3
  ·left
   refine Rscann_0a_of _ _ _ ?_
   unfold Bscann_0a
   rw [bif_pos (by omega), bif_pos (by omega)]
   simp only [Int.toNat_natCast, Nat.mul_one, listS_get hi, bindO_val]
   rw [h1]
   simp only [bindO_val, h5, decide_false, cond_false]
   rfl
theorem scann_is (S : List (List Z3)) : Fscann [.list S.length (encS S)] = some false ∨ (Fscann [.list S.length (encS S)] = some true ∧ (scsV S = 0 → PairOK S)) := by
 by_cases h : 8 < S.length
 ·left
  refine Fscann_of _ _ ?_
  unfold tscann
  rw [bif_pos (by omega)]
 ·have h0 := scann_loop S (by omega) S.length 0 (by omega) (fun h => absurd h (by omega))
  have e : Tscann_0a S.length (encS S) ((0 : Nat) : Int) = Tscann_0a S.length (encS S) 0 := rfl
  rw [e] at h0
  rcases h0 with h0 | ⟨h0, hp⟩
  ·left
   refine Fscann_of _ _ ?_
   unfold tscann
   rw [bif_neg (by omega), Lscann_0a_of h0]
   rfl
  ·right
   refine ⟨Fscann_of _ _ ?_, fun hz t ht => ?_⟩
   ·unfold tscann
    rw [bif_neg (by omega), Lscann_0b_of h0]
    rfl
   ·have := hp hz (t + 1) (by omega) ht (by omega)
    rwa [Nat.add_sub_cancel] at this
theorem scsF_sca : ∀ {S : List (List Z3)}, scsF S = 0 → ∀ l ∈ S, scaV l = 0
 | [], _, _, h => by cases h
 | a :: S, hz, l, h => by
  unfold scsF at hz
  split at hz
  ·rename_i ha
   rcases List.mem_cons.1 h with rfl | h
   ·exact ha
   ·exact scsF_sca hz l h
  ·rename_i ha
   exact absurd hz ha
theorem scaF_vor : ∀ {l : List Z3}, scaF l = 0 → ∀ v ∈ l, vorV v = 0
 | [], _, _, h => by cases h
 | a :: l, hz, v, h => by
  unfold scaF at hz
  split at hz
  ·rename_i ha
   rcases List.mem_cons.1 h with rfl | h
   ·exact ha
   ·exact scaF_vor hz v h
  ·rename_i ha
   exact absurd hz ha
theorem scs_len {S : List (List Z3)} (hz : scsV S = 0) : S.length ≤ 6 ∧ ∀ l ∈ S, scaV l = 0 := by
 unfold scsV at hz
 split at hz
 ·cases hz
 ·exact ⟨by omega, scsF_sca hz⟩
theorem sca_len {l : List Z3} (hz : scaV l = 0) : l.length ≤ 3 ∧ ∀ v ∈ l, vorV v = 0 := by
 unfold scaV at hz
 split at hz
 ·cases hz
 ·exact ⟨by omega, scaF_vor hz⟩
theorem getD_memA {α : Type} {l : List α} {i : Nat} {d : α} (h : i < l.length) : l.getD i d ∈ l := by
 have e : l.getD i d = l[i] := by simp [List.getD, List.getElem?_eq_getElem h]
 rw [e]
 exact List.getElem_mem h
theorem scs_at {S : List (List Z3)} (hz : scsV S = 0) (t : Nat) : (S.getD t []).length ≤ 3 ∧ scaV (S.getD t []) = 0 ∧ ∀ v ∈ S.getD t [], vorV v = 0 := by
 by_cases h : t < S.length
 ·have hm : S.getD t [] ∈ S := getD_memA h
  have hs := (scs_len hz).2 _ hm
  exact ⟨(sca_len hs).1, hs, (sca_len hs).2⟩
 ·have e : S.getD t [] = [] := by simp [List.getD, List.getElem?_eq_none (show S.length ≤ t by omega)]
  rw [e]
  exact ⟨by simp, rfl, fun v h => by cases h⟩
theorem linE_is (a b : List Z3) (miss : Int) : FlinE [.list a.length (encT a), .list b.length (encT b), .int .i64 miss] = some (first3 (scaV a) (scaV b) (rangeE miss 0 10000000)) := by
 refine FlinE_of _ _ _ _ _ ?_
 unfold tlinE
 have h1 : Fn env 113 _ [.list a.length (encT a)] = _ := scaE_is a
 have h2 : Fn env 113 _ [.list b.length (encT b)] = _ := scaE_is b
 have h3 : Fn env 91 _ [.int .i64 miss] = _ := cosE_is miss
 rw [h1, h2, h3]
 simp only [bindO_val, fE3_is]
theorem linO_is {a b : List Z3} {miss : Int} (ha : scaV a = 0) (hb : scaV b = 0) (hm : 0 ≤ miss ∧ miss ≤ 10000000) (h5 : a.length + b.length ≤ 5) : FlinO [.list a.length (encT a), .list b.length (encT b), .int .i64 miss] = some ((a.length, encI (lnk a b miss)), 0) := by
 refine FlinO_of _ _ _ _ _ ?_
 unfold tlinO
 have h1 : Fn env 117 _ [.list a.length (encT a), .list b.length (encT b), .int .i64 miss] = _ := linE_is a b miss
 rw [h1, f114 a b miss h5, ha, hb, rangeE_in hm]
 rfl
end Gv

/- What the tracks are, in plain words; how the law goes through their entries. -/
namespace Gv
open Go
set_option maxRecDepth 100000
structure TrOK (S : List (List Z3)) (miss : Int) (T : List (List ZZ)) : Prop where
 nd : T.flatten.Nodup
 pl : ∀ z ∈ T.flatten, ∃ t k : Nat, t < S.length ∧ k < (S.getD t []).length ∧ z = ((t : Int), (k : Int))
 ne : ∀ tr ∈ T, 0 < tr.length ∧ tr.length ≤ S.length
 st : ∀ tr ∈ T, ∀ q, q + 1 < tr.length → (tr.getD (q + 1) (0, 0)).1 = (tr.getD q (0, 0)).1 + 1 ∧ lnkAt (linksL S miss) (tr.getD q (0, 0)).1 (tr.getD q (0, 0)).2 = (tr.getD (q + 1) (0, 0)).2
theorem chain (Ls : List (List Int)) : ∀ (m s : Nat) (i : Int) (q : Nat), q < (trackR Ls m s i).length → ((trackR Ls m s i).getD q (0, 0)).1 = ((((s : Int), i) :: trackR Ls m s i).getD q (0, 0)).1 + 1 ∧ lnkAt Ls ((((s : Int), i) :: trackR Ls m s i).getD q (0, 0)).1 ((((s : Int), i) :: trackR Ls m s i).getD q (0, 0)).2 = ((trackR Ls m s i).getD q (0, 0)).2
 | 0, _, _, q, h => by simp [trackR] at h
 | m + 1, s, i, q, h => by
  have t : trackR Ls (m + 1) s i = if 0 ≤ (Ls.getD s []).getD i.toNat 0 then ((s : Int) + 1, (Ls.getD s []).getD i.toNat 0) :: trackR Ls m (s + 1) ((Ls.getD s []).getD i.toNat 0) else [] := rfl
  by_cases hx : 0 ≤ (Ls.getD s []).getD i.toNat 0
  ·rw [if_pos hx] at t
   rw [t] at h ⊢
   cases q with
   | zero =>
    simp only [List.getD_cons_zero]
    refine ⟨trivial, ?_⟩
    unfold lnkAt
    rw [Int.toNat_natCast]
   | succ q =>
    have ih := chain Ls m (s + 1) ((Ls.getD s []).getD i.toNat 0) q (by simpa using h)
    have e : ((s + 1 : Nat) : Int) = (s : Int) + 1 := by omega
    rw [e] at ih
    simp only [List.getD_cons_succ]
    exact ih
  ·rw [if_neg hx] at t
   rw [t] at h
   cases h
theorem tracks_ok (S : List (List Z3)) (miss : Int) (hp : PairOK S) : TrOK S miss (tracksV S miss) where
 nd := all_nodupS S miss hp
 pl := fun z hz => allP_mem.1 (all_sub S miss hp z hz)
 ne := fun tr htr => by
  obtain ⟨t', k', h1, h2, h3, h4, rfl⟩ := allT_mem.1 htr
  have := trackR_len (linksL S miss) ((linksL S miss).length - t') t' (k' : Int)
  have hl := links_len S miss
  have e : (trackV (linksL S miss) t' (k' : Int)).length = (trackR (linksL S miss) ((linksL S miss).length - t') t' (k' : Int)).length + 1 := rfl
  omega
 st := fun tr htr q hq => by
  obtain ⟨t', k', h1, h2, h3, h4, rfl⟩ := allT_mem.1 htr
  have e : (trackV (linksL S miss) t' (k' : Int)).length = (trackR (linksL S miss) ((linksL S miss).length - t') t' (k' : Int)).length + 1 := rfl
  exact chain (linksL S miss) _ t' (k' : Int) q (by omega)
theorem lnk_far {a b : List Z3} {miss : Int} (h5 : a.length + b.length ≤ 5) (hm : 0 ≤ miss ∧ miss ≤ 10000000) (ha : ∀ v ∈ a, vorV v = 0) (hb : ∀ v ∈ b, vorV v = 0) {i k : Nat} (hi : i < a.length) (h : (lnk a b miss).getD i 0 = (k : Int)) : apZ (vAt a i) (vAt b k) ≤ 2 * miss := by
 obtain ⟨d, c, hbest, hl⟩ := lnk_is a b miss h5
 rw [hl] at h
 have e : ((List.range a.length).map fun j => lkV b.length (d.getD j 0)).getD i 0 = lkV b.length (d.getD i 0) := by simp [List.getD, hi]
 rw [e] at h
 unfold lkV at h
 split at h
 ·omega
 ·rename_i hlt
  have hk : d.getD i 0 = k := by omega
  have := link_cheap h5 (linkZ_in hm (fun j hj => ha _ (getD_memA hj)) (fun j hj => hb _ (getD_memA hj))) hbest hi (by omega)
  rwa [hk] at this
def seen (T : List (List ZZ)) (p q : Nat) : List ZZ := (T.take p).flatten ++ (T.getD p []).take q
theorem getD_at {α : Type} {l : List α} {i : Nat} {d : α} (h : i < l.length) : l.getD i d = l[i] := by simp [List.getD, List.getElem?_eq_getElem h]
theorem seen_next {T : List (List ZZ)} {p : Nat} (hp : p < T.length) : seen T p (T.getD p []).length = seen T (p + 1) 0 := by
 unfold seen
 rw [List.take_length, List.take_zero, List.append_nil, List.take_succ_eq_append_getElem hp, List.flatten_append, getD_at hp]
 simp
theorem seen_succ {T : List (List ZZ)} {p q : Nat} (hq : q < (T.getD p []).length) : seen T p (q + 1) = seen T p q ++ [(T.getD p []).getD q (0, 0)] := by
 unfold seen
 rw [List.take_succ_eq_append_getElem hq, List.append_assoc, getD_at hq]
theorem seen_end (T : List (List ZZ)) : seen T T.length 0 = T.flatten := by
 unfold seen
 rw [List.take_length, List.take_zero, List.append_nil]
theorem seen_split {T : List (List ZZ)} {p q : Nat} (hp : p < T.length) (hq : q < (T.getD p []).length) : ∃ r, T.flatten = seen T p q ++ (T.getD p []).getD q (0, 0) :: r := by
 refine ⟨(T.getD p []).drop (q + 1) ++ (T.drop (p + 1)).flatten, ?_⟩
 have e1 : T.flatten = (T.take p).flatten ++ ((T.getD p []) ++ (T.drop (p + 1)).flatten) := by
  conv => lhs; rw [← List.take_append_drop p T, List.drop_eq_getElem_cons hp, List.flatten_append, List.flatten_cons]
  rw [getD_at hp]
 have e2 : T.getD p [] = (T.getD p []).take q ++ (T.getD p []).getD q (0, 0) :: (T.getD p []).drop (q + 1) := by
  conv => lhs; rw [← List.take_append_drop q (T.getD p []), List.drop_eq_getElem_cons hq]
  rw [getD_at hq]
 have e3 : T.getD p [] ++ (T.drop (p + 1)).flatten = (T.getD p []).take q ++ (T.getD p []).getD q (0, 0) :: ((T.getD p []).drop (q + 1) ++ (T.drop (p + 1)).flatten) := by
  conv => lhs; rw [e2]
  rw [List.append_assoc, List.cons_append]
 rw [e1, e3]
 unfold seen
 rw [List.append_assoc]
theorem seen_mem {T : List (List ZZ)} {p q : Nat} (hp : p < T.length) (hq : q < (T.getD p []).length) : (T.getD p []).getD q (0, 0) ∈ T.flatten := by
 obtain ⟨r, h⟩ := seen_split hp hq
 rw [h]
 simp
theorem seen_new {T : List (List ZZ)} (nd : T.flatten.Nodup) {p q : Nat} (hp : p < T.length) (hq : q < (T.getD p []).length) : (T.getD p []).getD q (0, 0) ∉ seen T p q := by
 obtain ⟨r, h⟩ := seen_split hp hq
 rw [h, List.nodup_append] at nd
 intro hm
 exact nd.2.2 _ hm _ List.mem_cons_self rfl
theorem seen_len {T : List (List ZZ)} {p q : Nat} (hp : p < T.length) (hq : q < (T.getD p []).length) : (seen T p q).length < T.flatten.length := by
 obtain ⟨r, h⟩ := seen_split hp hq
 rw [h, List.length_append, List.length_cons]
 omega
theorem listTT_get {T : List (List ZZ)} {p : Nat} (h : p < T.length) : listC (encTT T)[p]? = some ((T.getD p []).length, encG (T.getD p [])) := by
 unfold encTT
 rw [List.getElem?_map, List.getElem?_eq_getElem h, getD_at h]
 rfl
theorem encG_at {l : List ZZ} {q : Nat} {z : ZZ} (h : q < l.length) (he : l.getD q (0, 0) = z) : intC .i64 (encG l)[q * 2]? = some z.1 ∧ intC .i64 (encG l)[q * 2 + 1]? = some z.2 := by
 rw [encG_0, encG_1, List.getElem?_eq_getElem h, ← getD_at (d := (0, 0)) h, he]
 exact ⟨rfl, rfl⟩
theorem encT_at {l : List Z3} {k : Nat} (h : k < l.length) : intC .i64 (encT l)[k * 3]? = some (vAt l k).1 ∧ intC .i64 (encT l)[k * 3 + 1]? = some (vAt l k).2.1 ∧ intC .i64 (encT l)[k * 3 + 1 + 1]? = some (vAt l k).2.2 := by
 rw [encT_0, encT_1, encT_2, List.getElem?_eq_getElem h]
 unfold vAt
 rw [getD_at h]
 exact ⟨rfl, rfl, rfl⟩
end Gv

/- The law of tracks: one entry. -/
namespace Gv
open Go
set_option maxRecDepth 100000
section
variable {S : List (List Z3)} {miss : Int} {T : List (List ZZ)} (K : TrOK S miss T) (hz : scsV S = 0) (hm : 0 ≤ miss ∧ miss ≤ 10000000) (hp : PairOK S)
include K hz
theorem tot_len : T.flatten.length ≤ 18 := by
 have h1 : T.flatten.length ≤ (allP S).length := nodup_len _ _ K.nd fun z h => by
  obtain ⟨t, k, h1, h2, h3⟩ := K.pl z h
  exact allP_mem.2 ⟨t, k, h1, h2, h3⟩
 have h2 : ∀ (R : List (List Z3)), (∀ l ∈ R, scaV l = 0) → vorN R ≤ 3 * R.length := by
  intro R
  induction R with
  | nil => intro _; exact Nat.le_refl _
  | cons a R ih =>
   intro h
   have := ih fun l hl => h l (List.mem_cons_of_mem _ hl)
   have ha := (sca_len (h a List.mem_cons_self)).1
   unfold vorN at this ⊢
   rw [List.map_cons, List.sum_cons, List.length_cons]
   omega
 have h3 := h2 S (scs_len hz).2
 rw [allP_len] at h1
 have := (scs_len hz).1
 omega
theorem trk_len {p : Nat} (hpT : p < T.length) : 0 < (T.getD p []).length ∧ (T.getD p []).length ≤ 6 := by
 have h1 := K.ne _ (getD_memA (d := []) hpT)
 have := (scs_len hz).1
 omega
theorem nT_len : T.length ≤ 18 := by
 have h1 : ∀ (R : List (List ZZ)), (∀ l ∈ R, 0 < l.length) → R.length ≤ R.flatten.length := by
  intro R
  induction R with
  | nil => intro _; exact Nat.le_refl _
  | cons a R ih =>
   intro h
   have := ih fun l hl => h l (List.mem_cons_of_mem _ hl)
   have ha := h a List.mem_cons_self
   rw [List.length_cons, List.flatten_cons, List.length_append]
   omega
 have h2 := tot_len K hz
 have h3 := h1 T fun l hl => (K.ne l hl).1
 omega
omit K in
theorem in43a {t k : Nat} (al pI : Int) (ht : t < S.length) (hk : k < (S.getD t []).length) : Llaw6_z43 (Tlaw6_z43a S.length (encS S) miss T.length (encTT T) al pI (t : Int) (k : Int)) = some (Sum.inl (S.length, encS S, miss, T.length, encTT T, al, pI, (t : Int), (k : Int))) := by
 have hS := (scs_len hz).1
 have hl := (scs_at hz t).1
 have e1 : w64 ((S.length : Int) - 1) = (S.length : Int) - 1 := w64_in (by omega)
 have e2 : w64 (((S.getD t []).length : Int) - 1) = ((S.getD t []).length : Int) - 1 := w64_in (by omega)
 have w1 : Fn env 23 (RSh.one CK.bool) [.int .i64 (t : Int), .int .i64 0, .int .i64 ((S.length : Int) - 1)] = some true := (bWi_is (t : Int) 0 ((S.length : Int) - 1)).trans (by rw [decide_eq_true]; omega)
 have w2 : Fn env 23 (RSh.one CK.bool) [.int .i64 (k : Int), .int .i64 0, .int .i64 (((S.getD t []).length : Int) - 1)] = some true := (bWi_is (k : Int) 0 (((S.getD t []).length : Int) - 1)).trans (by rw [decide_eq_true]; omega)
 refine Llaw6_z43a_of (Rlaw6_z43a_of _ _ _ _ _ _ _ _ _ ?_)
 unfold Blaw6_z43a
 rw [e1, w1]
 simp only [bindO_val, cond_true]
 rw [bif_pos (by omega)]
 simp only [Int.toNat_natCast, Nat.mul_one, listS_get ht, bindO_val]
 rw [e2, w2]
 rfl
theorem in43b {p q t k : Nat} (i5 al : Int) (n7 : Nat) (c8 : List PV) (n13 : Nat) (hpT : p < T.length) (hq : q < (T.getD p []).length) (ht : t < S.length) (hk : k < (S.getD t []).length) (he : (T.getD p []).getD q (0, 0) = ((t : Int), (k : Int))) :
  Llaw6_z43 (Tlaw6_z43b S.length (encS S) miss T.length (encTT T) i5 al n7 c8 (p : Int) (q : Int) (t : Int) (k : Int) n13) = some (Sum.inr (Sum.inr (S.length, encS S, miss, T.length, encTT T, i5, al, n7, c8, (p : Int), (q : Int), (t : Int), (k : Int), n13))) := by
 have hS := (scs_len hz).1
 have hl := (scs_at hz t).1
 have hT := nT_len K hz
 have hq6 := (trk_len K hz hpT).2
 have e1 : w64 ((S.length : Int) - 1) = (S.length : Int) - 1 := w64_in (by omega)
 have e2 : w64 (((S.getD t []).length : Int) - 1) = ((S.getD t []).length : Int) - 1 := w64_in (by omega)
 have w1 : Fn env 23 (RSh.one CK.bool) [.int .i64 (t : Int), .int .i64 0, .int .i64 ((S.length : Int) - 1)] = some true := (bWi_is (t : Int) 0 ((S.length : Int) - 1)).trans (by rw [decide_eq_true]; omega)
 have w2 : Fn env 23 (RSh.one CK.bool) [.int .i64 (k : Int), .int .i64 0, .int .i64 (((S.getD t []).length : Int) - 1)] = some true := (bWi_is (k : Int) 0 (((S.getD t []).length : Int) - 1)).trans (by rw [decide_eq_true]; omega)
 refine Llaw6_z43c_of (Rlaw6_z43b_of _ _ _ _ _ _ _ _ _ _ _ _ _ _ ?_)
 unfold Blaw6_z43b
 rw [e1, w1]
 simp only [bindO_val, cond_true]
 rw [bif_pos (by omega)]
 simp only [Int.toNat_natCast, Nat.mul_one, listS_get ht, bindO_val]
 rw [e2, w2]
 simp only [bindO_val, cond_true]
 by_cases hq0 : q = 0
 ·rw [bif_neg (by omega)]
  rfl
 ·have ew : w64 ((q : Int) - 1) = ((q - 1 : Nat) : Int) := by rw [w64_in (by omega)]; omega
  have hst := (K.st _ (getD_memA (d := []) hpT) (q - 1) (by omega)).1
  rw [show q - 1 + 1 = q by omega, he] at hst
  have g := (encG_at (l := T.getD p []) (q := q - 1) (z := _) (by omega) rfl).1
  rw [bif_pos (by omega), bif_pos (by omega)]
  simp only [listTT_get hpT, bindO_val, ew]
  rw [bif_pos (by omega)]
  simp only [Int.toNat_natCast, Nat.add_zero, g, bindO_val, bif_ne]
  rw [if_pos (by
   rw [w64_in (by omega)]
   exact hst)]
  rfl
theorem entry_a {t k : Nat} (al : Int) (hpT : 0 < T.length) (ht : t < S.length) (hk : k < (S.getD t []).length) (he : (T.getD 0 []).getD 0 (0, 0) = ((t : Int), (k : Int))) :
  Llaw6_z48 (Tlaw6_z48a S.length (encS S) miss T.length (encTT T) al 0) = some (Sum.inr (S.length, encS S, miss, T.length, encTT T, 1, al, 1, encG [((t : Int), (k : Int))], 0, 0, 1)) := by
 have hq := (trk_len K hz hpT).1
 have g := encG_at hq he
 have L43 := in43a (miss := miss) (T := T) hz al 0 ht hk
 have L6 : Llaw6_6 (Tlaw6_6a S.length (encS S) miss T.length (encTT T) al 0 (t : Int) (k : Int)) = some (Sum.inl (S.length, encS S, miss, T.length, encTT T, al, 0, (t : Int), (k : Int))) := Llaw6_6a_of (Rlaw6_6a_of _ _ _ _ _ _ _ _ _ rfl)
 have hg : listC ((encTT T)[Int.toNat (0 : Int) * 1]?) = some ((T.getD 0 []).length, encG (T.getD 0 [])) := listTT_get hpT
 refine Llaw6_z48b_of (Rlaw6_z48a_of _ _ _ _ _ _ _ ?_)
 unfold Blaw6_z48a
 rw [bif_pos (by omega), hg, bindO_val]
 dsimp only
 rw [bif_pos (by omega), show intC .i64 (encG (T.getD 0 []))[0]? = _ from g.1, bindO_val, show intC .i64 (encG (T.getD 0 []))[1]? = _ from g.2, bindO_val]
 dsimp only
 rw [L43, bindO_val, Sum.elim_inl]
 dsimp only
 rw [L6, bindO_val, Sum.elim_inl]
 rfl
include hm hp
theorem entry_b {p q t k : Nat} (c : Nat) (hc : c ≤ 1000) (al : Int) (hpT : p < T.length) (hq : q < (T.getD p []).length) (ht : t < S.length) (hk : k < (S.getD t []).length) (he : (T.getD p []).getD q (0, 0) = ((t : Int), (k : Int))) :
  Llaw6_z48 (Tlaw6_z48b S.length (encS S) miss T.length (encTT T) (c : Int) al (seen T p q).length (encG (seen T p q)) (p : Int) (q : Int) (seen T p q).length) = some (Sum.inr (S.length, encS S, miss, T.length, encTT T, ((c + 1 : Nat) : Int), al, (seen T p (q + 1)).length, encG (seen T p (q + 1)), (p : Int), (q : Int), (seen T p (q + 1)).length)) := by
 have hS := (scs_len hz).1
 have hT := nT_len K hz
 have hq6 := (trk_len K hz hpT).2
 have hsl := seen_len hpT hq
 have htot := tot_len K hz
 have hnew := seen_new K.nd hpT hq
 rw [he] at hnew
 have g := encG_at hq he
 have hg : listC ((encTT T)[Int.toNat (p : Int) * 1]?) = some ((T.getD p []).length, encG (T.getD p [])) := by
  rw [Int.toNat_natCast, Nat.mul_one]
  exact listTT_get hpT
 have L43 := in43b K hz (c : Int) al (seen T p q).length (encG (seen T p q)) (seen T p q).length hpT hq ht hk he
 have L6 : Llaw6_6 (Tlaw6_6b S.length (encS S) miss T.length (encTT T) (c : Int) al (seen T p q).length (encG (seen T p q)) (p : Int) (q : Int) 0 (t : Int) (k : Int) (seen T p q).length) = _ := Llaw6_6c_of (law6_6 S.length (encS S) miss T.length (encTT T) (c : Int) al (p : Int) (q : Int) ((t : Int), (k : Int)) (seen T p q).length (by omega) hnew (seen T p q).length 0 (by omega))
 have ec : w64 ((c : Int) + 1) = ((c + 1 : Nat) : Int) := by rw [w64_in (by omega)]; omega
 have es : encG (seen T p (q + 1)) = encG (seen T p q) ++ [.int .i64 (t : Int), .int .i64 (k : Int)] := by rw [seen_succ hq, he, encG_app]; rfl
 have en : (seen T p (q + 1)).length = (seen T p q).length + 1 := by rw [seen_succ hq, List.length_append, List.length_singleton]
 refine Llaw6_z48b_of (Rlaw6_z48b_of _ _ _ _ _ _ _ _ _ _ _ _ ?_)
 rw [es, en]
 unfold Blaw6_z48b
 rw [bif_pos (by omega), hg, bindO_val]
 dsimp only
 rw [bif_pos (by omega), Int.toNat_natCast, g.1, bindO_val, g.2, bindO_val]
 dsimp only
 rw [L43, bindO_val, Sum.elim_inr, Sum.elim_inr]
 dsimp only
 rw [L6, bindO_val, Sum.elim_inr, Sum.elim_inr]
 dsimp only
 rw [bif_pos ⟨rfl, by unfold big; omega⟩]
 by_cases hq0 : q = 0
 ·subst hq0
  rw [show (((0 : Nat) : Int) == 0) = true from rfl, cond_true, ec]
  rfl
 ·have hb : ((q : Int) == 0) = false := by
   rw [beq_eq_false_iff_ne]
   omega
  have ew : w64 ((q : Int) - 1) = ((q - 1 : Nat) : Int) := by rw [w64_in (by omega)]; omega
  have hst := K.st _ (getD_memA (d := []) hpT) (q - 1) (by omega)
  rw [show q - 1 + 1 = q by omega, he] at hst
  obtain ⟨t', k', ht', hk', he'⟩ := K.pl _ (seen_mem hpT (q := q - 1) (by omega))
  rw [he'] at hst
  obtain ⟨hs1, hs2⟩ := hst
  simp only at hs1 hs2
  have htt : t = t' + 1 := by omega
  subst htt
  have hlk : (lnk (S.getD t' []) (S.getD (t' + 1) []) miss).getD k' 0 = (k : Int) := by
   rw [← hs2]
   unfold lnkAt
   rw [Int.toNat_natCast, Int.toNat_natCast, links_row ht]
  have h5 := hp t' ht
  have a1 := scs_at hz t'
  have a2 := scs_at hz (t' + 1)
  have hfar := lnk_far h5 hm a1.2.2 a2.2.2 hk' hlk
  have g' := encG_at (l := T.getD p []) (q := q - 1) (by omega) he'
  have r1 := encT_at hk'
  have r2 := encT_at hk
  have hll := lnk_len (S.getD t' []) (S.getD (t' + 1) []) miss h5
  have f1 : Fn env 42 (RSh.one CK.list) [.list (S.getD t' []).length (encT (S.getD t' []))] = _ := copV_is (S.getD t' []) (by omega)
  have f2 : Fn env 42 (RSh.one CK.list) [.list (S.getD (t' + 1) []).length (encT (S.getD (t' + 1) []))] = _ := copV_is (S.getD (t' + 1) []) (by omega)
  have f3 : Fn env 41 (RSh.tup [(Prod.mk false [CK.list]), (Prod.mk false [(CK.int .i64)])]) [.list (S.getD t' []).length (encT (S.getD t' [])), .list (S.getD (t' + 1) []).length (encT (S.getD (t' + 1) [])), .int .i64 miss] = _ := linO_is a1.2.1 a2.2.1 hm h5
  have f4 : Fn env 43 (RSh.one (CK.int .i64)) [.agg [.int .i64 (vAt (S.getD t' []) k').1, .int .i64 (vAt (S.getD t' []) k').2.1, .int .i64 (vAt (S.getD t' []) k').2.2], .agg [.int .i64 (vAt (S.getD (t' + 1) []) k).1, .int .i64 (vAt (S.getD (t' + 1) []) k).2.1, .int .i64 (vAt (S.getD (t' + 1) []) k).2.2]] = _ := off_is (vAt (S.getD t' []) k') (vAt (S.getD (t' + 1) []) k)
  rw [hb, cond_false, bif_pos (by omega), hg, bindO_val]
  dsimp only
  rw [ew, bif_pos (by omega), Int.toNat_natCast, g'.1, bindO_val, g'.2, bindO_val]
  dsimp only
  simp only [Int.toNat_natCast, Nat.mul_one, listS_get ht', listS_get ht, bindO_val, ec]
  rw [bif_pos (by omega), f1, bindO_val, bif_pos (by omega), f2, bindO_val]
  dsimp only
  rw [f3, bindO_val]
  dsimp only
  rw [bif_pos (by omega), bif_pos (by omega), r1.1, bindO_val, r1.2.1, bindO_val, r1.2.2, bindO_val, bif_pos (by omega), bif_pos (by omega), r2.1, bindO_val, r2.2.1, bindO_val, r2.2.2, bindO_val, f4, bindO_val]
  rw [bif_ne, if_pos rfl, bif_pos (by omega), bif_ne, if_pos rfl, bif_pos (by omega), intI_get (by omega), bindO_val, bif_ne, if_pos hlk, w64_in (n := 2 * miss) (by omega), bif_neg (by omega)]
  rfl
end
end Gv

/- The law of tracks: all entries, all tracks. -/
namespace Gv
open Go
set_option maxRecDepth 100000
section
variable {S : List (List Z3)} {miss : Int} {T : List (List ZZ)} (K : TrOK S miss T) (hz : scsV S = 0) (hm : 0 ≤ miss ∧ miss ≤ 10000000) (hp : PairOK S)
include K hz hm hp
theorem ent_4b (al : Int) {p : Nat} (hpT : p < T.length) : ∀ (m q : Nat), q + m = (T.getD p []).length →
  Rlaw6_4 (Tlaw6_4b S.length (encS S) miss T.length (encTT T) ((seen T p q).length : Int) al (seen T p q).length (encG (seen T p q)) (p : Int) (q : Int) (seen T p q).length) = exO (Xlaw6_4c (S.length, encS S, miss, T.length, encTT T, ((seen T (p + 1) 0).length : Int), al, (seen T (p + 1) 0).length, encG (seen T (p + 1) 0), (p : Int), (seen T (p + 1) 0).length))
 | 0, q, h => by
  have hg : listC ((encTT T)[Int.toNat (p : Int) * 1]?) = some ((T.getD p []).length, encG (T.getD p [])) := by
   rw [Int.toNat_natCast, Nat.mul_one]
   exact listTT_get hpT
  have e : seen T p q = seen T (p + 1) 0 := by
   rw [show q = (T.getD p []).length by omega]
   exact seen_next hpT
  rw [e]
  refine Rlaw6_4b_of _ _ _ _ _ _ _ _ _ _ _ _ ?_
  unfold Blaw6_4b
  rw [bif_pos (by omega), hg, bindO_val]
  dsimp only
  rw [bif_neg (by omega)]
  rfl
 | m + 1, q, h => by
  have ih := ent_4b al hpT m (q + 1) (by omega)
  have hq : q < (T.getD p []).length := by omega
  have hsl := seen_len hpT hq
  have htot := tot_len K hz
  have hq6 := (trk_len K hz hpT).2
  obtain ⟨t, k, ht, hk, he⟩ := K.pl _ (seen_mem hpT hq)
  have hE := entry_b K hz hm hp (seen T p q).length (by omega) al hpT hq ht hk he
  have hg : listC ((encTT T)[Int.toNat (p : Int) * 1]?) = some ((T.getD p []).length, encG (T.getD p [])) := by
   rw [Int.toNat_natCast, Nat.mul_one]
   exact listTT_get hpT
  have en : (seen T p (q + 1)).length = (seen T p q).length + 1 := by rw [seen_succ hq, List.length_append, List.length_singleton]
  have ew : w64 ((q : Int) + 1) = ((q + 1 : Nat) : Int) := by rw [w64_in (by omega)]; omega
  refine Rlaw6_4b_of _ _ _ _ _ _ _ _ _ _ _ _ ?_
  unfold Blaw6_4b
  rw [bif_pos (by omega), hg, bindO_val]
  dsimp only
  rw [bif_pos (by omega), hE, bindO_val, Sum.elim_inr]
  dsimp only
  rw [ew, ← en]
  exact ih
theorem ent_4a (al : Int) (hpT : 0 < T.length) :
  Rlaw6_4 (Tlaw6_4a S.length (encS S) miss T.length (encTT T) al 0) = exO (Xlaw6_4c (S.length, encS S, miss, T.length, encTT T, ((seen T 1 0).length : Int), al, (seen T 1 0).length, encG (seen T 1 0), 0, (seen T 1 0).length)) := by
 have hq := (trk_len K hz hpT).1
 have ih := ent_4b K hz hm hp al hpT ((T.getD 0 []).length - 1) 1 (by omega)
 obtain ⟨t, k, ht, hk, he⟩ := K.pl _ (seen_mem hpT hq)
 have hE := entry_a K hz al hpT ht hk he
 have hg : listC ((encTT T)[Int.toNat (0 : Int) * 1]?) = some ((T.getD 0 []).length, encG (T.getD 0 [])) := listTT_get hpT
 have e1 : seen T 0 1 = [((t : Int), (k : Int))] := by
  rw [seen_succ hq, he]
  rfl
 rw [e1] at ih
 refine Rlaw6_4a_of _ _ _ _ _ _ _ ?_
 unfold Blaw6_4a
 rw [bif_pos (by omega), hg, bindO_val]
 dsimp only
 rw [bif_pos (by omega), hE, bindO_val, Sum.elim_inr]
 dsimp only
 rw [w64_in (by omega)]
 exact ih
omit hz hm hp in
theorem ent_63a (al : Int) (hpT : 0 < T.length) : Llaw6_z63 (Tlaw6_z63a S.length (encS S) miss T.length (encTT T) al 0) = some (Sum.inr (Sum.inl (S.length, encS S, miss, T.length, encTT T, al, 0))) := by
 have hn := K.ne _ (getD_memA (d := []) hpT)
 have hg : listC ((encTT T)[Int.toNat (0 : Int) * 1]?) = some ((T.getD 0 []).length, encG (T.getD 0 [])) := listTT_get hpT
 refine Llaw6_z63b_of (Rlaw6_z63a_of _ _ _ _ _ _ _ ?_)
 unfold Blaw6_z63a
 rw [bif_pos (by omega), hg, bindO_val, bif_eq, if_neg (by simp only; omega), bif_pos (by omega), bindO_val, bif_neg (by simp only; omega)]
 rfl
omit hz hm hp in
theorem ent_63b (al i5 : Int) (n7 : Nat) (c8 : List PV) (n10 : Nat) {p : Nat} (hpT : p < T.length) : Llaw6_z63 (Tlaw6_z63b S.length (encS S) miss T.length (encTT T) i5 al n7 c8 (p : Int) n10) = some (Sum.inr (Sum.inr (S.length, encS S, miss, T.length, encTT T, i5, al, n7, c8, (p : Int), n10))) := by
 have hn := K.ne _ (getD_memA (d := []) hpT)
 have hg : listC ((encTT T)[Int.toNat (p : Int) * 1]?) = some ((T.getD p []).length, encG (T.getD p [])) := by
  rw [Int.toNat_natCast, Nat.mul_one]
  exact listTT_get hpT
 refine Llaw6_z63c_of (Rlaw6_z63b_of _ _ _ _ _ _ _ _ _ _ _ ?_)
 unfold Blaw6_z63b
 rw [bif_pos (by omega), hg, bindO_val, bif_eq, if_neg (by simp only; omega), bif_pos (by omega), bindO_val, bif_neg (by simp only; omega)]
 rfl
theorem ent_66a (al : Int) (hpT : 0 < T.length) : Llaw6_z66 (Tlaw6_z66a S.length (encS S) miss T.length (encTT T) al 0) = some (Sum.inr (Sum.inr (S.length, encS S, miss, T.length, encTT T, ((seen T 1 0).length : Int), al, (seen T 1 0).length, encG (seen T 1 0), 0, (seen T 1 0).length))) := by
 have h1 := ent_63a K al hpT
 have h2 := Llaw6_4c_of (ent_4a K hz hm hp al hpT)
 refine Llaw6_z66c_of (Rlaw6_z66a_of _ _ _ _ _ _ _ ?_)
 unfold Blaw6_z66a
 rw [h1, bindO_val, Sum.elim_inr, Sum.elim_inl]
 dsimp only
 rw [h2, bindO_val, Sum.elim_inr, Sum.elim_inr]
 rfl
theorem ent_66b (al : Int) {p : Nat} (hpT : p < T.length) : Llaw6_z66 (Tlaw6_z66b S.length (encS S) miss T.length (encTT T) ((seen T p 0).length : Int) al (seen T p 0).length (encG (seen T p 0)) (p : Int) (seen T p 0).length) = some (Sum.inr (Sum.inr (S.length, encS S, miss, T.length, encTT T, ((seen T (p + 1) 0).length : Int), al, (seen T (p + 1) 0).length, encG (seen T (p + 1) 0), (p : Int), (seen T (p + 1) 0).length))) := by
 have h1 := ent_63b K al ((seen T p 0).length : Int) (seen T p 0).length (encG (seen T p 0)) (seen T p 0).length hpT
 have h2 : Llaw6_4 (Tlaw6_4b S.length (encS S) miss T.length (encTT T) ((seen T p 0).length : Int) al (seen T p 0).length (encG (seen T p 0)) (p : Int) 0 (seen T p 0).length) = _ := Llaw6_4c_of (ent_4b K hz hm hp al hpT (T.getD p []).length 0 (by omega))
 refine Llaw6_z66c_of (Rlaw6_z66b_of _ _ _ _ _ _ _ _ _ _ _ ?_)
 unfold Blaw6_z66b
 rw [h1, bindO_val, Sum.elim_inr, Sum.elim_inr]
 dsimp only
 rw [h2, bindO_val, Sum.elim_inr, Sum.elim_inr]
 rfl
theorem ent_2b (al : Int) : ∀ (m p : Nat), p + m = T.length →
  Rlaw6_2 (Tlaw6_2b S.length (encS S) miss T.length (encTT T) ((seen T p 0).length : Int) al (seen T p 0).length (encG (seen T p 0)) (p : Int) (seen T p 0).length) = exO (Xlaw6_2a ((T.flatten.length : Int), al))
 | 0, p, h => by
  have e : seen T p 0 = T.flatten := by
   rw [show p = T.length by omega]
   exact seen_end T
  rw [e]
  refine Rlaw6_2b_of _ _ _ _ _ _ _ _ _ _ _ ?_
  unfold Blaw6_2b
  rw [bif_neg (by omega)]
  rfl
 | m + 1, p, h => by
  have ih := ent_2b al m (p + 1) (by omega)
  have hT := nT_len K hz
  have h1 := ent_66b K hz hm hp al (p := p) (by omega)
  have ew : w64 ((p : Int) + 1) = ((p + 1 : Nat) : Int) := by rw [w64_in (by omega)]; omega
  refine Rlaw6_2b_of _ _ _ _ _ _ _ _ _ _ _ ?_
  unfold Blaw6_2b
  rw [bif_pos (by omega), h1, bindO_val, Sum.elim_inr, Sum.elim_inr]
  dsimp only
  rw [ew]
  exact ih
theorem ent_2a (al : Int) : Llaw6_2 (Tlaw6_2a S.length (encS S) miss T.length (encTT T) al 0) = some (Sum.inl ((T.flatten.length : Int), al)) := by
 refine Llaw6_2a_of (Rlaw6_2a_of _ _ _ _ _ _ _ ?_)
 unfold Blaw6_2a
 by_cases h0 : 0 < T.length
 ·have ih := ent_2b K hz hm hp al (T.length - 1) 1 (by omega)
  have h1 := ent_66a K hz hm hp al h0
  rw [bif_pos (by omega), h1, bindO_val, Sum.elim_inr, Sum.elim_inr]
  dsimp only
  rw [w64_in (by omega)]
  exact ih
 ·have e : T = [] := List.length_eq_zero_iff.1 (by omega)
  subst e
  rw [bif_neg (by simp)]
  rfl
end
theorem z109 (S : List (List Z3)) (miss : Int) : Llaw6_1000109 (Tlaw6_1000109a S.length (encS S) miss) = some (Sum.inl ()) ∨ (Llaw6_1000109 (Tlaw6_1000109a S.length (encS S) miss) = some (Sum.inr (S.length, encS S, miss)) ∧ scsV S = 0 ∧ (0 ≤ miss ∧ miss ≤ 10000000) ∧ PairOK S) := by
 have h2 : Fn env 38 (RSh.one (CK.int .i64)) [.list S.length (encS S), .int .i64 miss] = _ := rScsE_is S miss
 rcases scann_is S with h1 | ⟨h1, hp⟩
 ·left
  have h1 : Fn env 37 (RSh.one CK.bool) [.list S.length (encS S)] = _ := h1
  refine Llaw6_1000109a_of (Rlaw6_1000109a_of _ _ _ ?_)
  unfold Blaw6_1000109a
  rw [h1]
  rfl
 ·have h1 : Fn env 37 (RSh.one CK.bool) [.list S.length (encS S)] = _ := h1
  by_cases hb : both (scsV S) (rangeE miss 0 10000000) = 0
  ·right
   obtain ⟨b1, b2⟩ := both_nil hb
   refine ⟨Llaw6_1000109b_of (Rlaw6_1000109a_of _ _ _ ?_), b1, rangeE_ok b2, hp b1⟩
   unfold Blaw6_1000109a
   rw [h1, bindO_val, cond_true, h2, bindO_val, bif_ne, if_pos hb]
   rfl
  ·left
   refine Llaw6_1000109a_of (Rlaw6_1000109a_of _ _ _ ?_)
   unfold Blaw6_1000109a
   rw [h1, bindO_val, cond_true, h2, bindO_val, bif_ne, if_neg hb]
   rfl
end Gv
