import Derived.Test.YtpbpkbckgifhdaaGreatGvEnv
import Derived.Test.YtpbpkbckgifhdaaGreatK21

/- What the functions do, round by round: B18. -/
namespace Gv
open Go
set_option maxRecDepth 100000
def ErSize : List Entry := []
theorem ErSize_ok : ∀ e ∈ ErSize, EntOK env e := ent_nil
def trSize (_F : FnT) (p0 : Int) : Option (Int) :=
 some (if ((w64 ((0 : Int) - p0)) > p0) then (w64 ((0 : Int) - p0)) else p0)
theorem trSize_eq (F p0) : semF (callP F ErSize 20) s96 (loopT []) 400 a96 [PV.int .i64 p0] (fun rv => decR (RSh.one (CK.int .i64)) rv.pv) = trSize F p0 := by kernel_rfl
noncomputable abbrev FrSize (args : List PV) := Fn env 96 (RSh.one (CK.int .i64)) args
theorem FrSize_of  (p0 : Int) {res : (Int)} (h : trSize (Fn env) p0 = some res) : FrSize [PV.int .i64 p0] = some res :=
 fn_of ErSize_ok rfl rfl lo_nil ((trSize_eq _ _).trans h)
def ErCopX : List Entry := []
theorem ErCopX_ok : ∀ e ∈ ErCopX, EntOK env e := ent_nil
def trCopX (_F : FnT) (p0n : Nat) (p0c : List PV) : Option ((Nat) × (List PV)) :=
 bif (decide (p0n = 0)) then
  some (0, [])
 else bif (decide ((List.length p0c) = (p0n * 3))) then
  bif (decide ((0 = 0) ∧ ((0 + p0n) ≤ big))) then
   bif (decide ((0 + p0n) = (0 + p0n))) then
    some ((0 + p0n), ([] ++ p0c))
   else none
  else none
 else none
theorem trCopX_eq (F p0n p0c) : semF (callP F ErCopX 20) s23 (loopT []) 400 a23 [PV.list p0n p0c] (fun rv => decR (RSh.one CK.list) rv.pv) = trCopX F p0n p0c := by kernel_rfl
noncomputable abbrev FrCopX (args : List PV) := Fn env 23 (RSh.one CK.list) args
theorem FrCopX_of  (p0n : Nat) (p0c : List PV) {res : ((Nat) × (List PV))} (h : trCopX (Fn env) p0n p0c = some res) : FrCopX [PV.list p0n p0c] = some res :=
 fn_of ErCopX_ok rfl rfl lo_nil ((trCopX_eq _ _ _).trans h)
end Gv

/- What the functions do, round by round: B19. -/
namespace Gv
open Go
set_option maxRecDepth 100000
def ErPoiE : List Entry := [.out 90 (RSh.one CK.bool)]
theorem ErPoiE_ok : ∀ e ∈ ErPoiE, EntOK env e := (ent_out ent_nil)
def trPoiE (F : FnT) (p0_0 p0_1 : Int) : Option (Int) :=
 bindO (F 90 (RSh.one CK.bool) [(PV.int .i64 p0_0), (PV.int .i64 (-1000 : Int)), (PV.int .i64 (1000 : Int))]) fun (y0 : (Bool)) =>
 bif y0 then
  bindO (F 90 (RSh.one CK.bool) [(PV.int .i64 p0_1), (PV.int .i64 (0 : Int)), (PV.int .i64 (1000 : Int))]) fun (y1 : (Bool)) =>
  bif y1 then
   some (0 : Int)
  else some (2 : Int)
 else some (2 : Int)
theorem trPoiE_eq (F p0_0 p0_1) : semF (callP F ErPoiE 20) s120 (loopT []) 400 a120 [PV.agg [PV.int .i64 p0_0, PV.int .i64 p0_1]] (fun rv => decR (RSh.one (CK.int .i64)) rv.pv) = trPoiE F p0_0 p0_1 := by kernel_rfl
noncomputable abbrev FrPoiE (args : List PV) := Fn env 120 (RSh.one (CK.int .i64)) args
theorem FrPoiE_of  (p0_0 p0_1 : Int) {res : (Int)} (h : trPoiE (Fn env) p0_0 p0_1 = some res) : FrPoiE [PV.agg [PV.int .i64 p0_0, PV.int .i64 p0_1]] = some res :=
 fn_of ErPoiE_ok rfl rfl lo_nil ((trPoiE_eq _ _ _).trans h)
end Gv

/- What links are: they lead to different places, and cost at most two misses. -/
namespace Gv
open Go
set_option maxRecDepth 100000
end Gv

/- A link costs at most two misses. -/
namespace Gv
open Go
set_option maxRecDepth 100000
end Gv

/- The entries of a track: what comes before and behind. -/
namespace Gv
open Go
set_option maxRecDepth 100000
def lnkAt (Ls : List (List Int)) (s x : Int) : Int := (Ls.getD s.toNat []).getD x.toNat 0
theorem trackR_ge (Ls : List (List Int)) : ∀ (m s : Nat) (i : Int) (z : ZZ), z ∈ trackR Ls m s i → (s : Int) + 1 ≤ z.1 ∧ 0 ≤ z.2
 | 0, _, _, z, h => by simp [trackR] at h
 | m + 1, s, i, z, h => by
  unfold trackR at h
  split at h
  ·rename_i hx
   rcases List.mem_cons.1 h with rfl | h
   ·exact ⟨Int.le_refl _, hx⟩
   ·have := trackR_ge Ls m (s + 1) _ z h
    exact ⟨by omega, this.2⟩
  ·cases h
end Gv

/- Each vortex is in one track. -/
namespace Gv
open Go
set_option maxRecDepth 100000
structure LinkSet (Ls : List (List Int)) : Prop where
 ok : LinksOK Ls
 inj : ∀ (s i j : Nat), s < Ls.length → i < (Ls.getD s []).length → j < (Ls.getD s []).length → (Ls.getD s []).getD i 0 = (Ls.getD s []).getD j 0 → 0 ≤ (Ls.getD s []).getD i 0 → i = j
theorem trackR_lt {Ls : List (List Int)} (ok : LinksOK Ls) : ∀ (m s : Nat) (i : Int) (z : ZZ), s + m = Ls.length → (s < Ls.length → 0 ≤ i ∧ i < ((Ls.getD s []).length : Int)) → z ∈ trackR Ls m s i → z.1 ≤ Ls.length ∧ (z.1 < Ls.length → z.2 < ((Ls.getD z.1.toNat []).length : Int))
 | 0, _, _, z, _, _, h => by simp [trackR] at h
 | m + 1, s, i, z, hm, hi, h => by
  unfold trackR at h
  split at h
  ·rename_i hx
   have hl : s + 1 < Ls.length → (Ls.getD s []).getD i.toNat 0 < ((Ls.getD (s + 1) []).length : Int) := fun h2 => ok s h2 _ (links_mem (hi (by omega)))
   rcases List.mem_cons.1 h with rfl | h
   ·refine ⟨by simp only; omega, fun h2 => ?_⟩
    simp only at h2 ⊢
    have := hl (by omega)
    rwa [show ((s : Int) + 1).toNat = s + 1 by omega]
   ·exact trackR_lt ok m (s + 1) _ z (by omega) (fun h2 => ⟨hx, hl h2⟩) h
  ·cases h
theorem trackV_mem {Ls : List (List Int)} {t : Nat} {k : Int} {z : ZZ} : z ∈ trackV Ls t k ↔ z ∈ ((t : Int), k) :: trackR Ls (Ls.length - t) t k := Iff.rfl
theorem track_in {Ls : List (List Int)} (ok : LinksOK Ls) {t : Nat} {k : Int} (ht : t ≤ Ls.length) (hk : 0 ≤ k) (hk2 : t < Ls.length → k < ((Ls.getD t []).length : Int)) {z : ZZ} (hz : z ∈ trackV Ls t k) : (t : Int) ≤ z.1 ∧ z.1 ≤ Ls.length ∧ 0 ≤ z.2 ∧ (z.1 < Ls.length → z.2 < ((Ls.getD z.1.toNat []).length : Int)) := by
 rcases List.mem_cons.1 (trackV_mem.1 hz) with rfl | h
 ·refine ⟨Int.le_refl _, by simp only; omega, hk, fun h => ?_⟩
  simp only at h ⊢
  rw [Int.toNat_natCast]
  exact hk2 (by omega)
 ·have h1 := trackR_ge Ls _ _ _ z h
  have h2 := trackR_lt ok _ _ _ z (by omega) (fun h => ⟨hk, hk2 h⟩) h
  exact ⟨by omega, h2.1, h1.2, h2.2⟩
structure Beg (Ls : List (List Int)) (t : Nat) (k : Int) : Prop where
 le : t ≤ Ls.length
 nn : 0 ≤ k
 lt : t < Ls.length → k < ((Ls.getD t []).length : Int)
 st : startC Ls t k.toNat = true
theorem Beg.first {Ls : List (List Int)} {t : Nat} {k : Int} (b : Beg Ls t k) (ok : LinksOK Ls) {t' : Nat} {k' : Int} (b' : Beg Ls t' k') {y : Int} (hy : ((t : Int) - 1, y) ∈ trackV Ls t' k') (hl : lnkAt Ls ((t : Int) - 1) y = k) : False := by
 have hin := track_in ok b'.le b'.nn b'.lt hy
 simp only at hin
 obtain ⟨s, rfl⟩ : ∃ s, t = s + 1 := ⟨t - 1, by omega⟩
 have hb := b.le
 have e : (((s + 1 : Nat) : Int) - 1) = (s : Int) := by omega
 rw [e] at hin hl
 have hlt := hin.2.2.2 (by omega)
 rw [Int.toNat_natCast] at hlt
 have hst := b.st
 unfold startC at hst
 have hc : (Ls.getD (s + 1 - 1) []).contains ((k.toNat : Nat) : Int) = true := by
  rw [List.contains_iff_mem, show ((k.toNat : Nat) : Int) = k by have := b.nn; omega, ← hl]
  unfold lnkAt
  rw [Int.toNat_natCast]
  exact links_mem ⟨hin.2.2.1, hlt⟩
 rw [hc] at hst
 simp at hst
end Gv

/- All entries of all tracks. -/
namespace Gv
open Go
set_option maxRecDepth 100000
section
variable {Ls : List (List Int)} (L : LinkSet Ls) {S : List (List Z3)} (hS : S.length ≤ Ls.length + 1) (hk : ∀ t, t < Ls.length → (S.getD t []).length = (Ls.getD t []).length)
include L hS hk
end
end Gv

/- The links of all scans: a set of links. -/
namespace Gv
open Go
set_option maxRecDepth 100000
end Gv

/- Each vortex is an entry of a track. -/
namespace Gv
open Go
set_option maxRecDepth 100000
end Gv

/- The entries of the tracks are the vortices, each once. -/
namespace Gv
open Go
set_option maxRecDepth 100000
end Gv

/- Copies of scans; how far two vortices are apart. -/
namespace Gv
open Go
set_option maxRecDepth 100000
theorem copV_is (l : List Z3) (hl : l.length ≤ 1000) : FrCopX [.list l.length (encT l)] = some (l.length, encT l) := by
 refine FrCopX_of _ _ ?_
 unfold trCopX
 by_cases h : l.length = 0
 ·rw [bif_pos h]
  have e := List.length_eq_zero_iff.1 h
  subst e
  rfl
 ·rw [bif_neg h, bif_pos (encT_len l), bif_pos (⟨rfl, by unfold big; omega⟩), bif_pos rfl, Nat.zero_add, List.nil_append]
theorem encS_take {S : List (List Z3)} {k : Nat} (h : k < S.length) : encS (S.take (k + 1)) = encS (S.take k) ++ [PV.list (S.getD k []).length (encT (S.getD k []))] := by
 have e : S.getD k [] = S[k] := by simp [List.getD, List.getElem?_eq_getElem h]
 rw [e, List.take_succ_eq_append_getElem h]
 unfold encS
 rw [List.map_append]
 rfl
theorem copS_b {S : List (List Z3)} (hS : S.length ≤ 1000) (hl : ∀ t, (S.getD t []).length ≤ 1000) : ∀ (m k : Nat), k + m = S.length →
  RrCopS_0 (TrCopS_0b S.length (encS S) k (encS (S.take k)) (k : Int) k) = exO (XrCopS_0b (S.length, encS S, S.length))
 | 0, k, h => by
  refine RrCopS_0b_of _ _ _ _ _ _ ?_
  unfold BrCopS_0b
  rw [bif_neg (by omega), List.take_of_length_le (by omega), show k = S.length by omega]
  rfl
 | m + 1, k, h => by
  have ih := copS_b hS hl m (k + 1) (by omega)
  have hk : k < S.length := by omega
  have hc : Fn env 23 _ [.list (S.getD k []).length (encT (S.getD k []))] = _ := copV_is _ (hl k)
  refine RrCopS_0b_of _ _ _ _ _ _ ?_
  unfold BrCopS_0b
  rw [bif_pos (by omega), bif_pos (by omega)]
  simp only [Int.toNat_natCast, Nat.mul_one, listS_get hk, bindO_val]
  rw [hc]
  simp only [bindO_val]
  rw [bif_pos ⟨trivial, by unfold big; omega⟩, w64_in (by omega), ← encS_take hk]
  exact ih
theorem copS_is {S : List (List Z3)} (hS : S.length ≤ 1000) (hl : ∀ t, (S.getD t []).length ≤ 1000) : FrCopS [.list S.length (encS S)] = some (S.length, encS S) := by
 refine FrCopS_of _ _ ?_
 by_cases h0 : S.length = 0
 ·have e := List.length_eq_zero_iff.1 h0
  subst e
  have hr : LrCopS_0 (TrCopS_0a 0 []) = _ := LrCopS_0a_of (y := ()) (RrCopS_0a_of _ _ (by
   unfold BrCopS_0a
   rw [bif_neg (by omega)]
   rfl))
  unfold trCopS
  show bindO (LrCopS_0 (TrCopS_0a 0 [])) _ = _
  rw [hr]
  rfl
 ·have hk : 0 < S.length := by omega
  have hc : Fn env 23 _ [.list (S.getD 0 []).length (encT (S.getD 0 []))] = _ := copV_is _ (hl 0)
  have x0 : listC (encS S)[0]? = _ := listS_get hk
  have ih := copS_b hS hl (S.length - 1) 1 (by omega)
  rw [encS_take hk] at ih
  have hr := LrCopS_0b_of (RrCopS_0a_of S.length (encS S) (r := _) (by
   unfold BrCopS_0a
   rw [bif_pos (by omega), bif_pos (by omega)]
   simp only [x0, bindO_val]
   rw [hc]
   simp only [bindO_val]
   exact ih))
  unfold trCopS
  rw [hr]
  simp only [bindO_val, Sum.elim_inr]
  rw [bif_pos trivial]
theorem size_is (p : Int) : FrSize [.int .i64 p] = some (szZ p) := FrSize_of _ rfl
theorem off_is (v u : Z3) : FrOff [.agg (enc3 v), .agg (enc3 u)] = some (apZ v u) := by
 refine FrOff_of _ _ _ _ _ _ ?_
 unfold trOff
 have h : Fn env 96 _ [.int .i64 (w64 (v.2.2 - u.2.2))] = _ := size_is _
 rw [h]
 rfl
end Gv

/- The law of tracks: how many vortices there are. -/
namespace Gv
open Go
set_option maxRecDepth 100000
end Gv

/- The law of tracks: an entry that was not seen before. -/
namespace Gv
open Go
set_option maxRecDepth 100000
end Gv

/- The reference's errors of scans; which scans the law looks at; the links of two scans. -/
namespace Gv
open Go
set_option maxRecDepth 100000
theorem rPoiE_is (y z : Int) : FrPoiE [.agg [.int .i64 y, .int .i64 z]] = some (poiV y z) := by
 refine FrPoiE_of _ _ ?_
 unfold trPoiE poiV
 have h1 : Fn env 90 _ [.int .i64 y, .int .i64 (-1000), .int .i64 1000] = _ := bWi_is y (-1000) 1000
 have h2 : Fn env 90 _ [.int .i64 z, .int .i64 0, .int .i64 1000] = _ := bWi_is z 0 1000
 rw [h1, h2]
 simp only [bindO_val, bif_dec]
 by_cases a : -1000 ≤ y ∧ y ≤ 1000 <;> by_cases b : 0 ≤ z ∧ z ≤ 1000 <;> simp [a, b]
theorem rVorE_is (v : Z3) : FrVorE [encV v] = some (vorV v) := by
 refine FrVorE_of _ _ _ ?_
 unfold trVorE
 have h1 : Fn env 120 _ [.agg [.int .i64 v.1, .int .i64 v.2.1]] = _ := rPoiE_is v.1 v.2.1
 have h2 : Fn env 90 _ [.int .i64 v.2.2, .int .i64 (-10000), .int .i64 10000] = _ := bWi_is v.2.2 (-10000) 10000
 rw [h1, h2]
 simp only [bindO_val, bif_dec, bif_ne]
 unfold vorV poiV
 by_cases a : (-1000 ≤ v.1 ∧ v.1 ≤ 1000) ∧ (0 ≤ v.2.1 ∧ v.2.1 ≤ 1000) <;> by_cases b : -10000 ≤ v.2.2 ∧ v.2.2 ≤ 10000 <;> simp [a, b]
theorem rMisE_is (m : Int) : FrMisE [.int .i64 m] = some (rangeE m 0 10000000) := by
 refine FrMisE_of _ ?_
 unfold trMisE
 have h2 : Fn env 90 _ [.int .i64 m, .int .i64 0, .int .i64 10000000] = _ := bWi_is m 0 10000000
 rw [h2]
 simp only [bindO_val, bif_dec, rangeE_if]
 by_cases b : 0 ≤ m ∧ m ≤ 10000000 <;> simp [b]
theorem rScaE_loop (l : List Z3) (hl : l.length ≤ 1000) : ∀ (m k : Nat), k + m = l.length → RrScaE_0 (TrScaE_0a l.length (encT l) k) = if scaF (l.drop k) = 0 then exO (XrScaE_0b ()) else exO (XrScaE_0a (scaF (l.drop k)))
 | 0, k, h => by
  rw [List.drop_of_length_le (by omega)]
  refine RrScaE_0a_of _ _ _ ?_
  unfold BrScaE_0a
  rw [bif_neg (by omega)]
  rfl
 | m + 1, k, h => by
  have ih := rScaE_loop l hl m (k + 1) (by omega)
  have hk : k < l.length := by omega
  obtain ⟨v, hv, hd⟩ := drop_getZ hk
  have g0 := encT_0 l k
  have g1 := encT_1 l k
  have g2 := encT_2 l k
  rw [hv] at g0 g1 g2
  simp only [Option.map_some] at g0 g1 g2
  have h1 : Fn env 94 (RSh.one (CK.int .i64)) [.agg [.int .i64 v.1, .int .i64 v.2.1, .int .i64 v.2.2]] = _ := rVorE_is v
  have hs : BrScaE_0a (Fn env) RrScaE_0 exO LrScaE_0 l.length (encT l) k = if vorV v = 0 then RrScaE_0 (TrScaE_0a l.length (encT l) ((k + 1 : Nat) : Int)) else exO (XrScaE_0a (vorV v)) := by
   unfold BrScaE_0a
   rw [bif_pos (by omega), bif_pos (by omega)]
   simp only [Int.toNat_natCast, g0, g1, g2, intC_int, bindO_val]
   rw [h1]
   simp only [bindO_val, bif_ne]
   rw [w64_in (by omega)]
   rfl
  rw [hd]
  by_cases hz : vorV v = 0
  ·rw [if_pos hz, ih] at hs
   have e2 : scaF (v :: l.drop (k + 1)) = scaF (l.drop (k + 1)) := if_pos hz
   rw [e2]
   split at hs
   ·rename_i hn
    rw [if_pos hn]
    exact RrScaE_0a_of _ _ _ hs
   ·rename_i hn
    rw [if_neg hn]
    exact RrScaE_0a_of _ _ _ hs
  ·rw [if_neg hz] at hs
   have e2 : scaF (v :: l.drop (k + 1)) = vorV v := if_neg hz
   rw [e2, if_neg hz]
   exact RrScaE_0a_of _ _ _ hs
theorem rScaE_is (l : List Z3) : FrScaE [.list l.length (encT l)] = some (scaV l) := by
 refine FrScaE_of _ _ ?_
 unfold trScaE scaV
 by_cases h : 3 < l.length
 ·rw [bif_pos (by omega), if_pos h]
 ·rw [bif_neg (by omega), if_neg h]
  have h0 := rScaE_loop l (by omega) l.length 0 (by omega)
  have h0 : RrScaE_0 (TrScaE_0a l.length (encT l) 0) = _ := h0
  rw [List.drop_zero] at h0
  by_cases hz : scaF l = 0
  ·rw [if_pos hz] at h0
   rw [LrScaE_0b_of h0, hz]
   rfl
  ·rw [if_neg hz] at h0
   rw [LrScaE_0a_of h0]
   rfl
theorem rScsE_loop (S : List (List Z3)) (hS : S.length ≤ 1000) (miss : Int) : ∀ (m k : Nat), k + m = S.length → RrScsE_0 (TrScsE_0a S.length (encS S) miss k) = if scsF (S.drop k) = 0 then exO (XrScsE_0b miss) else exO (XrScsE_0a (scsF (S.drop k)))
 | 0, k, h => by
  rw [List.drop_of_length_le (by omega)]
  refine RrScsE_0a_of _ _ _ _ ?_
  unfold BrScsE_0a
  rw [bif_neg (by omega)]
  rfl
 | m + 1, k, h => by
  have ih := rScsE_loop S hS miss m (k + 1) (by omega)
  have hk : k < S.length := by omega
  have h1 : Fn env 62 (RSh.one (CK.int .i64)) [.list (S.getD k []).length (encT (S.getD k []))] = _ := rScaE_is (S.getD k [])
  have hs : BrScsE_0a (Fn env) RrScsE_0 exO LrScsE_0 S.length (encS S) miss k = if scaV (S.getD k []) = 0 then RrScsE_0 (TrScsE_0a S.length (encS S) miss ((k + 1 : Nat) : Int)) else exO (XrScsE_0a (scaV (S.getD k []))) := by
   unfold BrScsE_0a
   rw [bif_pos (by omega), bif_pos (by omega)]
   simp only [Int.toNat_natCast, Nat.mul_one, listS_get hk, bindO_val]
   rw [h1]
   simp only [bindO_val, bif_ne]
   rw [w64_in (by omega)]
   rfl
  rw [drop_getS hk]
  by_cases hz : scaV (S.getD k []) = 0
  ·rw [if_pos hz, ih] at hs
   have e2 : scsF (S.getD k [] :: S.drop (k + 1)) = scsF (S.drop (k + 1)) := if_pos hz
   rw [e2]
   split at hs
   ·rename_i hn
    rw [if_pos hn]
    exact RrScsE_0a_of _ _ _ _ hs
   ·rename_i hn
    rw [if_neg hn]
    exact RrScsE_0a_of _ _ _ _ hs
  ·rw [if_neg hz] at hs
   have e2 : scsF (S.getD k [] :: S.drop (k + 1)) = scaV (S.getD k []) := if_neg hz
   rw [e2, if_neg hz]
   exact RrScsE_0a_of _ _ _ _ hs
theorem rScsE_is (S : List (List Z3)) (miss : Int) : FrScsE [.list S.length (encS S), .int .i64 miss] = some (both (scsV S) (rangeE miss 0 10000000)) := by
 refine FrScsE_of _ _ _ ?_
 unfold trScsE scsV
 by_cases h : 6 < S.length
 ·rw [bif_pos (by omega), if_pos h, both_not (by omega)]
 ·rw [bif_neg (by omega), if_neg h]
  have h0 := rScsE_loop S (by omega) miss S.length 0 (by omega)
  have h0 : RrScsE_0 (TrScsE_0a S.length (encS S) miss 0) = _ := h0
  have h1 : Fn env 63 _ [.int .i64 miss] = _ := rMisE_is miss
  rw [List.drop_zero] at h0
  by_cases hz : scsF S = 0
  ·rw [if_pos hz] at h0
   rw [LrScsE_0b_of h0]
   simp only [bindO_val, Sum.elim_inr]
   rw [h1, both_zero hz]
   rfl
  ·rw [if_neg hz] at h0
   rw [LrScsE_0a_of h0, both_not hz]
   rfl
theorem brief_is (l : List Z3) : Fbrief [.list l.length (encT l)] = some (decide (l.length ≤ 5)) := by
 refine Fbrief_of _ _ ?_
 unfold tbrief
 by_cases h : l.length ≤ 5
 ·rw [bif_pos (by omega), decide_eq_true h]
 ·rw [bif_neg (by omega), decide_eq_false h]
theorem scann_loop (S : List (List Z3)) (h8 : S.length ≤ 8) : ∀ (m i : Nat), i + m = S.length → (0 < i → (S.getD (i - 1) []).length ≤ 5) →
  Rscann_0 (Tscann_0a S.length (encS S) i) = exO (Xscann_0a ()) ∨ (Rscann_0 (Tscann_0a S.length (encS S) i) = exO (Xscann_0b ()) ∧ (scsV S = 0 → ∀ t, i ≤ t → t < S.length → 0 < t → (S.getD (t - 1) []).length + (S.getD t []).length ≤ 5) ∧ ∀ t, i ≤ t → t < S.length → (S.getD t []).length ≤ 5)
 | 0, i, h, _ => by
  refine .inr ⟨?_, fun _ t h1 h2 => by omega, fun t h1 h2 => by omega⟩
  refine Rscann_0a_of _ _ _ ?_
  unfold Bscann_0a
  rw [bif_neg (by omega)]
  rfl
 | m + 1, i, h, hb => by
  have hi : i < S.length := by omega
  have h1 : Fn env 20 (RSh.one CK.bool) [.list (S.getD i []).length (encT (S.getD i []))] = _ := brief_is (S.getD i [])
  have h2 : Fn env 30 (RSh.one (CK.int .i64)) [.list S.length (encS S), .int .i64 0] = _ := rScsE_is S 0
  have e0 : rangeE 0 0 10000000 = 0 := rangeE_in (by omega)
  have e1 : both (scsV S) (rangeE 0 0 10000000) = scsV S := by
   rw [e0]
   unfold both
   split <;> simp_all
  rw [e1] at h2
  by_cases h5 : (S.getD i []).length ≤ 5
  ·have ih := scann_loop S h8 m (i + 1) (by omega) (fun _ => by rw [Nat.add_sub_cancel]; exact h5)
   have hs : Rscann_0 (Tscann_0a S.length (encS S) i) = if 0 < i ∧ 5 < (S.getD (i - 1) []).length + (S.getD i []).length ∧ scsV S = 0 then exO (Xscann_0a ()) else Rscann_0 (Tscann_0a S.length (encS S) ((i + 1 : Nat) : Int)) := by
    have key : Bscann_0a (Fn env) Rscann_0 exO Lscann_0 S.length (encS S) i = if 0 < i ∧ 5 < (S.getD (i - 1) []).length + (S.getD i []).length ∧ scsV S = 0 then exO (Xscann_0a ()) else Rscann_0 (Tscann_0a S.length (encS S) ((i + 1 : Nat) : Int)) := by
     unfold Bscann_0a
     rw [bif_pos (by omega), bif_pos (by omega)]
     simp only [Int.toNat_natCast, Nat.mul_one, listS_get hi, bindO_val]
     rw [h1]
     simp only [bindO_val, h5, decide_true, cond_true]
     have ew : w64 ((i : Int) + 1) = ((i + 1 : Nat) : Int) := by rw [w64_in (by omega)]; omega
     by_cases hp : 0 < i
     ·have hb := hb hp
      have ew2 : w64 ((i : Int) - 1) = ((i - 1 : Nat) : Int) := by rw [w64_in (by omega)]; omega
      have hi2 : i - 1 < S.length := by omega
      rw [bif_pos (by omega), bif_pos (by omega)]
      simp only [ew2]
      rw [bif_pos (by omega)]
      simp only [Int.toNat_natCast, listS_get hi2, bindO_val]
      rw [w64_in (n := ((S.getD i []).length : Int) + ((S.getD (i - 1) []).length : Int)) (by omega)]
      by_cases hg : 5 < (S.getD (i - 1) []).length + (S.getD i []).length
      ·rw [bif_pos (by omega), h2]
       simp only [bindO_val, bif_eq, ew]
       by_cases hz : scsV S = 0
       ·rw [if_pos hz, if_pos ⟨hp, hg, hz⟩]
       ·rw [if_neg hz, if_neg (fun c => hz c.2.2)]
      ·rw [bif_neg (by omega), if_neg (fun c => hg c.2.1), ew]
     ·rw [bif_neg (by omega), if_neg (fun c => hp c.1), ew]
    split
    ·rename_i c
     rw [if_pos c] at key
     exact Rscann_0a_of _ _ _ key
    ·rename_i c
     rw [if_neg c] at key
     have : Rscann_0 (Tscann_0a S.length (encS S) ((i + 1 : Nat) : Int)) = exO (Xscann_0a ()) ∨ Rscann_0 (Tscann_0a S.length (encS S) ((i + 1 : Nat) : Int)) = exO (Xscann_0b ()) := ih.imp id And.left
     rcases this with a | a
     ·rw [a] at key ⊢
      exact Rscann_0a_of _ _ _ key
     ·rw [a] at key ⊢
      exact Rscann_0a_of _ _ _ key
   rw [hs]
   split
   ·exact .inl rfl
   ·rename_i c
    refine ih.imp id fun ⟨a, b, c5⟩ => ⟨a, fun hz t t1 t2 t3 => ?_, fun t t1 t2 => by
     by_cases e : t = i
     ·subst e
      exact h5
     ·exact c5 t (by omega) t2⟩
    by_cases e : t = i
    ·subst e
     exact Nat.le_of_not_lt fun hlt => c ⟨t3, hlt, hz⟩
    ·exact b hz t (by omega) t2 t3
  ·left
   refine Rscann_0a_of _ _ _ ?_
   unfold Bscann_0a
   rw [bif_pos (by omega), bif_pos (by omega)]
   simp only [Int.toNat_natCast, Nat.mul_one, listS_get hi, bindO_val]
   rw [h1]
   simp only [bindO_val, h5, decide_false, cond_false]
   rfl
theorem scann_is (S : List (List Z3)) : Fscann [.list S.length (encS S)] = some false ∨ (Fscann [.list S.length (encS S)] = some true ∧ (scsV S = 0 → PairOK S) ∧ S.length ≤ 8 ∧ ∀ t, (S.getD t []).length ≤ 5) := by
 by_cases h : 8 < S.length
 ·left
  refine Fscann_of _ _ ?_
  unfold tscann
  rw [bif_pos (by omega)]
 ·have h0 := scann_loop S (by omega) S.length 0 (by omega) (fun h => absurd h (by omega))
  have e : Tscann_0a S.length (encS S) ((0 : Nat) : Int) = Tscann_0a S.length (encS S) 0 := rfl
  rw [e] at h0
  rcases h0 with h0 | ⟨h0, hp, h5⟩
  ·left
   refine Fscann_of _ _ ?_
   unfold tscann
   rw [bif_neg (by omega), Lscann_0a_of h0]
   rfl
  ·right
   refine ⟨Fscann_of _ _ ?_, fun hz t ht => ?_, by omega, fun t => by
    by_cases e : t < S.length
    ·exact h5 t (Nat.zero_le _) e
    ·rw [List.getD_eq_getElem?_getD, List.getElem?_eq_none (by omega)]
     exact Nat.zero_le _⟩
   ·unfold tscann
    rw [bif_neg (by omega), Lscann_0b_of h0]
    rfl
   ·have := hp hz (t + 1) (by omega) ht (by omega)
    rwa [Nat.add_sub_cancel] at this
theorem getD_memA {α : Type} {l : List α} {i : Nat} {d : α} (h : i < l.length) : l.getD i d ∈ l := by
 have e : l.getD i d = l[i] := by simp [List.getD, List.getElem?_eq_getElem h]
 rw [e]
 exact List.getElem_mem h
end Gv

/- What the tracks are, in plain words; how the law goes through their entries. -/
namespace Gv
open Go
set_option maxRecDepth 100000
structure TrOK (S : List (List Z3)) (miss : Int) (T : List (List ZZ)) : Prop where
 nd : T.flatten.Nodup
 pl : ∀ z ∈ T.flatten, ∃ t k : Nat, t < S.length ∧ k < (S.getD t []).length ∧ z = ((t : Int), (k : Int))
 ne : ∀ tr ∈ T, 0 < tr.length ∧ tr.length ≤ S.length
 st : ∀ tr ∈ T, ∀ q, q + 1 < tr.length → (tr.getD (q + 1) (0, 0)).1 = (tr.getD q (0, 0)).1 + 1 ∧ lnkAt (linksL S miss) (tr.getD q (0, 0)).1 (tr.getD q (0, 0)).2 = (tr.getD (q + 1) (0, 0)).2
def seen (T : List (List ZZ)) (p q : Nat) : List ZZ := (T.take p).flatten ++ (T.getD p []).take q
theorem getD_at {α : Type} {l : List α} {i : Nat} {d : α} (h : i < l.length) : l.getD i d = l[i] := by simp [List.getD, List.getElem?_eq_getElem h]
theorem listTT_get {T : List (List ZZ)} {p : Nat} (h : p < T.length) : listC (encTT T)[p]? = some ((T.getD p []).length, encG (T.getD p [])) := by
 unfold encTT
 rw [List.getElem?_map, List.getElem?_eq_getElem h, getD_at h]
 rfl
theorem encG_at {l : List ZZ} {q : Nat} {z : ZZ} (h : q < l.length) (he : l.getD q (0, 0) = z) : intC .i64 (encG l)[q * 2]? = some z.1 ∧ intC .i64 (encG l)[q * 2 + 1]? = some z.2 := by
 rw [encG_0, encG_1, List.getElem?_eq_getElem h, ← getD_at (d := (0, 0)) h, he]
 exact ⟨rfl, rfl⟩
theorem encT_at {l : List Z3} {k : Nat} (h : k < l.length) : intC .i64 (encT l)[k * 3]? = some (vAt l k).1 ∧ intC .i64 (encT l)[k * 3 + 1]? = some (vAt l k).2.1 ∧ intC .i64 (encT l)[k * 3 + 1 + 1]? = some (vAt l k).2.2 := by
 rw [encT_0, encT_1, encT_2, List.getElem?_eq_getElem h]
 unfold vAt
 rw [getD_at h]
 exact ⟨rfl, rfl, rfl⟩
end Gv
