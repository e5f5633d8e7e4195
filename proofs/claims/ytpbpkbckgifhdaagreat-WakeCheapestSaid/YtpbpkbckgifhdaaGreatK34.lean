import Derived.Test.YtpbpkbckgifhdaaGreatGvEnv
import Derived.Test.YtpbpkbckgifhdaaGreatK2
import Derived.Test.YtpbpkbckgifhdaaGreatK14

/- What the functions do, round by round: B13. -/
namespace Gv
open Go
set_option maxRecDepth 100000
end Gv

/- What the functions do, round by round: B16. -/
namespace Gv
open Go
set_option maxRecDepth 100000
end Gv

/- What the functions do, round by round: B17. -/
namespace Gv
open Go
set_option maxRecDepth 100000
end Gv

/- What the functions do, round by round: B18. -/
namespace Gv
open Go
set_option maxRecDepth 100000
end Gv

/- What the functions do, round by round: B19. -/
namespace Gv
open Go
set_option maxRecDepth 100000
end Gv

/- Scans, their links and tracks. -/
namespace Gv
open Go
set_option maxRecDepth 100000
def trackR (Ls : List (List Int)) : Nat → Nat → Int → List ZZ
 | 0, _, _ => []
 | m + 1, s, i => if 0 ≤ (Ls.getD s []).getD i.toNat 0 then ((s : Int) + 1, (Ls.getD s []).getD i.toNat 0) :: trackR Ls m (s + 1) ((Ls.getD s []).getD i.toNat 0) else []
def trackV (Ls : List (List Int)) (s : Nat) (i : Int) : List ZZ := ((s : Int), i) :: trackR Ls (Ls.length - s) s i
def LinksOK (Ls : List (List Int)) : Prop := ∀ s, s + 1 < Ls.length → ∀ x ∈ Ls.getD s [], x < ((Ls.getD (s + 1) []).length : Int)
theorem links_mem {Ls : List (List Int)} {s : Nat} {i : Int} (h : 0 ≤ i ∧ i < ((Ls.getD s []).length : Int)) : (Ls.getD s []).getD i.toNat 0 ∈ Ls.getD s [] := by
 have : i.toNat < (Ls.getD s []).length := by omega
 generalize Ls.getD s [] = r at this ⊢
 simp [List.getD, List.getElem?_eq_getElem this]
end Gv

/- The links of two scans. -/
namespace Gv
open Go
set_option maxRecDepth 100000
theorem prim3_fn {env : Nat → Option AFn} {f n m : Nat} {cs ds : List PV} {k : IntKind} {x : Int} {g : List PV → Option PV} {v : PV} (hf : env f = some (primA 3 g)) (hg : g [.list n cs, .list m ds, .int k x] = some v) : run env f [.list n cs, .list m ds, .int k x] = some (.val v) := by
 refine (run_iff env).2 ⟨2, ?_⟩
 have e : exN (callN env 1) 1 (primA 3 g).body (start (primA 3 g) [.list n cs, .list m ds, .int k x]) = some (.normal, ⟨[.p (.list n cs), .p (.list m ds), .p (.int k x), .p v], [Blk.none, Blk.none, Blk.none, Blk.none]⟩) := by
  show exN (callN env 1) 1 (.ops [{ dst := some 3, grd := none, args := [.tmp 0, .tmp 1, .tmp 2], k := .l (.prim g) }]) ⟨[.p (.list n cs), .p (.list m ds), .p (.int k x), .undef], [Blk.none, Blk.none, Blk.none, Blk.none]⟩ = _
  simp only [exN, exOps, exOp, grd]
  have hk : runK (callN env 1) (.l (.prim g)) [.p (.list n cs), .p (.list m ds), .p (.int k x)] [Blk.none, Blk.none, Blk.none, Blk.none] = some (.p v, [Blk.none, Blk.none, Blk.none, Blk.none]) := by
   simp only [runK, runL, pureAs, pureA, hg, Option.map_some]
  have ha : ([Arg.tmp 0, Arg.tmp 1, Arg.tmp 2].map (Arg.get [AV.p (.list n cs), .p (.list m ds), .p (.int k x), .undef])) = [.p (.list n cs), .p (.list m ds), .p (.int k x)] := rfl
  simp only [ha, hk]
  rfl
 rw [callN_fn env 1 f _ (fun sh caps e => by cases e)]
 simp only [hf]
 rw [if_pos ⟨rfl, rfl⟩, e]
 rfl
theorem encT_i64 (l : List Z3) : (encT l).all isI64 = true := by
 unfold encT
 rw [List.all_eq_true]
 intro x hx
 obtain ⟨z, _, hz⟩ := List.mem_flatMap.1 hx
 simp only [enc3, List.mem_cons, List.not_mem_nil, or_false] at hz
 rcases hz with rfl | rfl | rfl <;> rfl
def vAt (l : List Z3) (i : Nat) : Z3 := l.getD i (0, 0, 0)
theorem vOf_enc (l : List Z3) : vOf (encT l) = vAt l := by
 funext i
 unfold vOf vAt intAt
 have g0 := encT_0 l i
 have g1 := encT_1 l i
 have g2 : (encT l)[i * 3 + 2]? = _ := encT_2 l i
 rw [g0, g1, g2]
 by_cases hi : i < l.length
 ·simp [List.getD, List.getElem?_eq_getElem hi]
 ·simp [List.getD, List.getElem?_eq_none (show l.length ≤ i by omega)]
def lnk (a b : List Z3) (miss : Int) : List Int := (linksV a.length b.length miss (vAt a) (vAt b)).getD []
theorem lnk_is (a b : List Z3) (miss : Int) (h5 : a.length + b.length ≤ 5) : ∃ (d : List Nat) (k : Int), bestIn (costW (linkZ a.length b.length miss (vAt a) (vAt b))) (asgs (a.length + b.length)) = some (d, k) ∧ lnk a b miss = (List.range a.length).map fun j => lkV b.length (d.getD j 0) := by
 obtain ⟨⟨d, k⟩, h⟩ := bestIn_some (costW (linkZ a.length b.length miss (vAt a) (vAt b))) (l := asgs (a.length + b.length)) (ext_ne h5)
 refine ⟨d, k, h, ?_⟩
 unfold lnk linksV
 unfold asgs at h
 rw [h]
 rfl
theorem f114 (a b : List Z3) (miss : Int) (h5 : a.length + b.length ≤ 5) : Fn env 66 (RSh.one CK.list) [.list a.length (encT a), .list b.length (encT b), .int .i64 miss] = some (a.length, encI (lnk a b miss)) := by
 have hg : linksG [.list a.length (encT a), .list b.length (encT b), .int .i64 miss] = some (.list a.length (encI (lnk a b miss))) := by
  unfold linksG
  simp only
  rw [if_pos ⟨trivial, h5, encT_len a, encT_len b, encT_i64 a, encT_i64 b⟩, vOf_enc, vOf_enc]
  obtain ⟨d, k, h1, h2⟩ := lnk_is a b miss h5
  unfold linksV
  unfold asgs at h1
  rw [h1, h2]
  rfl
 unfold Fn
 rw [prim3_fn (env := env) (f := 66) rfl hg]
 rfl
end Gv

/- The links of all scans. -/
namespace Gv
open Go
set_option maxRecDepth 100000
def linkN (S : List (List Z3)) (miss : Int) : Nat → Nat → List (List Int)
 | 0, _ => []
 | m + 1, t => lnk (S.getD t []) (S.getD (t + 1) []) miss :: linkN S miss m (t + 1)
def linksL (S : List (List Z3)) (miss : Int) : List (List Int) := linkN S miss (S.length - 1) 0
end Gv

/- The tracks of all scans. -/
namespace Gv
open Go
set_option maxRecDepth 100000
def startC (Ls : List (List Int)) (t k : Nat) : Bool := decide (t = 0) || !((Ls.getD (t - 1) []).contains (k : Int))
section
variable (Ls : List (List Int)) (hL : Ls.length ≤ 1000) (ok : LinksOK Ls) (hr : ∀ r ∈ Ls, r.length ≤ 1000) (n5 : Nat) (c6 : List PV) (i7 : Int) (t len : Nat) (ht : t ≤ Ls.length) (hk : t < Ls.length → len = (Ls.getD t []).length) (hl : len ≤ 1000)
include hL ok hr ht hk hl
end
end Gv

/- The tracks of two scans or more. -/
namespace Gv
open Go
set_option maxRecDepth 100000
section
variable (Ls : List (List Int)) (hL : Ls.length ≤ 1000) (ok : LinksOK Ls) (hr : ∀ r ∈ Ls, r.length ≤ 1000) (S : List (List Z3)) (hS : S.length = Ls.length + 1) (hk : ∀ t, t < Ls.length → (S.getD t []).length = (Ls.getD t []).length) (hl : ∀ t, (S.getD t []).length ≤ 5)
include hL ok hr hS hk hl
end
end Gv

/- TracksOf. -/
namespace Gv
open Go
set_option maxRecDepth 100000
end Gv

/- TracksOf: the tracks of all scans, by their links. -/
namespace Gv
open Go
set_option maxRecDepth 100000
end Gv

/- What links are: they lead to different places, and cost at most two misses. -/
namespace Gv
open Go
set_option maxRecDepth 100000
end Gv

/- A link costs at most two misses. -/
namespace Gv
open Go
set_option maxRecDepth 100000
theorem costW_sum {Z : Nat → Nat → Int} {b : List Nat} (hl : b.length ≤ 5) (hZ : ∀ i j, -20000000 ≤ Z i j ∧ Z i j ≤ 20000000) : costW Z b = ((List.range b.length).map fun i => Z i (b.getD i 0)).sum := by
 have e : costW Z b = ((List.range b.length).map fun i => Z i (b.getD i 0)).foldl (fun a x => w64 (a + x)) 0 := by
  unfold costW
  rw [List.foldl_map]
 have hlen : ((List.range b.length).map fun i => Z i (b.getD i 0)).length = b.length := by simp
 rw [e, sumI_is (B := 20000000) _ 0 (fun x hx => by
  obtain ⟨i, _, rfl⟩ := List.mem_map.1 hx
  exact hZ i _) (by omega) (by omega) (by rw [hlen]; omega)]
 omega
end Gv

/- The entries of a track: what comes before and behind. -/
namespace Gv
open Go
set_option maxRecDepth 100000
def lnkAt (Ls : List (List Int)) (s x : Int) : Int := (Ls.getD s.toNat []).getD x.toNat 0
theorem trackR_ge (Ls : List (List Int)) : ∀ (m s : Nat) (i : Int) (z : ZZ), z ∈ trackR Ls m s i → (s : Int) + 1 ≤ z.1 ∧ 0 ≤ z.2
 | 0, _, _, z, h => by simp [trackR] at h
 | m + 1, s, i, z, h => by
  unfold trackR at h
  split at h
  ·rename_i hx
   rcases List.mem_cons.1 h with rfl | h
   ·exact ⟨Int.le_refl _, hx⟩
   ·have := trackR_ge Ls m (s + 1) _ z h
    exact ⟨by omega, this.2⟩
  ·cases h
end Gv

/- Each vortex is in one track. -/
namespace Gv
open Go
set_option maxRecDepth 100000
structure LinkSet (Ls : List (List Int)) : Prop where
 ok : LinksOK Ls
 inj : ∀ (s i j : Nat), s < Ls.length → i < (Ls.getD s []).length → j < (Ls.getD s []).length → (Ls.getD s []).getD i 0 = (Ls.getD s []).getD j 0 → 0 ≤ (Ls.getD s []).getD i 0 → i = j
theorem trackR_lt {Ls : List (List Int)} (ok : LinksOK Ls) : ∀ (m s : Nat) (i : Int) (z : ZZ), s + m = Ls.length → (s < Ls.length → 0 ≤ i ∧ i < ((Ls.getD s []).length : Int)) → z ∈ trackR Ls m s i → z.1 ≤ Ls.length ∧ (z.1 < Ls.length → z.2 < ((Ls.getD z.1.toNat []).length : Int))
 | 0, _, _, z, _, _, h => by simp [trackR] at h
 | m + 1, s, i, z, hm, hi, h => by
  unfold trackR at h
  split at h
  ·rename_i hx
   have hl : s + 1 < Ls.length → (Ls.getD s []).getD i.toNat 0 < ((Ls.getD (s + 1) []).length : Int) := fun h2 => ok s h2 _ (links_mem (hi (by omega)))
   rcases List.mem_cons.1 h with rfl | h
   ·refine ⟨by simp only; omega, fun h2 => ?_⟩
    simp only at h2 ⊢
    have := hl (by omega)
    rwa [show ((s : Int) + 1).toNat = s + 1 by omega]
   ·exact trackR_lt ok m (s + 1) _ z (by omega) (fun h2 => ⟨hx, hl h2⟩) h
  ·cases h
theorem trackV_mem {Ls : List (List Int)} {t : Nat} {k : Int} {z : ZZ} : z ∈ trackV Ls t k ↔ z ∈ ((t : Int), k) :: trackR Ls (Ls.length - t) t k := Iff.rfl
theorem track_in {Ls : List (List Int)} (ok : LinksOK Ls) {t : Nat} {k : Int} (ht : t ≤ Ls.length) (hk : 0 ≤ k) (hk2 : t < Ls.length → k < ((Ls.getD t []).length : Int)) {z : ZZ} (hz : z ∈ trackV Ls t k) : (t : Int) ≤ z.1 ∧ z.1 ≤ Ls.length ∧ 0 ≤ z.2 ∧ (z.1 < Ls.length → z.2 < ((Ls.getD z.1.toNat []).length : Int)) := by
 rcases List.mem_cons.1 (trackV_mem.1 hz) with rfl | h
 ·refine ⟨Int.le_refl _, by simp only; omega, hk, fun h => ?_⟩
  simp only at h ⊢
  rw [Int.toNat_natCast]
  exact hk2 (by omega)
 ·have h1 := trackR_ge Ls _ _ _ z h
  have h2 := trackR_lt ok _ _ _ z (by omega) (fun h => ⟨hk, hk2 h⟩) h
  exact ⟨by omega, h2.1, h1.2, h2.2⟩
structure Beg (Ls : List (List Int)) (t : Nat) (k : Int) : Prop where
 le : t ≤ Ls.length
 nn : 0 ≤ k
 lt : t < Ls.length → k < ((Ls.getD t []).length : Int)
 st : startC Ls t k.toNat = true
theorem Beg.first {Ls : List (List Int)} {t : Nat} {k : Int} (b : Beg Ls t k) (ok : LinksOK Ls) {t' : Nat} {k' : Int} (b' : Beg Ls t' k') {y : Int} (hy : ((t : Int) - 1, y) ∈ trackV Ls t' k') (hl : lnkAt Ls ((t : Int) - 1) y = k) : False := by
 have hin := track_in ok b'.le b'.nn b'.lt hy
 simp only at hin
 obtain ⟨s, rfl⟩ : ∃ s, t = s + 1 := ⟨t - 1, by omega⟩
 have hb := b.le
 have e : (((s + 1 : Nat) : Int) - 1) = (s : Int) := by omega
 rw [e] at hin hl
 have hlt := hin.2.2.2 (by omega)
 rw [Int.toNat_natCast] at hlt
 have hst := b.st
 unfold startC at hst
 have hc : (Ls.getD (s + 1 - 1) []).contains ((k.toNat : Nat) : Int) = true := by
  rw [List.contains_iff_mem, show ((k.toNat : Nat) : Int) = k by have := b.nn; omega, ← hl]
  unfold lnkAt
  rw [Int.toNat_natCast]
  exact links_mem ⟨hin.2.2.1, hlt⟩
 rw [hc] at hst
 simp at hst
end Gv

/- All entries of all tracks. -/
namespace Gv
open Go
set_option maxRecDepth 100000
section
variable {Ls : List (List Int)} (L : LinkSet Ls) {S : List (List Z3)} (hS : S.length ≤ Ls.length + 1) (hk : ∀ t, t < Ls.length → (S.getD t []).length = (Ls.getD t []).length)
include L hS hk
end
end Gv

/- The links of all scans: a set of links. -/
namespace Gv
open Go
set_option maxRecDepth 100000
end Gv

/- Each vortex is an entry of a track. -/
namespace Gv
open Go
set_option maxRecDepth 100000
end Gv

/- The entries of the tracks are the vortices, each once. -/
namespace Gv
open Go
set_option maxRecDepth 100000
end Gv

/- Copies of scans; how far two vortices are apart. -/
namespace Gv
open Go
set_option maxRecDepth 100000
end Gv

/- The law of tracks: how many vortices there are. -/
namespace Gv
open Go
set_option maxRecDepth 100000
end Gv

/- The law of tracks: an entry that was not seen before. -/
namespace Gv
open Go
set_option maxRecDepth 100000
end Gv

/- The reference's errors of scans; which scans the law looks at; the links of two scans. -/
namespace Gv
open Go
set_option maxRecDepth 100000
theorem getD_memA {α : Type} {l : List α} {i : Nat} {d : α} (h : i < l.length) : l.getD i d ∈ l := by
 have e : l.getD i d = l[i] := by simp [List.getD, List.getElem?_eq_getElem h]
 rw [e]
 exact List.getElem_mem h
end Gv

/- What the tracks are, in plain words; how the law goes through their entries. -/
namespace Gv
open Go
set_option maxRecDepth 100000
structure TrOK (S : List (List Z3)) (miss : Int) (T : List (List ZZ)) : Prop where
 nd : T.flatten.Nodup
 pl : ∀ z ∈ T.flatten, ∃ t k : Nat, t < S.length ∧ k < (S.getD t []).length ∧ z = ((t : Int), (k : Int))
 ne : ∀ tr ∈ T, 0 < tr.length ∧ tr.length ≤ S.length
 st : ∀ tr ∈ T, ∀ q, q + 1 < tr.length → (tr.getD (q + 1) (0, 0)).1 = (tr.getD q (0, 0)).1 + 1 ∧ lnkAt (linksL S miss) (tr.getD q (0, 0)).1 (tr.getD q (0, 0)).2 = (tr.getD (q + 1) (0, 0)).2
def seen (T : List (List ZZ)) (p q : Nat) : List ZZ := (T.take p).flatten ++ (T.getD p []).take q
theorem getD_at {α : Type} {l : List α} {i : Nat} {d : α} (h : i < l.length) : l.getD i d = l[i] := by simp [List.getD, List.getElem?_eq_getElem h]
end Gv
