import Derived.Test.YtfhgjanheaocaaaGvEnv1
import Derived.Test.YtfhgjanheaocaaaX7
import Derived.Deep.LoopGhost
import Derived.Deep.OwnRows
import Derived.Deep.Cut
import Derived.Deep.Light
import Derived.CellFam
import Derived.BigGuard

/- What the functions do, round by round: E1. -/
namespace Gv
open Go
set_option maxRecDepth 100000
def EcOf : List Entry := []
theorem EcOf_ok : ∀ e ∈ EcOf, EntOK env1 e := ent_nil
def TcOf_0a (n0 : Nat) (c1 : List PV) (i2 : Int) (n3 : Nat) (c4 : List PV) (i5 i6 : Int) : Q := ⟨(tm 26 [(0, (AV.p (PV.list n0 c1))), (5, (AV.p (PV.int .i64 i2))), (8, (AV.p (PV.list n3 c4))), (9, (AV.p (PV.int .i64 i5))), (10, (AV.p (PV.int .i64 i6)))]), (mm 26 [])⟩
def XcOf_0a (y : Int) : Ext × Q := (Ext.normal, ⟨(tm 26 [(5, (AV.p (PV.int .i64 y)))]), (mm 26 [])⟩)
def IcOf_0a (q : Ext × S) : Int := (pP_int1 (pA_p (avT q.2 5)))
abbrev YcOf_0 : Type := Int
def XLcOf_0 : XL YcOf_0 := .one XcOf_0a
def IcOf_0 (q : Ext × S) : YcOf_0 := (IcOf_0a q)
theorem XIcOf_0a (y : Int) : IcOf_0 (xe (XcOf_0a y)) = y := by kernel_rfl
theorem XIcOf_0 (y : YcOf_0) : IcOf_0 (xe (XLcOf_0.fn y)) = y := XIcOf_0a y
noncomputable abbrev LcOf_0 : Q → Option YcOf_0 := lpO env1 a69.body 0 XLcOf_0
noncomputable abbrev RcOf_0 : Q → Option (Ext × S) := lpR env1 a69.body 0
theorem LcOf_0a_of {s : Q} {y : Int} (h : RcOf_0 s = exO (XcOf_0a y)) : LcOf_0 s = some y := lpO_of IcOf_0 XIcOf_0 (y := y) h
theorem UcOf : uniq ((blocksOf a69.body).map (·.1)) = true := by kernel_rfl
def BcOf_0a (_F : FnT) (N : QO) (E : EO) (_L0 : Q → Option YcOf_0) (n0 : Nat) (c1 : List PV) (i2 : Int) (n3 : Nat) (c4 : List PV) (i5 i6 : Int) : Option (Ext × S) :=
  bif (decide (i6 < i5)) then
    bif (decide (((0 : Int) ≤ i6) ∧ (i6 < (n3 : Int)))) then
      bindO (intC .i64 (c4[((Int.toNat i6) * 1)]?)) fun x0 =>
      bif (decide (((0 : Int) ≤ i6) ∧ (i6 < (n0 : Int)))) then
        bindO (listC (c1[((Int.toNat i6) * 1)]?)) fun x1 =>
        bif (decide (((0 : Int) ≤ x0) ∧ (x0 < (x1.1 : Int)))) then
          bindO (intC .i64 (x1.2[((Int.toNat x0) * 1)]?)) fun x2 =>
          N (TcOf_0a n0 c1 (w64 (i2 + x2)) n3 c4 i5 (w64 (i6 + (1 : Int))))
        else none
      else none
    else none
  else E (XcOf_0a i2)
theorem BcOf_0a_eq (F : FnT) (N : QO) (E : EO) (L0 : Q → Option YcOf_0) (n0 : Nat) (c1 : List PV) (i2 : Int) (n3 : Nat) (c4 : List PV) (i5 i6 : Int) : semB (callP F EcOf 20) s69 (loopT [⟨0, YcOf_0, L0, XLcOf_0⟩]) 400 (blkIn a69.body 0) N E (TcOf_0a n0 c1 i2 n3 c4 i5 i6) = BcOf_0a F N E L0 n0 c1 i2 n3 c4 i5 i6 := by kernel_rfl
theorem RcOf_0a_of  (n0 : Nat) (c1 : List PV) (i2 : Int) (n3 : Nat) (c4 : List PV) (i5 i6 : Int) {r : Ext × S} (h : BcOf_0a (Fn env1) RcOf_0 exO LcOf_0 n0 c1 i2 n3 c4 i5 i6 = some r) : RcOf_0 (TcOf_0a n0 c1 i2 n3 c4 i5 i6) = some r :=
  lp_of EcOf_ok (by kernel_rfl) (lo_cons (lpO_ok UcOf) lo_nil) (by kernel_rfl) ((BcOf_0a_eq _ _ _ _ _ _ _ _ _ _ _).trans h)
def tcOf (_F : FnT) (L0 : Q → Option YcOf_0) (p0n : Nat) (p0c : List PV) (p1n : Nat) (p1c : List PV) : Option (Int) :=
  bindO (L0 (TcOf_0a p0n p0c (0 : Int) p1n p1c (p1n : Int) (0 : Int))) fun y0 =>
  some y0
theorem tcOf_eq (F : FnT) (L0 : Q → Option YcOf_0) (p0n : Nat) (p0c : List PV) (p1n : Nat) (p1c : List PV) : semF (callP F EcOf 20) s69 (loopT [⟨0, YcOf_0, L0, XLcOf_0⟩]) 400 a69 [PV.list p0n p0c, PV.list p1n p1c] (fun rv => decR (RSh.one (CK.int .i64)) rv.pv) = tcOf F L0 p0n p0c p1n p1c := by kernel_rfl
noncomputable abbrev FcOf (args : List PV) := Fn env1 69 (RSh.one (CK.int .i64)) args
theorem FcOf_of  (p0n : Nat) (p0c : List PV) (p1n : Nat) (p1c : List PV) {res : (Int)} (h : tcOf (Fn env1) LcOf_0 p0n p0c p1n p1c = some res) : FcOf [PV.list p0n p0c, PV.list p1n p1c] = some res :=
  fn_of EcOf_ok rfl rfl (lo_cons (lpO_ok UcOf) lo_nil) ((tcOf_eq _ _ _ _ _ _).trans h)
def Esz : List Entry := []
theorem Esz_ok : ∀ e ∈ Esz, EntOK env1 e := ent_nil
def tsz (_F : FnT) (p0 : Int) : Option (Int) :=
  some (if ((w64 ((0 : Int) - p0)) > p0) then (w64 ((0 : Int) - p0)) else p0)
theorem tsz_eq (F : FnT) (p0 : Int) : semF (callP F Esz 20) s77 (loopT []) 400 a77 [PV.int .i64 p0] (fun rv => decR (RSh.one (CK.int .i64)) rv.pv) = tsz F p0 := by kernel_rfl
noncomputable abbrev Fsz (args : List PV) := Fn env1 77 (RSh.one (CK.int .i64)) args
theorem Fsz_of  (p0 : Int) {res : (Int)} (h : tsz (Fn env1) p0 = some res) : Fsz [PV.int .i64 p0] = some res :=
  fn_of Esz_ok rfl rfl lo_nil ((tsz_eq _ _).trans h)
def Eapa : List Entry := [.out 77 (RSh.one (CK.int .i64))]
theorem Eapa_ok : ∀ e ∈ Eapa, EntOK env1 e := (ent_out ent_nil)
def tapa (F : FnT) (p0_0 p0_1 p0_2 p1_0 p1_1 p1_2 : Int) : Option (Int) :=
  bindO (F 77 (RSh.one (CK.int .i64)) [(PV.int .i64 (w64 (p0_2 - p1_2)))]) fun (y0 : (Int)) =>
  some (w64 ((w64 ((w64 ((w64 (p0_0 - p1_0)) * (w64 (p0_0 - p1_0)))) + (w64 ((w64 (p0_1 - p1_1)) * (w64 (p0_1 - p1_1)))))) + y0))
theorem tapa_eq (F : FnT) (p0_0 p0_1 p0_2 p1_0 p1_1 p1_2 : Int) : semF (callP F Eapa 20) s106 (loopT []) 400 a106 [PV.agg [PV.int .i64 p0_0, PV.int .i64 p0_1, PV.int .i64 p0_2], PV.agg [PV.int .i64 p1_0, PV.int .i64 p1_1, PV.int .i64 p1_2]] (fun rv => decR (RSh.one (CK.int .i64)) rv.pv) = tapa F p0_0 p0_1 p0_2 p1_0 p1_1 p1_2 := by kernel_rfl
noncomputable abbrev Fapa (args : List PV) := Fn env1 106 (RSh.one (CK.int .i64)) args
theorem Fapa_of  (p0_0 p0_1 p0_2 p1_0 p1_1 p1_2 : Int) {res : (Int)} (h : tapa (Fn env1) p0_0 p0_1 p0_2 p1_0 p1_1 p1_2 = some res) : Fapa [PV.agg [PV.int .i64 p0_0, PV.int .i64 p0_1, PV.int .i64 p0_2], PV.agg [PV.int .i64 p1_0, PV.int .i64 p1_1, PV.int .i64 p1_2]] = some res :=
  fn_of Eapa_ok rfl rfl lo_nil ((tapa_eq _ _ _ _ _ _ _).trans h)
end Gv

/- A loop over all assignments whose body keeps the rows: its law. -/
namespace Gv
open Go Go.Proofs Go.RowKit Go.Lib Go.Shelf
set_option maxRecDepth 100000
section
variable {J : Nat → JT} {ac : Addr} {c by' bx l : Nat} {xv : Value} {rows : List (List Nat)} {K : Nat}
theorem own_wrap (hab : ∀ i, Abides2 (J i))
    (hB : ∀ (i : Nat) (X : Nat → Prop) (St : Nat → Nat → Prop) (w : World) (v : Value) (b : List Nat), i ≤ K → rows[i]? = some b → J i X St w → (∀ q, X q → q < w.heap.size) → (∀ b o, St b o → b < w.heap.size) → w.ownsRow 0 3 1 v b.length (valN b) →
      (∀ q, v.ownBlock = some q → ¬ X q ∧ ∀ o, o < b.length → St q o) →
      YieldAt Fence.wide 0 Try.prog l #[v] w fun e w' => e = .returned (.bool (i != K)) ∧ ∃ X' St', J (i + 1) X' St' w' ∧ Yields X St w X' St' w') : YOwn J ac c by' bx l xv rows K := by
  intro i X St w v b hi hr bed row
  have hv : ∀ q, v.ownBlock = some q → q ≠ by' ∧ q ≠ bx := fun q hq => (row.nx q hq).2.2
  obtain ⟨St1, hSt1⟩ : ∃ St1 : Nat → Nat → Prop, St1 = fun q o => St q o ∨ (v.ownBlock = some q ∧ o < b.length) := ⟨_, rfl⟩
  have ev : Evo St w St1 w := by
    subst hSt1
    exact fun _ _ h => ⟨.inl h, rfl⟩
  have slt1 : ∀ q o, St1 q o → q < w.heap.size := fun q o hs => by
    subst hSt1
    rcases hs with hs | hs
    · exact bed.slt q o hs
    · obtain ⟨_, cur, _, hq, _⟩ := own_lt row.own hs.1
      exact heap_lt hq
  have j1 : J i X St1 w := hab i X St St1 w w none bed.j (grownBy_below (Below.refl _ w)) (by simp) (by simp) ev slt1 fun q o hs => by
    subst hSt1
    rcases hs with hs | hs
    · exact .inl hs
    · exact .inr (row.nx q hs.1).1
  have bed1 : Bed J ac c by' bx l xv i X St1 w := ⟨j1, bed.xlt, slt1, ⟨(ev _ _ bed.s1.1).1, bed.s1.2⟩, bed.c1, bed.c2, bed.c3, bed.n2, bed.n3⟩
  refine YieldAt.mono (hB i X St1 w v b hi hr j1 bed.xlt slt1 row.own fun q hq => ⟨(row.nx q hq).1, fun o ho => by subst hSt1; exact .inr ⟨hq, ho⟩⟩) ?_
  rintro e w2 ⟨rfl, X', St', hj, hys⟩
  have went2 : Went v b.length X St1 w X' St' w2 := Went.yields (v := v) (n := b.length) hys
  refine ⟨rfl, X', St', bed1.went went2 hv hj hys.lt hys.stlt, went2.size, went2.keep, went2.row, went2.mono, went2.new, ev.trans went2.evo, fun q o hs => ?_⟩
  rcases went2.stnew q o hs with h1 | h1 | h1
  · subst hSt1
    rcases h1 with h1 | h1
    · exact .inl h1
    · exact .inr (.inr (.inr h1.1))
  · exact .inr (.inl h1)
  · exact .inr (.inr (.inl h1))
end
def LJ (I : Nat → JT) (l D : Nat) (r : Loop) (i : Nat) : JT := fun X St W => I i X St W ∧ W.heap[l]? = some (.loop r) ∧ W.heap[D]? = some (.deferred (some [])) ∧ X l ∧ X D ∧ ∀ o, ¬ St l o
theorem LJ.abides {I : Nat → JT} (hI : ∀ i, Abides2 (I i)) (l D : Nat) (r : Loop) (i : Nat) : Abides2 (LJ I l D r i) := by
  rintro X St St' w w' row ⟨h1, h2, h3, h4, h5, h6⟩ hg hr hk ev hlt hn
  have keep : ∀ q, X q → ∀ o, w.heap[q]? = some o → w'.heap[q]? = some o := fun q hx o hq => (hg.block q (heap_lt hq) (fun e => hr q (by simpa using e.symm) hx)).trans hq
  exact ⟨hI i X St St' w w' row h1 hg hr hk ev hlt hn, keep l h4 _ h2, keep D h5 _ h3, h4, h5, fun o hs => (hn l o hs).elim (h6 o) (fun h => h h4)⟩
theorem range_own {g : Operand} {ps : Array Tmp} {assign body : Code} {Q : Exit → Act → World → Prop} {a : Act} {w : World} {ad : Addr} {c : Nat} {a₁ : Value → Act} (hps : ps.size = 1) (hg : a.eval g = .func (.func 109) #[] #[.pointer (some ad)]) (hc8 : c ≤ 8) (had : w.cell? ad = some (.int .i64 (c : Int)))
    (hform : ad = ⟨ad.block, ad.off, none⟩) (I : Nat → JT) (hI2 : ∀ i, Abides2 (I i)) (hput : ∀ i X St W l r r', w.heap.size ≤ l → I i X St W → W.heap[l]? = some (.loop r) → (∀ o, ¬ St l o) → I i X St (W.putObj l (.loop r')))
    (h0 : ∀ W1, Below w.heap.size w W1 → I 0 (fun q => q < W1.heap.size) (fun b o => b = ad.block ∧ o = ad.off) W1)
    (hassign : ∀ (l : Nat) (v : Value) (W : World) (K : Act → World → Prop), K (a₁ v) W → assign.wpIn (Fence.wide.inRound l) 0 Try.prog (Exit.then K (fun _ _ _ => False)) { tmps := (ps.zip #[v]).foldl (fun t (p, v) => t.setIfInBounds p v) a.tmps, defers := [] } W)
    (hbody : ∀ (l D i : Nat) (X : Nat → Prop) (St : Nat → Nat → Prop) (W : World) (v : Value) (b : List Nat) (r : Loop), (ext c c [])[i]? = some b → I i X St W → (∀ q, X q → q < W.heap.size) → (∀ b o, St b o → b < W.heap.size) → W.ownsRow 0 3 1 v b.length (valN b) → (∀ q, v.ownBlock = some q → ¬ X q ∧ ∀ o, o < b.length → St q o) →
      W.heap[l]? = some (.loop r) → W.heap[D]? = some (.deferred (some [])) → X l → X D → (∀ o, ¬ St l o) →
      body.wpIn (Fence.wide.inRound l) 0 Try.prog (fun e _ W3 => e = .normal ∧ ∃ X', I (i + 1) X' St W3 ∧ Yields X St W X' St W3 ∧ W3.heap[l]? = W.heap[l]? ∧ W3.heap[D]? = W.heap[D]?) (a₁ v) W)
    (hdone : ∀ (D : Nat) (X : Nat → Prop) (St : Nat → Nat → Prop) (W : World), I (ext c c []).length X St W → w.heap.size ≤ D → W.heap[D]? = some (.deferred (some [])) → Q .normal { a with defers := { target := .collected D, args := #[] } :: a.defers } W) :
    (Code.rangeFunc g ps assign body).wpIn Fence.wide 0 Try.prog Q a w := by
  refine wpIn_rangeFunc fun fn hfn => ?_
  obtain ⟨rec, hrec⟩ : ∃ rec : LoopState → Loop, rec = fun st => { state := st, pending := none, fn, tmps := a.tmps, params := ps, assign, body, defers := w.heap.size } := ⟨_, rfl⟩
  obtain ⟨W1, hW1⟩ : ∃ W1, (w.alloc (.deferred (some []))).alloc (.loop (rec .ready)) = W1 := ⟨_, rfl⟩
  have hL1 : W1.heap[w.heap.size + 1]? = some (.loop (rec .ready)) := by
    rw [← hW1]; have := World.alloc_heap_new (w.alloc (.deferred (some []))) (.loop (rec .ready)); rwa [World.size_alloc] at this
  have hK1 : W1.heap[w.heap.size]? = some (.deferred (some [])) := by
    rw [← hW1]; exact (Below.heap_alloc _ _ _ (by simp)).trans (World.alloc_heap_new w _)
  have hb1 : Below w.heap.size w W1 := by
    rw [← hW1]; exact ((Below.refl _ w).alloc (Nat.le_refl _) _).alloc (by simp) _
  have hadlt : ad.block < w.heap.size := World.block_lt_of_cell? _ _ had
  have hlr := heap_lt hL1
  refine ⟨w.heap.size + 1, [{ target := .collected w.heap.size, args := #[] }], W1, { target := .fn (.func 109) #[.pointer (some ad)], args := #[.func (.yield (w.heap.size + 1)) #[] #[]] }, W1, 109,
    #[.func (.yield (w.heap.size + 1)) #[] #[], .pointer (some ad)], W1, ?_, ?_, fun _ _ => trivial, ?_, (fun h => by cases h), ?_⟩
  · rw [← hW1, hrec]; exact run_enterLoop_outer _ _ _ _ _
  · simp only [resolve, hg]
    simp [go_sem]
  · simp [invoke, go_sem]
  · have hnl : ∀ o, ¬ (w.heap.size + 1 = ad.block ∧ o = ad.off) := fun o h => by omega
    have hcalls := own163 (J := LJ I (w.heap.size + 1) w.heap.size (rec .ready)) (K := (ext c c []).length) (l := w.heap.size + 1) (w := W1) (X := fun q => q < W1.heap.size) (St := fun b o => b = ad.block ∧ o = ad.off) hc8
      (LJ.abides hI2 _ _ _) (fun _ => Iff.rfl) (fun b o h => by rw [h.1]; exact Nat.lt_of_lt_of_le hadlt hb1.size) ⟨rfl, rfl⟩ ((hb1.cell (p := ad) hadlt).trans had) hform ?_ ⟨h0 W1 hb1, hL1, hK1, by omega, by omega, hnl⟩
    · refine callsFW (hcalls.mono ?_)
      rintro e W2 ⟨v, X2, St2, rfl, ⟨hi, hl, hk, _, _, hns⟩, _⟩
      rw [Nat.min_eq_right (by omega)] at hi
      have hend := run_endLoop (P := Try.prog) hl (by simp [hrec])
      subst hrec
      refine ⟨none, _, hend, ?_⟩
      exact hdone _ X2 St2 _ (hput _ _ _ _ _ _ _ (by omega) hi hl hns) (Nat.le_refl _) ((World.putObj_heap_other (by omega)).trans hk)
    · intro by' bx xv
      refine own_wrap (LJ.abides hI2 _ _ _) fun i X St W v b hi hr hJ hX hSt hown hcells => ?_
      obtain ⟨hi1, hl, hk, hxl, hxd, hns⟩ := hJ
      have hilt := (List.getElem?_eq_some_iff.1 hr).1
      have hy := run_yield (P := Try.prog) (args := #[v]) hl (by rw [hrec]; exact hps.symm)
      rw [hrec] at hy
      refine ⟨fn, _, assign, body, hy, roundIn_of_wpIn hfn (hassign _ v W _ ⟨_, run_beginRound hl (by rw [hrec]), ?_⟩)⟩
      have hlt : w.heap.size + 1 < W.heap.size := heap_lt hl
      have hl2 : (W.putObj (w.heap.size + 1) (.loop { rec .ready with state := .busy })).heap[w.heap.size + 1]? = some (.loop { rec .ready with state := .busy }) := World.putObj_heap_same hlt
      have hk2 : (W.putObj (w.heap.size + 1) (.loop { rec .ready with state := .busy })).heap[w.heap.size]? = some (.deferred (some [])) := (World.putObj_heap_other (by omega)).trans hk
      have hsz2 : (W.putObj (w.heap.size + 1) (.loop { rec .ready with state := .busy })).heap.size = W.heap.size := World.putObj_size
      have hoth : ∀ q, q ≠ w.heap.size + 1 → (W.putObj (w.heap.size + 1) (.loop { rec .ready with state := .busy })).heap[q]? = W.heap[q]? := fun q hq => World.putObj_heap_other hq
      have hown2 : (W.putObj (w.heap.size + 1) (.loop { rec .ready with state := .busy })).ownsRow 0 3 1 v b.length (valN b) := by
        refine ⟨hown.1, hown.2.imp id ?_⟩
        rintro ⟨g, cap, cur, rfl, h1, h2, h3⟩
        exact ⟨g, cap, cur, rfl, h1, (hoth g (fun e => (hcells g rfl).1 (e ▸ hxl))).trans h2, h3⟩
      have hi2 := hput _ _ _ _ _ _ { rec .ready with state := .busy } (by omega) hi1 hl hns
      rw [hrec] at hi2 hl2 hk2 hsz2 hoth hown2
      rw [hrec]
      refine wpIn_mono (hbody (w.heap.size + 1) w.heap.size i X St _ v b _ hr hi2 (fun q hq => by rw [hsz2]; exact hX q hq) (fun b o hs => by rw [hsz2]; exact hSt b o hs) hown2 hcells hl2 hk2 hxl hxd hns) ?_
      rintro e a3 W3 ⟨rfl, X', hi3, hys, hl3, hk3⟩
      have hl3' := hl3.trans hl2
      have hlt3 := heap_lt hl3'
      have hsz3 : ∀ r, (W3.putObj (w.heap.size + 1) (.loop r)).heap.size = W3.heap.size := fun _ => World.putObj_size
      refine ⟨_, _, run_endRound none hl3', ?_, X', St, ⟨hput _ _ _ _ _ _ _ (by omega) hi3 hl3' hns, World.putObj_heap_same hlt3, (World.putObj_heap_other (by omega)).trans (hk3.trans hk2), hys.mono _ hxl, hys.mono _ hxd, hns⟩, ?_⟩
      · have : (i != (ext c c []).length) = true := by simp; omega
        rw [this]
        rfl
      · have ne : ∀ {b o}, St b o → b ≠ w.heap.size + 1 := fun {b o} hs e => hns o (e ▸ hs)
        refine ⟨?_, fun q hq hx => ?_, hys.mono, fun q hq => ?_, fun q hq => ?_, fun b o hs => ⟨hs, ?_⟩, fun b o hs => ?_, fun b o hs => .inl hs⟩
        · rw [hsz3]
          have := hys.size
          rw [hsz2] at this
          exact this
        · have hne : q ≠ w.heap.size + 1 := fun e => hx (e ▸ hxl)
          exact (World.putObj_heap_other hne).trans ((hys.keep q (by rw [hsz2]; exact hq) hx).trans (hoth q hne))
        · have := hys.new q hq
          rw [hsz2] at this
          exact this
        · rw [hsz3]
          exact hys.lt q hq
        · exact (World.cell?_of_block (World.putObj_heap_other (ne hs))).trans ((hys.evo b o hs).2.trans (World.cell?_of_block (hoth b (ne hs))))
        · rw [hsz3]
          exact hys.stlt b o hs
end Gv

/- The cheapest assignment, in memory of the call's own. -/
namespace Gv
open Go Go.Proofs Go.RowKit Go.Lib Go.Shelf
attribute [local go_sem] Oper.semAt_some
set_option maxRecDepth 100000
def bestStep (cost : List Nat → Int) (s : Option (List Nat × Int)) (b : List Nat) : Option (List Nat × Int) := match s with
  | none => some (b, cost b)
  | some (x, k) => if cost b < k then some (b, cost b) else some (x, k)
def bestIn (cost : List Nat → Int) (l : List (List Nat)) : Option (List Nat × Int) := l.foldl (bestStep cost) none
def allStep (cost : List Nat → Int) (s : Option (List (List Nat) × Int)) (b : List Nat) : Option (List (List Nat) × Int) := match s with
  | none => some ([b], cost b)
  | some (bs, k) => if cost b < k then some ([b], cost b) else if cost b = k then some (bs ++ [b], k) else some (bs, k)
def allIn (cost : List Nat → Int) (l : List (List Nat)) : Option (List (List Nat) × Int) := l.foldl (allStep cost) none
theorem allIn_snoc (cost : List Nat → Int) (l : List (List Nat)) (b : List Nat) : allIn cost (l ++ [b]) = allStep cost (allIn cost l) b := by simp [allIn]
theorem allStep_some (cost : List Nat → Int) (s : Option (List (List Nat) × Int)) (b : List Nat) : ∃ y, allStep cost s b = some y := by
  unfold allStep
  split
  · exact ⟨_, rfl⟩
  · split
    · exact ⟨_, rfl⟩
    · split <;> exact ⟨_, rfl⟩
theorem allIn_some (cost : List Nat → Int) {l : List (List Nat)} (h : l ≠ []) : ∃ y, allIn cost l = some y := by
  obtain ⟨m, b, rfl⟩ : ∃ m b, l = m ++ [b] := ⟨l.dropLast, l.getLast h, (List.dropLast_concat_getLast h).symm⟩
  rw [allIn_snoc]
  exact allStep_some _ _ _
theorem all_best (cost : List Nat → Int) : ∀ (l : List (List Nat)) (s : Option (List (List Nat) × Int)) (t : Option (List Nat × Int)), ((s = none ∧ t = none) ∨ ∃ b bs k, s = some (b :: bs, k) ∧ t = some (b, k)) →
    ((l.foldl (allStep cost) s = none ∧ l.foldl (bestStep cost) t = none) ∨ ∃ b bs k, l.foldl (allStep cost) s = some (b :: bs, k) ∧ l.foldl (bestStep cost) t = some (b, k))
  | [], _, _, h => h
  | x :: l, s, t, h => by
    rw [List.foldl_cons, List.foldl_cons]
    refine all_best cost l _ _ (.inr ?_)
    rcases h with ⟨rfl, rfl⟩ | ⟨b, bs, k, rfl, rfl⟩
    · exact ⟨x, [], cost x, rfl, rfl⟩
    · unfold allStep bestStep
      by_cases h1 : cost x < k
      · simp only [h1, if_true]
        exact ⟨x, [], cost x, rfl, rfl⟩
      · by_cases h2 : cost x = k
        · simp only [h1, if_false]
          rw [if_pos h2]
          exact ⟨b, bs ++ [x], k, rfl, rfl⟩
        · simp only [h1, h2, if_false]
          exact ⟨b, bs, k, rfl, rfl⟩
theorem best_all {cost : List Nat → Int} {l : List (List Nat)} {b : List Nat} {bs : List (List Nat)} {k : Int} (h : allIn cost l = some (b :: bs, k)) : bestIn cost l = some (b, k) := by
  rcases all_best cost l none none (.inl ⟨rfl, rfl⟩) with ⟨h1, _⟩ | ⟨b', bs', k', h1, h2⟩
  · exact absurd (h.symm.trans h1) (by simp)
  · have h1 : allIn cost l = _ := h1
    rw [h] at h1
    simp only [Option.some.injEq, Prod.mk.injEq, List.cons.injEq] at h1
    obtain ⟨⟨rfl, _⟩, rfl⟩ := h1
    exact h2
theorem take_snoc {α : Type} {l : List α} {i : Nat} {b : α} (h : l[i]? = some b) : l.take (i + 1) = l.take i ++ [b] := by
  rw [List.take_add_one, h]
  rfl
theorem own_keep {w w' : World} {B e sz n : Nat} {v : Value} {xs : List Value} (h : w.ownsRow B e sz v n xs) (hk : ∀ q, v.ownBlock = some q → w'.heap[q]? = w.heap[q]?) : w'.ownsRow B e sz v n xs := by
  refine ⟨h.1, h.2.imp id ?_⟩
  rintro ⟨g, cap, cur, rfl, h1, h2, h3⟩
  exact ⟨g, cap, cur, rfl, h1, (hk g rfl).trans h2, h3⟩
theorem own_less {w : World} {B B' e sz n : Nat} {v : Value} {xs : List Value} (h : w.ownsRow B e sz v n xs) (hB : B' ≤ B) : w.ownsRow B' e sz v n xs := by
  refine ⟨h.1, h.2.imp id ?_⟩
  rintro ⟨g, cap, cur, rfl, h1, h2, h3⟩
  exact ⟨g, cap, cur, rfl, Nat.le_trans hB h1, h2, h3⟩
theorem ext_ne {c : Nat} (hc : c ≤ 5) : ext c c [] ≠ [] := by
  have : c = 0 ∨ c = 1 ∨ c = 2 ∨ c = 3 ∨ c = 4 ∨ c = 5 := by omega
  rcases this with rfl | rfl | rfl | rfl | rfl | rfl <;> (intro h; have h' := congrArg List.isEmpty h; revert h'; decide +kernel)
theorem ext_len {c : Nat} (hc : c ≤ 5) : (ext c c []).length ≤ 120 := by
  have : c = 0 ∨ c = 1 ∨ c = 2 ∨ c = 3 ∨ c = 4 ∨ c = 5 := by omega
  rcases this with rfl | rfl | rfl | rfl | rfl | rfl <;> decide +kernel
theorem ext_row {c : Nat} (hc : c ≤ 5) : ∀ b ∈ ext c c [], b.length = c := by
  have : c = 0 ∨ c = 1 ∨ c = 2 ∨ c = 3 ∨ c = 4 ∨ c = 5 := by omega
  rcases this with rfl | rfl | rfl | rfl | rfl | rfl <;> decide +kernel
theorem own_stay {w w' : World} {B n : Nat} {v : Value} {xs : List Value} (h : w.ownsRow B 3 1 v n xs) (hk : ∀ q cur, v.ownBlock = some q → w.heap[q]? = some (.cells cur 3 (0, 0)) → ∃ cur', w'.heap[q]? = some (.cells cur' 3 (0, 0)) ∧ cur'.size = cur.size)
    (hc : ∀ q o, v.ownBlock = some q → o < n → w'.cell? ⟨q, o, none⟩ = w.cell? ⟨q, o, none⟩) : w'.ownsRow B 3 1 v n xs := by
  refine ⟨h.1, h.2.imp id ?_⟩
  rintro ⟨g, cap, cur, rfl, h1, h2, h3, h4, h5, h6⟩
  obtain ⟨cur', k1, k2⟩ := hk g cur rfl h2
  refine ⟨g, cap, cur', rfl, h1, k1, h3, h4, k2.trans h5, ?_⟩
  rw [← h6]
  apply List.ext_getElem?
  intro j
  rw [List.getElem?_take, List.getElem?_take]
  split
  · have := hc g j rfl (by omega)
    rw [cell_of_row w' g j cur' 3 (0, 0) k1, cell_of_row w g j cur 3 (0, 0) h2] at this
    simpa using this
  · rfl
def RowsOK (W : World) (B c : Nat) (X : Nat → Prop) (St : Nat → Nat → Prop) (us : List Value) (bs : List (List Nat)) : Prop :=
  us.length = bs.length ∧ ∀ (j : Nat) (u : Value) (b : List Nat), us[j]? = some u → bs[j]? = some b → W.ownsRow B 3 1 u c (valN b) ∧ ∀ q, u.ownBlock = some q → ¬ X q ∧ ∀ o, o < c → St q o
theorem rows_one {W : World} {B c : Nat} {X : Nat → Prop} {St : Nat → Nat → Prop} {u : Value} {b : List Nat} (h : W.ownsRow B 3 1 u c (valN b)) (h2 : ∀ q, u.ownBlock = some q → ¬ X q ∧ ∀ o, o < c → St q o) : RowsOK W B c X St [u] [b] := by
  refine ⟨rfl, fun j v d hj hk => ?_⟩
  cases j with
  | zero =>
    simp only [List.getElem?_cons_zero, Option.some.injEq] at hj hk
    subst hj
    subst hk
    exact ⟨h, h2⟩
  | succ j => simp at hj
theorem rows_snoc {W : World} {B c : Nat} {X : Nat → Prop} {St : Nat → Nat → Prop} {us : List Value} {bs : List (List Nat)} {u : Value} {b : List Nat} (h0 : RowsOK W B c X St us bs) (h : W.ownsRow B 3 1 u c (valN b)) (h2 : ∀ q, u.ownBlock = some q → ¬ X q ∧ ∀ o, o < c → St q o) : RowsOK W B c X St (us ++ [u]) (bs ++ [b]) := by
  refine ⟨by simp [h0.1], fun j v d hj hk => ?_⟩
  by_cases hl : j < us.length
  · rw [List.getElem?_append_left hl] at hj
    rw [List.getElem?_append_left (by have := h0.1; omega)] at hk
    exact h0.2 j v d hj hk
  · rw [List.getElem?_append_right (by omega)] at hj
    rw [List.getElem?_append_right (by have := h0.1; omega)] at hk
    rw [← h0.1] at hk
    cases hjj : j - us.length with
    | zero =>
      rw [hjj] at hj hk
      simp only [List.getElem?_cons_zero, Option.some.injEq] at hj hk
      subst hj
      subst hk
      exact ⟨h, h2⟩
    | succ i => rw [hjj] at hj; simp at hj
structure CInv (w0 : World) (mval : Value) (c : Nat) (s : Option (List (List Nat) × Int)) (k : Nat) (X : Nat → Prop) (St : Nat → Nat → Prop) (W : World) : Prop where
  below : Below w0.heap.size w0 W
  low : ∀ q, q < w0.heap.size + 3 → X q
  cP : W.heap[w0.heap.size]? = some (.cells #[mval] 84 (0, 0))
  st : ∀ b o, St b o → w0.heap.size + 3 ≤ b
  rest : ∃ (vall : Value) (least : Int), W.heap[w0.heap.size + 1]? = some (.cells #[vall] 84 (0, 0)) ∧ W.heap[w0.heap.size + 2]? = some (.cells #[.int .i64 least] 3 (0, 0)) ∧
    ((s = none ∧ vall = .slice none 0 0) ∨ ∃ b bs u xs, s = some (b :: bs, least) ∧ W.ownsRow (w0.heap.size + 3) 77 1 vall (xs.length + 1) (u :: xs) ∧ (∀ x ∈ u :: xs, x.oneCell' = true) ∧ xs.length + 1 ≤ k ∧ (∀ q, vall.ownBlock = some q → X q ∧ ∀ o, ¬ St q o) ∧
      RowsOK W (w0.heap.size + 3) c X St (u :: xs) (b :: bs))
theorem ownB_lt {w : World} {B e sz n : Nat} {v : Value} {xs : List Value} (h : w.ownsRow B e sz v n xs) {q : Nat} (hq : v.ownBlock = some q) : ∃ cur, w.heap[q]? = some (.cells cur e (0, 0)) ∧ B ≤ q := by
  rcases h.2 with ⟨rfl, _⟩ | ⟨g, cap, cur, rfl, h1, h2, _⟩
  · cases hq
  · simp only [Value.ownBlock, Option.some.injEq] at hq
    subst hq
    exact ⟨cur, h2, h1⟩
theorem CInv.abides (w0 : World) (mval : Value) (c : Nat) (s : Option (List (List Nat) × Int)) (k : Nat) : Abides2 (CInv w0 mval c s k) := by
  rintro X St St' w w' row ⟨hb, hlow, hP, hst, vall, least, hA, hL, hall⟩ hg hr hk ev hlt hn
  have keep : ∀ q, X q → ∀ o, w.heap[q]? = some o → w'.heap[q]? = some o := fun q hx o hq => (hg.block q (heap_lt hq) (fun e => hr q (by simpa using e.symm) hx)).trans hq
  refine ⟨hb.grown hg (Nat.le_trans (Nat.le_refl _) hb.size) (fun q e => ?_), hlow, keep _ (hlow _ (by omega)) _ hP, fun b o hs => ?_, vall, least, keep _ (hlow _ (by omega)) _ hA, keep _ (hlow _ (by omega)) _ hL, hall.imp id ?_⟩
  · have := hr q e
    by_cases h : w0.heap.size ≤ q
    · exact h
    · exact absurd (hlow q (by omega)) this
  · rcases hn b o hs with h | h
    · exact hst b o h
    · by_cases h' : w0.heap.size + 3 ≤ b
      · exact h'
      · exact absurd (hlow b (by omega)) h
  · rintro ⟨b, bs, u, xs, h1, h2, h3, h4, h5, h67⟩
    refine ⟨b, bs, u, xs, h1, own_keep h2 fun q hq => ?_, h3, h4, fun q hq => ⟨(h5 q hq).1, fun o hs => ?_⟩, h67.1, fun j u b hj hjb => ?_⟩
    · obtain ⟨cur, hc, _⟩ := ownB_lt h2 hq
      rw [keep q (h5 q hq).1 _ hc, hc]
    · rcases hn q o hs with h | h
      · exact (h5 q hq).2 o h
      · exact h (h5 q hq).1
    · obtain ⟨h6, h7⟩ := h67.2 j u b hj hjb
      refine ⟨own_stay h6 (fun q cur hq hc => ?_) (fun q o hq ho => (ev q o ((h7 q hq).2 o ho)).2), fun q hq => ⟨(h7 q hq).1, fun o ho => (ev q o ((h7 q hq).2 o ho)).1⟩⟩
      by_cases e : row = some q
      · exact hk q cur e hc
      · exact ⟨cur, (hg.block q (heap_lt hc) (fun e' => e e'.symm)).trans hc, rfl⟩
theorem CInv.put {w0 : World} {mval : Value} {c : Nat} {s : Option (List (List Nat) × Int)} {k : Nat} {X : Nat → Prop} {St : Nat → Nat → Prop} {W : World} (h : CInv w0 mval c s k X St W) {l : Nat} {r : Loop} (r' : Loop) (hl0 : w0.heap.size ≤ l) (hl : W.heap[l]? = some (.loop r)) (hns : ∀ o, ¬ St l o) : CInv w0 mval c s k X St (W.putObj l (.loop r')) := by
  obtain ⟨hb, hlow, hP, hst, vall, least, hA, hL, hall⟩ := h
  have keep : ∀ (q : Nat) (cur : Array Value) (e : TypeId) (f : Nat × Nat), W.heap[q]? = some (.cells cur e f) → (W.putObj l (.loop r')).heap[q]? = some (.cells cur e f) := fun q cur e f hq => (World.putObj_heap_other (fun e => by subst e; rw [hl] at hq; cases hq)).trans hq
  refine ⟨hb.grown (grownBy_putObj' W l _) hb.size (fun q e => by cases e; exact hl0), hlow, keep _ _ _ _ hP, hst, vall, least, keep _ _ _ _ hA, keep _ _ _ _ hL, hall.imp id ?_⟩
  rintro ⟨b, bs, u, xs, h1, h2, h3, h4, h5, h67⟩
  refine ⟨b, bs, u, xs, h1, own_keep h2 fun q hq => ?_, h3, h4, h5, h67.1, fun j u b hj hjb => ⟨own_keep (h67.2 j u b hj hjb).1 fun q hq => ?_, (h67.2 j u b hj hjb).2⟩⟩
  · obtain ⟨cur, hc, _⟩ := ownB_lt h2 hq
    rw [keep _ _ _ _ hc, hc]
  · obtain ⟨cur, hc, _⟩ := ownB_lt (h67.2 j u b hj hjb).1 hq
    rw [keep _ _ _ _ hc, hc]
section
variable {P : Program}
theorem append_row {w : World} {t ty e : TypeId} {i : TypeInfo} {z : Value} (ht : P.underlying t = some (.slice e)) (hi : P.info? e = some i) (hz : i.zero = some z) (hsize : i.size = 1) (hby : i.bytes = 24) (hzs : z.cells.size = 1)
    {v : Value} {n : Nat} {xs : List Value} (hown : w.ownsRow 0 e 1 v n xs) (hone : ∀ u ∈ xs, u.oneCell' = true) {ad : Addr} {x : Value} (hx : w.cell? ad = some x) (h1 : x.oneCell' = true) (hn : n < 1000) :
    ∃ v' w', (Builtin.append_ #[t, t] ty #[v, .slice (some ad) 1 1]).run P w = .ok v' w' ∧ w'.ownsRow 0 e 1 v' (n + 1) (xs ++ [x]) ∧ w.grownBy w' v.ownBlock ∧
      (∀ q cur, v.ownBlock = some q → w.heap[q]? = some (.cells cur e (0, 0)) → ∃ cur', w'.heap[q]? = some (.cells cur' e (0, 0)) ∧ cur'.size = cur.size ∧ cur'.toList.take n = cur.toList.take n) ∧
      (∀ q, v'.ownBlock = some q → v.ownBlock = some q ∨ w.heap.size ≤ q) ∧ (∀ q, v'.ownBlock = some q → q < w'.heap.size) := by
  obtain ⟨hl, hv⟩ := hown
  have hnews : ∀ j u, [x][j]? = some u → w.cell? (ad.add j) = some u := by
    intro j u hj
    cases j with
    | zero => simp at hj; subst hj; exact hx
    | succ j => simp at hj
  have hnone : ∀ u ∈ [x], u.oneCell' = true := fun u hu => by simp at hu; subst hu; exact h1
  have hxl : [x].length = 1 * i.size := by rw [hsize]; rfl
  have fresh : ∀ (o : Obj), w.grownBy (w.drew.alloc o) v.ownBlock := fun o => by
    have h := ((Below.refl w.heap.size w).drew).alloc (Nat.le_refl _) o
    exact ⟨h.os, h.tape, h.output, h.size, fun k hk _ => h.block k hk⟩
  have kept : ∀ (o : Obj) (q : Nat) (cur : Array Value), w.heap[q]? = some (.cells cur e (0, 0)) → (w.drew.alloc o).heap[q]? = some (.cells cur e (0, 0)) := fun o q cur hq =>
    ((((Below.refl w.heap.size w).drew).alloc (Nat.le_refl _) o).block q (heap_lt hq)).trans hq
  have newlt : ∀ (o : Obj), w.heap.size < (w.drew.alloc o).heap.size := fun o => by
    have := World.size_alloc w.drew o
    rw [show w.drew.heap.size = w.heap.size from rfl] at this
    omega
  rcases hv with ⟨rfl, rfl⟩ | ⟨q, cap, cur, rfl, _, hq, hc1, hc2, hc3, hc4⟩
  · have hrun := run_append_nil (P := P) w t ty e i z ht hi hz ad 1 1 [x] hxl hnews (by omega) (by omega) (by rw [hby]; omega)
    obtain ⟨rest, hrest, hrl⟩ := zero_list z.cells (grownCap w 1 0 e - 1)
    rw [hrest] at hrun
    have hge := grownCap_ge w 1 0 e
    have hcm : grownCap w 1 0 e ≤ maxLen := grownCap_le_maxLen w 1 0 e (by unfold maxLen; omega)
    have hxs : xs = [] := by simpa using hl
    subst hxs
    refine ⟨_, _, hrun, ⟨by simp, .inr ⟨w.heap.size, grownCap w 1 0 e, [x].toArray ++ rest.toArray, rfl, Nat.zero_le _, heap_alloc_new w.drew _, hge, hcm, ?_, ?_⟩⟩, fresh _, fun q cur h => by simp [Value.ownBlock] at h, fun q h => ?_, fun q h => ?_⟩
    · rw [Array.size_append, List.size_toArray, List.size_toArray, hrl, hzs]
      simp only [List.length_cons, List.length_nil]
      omega
    · simp
    · simp only [Value.ownBlock, Option.some.injEq] at h
      exact .inr (by omega)
    · simp only [Value.ownBlock, Option.some.injEq] at h
      have := newlt (.cells ([x].toArray ++ rest.toArray) e)
      omega
  · have hxs : ∀ j u, xs[j]? = some u → w.cell? ((⟨q, 0, none⟩ : Addr).add j) = some u := fun j u hj => by
      rw [addr_add, Nat.zero_add, cell_of_row w q j cur e (0, 0) hq]
      rw [← hc4, List.getElem?_take] at hj
      split at hj
      · simpa using hj
      · cases hj
    have hcl : xs.length = n := by omega
    by_cases hroom : n + 1 ≤ cap
    · have hfit : n * i.size + [x].length ≤ cur.size := by
        rw [hsize]
        simp only [List.length_cons, List.length_nil]
        omega
      have hrun := run_append_in (P := P) (w := w) (ty := ty) ht hi q n cap cur hq ad 1 1 [x] hxl hnews hnone hroom hfit
      have hg : w.grownBy (w.setRow q (over cur.toList (n * i.size) [x]).toArray) (some q) :=
        ⟨rfl, rfl, rfl, by simp [World.setRow], fun k _ hk => setRow_other w q k _ (fun e => hk (by rw [e]))⟩
      have hh := setRow_heap w q cur (over cur.toList (n * i.size) [x]).toArray e (0, 0) hq
      have hov : over cur.toList (n * i.size) [x] = xs ++ [x] ++ cur.toList.drop (n + 1) := by
        unfold Gv.over
        rw [hsize, Nat.mul_one]
        rw [Nat.mul_one] at hc4
        rw [hc4]
        simp
      refine ⟨_, _, hrun, ⟨by simp [hl], .inr ⟨q, cap, _, rfl, Nat.zero_le _, hh, hroom, hc2, ?_, ?_⟩⟩, hg, fun q' cur2 h1 h2 => ?_, fun q' h => .inl h, fun q' h => ?_⟩
      · rw [hov]
        simp only [List.size_toArray, List.length_append, List.length_drop, List.length_cons, List.length_nil, Array.length_toList]
        omega
      · rw [hov]
        simp only [List.toList_toArray]
        rw [List.take_append_of_le_length (by simp; omega), List.take_of_length_le (by simp; omega)]
      · simp only [Value.ownBlock, Option.some.injEq] at h1
        subst h1
        rw [hq] at h2
        simp only [Option.some.injEq, Obj.cells.injEq, true_and, and_true] at h2
        subst h2
        refine ⟨_, hh, ?_, ?_⟩
        · rw [hov]
          simp only [List.size_toArray, List.length_append, List.length_drop, List.length_cons, List.length_nil, Array.length_toList]
          omega
        · rw [hov]
          rw [Nat.mul_one] at hc4
          simp only [List.toList_toArray]
          rw [hc4, List.append_assoc, List.take_append_of_le_length (by omega), List.take_of_length_le (by omega)]
      · simp only [Value.ownBlock, Option.some.injEq] at h
        subst h
        exact heap_lt hh
    · have hrun := run_append_grow (P := P) w t ty e i z ht hi hz ⟨q, 0, none⟩ n cap xs (by rw [hsize]; omega) hxs ad 1 1 [x] hxl hnews (by omega) (by omega) (growslice_fits (by omega) (by rw [hby]; omega))
      obtain ⟨rest, hrest, hrl⟩ := zero_list z.cells (grownCap w (n + 1) cap e - (n + 1))
      rw [hrest] at hrun
      have hge := grownCap_ge w (n + 1) cap e
      have hcm : grownCap w (n + 1) cap e ≤ maxLen := grownCap_le_maxLen w (n + 1) cap e (by unfold maxLen; omega)
      refine ⟨_, _, hrun, ⟨by simp [hl], .inr ⟨w.heap.size, grownCap w (n + 1) cap e, xs.toArray ++ [x].toArray ++ rest.toArray, rfl, Nat.zero_le _, heap_alloc_new w.drew _, hge, hcm, ?_, ?_⟩⟩, fresh _, fun q' cur2 h1 h2 => ⟨cur2, kept _ _ _ h2, rfl, rfl⟩, fun q' h => ?_, fun q' h => ?_⟩
      · rw [Array.size_append, Array.size_append, List.size_toArray, List.size_toArray, List.size_toArray, hrl, hzs]
        simp only [List.length_cons, List.length_nil]
        omega
      · simp only [Array.toList_append, List.toList_toArray]
        rw [List.take_append_of_le_length (by simp; omega), List.take_of_length_le (by simp; omega)]
      · simp only [Value.ownBlock, Option.some.injEq] at h
        exact .inr (by omega)
      · simp only [Value.ownBlock, Option.some.injEq] at h
        have := newlt (.cells (xs.toArray ++ [x].toArray ++ rest.toArray) e)
        omega
end
theorem asg_run (n : Int) : Fn env1 105 (.one .any) [.int .i64 n] = some (.fn 109 [.imm [.int .i64 n] 0]) :=
  fn_of (es := []) (d := 20) (n := 400) (ls := []) (sh := s105) ent_nil rfl rfl lo_nil (by kernel_rfl)
theorem asg_calls (w : World) (n : Int) : Calls Try.prog 105 #[.int .i64 n] w fun e w' => ∃ b o, e = .returned (.func (.func 109) #[] #[.pointer (some ⟨b, o, none⟩)]) ∧ Below w.heap.size w w' ∧ w'.cell? ⟨b, o, none⟩ = some (.int .i64 n) ∧ w.heap.size ≤ b := by
  obtain ⟨rv, h1, h2⟩ := Fn_some (asg_run n)
  have hc := ((run_sound cloMixed env1_ok).fn 105 _ rv h1).2 w (fun _ _ => False) [.int .i64 n] (fun _ _ h => h.elim) ⟨_, _, rfl, rfl, rfl⟩
  refine hc.mono ?_
  rintro e w' ⟨u, St', rfl, hrr, hbel, _, _, hnew⟩
  cases rv with
  | val x =>
    have hx : x = .fn 109 [.imm [.int .i64 n] 0] := h2
    subst hx
    simp only [RR, PR, PRs] at hrr
    obtain ⟨us, rfl, _, _, rfl, ⟨ad, us', rfl, ⟨_, _, rfl, rfl, rfl⟩, hat⟩, rfl⟩ := hrr
    obtain ⟨a1, a2, _⟩ := hat 0 _ rfl
    have hform := add_form ad 0 (cell_spot a2)
    have had : ad.add 0 = ad := rfl
    rw [had] at a2 hform
    refine ⟨ad.block, ad.off, congrArg (fun x => Ending.returned (.func (.func 109) #[] #[.pointer (some x)])) (had.trans hform), hbel, (congrArg w'.cell? hform).symm.trans a2, ?_⟩
    rcases hnew _ _ a1 with h | h
    · exact h.elim
    · exact h
  | own n sz cs => cases h2
theorem cell0 {W : World} {B : Nat} {v : Value} {t : TypeId} (h : W.heap[B]? = some (.cells #[v] t (0, 0))) (u : Value) : (W.setCell ⟨B, 0, none⟩ u).heap[B]? = some (.cells #[u] t (0, 0)) := by
  have := heap_setCell_same W B 0 _ t u h
  simpa using this
theorem CInv.fin {w0 : World} {mval : Value} {c : Nat} {s s' : Option (List (List Nat) × Int)} {i : Nat} {X : Nat → Prop} {St : Nat → Nat → Prop} {W W3 : World} {l D : Nat} {r : Loop} {vall vall' : Value} {least' : Int} (hI : CInv w0 mval c s i X St W) (hA0 : W.heap[w0.heap.size + 1]? = some (.cells #[vall] 84 (0, 0)))
    (hX : ∀ q, X q → q < W.heap.size) (hSt : ∀ b o, St b o → b < W.heap.size) (hl : W.heap[l]? = some (.loop r)) (hD : W.heap[D]? = some (.deferred (some [])))
    (hv : ∀ q, vall.ownBlock = some q → X q ∧ (∀ o, ¬ St q o) ∧ ∃ cur, W.heap[q]? = some (.cells cur 77 (0, 0)))
    (hB : Below w0.heap.size w0 W3) (hsz : W.heap.size ≤ W3.heap.size) (hk : ∀ q, q < W.heap.size → q ≠ w0.heap.size + 1 → q ≠ w0.heap.size + 2 → vall.ownBlock ≠ some q → W3.heap[q]? = W.heap[q]?)
    (hA : W3.heap[w0.heap.size + 1]? = some (.cells #[vall'] 84 (0, 0))) (hL : W3.heap[w0.heap.size + 2]? = some (.cells #[.int .i64 least'] 3 (0, 0)))
    (hall : ∃ b bs u xs, s' = some (b :: bs, least') ∧ W3.ownsRow (w0.heap.size + 3) 77 1 vall' (xs.length + 1) (u :: xs) ∧ (∀ x ∈ u :: xs, x.oneCell' = true) ∧ xs.length + 1 ≤ i + 1 ∧ (∀ q, vall'.ownBlock = some q → vall.ownBlock = some q ∨ W.heap.size ≤ q) ∧
      RowsOK W (w0.heap.size + 3) c X St (u :: xs) (b :: bs)) :
    Exit.normal = Exit.normal ∧ ∃ X', CInv w0 mval c s' (i + 1) X' St W3 ∧ Yields X St W X' St W3 ∧ W3.heap[l]? = W.heap[l]? ∧ W3.heap[D]? = W.heap[D]? := by
  obtain ⟨hbw, hlow, hP, hst, _, least, _, hL0, _⟩ := hI
  obtain ⟨b, bs, u, xs, h1, h2, h3, h4, h5, h67⟩ := hall
  have nv : ∀ (q : Nat) (o : Obj), W.heap[q]? = some o → o.isCells = false → vall.ownBlock ≠ some q ∧ q ≠ w0.heap.size + 1 ∧ q ≠ w0.heap.size + 2 := fun q o hq ho => by
    refine ⟨fun e => ?_, fun e => ?_, fun e => ?_⟩
    · obtain ⟨_, _, cur, hc⟩ := hv q e
      rw [hc] at hq; cases hq; cases ho
    · subst e; rw [hA0] at hq; cases hq; cases ho
    · subst e; rw [hL0] at hq; cases hq; cases ho
  have hul : ∀ (j : Nat) (u' : Value) (b' : List Nat), (u :: xs)[j]? = some u' → (b :: bs)[j]? = some b' → ∀ q, u'.ownBlock = some q → W3.heap[q]? = W.heap[q]? := fun j u' b' hj hjb q hq => by
    obtain ⟨h6, h7⟩ := h67.2 j u' b' hj hjb
    obtain ⟨cur, hc, hge⟩ := ownB_lt h6 hq
    exact hk q (heap_lt hc) (by omega) (by omega) fun e => (h7 q hq).1 (hv q e).1
  have stk : ∀ b o, St b o → W3.heap[b]? = W.heap[b]? := fun b o hs => by
    have := hst b o hs
    exact hk b (hSt b o hs) (by omega) (by omega) fun e => (hv b e).2.1 o hs
  obtain ⟨n1, n2, n3⟩ := nv l _ hl rfl
  obtain ⟨m1, m2, m3⟩ := nv D _ hD rfl
  refine ⟨rfl, fun q => X q ∨ (W.heap.size ≤ q ∧ q < W3.heap.size), ⟨hB, fun q hq => .inl (hlow q hq), (hk _ (heap_lt hP) (by omega) (by omega) fun e => ?_).trans hP, hst, vall', least', hA, hL, .inr ⟨b, bs, u, xs, h1, h2, h3, h4, fun q hq => ?_, h67.1, fun j u' b' hj hjb => ⟨own_keep (h67.2 j u' b' hj hjb).1 (hul j u' b' hj hjb), fun q hq => ⟨fun hx => ?_, ((h67.2 j u' b' hj hjb).2 q hq).2⟩⟩⟩⟩,
    ⟨hsz, fun q hq hx => hk q hq (fun e => hx (hlow q (by omega))) (fun e => hx (hlow q (by omega))) (fun e => hx (hv q e).1), fun q hq => .inl hq, fun q hq => hq.imp id (·.1), fun q hq => ?_, fun b o hs => ⟨hs, World.cell?_of_block (stk b o hs)⟩, fun b o hs => Nat.lt_of_lt_of_le (hSt b o hs) hsz, fun b o hs => .inl hs⟩, hk l (heap_lt hl) n2 n3 n1, hk D (heap_lt hD) m2 m3 m1⟩
  · obtain ⟨_, _, cur, hc⟩ := hv _ e
    rw [hc] at hP
    cases hP
  · rcases h5 q hq with h | h
    · exact ⟨.inl (hv q h).1, (hv q h).2.1⟩
    · obtain ⟨cur, hc, _⟩ := ownB_lt h2 hq
      exact ⟨.inr ⟨h, heap_lt hc⟩, fun o hs => by have := hSt q o hs; omega⟩
  · rcases hx with hx | hx
    · exact ((h67.2 j u' b' hj hjb).2 q hq).1 hx
    · obtain ⟨cur, hc, _⟩ := ownB_lt (h67.2 j u' b' hj hjb).1 hq
      have := heap_lt hc
      omega
  · rcases hq with hq | hq
    · exact Nat.lt_of_lt_of_le (hX q hq) hsz
    · exact hq.2
theorem app_rows {w : World} {A L : Nat} {vall va v : Value} {n : Nat} {xs : List Value} {k : Int} (hA : w.heap[A]? = some (.cells #[va] 84 (0, 0))) (hL : w.heap[L]? = some (.cells #[.int .i64 k] 3 (0, 0))) (hown : w.ownsRow 0 77 1 vall n xs) (hone : ∀ u ∈ xs, u.oneCell' = true) (h1 : v.oneCell' = true) (hn : n < 1000)
    (hvA : vall.ownBlock ≠ some A) (hvL : vall.ownBlock ≠ some L) :
    ∃ ra rc w', (Builtin.append_ #[84, 84] 84 #[vall, .slice (some ⟨w.heap.size, 0, none⟩) 1 1]).run Try.prog (w.alloc (.cells #[v] 77)) = .ok (.slice ra (n + 1) rc) w' ∧ w'.cell? ⟨A, 0, none⟩ = some va ∧ w'.frozen? ⟨A, 0, none⟩ = false ∧ Hid (w'.heap[A]? = some (.cells #[va] 84 (0, 0)) ∧ w'.heap[L]? = some (.cells #[.int .i64 k] 3 (0, 0)) ∧ w'.ownsRow 0 77 1 (.slice ra (n + 1) rc) (n + 1) (xs ++ [v]) ∧
      w.grownBy w' vall.ownBlock ∧ (∀ q, (Value.slice ra (n + 1) rc).ownBlock = some q → vall.ownBlock = some q ∨ w.heap.size ≤ q)) := by
  obtain ⟨i0, hi, hz0, hz1, hz2⟩ : ∃ i0, Try.prog.info? 77 = some i0 ∧ i0.zero = some (.slice none 0 0) ∧ i0.size = 1 ∧ i0.bytes = 24 := ⟨_, rfl, by kernel_rfl, by kernel_rfl, by kernel_rfl⟩
  have hkeep : ∀ (q : Nat) (cur : Array Value) (e : TypeId) (f : Nat × Nat), w.heap[q]? = some (.cells cur e f) → (w.alloc (.cells #[v] 77)).heap[q]? = some (.cells cur e f) := fun q cur e f h => (Below.heap_alloc _ _ _ (heap_lt h)).trans h
  have hown2 : (w.alloc (.cells #[v] 77)).ownsRow 0 77 1 vall n xs := own_keep hown fun q hq => by
    obtain ⟨cur, hc, _⟩ := ownB_lt hown hq
    rw [hkeep _ _ _ _ hc, hc]
  obtain ⟨v', w', hrun, k1, k2, k3, k4, k5⟩ := append_row (P := Try.prog) (ty := 84) (t := 84) Try.underlying84 hi hz0 hz1 hz2 rfl hown2 hone (ad := ⟨w.heap.size, 0, none⟩) (x := v) (cnew w v 77).1 h1 hn
  have hsz := World.size_alloc w (.cells #[v] 77)
  obtain ⟨ra, rc, rfl⟩ : ∃ ra rc, v' = .slice ra (n + 1) rc := by
    rcases k1.2 with ⟨rfl, h⟩ | ⟨g, cap, cur, rfl, _⟩
    · omega
    · exact ⟨_, _, rfl⟩
  have a1 : w'.heap[A]? = some (.cells #[va] 84 (0, 0)) := (k2.block A (heap_lt (hkeep _ _ _ _ hA)) hvA.symm).trans (hkeep _ _ _ _ hA)
  have a2 : w'.heap[L]? = some (.cells #[.int .i64 k] 3 (0, 0)) := (k2.block L (heap_lt (hkeep _ _ _ _ hL)) hvL.symm).trans (hkeep _ _ _ _ hL)
  refine ⟨ra, rc, w', hrun, (cbox a1).1, (cbox a1).2, ⟨a1, a2, k1, ⟨k2.os, k2.tape, k2.output, ?_, fun q hq hr => ?_⟩, fun q hq => (k4 q hq).imp id fun h => ?_⟩⟩
  · have := k2.size
    omega
  · exact (k2.block q (by omega) hr).trans (Below.heap_alloc _ _ _ hq)
  · omega
theorem exec_append {P : Program} {o : Oper} {a : Act} {s x : Operand} {vs vx v' : Value} {w w' : World} (hop : o.op = .call { callee := .builtin .append, args := #[s, x], argTypes := #[84, 84] }) (hs : a.eval s = vs) (hx : a.eval x = vx) (hrun : (Builtin.append_ #[84, 84] o.type #[vs, vx]).run P w = .ok v' w') : (execOp a.eval o).run P w = .ok (.value v') w' := by
  simp [execOp, hop, resolve, invoke, builtin, hs, hx, hrun, Result.andThen]
theorem own_more {w : World} {B B' e sz n : Nat} {v : Value} {xs : List Value} (h : w.ownsRow B' e sz v n xs) (hB : ∀ q, v.ownBlock = some q → B ≤ q) : w.ownsRow B e sz v n xs := by
  refine ⟨h.1, h.2.imp id ?_⟩
  rintro ⟨g, cap, cur, rfl, h1, h2, h3⟩
  exact ⟨g, cap, cur, rfl, hB g rfl, h2, h3⟩
theorem CInv.app {w0 : World} {mval : Value} {c : Nat} {s s' : Option (List (List Nat) × Int)} {i : Nat} {X : Nat → Prop} {St : Nat → Nat → Prop} {W Wx : World} {l D n N : Nat} {r : Loop} {vall vall2 va v : Value} {least' : Int} {xs : List Value} (hI : CInv w0 mval c s i X St W) (hA0 : W.heap[w0.heap.size + 1]? = some (.cells #[vall] 84 (0, 0)))
    (hX : ∀ q, X q → q < W.heap.size) (hSt : ∀ b o, St b o → b < W.heap.size) (hl : W.heap[l]? = some (.loop r)) (hD : W.heap[D]? = some (.deferred (some [])))
    (hv : ∀ q, vall.ownBlock = some q → X q ∧ (∀ o, ¬ St q o) ∧ ∃ cur, W.heap[q]? = some (.cells cur 77 (0, 0)))
    (hB : Below w0.heap.size w0 Wx) (hsz : W.heap.size ≤ Wx.heap.size) (hk : ∀ q, q < W.heap.size → q ≠ w0.heap.size + 1 → q ≠ w0.heap.size + 2 → Wx.heap[q]? = W.heap[q]?)
    (hA : Wx.heap[w0.heap.size + 1]? = some (.cells #[va] 84 (0, 0))) (hL : Wx.heap[w0.heap.size + 2]? = some (.cells #[.int .i64 least'] 3 (0, 0))) (hv2 : vall2 = vall ∨ vall2 = .slice none 0 0)
    (hown : Wx.ownsRow (w0.heap.size + 3) 77 1 vall2 n xs) (hone : ∀ u ∈ xs, u.oneCell' = true) (h1 : v.oneCell' = true) (hn : n < 1000) (hni : n ≤ i) (hN : N = Wx.heap.size)
    (hall : ∃ b bs u rest, s' = some (b :: bs, least') ∧ xs ++ [v] = u :: rest ∧ RowsOK W (w0.heap.size + 3) c X St (u :: rest) (b :: bs)) :
    ∃ ra rc w', (Builtin.append_ #[84, 84] 84 #[vall2, .slice (some ⟨N, 0, none⟩) 1 1]).run Try.prog (Wx.alloc (.cells #[v] 77)) = .ok (.slice ra (n + 1) rc) w' ∧ w'.cell? ⟨w0.heap.size + 1, 0, none⟩ = some va ∧ w'.frozen? ⟨w0.heap.size + 1, 0, none⟩ = false ∧
      Hid (∃ X', CInv w0 mval c s' (i + 1) X' St (w'.setCell ⟨w0.heap.size + 1, 0, none⟩ (.slice ra (n + 1) rc)) ∧ Yields X St W X' St (w'.setCell ⟨w0.heap.size + 1, 0, none⟩ (.slice ra (n + 1) rc)) ∧ (w'.setCell ⟨w0.heap.size + 1, 0, none⟩ (.slice ra (n + 1) rc)).heap[l]? = W.heap[l]? ∧ (w'.setCell ⟨w0.heap.size + 1, 0, none⟩ (.slice ra (n + 1) rc)).heap[D]? = W.heap[D]?) := by
  subst hN
  have hne : ∀ B t cur, Wx.heap[B]? = some (.cells cur t (0, 0)) → t ≠ 77 → vall2.ownBlock ≠ some B := fun B t cur hB ht e => by
    obtain ⟨cur', hc, _⟩ := ownB_lt hown e
    rw [hB] at hc
    cases hc
    exact ht rfl
  obtain ⟨ra, rc, w', hrun, k1, k2, a1, a2, k3, k4, k5⟩ := app_rows hA hL (own_less hown (Nat.zero_le _)) hone h1 hn (hne _ _ _ hA (by decide)) (hne _ _ _ hL (by decide))
  refine ⟨ra, rc, w', hrun, k1, k2, ?_⟩
  obtain ⟨b, bs, u, rest, h2, h3, h45⟩ := hall
  have hlow : w0.heap.size + 3 ≤ Wx.heap.size := by have := heap_lt hL; omega
  have hge : ∀ q, (Value.slice ra (n + 1) rc).ownBlock = some q → w0.heap.size + 3 ≤ q := fun q hq => by
    rcases k5 q hq with h | h
    · obtain ⟨_, _, hg⟩ := ownB_lt hown h
      exact hg
    · omega
  have hnA : ∀ q, (Value.slice ra (n + 1) rc).ownBlock = some q → q ≠ w0.heap.size + 1 := fun q hq => by have := hge q hq; omega
  have hrl : rest.length + 1 = n + 1 := by
    have e1 := congrArg List.length h3
    have e2 := k3.1
    rw [h3] at e2
    simp at e1 e2
    omega
  refine (CInv.fin (vall' := .slice ra (n + 1) rc) (least' := least') hI hA0 hX hSt hl hD hv ((hB.grown k4 (by omega) fun q e => ?_).setCell (by show w0.heap.size ≤ w0.heap.size + 1; omega) _) ?_ (fun q hq q1 q2 hq3 => ?_) (cell0 a1 _) ?_ ⟨b, bs, u, rest, h2, ?_, fun x hx => ?_, by omega, fun q hq => ?_, h45⟩).2
  · obtain ⟨_, _, hg⟩ := ownB_lt hown e
    omega
  · have := k4.size
    simp
    omega
  · refine (Below.heap_setCell _ _ _ _ q1).trans ((k4.block q (by omega) fun e => ?_).trans (hk q hq q1 q2))
    rcases hv2 with h | h
    · rw [h] at e; exact hq3 e.symm
    · rw [h] at e; cases e
  · exact (Below.heap_setCell _ _ _ _ (by show w0.heap.size + 2 ≠ w0.heap.size + 1; omega)).trans a2
  · rw [h3] at k3
    rw [hrl]
    exact own_keep (own_more k3 hge) fun q hq => Below.heap_setCell _ _ _ _ (hnA q hq)
  · rw [← h3] at hx
    rcases List.mem_append.1 hx with hx | hx
    · exact hone x hx
    · simp at hx
      subst hx
      exact h1
  · rcases k5 q hq with h | h
    · rcases hv2 with h' | h'
      · exact .inl (h' ▸ h)
      · rw [h'] at h; cases h
    · exact .inr (by omega)
end Gv

/- allCheapest, on the model. -/
namespace Gv
open Go Go.Proofs Go.RowKit Go.Lib Go.Shelf
attribute [local go_sem] Oper.semAt_some
set_option maxRecDepth 100000
set_option maxHeartbeats 4000000 in
theorem all_calls2 (c : Nat) (hc : c ≤ 5) (w0 : World) (a0 : Option Addr) (cap : Nat) (M : List PV) (St0 : Nat → Nat → Prop) (hSt0 : ∀ b o, St0 b o → b < w0.heap.size) (hm : PR St0 w0 (.list c M) (.slice a0 c cap)) (cost : List Nat → Int)
    (hcost : ∀ b ∈ ext c c [], Fn env1 69 (.one (.int .i64)) [.list c M, rowP b] = some (cost b)) :
    Calls Try.prog 91 #[.slice a0 c cap] w0 fun e w' => ∃ vall least b bs u xs, e = .returned vall ∧ allIn cost (ext c c []) = some (b :: bs, least) ∧ w'.ownsRow w0.heap.size 77 1 vall (xs.length + 1) (u :: xs) ∧ RowsOK w' w0.heap.size c (fun _ => False) (fun _ _ => True) (u :: xs) (b :: bs) ∧ Below w0.heap.size w0 w' := by
  refine (callsIn_wide (n := 0)).1 ?_
  refine callsIn_of_wp_marks Try.func91 rfl trivial ?_ rfl
  simp only [Try.ntmps91, List.size_toArray, List.length_cons, List.length_nil, Nat.reduceAdd, Nat.reduceSub, Array.replicate_succ, Array.replicate_zero, List.push_toArray, List.append_toArray, List.nil_append, List.cons_append]
  gi_wp2_with (refine ⟨trivial, rfl, ?_⟩; refine ((callsIn_wide (n := 0)).2 (asg_calls _ _)).mono ?_; rintro e w1 ⟨ab, ao, rfl, hb1, hc1, hnew⟩)
  have hs1 : (((w0.alloc (.cells #[.slice a0 c cap] 84)).alloc (.cells #[.slice none 0 0] 84)).alloc (.cells #[.int .i64 0] 3)).heap.size = w0.heap.size + 3 := by simp
  obtain ⟨wA, hwA⟩ : ∃ wA, ((w0.alloc (.cells #[.slice a0 c cap] 84)).alloc (.cells #[.slice none 0 0] 84)).alloc (.cells #[.int .i64 0] 3) = wA := ⟨_, rfl⟩
  have kP : wA.heap[w0.heap.size]? = some (.cells #[.slice a0 c cap] 84 (0, 0)) := by
    rw [← hwA]
    exact (Below.heap_alloc _ _ _ (by simp; omega)).trans ((Below.heap_alloc _ _ _ (by simp)).trans (World.alloc_heap_new w0 _))
  have kA : wA.heap[w0.heap.size + 1]? = some (.cells #[.slice none 0 0] 84 (0, 0)) := by
    rw [← hwA]
    refine (Below.heap_alloc _ _ _ (by simp)).trans ?_
    have := World.alloc_heap_new (w0.alloc (.cells #[.slice a0 c cap] 84)) (.cells #[.slice none 0 0] 84)
    rwa [World.size_alloc] at this
  have kL : wA.heap[w0.heap.size + 2]? = some (.cells #[.int .i64 0] 3 (0, 0)) := by
    rw [← hwA]
    have := World.alloc_heap_new ((w0.alloc (.cells #[.slice a0 c cap] 84)).alloc (.cells #[.slice none 0 0] 84)) (.cells #[.int .i64 0] 3)
    rwa [World.size_alloc, World.size_alloc] at this
  have hbA : Below w0.heap.size w0 wA := by
    rw [← hwA]
    exact (((Below.refl _ w0).alloc (Nat.le_refl _) _).alloc (by simp) _).alloc (by simp; omega) _
  rw [hwA] at hs1 hb1 hnew
  rw [hs1] at hb1 hnew
  refine range_own (ad := ⟨ab, ao, none⟩) (c := c) (a₁ := fun v => { tmps := #[Value.slice a0 c cap, Value.pointer (some { block := w0.heap.size, off := 0 }), Value.slice none 0 0, Value.pointer (some { block := w0.heap.size + 1, off := 0 }), Value.pointer (some { block := w0.heap.size + 1 + 1, off := 0 }), v, undef, Value.slice a0 c cap,
      Value.int .i64 c, Value.func (.func 109) #[] #[Value.pointer (some ⟨ab, ao, none⟩)], v, undef, undef, undef, undef, undef, undef, undef, undef, undef, undef, undef, undef, undef, undef, undef, undef, undef, undef, undef, undef], defers := [] })
    rfl rfl (by omega) hc1 rfl (fun i => CInv w0 (.slice a0 c cap) c (allIn cost ((ext c c []).take i)) i) (fun i => CInv.abides _ _ _ _ _) (fun i X St W l r r' hl hi hlo hns => hi.put r' (by have := hb1.size; omega) hlo hns) ?_ ?_ ?_ ?_
  ·
    intro W1 hW
    have hlow := Nat.le_trans hb1.size hW.size
    have keep : ∀ (q : Nat) (o : Obj), q < w0.heap.size + 3 → wA.heap[q]? = some o → W1.heap[q]? = some o := fun q o hq ho => (hW.block q (by have := hb1.size; omega)).trans ((hb1.block q hq).trans ho)
    exact ⟨hbA.trans ((hb1.mono (by omega)).trans (hW.mono (by have := hb1.size; omega))), fun q hq => by show q < W1.heap.size; omega, keep _ _ (by omega) kP, fun b o h => by rw [h.1]; exact hnew, _, 0, keep _ _ (by omega) kA, keep _ _ (by omega) kL, .inl ⟨rfl, rfl⟩⟩
  · intro l v W K hK
    gi_wp2
    exact hK
  · intro l D i X St W v b r hr hI hX hSt hown hcells hl hD hxl hxd hns
    have hbl := ext_row hc b (List.mem_of_getElem? hr)
    have hlen := ext_len hc
    have hilt := (List.getElem?_eq_some_iff.1 hr).1
    rw [take_snoc hr, allIn_snoc]
    obtain ⟨hbw, hlow, hP, hst, vall, least, hA, hL, hall⟩ := hI
    have pP : W.cell? ⟨w0.heap.size, 0, none⟩ = some (.slice a0 c cap) := (cbox hP).1
    have hcs : Calls Try.prog 69 #[.slice a0 c cap, v] W fun e w' => e = .returned (.int .i64 (cost b)) ∧ Below W.heap.size W w' := by
      obtain ⟨rv, k1, k2⟩ := Fn_some (hcost b (List.mem_of_getElem? hr))
      have ev : Evo St0 w0 (fun q o => St0 q o ∨ St q o) W := fun q o hs => ⟨.inl hs, World.cell?_of_block (hbw.block q (hSt0 q o hs))⟩
      have hp2 : PR (fun q o => St0 q o ∨ St q o) W (rowP b) v := row_pr hown fun q o hq ho => .inr ((hcells q hq).2 o ho)
      refine (((run_sound cloMixed env1_ok).fn 69 _ rv k1).2 W (fun q o => St0 q o ∨ St q o) [.slice a0 c cap, v] (fun q o hs => hs.elim (fun h => Nat.lt_of_lt_of_le (hSt0 q o h) hbw.size) (hSt q o)) ⟨_, _, rfl, PR.mono ev _ _ hm, _, _, rfl, hp2, rfl⟩).mono ?_
      rintro e w' ⟨x, St', rfl, hrr, hbel, _⟩
      refine ⟨?_, hbel⟩
      cases rv with
      | val y =>
        have hy : y = .int .i64 (cost b) := k2
        subst hy
        simp only [RR, PR] at hrr
        rw [hrr]
      | own n sz cs => cases k2
    have hI : CInv w0 (.slice a0 c cap) c (allIn cost ((ext c c []).take i)) i X St W := ⟨hbw, hlow, hP, hst, vall, least, hA, hL, hall⟩
    have hvq : ∀ q, vall.ownBlock = some q → X q ∧ (∀ o, ¬ St q o) ∧ ∃ cur, W.heap[q]? = some (.cells cur 77 (0, 0)) := fun q hq => by
      rcases hall with ⟨_, rfl⟩ | ⟨_, _, _, _, _, h2, _, _, h5, _⟩
      · cases hq
      · obtain ⟨cur, hc, _⟩ := ownB_lt h2 hq
        exact ⟨(h5 q hq).1, (h5 q hq).2, cur, hc⟩
    have lA := heap_lt hA
    have lL := heap_lt hL
    have lP := heap_lt hP
    rcases hall with ⟨hs, rfl⟩ | ⟨x, bs, u, xs, hs, h2, h3, h4, h5, h67⟩
    · rw [hs] at hI ⊢
      have cA : ∀ w2, Below W.heap.size W w2 → w2.cell? ⟨w0.heap.size + 1, 0, none⟩ = some (.slice none 0 0) ∧ w2.frozen? ⟨w0.heap.size + 1, 0, none⟩ = false := fun w2 h => cbox ((h.block _ lA).trans hA)
      have cL : ∀ w2, Below W.heap.size W w2 → w2.cell? ⟨w0.heap.size + 1 + 1, 0, none⟩ = some (.int .i64 least) ∧ w2.frozen? ⟨w0.heap.size + 1 + 1, 0, none⟩ = false := fun w2 h => cbox ((h.block _ lL).trans hL)
      obtain ⟨va, vn, vcap, rfl⟩ : ∃ va vn vcap, v = .slice va vn vcap := by
        rcases hown.2 with ⟨rfl, _⟩ | ⟨g, cap, cur, rfl, _⟩ <;> exact ⟨_, _, _, rfl⟩
      have hap : ∀ w2, Below W.heap.size W w2 → ∃ ra rc w', (Builtin.append_ #[84, 84] 84 #[.slice none 0 0, .slice (some ⟨w2.heap.size, 0, none⟩) 1 1]).run Try.prog (((w2.setCell ⟨w0.heap.size + 1, 0, none⟩ (.slice none 0 0)).setCell ⟨w0.heap.size + 1 + 1, 0, none⟩ (.int .i64 (cost b))).alloc (.cells #[.slice va vn vcap] 77)) = .ok (.slice ra 1 rc) w' ∧
          w'.cell? ⟨w0.heap.size + 1, 0, none⟩ = some (.slice none 0 0) ∧ w'.frozen? ⟨w0.heap.size + 1, 0, none⟩ = false ∧ Hid (∃ X', CInv w0 (.slice a0 c cap) c (allStep cost none b) (i + 1) X' St (w'.setCell ⟨w0.heap.size + 1, 0, none⟩ (.slice ra 1 rc)) ∧
            Yields X St W X' St (w'.setCell ⟨w0.heap.size + 1, 0, none⟩ (.slice ra 1 rc)) ∧ (w'.setCell ⟨w0.heap.size + 1, 0, none⟩ (.slice ra 1 rc)).heap[l]? = W.heap[l]? ∧ (w'.setCell ⟨w0.heap.size + 1, 0, none⟩ (.slice ra 1 rc)).heap[D]? = W.heap[D]?) := fun w2 h => by
        have e2A := (h.block _ lA).trans hA
        have e2L := (h.block _ lL).trans hL
        refine CInv.app (vall2 := .slice none 0 0) (n := 0) (xs := []) hI hA hX hSt hl hD hvq (((hbw.trans (h.mono hbw.size)).setCell (by show w0.heap.size ≤ w0.heap.size + 1; omega) _).setCell (by show w0.heap.size ≤ w0.heap.size + 1 + 1; omega) _) (by simpa using h.size) (fun q hq q1 q2 => ?_) ?_ ?_ (.inr rfl) (World.ownsRow_nil _ _ _ _) (by simp) rfl (by omega) (by omega) (by simp) ⟨b, [], _, [], rfl, rfl, rows_one ?_ fun q hq => ?_⟩
        · exact (Below.heap_setCell _ _ _ _ (by show q ≠ w0.heap.size + 1 + 1; omega)).trans ((Below.heap_setCell _ _ _ _ q1).trans (h.block q hq))
        · exact (Below.heap_setCell _ _ _ _ (by show w0.heap.size + 1 ≠ w0.heap.size + 1 + 1; omega)).trans (cell0 e2A _)
        · exact cell0 ((Below.heap_setCell _ _ _ _ (by show w0.heap.size + 1 + 1 ≠ w0.heap.size + 1; omega)).trans e2L) _
        · rw [hbl] at hown
          exact own_more hown fun q hq => by
            have := (hcells q hq).1
            by_cases h' : w0.heap.size + 3 ≤ q
            · exact h'
            · exact absurd (hlow q (by omega)) this
        · exact ⟨(hcells q hq).1, fun o ho => (hcells q hq).2 o (by omega)⟩
      clear hm hcost hb1 hc1 hnew hwA hbA kP kA kL hP hA hL hst hX hSt hl hD hI hvq hbw hcells hr hs1 hSt0 hown
      gi_wp2_with (first
        | (refine ⟨trivial, rfl, ?_⟩; refine ((callsIn_wide (n := 0)).2 hcs).mono ?_; rintro e w2 ⟨rfl, hb2⟩; obtain ⟨cA1, cA2⟩ := cA w2 hb2; obtain ⟨cL1, cL2⟩ := cL w2 hb2; obtain ⟨ra, rc, w', hrun, c1, c2, hfin⟩ := hap w2 hb2)
        | (gi_at_builtin; refine wpListIn_plain rfl (fun K hK => wp_val (exec_append (s := .tmp 26) (x := .tmp 28) rfl rfl rfl hrun) (hK _ _ ?_)))
        | fail)
      exact hfin
    · obtain ⟨pa, pc, rfl⟩ : ∃ pa pc, vall = .slice pa (xs.length + 1) pc := by
        rcases h2.2 with ⟨_, h⟩ | ⟨g, cap, cur, rfl, _⟩
        · omega
        · exact ⟨_, _, rfl⟩
      have cA : ∀ w2, Below W.heap.size W w2 → w2.cell? ⟨w0.heap.size + 1, 0, none⟩ = some (.slice pa (xs.length + 1) pc) ∧ w2.frozen? ⟨w0.heap.size + 1, 0, none⟩ = false := fun w2 h => cbox ((h.block _ lA).trans hA)
      have cL : ∀ w2, Below W.heap.size W w2 → w2.cell? ⟨w0.heap.size + 1 + 1, 0, none⟩ = some (.int .i64 least) ∧ w2.frozen? ⟨w0.heap.size + 1 + 1, 0, none⟩ = false := fun w2 h => cbox ((h.block _ lL).trans hL)
      have hz : ((xs.length : Int) + 1 == 0) = false := by rw [beq_eq_false_iff_ne]; omega
      rw [hs] at hI ⊢
      obtain ⟨va, vn, vcap, rfl⟩ : ∃ va vn vcap, v = .slice va vn vcap := by
        rcases hown.2 with ⟨rfl, _⟩ | ⟨g, cap, cur, rfl, _⟩ <;> exact ⟨_, _, _, rfl⟩
      by_cases hlt : cost b < least
      · have hst1 : allStep cost (some (x :: bs, least)) b = some ([b], cost b) := by simp [allStep, hlt]
        have hdl : decide (cost b < least) = true := by simp [hlt]
        rw [hst1]
        have hap : ∀ w2, Below W.heap.size W w2 → ∃ ra rc w', (Builtin.append_ #[84, 84] 84 #[.slice none 0 0, .slice (some ⟨w2.heap.size, 0, none⟩) 1 1]).run Try.prog (((w2.setCell ⟨w0.heap.size + 1, 0, none⟩ (.slice none 0 0)).setCell ⟨w0.heap.size + 1 + 1, 0, none⟩ (.int .i64 (cost b))).alloc (.cells #[.slice va vn vcap] 77)) = .ok (.slice ra 1 rc) w' ∧
            w'.cell? ⟨w0.heap.size + 1, 0, none⟩ = some (.slice none 0 0) ∧ w'.frozen? ⟨w0.heap.size + 1, 0, none⟩ = false ∧ Hid (∃ X', CInv w0 (.slice a0 c cap) c (some ([b], cost b)) (i + 1) X' St (w'.setCell ⟨w0.heap.size + 1, 0, none⟩ (.slice ra 1 rc)) ∧
              Yields X St W X' St (w'.setCell ⟨w0.heap.size + 1, 0, none⟩ (.slice ra 1 rc)) ∧ (w'.setCell ⟨w0.heap.size + 1, 0, none⟩ (.slice ra 1 rc)).heap[l]? = W.heap[l]? ∧ (w'.setCell ⟨w0.heap.size + 1, 0, none⟩ (.slice ra 1 rc)).heap[D]? = W.heap[D]?) := fun w2 h => by
          have e2A := (h.block _ lA).trans hA
          have e2L := (h.block _ lL).trans hL
          refine CInv.app (vall2 := .slice none 0 0) (n := 0) (xs := []) hI hA hX hSt hl hD hvq (((hbw.trans (h.mono hbw.size)).setCell (by show w0.heap.size ≤ w0.heap.size + 1; omega) _).setCell (by show w0.heap.size ≤ w0.heap.size + 1 + 1; omega) _) (by simpa using h.size) (fun q hq q1 q2 => ?_) ?_ ?_ (.inr rfl) (World.ownsRow_nil _ _ _ _) (by simp) rfl (by omega) (by omega) (by simp) ⟨b, [], _, [], rfl, rfl, rows_one ?_ fun q hq => ?_⟩
          · exact (Below.heap_setCell _ _ _ _ (by show q ≠ w0.heap.size + 1 + 1; omega)).trans ((Below.heap_setCell _ _ _ _ q1).trans (h.block q hq))
          · exact (Below.heap_setCell _ _ _ _ (by show w0.heap.size + 1 ≠ w0.heap.size + 1 + 1; omega)).trans (cell0 e2A _)
          · exact cell0 ((Below.heap_setCell _ _ _ _ (by show w0.heap.size + 1 + 1 ≠ w0.heap.size + 1; omega)).trans e2L) _
          · rw [hbl] at hown
            exact own_more hown fun q hq => by
              have := (hcells q hq).1
              by_cases h' : w0.heap.size + 3 ≤ q
              · exact h'
              · exact absurd (hlow q (by omega)) this
          · exact ⟨(hcells q hq).1, fun o ho => (hcells q hq).2 o (by omega)⟩
        clear hm hcost hb1 hc1 hnew hwA hbA kP kA kL hP hA hL hst hX hSt hl hD hI hvq hbw hcells hr hs1 hSt0 hown h2 h3 h4 h5 h67 hst1
        gi_wp2_with (first
          | (refine ⟨trivial, rfl, ?_⟩; refine ((callsIn_wide (n := 0)).2 hcs).mono ?_; rintro e w2 ⟨rfl, hb2⟩; obtain ⟨cA1, cA2⟩ := cA w2 hb2; obtain ⟨cL1, cL2⟩ := cL w2 hb2; obtain ⟨ra, rc, w', hrun, c1, c2, hfin⟩ := hap w2 hb2)
          | (gi_at_builtin; refine wpListIn_plain rfl (fun K hK => wp_val (exec_append (s := .tmp 26) (x := .tmp 28) rfl rfl rfl hrun) (hK _ _ ?_)))
          | fail)
        exact hfin
      · have hdl : decide (cost b < least) = false := by simp [hlt]
        by_cases heq : cost b = least
        · have hbe : (cost b == least) = true := by simp [heq]
          have hst1 : allStep cost (some (x :: bs, least)) b = some (x :: (bs ++ [b]), least) := by simp only [allStep, hlt, if_false]; rw [if_pos heq]; rfl
          rw [hst1]
          have hap : ∀ w2, Below W.heap.size W w2 → ∃ ra rc w', (Builtin.append_ #[84, 84] 84 #[.slice pa (xs.length + 1) pc, .slice (some ⟨w2.heap.size, 0, none⟩) 1 1]).run Try.prog (w2.alloc (.cells #[.slice va vn vcap] 77)) = .ok (.slice ra (xs.length + 1 + 1) rc) w' ∧
              w'.cell? ⟨w0.heap.size + 1, 0, none⟩ = some (.slice pa (xs.length + 1) pc) ∧ w'.frozen? ⟨w0.heap.size + 1, 0, none⟩ = false ∧ Hid (∃ X', CInv w0 (.slice a0 c cap) c (some (x :: (bs ++ [b]), least)) (i + 1) X' St (w'.setCell ⟨w0.heap.size + 1, 0, none⟩ (.slice ra (xs.length + 1 + 1) rc)) ∧
                Yields X St W X' St (w'.setCell ⟨w0.heap.size + 1, 0, none⟩ (.slice ra (xs.length + 1 + 1) rc)) ∧ (w'.setCell ⟨w0.heap.size + 1, 0, none⟩ (.slice ra (xs.length + 1 + 1) rc)).heap[l]? = W.heap[l]? ∧ (w'.setCell ⟨w0.heap.size + 1, 0, none⟩ (.slice ra (xs.length + 1 + 1) rc)).heap[D]? = W.heap[D]?) := fun w2 h => by
            refine CInv.app (vall2 := .slice pa (xs.length + 1) pc) (n := xs.length + 1) (xs := u :: xs) hI hA hX hSt hl hD hvq (hbw.trans (h.mono hbw.size)) h.size (fun q hq q1 q2 => h.block q hq) ((h.block _ lA).trans hA) ((h.block _ lL).trans hL) (.inl rfl) (own_keep h2 fun q hq => ?_) h3 rfl (by omega) (by omega) rfl ⟨x, bs ++ [b], u, xs ++ [Value.slice va vn vcap], rfl, rfl, (rows_snoc (u := .slice va vn vcap) (b := b) h67 ?_ fun q hq => ?_ : RowsOK W (w0.heap.size + 3) c X St (u :: xs ++ [.slice va vn vcap]) (x :: bs ++ [b]))⟩
            · obtain ⟨cur, hc, _⟩ := ownB_lt h2 hq
              exact h.block q (heap_lt hc)
            · rw [hbl] at hown
              exact own_more hown fun q hq => by
                have := (hcells q hq).1
                by_cases h' : w0.heap.size + 3 ≤ q
                · exact h'
                · exact absurd (hlow q (by omega)) this
            · exact ⟨(hcells q hq).1, fun o ho => (hcells q hq).2 o (by omega)⟩
          clear hm hcost hb1 hc1 hnew hwA hbA kP kA kL hP hA hL hst hX hSt hl hD hI hvq hbw hcells hr hs1 hSt0 hown h2 h3 h4 h5 h67 hst1
          gi_wp2_with (first
            | (refine ⟨trivial, rfl, ?_⟩; refine ((callsIn_wide (n := 0)).2 hcs).mono ?_; rintro e w2 ⟨rfl, hb2⟩; obtain ⟨cA1, cA2⟩ := cA w2 hb2; obtain ⟨cL1, cL2⟩ := cL w2 hb2; obtain ⟨ra, rc, w', hrun, c1, c2, hfin⟩ := hap w2 hb2)
            | (gi_at_builtin; refine wpListIn_plain rfl (fun K hK => wp_val (exec_append (s := .tmp 26) (x := .tmp 28) rfl rfl rfl hrun) (hK _ _ ?_)))
            | fail)
          exact hfin
        · have hbe : (cost b == least) = false := by rw [beq_eq_false_iff_ne]; exact heq
          have hst1 : allStep cost (some (x :: bs, least)) b = some (x :: bs, least) := by simp only [allStep, hlt, if_false]; rw [if_neg heq]
          rw [hst1]
          have hap : ∀ w2, Below W.heap.size W w2 → Hid (∃ X', CInv w0 (.slice a0 c cap) c (some (x :: bs, least)) (i + 1) X' St w2 ∧ Yields X St W X' St w2 ∧ w2.heap[l]? = W.heap[l]? ∧ w2.heap[D]? = W.heap[D]?) := fun w2 h => by
            refine (CInv.fin (vall' := .slice pa (xs.length + 1) pc) (least' := least) hI hA hX hSt hl hD hvq (hbw.trans (h.mono hbw.size)) h.size (fun q hq _ _ _ => h.block q hq) ((h.block _ lA).trans hA) ((h.block _ lL).trans hL) ⟨x, bs, u, xs, rfl, own_keep h2 fun q hq => ?_, h3, by omega, fun q hq => .inl hq, h67⟩).2
            obtain ⟨cur, hc, _⟩ := ownB_lt h2 hq
            exact h.block q (heap_lt hc)
          clear hm hcost hb1 hc1 hnew hwA hbA kP kA kL hP hA hL hst hX hSt hl hD hI hvq hbw hcells hr hs1 hSt0 hown h2 h3 h4 h5 h67 hst1
          gi_wp2_with (first
            | (refine ⟨trivial, rfl, ?_⟩; refine ((callsIn_wide (n := 0)).2 hcs).mono ?_; rintro e w2 ⟨rfl, hb2⟩; obtain ⟨cA1, cA2⟩ := cA w2 hb2; obtain ⟨cL1, cL2⟩ := cL w2 hb2; have hfin := hap w2 hb2)
            | fail)
          exact hfin
  · intro D X St W hI hDl hD
    rw [List.take_length] at hI
    obtain ⟨y, hy⟩ := allIn_some cost (l := ext c c []) (ext_ne hc)
    obtain ⟨hbw, hlow, hP, hst, vall, least, hA, hL, hall⟩ := hI
    rw [hy] at hall
    rcases hall with ⟨h, _⟩ | ⟨b, bs, u, xs, h1, h2, h3, h4, h5, h67⟩
    · cases h
    have cA : W.cell? ⟨w0.heap.size + 1, 0, none⟩ = some vall := (cbox hA).1
    have hDge : w0.heap.size + 3 ≤ D := by have := hb1.size; omega
    clear hb1 hbA hwA kP kA kL hc1
    gi_wp2
    have hoth : ∀ (q : Nat) (cur : Array Value) (e : TypeId) (f : Nat × Nat), W.heap[q]? = some (.cells cur e f) → (W.putObj D (.deferred none)).heap[q]? = W.heap[q]? := fun q cur e f hq => World.putObj_heap_other (fun e => by subst e; rw [hD] at hq; cases hq)
    refine ⟨by simp, .inl ⟨_, _, rfl, run_takeDeferred hD, ?_⟩⟩
    refine ⟨_, results_tmp rfl _ _ _, vall, least, b, bs, u, xs, rfl, hy.trans (by rw [h1]), own_less (own_keep h2 fun q hq => ?_) (by omega), ⟨h67.1, fun j u' b' hj hjb => ⟨own_less (own_keep (h67.2 j u' b' hj hjb).1 fun q hq => ?_) (by omega), fun _ _ => ⟨fun h => h, fun _ _ => trivial⟩⟩⟩, hbw.grown (grownBy_putObj' W D _) hbw.size (fun q e => by cases e; omega)⟩
    · obtain ⟨cur, hc, _⟩ := ownB_lt h2 hq
      exact hoth _ _ _ _ hc
    · obtain ⟨cur, hc, _⟩ := ownB_lt (h67.2 j u' b' hj hjb).1 hq
      exact hoth _ _ _ _ hc
theorem all_calls (c : Nat) (hc : c ≤ 5) (w0 : World) (a0 : Option Addr) (cap : Nat) (M : List PV) (St0 : Nat → Nat → Prop) (hSt0 : ∀ b o, St0 b o → b < w0.heap.size) (hm : PR St0 w0 (.list c M) (.slice a0 c cap)) (cost : List Nat → Int)
    (hcost : ∀ b ∈ ext c c [], Fn env1 69 (.one (.int .i64)) [.list c M, rowP b] = some (cost b)) :
    Calls Try.prog 91 #[.slice a0 c cap] w0 fun e w' => ∃ vall least b u xs, e = .returned vall ∧ bestIn cost (ext c c []) = some (b, least) ∧ w'.ownsRow w0.heap.size 77 1 vall (xs.length + 1) (u :: xs) ∧ w'.ownsRow w0.heap.size 3 1 u c (valN b) ∧ Below w0.heap.size w0 w' := by
  refine (all_calls2 c hc w0 a0 cap M St0 hSt0 hm cost hcost).mono ?_
  rintro e w' ⟨vall, least, b, bs, u, xs, h1, h2, h3, h4, h5⟩
  exact ⟨vall, least, b, u, xs, h1, best_all h2, h3, (h4.2 0 u b rfl rfl).1, h5⟩
end Gv

/- cheapestOf, on the model. -/
namespace Gv
open Go Go.Proofs Go.RowKit Go.Lib Go.Shelf
attribute [local go_sem] Oper.semAt_some
set_option maxRecDepth 100000
theorem first_cell {w : World} {B n : Nat} {v u : Value} {xs : List Value} (h : w.ownsRow B 77 1 v (n + 1) (u :: xs)) : ∃ g cp, v = .slice (some ⟨g, 0, none⟩) (n + 1) cp ∧ w.cell? ⟨g, 0, none⟩ = some u := by
  rcases h.2 with ⟨rfl, h0⟩ | ⟨g, cap, cur, rfl, h1, h2, h3, h4, h5, h6⟩
  · omega
  · refine ⟨g, cap, rfl, ?_⟩
    rw [cell_of_row w g 0 cur 77 (0, 0) h2]
    have := congrArg (fun l => l[0]?) h6
    simp only [List.getElem?_take] at this
    rw [if_pos (by omega)] at this
    simpa using this
set_option maxHeartbeats 1000000 in
theorem cheap_calls (c : Nat) (hc : c ≤ 5) (w0 : World) (a0 : Option Addr) (cap : Nat) (M : List PV) (St0 : Nat → Nat → Prop) (hSt0 : ∀ b o, St0 b o → b < w0.heap.size) (hm : PR St0 w0 (.list c M) (.slice a0 c cap)) (cost : List Nat → Int)
    (hcost : ∀ b ∈ ext c c [], Fn env1 69 (.one (.int .i64)) [.list c M, rowP b] = some (cost b)) :
    Calls Try.prog 68 #[.slice a0 c cap] w0 fun e w' => ∃ u b least, e = .returned u ∧ bestIn cost (ext c c []) = some (b, least) ∧ w'.ownsRow w0.heap.size 3 1 u c (valN b) ∧ Below w0.heap.size w0 w' := by
  have hall := all_calls c hc w0 a0 cap M St0 hSt0 hm cost hcost
  clear hm hcost hSt0
  go_enter Try.func68, Try.ntmps68
  go_wp2_with (go_at_call 91; refine hall.mono ?_; rintro e w1 ⟨vall, least, b, u, xs, rfl, h1, h2, h3, h4⟩; obtain ⟨g, cp, rfl, hg⟩ := first_cell h2; clear h2)
  go_ret
  exact ⟨u, b, least, rfl, h1, h3, h4⟩
end Gv

/- Matrices in memory of a call's own, filled row by row: linkCosts. -/
namespace Gv
open Go Go.Proofs Go.RowKit Go.Lib Go.Shelf
set_option maxRecDepth 100000
theorem info24 : (Try.prog.info? 77).map (fun i => (i.zero, i.size, i.bytes)) = some (some (.slice none 0 0), 1, 24) := by kernel_rfl
theorem info3 : (Try.prog.info? 3).map (fun i => (i.zero, i.size, i.bytes)) = some (some (.int .i64 0), 1, 8) := by kernel_rfl
def topF (N r : Nat) (ρ : Nat → Nat) : Nat → Value := fun j => if j < r then .slice (some ⟨ρ j, 0, none⟩) N N else .slice none 0 0
structure Mat (w0 W : World) (T N r : Nat) (ρ : Nat → Nat) (Z : Nat → Nat → Int) : Prop where
  below : Below w0.heap.size w0 W
  T0 : w0.heap.size ≤ T
  top : W.rowIs T 77 N (topF N r ρ)
  done : ∀ j, j < r → W.rowIs (ρ j) 3 N (fun i => .int .i64 (Z j i))
  rge : ∀ j, j < r → w0.heap.size ≤ ρ j ∧ ρ j ≠ T
  inj : ∀ j k, j < r → k < r → ρ j = ρ k → j = k
structure MatI (w0 W : World) (T N r c : Nat) (ρ : Nat → Nat) (Z : Nat → Nat → Int) : Prop where
  below : Below w0.heap.size w0 W
  T0 : w0.heap.size ≤ T
  top : W.rowIs T 77 N (topF N (r + 1) ρ)
  done : ∀ j, j < r → W.rowIs (ρ j) 3 N (fun i => .int .i64 (Z j i))
  cur : W.rowIs (ρ r) 3 N (fun i => if i < c then .int .i64 (Z r i) else .int .i64 0)
  rge : ∀ j, j < r + 1 → w0.heap.size ≤ ρ j ∧ ρ j ≠ T
  inj : ∀ j k, j < r + 1 → k < r + 1 → ρ j = ρ k → j = k
theorem mat_start (w : World) (N : Nat) (ρ : Nat → Nat) (Z : Nat → Nat → Int) : Mat w (w.alloc (.cells (madeCells #[.slice none 0 0] N) 77)) w.heap.size N 0 ρ Z :=
  ⟨(Below.refl _ _).alloc (Nat.le_refl _) _, Nat.le_refl _, (World.rowIs_made w _ N 77).congr (fun j _ => by simp [topF]), fun j hj => absurd hj (Nat.not_lt_zero _), fun j hj => absurd hj (Nat.not_lt_zero _), fun j k hj => absurd hj (Nat.not_lt_zero _)⟩
theorem matI_start {w0 W : World} {T N r : Nat} {ρ : Nat → Nat} {Z : Nat → Nat → Int} (h : Mat w0 W T N r ρ Z) :
    MatI w0 ((W.alloc (.cells (madeCells #[.int .i64 0] N) 3)).setCell ⟨T, r, none⟩ (.slice (some ⟨W.heap.size, 0, none⟩) N N)) T N r 0 (fun j => if j = r then W.heap.size else ρ j) Z := by
  have hnew := World.rowIs_made W (.int .i64 0) N 3
  have hT := h.top.lt
  have hsz := h.below.size
  refine ⟨(h.below.alloc hsz _).setCell h.T0 _, h.T0, ((h.top.alloc _).set r _).congr (fun j _ => ?_), fun j hj => ?_, ?_, fun j hj => ?_, fun j k hj hk e => ?_⟩
  · simp only [topF]
    by_cases e : j = r
    · subst e; simp
    · rw [if_neg e]
      by_cases hlt : j < r
      · rw [if_pos hlt, if_pos (by omega), if_neg e]
      · rw [if_neg hlt, if_neg (by omega)]
  · rw [if_neg (by omega)]
    exact ((h.done j hj).alloc _).setOther (by have := (h.rge j hj).2; exact this) _
  · rw [if_pos rfl]
    exact (hnew.setOther (by show W.heap.size ≠ T; omega) _).congr (fun i _ => by simp)
  · by_cases e : j = r
    · rw [if_pos e]; omega
    · rw [if_neg e]; exact h.rge j (by omega)
  · by_cases e1 : j = r <;> by_cases e2 : k = r
    · omega
    · rw [if_pos e1, if_neg e2] at e
      have := (h.done k (by omega)).lt
      omega
    · rw [if_neg e1, if_pos e2] at e
      have := (h.done j (by omega)).lt
      omega
    · rw [if_neg e1, if_neg e2] at e
      exact h.inj j k (by omega) (by omega) e
theorem MatI.go {w0 W W2 : World} {T N r c : Nat} {ρ : Nat → Nat} {Z : Nat → Nat → Int} (h : MatI w0 W T N r c ρ Z) (hb : Below W.heap.size W W2) : MatI w0 W2 T N r c ρ Z :=
  ⟨h.below.trans (hb.mono h.below.size), h.T0, h.top.of_block (hb.block _ h.top.lt), fun j hj => (h.done j hj).of_block (hb.block _ (h.done j hj).lt), h.cur.of_block (hb.block _ h.cur.lt), h.rge, h.inj⟩
theorem MatI.step {w0 W : World} {T N r c : Nat} {ρ : Nat → Nat} {Z : Nat → Nat → Int} (h : MatI w0 W T N r c ρ Z) {z : Int} (hz : z = Z r c) : MatI w0 (W.setCell ⟨ρ r, c, none⟩ (.int .i64 z)) T N r (c + 1) ρ Z := by
  obtain ⟨h1, h2⟩ := h.rge r (by omega)
  refine ⟨h.below.setCell h1 _, h.T0, h.top.setOther (by exact fun e => h2 e.symm) _, fun j hj => (h.done j hj).setOther (fun e => by have := h.inj j r (by omega) (by omega) e; omega) _, (h.cur.set c _).congr (fun i _ => ?_), h.rge, h.inj⟩
  by_cases e : i = c
  · subst e; simp [hz]
  · rw [if_neg e]
    by_cases hlt : i < c
    · rw [if_pos hlt, if_pos (by omega)]
    · rw [if_neg hlt, if_neg (by omega)]
theorem MatI.skip {w0 W : World} {T N r c : Nat} {ρ : Nat → Nat} {Z : Nat → Nat → Int} (h : MatI w0 W T N r c ρ Z) (hz : Z r c = 0) : MatI w0 W T N r (c + 1) ρ Z := by
  refine ⟨h.below, h.T0, h.top, h.done, h.cur.congr (fun i _ => ?_), h.rge, h.inj⟩
  by_cases e : i = c
  · subst e; simp [hz]
  · by_cases hlt : i < c
    · rw [if_pos hlt, if_pos (by omega)]
    · rw [if_neg hlt, if_neg (by omega)]
theorem MatI.full {w0 W : World} {T N r : Nat} {ρ : Nat → Nat} {Z : Nat → Nat → Int} (h : MatI w0 W T N r N ρ Z) : Mat w0 W T N (r + 1) ρ Z :=
  ⟨h.below, h.T0, h.top, fun j hj => by
    by_cases e : j = r
    · subst e
      exact h.cur.congr (fun i hi => by rw [if_pos hi])
    · exact h.done j (by omega), h.rge, h.inj⟩
def szZ (p : Int) : Int := if w64 (0 - p) > p then w64 (0 - p) else p
def apZ (v u : Int × Int × Int) : Int := w64 (w64 (w64 (w64 (v.1 - u.1) * w64 (v.1 - u.1)) + w64 (w64 (v.2.1 - u.2.1) * w64 (v.2.1 - u.2.1))) + szZ (w64 (v.2.2 - u.2.2)))
theorem apart_calls (v u : Int × Int × Int) (w : World) : Calls Try.prog 106 #[.agg #[.int .i64 v.1, .int .i64 v.2.1, .int .i64 v.2.2], .agg #[.int .i64 u.1, .int .i64 u.2.1, .int .i64 u.2.2]] w fun e w' => e = .returned (.int .i64 (apZ v u)) ∧ Below w.heap.size w w' := by
  have h0 : Fapa [.agg [.int .i64 v.1, .int .i64 v.2.1, .int .i64 v.2.2], .agg [.int .i64 u.1, .int .i64 u.2.1, .int .i64 u.2.2]] = some (apZ v u) := by
    refine Fapa_of _ _ _ _ _ _ ?_
    unfold tapa
    have hs : Fsz [.int .i64 (w64 (v.2.2 - u.2.2))] = some (szZ (w64 (v.2.2 - u.2.2))) := Fsz_of _ rfl
    simp only [hs, bindO_val]
    rfl
  obtain ⟨rv, k1, k2⟩ := Fn_some h0
  refine (((run_sound cloMixed env1_ok).fn 106 _ rv k1).2 w (fun _ _ => False) [.agg #[.int .i64 v.1, .int .i64 v.2.1, .int .i64 v.2.2], .agg #[.int .i64 u.1, .int .i64 u.2.1, .int .i64 u.2.2]] (fun _ _ h => h.elim)
    ⟨_, _, rfl, ⟨[.int .i64 v.1, .int .i64 v.2.1, .int .i64 v.2.2], rfl, _, _, rfl, rfl, _, _, rfl, rfl, _, _, rfl, rfl, rfl⟩, _, _, rfl, ⟨[.int .i64 u.1, .int .i64 u.2.1, .int .i64 u.2.2], rfl, _, _, rfl, rfl, _, _, rfl, rfl, _, _, rfl, rfl, rfl⟩, rfl⟩).mono ?_
  rintro e w' ⟨x, St', rfl, hrr, hbel, _⟩
  refine ⟨?_, hbel⟩
  cases rv with
  | val y =>
    have hy : y = .int .i64 (apZ v u) := k2
    subst hy
    simp only [RR, PR] at hrr
    rw [hrr]
  | own n sz cs => cases k2
end Gv

/- linkCosts, on the model. -/
namespace Gv
open Go Go.Proofs Go.RowKit Go.Lib Go.Shelf
set_option maxRecDepth 100000
def linkZ (n m : Nat) (miss : Int) (V U : Nat → Int × Int × Int) (i j : Nat) : Int := if i < n ∧ j < m then apZ (V i) (U j) else if i < n ∨ j < m then miss else 0
set_option maxHeartbeats 6400000 in
theorem link_calls (n m N : Nat) (hN : N = n + m) (hN8 : N ≤ 8) (w0 : World) (ba aa : Option Addr) (bc ac : Nat) (miss : Int) (gb go ga gao : Nat) (V U : Nat → Int × Int × Int) (hba : 0 < n → ba = some ⟨gb, go, none⟩) (haa : 0 < m → aa = some ⟨ga, gao, none⟩)
    (hV : ∀ i, i < n → w0.cell? ⟨gb, go + i * 3, none⟩ = some (.int .i64 (V i).1) ∧ w0.cell? ⟨gb, go + i * 3 + 1, none⟩ = some (.int .i64 (V i).2.1) ∧ w0.cell? ⟨gb, go + i * 3 + 2, none⟩ = some (.int .i64 (V i).2.2))
    (hU : ∀ i, i < m → w0.cell? ⟨ga, gao + i * 3, none⟩ = some (.int .i64 (U i).1) ∧ w0.cell? ⟨ga, gao + i * 3 + 1, none⟩ = some (.int .i64 (U i).2.1) ∧ w0.cell? ⟨ga, gao + i * 3 + 2, none⟩ = some (.int .i64 (U i).2.2)) :
    Calls Try.prog 93 #[.slice ba n bc, .slice aa m ac, .int .i64 miss] w0 fun e w' => e = .returned (.slice (some ⟨w0.heap.size, 0, none⟩) N N) ∧ ∃ ρ, Mat w0 w' w0.heap.size N N ρ (linkZ n m miss V U) := by
  have hnm : (n : Int) + (m : Int) = (N : Int) := by omega
  have hn8 : n ≤ 8 := by omega
  have hm8 : m ≤ 8 := by omega
  have hmk55 : ∀ w, (Instr.makeSlice 84 (.int .i64 ((n : Int) + (m : Int))) (.int .i64 ((n : Int) + (m : Int)))).run Try.prog w = .ok (.slice (some ⟨w.heap.size, 0, none⟩) N N) (w.alloc (.cells (madeCells #[.slice none 0 0] N) 77)) := fun w => by
    rw [hnm]
    exact run_make_row' (P := Try.prog) 84 77 (.slice none 0 0) 24 Try.underlying84 info24 rfl .i64 .i64 N (by omega) (by omega) w
  have hmk24 : ∀ w, (Instr.makeSlice 77 (.int .i64 ((n : Int) + (m : Int))) (.int .i64 ((n : Int) + (m : Int)))).run Try.prog w = .ok (.slice (some ⟨w.heap.size, 0, none⟩) N N) (w.alloc (.cells (madeCells #[.int .i64 0] N) 3)) := fun w => by
    rw [hnm]
    exact run_make_row' (P := Try.prog) 77 3 (.int .i64 0) 8 Try.underlying77 info3 rfl .i64 .i64 N (by omega) (by omega) w
  have HN : Aside (N = n + m) := hN
  clear hN hnm
  go_enter Try.func93, Try.ntmps93
  go_wp2
  clear hmk55
  go_loopg [22] N (fun g i wr => ∃ (r : Nat) (ρ : Nat → Nat), r ≤ N ∧ g = N - r ∧ i = .int .i64 r ∧ Mat w0 wr w0.heap.size N r ρ (linkZ n m miss V U))
  case atStart => exact ⟨0, fun _ => 0, Nat.zero_le _, rfl, rfl, mat_start _ _ _ _⟩
  case round =>
    obtain ⟨r, ρ, hr, rfl, rfl, hO⟩ := hrel
    by_cases hrN : r < N
    · have hrz : (r : Int) < (N : Int) := by omega
      have hst1 : ∀ o, (wr.alloc o).cell? ⟨w0.heap.size, r, none⟩ = some (topF N r ρ r) := fun o => (hO.top.alloc o).cell hrN
      have hst2 : ∀ o, (wr.alloc o).frozen? ⟨w0.heap.size, r, none⟩ = false := fun o => (hO.top.alloc o).frozen r
      go_wp2
      have hI0 := matI_start hO
      generalize (fun j => if j = r then wr.heap.size else ρ j) = ρ1 at hI0
      clear hmk24 hst1 hst2 hO
      go_loopg [37] N (fun g i wi => ∃ c : Nat, c ≤ N ∧ g = N - c ∧ i = .int .i64 c ∧ MatI w0 wi w0.heap.size N r c ρ1 (linkZ n m miss V U))
      case atStart => exact ⟨0, Nat.zero_le _, rfl, rfl, hI0⟩
      case round =>
        obtain ⟨c, hc, rfl, rfl, hI⟩ := hrel
        clear hI0
        by_cases hcN : c < N
        · have hcz : (c : Int) < (N : Int) := by omega
          have t1 : ∀ w2, Below wr.heap.size wr w2 → w2.cell? ⟨w0.heap.size, r, none⟩ = some (.slice (some ⟨ρ1 r, 0, none⟩) N N) ∧ w2.frozen? ⟨ρ1 r, c, none⟩ = false ∧ ∃ z, w2.cell? ⟨ρ1 r, c, none⟩ = some (.int .i64 z) := fun w2 h => by
            refine ⟨by simpa [topF] using (hI.go h).top.cell hrN, (hI.go h).cur.frozen c, 0, by simpa using (hI.go h).cur.cell hcN⟩
          by_cases h1 : r < n ∧ c < m
          · obtain ⟨ha1, ha2⟩ := h1
            have hd1 : (decide ((r : Int) < (n : Int))) = true := by simp; omega
            have hd2 : (decide ((c : Int) < (m : Int))) = true := by simp; omega
            have hz1 : (r : Int) < (n : Int) := by omega
            have hz2 : (c : Int) < (m : Int) := by omega
            obtain rfl := hba (by omega)
            obtain rfl := haa (by omega)
            have hZ : apZ (V r) (U c) = linkZ n m miss V U r c := by simp [linkZ, ha1, ha2]
            have tV : ∀ w2, Below wr.heap.size wr w2 → w2.cell? ⟨gb, go + r * 3, none⟩ = some (.int .i64 (V r).1) ∧ w2.cell? ⟨gb, go + r * 3 + 1, none⟩ = some (.int .i64 (V r).2.1) ∧ w2.cell? ⟨gb, go + r * 3 + 2, none⟩ = some (.int .i64 (V r).2.2) := fun w2 h => by
              have hb := hI.below.trans (h.mono hI.below.size)
              obtain ⟨q1, q2, q3⟩ := hV r ha1
              have hlt : gb < w0.heap.size := World.block_lt_of_cell? _ _ q1
              exact ⟨(hb.cell (p := ⟨gb, _, none⟩) hlt).trans q1, (hb.cell (p := ⟨gb, _, none⟩) hlt).trans q2, (hb.cell (p := ⟨gb, _, none⟩) hlt).trans q3⟩
            have tU : ∀ w2, Below wr.heap.size wr w2 → w2.cell? ⟨ga, gao + c * 3, none⟩ = some (.int .i64 (U c).1) ∧ w2.cell? ⟨ga, gao + c * 3 + 1, none⟩ = some (.int .i64 (U c).2.1) ∧ w2.cell? ⟨ga, gao + c * 3 + 2, none⟩ = some (.int .i64 (U c).2.2) := fun w2 h => by
              have hb := hI.below.trans (h.mono hI.below.size)
              obtain ⟨q1, q2, q3⟩ := hU c ha2
              have hlt : ga < w0.heap.size := World.block_lt_of_cell? _ _ q1
              exact ⟨(hb.cell (p := ⟨ga, _, none⟩) hlt).trans q1, (hb.cell (p := ⟨ga, _, none⟩) hlt).trans q2, (hb.cell (p := ⟨ga, _, none⟩) hlt).trans q3⟩
            have hdr : Below wr.heap.size wr wr.drew := (Below.refl _ wr).drew
            obtain ⟨p1, p2, z0, p3⟩ := t1 wr.drew hdr
            obtain ⟨v1, v2, v3⟩ := tV wr.drew hdr
            obtain ⟨u1, u2, u3⟩ := tU wr.drew hdr
            have ap := apart_calls (V r) (U c)
            clear hV hU hba haa tV tU
            go_upto_region 11 with fail
            go_region_law (first
              | (go_simp; go_at_call 106; refine (ap _).mono ?_; rintro e w2 ⟨rfl, hb2⟩; obtain ⟨p1', p2', z', p3'⟩ := t1 w2 (hdr.trans hb2)))
            all_goals (go_wp2; go_roundg (N - (c + 1)))
            all_goals first
              | (go_light; omega)
              | (go_light; exact ⟨c + 1, by omega, rfl, by simp, (hI.go (hdr.trans hb2)).step rfl⟩)
          · by_cases ha1 : r < n <;> by_cases ha2 : c < m
            · exact absurd ⟨ha1, ha2⟩ h1
            · have hd1 : (decide ((r : Int) < (n : Int))) = true := by simp; omega
              have hd2 : (decide ((c : Int) < (m : Int))) = false := by simp; omega
              have hz1 : (r : Int) < (n : Int) := by omega
              have hz2 : ¬ ((c : Int) < (m : Int)) := by omega
              have hZ : miss = linkZ n m miss V U r c := by simp [linkZ, ha1, ha2]
              have HZ : Aside (miss = linkZ n m miss V U r c) := hZ
              clear hZ
              obtain ⟨p1, p2, z0, p3⟩ := t1 wr (Below.refl _ _)
              clear hV hU hba haa t1
              go_wp2
              go_roundg (N - (c + 1))
              case measure => go_light; omega
              case rel => go_light; exact ⟨c + 1, by omega, rfl, by simp, hI.step HZ⟩
            · have hd1 : (decide ((r : Int) < (n : Int))) = false := by simp; omega
              have hd2 : (decide ((c : Int) < (m : Int))) = true := by simp; omega
              have hz1 : ¬ ((r : Int) < (n : Int)) := by omega
              have hz2 : (c : Int) < (m : Int) := by omega
              have hZ : miss = linkZ n m miss V U r c := by simp [linkZ, ha1, ha2]
              have HZ : Aside (miss = linkZ n m miss V U r c) := hZ
              clear hZ
              obtain ⟨p1, p2, z0, p3⟩ := t1 wr (Below.refl _ _)
              clear hV hU hba haa t1
              go_wp2
              go_roundg (N - (c + 1))
              case measure => go_light; omega
              case rel => go_light; exact ⟨c + 1, by omega, rfl, by simp, hI.step HZ⟩
            · have hd1 : (decide ((r : Int) < (n : Int))) = false := by simp; omega
              have hd2 : (decide ((c : Int) < (m : Int))) = false := by simp; omega
              have hz1 : ¬ ((r : Int) < (n : Int)) := by omega
              have hz2 : ¬ ((c : Int) < (m : Int)) := by omega
              have HZ : Aside (linkZ n m miss V U r c = 0) := by show _ = _; simp [linkZ, ha1, ha2]
              clear hV hU hba haa t1
              go_wp2
              go_roundg (N - (c + 1))
              case measure => go_light; omega
              case rel => go_light; exact ⟨c + 1, by omega, rfl, by simp, hI.skip HZ⟩
        · have hcz : ¬ ((c : Int) < (N : Int)) := by omega
          obtain rfl : c = N := by omega
          clear hV hU hba haa
          go_wp2
          go_roundg (c - (r + 1))
          case measure => go_light; omega
          case rel => go_light; exact ⟨r + 1, ρ1, by omega, rfl, by simp, hI.full⟩
    · have hrz : ¬ ((r : Int) < (N : Int)) := by omega
      go_wp2
      go_ret
      obtain rfl : r = N := by omega
      exact ⟨rfl, ρ, hO⟩
end Gv

/- The cheapest assignment of a matrix, in plain terms. -/
namespace Gv
open Go Go.Proofs Go.RowKit
set_option maxRecDepth 100000
def rowZ (N : Nat) (f : Nat → Int) : PV := .list N ((List.range N).map fun j => .int .i64 (f j))
def matP (N : Nat) (Z : Nat → Nat → Int) : List PV := (List.range N).map fun i => rowZ N (Z i)
def costW (Z : Nat → Nat → Int) (b : List Nat) : Int := (List.range b.length).foldl (fun a i => w64 (a + Z i (b.getD i 0))) 0
theorem prs_range {St : Nat → Nat → Prop} {w : World} (f : Nat → PV) (g : Nat → Value) (h : ∀ i, PR St w (f i) (g i)) : ∀ (l : List Nat), PRs St w (l.map f) (l.map g)
  | [] => rfl
  | i :: l => ⟨_, _, rfl, h i, prs_range f g h l⟩
theorem prs_rangeN {St : Nat → Nat → Prop} {w : World} (f : Nat → PV) (g : Nat → Value) : ∀ (l : List Nat), (∀ i ∈ l, PR St w (f i) (g i)) → PRs St w (l.map f) (l.map g)
  | [], _ => rfl
  | i :: l, h => ⟨_, _, rfl, h i (by simp), prs_rangeN f g l fun j hj => h j (by simp [hj])⟩
theorem row_at_pr {St : Nat → Nat → Prop} {w : World} {b N : Nat} {f : Nat → Int} (h : w.rowIs b 3 N (fun i => .int .i64 (f i))) (hs : ∀ o, St b o) : PR St w (rowZ N f) (.slice (some ⟨b, 0, none⟩) N N) := by
  refine ⟨_, N, (List.range N).map fun j => Value.int .i64 (f j), rfl, prs_range (fun j => PV.int .i64 (f j)) (fun j => Value.int .i64 (f j)) (fun i => rfl) _, Nat.le_refl _, .inr ⟨_, rfl, fun j x hj => ⟨hs _, ?_, ?_⟩⟩⟩
  · rw [addr_add, Nat.zero_add]
    rw [List.getElem?_map] at hj
    have hjl : j < N := by
      cases hr : (List.range N)[j]? with
      | none => rw [hr] at hj; cases hj
      | some y => have := (List.getElem?_eq_some_iff.1 hr).1; simpa using this
    rw [List.getElem?_range hjl] at hj
    rw [h.cell hjl]
    exact hj
  · have := List.mem_of_getElem? hj
    simp only [List.mem_map] at this
    obtain ⟨y, _, rfl⟩ := this
    rfl
theorem mat_prB {w0 W : World} {T N : Nat} {ρ : Nat → Nat} {Z : Nat → Nat → Int} (h : Mat w0 W T N N ρ Z) : PR (fun q _ => w0.heap.size ≤ q ∧ q < W.heap.size) W (.list N (matP N Z)) (.slice (some ⟨T, 0, none⟩) N N) := by
  refine ⟨_, N, (List.range N).map fun j => Value.slice (some ⟨ρ j, 0, none⟩) N N, rfl, prs_rangeN _ _ _ (fun i hi => row_at_pr (h.done i (by simpa using hi)) fun o => ⟨(h.rge i (by simpa using hi)).1, (h.done i (by simpa using hi)).lt⟩), Nat.le_refl _, .inr ⟨_, rfl, fun j x hj => ⟨⟨h.T0, h.top.lt⟩, ?_, ?_⟩⟩⟩
  · rw [addr_add, Nat.zero_add]
    rw [List.getElem?_map] at hj
    have hjl : j < N := by
      cases hr : (List.range N)[j]? with
      | none => rw [hr] at hj; cases hj
      | some y => have := (List.getElem?_eq_some_iff.1 hr).1; simpa using this
    rw [List.getElem?_range hjl] at hj
    rw [h.top.cell hjl]
    simp only [topF, if_pos hjl]
    exact hj
  · have := List.mem_of_getElem? hj
    simp only [List.mem_map] at this
    obtain ⟨y, _, rfl⟩ := this
    rfl
theorem mat_pr {w0 W : World} {T N : Nat} {ρ : Nat → Nat} {Z : Nat → Nat → Int} (h : Mat w0 W T N N ρ Z) : PR (fun q _ => q < W.heap.size) W (.list N (matP N Z)) (.slice (some ⟨T, 0, none⟩) N N) := PR.mono (fun _ _ h => ⟨h.2, rfl⟩) _ _ (mat_prB h)
theorem ext_all_lt {c : Nat} (hc : c ≤ 5) : ∀ b ∈ ext c c [], b.all (fun x => decide (x < c)) = true := by
  have : c = 0 ∨ c = 1 ∨ c = 2 ∨ c = 3 ∨ c = 4 ∨ c = 5 := by omega
  rcases this with rfl | rfl | rfl | rfl | rfl | rfl <;> decide +kernel
theorem range_from {n i : Nat} (h : i < n) : (List.range n).drop i = i :: (List.range n).drop (i + 1) := by
  rw [List.drop_eq_getElem_cons (by simpa using h)]
  simp
theorem cost_loop (N : Nat) (Z : Nat → Nat → Int) (b : List Nat) (hb : b.length = N) (hlt : ∀ x ∈ b, x < N) (hN : N ≤ 1000) : ∀ i, i ≤ b.length → ∀ a : Int,
    RcOf_0 (TcOf_0a N (matP N Z) a b.length (encN b) (b.length : Int) (i : Int)) = exO (XcOf_0a (((List.range b.length).drop i).foldl (fun a i => w64 (a + Z i (b.getD i 0))) a)) := by
  refine up_ind _ ?_ ?_
  · intro a
    refine RcOf_0a_of _ _ _ _ _ _ _ ?_
    unfold BcOf_0a
    rw [bif_neg (by omega), List.drop_of_length_le (by simp)]
    rfl
  · intro i hi ih a
    refine RcOf_0a_of _ _ _ _ _ _ _ ?_
    have hx : b[i]? = some (b.getD i 0) := by simp [List.getD, List.getElem?_eq_getElem hi]
    have hxl : b.getD i 0 < N := hlt _ (List.mem_of_getElem? hx)
    have hg : (encN b)[i * 1]? = some (PV.int .i64 ((b.getD i 0 : Nat) : Int)) := by rw [Nat.mul_one]; simp only [encN, List.getElem?_map, hx, Option.map_some]
    have hm : (matP N Z)[i * 1]? = some (rowZ N (Z i)) := by rw [Nat.mul_one]; simp only [matP, List.getElem?_map, List.getElem?_range (show i < N by omega), Option.map_some]
    have hr : ((List.range N).map fun j => PV.int .i64 (Z i j))[(b.getD i 0) * 1]? = some (.int .i64 (Z i (b.getD i 0))) := by rw [Nat.mul_one]; simp only [List.getElem?_map, List.getElem?_range hxl, Option.map_some]
    have hw : w64 ((i : Int) + 1) = ((i + 1 : Nat) : Int) := by rw [w64_in (by omega)]; omega
    unfold BcOf_0a
    rw [bif_pos (by omega), bif_pos (by omega), Int.toNat_natCast, hg]
    simp only [intC_int, bindO_val]
    rw [bif_pos (by omega), hm]
    simp only [rowZ, listC, bindO_val]
    rw [bif_pos (by omega), Int.toNat_natCast, hr]
    simp only [intC_int, bindO_val, hw]
    rw [ih, range_from hi, List.foldl_cons]
    rfl
theorem cost_is (N : Nat) (Z : Nat → Nat → Int) (b : List Nat) (hb : b.length = N) (hlt : ∀ x ∈ b, x < N) (hN : N ≤ 1000) : Fn env1 69 (.one (.int .i64)) [.list N (matP N Z), rowP b] = some (costW Z b) := by
  refine FcOf_of _ _ _ _ ?_
  unfold tcOf
  have h := cost_loop N Z b hb hlt hN 0 (Nat.zero_le _) 0
  rw [List.drop_zero] at h
  have h := LcOf_0a_of h
  have h : LcOf_0 (TcOf_0a N (matP N Z) 0 b.length (encN b) (b.length : Int) 0) = _ := h
  rw [h]
  rfl
theorem cheap_mat (N : Nat) (hN : N ≤ 5) (w : World) (a0 : Option Addr) (cap : Nat) (Z : Nat → Nat → Int) (St : Nat → Nat → Prop) (hSt : ∀ b o, St b o → b < w.heap.size) (hm : PR St w (.list N (matP N Z)) (.slice a0 N cap)) :
    Calls Try.prog 68 #[.slice a0 N cap] w fun e w' => ∃ u b least, e = .returned u ∧ bestIn (costW Z) (ext N N []) = some (b, least) ∧ w'.ownsRow w.heap.size 3 1 u N (valN b) ∧ Below w.heap.size w w' :=
  cheap_calls N hN w a0 cap _ St hSt hm (costW Z) fun b hb => cost_is N Z b (ext_row hN b hb) (fun x hx => by simpa using List.all_eq_true.1 (ext_all_lt hN b hb) x hx) (by omega)
end Gv

/- linksOf, on the model. -/
namespace Gv
open Go Go.Proofs Go.RowKit Go.Lib Go.Shelf
set_option maxRecDepth 100000
def lkV (m x : Nat) : Int := if m ≤ x then -1 else x
theorem own_form {w : World} {B n : Nat} {v : Value} {b : List Nat} (h : w.ownsRow B 3 1 v n (valN b)) : ∃ a cp, v = .slice a n cp ∧ n ≤ cp ∧ cp ≤ maxLen ∧ (0 < n → ∃ g, a = some ⟨g, 0, none⟩ ∧ B ≤ g ∧ ∃ F, w.rowIs g 3 cp F ∧ ∀ j, j < n → F j = .int .i64 ((b.getD j 0 : Nat) : Int)) := by
  rcases h.2 with ⟨rfl, rfl⟩ | ⟨g, cap, cur, rfl, h1, h2, h3, h4, h5, h6⟩
  · exact ⟨none, 0, rfl, Nat.le_refl _, by decide, fun h => absurd h (Nat.lt_irrefl _)⟩
  · refine ⟨_, cap, rfl, h3, h4, fun _ => ⟨g, rfl, h1, fun j => cur.toList.getD j (.int .i64 0), ⟨cur, h2, by omega, fun j hj => ?_⟩, fun j hj => ?_⟩⟩
    · have hlt : j < cur.size := by omega
      simp [Array.getElem?_eq_getElem hlt, List.getD, hlt]
    · have hl : b.length = n := by have := h.1; simp [valN] at this; omega
      have e1 := congrArg (fun l => l[j]?) h6
      simp only [List.getElem?_take, valN, List.getElem?_map] at e1
      rw [if_pos (by omega), List.getElem?_eq_getElem (l := b) (by omega)] at e1
      simp only [List.getD, e1, Option.map_some, Option.getD_some, List.getElem?_eq_getElem (l := b) (show j < b.length by omega)]
set_option maxHeartbeats 4000000 in
theorem links_calls (n m : Nat) (h5 : n + m ≤ 5) (w0 : World) (ba aa : Option Addr) (bc ac : Nat) (miss : Int) (gb go ga gao : Nat) (V U : Nat → Int × Int × Int) (hba : 0 < n → ba = some ⟨gb, go, none⟩) (haa : 0 < m → aa = some ⟨ga, gao, none⟩)
    (hV : ∀ i, i < n → w0.cell? ⟨gb, go + i * 3, none⟩ = some (.int .i64 (V i).1) ∧ w0.cell? ⟨gb, go + i * 3 + 1, none⟩ = some (.int .i64 (V i).2.1) ∧ w0.cell? ⟨gb, go + i * 3 + 2, none⟩ = some (.int .i64 (V i).2.2))
    (hU : ∀ i, i < m → w0.cell? ⟨ga, gao + i * 3, none⟩ = some (.int .i64 (U i).1) ∧ w0.cell? ⟨ga, gao + i * 3 + 1, none⟩ = some (.int .i64 (U i).2.1) ∧ w0.cell? ⟨ga, gao + i * 3 + 2, none⟩ = some (.int .i64 (U i).2.2)) :
    Calls Try.prog 73 #[.slice ba n bc, .slice aa m ac, .int .i64 miss] w0 fun e w' => ∃ a cp b least, e = .returned (.slice a n cp) ∧ bestIn (costW (linkZ n m miss V U)) (ext (n + m) (n + m) []) = some (b, least) ∧ n ≤ cp ∧ Below w0.heap.size w0 w' ∧
      (0 < n → ∃ g, a = some ⟨g, 0, none⟩ ∧ w0.heap.size ≤ g ∧ ∃ F, w'.rowIs g 3 cp F ∧ ∀ j, j < n → F j = .int .i64 (lkV m (b.getD j 0))) := by
  obtain ⟨N, hN⟩ : ∃ N, N = n + m := ⟨_, rfl⟩
  have hl := link_calls n m N hN (by omega) w0 ba aa bc ac miss gb go ga gao V U hba haa hV hU
  have HN : Aside (N = n + m ∧ N ≤ 5) := ⟨hN, by omega⟩
  have hn5 : n ≤ 5 := by omega
  have hm5 : m ≤ 5 := by omega
  rw [← hN]
  clear hV hU hba haa hN h5
  go_enter Try.func73, Try.ntmps73
  go_wp2_with (first
    | (go_at_call 93; refine hl.mono ?_; rintro e w1 ⟨rfl, ρ, hM⟩; have hch := cheap_mat N HN.2 w1 _ _ _ _ (fun _ _ h => h) (mat_pr hM))
    | (go_at_call 68; refine hch.mono ?_; rintro e w2 ⟨u, b, least, rfl, hbst, hown, hbel⟩; obtain ⟨ua, ucp, rfl, hle, hmx, hrow⟩ := own_form hown; have hnle : n ≤ ucp := by (have := HN.1; omega)))
  have hb0 := hM.below
  have hb2 : Below w0.heap.size w0 w2 := hb0.trans (hbel.mono hb0.size)
  have hrow2 : 0 < n → ∃ q F, ua = some ⟨q, 0, none⟩ ∧ w0.heap.size ≤ q ∧ w2.rowIs q 3 ucp F ∧ (∀ j, j < 0 → F j = .int .i64 (lkV m (b.getD j 0))) ∧ ∀ j, 0 ≤ j → j < n → F j = .int .i64 ((b.getD j 0 : Nat) : Int) := fun h => by
    have hn := HN.1
    obtain ⟨g, h1, h2, F, h3, h4⟩ := hrow (by omega)
    exact ⟨g, F, h1, Nat.le_trans hb0.size h2, h3, fun j hj => absurd hj (Nat.not_lt_zero _), fun j _ hj => h4 j (by omega)⟩
  clear hl hch hrow hown hbel hM hb0
  go_loopg [22] n (fun g i wr => ∃ k : Nat, k ≤ n ∧ g = n - k ∧ i = .int .i64 k ∧ Below w0.heap.size w0 wr ∧ (0 < n → ∃ q F, ua = some ⟨q, 0, none⟩ ∧ w0.heap.size ≤ q ∧ wr.rowIs q 3 ucp F ∧ (∀ j, j < k → F j = .int .i64 (lkV m (b.getD j 0))) ∧ ∀ j, k ≤ j → j < n → F j = .int .i64 ((b.getD j 0 : Nat) : Int)))
  case atStart => exact ⟨0, Nat.zero_le _, rfl, rfl, hb2, hrow2⟩
  case round =>
    obtain ⟨k, hk, rfl, rfl, hbw, hR⟩ := hrel
    clear hb2 hrow2
    by_cases hkn : k < n
    · obtain ⟨q, F, rfl, hq, hrw, hF1, hF2⟩ := hR (by omega)
      have hkz : (k : Int) < (n : Int) := by omega
      have c1 : wr.cell? ⟨q, k, none⟩ = some (.int .i64 ((b.getD k 0 : Nat) : Int)) := by rw [← hF2 k (Nat.le_refl _) hkn]; exact hrw.cell (by omega)
      have c2 : wr.frozen? ⟨q, k, none⟩ = false := hrw.frozen k
      generalize hx : b.getD k 0 = x at c1
      have Hx : Aside (b.getD k 0 = x) := hx
      clear hx
      by_cases hge : m ≤ x
      · have hge' : ((x : Int) ≥ (m : Int)) := by omega
        have hdg : decide ((x : Int) ≥ (m : Int)) = true := by simp; omega
        clear hR
        have Hd : Aside ((∀ j, j < k → F j = .int .i64 (lkV m (b.getD j 0))) ∧ ∀ j, k ≤ j → j < n → F j = .int .i64 ((b.getD j 0 : Nat) : Int)) := ⟨hF1, hF2⟩
        clear hF1 hF2
        go_wp2
        go_roundg (n - (k + 1))
        case measure => go_light; omega
        case rel =>
          go_light
          refine ⟨k + 1, by omega, rfl, by simp, hbw.setCell hq _, fun _ => ⟨q, _, rfl, hq, hrw.set k _, fun j hj => ?_, fun j hj hjn => ?_⟩⟩
          · by_cases e : j = k
            · subst e
              rw [if_pos rfl, Hx.out]
              simp [lkV, hge]
            · rw [if_neg e]
              exact Hd.out.1 j (by omega)
          · rw [if_neg (by omega)]
            exact Hd.out.2 j (by omega) hjn
      · have hge' : ¬ ((x : Int) ≥ (m : Int)) := by omega
        have hdg : decide ((x : Int) ≥ (m : Int)) = false := by simp; omega
        clear hR
        have Hd : Aside ((∀ j, j < k → F j = .int .i64 (lkV m (b.getD j 0))) ∧ ∀ j, k ≤ j → j < n → F j = .int .i64 ((b.getD j 0 : Nat) : Int)) := ⟨hF1, hF2⟩
        clear hF1 hF2
        go_wp2
        go_roundg (n - (k + 1))
        case measure => go_light; omega
        case rel =>
          go_light
          refine ⟨k + 1, by omega, rfl, by simp, hbw, fun _ => ⟨q, F, rfl, hq, hrw, fun j hj => ?_, fun j hj hjn => Hd.out.2 j (by omega) hjn⟩⟩
          by_cases e : j = k
          · subst e
            rw [Hd.out.2 j (Nat.le_refl _) hkn, Hx.out]
            simp [lkV, hge]
          · exact Hd.out.1 j (by omega)
    · obtain rfl : k = n := by omega
      have hkz : ¬ ((k : Int) < (k : Int)) := by omega
      have HR : Aside (0 < k → ∃ q F, ua = some ⟨q, 0, none⟩ ∧ w0.heap.size ≤ q ∧ wr.rowIs q 3 ucp F ∧ (∀ j, j < k → F j = .int .i64 (lkV m (b.getD j 0))) ∧ ∀ j, k ≤ j → j < k → F j = .int .i64 ((b.getD j 0 : Nat) : Int)) := hR
      clear hR
      go_wp2
      go_ret
      refine ⟨ua, ucp, rfl, hnle, hbw, fun h => ?_⟩
      obtain ⟨q, F, h1, h2, h3, h4, _⟩ := HR.out h
      exact ⟨q, h1, h2, F, h3, fun j hj => by simpa [List.getD] using h4 j hj⟩
end Gv

/- linksOf, told by what it gives. -/
namespace Gv
open Go Go.Proofs Go.RowKit
set_option maxRecDepth 100000
def intAt (cs : List PV) (j : Nat) : Int := match cs[j]? with
  | some (.int _ x) => x
  | _ => 0
def isI64 : PV → Bool
  | .int k _ => decide (k = .i64)
  | _ => false
def vOf (cs : List PV) (i : Nat) : Int × Int × Int := (intAt cs (i * 3), intAt cs (i * 3 + 1), intAt cs (i * 3 + 2))
def linksV (n m : Nat) (miss : Int) (V U : Nat → Int × Int × Int) : Option (List Int) := match bestIn (costW (linkZ n m miss V U)) (ext (n + m) (n + m) []) with
  | some (b, _) => some ((List.range n).map fun j => lkV m (b.getD j 0))
  | none => none
def linksG : List PV → Option PV
  | [.list n cs, .list m ds, .int k miss] => if k = .i64 ∧ n + m ≤ 5 ∧ cs.length = n * 3 ∧ ds.length = m * 3 ∧ cs.all isI64 = true ∧ ds.all isI64 = true then
      match linksV n m miss (vOf cs) (vOf ds) with
      | some l => some (.list n (l.map (.int .i64)))
      | none => none
    else none
  | _ => none
theorem prs_int {St : Nat → Nat → Prop} {w : World} : ∀ {cs : List PV} {us : List Value}, PRs St w cs us → cs.all isI64 = true → us.length = cs.length ∧ ∀ j, j < cs.length → us[j]? = some (.int .i64 (intAt cs j))
  | [], us, h, _ => by
    simp only [PRs] at h
    subst h
    exact ⟨rfl, fun j hj => absurd hj (Nat.not_lt_zero _)⟩
  | c :: cs, us, h, ha => by
    simp only [PRs] at h
    obtain ⟨x, xs, rfl, h1, h2⟩ := h
    simp only [List.all_cons, Bool.and_eq_true] at ha
    obtain ⟨k1, k2⟩ := prs_int h2 ha.2
    refine ⟨by simp [k1], fun j hj => ?_⟩
    cases j with
    | zero =>
      cases c <;> simp [isI64] at ha
      obtain ⟨rfl, _⟩ := ha
      simp only [PR] at h1
      subst h1
      rfl
    | succ j =>
      have := k2 j (by simpa using hj)
      simpa [intAt] using this
theorem triples {St : Nat → Nat → Prop} {w : World} {n : Nat} {cs : List PV} {u : Value} (h : PR St w (.list n cs) u) (hl : cs.length = n * 3) (ha : cs.all isI64 = true) : ∃ a cap gb go, u = .slice a n cap ∧ (0 < n → a = some ⟨gb, go, none⟩) ∧
    ∀ i, i < n → w.cell? ⟨gb, go + i * 3, none⟩ = some (.int .i64 (vOf cs i).1) ∧ w.cell? ⟨gb, go + i * 3 + 1, none⟩ = some (.int .i64 (vOf cs i).2.1) ∧ w.cell? ⟨gb, go + i * 3 + 2, none⟩ = some (.int .i64 (vOf cs i).2.2) := by
  obtain ⟨a, cap, us, rfl, hp, hc, hr⟩ := h
  obtain ⟨k1, k2⟩ := prs_int hp ha
  rcases hr with ⟨rfl, rfl⟩ | ⟨ad, rfl, hat⟩
  · exact ⟨_, _, 0, 0, rfl, fun h => absurd h (Nat.lt_irrefl _), fun i hi => absurd hi (Nat.not_lt_zero _)⟩
  · have at' : ∀ j, j < n * 3 → w.cell? ⟨ad.block, ad.off + j, none⟩ = some (.int .i64 (intAt cs j)) := fun j hj => by
      obtain ⟨_, h2, _⟩ := hat j _ (k2 j (by omega))
      rw [add_form ad j (cell_spot h2)] at h2
      exact h2
    refine ⟨_, cap, ad.block, ad.off, rfl, fun h => ?_, fun i hi => ⟨at' _ (by omega), ?_, ?_⟩⟩
    · obtain ⟨_, h2, _⟩ := hat 0 _ (k2 0 (by omega))
      have e0 : ad.add 0 = ad := rfl
      have hf := add_form ad 0 (cell_spot h2)
      rw [e0] at hf
      exact congrArg some hf
    · rw [Nat.add_assoc]
      exact at' _ (by omega)
    · rw [Nat.add_assoc]
      exact at' _ (by omega)
theorem prim114 : PrimOK Try.prog 73 linksG := by
  refine ⟨⟨Try.f73, Try.func73, by kernel_rfl, by decide⟩, fun args v hg w St vals hlt hprs => ?_⟩
  unfold linksG at hg
  split at hg <;> try (cases hg; done)
  rename_i n cs m ds k miss
  split at hg <;> try (cases hg; done)
  rename_i hc
  obtain ⟨rfl, h5, hl1, hl2, hA1, hA2⟩ := hc
  split at hg <;> try (cases hg; done)
  rename_i l hlv
  simp only [Option.some.injEq] at hg
  subst hg
  simp only [PRs] at hprs
  obtain ⟨ub, _, rfl, p1, ua, _, rfl, p2, _, _, rfl, p3, rfl⟩ := hprs
  simp only [PR] at p3
  subst p3
  obtain ⟨a1, c1, gb, go, rfl, q1, q2⟩ := triples p1 hl1 hA1
  obtain ⟨a2, c2, ga, gao, rfl, r1, r2⟩ := triples p2 hl2 hA2
  refine (links_calls n m h5 w a1 a2 c1 c2 miss gb go ga gao (vOf cs) (vOf ds) q1 r1 q2 r2).mono ?_
  rintro e w' ⟨a, cp, b, least, rfl, hb, hle, hbel, hrow⟩
  unfold linksV at hlv
  rw [hb] at hlv
  simp only [Option.some.injEq] at hlv
  subst hlv
  refine ⟨_, fun q o => St q o ∨ (w.heap.size ≤ q ∧ q < w'.heap.size), rfl, ?_, hbel, fun _ _ h => .inl h, fun q o h => h.elim (fun h => Nat.lt_of_lt_of_le (hlt q o h) hbel.size) (·.2), fun q o h => h.imp id (·.1)⟩
  simp only [RR]
  by_cases h0 : n = 0
  · subst h0
    exact ⟨a, cp, [], rfl, rfl, hle, .inl ⟨rfl, rfl⟩⟩
  · obtain ⟨g, rfl, hg, F, hF, hFv⟩ := hrow (by omega)
    refine ⟨_, cp, (List.range n).map fun j => Value.int .i64 (lkV m (b.getD j 0)), rfl, ?_, hle, .inr ⟨_, rfl, fun j x hj => ?_⟩⟩
    · rw [List.map_map]
      exact prs_range (fun j => PV.int .i64 (lkV m (b.getD j 0))) (fun j => Value.int .i64 (lkV m (b.getD j 0))) (fun i => rfl) _
    · rw [List.getElem?_map] at hj
      have hjl : j < n := by
        cases hr : (List.range n)[j]? with
        | none => rw [hr] at hj; cases hj
        | some y => have := (List.getElem?_eq_some_iff.1 hr).1; simpa using this
      rw [List.getElem?_range hjl] at hj
      simp only [Option.map_some, Option.some.injEq] at hj
      subst hj
      refine ⟨.inr ⟨hg, hF.lt⟩, ?_, rfl⟩
      rw [addr_add, Nat.zero_add, hF.cell (by omega), hFv j hjl]
def linkcG : List PV → Option PV
  | [.list n cs, .list m ds, .int k miss] => if k = .i64 ∧ n + m ≤ 8 ∧ cs.length = n * 3 ∧ ds.length = m * 3 ∧ cs.all isI64 = true ∧ ds.all isI64 = true then
      some (.list (n + m) (matP (n + m) (linkZ n m miss (vOf cs) (vOf ds))))
    else none
  | _ => none
theorem prim151 : PrimOK Try.prog 93 linkcG := by
  refine ⟨⟨Try.f93, Try.func93, by kernel_rfl, by decide⟩, fun args v hg w St vals hlt hprs => ?_⟩
  unfold linkcG at hg
  split at hg <;> try (cases hg; done)
  rename_i n cs m ds k miss
  split at hg <;> try (cases hg; done)
  rename_i hc
  obtain ⟨rfl, h5, hl1, hl2, hA1, hA2⟩ := hc
  simp only [Option.some.injEq] at hg
  subst hg
  simp only [PRs] at hprs
  obtain ⟨ub, _, rfl, p1, ua, _, rfl, p2, _, _, rfl, p3, rfl⟩ := hprs
  simp only [PR] at p3
  subst p3
  obtain ⟨a1, c1, gb, go, rfl, q1, q2⟩ := triples p1 hl1 hA1
  obtain ⟨a2, c2, ga, gao, rfl, r1, r2⟩ := triples p2 hl2 hA2
  refine (link_calls n m (n + m) rfl h5 w a1 a2 c1 c2 miss gb go ga gao (vOf cs) (vOf ds) q1 r1 q2 r2).mono ?_
  rintro e w' ⟨rfl, ρ, hM⟩
  have hbel := hM.below
  have hp := mat_prB hM
  exact ⟨_, fun q o => St q o ∨ (w.heap.size ≤ q ∧ q < w'.heap.size), rfl, PR.mono (fun q o h => ⟨.inr h, rfl⟩) _ _ hp, hbel, fun _ _ h => .inl h, fun q o h => h.elim (fun h => Nat.lt_of_lt_of_le (hlt q o h) hbel.size) (·.2), fun q o h => h.imp id (·.1)⟩
end Gv

/- cheapestOf and allCheapest, told by what they give. -/
namespace Gv
open Go Go.Proofs Go.RowKit
set_option maxRecDepth 100000
def zOf (M : List PV) (i j : Nat) : Int := match M[i]? with
  | some (.list _ cs) => intAt cs j
  | _ => 0
def isRowN (N : Nat) : PV → Bool
  | .list k cs => decide (k = N) && decide (cs.length = N) && cs.all isI64
  | _ => false
theorem ints_are : ∀ (cs : List PV), cs.all isI64 = true → cs = (List.range cs.length).map fun j => PV.int .i64 (intAt cs j) := by
  intro cs ha
  apply List.ext_getElem?
  intro j
  rw [List.getElem?_map]
  by_cases hj : j < cs.length
  · rw [List.getElem?_range hj, List.getElem?_eq_getElem hj]
    have := List.all_eq_true.1 ha cs[j] (List.getElem_mem hj)
    show some cs[j] = some (PV.int .i64 (intAt cs j))
    unfold intAt
    rw [List.getElem?_eq_getElem hj]
    generalize cs[j] = x at this ⊢
    cases x <;> simp [isI64] at this
    subst this
    rfl
  · rw [List.getElem?_eq_none (by omega), List.getElem?_eq_none (by simpa using hj)]
    rfl
theorem mat_is {N : Nat} {M : List PV} (hl : M.length = N) (ha : M.all (isRowN N) = true) : M = matP N (zOf M) := by
  apply List.ext_getElem?
  intro i
  unfold matP
  rw [List.getElem?_map]
  by_cases hi : i < M.length
  · rw [List.getElem?_range (by omega), List.getElem?_eq_getElem hi]
    have := List.all_eq_true.1 ha M[i] (List.getElem_mem hi)
    simp only [Option.map_some, Option.some.injEq]
    unfold rowZ zOf
    rw [List.getElem?_eq_getElem hi]
    generalize M[i] = x at this ⊢
    cases x <;> simp [isRowN] at this
    obtain ⟨⟨rfl, h2⟩, h3⟩ := this
    have h4 := ints_are _ (List.all_eq_true.2 h3)
    rw [h2] at h4
    exact congrArg _ h4
  · rw [List.getElem?_eq_none (by omega), List.getElem?_eq_none (by simp; omega)]
    rfl
def cheapG : List PV → Option PV
  | [.list N M] => if N ≤ 5 ∧ M.length = N ∧ M.all (isRowN N) = true then
      match bestIn (costW (zOf M)) (ext N N []) with
      | some (b, _) => some (rowP b)
      | none => none
    else none
  | _ => none
def allG : List PV → Option PV
  | [.list N M] => if N ≤ 5 ∧ M.length = N ∧ M.all (isRowN N) = true then
      match allIn (costW (zOf M)) (ext N N []) with
      | some (b, _) => some (.list b.length (b.map rowP))
      | none => none
    else none
  | _ => none
theorem bestIn_mem {cost : List Nat → Int} : ∀ {l : List (List Nat)} {b : List Nat} {k : Int}, bestIn cost l = some (b, k) → b ∈ l := by
  have h : ∀ (l : List (List Nat)) (s : Option (List Nat × Int)) (b : List Nat) (k : Int), l.foldl (bestStep cost) s = some (b, k) → b ∈ l ∨ ∃ k', s = some (b, k') := by
    intro l
    induction l with
    | nil => intro s b k h; exact .inr ⟨k, h⟩
    | cons x l ih =>
      intro s b k h
      rw [List.foldl_cons] at h
      rcases ih _ b k h with h | ⟨k', h⟩
      · exact .inl (List.mem_cons_of_mem _ h)
      · unfold bestStep at h
        split at h
        · simp only [Option.some.injEq, Prod.mk.injEq] at h
          exact .inl (by rw [← h.1]; simp)
        · split at h
          · simp only [Option.some.injEq, Prod.mk.injEq] at h
            exact .inl (by rw [← h.1]; simp)
          · simp only [Option.some.injEq, Prod.mk.injEq] at h
            exact .inr ⟨_, by rw [← h.1]⟩
  intro l b k hb
  exact (h l none b k hb).resolve_right (by simp)
theorem allIn_mem {cost : List Nat → Int} : ∀ {l : List (List Nat)} {bs : List (List Nat)} {k : Int}, allIn cost l = some (bs, k) → ∀ b ∈ bs, b ∈ l := by
  have h : ∀ (l : List (List Nat)) (s : Option (List (List Nat) × Int)) (bs : List (List Nat)) (k : Int), l.foldl (allStep cost) s = some (bs, k) → ∀ b ∈ bs, b ∈ l ∨ ∃ bs' k', s = some (bs', k') ∧ b ∈ bs' := by
    intro l
    induction l with
    | nil => intro s bs k h b hb; exact .inr ⟨bs, k, h, hb⟩
    | cons x l ih =>
      intro s bs k h b hb
      rw [List.foldl_cons] at h
      rcases ih _ bs k h b hb with h | ⟨bs', k', h, hb'⟩
      · exact .inl (List.mem_cons_of_mem _ h)
      · unfold allStep at h
        split at h
        · simp only [Option.some.injEq, Prod.mk.injEq] at h
          rw [← h.1] at hb'
          simp at hb'
          exact .inl (by simp [hb'])
        · split at h
          · simp only [Option.some.injEq, Prod.mk.injEq] at h
            rw [← h.1] at hb'
            simp at hb'
            exact .inl (by simp [hb'])
          · split at h
            · simp only [Option.some.injEq, Prod.mk.injEq] at h
              rw [← h.1] at hb'
              rcases List.mem_append.1 hb' with hb' | hb'
              · exact .inr ⟨_, _, rfl, hb'⟩
              · simp at hb'
                exact .inl (by simp [hb'])
            · simp only [Option.some.injEq, Prod.mk.injEq] at h
              rw [← h.1] at hb'
              exact .inr ⟨_, _, rfl, hb'⟩
  intro l bs k hbs b hb
  exact (h l none bs k hbs b hb).resolve_right (by simp)
theorem prim94 : PrimOK Try.prog 68 cheapG := by
  refine ⟨⟨Try.f68, Try.func68, by kernel_rfl, by decide⟩, fun args v hg w St vals hlt hprs => ?_⟩
  unfold cheapG at hg
  split at hg <;> try (cases hg; done)
  rename_i N M
  split at hg <;> try (cases hg; done)
  rename_i hc
  obtain ⟨h5, hl, ha⟩ := hc
  split at hg <;> try (cases hg; done)
  rename_i b0 k0 hb0
  simp only [Option.some.injEq] at hg
  subst hg
  simp only [PRs] at hprs
  obtain ⟨um, _, rfl, pm, rfl⟩ := hprs
  rw [mat_is hl ha] at pm
  obtain ⟨a, cap, us, rfl, q1, q2, q3⟩ := pm
  refine (cheap_mat N h5 w a cap (zOf M) St hlt ⟨a, cap, us, rfl, q1, q2, q3⟩).mono ?_
  rintro e w' ⟨u, b, least, rfl, hb, hown, hbel⟩
  rw [hb0] at hb
  simp only [Option.some.injEq, Prod.mk.injEq] at hb
  obtain ⟨rfl, rfl⟩ := hb
  have hbl := ext_row h5 b0 (bestIn_mem hb0)
  rw [← hbl] at hown
  refine ⟨_, fun q o => St q o ∨ (w.heap.size ≤ q ∧ q < w'.heap.size), rfl, row_pr hown fun q o hq ho => .inr ?_, hbel, fun _ _ h => .inl h, fun q o h => h.elim (fun h => Nat.lt_of_lt_of_le (hlt q o h) hbel.size) (·.2), fun q o h => h.imp id (·.1)⟩
  obtain ⟨cur, hcur, hge⟩ := ownB_lt hown hq
  exact ⟨hge, heap_lt hcur⟩
theorem prim96 : PrimOK Try.prog 91 allG := by
  refine ⟨⟨Try.f91, Try.func91, by kernel_rfl, by decide⟩, fun args v hg w St vals hlt hprs => ?_⟩
  unfold allG at hg
  split at hg <;> try (cases hg; done)
  rename_i N M
  split at hg <;> try (cases hg; done)
  rename_i hc
  obtain ⟨h5, hl, ha⟩ := hc
  split at hg <;> try (cases hg; done)
  rename_i bs0 k0 hb0
  simp only [Option.some.injEq] at hg
  subst hg
  simp only [PRs] at hprs
  obtain ⟨um, _, rfl, pm, rfl⟩ := hprs
  rw [mat_is hl ha] at pm
  obtain ⟨a, cap, us, rfl, q1, q2, q3⟩ := pm
  refine (all_calls2 N h5 w a cap _ St hlt ⟨a, cap, us, rfl, q1, q2, q3⟩ (costW (zOf M)) fun b hb => cost_is N (zOf M) b (ext_row h5 b hb) (fun x hx => by simpa using List.all_eq_true.1 (ext_all_lt h5 b hb) x hx) (by omega)).mono ?_
  rintro e w' ⟨vall, least, b, bs, u, xs, rfl, hb, hown, hrows, hbel⟩
  rw [hb0] at hb
  simp only [Option.some.injEq, Prod.mk.injEq] at hb
  obtain ⟨rfl, rfl⟩ := hb
  have hmem := allIn_mem hb0
  have hxl : xs.length + 1 = bs.length + 1 := by simpa using hrows.1
  have hin : ∀ q, w.heap.size ≤ q → q < w'.heap.size → (fun q (o : Nat) => St q o ∨ (w.heap.size ≤ q ∧ q < w'.heap.size)) q 0 := fun q h1 h2 => .inr ⟨h1, h2⟩
  refine ⟨_, fun q o => St q o ∨ (w.heap.size ≤ q ∧ q < w'.heap.size), rfl, ?_, hbel, fun _ _ h => .inl h, fun q o h => h.elim (fun h => Nat.lt_of_lt_of_le (hlt q o h) hbel.size) (·.2), fun q o h => h.imp id (·.1)⟩
  simp only [RR]
  have hp : ∀ (us : List Value) (ds : List (List Nat)), us.length = ds.length → (∀ (j : Nat) (u : Value) (b : List Nat), us[j]? = some u → ds[j]? = some b → w'.ownsRow w.heap.size 3 1 u N (valN b)) → (∀ d ∈ ds, d.length = N) → PRs (fun q o => St q o ∨ (w.heap.size ≤ q ∧ q < w'.heap.size)) w' (ds.map rowP) us := by
    intro us
    induction us with
    | nil =>
      intro ds h _ _
      cases ds with
      | nil => rfl
      | cons _ _ => simp at h
    | cons x us ih =>
      intro ds h h2 h3
      cases ds with
      | nil => simp at h
      | cons d ds =>
        have hx := h2 0 x d rfl rfl
        have hd := h3 d (by simp)
        rw [← hd] at hx
        refine ⟨_, _, rfl, row_pr hx fun q o hq _ => .inr ?_, ih ds (by simpa using h) (fun j u b hj hb => h2 (j + 1) u b (by simpa using hj) (by simpa using hb)) fun e he => h3 e (by simp [he])⟩
        obtain ⟨cur, hcur, hge⟩ := ownB_lt hx hq
        exact ⟨hge, heap_lt hcur⟩
  have hps := hp (u :: xs) (b :: bs) hrows.1 (fun j u b hj hb => (hrows.2 j u b hj hb).1) fun d hd => ext_row h5 d (hmem d hd)
  rcases hown.2 with ⟨rfl, h0⟩ | ⟨g, cp, cur, rfl, h1, h2, h3, h4, h6, h7⟩
  · omega
  · refine ⟨_, cp, u :: xs, by rw [List.length_cons, hxl], hps, by rw [List.length_cons]; omega, .inr ⟨_, rfl, fun j x hj => ⟨.inr ⟨h1, heap_lt h2⟩, ?_, ?_⟩⟩⟩
    · rw [addr_add, Nat.zero_add, cell_of_row w' g j cur 77 (0, 0) h2]
      rw [← h7, List.getElem?_take] at hj
      split at hj
      · simpa using hj
      · cases hj
    · have hjl : j < (b :: bs).length := by
        have := (List.getElem?_eq_some_iff.1 hj).1
        rw [← hrows.1]
        exact this
      have hx := (hrows.2 j x _ hj (List.getElem?_eq_getElem hjl)).1
      rcases hx.2 with ⟨rfl, _⟩ | ⟨_, _, _, rfl, _⟩ <;> rfl
end Gv
