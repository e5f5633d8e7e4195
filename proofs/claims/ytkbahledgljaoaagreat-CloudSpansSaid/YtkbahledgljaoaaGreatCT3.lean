import Derived.Test.YtkbahledgljaoaaGreatGvLayC
import Derived.Test.YtkbahledgljaoaaGreatGvIt
import Derived.Sort.OwnSortedInts
import Derived.Sort.EveryDepth
import Derived.Shelf.Slices.Clone
import Derived.Shelf.Slices.In.SortAlone
import Derived.Shelf.Slices.In.SortNone
import Derived.Lib.OwnBridge
import Derived.WalkKit
import Derived.KernelRfl
import Derived.Test.YtkbahledgljaoaaGreatGvClone
import Derived.Lib.Walk
import Derived.Lib.SliceRun
import Derived.Deep.RegionLaw
namespace Gv
open Go Go.Proofs Go.RowKit Go.Shelf Go.Sort Go.ChangeShapes Go.WideShapes
set_option maxRecDepth 100000
def insI (x : Int) : List Int → List Int
  | [] => [x]
  | y :: l => if x ≤ y then x :: y :: l else y :: insI x l
def isort : List Int → List Int
  | [] => []
  | x :: l => insI x (isort l)
theorem insI_perm (x : Int) : ∀ l, (insI x l).Perm (x :: l)
  | [] => .refl _
  | y :: l => by
    unfold insI
    split
    · exact .refl _
    · exact (List.Perm.cons y (insI_perm x l)).trans (List.Perm.swap x y l)
theorem isort_perm : ∀ l, (isort l).Perm l
  | [] => .refl _
  | x :: l => (insI_perm x (isort l)).trans (List.Perm.cons x (isort_perm l))
theorem insI_asc (x : Int) : ∀ l : List Int, l.Pairwise (· ≤ ·) → (insI x l).Pairwise (· ≤ ·)
  | [], _ => by simp [insI]
  | y :: l, h => by
    unfold insI
    split
    · rename_i hx
      refine List.pairwise_cons.2 ⟨fun z hz => ?_, h⟩
      rcases List.mem_cons.1 hz with rfl | hz
      · exact hx
      · exact Int.le_trans hx ((List.pairwise_cons.1 h).1 z hz)
    · rename_i hx
      refine List.pairwise_cons.2 ⟨fun z hz => ?_, insI_asc x l (List.pairwise_cons.1 h).2⟩
      rcases List.mem_cons.1 ((insI_perm x l).mem_iff.1 hz) with rfl | hz
      · omega
      · exact (List.pairwise_cons.1 h).1 z hz
theorem isort_asc : ∀ l : List Int, (isort l).Pairwise (· ≤ ·)
  | [] => .nil
  | x :: l => insI_asc x _ (isort_asc l)
@[simp] theorem isort_len (l : List Int) : (isort l).length = l.length := (isort_perm l).length_eq
theorem sort_isort (l : List Int) : (l.mergeSort fun x y => decide (x ≤ y)) = isort l := by
  refine List.Perm.eq_of_pairwise (le := fun a b => a ≤ b) (fun a b _ _ h1 h2 => by omega) ?_ (isort_asc l) ((List.mergeSort_perm l _).trans (isort_perm l).symm)
  have h := List.pairwise_mergeSort (le := fun x y : Int => decide (x ≤ y)) (fun a b c h1 h2 => by simp at *; omega) (fun a b => by simp; omega) l
  exact h.imp fun h => by simpa using h
theorem sort_own {B : Nat} {w : World} {v : Value} {n : Nat} {zs : List Int} (h : w.ownsRow B 3 1 v n (zs.map (Value.int .i64))) (hn : n < 1000000) :
    Calls Tryz.prog 139 #[v] w fun e w' => e = .returned (.tuple #[]) ∧ w'.ownsRow B 3 1 v n ((isort zs).map (Value.int .i64)) ∧ w.grownBy w' v.ownBlock := by
  have hl : zs.length = n := by simpa using h.1
  rcases h.2 with ⟨rfl, h0⟩ | ⟨g, cap, cur, rfl, hb, hg, h1, h2, h3, h4⟩
  · subst h0
    have hz : zs = [] := List.length_eq_zero_iff.1 hl
    subst hz
    refine (calls_of_every_depth fun D => AnyS.slices_Sort_int_none_alone Tryz.laysSort D none 0 w).mono fun e w' hw => ?_
    obtain ⟨rfl, rfl⟩ := hw
    exact ⟨rfl, h, ⟨rfl, rfl, rfl, Nat.le_refl _, fun _ _ _ => rfl⟩⟩
  · have hgl : g < w.heap.size := heap_lt hg
    have hH : Holds (Value.int .i64) w g 0 zs.toArray := holds_of_blockI hg (by rw [hl, ← Nat.mul_one n]; exact h4)
    have hs := calls_of_every_depth fun D => AnyS.slices_Sort_int_alone Tryz.laysSort D g 0 cap zs w hH hgl (by omega)
    rw [hl] at hs
    refine hs.mono fun e w' hw => ?_
    obtain ⟨rfl, nn, os, rfl⟩ := hw
    rw [sort_isort]
    have ho := ownsRow_sortedI (n := nn) (os := os) (ss := zs) (ts := isort zs) (by simp) hb hg (by omega) h2 (by omega)
    rw [hl] at ho
    exact ⟨rfl, ho, grownBy_sortedI _⟩
end Gv
namespace Gv
open Go Go.Proofs Go.RowKit Go.Shelf Go.Sort Go.ChangeShapes Go.WideShapes
set_option maxRecDepth 100000
theorem cell_own {B : Nat} {w : World} {g n cap : Nat} {zs : List Int} (h : w.ownsRow B 3 1 (.slice (some ⟨g, 0, none⟩) n cap) n (zs.map (Value.int .i64))) {i : Nat} (hi : i < n) : w.cell? ⟨g, i, none⟩ = some (.int .i64 (zs.getD i 0)) := by
  have hl : zs.length = n := by simpa using h.1
  have := h.cellAt i (by omega)
  rw [this]
  simp [List.getD, show i < zs.length by omega]
set_option maxHeartbeats 1000000 in
theorem middle_at (b off c : Nat) (zs : List Int) (w : World) (h1 : 1 ≤ zs.length) (hn : zs.length ≤ 1000) (hc : ∀ j, j < zs.length → w.cell? ⟨b, off + j, none⟩ = some (.int .i64 (zs.getD j 0))) :
    Calls Tryz.prog 152 #[.slice (some ⟨b, off, none⟩) zs.length c] w fun e w' => e = .returned (.int .i64 ((isort zs).getD ((zs.length - 1) / 2) 0)) ∧ Below w.heap.size w w' := by
  have hclone := Any.slices_Clone_int Tryz.laysClone b off zs.length c zs w (Nat.le_refl _) (by omega) hc
  rw [List.take_length] at hclone
  clear hc
  obtain ⟨n, hnl⟩ : ∃ n, n = zs.length := ⟨_, rfl⟩
  rw [← hnl] at hclone h1 hn ⊢
  clear hnl
  have hclone : Calls Tryz.prog 168 #[.slice (some ⟨b, off, none⟩) n c] w fun e w' => ∃ v', e = .returned v' ∧ w'.ownsRow w.heap.size 3 1 v' n (zs.map (Value.int .i64)) ∧ v' ≠ .slice none 0 0 ∧ Below w.heap.size w w' := hclone
  go_enter Tryz.func152, Tryz.ntmps152
  go_wp2_with (first
    | (go_at_call 168; refine hclone.mono ?_; rintro e w1 ⟨v1, rfl, hown, hnn, hbel⟩
       obtain ⟨g, cap, rfl, hbg, hgl, hncap, hcm, hlen, hH⟩ := Lib.holds_of_ownsRow hown hnn
       have hs := sort_own hown (by omega)
       have X : Aside (Below w.heap.size w w1 ∧ w.heap.size ≤ g) := ⟨hbel, hbg⟩
       clear hown hnn hbel hH hlen)
    | (go_at_call 139; refine hs.mono ?_; rintro e w2 ⟨rfl, ho2, hg2⟩
       have Y : Aside (w1.grownBy w2 (some g)) := hg2
       have hcell := cell_own ho2 (i := (n - 1) / 2) (by omega)
       clear ho2 hg2))
  go_ret
  refine ⟨by simp [List.getD], ?_⟩
  exact X.out.1.grown Y.out X.out.1.size (fun j hj => by cases hj; exact X.out.2)
def intsOf : List PV → Option (List Int)
  | [] => some []
  | .int .i64 x :: r => (intsOf r).map (x :: ·)
  | _ => none
theorem intsOf_some : ∀ {cs : List PV} {l : List Int}, intsOf cs = some l → cs = l.map (PV.int .i64)
  | [], l, h => by simp [intsOf] at h; subst h; rfl
  | c :: r, l, h => by
    unfold intsOf at h
    split at h
    · rename_i e; cases e
    · rename_i x r' e
      simp only [List.cons.injEq] at e
      obtain ⟨rfl, rfl⟩ := e
      cases hr : intsOf r with
      | none => rw [hr] at h; cases h
      | some l' =>
        rw [hr] at h
        simp only [Option.map_some, Option.some.injEq] at h
        subst h
        rw [intsOf_some hr]
        rfl
    · cases h
theorem prs_ints {St : Nat → Nat → Prop} {w : World} : ∀ {l : List Int} {us : List Value}, PRs St w (l.map (PV.int .i64)) us → us = l.map (Value.int .i64)
  | [], us, h => by simpa [PRs] using h
  | x :: l, us, h => by
    simp only [List.map_cons, PRs, PR] at h
    obtain ⟨u, us', rfl, rfl, h2⟩ := h
    rw [prs_ints h2]
    rfl
theorem list_ints {St : Nat → Nat → Prop} {w : World} {l : List Int} {u : Value} (h : PR St w (.list l.length (l.map (PV.int .i64))) u) (h1 : 1 ≤ l.length) :
    ∃ b off cap, u = .slice (some ⟨b, off, none⟩) l.length cap ∧ l.length ≤ cap ∧ ∀ j, j < l.length → w.cell? ⟨b, off + j, none⟩ = some (.int .i64 (l.getD j 0)) := by
  simp only [PR] at h
  obtain ⟨a, cap, us, rfl, hus, hcap, hat⟩ := h
  have := prs_ints hus
  subst this
  rcases hat with ⟨h, _⟩ | ⟨ad, rfl, hat⟩
  · omega
  · have hg : ∀ j, j < l.length → (l.map (Value.int .i64))[j]? = some (.int .i64 (l.getD j 0)) := fun j hj => by
      rw [List.getElem?_map, List.getElem?_eq_getElem hj]
      simp [List.getD, hj]
    have h0 := (hat 0 _ (hg 0 (by omega))).2.1
    have e : ad = ⟨ad.block, ad.off, none⟩ := add_form ad 0 (cell_spot h0)
    refine ⟨ad.block, ad.off, cap, by rw [← e], hcap, fun j hj => ?_⟩
    have hc := (hat j _ (hg j hj)).2.1
    rw [add_form ad j (cell_spot hc)] at hc
    exact hc
def midV (l : List Int) : Int := (isort l).getD ((l.length - 1) / 2) 0
def midG : List PV → Option PV
  | [.list n cs] => match intsOf cs with
    | some l => if l.length = n ∧ 1 ≤ n ∧ n ≤ 1000 then some (.int .i64 (midV l)) else none
    | none => none
  | _ => none
theorem mid82 : PrimOK Tryz.prog 152 midG := by
  refine ⟨⟨Tryz.f152, Tryz.func152, by kernel_rfl, by decide⟩, fun args v hg w St vals hlt hargs => ?_⟩
  unfold midG at hg
  split at hg <;> try (cases hg; done)
  rename_i n cs
  split at hg <;> try (cases hg; done)
  rename_i l hl
  split at hg <;> try (cases hg; done)
  rename_i hn
  simp only [Option.some.injEq] at hg
  subst hg
  obtain ⟨rfl, h1, h2⟩ := hn
  have hcs := intsOf_some hl
  subst hcs
  simp only [PRs] at hargs
  obtain ⟨u, _, rfl, hu, rfl⟩ := hargs
  obtain ⟨b, off, cap, rfl, _, hc⟩ := list_ints hu h1
  refine (middle_at b off cap l w h1 h2 hc).mono ?_
  rintro e w' ⟨rfl, hb⟩
  exact ⟨_, St, rfl, by simp [RR, PR, midV], hb, fun _ _ h => h, fun b o h => by have := hlt b o h; have := hb.size; omega, fun _ _ h => .inl h⟩
end Gv
namespace Gv
open Go Go.Proofs Go.RowKit Go.Shelf Go.Sort Go.ChangeShapes Go.WideShapes
set_option maxRecDepth 100000
theorem grown_heap1 (w : World) (o1 o2 o3 o4 : Obj) : ((((w.alloc o1).alloc o2).alloc o3).alloc o4).drew.drew.heap[w.heap.size + 1]? = some o2 := by
  show ((((w.alloc o1).alloc o2).alloc o3).alloc o4).heap[w.heap.size + 1]? = some o2
  have a : ∀ (v : World) (o : Obj) (k : Nat), k < v.heap.size → (v.alloc o).heap[k]? = v.heap[k]? := fun v o k hk => by
    show (v.heap.push o)[k]? = v.heap[k]?
    rw [Array.getElem?_push, if_neg (Nat.ne_of_lt hk)]
  rw [a _ _ _ (by simp only [World.size_alloc]; omega), a _ _ _ (by simp only [World.size_alloc]; omega)]
  have h := heap_alloc_new (w.alloc o1) o2
  rw [World.size_alloc] at h
  exact h
theorem step_append {ops : Array Oper} {o : Oper} {a : Act} {W W' : World} {v v1 v2 : Value} {KK : Act → World → Prop} {Q : Exit → Act → World → Prop} {E : Prop} (hw : Region.wanted o (yielded ops a.tmps) = true) (s x : Operand) (t : TypeId)
    (hop : o.op = .call { callee := .builtin .append, args := #[s, x], argTypes := #[t, t] }) (hs : a.eval s = v1) (hx : a.eval x = v2) (hrun : (Builtin.append_ #[t, t] o.type #[v1, v2]).run Tryz.prog W = .ok v W') (hK : KK (a.put o.dst v) W') :
    if Region.wanted o (yielded ops a.tmps) = true then Oper.wp Tryz.prog o a W KK Q else E := by
  rw [if_pos hw]
  unfold Oper.wp
  simp [execOp, hop, resolve, invoke, builtin, hs, hx, hrun, Result.andThen]
  exact hK
theorem grown_below (w : World) (o1 o2 o3 : Obj) (row : Array Value) : Below w.heap.size w ((((w.alloc o1).alloc o2).alloc o3).alloc (.cells row 3)).drew.drew := by
  refine ((((((Below.refl _ w).alloc (Nat.le_refl _) o1).alloc ?_ o2).alloc ?_ o3).alloc ?_ _).drew).drew
  all_goals simp only [World.size_alloc]; omega
theorem grown_heap (w : World) (o1 o2 o3 : Obj) (row : Array Value) : ((((w.alloc o1).alloc o2).alloc o3).alloc (.cells row 3)).drew.drew.heap[w.heap.size + 1 + 1 + 1]? = some (.cells row 3 (0, 0)) := by
  have h := heap_alloc_new ((((w.alloc o1).alloc o2).alloc o3)) (.cells row 3)
  simp only [World.size_alloc] at h
  exact h
set_option maxHeartbeats 1000000 in
theorem grown_at (a : Option Addr) (n cap : Nat) (us : List Value) (c s k : Int) (w : World) (hn : n ≤ cap) (hn2 : n ≤ 1000) (hul : us.length = n) (hu : (n = 0 ∧ us = []) ∨ ∃ ad, a = some ad ∧ ∀ j v, us[j]? = some v → w.cell? (ad.add j) = some v) :
    Calls Tryz.prog 130 #[.agg #[.slice a n cap, .int .i64 c], .int .i64 s, .int .i64 k] w fun e w' => ∃ q row, e = .returned (.agg #[.slice (some ⟨w.heap.size + 1 + 1 + 1, 0, none⟩) (n + 1) q, .int .i64 (IntKind.i64.wrap (c + k))]) ∧
      w'.heap[w.heap.size + 1 + 1 + 1]? = some (.cells row 3 (0, 0)) ∧ n + 1 ≤ q ∧ row.toList.take (n + 1) = us ++ [.int .i64 s] ∧ Below w.heap.size w w' := by
  obtain ⟨i0, hi, hz0, hz1, hz2⟩ : ∃ i0, Tryz.prog.info? 3 = some i0 ∧ i0.zero = some (.int .i64 0) ∧ i0.size = 1 ∧ i0.bytes = 8 := ⟨_, rfl, by kernel_rfl, by kernel_rfl, by kernel_rfl⟩
  have happ : ∃ (q : Nat) (row : Array Value), n + 1 ≤ q ∧ row.toList.take (n + 1) = us ++ [.int .i64 s] ∧
      (Builtin.append_ #[22, 22] 22 #[.slice a n n, .slice (some ⟨w.heap.size + 1 + 1, 0, none⟩) 1 1]).run Tryz.prog
        (((w.alloc (.cells #[.slice a n cap, .int .i64 c] 158)).alloc (.cells #[.slice none 0 0, .int .i64 0] 158)).alloc (.cells #[.int .i64 s] 3)).drew =
      .ok (.slice (some ⟨w.heap.size + 1 + 1 + 1, 0, none⟩) (n + 1) q)
        ((((w.alloc (.cells #[.slice a n cap, .int .i64 c] 158)).alloc (.cells #[.slice none 0 0, .int .i64 0] 158)).alloc (.cells #[.int .i64 s] 3)).alloc (.cells row 3)).drew.drew := by
    obtain ⟨W2, hW2⟩ : ∃ W2, W2 = ((w.alloc (.cells #[.slice a n cap, .int .i64 c] 158)).alloc (.cells #[.slice none 0 0, .int .i64 0] 158)) := ⟨_, rfl⟩
    rw [← hW2]
    have hs2 : W2.heap.size = w.heap.size + 1 + 1 := by rw [hW2, World.size_alloc, World.size_alloc]
    have hb2 : Below w.heap.size w W2 := by
      rw [hW2]
      exact ((Below.refl _ w).alloc (Nat.le_refl _) _).alloc (by rw [World.size_alloc]; omega) _
    obtain ⟨W3, hW3⟩ : ∃ W3, W3 = (W2.alloc (.cells #[.int .i64 s] 3)).drew := ⟨_, rfl⟩
    have hs3 : W3.heap.size = w.heap.size + 1 + 1 + 1 := by rw [hW3, ← hs2]; exact World.size_alloc _ _
    have hnew : W3.heap[w.heap.size + 1 + 1]? = some (.cells #[.int .i64 s] 3 (0, 0)) := by rw [hW3, ← hs2]; exact heap_alloc_new W2 _
    have hb3 : Below w.heap.size w W3 := by rw [hW3]; exact (hb2.alloc (by omega) _).drew
    have hx : ∀ j u, [Value.int .i64 s][j]? = some u → W3.cell? ((⟨w.heap.size + 1 + 1, 0, none⟩ : Addr).add j) = some u := by
      intro j u hj
      rw [addr_add, Nat.zero_add, cell_of_row W3 _ j _ 3 (0, 0) hnew]
      simpa using hj
    rw [← hW3]
    have hdr : ∀ row, (((W2.alloc (.cells #[.int .i64 s] 3)).alloc (.cells row 3)).drew.drew) = W3.drew.alloc (.cells row 3) := fun row => by rw [hW3]; rfl
    rcases hu with ⟨h0, hus⟩ | ⟨ad, had, hat⟩
    · subst h0
      subst hus
      cases a with
      | none =>
        have hrun := run_append_nil (P := Tryz.prog) W3 22 22 3 i0 _ Tryz.underlying22 hi hz0 ⟨w.heap.size + 1 + 1, 0, none⟩ 1 1 [.int .i64 s] (by rw [hz1]; rfl) hx (by omega) (by omega) (by rw [hz2]; omega)
        have hge := grownCap_ge W3 1 0 3
        refine ⟨grownCap W3 1 0 3, [Value.int .i64 s].toArray ++ Builtin.zeroCells (Value.int .i64 0).cells (grownCap W3 1 0 3 - 1), hge, ?_, ?_⟩
        · simp
        · rw [hdr, ← hs3]
          exact hrun
      | some ad =>
        have hrun := run_append_grow (P := Tryz.prog) W3 22 22 3 i0 _ Tryz.underlying22 hi hz0 ad 0 0 [] (by rw [hz1]; rfl) (fun j v hj => by simp at hj) ⟨w.heap.size + 1 + 1, 0, none⟩ 1 1 [.int .i64 s] (by rw [hz1]; rfl) hx (by omega) (by omega) (growslice_fits (by omega) (by rw [hz2]; omega))
        have hge := grownCap_ge W3 1 0 3
        refine ⟨grownCap W3 1 0 3, ([] : List Value).toArray ++ [Value.int .i64 s].toArray ++ Builtin.zeroCells (Value.int .i64 0).cells (grownCap W3 1 0 3 - 1), hge, ?_, ?_⟩
        · simp
        · rw [hdr, ← hs3]
          exact hrun
    · subst had
      have hold : ∀ j v, us[j]? = some v → W3.cell? (ad.add j) = some v := fun j v hj => by
        have h0 := hat j v hj
        rw [← h0]
        exact World.cell?_of_block (hb3.block _ (World.block_lt_of_cell? w _ h0))
      have hrun := run_append_grow (P := Tryz.prog) W3 22 22 3 i0 _ Tryz.underlying22 hi hz0 ad n n us (by rw [hz1]; omega) hold ⟨w.heap.size + 1 + 1, 0, none⟩ 1 1 [.int .i64 s] (by rw [hz1]; rfl) hx (by omega) (by omega) (growslice_fits (by omega) (by rw [hz2]; omega))
      have hge := grownCap_ge W3 (n + 1) n 3
      refine ⟨grownCap W3 (n + 1) n 3, us.toArray ++ [Value.int .i64 s].toArray ++ Builtin.zeroCells (Value.int .i64 0).cells (grownCap W3 (n + 1) n 3 - (n + 1)), hge, ?_, ?_⟩
      · simp only [Array.toList_append, List.toList_toArray]
        rw [List.take_append_of_le_length (by simp; omega), List.take_of_length_le (by simp; omega)]
      · rw [hdr, ← hs3]
        exact hrun
  obtain ⟨q, row, hq, hrow, happ⟩ := happ
  clear hu
  have hmix : Tryz.prog.follows .mixedOrders = true := by kernel_rfl
  go_enter Tryz.func130, Tryz.ntmps130
  go_wp2
  go_region_law (refine step_append (by first | rfl | simp [Region.wanted, yielded]) (.tmp 15) (.tmp 17) 22 rfl rfl rfl happ ?_)
  all_goals go_wp2
  all_goals (try simp only [Exit.inBlock, Exit.then])
  all_goals refine bodyPost_ret (v := .agg #[.slice (some ⟨w.heap.size + 1 + 1 + 1, 0, none⟩) (n + 1) q, .int .i64 (IntKind.i64.wrap (c + k))]) ?_ rfl ⟨q, row, rfl, grown_heap w _ _ _ row, hq, hrow, grown_below w _ _ _ row⟩
  all_goals exact results_cell_row rfl _ _ (w.heap.size + 1) 158 _ (0, 0) _ rfl (grown_heap1 w _ _ _ _) Tryz.underlying158 rfl (by kernel_rfl)
def grownG : List PV → Option PV
  | [.agg [.list n cs, .int .i64 c], .int .i64 s, .int .i64 k] => if cs.length = n ∧ n ≤ 1000 then some (.agg [.list (n + 1) (cs ++ [.int .i64 s]), .int .i64 (IntKind.i64.wrap (c + k))]) else none
  | _ => none
theorem grown98 : PrimOK Tryz.prog 130 grownG := by
  refine ⟨⟨Tryz.f130, Tryz.func130, by kernel_rfl, by decide⟩, fun args v hg w St vals hlt hargs => ?_⟩
  unfold grownG at hg
  split at hg <;> try (cases hg; done)
  rename_i n cs c s k
  split at hg <;> try (cases hg; done)
  rename_i hn
  simp only [Option.some.injEq] at hg
  subst hg
  simp only [PRs, PR] at hargs
  obtain ⟨u, _, rfl, ⟨us0, rfl, u1, _, rfl, ⟨a, cap, us, rfl, hus, hcap, hat⟩, u2, _, rfl, rfl, rfl⟩, u3, _, rfl, rfl, u4, _, rfl, rfl, rfl⟩ := hargs
  have hul : us.length = n := by rw [hus.length]; exact hn.1
  refine (grown_at a n cap us c s k w hcap hn.2 hul ?_).mono ?_
  · rcases hat with h | ⟨ad, ha, hat⟩
    · exact .inl h
    · exact .inr ⟨ad, ha, fun j v hj => (hat j v hj).2.1⟩
  · rintro e w' ⟨q, row, rfl, hh, hq, hrow, hb⟩
    have ev : Evo St w (fun q o => St q o ∨ (q = w.heap.size + 1 + 1 + 1 ∧ o < n + 1)) w' := evo_below hlt hb fun _ _ h => .inl h
    have hp := PRs.mono ev _ _ hus
    refine ⟨_, fun q o => St q o ∨ (q = w.heap.size + 1 + 1 + 1 ∧ o < n + 1), rfl, ?_, hb, fun _ _ h => .inl h, fun q o hs => ?_, fun q o hs => hs.imp id fun h => by omega⟩
    · simp only [RR, PR]
      refine ⟨[.slice (some ⟨w.heap.size + 1 + 1 + 1, 0, none⟩) (n + 1) q, .int .i64 (IntKind.i64.wrap (c + k))], rfl, ?_⟩
      simp only [PRs, PR]
      refine ⟨_, _, rfl, ⟨_, q, us ++ [.int .i64 s], rfl, hp.append ?_, hq, .inr ⟨_, rfl, fun j x hj => ?_⟩⟩, _, _, rfl, rfl, rfl⟩
      · simp only [PRs, PR]
        exact ⟨_, _, rfl, rfl, rfl⟩
      · have hjl := (List.getElem?_eq_some_iff.1 hj).1
        have hj2 : j < n + 1 := by simpa [hul] using hjl
        refine ⟨.inr ⟨rfl, by simpa using hj2⟩, ?_, ?_⟩
        · rw [addr_add, Nat.zero_add, cell_of_row w' _ j _ 3 (0, 0) hh]
          rw [← hrow, List.getElem?_take_of_lt hj2] at hj
          simpa using hj
        · have hm := List.mem_of_getElem? hj
          rcases List.mem_append.1 hm with h | h
          · rcases hat with ⟨_, h0⟩ | ⟨ad, ha, hat⟩
            · rw [h0] at h; simp at h
            · obtain ⟨i, hi, rfl⟩ := List.getElem_of_mem h
              exact (hat i _ (List.getElem?_eq_getElem hi)).2.2
          · simp at h
            subst h
            rfl
    · rcases hs with hs | ⟨rfl, _⟩
      · exact Nat.lt_of_lt_of_le (hlt q o hs) hb.size
      · exact heap_lt hh
end Gv
