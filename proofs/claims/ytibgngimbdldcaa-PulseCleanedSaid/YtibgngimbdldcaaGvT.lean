/- Running the abstract machine on values that are partly unknown: every truth value is split where it arises, so that the kernel can run the code under the splits. -/
import Derived.Test.YtibgngimbdldcaaGvS
namespace Gv
open Go

variable {α : Type}

def need (c : Prop) [Decidable c] (x : Option α) : Option α := bif decide c then x else none

theorem need_some {c : Prop} [Decidable c] {x : Option α} {r : α} (h : need c x = some r) : c ∧ x = some r := by
  unfold need at h
  by_cases hc : c
  · simp [hc] at h; exact ⟨hc, h⟩
  · simp [hc] at h

def intAt (k : IntKind) (cs : List PV) (o : Nat) : Option Int := match cs[o]? with
  | some (.int k' x) => if k = k' then some x else none
  | _ => none
def intAtV (k : IntKind) (cs : List AV) (o : Nat) : Option Int := match cs[o]? with
  | some (.p (.int k' x)) => if k = k' then some x else none
  | _ => none

theorem intAt_some {k : IntKind} {cs : List PV} {o : Nat} {x : Int} (h : intAt k cs o = some x) : cs[o]? = some (.int k x) := by
  unfold intAt at h
  split at h <;> try (cases h; done)
  split at h <;> try (cases h; done)
  simp at h
  subst h
  rename_i hk
  subst hk
  assumption
theorem intAtV_some {k : IntKind} {cs : List AV} {o : Nat} {x : Int} (h : intAtV k cs o = some x) : cs[o]? = some (.p (.int k x)) := by
  unfold intAtV at h
  split at h <;> try (cases h; done)
  split at h <;> try (cases h; done)
  simp at h
  subst h
  rename_i hk
  subst hk
  assumption

def ints : List IntKind → List PV → Nat → (List PV → Option α) → Option α
  | [], _, _, f => f []
  | k :: ks, cs, o, f => match intAt k cs o with
    | some x => ints ks cs (o + 1) fun xs => f (.int k x :: xs)
    | none => none
def intsV : List IntKind → List AV → Nat → (List PV → Option α) → Option α
  | [], _, _, f => f []
  | k :: ks, cs, o, f => match intAtV k cs o with
    | some x => intsV ks cs (o + 1) fun xs => f (.int k x :: xs)
    | none => none

theorem sub_cons {β : Type} {cs ws : List β} {o n : Nat} {x : β} (h : cs[o]? = some x) (hs : o + 1 + n ≤ cs.length ∧ ws = (cs.drop (o + 1)).take n) : o + (n + 1) ≤ cs.length ∧ x :: ws = (cs.drop o).take (n + 1) := by
  refine ⟨by omega, ?_⟩
  obtain ⟨hlt, hx⟩ := List.getElem?_eq_some_iff.1 h
  rw [List.drop_eq_getElem_cons hlt, hx, List.take_succ_cons, ← hs.2]

theorem ints_some : ∀ {ks : List IntKind} {cs : List PV} {o : Nat} {f : List PV → Option α} {r : α}, o ≤ cs.length → ints ks cs o f = some r → ∃ ws, (o + ks.length ≤ cs.length ∧ ws = (cs.drop o).take ks.length) ∧ f ws = some r
  | [], cs, o, f, r, hl, h => ⟨[], ⟨by simpa using hl, by simp⟩, h⟩
  | k :: ks, cs, o, f, r, hl, h => by
    simp only [ints] at h
    split at h <;> try (cases h; done)
    rename_i x hx
    have hx := intAt_some hx
    have hlt := (List.getElem?_eq_some_iff.1 hx).1
    obtain ⟨ws, h1, h2⟩ := ints_some (by omega) h
    exact ⟨_, sub_cons hx h1, h2⟩
theorem intsV_some : ∀ {ks : List IntKind} {cs : List AV} {o : Nat} {f : List PV → Option α} {r : α}, o ≤ cs.length → intsV ks cs o f = some r → ∃ ws : List PV, (o + ks.length ≤ cs.length ∧ ws.map .p = (cs.drop o).take ks.length) ∧ f ws = some r
  | [], cs, o, f, r, hl, h => ⟨[], ⟨by simpa using hl, by simp⟩, h⟩
  | k :: ks, cs, o, f, r, hl, h => by
    simp only [intsV] at h
    split at h <;> try (cases h; done)
    rename_i x hx
    have hx := intAtV_some hx
    have hlt := (List.getElem?_eq_some_iff.1 hx).1
    obtain ⟨ws, h1, h2⟩ := intsV_some (by omega) h
    exact ⟨.int k x :: ws, by rw [List.map_cons]; exact sub_cons hx h1, h2⟩

theorem ps_map : ∀ (ws : List PV), ps? (ws.map AV.p) = some ws
  | [] => rfl
  | w :: ws => by simp only [List.map_cons, ps?, ps_map ws]

/-! ### One operation, with what follows it -/

def splitV (r : Option (AV × List Blk)) (kk : AV → List Blk → Option α) : Option α := match r with
  | some (.p (.bool b), m) => bif b then kk (.p (.bool true)) m else kk (.p (.bool false)) m
  | some (v, m) => kk v m
  | none => none

theorem splitV_some {r : Option (AV × List Blk)} {kk : AV → List Blk → Option α} {x : α} (h : splitV r kk = some x) : ∃ v m, r = some (v, m) ∧ kk v m = some x := by
  unfold splitV at h
  split at h
  · rename_i b m
    cases b <;> exact ⟨_, _, rfl, h⟩
  · exact ⟨_, _, rfl, h⟩
  · cases h

def semLd (sh : Option (List IntKind)) (av : List Nat) (sz : Nat) (ag : Bool) (x : AV) (m : List Blk) (kk : AV → List Blk → Option α) : Option α :=
  match sh, x with
  | some ks, .p (.imm cs o) => need (o ≤ cs.length ∧ ks.length = sz) <| ints ks cs o fun ws => match ag, ws with
    | true, ws => kk (.p (.agg ws)) m
    | false, [w] => kk (.p w) m
    | _, _ => none
  | some ks, .loc b o => match lookB av m b with
    | some cs => need (o ≤ cs.length ∧ ks.length = sz) <| intsV ks cs o fun ws => match ag, ws with
      | true, ws => kk (.p (.agg ws)) m
      | false, [w] => kk (.p w) m
      | _, _ => none
    | none => none
  | _, x => splitV ((runD sz ag [x] (lookB av m)).map fun v => (v, m)) kk

def semIadr (sz : Nat) (arr : Option Nat) (x : AV) (i : Int) (m : List Blk) (kk : AV → List Blk → Option α) : Option α :=
  match arr, x with
  | some n, .loc b o => need (0 ≤ i ∧ i < n) <| kk (.loc b (o + i.toNat * sz)) m
  | some n, .p (.imm cs o) => need (0 ≤ i ∧ i < n) <| kk (.p (.imm cs (o + i.toNat * sz))) m
  | none, .msl b o n sz' => need (0 ≤ i ∧ i < n ∧ sz' = sz) <| kk (.loc b (o + i.toNat * sz)) m
  | none, x => match asList x with
    | some (n, cs) => need (0 ≤ i ∧ i < n) <| kk (.p (.imm cs (i.toNat * sz))) m
    | none => none
  | _, _ => none

def semBnds (lo hi : Bool) (bs : List AV) (n : Nat) (f : Nat → Nat → Option α) : Option α :=
  match lo, hi, bs with
  | false, false, [] => f 0 n
  | true, false, [.p (.int _ l)] => need (0 ≤ l ∧ l ≤ n) <| f l.toNat n
  | false, true, [.p (.int _ h)] => need (0 ≤ h ∧ h ≤ n) <| f 0 h.toNat
  | true, true, [.p (.int _ l), .p (.int _ h)] => need (0 ≤ l ∧ l ≤ h ∧ h ≤ n) <| f l.toNat h.toNat
  | _, _, _ => none

def semSlc (sz : Nat) (x : AV) (l h : Nat) (m : List Blk) (kk : AV → List Blk → Option α) : Option α :=
  match x with
  | .loc b o => bif decide (l = h) then kk (.p (.list 0 [])) m else kk (.msl b (o + l * sz) (h - l) sz) m
  | .p (.imm cs o) => need (l = h ∨ o + l * sz + (h - l) * sz ≤ cs.length) <| kk (.p (.list (h - l) ((cs.drop (o + l * sz)).take ((h - l) * sz)))) m
  | .msl b o _ sz' => bif decide (l = h) then kk (.p (.list 0 [])) m else need (sz' = sz) <| kk (.msl b (o + l * sz) (h - l) sz) m
  | x => match asList x with
    | some (_, cs) => need (l = h ∨ l * sz + (h - l) * sz ≤ cs.length) <| kk (.p (.list (h - l) ((cs.drop (l * sz)).take ((h - l) * sz)))) m
    | none => none

def semApp (d sz : Nat) (x : AV) (k : Nat) (ys : List PV) (mem : List Blk) (kk : AV → List Blk → Option α) : Option α :=
  bif decide (k = 0) then (match asList x with | some _ => kk x mem | none => none) else
  need (ys.length = k * sz) <| match x with
  | .nilS => match mem[d]? with
    | some .none => need (k ≤ big) <| kk (.app d k sz ys) (mem.set d (.buf k))
    | _ => none
  | .lit n sz' cs => match mem[d]? with
    | some .none => need (sz' = sz ∧ n + k ≤ big) <| kk (.app d (n + k) sz (cs ++ ys)) (mem.set d (.buf (n + k)))
    | _ => none
  | .app b n sz' cs => match mem[b]? with
    | some (.buf n') => need (n' = n ∧ sz' = sz ∧ n + k ≤ big) <| kk (.app b (n + k) sz (cs ++ ys)) (mem.set b (.buf (n + k)))
    | _ => none
  | _ => none

def semK (call : Nat → List PV → Option RV) (sh : Option (List IntKind)) (k : K) (vs : List AV) (m : List Blk) (kk : AV → List Blk → Option α) : Option α :=
  match k, vs with
  | .ld av sz ag, [x] => semLd sh av sz ag x m kk
  | .l (.iadr sz arr), [x, .p (.int _ i)] => semIadr sz arr x i m kk
  | .l (.bin .quo _), [.p (.int k a), .p (.int k' b)] => need (k = k' ∧ b ≠ 0) <| kk (.p (.int k (k.wrap (a.tdiv b)))) m
  | .l (.bin .rem _), [.p (.int k a), .p (.int k' b)] => need (k = k' ∧ b ≠ 0) <| kk (.p (.int k (a.tmod b))) m
  | .l (.slc sz arr lo hi), x :: bs => match lenA arr x with
    | some n => semBnds lo hi bs n fun l h => semSlc sz x l h m kk
    | none => none
  | .l (.idx sz n ag), [.p (.agg cs), .p (.int _ i)] => need (0 ≤ i ∧ i < n) <| splitV (((if ag then (sub cs (i.toNat * sz) sz).map fun ws => AV.p (.agg ws) else (cs[i.toNat * sz]?).map .p)).map fun v => (v, m)) kk
  | .a d (.mkS sz z), [.p (.int _ n), .p (.int _ c)] => match m[d]? with
    | some .none => need (n = c ∧ 0 ≤ n ∧ n ≤ big) <| kk (.msl d 0 n.toNat sz) (m.set d (.cells true ((rep z n.toNat).map .p)))
    | _ => none
  | .s (.store sz), [.loc b o, v] => match m[b]? with
    | some (.cells true cs) => need ((cellsOf v).length = sz ∧ o + sz ≤ cs.length ∧ (cellsOf v).all isCell = true) <| kk .undef (m.set b (.cells true (over cs o (cellsOf v))))
    | _ => none
  | .s (.append d sz), [x, y] => match asList y with
    | some (n, ys) => semApp d sz x n ys m kk
    | none => none
  | k, vs => splitV (runK call k vs m) kk

theorem semLd_some {call : Nat → List PV → Option RV} {sh : Option (List IntKind)} {av : List Nat} {sz : Nat} {ag : Bool} {x : AV} {m : List Blk} {kk : AV → List Blk → Option α} {r : α} (h : semLd sh av sz ag x m kk = some r) :
    ∃ v m', runK call (.ld av sz ag) [x] m = some (v, m') ∧ kk v m' = some r := by
  unfold semLd at h
  split at h
  · rename_i ks cs o
    obtain ⟨⟨ho, hk⟩, h⟩ := need_some h
    obtain ⟨ws, ⟨h1, h2⟩, h3⟩ := ints_some ho h
    subst hk
    have hs : sub cs o ks.length = some ws := by unfold sub; rw [if_pos h1, h2]
    cases ag with
    | true => exact ⟨_, _, by simp [runK, runD, hs], h3⟩
    | false =>
      match ws, h2, h3, hs with
      | [w], h2, h3, _ =>
        have hx : cs[o]? = some w := by
          have hl : ks.length = 1 := by have := congrArg List.length h2; simp at this; omega
          rw [hl] at h2 h1
          have : ((cs.drop o).take 1)[0]? = some w := by rw [← h2]; rfl
          rw [List.getElem?_take, if_pos (by omega), List.getElem?_drop] at this
          simpa using this
        exact ⟨_, _, by simp [runK, runD, hx], h3⟩
      | [], _, h3, _ => cases h3
      | _ :: _ :: _, _, h3, _ => cases h3
  · rename_i ks b o
    split at h <;> try (cases h; done)
    rename_i cs hcs
    obtain ⟨⟨ho, hk⟩, h⟩ := need_some h
    obtain ⟨ws, ⟨h1, h2⟩, h3⟩ := intsV_some ho h
    subst hk
    have hs : sub cs o ks.length = some (ws.map .p) := by unfold sub; rw [if_pos h1, h2]
    cases ag with
    | true => exact ⟨_, _, by simp [runK, runD, hcs, hs, mkAgg, ps_map], h3⟩
    | false =>
      match ws, h2, h3, hs with
      | [w], h2, h3, _ =>
        have hx : cs[o]? = some (.p w) := by
          have hl : ks.length = 1 := by have := congrArg List.length h2; simp at this; omega
          rw [hl] at h2 h1
          have : ((cs.drop o).take 1)[0]? = some (AV.p w) := by rw [← h2]; rfl
          rw [List.getElem?_take, if_pos (by omega), List.getElem?_drop] at this
          simpa using this
        exact ⟨_, _, by simp [runK, runD, hcs, hx], h3⟩
      | [], _, h3, _ => cases h3
      | _ :: _ :: _, _, h3, _ => cases h3
  · exact splitV_some h

theorem semK_some {call : Nat → List PV → Option RV} {sh : Option (List IntKind)} {k : K} {vs : List AV} {m : List Blk} {kk : AV → List Blk → Option α} {r : α} (h : semK call sh k vs m kk = some r) :
    ∃ v m', runK call k vs m = some (v, m') ∧ kk v m' = some r := by
  unfold semK at h
  split at h
  · exact semLd_some h
  · rename_i sz arr x kk' i
    unfold semIadr at h
    split at h
    · obtain ⟨⟨h0, h1⟩, h⟩ := need_some h
      exact ⟨_, _, by simp [runK, runL, h0, h1], h⟩
    · obtain ⟨⟨h0, h1⟩, h⟩ := need_some h
      exact ⟨_, _, by simp [runK, runL, h0, h1], h⟩
    · obtain ⟨⟨h0, h1, h2⟩, h⟩ := need_some h
      exact ⟨_, _, by simp [runK, runL, h0, h1, h2], h⟩
    · rename_i hne
      split at h <;> try (cases h; done)
      rename_i n cs hl
      obtain ⟨⟨h0, h1⟩, h⟩ := need_some h
      refine ⟨_, _, ?_, h⟩
      cases x <;> first | (exact absurd rfl (hne _ _ _ _)) | (simp [runK, runL, h0, hl, h1]; done) | (simp [asList] at hl; done)
    · cases h
  · obtain ⟨⟨hk, hb⟩, h2⟩ := need_some h
    exact ⟨_, _, by simp [runK, runL, binA, iop, hk, hb], hk ▸ h2⟩
  · obtain ⟨⟨hk, hb⟩, h2⟩ := need_some h
    exact ⟨_, _, by simp [runK, runL, binA, iop, hk, hb], hk ▸ h2⟩
  · rename_i sz arr lo hi x bs
    split at h <;> try (cases h; done)
    rename_i n hn
    have key : ∃ l h', bnds lo hi bs n = some (l, h') ∧ semSlc sz x l h' m kk = some r := by
      unfold semBnds at h
      split at h
      · exact ⟨_, _, rfl, h⟩
      · obtain ⟨h0, h⟩ := need_some h; exact ⟨_, _, by simp [bnds, h0], h⟩
      · obtain ⟨h0, h⟩ := need_some h; exact ⟨_, _, by simp [bnds, h0], h⟩
      · obtain ⟨h0, h⟩ := need_some h; exact ⟨_, _, by simp [bnds, h0], h⟩
      · cases h
    obtain ⟨l, h', hb, h⟩ := key
    have fin : ∀ v, slcA sz x l h' = some v → kk v m = some r → ∃ v m', runK call (.l (.slc sz arr lo hi)) (x :: bs) m = some (v, m') ∧ kk v m' = some r := by
      intro v hv hk
      exact ⟨v, m, by simp [runK, runL, hn, hb, hv], hk⟩
    unfold semSlc at h
    split at h
    · by_cases hl : l = h'
      · simp [hl] at h; exact fin _ (by simp [slcA, hl]) h
      · simp [hl] at h; exact fin _ (by simp [slcA, hl]) h
    · rename_i cs o _
      obtain ⟨h0, h⟩ := need_some h
      by_cases hl : l = h'
      · subst hl; simp at h; exact fin _ (by simp [slcA]) h
      · have hs : o + l * sz + (h' - l) * sz ≤ cs.length := by rcases h0 with h0 | h0; exact absurd h0 hl; exact h0
        exact fin _ (by simp [slcA, hl, sub, hs]) h
    · by_cases hl : l = h'
      · simp [hl] at h; exact fin _ (by simp [slcA, hl]) h
      · simp [hl] at h
        obtain ⟨h0, h⟩ := need_some h
        exact fin _ (by simp [slcA, hl, h0]) h
    · rename_i h1 h2 h3
      split at h <;> try (cases h; done)
      rename_i n2 cs hcs
      obtain ⟨h0, h⟩ := need_some h
      by_cases hl : l = h'
      · subst hl; simp at h; exact fin _ (by simp [slcA]) h
      · have hs : l * sz + (h' - l) * sz ≤ cs.length := by rcases h0 with h0 | h0; exact absurd h0 hl; exact h0
        refine fin _ ?_ h
        unfold slcA
        rw [if_neg hl]
        split
        · exact absurd rfl (h1 _ _)
        · exact absurd rfl (h2 _ _)
        · exact absurd rfl (h3 _ _ _ _)
        · simp [hcs, sub, hs]
  · rename_i sz n ag cs k' i
    obtain ⟨h0, h⟩ := need_some h
    obtain ⟨v, m', h1, h2⟩ := splitV_some h
    exact ⟨v, m', by simp only [runK, runL, if_pos h0]; exact h1, h2⟩
  · split at h <;> try (cases h; done)
    rename_i hd
    obtain ⟨h0, h3⟩ := need_some h
    obtain ⟨hn, h1, h2⟩ := h0
    exact ⟨_, _, by simp [runK, runA, hd, ← hn, h1, h2], h3⟩
  · split at h <;> try (cases h; done)
    rename_i cs hb
    obtain ⟨h0, h⟩ := need_some h
    exact ⟨_, _, by simp only [runK, runS, hb, if_pos h0], h⟩
  · rename_i d sz x y
    split at h <;> try (cases h; done)
    rename_i n ys hy
    unfold semApp at h
    by_cases hn : n = 0
    · simp [hn] at h
      split at h <;> try (cases h; done)
      rename_i q hq
      exact ⟨_, _, by simp only [runK, runS, hy, appendA, if_pos hn, hq], h⟩
    · simp [hn] at h
      obtain ⟨h0, h⟩ := need_some h
      split at h
      · split at h <;> try (cases h; done)
        rename_i hd
        obtain ⟨h1, h⟩ := need_some h
        exact ⟨_, _, by simp only [runK, runS, hy, appendA, if_neg hn, if_pos h0, hd, if_pos h1], h⟩
      · split at h <;> try (cases h; done)
        rename_i hd
        obtain ⟨h1, h⟩ := need_some h
        exact ⟨_, _, by simp only [runK, runS, hy, appendA, if_neg hn, if_pos h0, hd, if_pos h1], h⟩
      · split at h <;> try (cases h; done)
        rename_i hd
        obtain ⟨h1, h⟩ := need_some h
        exact ⟨_, _, by simp only [runK, runS, hy, appendA, if_neg hn, if_pos h0, hd, if_pos h1], h⟩
      · cases h
  · exact splitV_some h

/-! ### Lists of operations, code -/

def semOp (call : Nat → List PV → Option RV) (sh : Nat → Option (List IntKind)) (o : AOp) (s : S) (kk : S → Option α) : Option α :=
  match grd s.t o.grd with
  | none => none
  | some false => kk ⟨put s.t o.dst .undef, s.m⟩
  | some true => semK call (o.dst.bind sh) o.k (o.args.map (Arg.get s.t)) s.m fun v m => kk ⟨put s.t o.dst v, m⟩

def semOps (call : Nat → List PV → Option RV) (sh : Nat → Option (List IntKind)) : List AOp → S → (S → Option α) → Option α
  | [], s, kk => kk s
  | o :: l, s, kk => semOp call sh o s fun s' => semOps call sh l s' kk

theorem semOp_some {call : Nat → List PV → Option RV} {sh : Nat → Option (List IntKind)} {o : AOp} {s : S} {kk : S → Option α} {r : α} (h : semOp call sh o s kk = some r) : ∃ s', exOp call o s = some s' ∧ kk s' = some r := by
  unfold semOp at h
  split at h
  · cases h
  · rename_i hg
    exact ⟨_, by simp [exOp, hg], h⟩
  · rename_i hg
    obtain ⟨v, m, h1, h2⟩ := semK_some h
    exact ⟨_, by simp only [exOp, hg, h1], h2⟩

theorem semOps_some {call : Nat → List PV → Option RV} {sh : Nat → Option (List IntKind)} : ∀ {l : List AOp} {s : S} {kk : S → Option α} {r : α}, semOps call sh l s kk = some r → ∃ s', exOps call l s = some s' ∧ kk s' = some r
  | [], s, kk, r, h => ⟨s, rfl, h⟩
  | o :: l, s, kk, r, h => by
    simp only [semOps] at h
    obtain ⟨s1, h1, h2⟩ := semOp_some h
    obtain ⟨s2, h3, h4⟩ := semOps_some h2
    exact ⟨s2, by simp only [exOps, h1, h3], h4⟩

/-- What is known of the loops of a function, by the numbers of their blocks. -/
abbrev Loops := Nat → Option (S → Option (Ext × S))

def blocksOf : ACode → List (Nat × ACode)
  | .seq a b => blocksOf a ++ blocksOf b
  | .cond _ a b => blocksOf a ++ blocksOf b
  | .block id c => (id, c) :: blocksOf c
  | .loop _ _ c => blocksOf c
  | _ => []

def semC (call : Nat → List PV → Option RV) (sh : Nat → Option (List IntKind)) (lp : Loops) : Nat → ACode → S → (Ext → S → Option α) → Option α
  | 0, _, _, _ => none
  | n + 1, c, s, kk =>
    match c with
    | .skip => kk .normal s
    | .ops l => semOps call sh l s fun s' => kk .normal s'
    | .seq a b => semC call sh lp n a s fun e s' => match e with
      | .normal => semC call sh lp n b s' kk
      | e => kk e s'
    | .cond c a b => match c.get s.t with
      | .p (.bool v) => bif v then semC call sh lp n a s kk else semC call sh lp n b s kk
      | _ => none
    | .block id c => match lp id with
      | some F => match F s with
        | some (e, s') => kk e s'
        | none => none
      | none => semC call sh lp n c s fun e s' => match e with
        | .exit i => bif i == id then kk .normal s' else kk (.exit i) s'
        | e => kk e s'
    | .loop ks bs c => semC call sh lp n c (norm ks bs s) fun e s' => match e with
      | .normal => semC call sh lp n (.loop ks bs c) s' kk
      | e => kk e s'
    | .exit id => kk (.exit id) s
    | .ret => kk .ret s

variable {env : Nat → Option AFn}

def LoopsOK (env : Nat → Option AFn) (lp : Loops) (c : ACode) : Prop := ∀ p ∈ blocksOf c, ∀ F, lp p.1 = some F → ∀ s r, F s = some r → ex env (.block p.1 p.2) s = some r

theorem semC_some {call : Nat → List PV → Option RV} (hc : CLe call (run env)) {sh : Nat → Option (List IntKind)} {lp : Loops} : ∀ {n : Nat} {c : ACode} {s : S} {kk : Ext → S → Option α} {r : α}, LoopsOK env lp c → semC call sh lp n c s kk = some r → ∃ e s', ex env c s = some (e, s') ∧ kk e s' = some r
  | 0, _, _, _, _, _, h => by simp [semC] at h
  | n + 1, c, s, kk, r, hl, h => by
    cases c with
    | skip => exact ⟨_, _, ex_skip s, h⟩
    | exit i => exact ⟨_, _, ex_exit i s, h⟩
    | ret => exact ⟨_, _, ex_ret s, h⟩
    | ops l =>
      simp only [semC] at h
      obtain ⟨s', h1, h2⟩ := semOps_some h
      exact ⟨.normal, s', by rw [ex_ops, exOps_mono hc h1]; rfl, h2⟩
    | seq a b =>
      simp only [semC] at h
      obtain ⟨e, s1, h1, h2⟩ := semC_some hc (fun p hp => hl p (by simp [blocksOf, hp])) h
      cases e with
      | normal =>
        obtain ⟨e2, s2, h3, h4⟩ := semC_some hc (fun p hp => hl p (by simp [blocksOf, hp])) h2
        exact ⟨e2, s2, by rw [ex_seq, h1]; exact h3, h4⟩
      | exit i => exact ⟨_, _, by rw [ex_seq, h1], h2⟩
      | ret => exact ⟨_, _, by rw [ex_seq, h1], h2⟩
    | cond v a b =>
      simp only [semC] at h
      split at h <;> try (cases h; done)
      rename_i x hx
      cases x with
      | true =>
        obtain ⟨e, s1, h1, h2⟩ := semC_some hc (fun p hp => hl p (by simp [blocksOf, hp])) h
        exact ⟨e, s1, by rw [ex_cond, hx]; exact h1, h2⟩
      | false =>
        obtain ⟨e, s1, h1, h2⟩ := semC_some hc (fun p hp => hl p (by simp [blocksOf, hp])) h
        exact ⟨e, s1, by rw [ex_cond, hx]; exact h1, h2⟩
    | block id c =>
      simp only [semC] at h
      split at h
      · rename_i F hF
        split at h <;> try (cases h; done)
        rename_i e s' hs
        exact ⟨e, s', hl (id, c) (by simp [blocksOf]) F hF s _ hs, h⟩
      · obtain ⟨e, s1, h1, h2⟩ := semC_some hc (fun p hp => hl p (by simp [blocksOf, hp])) h
        cases e with
        | exit i =>
          have h2 : (bif i == id then kk Ext.normal s1 else kk (Ext.exit i) s1) = some r := h2
          by_cases hi : i = id
          · rw [show (i == id) = true by simpa using hi] at h2
            exact ⟨_, _, by rw [ex_block, h1]; simp only [if_pos hi], h2⟩
          · rw [show (i == id) = false by simpa using hi] at h2
            exact ⟨_, _, by rw [ex_block, h1]; simp only [if_neg hi], h2⟩
        | normal => exact ⟨_, _, by rw [ex_block, h1], h2⟩
        | ret => exact ⟨_, _, by rw [ex_block, h1], h2⟩
    | loop ks bs c =>
      simp only [semC] at h
      obtain ⟨e, s1, h1, h2⟩ := semC_some hc (fun p hp => hl p (by simpa [blocksOf] using hp)) h
      cases e with
      | normal =>
        obtain ⟨e2, s2, h3, h4⟩ := semC_some hc hl h2
        exact ⟨e2, s2, by rw [ex_loop, h1]; exact h3, h4⟩
      | exit i => exact ⟨_, _, by rw [ex_loop, h1], h2⟩
      | ret => exact ⟨_, _, by rw [ex_loop, h1], h2⟩

/-- A whole function. -/
def semF (call : Nat → List PV → Option RV) (sh : Nat → Option (List IntKind)) (lp : Loops) (n : Nat) (af : AFn) (args : List PV) : Option RV :=
  semC call sh lp n af.body (start af args) fun e s => match e with
    | .exit _ => none
    | _ => result s af.res

theorem run_of {call : Nat → List PV → Option RV} (hc : CLe call (run env)) {sh : Nat → Option (List IntKind)} {lp : Loops} {n f : Nat} {af : AFn} {args : List PV} {r : RV} (hf : env f = some af) (hl : args.length = af.np) (hlp : LoopsOK env lp af.body)
    (h : semF call sh lp n af args = some r) : run env f args = some r := by
  unfold semF at h
  obtain ⟨e, s, h1, h2⟩ := semC_some hc hlp h
  rw [run_eq, hf]
  simp only [if_pos hl, h1]
  cases e with
  | exit _ => cases h2
  | normal => exact h2
  | ret => exact h2
end Gv
