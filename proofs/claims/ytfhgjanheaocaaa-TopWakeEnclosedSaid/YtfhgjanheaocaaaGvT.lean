/- Running the abstract machine on values that are partly unknown: every choice is made where it arises, in continuation style, so that the kernel can run the code under the choices. -/
import Derived.Test.YtfhgjanheaocaaaGvS
namespace Gv
open Go
variable {α : Type}
def bindO {β : Type} (o : Option β) (f : β → Option α) : Option α := match o with
  | some x => f x
  | none => none
@[simp] theorem bindO_val {β : Type} (x : β) (f : β → Option α) : bindO (some x) f = f x := rfl
@[simp] theorem bindO_none {β : Type} (f : β → Option α) : bindO none f = none := rfl
theorem bindO_some {β : Type} {o : Option β} {f : β → Option α} {r : α} (h : bindO o f = some r) : ∃ x, o = some x ∧ f x = some r := by
  cases o with
  | none => cases h
  | some x => exact ⟨x, rfl, h⟩
def need (c : Prop) [Decidable c] (x : Option α) : Option α := bif decide c then x else none
theorem need_some {c : Prop} [Decidable c] {x : Option α} {r : α} (h : need c x = some r) : c ∧ x = some r := by
  unfold need at h
  by_cases hc : c
  · simp [hc] at h; exact ⟨hc, h⟩
  · simp [hc] at h
theorem need_of {c : Prop} [Decidable c] (h : c) (x : Option α) : need c x = x := by simp [need, h]
inductive CK where
  | int (k : IntKind) | bool | str | list | any
  deriving Inhabited
def intC (k : IntKind) : Option PV → Option Int
  | some (.int k' x) => if k = k' then some x else none
  | _ => none
def boolC : Option PV → Option Bool
  | some (.bool x) => some x
  | _ => none
def strC : Option PV → Option ByteArray
  | some (.str x) => some x
  | _ => none
def listC : Option PV → Option (Nat × List PV)
  | some (.list n cs) => some (n, cs)
  | _ => none
def anyC : Option PV → Option PV := id
def cellV : Option AV → Option PV
  | some (.p v) => some v
  | _ => none
def readC (k : CK) (c : Option PV) (f : PV → Option α) : Option α := match k with
  | .int k => bindO (intC k c) fun x => f (.int k x)
  | .bool => bindO (boolC c) fun b => bif b then f (.bool true) else f (.bool false)
  | .str => bindO (strC c) fun x => f (.str x)
  | .list => bindO (listC c) fun x => f (.list x.1 x.2)
  | .any => bindO (anyC c) f
theorem readC_some {k : CK} {c : Option PV} {f : PV → Option α} {r : α} (h : readC k c f = some r) : ∃ v, c = some v ∧ f v = some r := by
  cases k with
  | int k =>
    obtain ⟨x, h1, h2⟩ := bindO_some h
    unfold intC at h1
    split at h1 <;> try (cases h1; done)
    split at h1 <;> try (cases h1; done)
    simp at h1
    subst h1
    rename_i hk
    subst hk
    exact ⟨_, rfl, h2⟩
  | bool =>
    obtain ⟨x, h1, h2⟩ := bindO_some h
    unfold boolC at h1
    split at h1 <;> try (cases h1; done)
    simp at h1
    subst h1
    refine ⟨_, rfl, ?_⟩
    rename_i b
    cases b <;> exact h2
  | str =>
    obtain ⟨x, h1, h2⟩ := bindO_some h
    unfold strC at h1
    split at h1 <;> try (cases h1; done)
    simp at h1
    subst h1
    exact ⟨_, rfl, h2⟩
  | list =>
    obtain ⟨x, h1, h2⟩ := bindO_some h
    unfold listC at h1
    split at h1 <;> try (cases h1; done)
    simp at h1
    subst h1
    exact ⟨_, rfl, h2⟩
  | any =>
    obtain ⟨x, h1, h2⟩ := bindO_some h
    exact ⟨_, h1, h2⟩
def readCs : List CK → (Nat → Option PV) → Nat → (List PV → Option α) → Option α
  | [], _, _, f => f []
  | k :: ks, c, o, f => readC k (c o) fun x => readCs ks c (o + 1) fun xs => f (x :: xs)
theorem readCs_some : ∀ {ks : List CK} {c : Nat → Option PV} {o : Nat} {f : List PV → Option α} {r : α}, readCs ks c o f = some r → ∃ ws : List PV, ws.length = ks.length ∧ (∀ j, j < ks.length → c (o + j) = ws[j]?) ∧ f ws = some r
  | [], c, o, f, r, h => ⟨[], rfl, fun j hj => by simp at hj, h⟩
  | k :: ks, c, o, f, r, h => by
    obtain ⟨x, h1, h2⟩ := readC_some h
    obtain ⟨ws, h3, h4, h5⟩ := readCs_some h2
    refine ⟨x :: ws, by simp [h3], fun j hj => ?_, h5⟩
    cases j with
    | zero => simpa using h1
    | succ j =>
      have := h4 j (by simpa using hj)
      simpa [show o + (j + 1) = o + 1 + j by omega] using this
theorem take_of_get {β : Type} {cs ws : List β} {o : Nat} (h : ∀ j, j < ws.length → cs[o + j]? = ws[j]?) (hl : 0 < ws.length ∨ o ≤ cs.length) : o + ws.length ≤ cs.length ∧ ws = (cs.drop o).take ws.length := by
  have hle : o + ws.length ≤ cs.length := by
    by_cases hz : ws.length = 0
    · omega
    · have h1 := h (ws.length - 1) (by omega)
      rw [List.getElem?_eq_getElem (l := ws) (by omega)] at h1
      have := (List.getElem?_eq_some_iff.1 h1).1
      omega
  refine ⟨hle, ?_⟩
  apply List.ext_getElem?
  intro j
  by_cases hj : j < ws.length
  · rw [List.getElem?_take, if_pos hj, List.getElem?_drop, h j hj]
  · rw [List.getElem?_eq_none (by omega), List.getElem?_eq_none (by simp; omega)]
theorem sub_of_read {cs ws : List PV} {o : Nat} (h : ∀ j, j < ws.length → cs[o + j]? = ws[j]?) (hl : 0 < ws.length) : sub cs o ws.length = some ws := by
  obtain ⟨h1, h2⟩ := take_of_get h (.inl hl)
  unfold sub
  rw [if_pos h1, ← h2]
theorem ps_map : ∀ (ws : List PV), ps? (ws.map AV.p) = some ws
  | [] => rfl
  | w :: ws => by simp only [List.map_cons, ps?, ps_map ws]
inductive Bk where
  | none
  | cells (wr : Bool) (cs : List AV)
  | buf (n : Nat)
  | pcs (wr : Bool) (cs : List PV)
  | log (sh : List (Option Nat)) (k n : Nat) (cs : List PV)
  | vec (wr : Bool) (n sz : Nat) (cs : List PV)
  deriving Inhabited
structure CallF (α : Type) where
  p : Nat → List PV → (PV → Option α) → Option α
  r : Nat → List PV → (RV → Option α) → Option α
  l : Nat → List AV → List Bk → (AV → List Bk → Option α) → Option α
def RV.pv : RV → PV
  | .val v => v
  | .own n _ cs => .list n cs
def Bk.x : Bk → Blk
  | .none => .none
  | .cells w cs => .cells w cs
  | .buf n => .buf n
  | .pcs w cs => .cells w (cs.map .p)
  | .log sh k n cs => .log sh k n cs
  | .vec wr n sz cs => .vec wr n sz cs
structure Q where
  t : List AV
  m : List Bk
def xm (m : List Bk) : List Blk := m.map Bk.x
def Q.x (s : Q) : S := ⟨s.t, xm s.m⟩
theorem xm_get (m : List Bk) (b : Nat) : (xm m)[b]? = (m[b]?).map Bk.x := by simp [xm]
theorem xm_set (m : List Bk) (b : Nat) (k : Bk) : xm (m.set b k) = (xm m).set b k.x := by simp [xm, List.map_set]
def lock1Q (m : List Bk) (b : Nat) : List Bk := match m[b]? with
  | some (.cells _ cs) => m.set b (.cells false cs)
  | some (.pcs _ cs) => m.set b (.pcs false cs)
  | some (.vec _ n sz cs) => m.set b (.vec false n sz cs)
  | _ => m
def lockQ (m : List Bk) (bs : List Nat) : List Bk := bs.foldl lock1Q m
theorem lock1_x (m : List Bk) (b : Nat) : xm (lock1Q m b) = lock1 (xm m) b := by
  unfold lock1Q lock1
  rw [xm_get]
  split <;> rename_i h
  · rw [h]; simp [xm_set, Bk.x]
  · rw [h]; simp [xm_set, Bk.x]
  · rw [h]; simp [xm_set, Bk.x]
  · cases hb : m[b]? with
    | none => rfl
    | some k =>
      cases k with
      | none => rfl
      | buf n => rfl
      | log sh k n cs => rfl
      | cells w cs => rename_i h2 h3; first | exact absurd hb (h _ _) | exact absurd hb (h2 _ _) | exact absurd hb (h3 _ _)
      | pcs w cs => rename_i h2 h3; first | exact absurd hb (h2 _ _) | exact absurd hb (h _ _) | exact absurd hb (h3 _ _)
      | vec w n sz cs => rename_i h2 h3; first | exact absurd hb (h2 _ _ _ _) | exact absurd hb (h _ _ _ _) | exact absurd hb (h3 _ _ _ _)
theorem lock_x : ∀ (bs : List Nat) (m : List Bk), xm (lockQ m bs) = lock (xm m) bs
  | [], m => rfl
  | b :: bs, m => by
    simp only [lockQ, lock, List.foldl_cons]
    have := lock_x bs (lock1Q m b)
    simp only [lockQ, lock] at this
    rw [this, lock1_x]
def freeQ (bs : List Nat) (m : List Bk) : List Bk := bs.foldl (fun m i => m.set i .none) m
def scrubQ (bs : List Nat) : Bk → Bk
  | .cells w cs => .cells w (scrubs bs cs)
  | b => b
def normQ (ks bs : List Nat) (s : Q) : Q := ⟨scrubs bs (kill ks s.t), (freeQ bs s.m).map (scrubQ bs)⟩
theorem free_x : ∀ (bs : List Nat) (m : List Bk), xm (freeQ bs m) = freeB bs (xm m)
  | [], m => rfl
  | b :: bs, m => by
    simp only [freeQ, freeB, List.foldl_cons]
    have := free_x bs (m.set b .none)
    simp only [freeQ, freeB] at this
    rw [this, xm_set]
    rfl
theorem scrubs_pure (bs : List Nat) : ∀ (cs : List PV), scrubs bs (cs.map .p) = cs.map .p
  | [] => rfl
  | c :: cs => by simp [scrubs, scrub, scrubs_pure bs cs]
theorem scrub_x (bs : List Nat) (b : Bk) : (scrubQ bs b).x = scrubB bs b.x := by
  cases b <;> simp [scrubQ, Bk.x, scrubB, scrubs_pure]
theorem norm_x (ks bs : List Nat) (s : Q) : (normQ ks bs s).x = norm ks bs s.x := by
  unfold normQ norm Q.x
  simp only
  congr 1
  rw [← free_x]
  unfold xm
  simp only [List.map_map]
  apply List.map_congr_left
  intro b _
  exact scrub_x bs b
def mkB (cs : List AV) : Bk := match ps? cs with
  | some ps => bif ps.all plain then .pcs true ps else .cells true cs
  | Option.none => .cells true cs
theorem ps_some : ∀ {cs : List AV} {ps : List PV}, ps? cs = some ps → cs = ps.map .p
  | [], ps, h => by simp [ps?] at h; subst h; rfl
  | c :: cs, ps, h => by
    cases c <;> simp only [ps?] at h <;> try (cases h; done)
    split at h <;> try (cases h; done)
    rename_i vs hvs
    simp at h
    subst h
    rw [ps_some hvs]
    rfl
theorem mkB_x (cs : List AV) : (mkB cs).x = .cells true cs := by
  unfold mkB
  split
  · rename_i ps hps
    cases ps.all plain <;> simp [Bk.x, ← ps_some hps]
  · rfl
theorem over_map (cs : List PV) (o : Nat) (ps : List PV) : (over cs o ps).map AV.p = over (cs.map .p) o (ps.map .p) := by
  simp [over, List.map_take, List.map_drop]
def splitA (r : Option AV) (kk : AV → Option α) : Option α := match r with
  | some (.p (.bool b)) => bif b then kk (.p (.bool true)) else kk (.p (.bool false))
  | some v => kk v
  | none => none
theorem splitA_some {r : Option AV} {kk : AV → Option α} {x : α} (h : splitA r kk = some x) : ∃ v, r = some v ∧ kk v = some x := by
  unfold splitA at h
  split at h
  · rename_i b
    cases b <;> exact ⟨_, rfl, h⟩
  · exact ⟨_, rfl, h⟩
  · cases h
def splitP (v : PV) (kk : PV → Option α) : Option α := match v with
  | .bool b => bif b then kk (.bool true) else kk (.bool false)
  | v => kk v
theorem splitP_eq (v : PV) (kk : PV → Option α) : splitP v kk = kk v := by
  unfold splitP
  split
  · rename_i b; cases b <;> rfl
  · rfl
def fin1 (ag : Bool) (ws : List PV) (kk : PV → Option α) : Option α := match ag, ws with
  | true, ws => kk (.agg ws)
  | false, [w] => kk w
  | _, _ => none
def rd (ks : List CK) (sz : Nat) (ag : Bool) (c : Nat → Option PV) (o : Nat) (kk : AV → Option α) : Option α :=
  bif decide (ks.length = sz) && decide (0 < sz) then readCs ks c o fun ws => fin1 ag ws fun w => kk (.p w) else none
def semLd (sh : Option (List CK)) (av : List Nat) (sz : Nat) (ag : Bool) (x : AV) (m : List Bk) (kk : AV → Option α) : Option α :=
  match sh, x with
  | some ks, .p (.imm cs o) => rd ks sz ag (fun o => cs[o]?) o kk
  | some ks, .loc b o => bif av.contains b then none else match m[b]? with
    | some (.pcs _ cs) => rd ks sz ag (fun o => cs[o]?) o kk
    | some (.cells _ _cs) => splitA (runD sz ag [.loc b o] (lookB av (xm m))) kk
    | _ => none
  | some ks, .vlc b n o => bif av.contains b then none else match m[b]? with
    | some (.vec _ n' _ cs) => need (n' = n) <| rd ks sz ag (fun o => cs[o]?) o kk
    | _ => none
  | _, x => splitA (runDV sz ag [x] av (xm m)) kk
def semIadr (sz : Nat) (arr : Option Nat) (x : AV) (i : Int) (kk : AV → Option α) : Option α :=
  match arr, x with
  | some n, .loc b o => need (0 ≤ i ∧ i < n) <| kk (.loc b (o + i.toNat * sz))
  | some n, .p (.imm cs o) => need (0 ≤ i ∧ i < n) <| kk (.p (.imm cs (o + i.toNat * sz)))
  | none, .msl b o n sz' => need (0 ≤ i ∧ i < n) <| bif decide (sz' = sz) then kk (.loc b (o + i.toNat * sz)) else none
  | none, .vap b n sz' => need (0 ≤ i ∧ i < n) <| bif decide (sz' = sz) then kk (.vlc b n (i.toNat * sz)) else none
  | none, x => match asList x with
    | some (n, cs) => need (0 ≤ i ∧ i < n) <| kk (.p (.imm cs (i.toNat * sz)))
    | none => none
  | _, _ => none
def semBnds (lo hi : Bool) (bs : List AV) (n : Nat) (f : Nat → Nat → Option α) : Option α :=
  match lo, hi, bs with
  | false, false, [] => f 0 n
  | true, false, [.p (.int _ l)] => need (0 ≤ l ∧ l ≤ n) <| f l.toNat n
  | false, true, [.p (.int _ h)] => need (0 ≤ h ∧ h ≤ n) <| f 0 h.toNat
  | true, true, [.p (.int _ l), .p (.int _ h)] => need (0 ≤ l ∧ l ≤ h ∧ h ≤ n) <| f l.toNat h.toNat
  | _, _, _ => none
def semSlc (sz : Nat) (x : AV) (l h : Nat) (kk : AV → Option α) : Option α :=
  match x with
  | .loc b o => bif decide (l = h) then kk (.p (.list 0 [])) else kk (.msl b (o + l * sz) (h - l) sz)
  | .p (.imm cs o) => need (l = h ∨ o + l * sz + (h - l) * sz ≤ cs.length) <| kk (.p (.list (h - l) ((cs.drop (o + l * sz)).take ((h - l) * sz))))
  | .msl b o _ sz' => bif decide (l = h) then kk (.p (.list 0 [])) else bif decide (sz' = sz) then kk (.msl b (o + l * sz) (h - l) sz) else none
  | x => match asList x with
    | some (_, cs) => need (l = h ∨ l * sz + (h - l) * sz ≤ cs.length) <| kk (.p (.list (h - l) ((cs.drop (l * sz)).take ((h - l) * sz))))
    | none => none
def semApp (d sz : Nat) (x : AV) (k : Nat) (ys : List PV) (mem : List Bk) (kk : AV → List Bk → Option α) : Option α :=
  bif decide (k = 0) then (match asList x with | some _ => kk x mem | none => none) else
  need (ys.length = k * sz) <| match nilA x with
  | .nilS => match mem[d]? with
    | some .none => need (k ≤ big) <| kk (.app d k sz ys) (mem.set d (.buf k))
    | _ => none
  | .lit n sz' cs => match mem[d]? with
    | some .none => bif decide (sz' = sz) then need (n + k ≤ big) <| kk (.app d (n + k) sz (cs ++ ys)) (mem.set d (.buf (n + k))) else none
    | _ => none
  | .app b n sz' cs => match mem[b]? with
    | some (.buf n') => bif decide (sz' = sz) then need (n' = n ∧ n + k ≤ big) <| kk (.app b (n + k) sz (cs ++ ys)) (mem.set b (.buf (n + k))) else none
    | _ => none
  | _ => none
def semAppV (d sz : Nat) (x : AV) (k : Nat) (ys : List PV) (mem : List Bk) (kk : AV → List Bk → Option α) : Option α :=
  bif decide (k = 0) then none else
  need (ys.length = k * sz) <| need (ys.all isCellP = true) <| match nilA x with
  | .nilS => match mem[d]? with
    | some .none => need (k ≤ big) <| kk (.vap d k sz) (mem.set d (.vec true k sz ys))
    | _ => none
  | .lit n sz' cs => match mem[d]? with
    | some .none => bif decide (sz' = sz) then need (n + k ≤ big) <| kk (.vap d (n + k) sz) (mem.set d (.vec true (n + k) sz (cs ++ ys))) else none
    | _ => none
  | .vap b n sz' => match mem[b]? with
    | some (.vec true n' sz'' cs) => bif decide (sz' = sz) && decide (sz'' = sz) then need (n' = n ∧ n + k ≤ big) <| kk (.vap b (n + k) sz) (mem.set b (.vec true (n + k) sz (cs ++ ys))) else none
    | _ => none
  | _ => none
def semCallV (d : Nat) (m : List Bk) (rv : RV) (kk : AV → List Bk → Option α) : Option α := match rv with
  | .val v => kk (.p v) (m.set d .none)
  | .own n sz cs => need (cs.all plain = true) <| kk (.vap d n sz) (m.set d (.vec true n sz cs))
def semCallO (d : Nat) (m : List Bk) (rv : RV) (kk : AV → List Bk → Option α) : Option α := match rv with
  | .val v => kk (.p v) (m.set d .none)
  | .own n sz cs => kk (.app d n sz cs) (m.set d (.buf n))
def semGrow (d : Nat) (m : List Bk) (rv : RV) (kk : AV → List Bk → Option α) : Option α := match rv with
  | .val .nilL => kk .nilS (m.set d .none)
  | .own n sz cs => kk (.app d n sz cs) (m.set d (.buf n))
  | _ => none
def semCallF (call : CallF α) (f : Nat) (ps : List PV) (d : Nat) (m : List Bk) (kk : AV → List Bk → Option α) : Option α := match m[d]? with
  | some .none => call.r f ps fun rv => match rv with
    | .val v => kk (.p v) m
    | .own n sz cs => kk (.app d n sz cs) (m.set d (.buf n))
  | _ => call.p f ps fun pv => splitP pv fun v => kk (.p v) m
theorem reach_pure (m : List Blk) (n : Nat) (cs : List PV) : (cs.map AV.p).flatMap (reachA m n) = [] := by
  apply List.flatMap_eq_nil_iff.2
  intro x hx
  obtain ⟨y, _, rfl⟩ := List.mem_map.1 hx
  cases n <;> rfl
def reachC (m : List Bk) (v : AV) : List Nat := match v with
  | .loc b o => match m[b]? with
    | some (.pcs _ _) => [b]
    | _ => reachA (xm m) 7 (.loc b o)
  | .msl b o n sz => match m[b]? with
    | some (.pcs _ _) => [b]
    | _ => reachA (xm m) 7 (.msl b o n sz)
  | v => reachA (xm m) 7 v
theorem reachC_eq (m : List Bk) (v : AV) : reachC m v = reachA (xm m) 7 v := by
  unfold reachC
  split
  · split
    · rename_i b o _ wr cs hb
      have hb' : (xm m)[b]? = some (.cells wr (cs.map .p)) := by rw [xm_get, hb]; rfl
      rw [reachA]
      simp only [hb', reach_pure]
    · rfl
  · split
    · rename_i b o n sz _ wr cs hb
      have hb' : (xm m)[b]? = some (.cells wr (cs.map .p)) := by rw [xm_get, hb]; rfl
      rw [reachA]
      simp only [hb', reach_pure]
    · rfl
  · rfl
def reachQ (m : List Bk) (v : AV) : List Nat := match v with
  | .loc b o => match m[b]? with
    | some (.pcs _ _) => [b]
    | _ => reachA (xm m) deep (.loc b o)
  | .msl b o n sz => match m[b]? with
    | some (.pcs _ _) => [b]
    | _ => reachA (xm m) deep (.msl b o n sz)
  | .agg cs => cs.flatMap (reachC m)
  | v => reachA (xm m) deep v
theorem reachQ_eq (m : List Bk) (v : AV) : reachQ m v = reachA (xm m) deep v := by
  unfold reachQ
  split
  · split
    · rename_i b o _ wr cs hb
      have hb' : (xm m)[b]? = some (.cells wr (cs.map .p)) := by rw [xm_get, hb]; rfl
      unfold deep
      rw [reachA]
      simp only [hb', reach_pure]
    · rfl
  · split
    · rename_i b o n sz _ wr cs hb
      have hb' : (xm m)[b]? = some (.cells wr (cs.map .p)) := by rw [xm_get, hb]; rfl
      unfold deep
      rw [reachA]
      simp only [hb', reach_pure]
    · rfl
  · rename_i cs
    unfold deep
    rw [reachA]
    rw [show reachC m = reachA (xm m) 7 from funext (reachC_eq m)]
  · rfl
def giveC (m : List Bk) (v : AV) (f : PV → Option α) : Option α := match v with
  | .msl b o len sz => match m[b]? with
    | some (.pcs false cs) => need (o + len * sz ≤ cs.length) <| f (.list len ((cs.drop o).take (len * sz)))
    | _ => bindO (giveA (xm m) 7 (.msl b o len sz)) f
  | .vap b n _ => match m[b]? with
    | some (.vec false n' _ cs) => need (n' = n) <| f (.list n cs)
    | _ => none
  | v => match giveA (xm m) 7 v with
    | some x => f x
    | none => none
def givesC (m : List Bk) : List AV → (List PV → Option α) → Option α
  | [], f => f []
  | v :: vs, f => giveC m v fun x => givesC m vs fun xs => f (x :: xs)
def giveQ (m : List Bk) (v : AV) (f : PV → Option α) : Option α := match v with
  | .msl b o len sz => match m[b]? with
    | some (.pcs false cs) => need (o + len * sz ≤ cs.length) <| f (.list len ((cs.drop o).take (len * sz)))
    | _ => bindO (giveA (xm m) deep (.msl b o len sz)) f
  | .loc b o => match m[b]? with
    | some (.pcs false cs) => f (.imm cs o)
    | _ => bindO (giveA (xm m) deep (.loc b o)) f
  | .vap b n _ => match m[b]? with
    | some (.vec false n' _ cs) => need (n' = n) <| f (.list n cs)
    | _ => none
  | .agg cs => givesC m cs fun xs => f (.agg xs)
  | v => match giveA (xm m) deep v with
    | some x => f x
    | none => none
theorem give_foldr (g : AV → Option PV) (hg : ∀ v, g (.p v) = some v) : ∀ (cs : List PV), (cs.map AV.p).foldr (fun x r => match g x, r with
      | some y, some ys => some (y :: ys)
      | _, _ => none) (some []) = some cs
  | [] => rfl
  | c :: cs => by simp only [List.map_cons, List.foldr_cons, give_foldr g hg cs, hg]
theorem giveC_some {m : List Bk} {v : AV} {f : PV → Option α} {r : α} (h : giveC m v f = some r) : ∃ x, giveA (xm m) 7 v = some x ∧ f x = some r := by
  have hp : ∀ v, giveA (xm m) 6 (.p v) = some v := fun v => by simp [giveA, pureA]
  unfold giveC at h
  split at h
  · split at h
    · rename_i b o len sz _ cs hb
      obtain ⟨h0, h⟩ := need_some h
      refine ⟨_, ?_, h⟩
      have hb' : (xm m)[b]? = some (.cells false (cs.map .p)) := by rw [xm_get, hb]; rfl
      rw [giveA]
      simp only [hb']
      erw [give_foldr _ hp]
      simp only [sub, if_pos h0, Option.map_some]
    · exact bindO_some h
  · rename_i b n sz
    split at h <;> try (cases h; done)
    rename_i n' s cs hb
    obtain ⟨hn, h⟩ := need_some h
    refine ⟨_, ?_, h⟩
    have hb' : (xm m)[b]? = some (.vec false n' s cs) := by rw [xm_get, hb]; rfl
    rw [giveA]
    simp only [hb', if_pos hn]
  · split at h <;> try (cases h; done)
    rename_i x hx
    exact ⟨x, hx, h⟩
theorem givesC_some {m : List Bk} : ∀ {vs : List AV} {f : List PV → Option α} {r : α}, givesC m vs f = some r → ∃ xs, giveAs (xm m) 7 vs = some xs ∧ f xs = some r
  | [], f, r, h => ⟨[], rfl, h⟩
  | v :: vs, f, r, h => by
    simp only [givesC] at h
    obtain ⟨x, h1, h2⟩ := giveC_some h
    obtain ⟨xs, h3, h4⟩ := givesC_some h2
    refine ⟨x :: xs, ?_, h4⟩
    unfold giveAs at h3 ⊢
    simp only [List.foldr_cons, h1, h3]
theorem giveQ_some {m : List Bk} {v : AV} {f : PV → Option α} {r : α} (h : giveQ m v f = some r) : ∃ x, giveA (xm m) deep v = some x ∧ f x = some r := by
  have hp : ∀ v, giveA (xm m) 7 (.p v) = some v := fun v => by simp [giveA, pureA]
  unfold giveQ at h
  split at h
  · split at h
    · rename_i b o len sz _ cs hb
      obtain ⟨h0, h⟩ := need_some h
      refine ⟨_, ?_, h⟩
      have hb' : (xm m)[b]? = some (.cells false (cs.map .p)) := by rw [xm_get, hb]; rfl
      unfold deep
      rw [giveA]
      simp only [hb']
      erw [give_foldr _ hp]
      simp only [sub, if_pos h0, Option.map_some]
    · exact bindO_some h
  · split at h
    · rename_i b o _ cs hb
      refine ⟨_, ?_, h⟩
      have hb' : (xm m)[b]? = some (.cells false (cs.map .p)) := by rw [xm_get, hb]; rfl
      unfold deep
      rw [giveA]
      simp only [hb']
      erw [give_foldr _ hp]
      rfl
    · exact bindO_some h
  · rename_i b n sz
    split at h <;> try (cases h; done)
    rename_i n' s cs hb
    obtain ⟨hn, h⟩ := need_some h
    refine ⟨_, ?_, h⟩
    have hb' : (xm m)[b]? = some (.vec false n' s cs) := by rw [xm_get, hb]; rfl
    unfold deep
    rw [giveA]
    simp only [hb', if_pos hn]
  · rename_i cs
    obtain ⟨xs, h1, h2⟩ := givesC_some h
    refine ⟨.agg xs, ?_, h2⟩
    unfold deep
    rw [giveA]
    unfold giveAs at h1
    simp only [h1, Option.map_some]
  · split at h <;> try (cases h; done)
    rename_i x hx
    exact ⟨x, hx, h⟩
def givesQ (m : List Bk) : List AV → (List PV → Option α) → Option α
  | [], f => f []
  | v :: vs, f => giveQ m v fun x => givesQ m vs fun xs => f (x :: xs)
theorem givesQ_some {m : List Bk} : ∀ {vs : List AV} {f : List PV → Option α} {r : α}, givesQ m vs f = some r → ∃ xs, giveAs (xm m) deep vs = some xs ∧ f xs = some r
  | [], f, r, h => ⟨[], rfl, h⟩
  | v :: vs, f, r, h => by
    simp only [givesQ] at h
    obtain ⟨x, h1, h2⟩ := giveQ_some h
    obtain ⟨xs, h3, h4⟩ := givesQ_some h2
    refine ⟨x :: xs, ?_, h4⟩
    unfold giveAs at h3 ⊢
    simp only [List.foldr_cons, h1, h3]
def overO (cs : List PV) (o : Nat) (ps : List PV) : Option (List PV) := if o + ps.length ≤ cs.length then some (over cs o ps) else none
def semSt (sz b o : Nat) (v : AV) (m : List Bk) (kk : AV → List Bk → Option α) : Option α := match m[b]? with
  | some (.cells true cs) => bif decide ((cellsOf v).length = sz) && (cellsOf v).all isCell then need (o + sz ≤ cs.length) <| kk .undef (m.set b (.cells true (over cs o (cellsOf v)))) else none
  | some (.pcs true cs) => match ps? (cellsOf v) with
    | some ps => bif decide (ps.length = sz) && ps.all plain then bindO (overO cs o ps) fun cs' => kk .undef (m.set b (.pcs true cs')) else none
    | none => none
  | _ => none
def semStV (sz b n o : Nat) (v : AV) (m : List Bk) (kk : AV → List Bk → Option α) : Option α := match m[b]? with
  | some (.vec true n' s cs) => match ps? (cellsOf v) with
    | some ps => bif decide (ps.length = sz) && ps.all isCellP then need (n' = n) <| bindO (overO cs o ps) fun cs' => kk .undef (m.set b (.vec true n s cs')) else none
    | none => none
  | _ => none
def renBq (σ : Nat → Option Nat) : Bk → Option Bk
  | .cells w cs => match rens σ cs with | some ws => some (.cells w ws) | Option.none => Option.none
  | .log _ _ _ _ => Option.none
  | b => some b
def renBqs (σ : Nat → Option Nat) : List Bk → Option (List Bk)
  | [] => some []
  | b :: bs => match renBq σ b, renBqs σ bs with
    | some x, some xs => some (x :: xs)
    | _, _ => Option.none
theorem rens_pure (σ : Nat → Option Nat) : ∀ (cs : List PV), rens σ (cs.map .p) = some (cs.map .p)
  | [] => rfl
  | c :: cs => by simp [rens, ren, rens_pure σ cs]
theorem renBq_x {σ : Nat → Option Nat} {b b' : Bk} (h : renBq σ b = some b') : renB σ b.x = some b'.x := by
  cases b <;> simp only [renBq] at h
  · simp at h; subst h; rfl
  · split at h <;> try (cases h; done)
    rename_i hr
    simp at h; subst h
    simp only [Bk.x, renB, hr]
  · simp at h; subst h; rfl
  · simp at h; subst h
    simp only [Bk.x, renB, rens_pure]
  · cases h
  · simp at h; subst h; rfl
theorem renBqs_x {σ : Nat → Option Nat} : ∀ {bs bs' : List Bk}, renBqs σ bs = some bs' → renBs σ (xm bs) = some (xm bs')
  | [], bs', h => by simp [renBqs] at h; subst h; rfl
  | b :: bs, bs', h => by
    simp only [renBqs] at h
    split at h <;> try (cases h; done)
    rename_i x xs h1 h2
    simp at h; subst h
    show renBs σ (b.x :: xm bs) = some (x.x :: xm xs)
    simp only [renBs, renBq_x h1, renBqs_x h2]
def reachLq (m : List Bk) : Nat → AV → List Nat
  | 0, _ => []
  | n + 1, v => match v with
    | .loc b _ => b :: (match m[b]? with
      | some (.cells _ cs) => cs.flatMap (reachLq m n)
      | _ => [])
    | .msl b _ _ _ => b :: (match m[b]? with
      | some (.cells _ cs) => cs.flatMap (reachLq m n)
      | _ => [])
    | .agg cs => cs.flatMap (reachLq m n)
    | .clo _ cs => cs.flatMap (reachLq m n)
    | .vap b _ _ => [b]
    | .vlc b _ _ => [b]
    | .app b _ _ _ => [b]
    | _ => []
theorem reachL_pure (m : List Blk) : ∀ (n : Nat) (cs : List PV), (cs.map AV.p).flatMap (reachL m n) = []
  | n, [] => rfl
  | n, c :: cs => by
    have : reachL m n (.p c) = [] := by cases n <;> rfl
    simp only [List.map_cons, List.flatMap_cons, this, List.nil_append]
    exact reachL_pure m n cs
theorem reachLq_x (m : List Bk) : ∀ (n : Nat), reachLq m n = reachL (xm m) n
  | 0 => by funext v; rfl
  | n + 1 => by
    have ih := reachLq_x m n
    funext v
    have blk : ∀ b : Nat, (match m[b]? with | some (.cells _ cs) => cs.flatMap (reachLq m n) | _ => []) = (match (xm m)[b]? with | some (.cells _ cs) => cs.flatMap (reachL (xm m) n) | _ => []) := by
      intro b
      rw [xm_get, ih]
      cases m[b]? with
      | none => rfl
      | some x => cases x <;> first | rfl | (simp only [Option.map_some, Bk.x, reachL_pure])
    cases v <;> simp only [reachLq, reachL] <;> first | rfl | (rw [blk]; done) | (rw [blk]; rfl) | rw [ih]
def getAllQ (m : List Bk) : List Nat → Option (List Bk)
  | [] => some []
  | b :: bs => match m[b]?, getAllQ m bs with
    | some x, some xs => some (x :: xs)
    | _, _ => Option.none
theorem getAllQ_x {m : List Bk} : ∀ {bs : List Nat} {xs : List Bk}, getAllQ m bs = some xs → getAll (xm m) bs = some (xm xs)
  | [], xs, h => by simp [getAllQ] at h; subst h; rfl
  | b :: bs, xs, h => by
    simp only [getAllQ] at h
    split at h <;> try (cases h; done)
    rename_i x ys h1 h2
    simp at h; subst h
    simp only [getAll, xm_get, h1, getAllQ_x h2, Option.map_some]
    rfl
def setAllQ (m : List Bk) : List Nat → List Bk → List Bk
  | b :: bs, x :: xs => setAllQ (m.set b x) bs xs
  | _, _ => m
theorem setAllQ_x : ∀ (bs : List Nat) (xs m : List Bk), xm (setAllQ m bs xs) = setAll (xm m) bs (xm xs)
  | [], xs, m => by cases xs <;> rfl
  | b :: bs, [], m => rfl
  | b :: bs, x :: xs, m => by
    show xm (setAllQ (m.set b x) bs xs) = setAll ((xm m).set b x.x) bs (xm xs)
    rw [setAllQ_x bs xs (m.set b x), xm_set]
def takeBackQ (d : Nat) (bs : List Nat) (m : List Bk) (v : AV) (ms : List Bk) : Option (AV × List Bk) :=
  bif ms.length == bs.length then
    match ren (fun i => bs[i]?) v, renBqs (fun i => bs[i]?) ms with
    | some v', some ns => some (v', setAllQ m bs ns)
    | _, _ => Option.none
  else bif ms.length == bs.length + 1 then
    match m[d]? with
    | some .none => bif bs.contains d then Option.none else
      match ren (fun i => (bs ++ [d])[i]?) v, renBqs (fun i => (bs ++ [d])[i]?) ms with
      | some v', some ns => some (v', setAllQ m (bs ++ [d]) ns)
      | _, _ => Option.none
    | _ => Option.none
  else Option.none
theorem takeBackQ_x {d : Nat} {bs : List Nat} {m ms m' : List Bk} {v v' : AV} (h : takeBackQ d bs m v ms = some (v', m')) : takeBack d bs (xm m) v (xm ms) = some (v', xm m') := by
  have hl : (xm ms).length = ms.length := by simp [xm]
  unfold takeBackQ at h
  unfold takeBack
  rw [hl]
  cases h1 : ms.length == bs.length with
  | true =>
    rw [h1] at h
    simp only [cond_true] at h
    rw [if_pos (by simpa using h1)]
    split at h <;> try (cases h; done)
    rename_i w ns hw hns
    simp at h
    obtain ⟨rfl, rfl⟩ := h
    simp only [hw, renBqs_x hns, setAllQ_x]
  | false =>
    rw [h1] at h
    simp only [cond_false] at h
    rw [if_neg (by simpa using h1)]
    cases h2 : ms.length == bs.length + 1 with
    | false => rw [h2] at h; cases h
    | true =>
      rw [h2] at h
      simp only [cond_true] at h
      rw [if_pos (by simpa using h2)]
      split at h <;> try (cases h; done)
      rename_i hd
      have hd' : (xm m)[d]? = some .none := by rw [xm_get, hd]; rfl
      simp only [hd']
      cases h3 : bs.contains d with
      | true => rw [h3] at h; cases h
      | false =>
        rw [h3] at h
        simp only [cond_false] at h
        simp only [Bool.false_eq_true, if_false]
        split at h <;> try (cases h; done)
        rename_i w ns hw hns
        simp at h
        obtain ⟨rfl, rfl⟩ := h
        simp only [hw, renBqs_x hns, setAllQ_x]
def semLend (call : Nat → List AV → List Bk → (AV → List Bk → Option α) → Option α) (d : Nat) (vs : List AV) (m : List Bk) (kk : AV → List Bk → Option α) : Option α := match m[(0 : Nat)]? with
  | some (.log _ _ _ _) => none
  | _ => match vs with
    | fv :: vs => match funOf fv with
      | some (f, caps) => match rens (placeOf (dedup ((vs ++ caps).flatMap (reachLq m deep)))) (vs ++ caps), getAllQ m (dedup ((vs ++ caps).flatMap (reachLq m deep))) with
        | some as', some ms0 => match renBqs (placeOf (dedup ((vs ++ caps).flatMap (reachLq m deep)))) ms0 with
          | some ms => call f as' ms fun v ms' => match takeBackQ d (dedup ((vs ++ caps).flatMap (reachLq m deep))) m v ms' with
            | some (v', m') => kk v' m'
            | none => none
          | none => none
        | _, _ => none
      | none => none
    | [] => none
theorem semLend_some {call : Nat → List AV → List Bk → (AV → List Bk → Option α) → Option α} {rn : CallT} (hc : ∀ f as ms kk r, call f as ms kk = some r → ∃ v ms', rn.ln f as (xm ms) = some (v, xm ms') ∧ kk v ms' = some r)
    {d : Nat} {vs : List AV} {m : List Bk} {kk : AV → List Bk → Option α} {r : α} (h : semLend call d vs m kk = some r) : ∃ v m', lendB rn d vs (xm m) = some (v, xm m') ∧ kk v m' = some r := by
  unfold semLend at h
  split at h
  · cases h
  · rename_i hlog
    split at h <;> try (cases h; done)
    split at h <;> try (cases h; done)
    rename_i f caps hf
    split at h <;> try (cases h; done)
    rename_i as' ms0 h1 h2
    split at h <;> try (cases h; done)
    rename_i ms h3
    obtain ⟨v, ms', h4, h5⟩ := hc _ _ _ _ _ h
    split at h5 <;> try (cases h5; done)
    rename_i v' m' h6
    refine ⟨v', m', ?_, h5⟩
    rw [reachLq_x] at h1 h2 h3 h6
    unfold lendB
    split
    · rename_i hl
      rw [xm_get] at hl
      cases hm : m[(0 : Nat)]? with
      | none => rw [hm] at hl; cases hl
      | some x =>
        rw [hm] at hl
        cases x <;> simp [Bk.x] at hl
        exact absurd hm (hlog _ _ _ _)
    · simp only [hf, h1, getAllQ_x h2, renBqs_x h3, h4, takeBackQ_x h6]
def semK (call : CallF α) (sh : Option (List CK)) (k : K) (vs : List AV) (m : List Bk) (kk : AV → List Bk → Option α) : Option α :=
  match k with
  | .ld av sz ag => match vs with
    | [x] => semLd sh av sz ag x m fun v => kk v m
    | _ => none
  | .a d k => match m[d]? with
    | some .none => match k, vs with
      | .callO, .p (.fn f caps) :: vs => match pureAs vs with
        | some ps => call.r f (ps ++ caps) fun rv => semCallO d m rv kk
        | none => none
      | .callG, [.p (.fn f []), .nilS, .p (.int k n)] => call.r f [.nilL, .int k n] fun rv => semGrow d m rv kk
      | .callV, .p (.fn f caps) :: vs => match pureAs vs with
        | some ps => call.r f (ps ++ caps) fun rv => semCallV d m rv kk
        | none => none
      | .bslO sz, [] => kk (.app d 0 sz []) (m.set d (.buf 0))
      | .grow sz, [.p .nilL, .p (.int .i64 n)] => bif decide (n = 0) then kk (.p .nilL) (m.set d .none) else need (0 < n ∧ n ≤ big) <| kk (.app d 0 sz []) (m.set d (.buf 0))
      | .mkS sz z, [.p (.int _ n), .p (.int _ c)] => need (n = c ∧ 0 ≤ n ∧ n ≤ big) <| bif z.all plain then kk (.msl d 0 n.toNat sz) (m.set d (.pcs true (rep z n.toNat))) else kk (.msl d 0 n.toNat sz) (m.set d (.cells true ((rep z n.toNat).map .p)))
      | .alloc z, [] => kk (.loc d 0) (m.set d (mkB z))
      | .box, [v] => bif (cellsOf v).all isCell then kk (.loc d 0) (m.set d (mkB (cellsOf v))) else none
      | _, _ => none
    | _ => none
  | .s (.callF d) => givesQ (lockQ m (vs.flatMap (reachQ m))) vs fun ps => match ps with
    | .fn f caps :: ps => semCallF call f (ps ++ caps) d (lockQ m (vs.flatMap (reachQ m))) kk
    | _ => none
  | .s (.callB d) => semLend call.l d vs m kk
  | .s (.store sz) => match vs with
    | [.loc b o, v] => semSt sz b o v m kk
    | [.vlc b n o, v] => semStV sz b n o v m kk
    | _ => none
  | .s (.storeB d sz) => match vs with
    | [.loc b o, v] => bif b == d then semSt sz b o v m kk else none
    | [.vlc b n o, v] => bif b == d then semStV sz b n o v m kk else none
    | _ => none
  | .s (.appendV d sz) => match vs with
    | [x, y] => match asList y with
      | some (n, ys) => semAppV d sz x n ys m kk
      | none => none
    | _ => none
  | .s (.append d sz) => match vs with
    | [x, y] => match asList y with
      | some (n, ys) => semApp d sz x n ys m kk
      | none => none
    | _ => none
  | .s (.appendB d sz) => match vs with
    | [x, y] => bif atB d x then (match asList y with
      | some (n, ys) => semApp d sz x n ys m kk
      | none => none) else none
    | _ => none
  | .s (.bslF n sz z pl) => givesQ (lockQ m (vs.flatMap (reachQ m))) vs fun ps => match layP sz (rep z n) pl ps with
    | some cs => kk (.lit n sz cs) (lockQ m (vs.flatMap (reachQ m)))
    | none => none
  | .s .yld => match vs with
    | .yv :: vs => match m[(0 : Nat)]? with
      | some (.log sh k n cs) => match pureAs vs with
        | some ps => need (n ≤ k) <| bif shapeOK sh ps then bif n != k then kk (.p (.bool true)) (m.set 0 (.log sh k (n + 1) (cs ++ ps.flatMap pcells))) else kk (.p (.bool false)) (m.set 0 (.log sh k (n + 1) (cs ++ ps.flatMap pcells))) else none
        | none => none
      | _ => none
    | _ => none
  | .s (.told _ _) => none
  | .l k => match k, vs with
    | .iadr sz arr, [x, .p (.int _ i)] => semIadr sz arr x i fun v => kk v m
    | .bin .quo _, [.p (.int k a), .p (.int k' b)] => bif decide (k = k') then need (b ≠ 0) <| kk (.p (.int k (k.wrap (a.tdiv b)))) m else none
    | .bin .rem _, [.p (.int k a), .p (.int k' b)] => bif decide (k = k') then need (b ≠ 0) <| kk (.p (.int k (a.tmod b))) m else none
    | .bin .shl _, [.p (.int k a), .p (.int _ b)] => need (0 ≤ b) <| kk (.p (.int k (k.wrap (a * 2 ^ (Nat.min b.toNat k.bits))))) m
    | .bin .shr _, [.p (.int k a), .p (.int _ b)] => need (0 ≤ b) <| kk (.p (.int k (a.fdiv (2 ^ (Nat.min b.toNat k.bits))))) m
    | .bin .eql 3, [.p (.list n _), .nilS] => need (n ≠ 0) <| kk (.p (.bool false)) m
    | .bin .neq 3, [.p (.list n _), .nilS] => need (n ≠ 0) <| kk (.p (.bool true)) m
    | .slc sz arr lo hi, x :: bs => match lenA arr x with
      | some n => semBnds lo hi bs n fun l h => semSlc sz x l h fun v => kk v m
      | none => none
    | .sslc lo hi, .p (.str s) :: bs => semBnds lo hi bs s.size fun l h => kk (.p (.str (s.extract l h))) m
    | .sidx, [.p (.str s), .p (.int _ i)] => need (0 ≤ i) <| bindO (s[i.toNat]?) fun b => kk (.p (.int .u8 b.toNat)) m
    | .idx sz n ag, [.p (.agg cs), .p (.int _ i)] => need (0 ≤ i ∧ i < n) <| match sh with
      | some ks => rd ks sz ag (fun o => cs[o]?) (i.toNat * sz) fun v => kk v m
      | none => splitA (if ag then (sub cs (i.toNat * sz) sz).map fun ws => AV.p (.agg ws) else (cs[i.toNat * sz]?).map .p) fun v => kk v m
    | .call, .p (.fn f caps) :: vs => match pureAs vs with
      | some ps => call.p f (ps ++ caps) fun pv => splitP pv fun v => kk (.p v) m
      | none => none
    | k, vs => splitA (runL noCall k vs) fun v => kk v m
structure CallFOK (call : CallF α) (run : CallT) : Prop where
  p : ∀ f args kk r, call.p f args kk = some r → ∃ rv, run f args = some rv ∧ kk rv.pv = some r
  r : ∀ f args kk r, call.r f args kk = some r → ∃ rv, run f args = some rv ∧ kk rv = some r
  l : ∀ f as ms kk r, call.l f as ms kk = some r → ∃ v ms', run.ln f as (xm ms) = some (v, xm ms') ∧ kk v ms' = some r
theorem rd_some {ks : List CK} {sz : Nat} {ag : Bool} {cs : List PV} {o : Nat} {f : AV → Option α} {r : α} (h : rd ks sz ag (fun o => cs[o]?) o f = some r) :
    ∃ w, (if ag then (sub cs o sz).map PV.agg else cs[o]?) = some w ∧ f (.p w) = some r := by
  unfold rd at h
  by_cases hc : ks.length = sz ∧ 0 < sz
  · obtain ⟨hc, hz⟩ := hc
    subst hc
    simp [hz] at h
    obtain ⟨ws, h1, h2, h3⟩ := readCs_some h
    have hs : sub cs o ws.length = some ws := sub_of_read (by rw [h1]; exact h2) (by omega)
    rw [h1] at hs
    unfold fin1 at h3
    split at h3
    · exact ⟨_, by simp [hs], h3⟩
    · rename_i w _
      refine ⟨_, ?_, h3⟩
      have := h2 0 hz
      simpa using this
    · cases h3
  · rw [show (decide (ks.length = sz) && decide (0 < sz)) = false by rw [← Bool.not_eq_true]; simpa using hc] at h
    cases h
theorem sub_map {cs ws : List PV} {o n : Nat} (h : sub cs o n = some ws) : sub (cs.map AV.p) o n = some (ws.map .p) := by
  unfold sub at h ⊢
  split at h
  · simp at h
    subst h
    simp [List.map_take, List.map_drop, *]
  · cases h
theorem semLd_some {sh : Option (List CK)} {av : List Nat} {sz : Nat} {ag : Bool} {x : AV} {m : List Bk} {kk : AV → Option α} {r : α} (h : semLd sh av sz ag x m kk = some r) :
    ∃ v, runDV sz ag [x] av (xm m) = some v ∧ kk v = some r := by
  unfold semLd at h
  split at h
  · obtain ⟨w, h1, h2⟩ := rd_some h
    refine ⟨_, ?_, h2⟩
    cases ag with
    | true =>
      simp only [if_true, Option.map_eq_some_iff] at h1
      obtain ⟨ws, h1, rfl⟩ := h1
      simp [runDV, runD, h1]
    | false => simp [runDV, runD] at h1 ⊢; simp [h1]
  · rename_i ks b o
    cases hav : av.contains b with
    | true => rw [hav] at h; cases h
    | false =>
      rw [hav] at h
      simp only [cond_false] at h
      split at h
      · rename_i wr cs hb
        obtain ⟨w, h1, h2⟩ := rd_some h
        refine ⟨_, ?_, h2⟩
        have hl : lookB av (xm m) b = some (cs.map .p) := by simp only [lookB, hav, xm_get, hb]; rfl
        cases ag with
        | true =>
          simp only [if_true, Option.map_eq_some_iff] at h1
          obtain ⟨ws, h1, rfl⟩ := h1
          simp [runDV, runD, hl, sub_map h1, mkAgg, ps_map]
        | false => simp [runDV, runD, hl] at h1 ⊢; exact h1
      · exact splitA_some h
      · cases h
  · rename_i ks b n o
    cases hav : av.contains b with
    | true => rw [hav] at h; cases h
    | false =>
      rw [hav] at h
      simp only [cond_false] at h
      split at h <;> try (cases h; done)
      rename_i wr n' s cs hb
      obtain ⟨hn, h3⟩ := need_some h
      clear h
      subst hn
      obtain ⟨w, h1, h2⟩ := rd_some h3
      refine ⟨_, ?_, h2⟩
      have hb' : (xm m)[b]? = some (.vec wr n' s cs) := by rw [xm_get, hb]; rfl
      cases ag with
      | true =>
        simp only [if_true, Option.map_eq_some_iff] at h1
        obtain ⟨ws, h1, rfl⟩ := h1
        simp [runDV, runV, hb', h1]
        intro hx; simp [hx] at hav
      | false =>
        simp at h1
        simp [runDV, runV, hb', h1]
        intro hx; simp [hx] at hav
  · exact splitA_some h
theorem runL_any {rn : CallT} {k : KL} {vs : List AV} {v : AV} (h : runL noCall k vs = some v) : runL rn k vs = some v :=
  runL_mono ⟨fun _ _ _ h => (by cases h), fun _ _ _ _ h => (by cases h)⟩ h
theorem semSt_some {sz b o : Nat} {v : AV} {m : List Bk} {kk : AV → List Bk → Option α} {r : α} (h : semSt sz b o v m kk = some r) : ∃ v' m', storeA sz b o v (xm m) = some (v', xm m') ∧ kk v' m' = some r := by
  unfold semSt at h
  split at h
  · rename_i cs hb
    have hb' : (xm m)[b]? = some (.cells true cs) := by rw [xm_get, hb]; rfl
    obtain ⟨h0, h⟩ : _ ∧ _ := by
      rw [cond_eq_ite] at h
      split at h
      · rename_i hx; exact ⟨hx, h⟩
      · cases h
    obtain ⟨h1, h⟩ := need_some h
    simp only [Bool.and_eq_true, decide_eq_true_eq] at h0
    exact ⟨_, _, by simp only [storeA, hb', if_pos (And.intro h0.1 (And.intro h1 h0.2)), xm_set, Bk.x], h⟩
  · rename_i cs hb
    have hb' : (xm m)[b]? = some (.cells true (cs.map .p)) := by rw [xm_get, hb]; rfl
    split at h <;> try (cases h; done)
    rename_i ps hps
    obtain ⟨h0, h⟩ : _ ∧ _ := by
      rw [cond_eq_ite] at h
      split at h
      · rename_i hx; exact ⟨hx, h⟩
      · cases h
    obtain ⟨cs', h1, h⟩ := bindO_some h
    simp only [Bool.and_eq_true, decide_eq_true_eq] at h0
    obtain ⟨hle, rfl⟩ : o + sz ≤ cs.length ∧ over cs o ps = cs' := by
      unfold overO at h1
      split at h1
      · rename_i hx; cases h1; exact ⟨by rw [← h0.1]; exact hx, rfl⟩
      · cases h1
    have hcv := ps_some hps
    have hlen : (cellsOf v).length = sz := by rw [hcv]; simpa using h0.1
    have hall : (cellsOf v).all isCell = true := by
      rw [hcv, List.all_eq_true]
      intro x hx
      obtain ⟨y, hy, rfl⟩ := List.mem_map.1 hx
      have := List.all_eq_true.1 h0.2 y hy
      cases y <;> simp [plain] at this <;> rfl
    refine ⟨_, _, ?_, h⟩
    simp only [storeA, hb', List.length_map, if_pos (And.intro hlen (And.intro hle hall)), xm_set, Bk.x, over_map]
    rw [← hcv]
  · cases h
theorem semStV_some {sz b n o : Nat} {v : AV} {m : List Bk} {kk : AV → List Bk → Option α} {r : α} (h : semStV sz b n o v m kk = some r) : ∃ v' m', storeV sz b n o v (xm m) = some (v', xm m') ∧ kk v' m' = some r := by
  unfold semStV at h
  split at h <;> try (cases h; done)
  rename_i n' s cs hb
  have hb' : (xm m)[b]? = some (.vec true n' s cs) := by rw [xm_get, hb]; rfl
  split at h <;> try (cases h; done)
  rename_i ps hps
  obtain ⟨h0, h⟩ : _ ∧ _ := by
    rw [cond_eq_ite] at h
    split at h
    · rename_i hx; exact ⟨hx, h⟩
    · cases h
  obtain ⟨hn, h⟩ := need_some h
  subst hn
  obtain ⟨cs', h1, h⟩ := bindO_some h
  simp only [Bool.and_eq_true, decide_eq_true_eq] at h0
  obtain ⟨hle, rfl⟩ : o + sz ≤ cs.length ∧ over cs o ps = cs' := by
    unfold overO at h1
    split at h1
    · rename_i hx; cases h1; exact ⟨by rw [← h0.1]; exact hx, rfl⟩
    · cases h1
  refine ⟨_, _, ?_, h⟩
  simp only [storeV, hb', hps]
  rw [if_pos (And.intro trivial (And.intro h0.1 (And.intro hle h0.2)))]
  simp only [xm_set, Bk.x]
theorem semK_some {call : CallF α} {rn : CallT} (hc : CallFOK call rn) {sh : Option (List CK)} {k : K} {vs : List AV} {m : List Bk} {kk : AV → List Bk → Option α} {r : α} (h : semK call sh k vs m kk = some r) :
    ∃ v m', runK rn k vs (xm m) = some (v, xm m') ∧ kk v m' = some r := by
  have lift : ∀ {k : KL} {v : AV}, runL rn k vs = some v → kk v m = some r → ∃ v m', runK rn (.l k) vs (xm m) = some (v, xm m') ∧ kk v m' = some r :=
    fun h1 h2 => ⟨_, m, by simp [runK, h1], h2⟩
  unfold semK at h
  split at h
  · split at h <;> try (cases h; done)
    obtain ⟨v, h1, h2⟩ := semLd_some h
    exact ⟨v, m, by simp [runK, h1], h2⟩
  · rename_i d k
    split at h <;> try (cases h; done)
    rename_i hd
    have hd' : (xm m)[d]? = some .none := by rw [xm_get, hd]; rfl
    split at h
    · split at h <;> try (cases h; done)
      rename_i ps hps
      obtain ⟨rv, h1, h2⟩ := hc.r _ _ _ _ h
      cases rv with
      | val v => exact ⟨_, _, by simp [runK, runA, hd', hps, h1, xm_set, Bk.x], h2⟩
      | own n sz cs => exact ⟨_, _, by simp [runK, runA, hd', hps, h1, xm_set, Bk.x], h2⟩
    · obtain ⟨rv, h1, h2⟩ := hc.r _ _ _ _ h
      unfold semGrow at h2
      split at h2
      · exact ⟨_, _, by simp [runK, runA, growR, hd', h1, xm_set, Bk.x], h2⟩
      · exact ⟨_, _, by simp [runK, runA, growR, hd', h1, xm_set, Bk.x], h2⟩
      · cases h2
    · split at h <;> try (cases h; done)
      rename_i ps hps
      obtain ⟨rv, h1, h2⟩ := hc.r _ _ _ _ h
      cases rv with
      | val v => exact ⟨_, _, by simp [runK, runA, hd', hps, h1, xm_set, Bk.x], h2⟩
      | own n sz cs =>
        obtain ⟨hp, h2⟩ := need_some h2
        exact ⟨_, _, by simp only [runK, runA, hd', hps, h1, if_pos hp, Option.map_some, xm_set, Bk.x], h2⟩
    · exact ⟨_, _, by simp only [runK, runA, hd', Option.map_some]; rw [show Blk.buf 0 = Bk.x (.buf 0) from rfl, ← xm_set], h⟩
    · rename_i sz n
      by_cases h0 : n = 0
      · subst h0
        exact ⟨_, _, by simp only [runK, runA, hd', if_true, Option.map_some]; rw [show Blk.none = Bk.x .none from rfl, ← xm_set], h⟩
      · rw [show decide (n = 0) = false by simpa using h0] at h
        obtain ⟨h1, h2⟩ := need_some h
        exact ⟨_, _, by simp only [runK, runA, hd', if_neg h0, if_pos h1, Option.map_some]; rw [show Blk.buf 0 = Bk.x (.buf 0) from rfl, ← xm_set], h2⟩
    · rename_i sz z k1 n k2 c
      obtain ⟨h0, h3⟩ := need_some h
      obtain ⟨hn, h1, h2⟩ := h0
      cases hz : z.all plain with
      | true =>
        rw [hz] at h3
        exact ⟨_, _, by simp [runK, runA, hd', ← hn, h1, h2, xm_set, Bk.x], h3⟩
      | false =>
        rw [hz] at h3
        exact ⟨_, _, by simp [runK, runA, hd', ← hn, h1, h2, xm_set, Bk.x], h3⟩
    · exact ⟨_, _, by simp [runK, runA, hd', xm_set, mkB_x], h⟩
    · rename_i v
      cases ha : (cellsOf v).all isCell with
      | false => rw [ha] at h; cases h
      | true =>
        rw [ha] at h
        exact ⟨_, _, by simp only [runK, runA, hd', if_pos ha, xm_set, mkB_x]; rfl, h⟩
    · cases h
  · rename_i d
    obtain ⟨xs, hg, h⟩ := givesQ_some h
    split at h <;> try (cases h; done)
    rename_i f caps ps
    have hrq : vs.flatMap (reachQ m) = vs.flatMap (reachA (xm m) deep) := by
      congr 1
      funext v
      exact reachQ_eq m v
    rw [hrq] at hg h
    rw [lock_x] at hg
    unfold semCallF at h
    split at h
    · rename_i hd
      have hd' : (lock (xm m) (vs.flatMap (reachA (xm m) deep)))[d]? = some .none := by rw [← lock_x, xm_get, hd]; rfl
      obtain ⟨rv, h1, h2⟩ := hc.r _ _ _ _ h
      cases rv with
      | val v => exact ⟨_, _, by simp [runK, runS, hg, h1, lock_x], h2⟩
      | own n sz cs => exact ⟨_, _, by simp [runK, runS, hg, h1, hd', lock_x, xm_set, Bk.x], h2⟩
    · rename_i hd
      have hd' : ∀ (h : (lock (xm m) (vs.flatMap (reachA (xm m) deep)))[d]? = some .none), False := fun h => by
        rw [← lock_x, xm_get] at h
        cases hb : (lockQ m (vs.flatMap (reachA (xm m) deep)))[d]? with
        | none => rw [hb] at h; cases h
        | some k =>
          rw [hb] at h
          cases k <;> simp [Bk.x] at h
          exact hd hb
      obtain ⟨rv, h1, h2⟩ := hc.p _ _ _ _ h
      rw [splitP_eq] at h2
      cases rv with
      | val v => exact ⟨_, _, by simp [runK, runS, hg, h1, RV.pv, lock_x], h2⟩
      | own n sz cs =>
        refine ⟨_, _, ?_, h2⟩
        simp only [runK, runS, hg, h1, lock_x]
        rfl
  · obtain ⟨v', m', h1, h2⟩ := semLend_some hc.l h
    exact ⟨v', m', by simp only [runK, runS]; exact h1, h2⟩
  · rename_i sz
    split at h <;> try (cases h; done)
    · rename_i b o v
      obtain ⟨v', m', h1, h2⟩ := semSt_some h
      exact ⟨v', m', by simp only [runK, runS, h1], h2⟩
    · rename_i b n o v
      obtain ⟨v', m', h1, h2⟩ := semStV_some h
      exact ⟨v', m', by simp only [runK, runS, h1], h2⟩
  · rename_i d sz
    split at h <;> try (cases h; done)
    · rename_i b o v
      by_cases hb : b = d
      · subst hb
        simp only [beq_self_eq_true, cond_true] at h
        obtain ⟨v', m', h1, h2⟩ := semSt_some h
        exact ⟨v', m', by simp only [runK, runS, if_true, h1], h2⟩
      · rw [show (b == d) = false by simpa using hb] at h
        cases h
    · rename_i b n o v
      by_cases hb : b = d
      · subst hb
        simp only [beq_self_eq_true, cond_true] at h
        obtain ⟨v', m', h1, h2⟩ := semStV_some h
        exact ⟨v', m', by simp only [runK, runS, if_true, h1], h2⟩
      · rw [show (b == d) = false by simpa using hb] at h
        cases h
  · rename_i d sz
    split at h <;> try (cases h; done)
    rename_i x y
    split at h <;> try (cases h; done)
    rename_i n ys hy
    unfold semAppV at h
    by_cases hn : n = 0
    · simp [hn] at h
    · simp [hn] at h
      obtain ⟨h0, h⟩ := need_some h
      obtain ⟨h00, h⟩ := need_some h
      have h00' : ys.all isCellP = true := by simpa using h00
      obtain ⟨x', hx'⟩ : ∃ x', nilA x = x' := ⟨_, rfl⟩
      rw [hx'] at h
      split at h
      · split at h <;> try (cases h; done)
        rename_i hd
        have hd' : (xm m)[d]? = some .none := by rw [xm_get, hd]; rfl
        obtain ⟨h1, h⟩ := need_some h
        exact ⟨_, _, by simp only [runK, runS, hy, appendVA, if_neg hn, if_pos (And.intro h0 h00'), hx', hd', if_pos h1, xm_set, Bk.x], h⟩
      · split at h <;> try (cases h; done)
        rename_i hd
        have hd' : (xm m)[d]? = some .none := by rw [xm_get, hd]; rfl
        obtain ⟨h2, h⟩ := need_some h
        obtain ⟨h1, h⟩ := need_some h
        exact ⟨_, _, by simp only [runK, runS, hy, appendVA, if_neg hn, if_pos (And.intro h0 h00'), hx', hd', if_pos (And.intro h2 h1), xm_set, Bk.x], h⟩
      · split at h <;> try (cases h; done)
        rename_i hd
        obtain ⟨h2, h⟩ : _ ∧ _ := by
          rw [cond_eq_ite] at h
          split at h
          · rename_i hx; exact ⟨hx, h⟩
          · cases h
        simp only [Bool.and_eq_true, decide_eq_true_eq] at h2
        obtain ⟨h1, h⟩ := need_some h
        refine ⟨_, _, ?_, h⟩
        simp only [runK, runS, hy, appendVA, if_neg hn, if_pos (And.intro h0 h00'), hx', xm_get, hd, Option.map_some, Bk.x, if_pos (And.intro h1.1 (And.intro h2.1 (And.intro h2.2 h1.2))), xm_set]
      · cases h
  · rename_i d sz
    split at h <;> try (cases h; done)
    rename_i x y
    split at h <;> try (cases h; done)
    rename_i n ys hy
    unfold semApp at h
    by_cases hn : n = 0
    · simp [hn] at h
      split at h <;> try (cases h; done)
      rename_i q hq
      exact ⟨_, _, by simp only [runK, runS, hy, appendA, if_pos hn, hq], h⟩
    · simp [hn] at h
      obtain ⟨h0, h⟩ := need_some h
      obtain ⟨x', hx'⟩ : ∃ x', nilA x = x' := ⟨_, rfl⟩
      rw [hx'] at h
      split at h
      · split at h <;> try (cases h; done)
        rename_i hd
        have hd' : (xm m)[d]? = some .none := by rw [xm_get, hd]; rfl
        obtain ⟨h1, h⟩ := need_some h
        exact ⟨_, _, by simp only [runK, runS, hy, appendA, if_neg hn, if_pos h0, hx', hd', if_pos h1, xm_set, Bk.x], h⟩
      · split at h <;> try (cases h; done)
        rename_i hd
        have hd' : (xm m)[d]? = some .none := by rw [xm_get, hd]; rfl
        obtain ⟨h2, h⟩ := need_some h
        obtain ⟨h1, h⟩ := need_some h
        exact ⟨_, _, by simp only [runK, runS, hy, appendA, if_neg hn, if_pos h0, hx', hd', if_pos (And.intro h2 h1), xm_set, Bk.x], h⟩
      · split at h <;> try (cases h; done)
        rename_i hd
        rename_i b _ _ _ _ _ _ _
        obtain ⟨h2, h⟩ := need_some h
        obtain ⟨h1, h⟩ := need_some h
        refine ⟨_, _, ?_, h⟩
        simp only [runK, runS, hy, appendA, if_neg hn, if_pos h0, hx', xm_get, hd, Option.map_some, Bk.x, if_pos (And.intro h1.1 (And.intro h2 h1.2)), xm_set]
      · cases h
  · rename_i d sz
    split at h <;> try (cases h; done)
    rename_i x y
    cases hb : atB d x with
    | false => rw [hb] at h; cases h
    | true =>
    rw [hb] at h
    simp only [cond_true] at h
    split at h <;> try (cases h; done)
    rename_i n ys hy
    unfold semApp at h
    by_cases hn : n = 0
    · simp [hn] at h
      split at h <;> try (cases h; done)
      rename_i q hq
      exact ⟨_, _, by simp only [runK, runS, hb, if_true, hy, appendA, if_pos hn, hq], h⟩
    · simp [hn] at h
      obtain ⟨h0, h⟩ := need_some h
      obtain ⟨x', hx'⟩ : ∃ x', nilA x = x' := ⟨_, rfl⟩
      rw [hx'] at h
      split at h
      · split at h <;> try (cases h; done)
        rename_i hd
        have hd' : (xm m)[d]? = some .none := by rw [xm_get, hd]; rfl
        obtain ⟨h1, h⟩ := need_some h
        exact ⟨_, _, by simp only [runK, runS, hb, if_true, hy, appendA, if_neg hn, if_pos h0, hx', hd', if_pos h1, xm_set, Bk.x], h⟩
      · split at h <;> try (cases h; done)
        rename_i hd
        have hd' : (xm m)[d]? = some .none := by rw [xm_get, hd]; rfl
        obtain ⟨h2, h⟩ := need_some h
        obtain ⟨h1, h⟩ := need_some h
        exact ⟨_, _, by simp only [runK, runS, hb, if_true, hy, appendA, if_neg hn, if_pos h0, hx', hd', if_pos (And.intro h2 h1), xm_set, Bk.x], h⟩
      · split at h <;> try (cases h; done)
        rename_i hd
        rename_i b _ _ _ _ _ _ _
        obtain ⟨h2, h⟩ := need_some h
        obtain ⟨h1, h⟩ := need_some h
        refine ⟨_, _, ?_, h⟩
        simp only [runK, runS, hb, if_true, hy, appendA, if_neg hn, if_pos h0, hx', xm_get, hd, Option.map_some, Bk.x, if_pos (And.intro h1.1 (And.intro h2 h1.2)), xm_set]
      · cases h
  · rename_i n sz z pl
    obtain ⟨xs, hg, h⟩ := givesQ_some h
    split at h <;> try (cases h; done)
    rename_i cs hl
    have hrq : vs.flatMap (reachQ m) = vs.flatMap (reachA (xm m) deep) := by
      congr 1
      funext v
      exact reachQ_eq m v
    rw [hrq] at hg h
    rw [lock_x] at hg
    exact ⟨_, _, by simp only [runK, runS, hg, hl, Option.map_some, lock_x], h⟩
  · split at h <;> try (cases h; done)
    split at h <;> try (cases h; done)
    rename_i sh k n cs hm
    split at h <;> try (cases h; done)
    rename_i ps hps
    obtain ⟨hnk, h⟩ := need_some h
    have hm' : (xm m)[0]? = some (.log sh k n cs) := by rw [xm_get, hm]; rfl
    cases hsh : shapeOK sh ps with
    | false => rw [hsh] at h; cases h
    | true =>
      rw [hsh] at h
      simp only [cond_true] at h
      cases hk : (n != k) with
      | true =>
        rw [hk] at h
        exact ⟨_, _, by simp only [runK, runS, hm', hps, if_pos (And.intro hnk hsh), hk, xm_set, Bk.x], h⟩
      | false =>
        rw [hk] at h
        exact ⟨_, _, by simp only [runK, runS, hm', hps, if_pos (And.intro hnk hsh), hk, xm_set, Bk.x], h⟩
  · cases h
  · rename_i k
    split at h
    · rename_i sz arr x kk' i
      unfold semIadr at h
      split at h
      · obtain ⟨⟨h0, h1⟩, h⟩ := need_some h
        exact lift (by simp [runL, h0, h1]) h
      · obtain ⟨⟨h0, h1⟩, h⟩ := need_some h
        exact lift (by simp [runL, h0, h1]) h
      · obtain ⟨⟨h0, h1⟩, h⟩ := need_some h
        obtain ⟨h2, h⟩ := need_some h
        exact lift (by simp [runL, h0, h1, h2]) h
      · obtain ⟨⟨h0, h1⟩, h⟩ := need_some h
        obtain ⟨h2, h⟩ := need_some h
        exact lift (by simp [runL, h0, h1, h2]) h
      · rename_i hne hne2
        split at h <;> try (cases h; done)
        rename_i n cs hl
        obtain ⟨⟨h0, h1⟩, h⟩ := need_some h
        refine lift ?_ h
        cases x <;> first | (exact absurd rfl (hne _ _ _ _)) | (exact absurd rfl (hne2 _ _ _)) | (simp [runL, h0, hl, h1]; done) | (simp [asList] at hl; done)
      · cases h
    · obtain ⟨hk, h⟩ := need_some h
      obtain ⟨hb, h2⟩ := need_some h
      exact lift (by simp [runL, binA, iop, hk, hb]) (hk ▸ h2)
    · obtain ⟨hk, h⟩ := need_some h
      obtain ⟨hb, h2⟩ := need_some h
      exact lift (by simp [runL, binA, iop, hk, hb]) (hk ▸ h2)
    · obtain ⟨hb, h2⟩ := need_some h
      have hb' : ¬ (_ : Int) < 0 := Int.not_lt.2 hb
      exact lift (by simp [runL, binA, shop, hb']) h2
    · obtain ⟨hb, h2⟩ := need_some h
      have hb' : ¬ (_ : Int) < 0 := Int.not_lt.2 hb
      exact lift (by simp [runL, binA, shop, hb']) h2
    · obtain ⟨hn, h2⟩ := need_some h
      exact lift (by simp [runL, binA, eqNil, hn]) h2
    · obtain ⟨hn, h2⟩ := need_some h
      exact lift (by simp [runL, binA, eqNil, hn]) h2
    · rename_i sz arr lo hi x bs
      split at h <;> try (cases h; done)
      rename_i n hn
      have key : ∃ l h', bnds lo hi bs n = some (l, h') ∧ semSlc sz x l h' (fun v => kk v m) = some r := by
        unfold semBnds at h
        split at h
        · exact ⟨_, _, rfl, h⟩
        · obtain ⟨h0, h⟩ := need_some h; exact ⟨_, _, by simp [bnds, h0], h⟩
        · obtain ⟨h0, h⟩ := need_some h; exact ⟨_, _, by simp [bnds, h0], h⟩
        · obtain ⟨h0, h⟩ := need_some h; exact ⟨_, _, by simp [bnds, h0], h⟩
        · cases h
      obtain ⟨l, h', hb, h⟩ := key
      have fin : ∀ v, slcA sz x l h' = some v → kk v m = some r → ∃ v m', runK rn (.l (.slc sz arr lo hi)) (x :: bs) (xm m) = some (v, xm m') ∧ kk v m' = some r := by
        intro v hv hk
        exact ⟨v, m, by simp [runK, runL, hn, hb, hv], hk⟩
      unfold semSlc at h
      split at h
      · by_cases hl : l = h'
        · simp [hl] at h; exact fin _ (by simp [slcA, hl]) h
        · simp [hl] at h; exact fin _ (by simp [slcA, hl]) h
      · rename_i cs o _
        obtain ⟨h0, h⟩ := need_some h
        by_cases hl : l = h'
        · subst hl; simp at h; exact fin _ (by simp [slcA]) h
        · have hs : o + l * sz + (h' - l) * sz ≤ cs.length := by rcases h0 with h0 | h0; exact absurd h0 hl; exact h0
          exact fin _ (by simp [slcA, hl, sub, hs]) h
      · by_cases hl : l = h'
        · simp [hl] at h; exact fin _ (by simp [slcA, hl]) h
        · simp only [hl, decide_false, cond_false] at h
          obtain ⟨h0, h⟩ := need_some h
          exact fin _ (by simp [slcA, hl, h0]) h
      · rename_i h1 h2 h3
        split at h <;> try (cases h; done)
        rename_i n2 cs hcs
        obtain ⟨h0, h⟩ := need_some h
        by_cases hl : l = h'
        · subst hl; simp at h; exact fin _ (by simp [slcA]) h
        · have hs : l * sz + (h' - l) * sz ≤ cs.length := by rcases h0 with h0 | h0; exact absurd h0 hl; exact h0
          refine fin _ ?_ h
          unfold slcA
          rw [if_neg hl]
          split
          · exact absurd rfl (h1 _ _)
          · exact absurd rfl (h2 _ _)
          · exact absurd rfl (h3 _ _ _ _)
          · simp [hcs, sub, hs]
    · rename_i lo hi s bs
      have key : ∃ l h', bnds lo hi bs s.size = some (l, h') ∧ kk (.p (.str (s.extract l h'))) m = some r := by
        unfold semBnds at h
        split at h
        · exact ⟨_, _, rfl, h⟩
        · obtain ⟨h0, h⟩ := need_some h; exact ⟨_, _, by simp [bnds, h0], h⟩
        · obtain ⟨h0, h⟩ := need_some h; exact ⟨_, _, by simp [bnds, h0], h⟩
        · obtain ⟨h0, h⟩ := need_some h; exact ⟨_, _, by simp [bnds, h0], h⟩
        · cases h
      obtain ⟨l, h', hb, h⟩ := key
      exact lift (by simp [runL, hb]) h
    · obtain ⟨h0, h⟩ := need_some h
      obtain ⟨b, h1, h2⟩ := bindO_some h
      exact lift (by simp [runL, h0, h1]) h2
    · rename_i sz n ag cs k' i
      obtain ⟨h0, h⟩ := need_some h
      split at h
      · obtain ⟨w, h1, h2⟩ := rd_some h
        refine lift ?_ h2
        simp only [runL, if_pos h0]
        cases ag with
        | true =>
          simp only [if_true, Option.map_eq_some_iff] at h1
          obtain ⟨ws, h1, rfl⟩ := h1
          simp [h1]
        | false => simp at h1 ⊢; simp [h1]
      · obtain ⟨v, h1, h2⟩ := splitA_some h
        exact lift (by simp only [runL, if_pos h0]; exact h1) h2
    · split at h <;> try (cases h; done)
      rename_i ps hps
      obtain ⟨rv, h1, h2⟩ := hc.p _ _ _ _ h
      rw [splitP_eq] at h2
      refine lift ?_ h2
      cases rv <;> simp [runL, hps, h1, RV.pv]
    · obtain ⟨v, h1, h2⟩ := splitA_some h
      exact lift (runL_any h1) h2
def forceL {β γ : Type} : List β → (List β → γ) → γ
  | [], k => k []
  | x :: l, k => forceL l fun ys => k (x :: ys)
theorem forceL_eq {β γ : Type} : ∀ (l : List β) (k : List β → γ), forceL l k = k l
  | [], _ => rfl
  | x :: l, k => by simp only [forceL, forceL_eq l]
def semOp (call : CallF α) (sh : Nat → Option (List CK)) (o : AOp) (s : Q) (kk : Q → Option α) : Option α :=
  match grd s.t o.grd with
  | none => none
  | some false => forceL (put s.t o.dst .undef) fun t => kk ⟨t, s.m⟩
  | some true => semK call (o.dst.bind sh) o.k (o.args.map (Arg.get s.t)) s.m fun v m => forceL (put s.t o.dst v) fun t => forceL m fun m => kk ⟨t, m⟩
def semOps (call : CallF α) (sh : Nat → Option (List CK)) : List AOp → Q → (Q → Option α) → Option α
  | [], s, kk => kk s
  | o :: l, s, kk => semOp call sh o s fun s' => semOps call sh l s' kk
theorem semOp_some {call : CallF α} {rn : CallT} (hc : CallFOK call rn) {sh : Nat → Option (List CK)} {o : AOp} {s : Q} {kk : Q → Option α} {r : α} (h : semOp call sh o s kk = some r) : ∃ s' : Q, exOp rn o s.x = some s'.x ∧ kk s' = some r := by
  unfold semOp at h
  split at h
  · cases h
  · rename_i hg
    rw [forceL_eq] at h
    exact ⟨_, by simp [exOp, Q.x, hg], h⟩
  · rename_i hg
    obtain ⟨v, m, h1, h2⟩ := semK_some hc h
    rw [forceL_eq, forceL_eq] at h2
    exact ⟨_, by simp only [exOp, Q.x, hg, h1], h2⟩
theorem semOps_some {call : CallF α} {rn : CallT} (hc : CallFOK call rn) {sh : Nat → Option (List CK)} : ∀ {l : List AOp} {s : Q} {kk : Q → Option α} {r : α}, semOps call sh l s kk = some r → ∃ s' : Q, exOps rn l s.x = some s'.x ∧ kk s' = some r
  | [], s, kk, r, h => ⟨s, rfl, h⟩
  | o :: l, s, kk, r, h => by
    simp only [semOps] at h
    obtain ⟨s1, h1, h2⟩ := semOp_some hc h
    obtain ⟨s2, h3, h4⟩ := semOps_some hc h2
    exact ⟨s2, by simp only [exOps, h1, h3], h4⟩
abbrev LoopF (α : Type) := Nat → Option (Q → (Ext → Q → Option α) → Option α)
def blocksOf : ACode → List (Nat × ACode)
  | .seq a b => blocksOf a ++ blocksOf b
  | .cond _ a b => blocksOf a ++ blocksOf b
  | .block id ks bs c => (id, .block id ks bs c) :: blocksOf c
  | .node id ki bi ks bs c => (id, .node id ki bi ks bs c) :: blocksOf c
  | .loop _ _ c => blocksOf c
  | .rnd _ _ c => blocksOf c
  | _ => []
def headN : ACode → Q → Q
  | .block _ _ _ (.loop ks bs _), s => normQ ks bs s
  | .node _ ki bi _ _ _, s => normQ ki bi s
  | _, s => s
def semC (call : CallF α) (sh : Nat → Option (List CK)) (lp : LoopF α) : Nat → ACode → Q → (Ext → Q → Option α) → Option α
  | 0, _, _, _ => none
  | n + 1, c, s, kk =>
    match c with
    | .skip => kk .normal s
    | .ops l => semOps call sh l s fun s' => kk .normal s'
    | .seq a b => semC call sh lp n a s fun e s' => match e with
      | .normal => semC call sh lp n b s' kk
      | e => kk e s'
    | .cond c a b => match c.get s.t with
      | .p (.bool v) => bif v then semC call sh lp n a s kk else semC call sh lp n b s kk
      | _ => none
    | .block id ks bs c => match lp id with
      | some F => F (headN (.block id ks bs c) s) kk
      | none => semC call sh lp n c s fun e s' => match e with
        | .exit i => bif i == id then kk .normal (normQ ks bs s') else kk (.exit i) s'
        | .normal => kk .normal (normQ ks bs s')
        | e => kk e s'
    | .node id ki bi ks bs c => match lp id with
      | some F => F (headN (.node id ki bi ks bs c) s) kk
      | none => semC call sh lp n c (normQ ki bi s) fun e s' => match e with
        | .normal => kk .normal (normQ ks bs s')
        | e => kk e s'
    | .loop ks bs c => semC call sh lp n c (normQ ks bs s) fun e s' => match e with
      | .normal => semC call sh lp n (.loop ks bs c) s' kk
      | e => kk e s'
    | .rnd ks bs c => semC call sh lp n c s fun e s' => kk e (normQ ks bs s')
    | .exit id => kk (.exit id) s
    | .ret ks bs => kk .ret (normQ ks bs s)
variable {env : Nat → Option AFn}
theorem kill_get (ks : List Nat) (t : List AV) (i : Nat) : (kill ks t)[i]? = (t[i]?).map fun v => bif ks.contains i then v else .bad := by
  unfold kill
  rw [keepT_get, Nat.zero_add]
theorem scrubs_map (bs : List Nat) : ∀ (l : List AV), scrubs bs l = l.map (scrub bs)
  | [] => rfl
  | v :: l => by simp [scrubs, scrubs_map bs l]
mutual
theorem scrub_idem (bs : List Nat) : ∀ (v : AV), scrub bs (scrub bs v) = scrub bs v
  | .p _ | .nilS | .undef | .bad | .yv | .lit _ _ _ => by simp [scrub]
  | .loc b o => by
    simp only [scrub]
    split
    · simp [scrub]
    · simp only [scrub]; rw [if_neg (by assumption)]
  | .msl b o n sz => by
    simp only [scrub]
    split
    · simp [scrub]
    · simp only [scrub]; rw [if_neg (by assumption)]
  | .app b n sz cs => by
    simp only [scrub]
    split
    · simp [scrub]
    · simp only [scrub]; rw [if_neg (by assumption)]
  | .vap b n sz => by
    simp only [scrub]
    split
    · simp [scrub]
    · simp only [scrub]; rw [if_neg (by assumption)]
  | .vlc b n o => by
    simp only [scrub]
    split
    · simp [scrub]
    · simp only [scrub]; rw [if_neg (by assumption)]
  | .agg cs => by simp only [scrub, scrubs_idem bs cs]
  | .clo f caps => by simp only [scrub, scrubs_idem bs caps]
theorem scrubs_idem (bs : List Nat) : ∀ (l : List AV), scrubs bs (scrubs bs l) = scrubs bs l
  | [] => rfl
  | v :: l => by simp only [scrubs, scrub_idem bs v, scrubs_idem bs l]
end
theorem free_len (bs : List Nat) : ∀ (m : List Blk), (freeB bs m).length = m.length := by
  induction bs with
  | nil => intro m; rfl
  | cons b bs ih => intro m; simp only [freeB, List.foldl_cons]; have := ih (m.set b .none); simp only [freeB] at this; rw [this, List.length_set]
theorem free_get (bs : List Nat) (m : List Blk) (i : Nat) : (freeB bs m)[i]? = if i ∈ bs ∧ i < m.length then some .none else m[i]? := by
  induction bs generalizing m with
  | nil => simp [freeB]
  | cons k bs ih =>
    simp only [freeB, List.foldl_cons]
    have := ih (m.set k .none)
    simp only [freeB] at this
    rw [this]
    simp only [List.length_set, List.mem_cons, List.getElem?_set]
    by_cases h1 : i ∈ bs <;> by_cases h2 : i < m.length <;> by_cases h3 : k = i <;> simp [h1, h2, h3, eq_comm]
    all_goals (intro h4; exact absurd h4.symm h3)
theorem scrubB_idem (bs : List Nat) (b : Blk) : scrubB bs (scrubB bs b) = scrubB bs b := by
  cases b <;> simp [scrubB, scrubs_idem]
theorem norm_idem (ks bs : List Nat) (s : S) : norm ks bs (norm ks bs s) = norm ks bs s := by
  unfold norm
  congr 1
  · apply List.ext_getElem?
    intro i
    simp only [scrubs_map, List.getElem?_map, kill_get]
    cases s.t[i]? with
    | none => rfl
    | some v =>
      simp only [Option.map_some]
      cases ks.contains i with
      | true => simp [scrub_idem]
      | false => simp [scrub]
  · apply List.ext_getElem?
    intro i
    simp only [List.getElem?_map, free_get, List.length_map, free_len]
    by_cases h : i ∈ bs ∧ i < s.m.length
    · simp [h, scrubB]
    · simp only [if_neg h]
      cases s.m[i]? <;> simp [scrubB_idem]
theorem ex_loop_norm (ks bs : List Nat) (c : ACode) (s : S) : ex env (.loop ks bs c) (norm ks bs s) = ex env (.loop ks bs c) s := by
  rw [ex_loop, ex_loop (s := s), norm_idem]
theorem ex_headN (c : ACode) (s : Q) : ex env c (headN c s).x = ex env c s.x := by
  unfold headN
  split
  · rw [norm_x, ex_block, ex_block, ex_loop_norm]
  · rw [norm_x, ex_node, ex_node, norm_idem]
  · rfl
def LoopsOK (env : Nat → Option AFn) (lp : LoopF α) (c : ACode) : Prop := ∀ p ∈ blocksOf c, ∀ F, lp p.1 = some F → ∀ s kk r, F s kk = some r → ∃ e s', ex env p.2 s.x = some (e, Q.x s') ∧ kk e s' = some r
theorem exOps_run {call : CallF α} (hc : CallFOK call (run env)) {sh : Nat → Option (List CK)} {l : List AOp} {s : Q} {kk : Q → Option α} {r : α} (h : semOps call sh l s kk = some r) : ∃ s' : Q, exOps (run env) l s.x = some s'.x ∧ kk s' = some r := semOps_some hc h
theorem semC_some {call : CallF α} (hc : CallFOK call (run env)) {sh : Nat → Option (List CK)} {lp : LoopF α} : ∀ {n : Nat} {c : ACode} {s : Q} {kk : Ext → Q → Option α} {r : α}, LoopsOK env lp c → semC call sh lp n c s kk = some r → ∃ e s', ex env c s.x = some (e, Q.x s') ∧ kk e s' = some r
  | 0, _, _, _, _, _, h => by simp [semC] at h
  | n + 1, c, s, kk, r, hl, h => by
    cases c with
    | skip => exact ⟨_, _, ex_skip s.x, h⟩
    | exit i => exact ⟨_, _, ex_exit i s.x, h⟩
    | ret ks bs => exact ⟨_, _, by rw [norm_x]; exact ex_ret ks bs s.x, h⟩
    | ops l =>
      simp only [semC] at h
      obtain ⟨s', h1, h2⟩ := semOps_some hc h
      exact ⟨.normal, s', by rw [ex_ops, h1]; rfl, h2⟩
    | seq a b =>
      simp only [semC] at h
      obtain ⟨e, s1, h1, h2⟩ := semC_some hc (fun p hp => hl p (by simp [blocksOf, hp])) h
      cases e with
      | normal =>
        obtain ⟨e2, s2, h3, h4⟩ := semC_some hc (fun p hp => hl p (by simp [blocksOf, hp])) h2
        exact ⟨e2, s2, by rw [ex_seq, h1]; exact h3, h4⟩
      | exit i => exact ⟨_, _, by rw [ex_seq, h1], h2⟩
      | ret => exact ⟨_, _, by rw [ex_seq, h1], h2⟩
    | cond v a b =>
      simp only [semC] at h
      split at h <;> try (cases h; done)
      rename_i x hx
      have hx : v.get s.x.t = .p (.bool x) := hx
      cases x with
      | true =>
        obtain ⟨e, s1, h1, h2⟩ := semC_some hc (fun p hp => hl p (by simp [blocksOf, hp])) h
        exact ⟨e, s1, by rw [ex_cond, hx]; simpa using h1, h2⟩
      | false =>
        obtain ⟨e, s1, h1, h2⟩ := semC_some hc (fun p hp => hl p (by simp [blocksOf, hp])) h
        exact ⟨e, s1, by rw [ex_cond, hx]; simpa using h1, h2⟩
    | block id ks bs c =>
      simp only [semC] at h
      split at h
      · rename_i F hF
        have := hl (id, .block id ks bs c) (by simp [blocksOf]) F hF _ _ _ h
        simp only [ex_headN] at this
        exact this
      · obtain ⟨e, s1, h1, h2⟩ := semC_some hc (fun p hp => hl p (by simp [blocksOf, hp])) h
        cases e with
        | exit i =>
          have h2 : (bif i == id then kk Ext.normal (normQ ks bs s1) else kk (Ext.exit i) s1) = some r := h2
          by_cases hi : i = id
          · rw [show (i == id) = true by simpa using hi] at h2
            exact ⟨_, _, by rw [ex_block, h1, norm_x]; simp only [if_pos hi], h2⟩
          · rw [show (i == id) = false by simpa using hi] at h2
            exact ⟨_, _, by rw [ex_block, h1]; simp only [if_neg hi], h2⟩
        | normal => exact ⟨_, _, by rw [ex_block, h1, norm_x], h2⟩
        | ret => exact ⟨_, _, by rw [ex_block, h1], h2⟩
    | node id ki bi ks bs c =>
      simp only [semC] at h
      split at h
      · rename_i F hF
        have := hl (id, .node id ki bi ks bs c) (by simp [blocksOf]) F hF _ _ _ h
        simp only [ex_headN] at this
        exact this
      · obtain ⟨e, s1, h1, h2⟩ := semC_some hc (fun p hp => hl p (by simp [blocksOf, hp])) h
        rw [norm_x] at h1
        cases e with
        | exit i => exact ⟨_, _, by rw [ex_node, h1], h2⟩
        | normal => exact ⟨_, _, by rw [ex_node, h1, norm_x], h2⟩
        | ret => exact ⟨_, _, by rw [ex_node, h1], h2⟩
    | loop ks bs c =>
      simp only [semC] at h
      obtain ⟨e, s1, h1, h2⟩ := semC_some hc (fun p hp => hl p (by simpa [blocksOf] using hp)) h
      rw [norm_x] at h1
      cases e with
      | normal =>
        obtain ⟨e2, s2, h3, h4⟩ := semC_some hc hl h2
        exact ⟨e2, s2, by rw [ex_loop, h1]; exact h3, h4⟩
      | exit i => exact ⟨_, _, by rw [ex_loop, h1], h2⟩
      | ret => exact ⟨_, _, by rw [ex_loop, h1], h2⟩
    | rnd ks bs c =>
      simp only [semC] at h
      obtain ⟨e, s1, h1, h2⟩ := semC_some hc (fun p hp => hl p (by simpa [blocksOf] using hp)) h
      exact ⟨e, _, by rw [ex_rnd, h1, norm_x], h2⟩
section
variable {β γ : Type}
noncomputable def getL (z : β) (l : List β) (i : Nat) : β :=
  List.rec (motive := fun _ => Nat → β) (fun _ => z) (fun v _ ih i => Nat.rec (motive := fun _ => β) v (fun j _ => ih j) i) l i
theorem getL_eq (z : β) : ∀ (l : List β) (i : Nat), getL z l i = l.getD i z
  | [], _ => rfl
  | _ :: _, 0 => rfl
  | _ :: l, i + 1 => (getL_eq z l i).trans (by simp)
noncomputable def modL (f : β → (β → γ) → γ) (l : List β) (i : Nat) (k : List β → γ) : γ :=
  List.rec (motive := fun _ => Nat → (List β → γ) → γ) (fun _ k => k []) (fun x r ih i k => Nat.rec (motive := fun _ => γ) (f x fun y => k (y :: r)) (fun j _ => ih j fun r' => k (x :: r')) i) l i k
def modP (g : β → β) : List β → Nat → List β
  | [], _ => []
  | x :: r, 0 => g x :: r
  | x :: r, i + 1 => x :: modP g r i
theorem modL_eq {f : β → (β → γ) → γ} {g : β → β} (hf : ∀ x k, f x k = k (g x)) : ∀ (l : List β) (i : Nat) (k : List β → γ), modL f l i k = k (modP g l i)
  | [], _, _ => rfl
  | x :: _, 0, _ => hf x _
  | _ :: r, i + 1, _ => modL_eq hf r i _
theorem modP_set (v : β) : ∀ (l : List β) (i : Nat), modP (fun _ => v) l i = l.set i v
  | [], _ => rfl
  | _ :: _, 0 => rfl
  | x :: r, i + 1 => by simp only [modP, modP_set v r i, List.set_cons_succ]
noncomputable def layF (l : List β) (k : List β → γ) : γ :=
  List.rec (motive := fun _ => (List β → γ) → γ) (fun k => k []) (fun x _ ih k => ih fun ys => k (x :: ys)) l k
theorem layF_eq : ∀ (l : List β) (k : List β → γ), layF l k = k l
  | [], _ => rfl
  | _ :: l, _ => layF_eq l _
noncomputable def layLL (l : List (List β)) (k : List (List β) → γ) : γ :=
  List.rec (motive := fun _ => (List (List β) → γ) → γ) (fun k => k []) (fun x _ ih k => layF x fun x' => ih fun ys => k (x' :: ys)) l k
theorem layLL_eq : ∀ (l : List (List β)) (k : List (List β) → γ), layLL l k = k l
  | [], _ => rfl
  | x :: l, k => by
    show layF x (fun x' => layLL l fun ys => k (x' :: ys)) = _
    rw [layF_eq, layLL_eq l]
def toRn : Nat → List β → List (List β)
  | 0, _ => []
  | _ + 1, [] => []
  | n + 1, x :: t => (x :: t).take 16 :: toRn n ((x :: t).drop 16)
def toR (t : List β) : List (List β) := toRn t.length t
theorem toRn_flat : ∀ (n : Nat) (t : List β), t.length ≤ n → (toRn n t).flatten = t
  | 0, [], _ => rfl
  | 0, _ :: _, h => by simp at h
  | _ + 1, [], _ => rfl
  | n + 1, x :: t, h => by
    simp only [toRn, List.flatten_cons]
    rw [toRn_flat n _ (by simp only [List.length_drop, List.length_cons] at h ⊢; omega), List.take_append_drop]
theorem toR_flat (t : List β) : (toR t).flatten = t := toRn_flat _ _ (Nat.le_refl _)
theorem toRn_get (z : β) (j : Nat) (hj : j < 16) : ∀ (n : Nat) (t : List β) (c : Nat), t.length ≤ n → ((toRn n t).getD c []).getD j z = t.getD (16 * c + j) z
  | 0, [], c, _ => by simp [toRn]
  | 0, _ :: _, _, h => by simp at h
  | _ + 1, [], c, _ => by simp [toRn]
  | n + 1, x :: t, 0, _ => by
    simp only [toRn, List.getD_cons_zero, Nat.mul_zero, Nat.zero_add]
    rw [List.getD_eq_getElem?_getD, List.getD_eq_getElem?_getD, List.getElem?_take, if_pos hj]
  | n + 1, x :: t, c + 1, h => by
    simp only [toRn, List.getD_cons_succ]
    rw [toRn_get z j hj n _ c (by simp only [List.length_drop, List.length_cons] at h ⊢; omega)]
    rw [List.getD_eq_getElem?_getD, List.getD_eq_getElem?_getD, List.getElem?_drop]
    congr 2
    omega
theorem toRn_set (v : β) (j : Nat) (hj : j < 16) : ∀ (n : Nat) (t : List β) (c : Nat), modP (fun r => modP (fun _ => v) r j) (toRn n t) c = toRn n (t.set (16 * c + j) v)
  | 0, t, c => by simp [toRn, modP]
  | _ + 1, [], c => by simp [toRn, modP]
  | n + 1, x :: t, 0 => by
    simp only [toRn, modP, modP_set, Nat.mul_zero, Nat.zero_add]
    have h : ∀ l : List β, (x :: t).set j v = l → toRn (n + 1) l = l.take 16 :: toRn n (l.drop 16) := fun l e => by
      cases l with
      | nil => cases j <;> simp at e
      | cons _ _ => rfl
    rw [h _ rfl, List.take_set, List.drop_set_of_lt hj]
  | n + 1, x :: t, c + 1 => by
    simp only [toRn, modP, toRn_set v j hj n]
    have h : ∀ l : List β, (x :: t).set (16 * (c + 1) + j) v = l → toRn (n + 1) l = l.take 16 :: toRn n (l.drop 16) := fun l e => by
      cases l with
      | nil => simp [show 16 * (c + 1) + j = (16 * c + j + 15) + 1 by omega] at e
      | cons _ _ => rfl
    rw [h _ rfl, List.take_set_of_le (by omega), List.drop_set, if_neg (by omega)]
    congr 3
    omega
end
structure FQ where
  r : List (List AV)
  m : List Bk
def toF (s : Q) : FQ := ⟨toR s.t, s.m⟩
def ofF (s : FQ) : Q := ⟨s.r.flatten, s.m⟩
theorem ofF_toF (s : Q) : ofF (toF s) = s := by cases s; simp only [ofF, toF, toR_flat]
noncomputable def toFk {γ : Type} (s : Q) (k : FQ → γ) : γ := layF s.t fun t => layLL (toR t) fun r => layF s.m fun m => k ⟨r, m⟩
theorem toFk_eq {γ : Type} (s : Q) (k : FQ → γ) : toFk s k = k (toF s) := by simp only [toFk, layF_eq, layLL_eq, toF]
noncomputable def getR (r : List (List AV)) (i : Nat) : AV := getL .bad (getL [] r (Nat.div i 16)) (Nat.mod i 16)
theorem getR_eq (t : List AV) (i : Nat) : getR (toR t) i = t.getD i .bad := by
  unfold getR
  rw [getL_eq, getL_eq]
  have h := toRn_get AV.bad (i % 16) (Nat.mod_lt _ (by decide)) t.length t (i / 16) (Nat.le_refl _)
  rw [Nat.div_add_mod] at h
  exact h
noncomputable def putR {γ : Type} (r : List (List AV)) (d : Option Nat) (v : AV) (k : List (List AV) → γ) : γ := match d with
  | none => k r
  | some i => modL (fun ch k => modL (fun _ k => k v) ch (Nat.mod i 16) k) r (Nat.div i 16) k
theorem putR_eq {γ : Type} (t : List AV) (d : Option Nat) (v : AV) (k : List (List AV) → γ) : putR (toR t) d v k = k (toR (put t d v)) := by
  cases d with
  | none => rfl
  | some i =>
    simp only [putR, put]
    rw [modL_eq (g := fun ch => modP (fun _ => v) ch (Nat.mod i 16)) (fun x k => modL_eq (g := fun _ => v) (fun _ _ => rfl) _ _ _)]
    have h := toRn_set v (i % 16) (Nat.mod_lt _ (by decide)) t.length t (i / 16)
    rw [Nat.div_add_mod] at h
    unfold toR
    rw [List.length_set]
    exact congrArg k h
noncomputable def getF (r : List (List AV)) : Arg → AV
  | .tmp i => getR r i
  | .k v => v
theorem getF_eq (t : List AV) (a : Arg) : getF (toR t) a = a.get t := by
  cases a with
  | tmp i => exact getR_eq t i
  | k v => rfl
noncomputable def grdF (r : List (List AV)) : Option (Nat × Bool) → Option Bool
  | none => some true
  | some (d, want) => match getR r d with
    | .p (.bool b) => some (b == want)
    | .undef => some false
    | _ => none
theorem grdF_eq (t : List AV) (g : Option (Nat × Bool)) : grdF (toR t) g = grd t g := by
  cases g with
  | none => rfl
  | some p =>
    obtain ⟨d, want⟩ := p
    simp only [grdF, grd, getR_eq, List.getD_eq_getElem?_getD]
    cases t[d]? with
    | none => rfl
    | some v =>
      cases v with
      | p w => cases w <;> rfl
      | _ => rfl
def memK : K → Bool
  | .l _ => false
  | .ld _ _ _ => false
  | _ => true
noncomputable def fsOp (call : CallF α) (sh : Nat → Option (List CK)) (o : AOp) (s : FQ) (kk : FQ → Option α) : Option α :=
  match grdF s.r o.grd with
  | none => none
  | some false => putR s.r o.dst .undef fun r => kk ⟨r, s.m⟩
  | some true => semK call (o.dst.bind sh) o.k (o.args.map (getF s.r)) s.m fun v m => putR s.r o.dst v fun r => bif memK o.k then layF m fun m => kk ⟨r, m⟩ else kk ⟨r, m⟩
theorem fsOp_eq {call : CallF α} {sh : Nat → Option (List CK)} {o : AOp} {s : Q} {kk : FQ → Option α} : fsOp call sh o (toF s) kk = semOp call sh o s (fun s' => kk (toF s')) := by
  unfold fsOp semOp
  have hm : o.args.map (getF (toF s).r) = o.args.map (Arg.get s.t) := List.map_congr_left fun a _ => getF_eq s.t a
  have hk : ∀ v m, (putR (toF s).r o.dst v fun r => bif memK o.k then layF m fun m => kk ⟨r, m⟩ else kk ⟨r, m⟩) = kk (toF ⟨put s.t o.dst v, m⟩) := fun v m => by
    show putR (toR s.t) o.dst v _ = _
    rw [putR_eq]
    cases memK o.k with
    | true => simp only [cond_true, layF_eq]; rfl
    | false => rfl
  rw [show (toF s).r = toR s.t from rfl, grdF_eq]
  cases hg : grd s.t o.grd with
  | none => rfl
  | some b =>
    cases b with
    | false => simp only [putR_eq, forceL_eq]; rfl
    | true =>
      show semK call (o.dst.bind sh) o.k (o.args.map (getF (toF s).r)) s.m _ = semK call (o.dst.bind sh) o.k (o.args.map (Arg.get s.t)) s.m _
      rw [hm]
      congr 1
      funext v m
      rw [forceL_eq, forceL_eq]
      exact hk v m
noncomputable def fsOps (call : CallF α) (sh : Nat → Option (List CK)) (l : List AOp) (s : FQ) (kk : FQ → Option α) : Option α :=
  List.rec (motive := fun _ => FQ → (FQ → Option α) → Option α) (fun s kk => kk s) (fun o _ ih s kk => fsOp call sh o s fun s' => ih s' kk) l s kk
theorem fsOps_eq {call : CallF α} {sh : Nat → Option (List CK)} : ∀ {l : List AOp} {s : Q} {kk : FQ → Option α}, fsOps call sh l (toF s) kk = semOps call sh l s (fun s' => kk (toF s'))
  | [], _, _ => rfl
  | o :: l, s, kk => by
    show fsOp call sh o (toF s) (fun s' => fsOps call sh l s' kk) = semOp call sh o s (fun s' => semOps call sh l s' _)
    rw [fsOp_eq]
    congr 1
    funext s'
    exact fsOps_eq
def sortedB : List Nat → Bool
  | [] => true
  | a :: l => (match l with
    | [] => true
    | b :: _ => Nat.ble (a + 1) b) && sortedB l
theorem sortedB_pw : ∀ {l : List Nat}, sortedB l = true → l.Pairwise (· < ·)
  | [], _ => .nil
  | [a], _ => List.pairwise_singleton _ a
  | a :: b :: l, h => by
    simp only [sortedB, Bool.and_eq_true] at h
    have h1 : a < b := Nat.le_of_ble_eq_true h.1
    have h2 : (b :: l).Pairwise (· < ·) := sortedB_pw (by simp only [sortedB, Bool.and_eq_true]; exact h.2)
    refine List.Pairwise.cons (fun x hx => ?_) h2
    rcases List.mem_cons.1 hx with rfl | hx
    · exact h1
    · exact Nat.lt_trans h1 ((List.pairwise_cons.1 h2).1 x hx)
def frm (K : List Nat) (i : Nat) : List Nat := K.filter (fun x => decide (i ≤ x))
theorem frm_step : ∀ {K : List Nat}, K.Pairwise (· < ·) → ∀ i, frm K i = if i ∈ K then i :: frm K (i + 1) else frm K (i + 1)
  | [], _, i => by simp [frm]
  | a :: K, h, i => by
    have hp := List.pairwise_cons.1 h
    have ih := frm_step hp.2 i
    unfold frm at ih ⊢
    rcases Nat.lt_trichotomy a i with hl | he | hg
    · rw [List.filter_cons_of_neg (by simp; omega), List.filter_cons_of_neg (by simp; omega), ih]
      have : i ∈ a :: K ↔ i ∈ K := by simp; omega
      simp only [this]
    · subst he
      rw [List.filter_cons_of_pos (by simp), List.filter_cons_of_neg (by simp), if_pos (by simp)]
      congr 1
      apply List.filter_congr
      intro x hx
      have := hp.1 x hx
      simp; omega
    · have hn : i ∉ a :: K := fun hi => by
        rcases List.mem_cons.1 hi with rfl | hi
        · omega
        · have := hp.1 i hi; omega
      rw [if_neg hn]
      apply List.filter_congr
      intro x hx
      have : i < x := by
        rcases List.mem_cons.1 hx with rfl | hx
        · exact hg
        · have := hp.1 x hx; omega
      simp; omega
theorem frm_mem {K : List Nat} {i q : Nat} {l : List Nat} (h : frm K i = q :: l) : i ≤ q := by
  have : q ∈ frm K i := by rw [h]; simp
  simp [frm] at this
  exact this.2
noncomputable def scrA {γ : Type} (bs : List Nat) (v : AV) (k : AV → γ) : γ := match v with
  | .p x => k (.p x)
  | .nilS => k .nilS
  | .undef => k .undef
  | .bad => k .bad
  | .yv => k .yv
  | v => match bs with
    | [] => k v
    | b :: bs => k (scrub (b :: bs) v)
mutual
theorem scrub_nil : ∀ (v : AV), scrub [] v = v
  | .p _ | .nilS | .undef | .bad | .yv | .lit _ _ _ => by simp [scrub]
  | .loc b o => by simp [scrub]
  | .msl b o n sz => by simp [scrub]
  | .app b n sz cs => by simp [scrub]
  | .vap b n sz => by simp [scrub]
  | .vlc b n o => by simp [scrub]
  | .agg cs => by simp only [scrub, scrubs_nil cs]
  | .clo f caps => by simp only [scrub, scrubs_nil caps]
theorem scrubs_nil : ∀ (l : List AV), scrubs [] l = l
  | [] => rfl
  | v :: l => by simp only [scrubs, scrub_nil v, scrubs_nil l]
end
theorem scrA_eq {γ : Type} (bs : List Nat) (v : AV) (k : AV → γ) : scrA bs v k = k (scrub bs v) := by
  cases bs with
  | nil => rw [scrub_nil]; cases v <;> rfl
  | cons b bs => cases v <;> first | rfl | (simp only [scrA, scrub])
noncomputable def keepC {γ : Type} (bs : List Nat) (ch : List AV) (ks : List Nat) (i : Nat) (k : List AV → List Nat → γ) : γ :=
  List.rec (motive := fun _ => List Nat → Nat → (List AV → List Nat → γ) → γ) (fun ks _ k => k [] ks)
    (fun v _ ih ks i k => match ks with
      | [] => ih [] (Nat.succ i) fun r ks' => k (.bad :: r) ks'
      | q :: ks0 => bif Nat.beq q i then scrA bs v fun v' => ih ks0 (Nat.succ i) fun r ks' => k (v' :: r) ks' else ih (q :: ks0) (Nat.succ i) fun r ks' => k (.bad :: r) ks') ch ks i k
theorem keepC_eq {γ : Type} (bs : List Nat) {K : List Nat} (hK : K.Pairwise (· < ·)) : ∀ (ch : List AV) (i : Nat) (k : List AV → List Nat → γ), keepC bs ch (frm K i) i k = k (scrubs bs (keepT K i ch)) (frm K (i + ch.length))
  | [], _, _ => rfl
  | v :: ch, i, k => by
    have hs := frm_step hK i
    have ih := fun k => keepC_eq (γ := γ) bs hK ch (i + 1) k
    have hb : scrub bs .bad = .bad := by simp [scrub]
    have hl : i + 1 + ch.length = i + (v :: ch).length := by simp; omega
    show (match frm K i with
      | [] => keepC bs ch [] (Nat.succ i) fun r ks' => k (.bad :: r) ks'
      | q :: ks0 => bif Nat.beq q i then scrA bs v fun v' => keepC bs ch ks0 (Nat.succ i) fun r ks' => k (v' :: r) ks' else keepC bs ch (q :: ks0) (Nat.succ i) fun r ks' => k (.bad :: r) ks') = _
    by_cases hi : i ∈ K
    · rw [if_pos hi] at hs
      rw [hs]
      simp only [Nat.beq_refl, cond_true, scrA_eq]
      rw [ih]
      simp only [keepT, scrubs, List.contains_eq_mem, hi, decide_true, cond_true, hl]
    · rw [if_neg hi] at hs
      have hk : scrubs bs (keepT K i (v :: ch)) = .bad :: scrubs bs (keepT K (i + 1) ch) := by
        simp only [keepT, scrubs, List.contains_eq_mem, hi, decide_false, cond_false, hb]
      rw [hk]
      split
      · rename_i he
        rw [show ([] : List Nat) = frm K (i + 1) by rw [← hs, he], ih, hl]
      · rename_i q ks0 he
        have hq : i + 1 ≤ q := frm_mem (hs ▸ he)
        rw [show Nat.beq q i = false from by
          cases h : Nat.beq q i
          · rfl
          · have := Nat.eq_of_beq_eq_true h; omega]
        simp only [cond_false]
        rw [show (q :: ks0) = frm K (i + 1) by rw [← hs, he], ih, hl]
def bad16 : List AV := [.bad, .bad, .bad, .bad, .bad, .bad, .bad, .bad, .bad, .bad, .bad, .bad, .bad, .bad, .bad, .bad]
noncomputable def keepR {γ : Type} (bs : List Nat) (rows : List (List AV)) (ks : List Nat) (i : Nat) (k : List (List AV) → γ) : γ :=
  List.rec (motive := fun _ => List Nat → Nat → (List (List AV) → γ) → γ) (fun _ _ k => k [])
    (fun ch rest ih ks i k => match rest with
      | [] => keepC bs ch ks i fun ch' _ => k [ch']
      | _ :: _ => match ks with
        | [] => ih [] (Nat.add i 16) fun r => k (bad16 :: r)
        | q :: ks0 => bif Nat.ble (Nat.add i 16) q then ih (q :: ks0) (Nat.add i 16) fun r => k (bad16 :: r) else keepC bs ch (q :: ks0) i fun ch' ks' => ih ks' (Nat.add i 16) fun r => k (ch' :: r)) rows ks i k
theorem keepT_len (K : List Nat) : ∀ (t : List AV) (i : Nat), (keepT K i t).length = t.length
  | [], _ => rfl
  | _ :: t, i => by simp only [keepT, List.length_cons, keepT_len K t]
theorem scrubs_len (bs : List Nat) : ∀ (t : List AV), (scrubs bs t).length = t.length
  | [] => rfl
  | _ :: t => by simp only [scrubs, List.length_cons, scrubs_len bs t]
theorem keepT_take (K : List Nat) : ∀ (n : Nat) (t : List AV) (i : Nat), keepT K i (t.take n) = (keepT K i t).take n
  | 0, _, _ => by simp [keepT]
  | _ + 1, [], _ => rfl
  | n + 1, _ :: t, i => by simp only [List.take_succ_cons, keepT, keepT_take K n t]
theorem keepT_drop (K : List Nat) : ∀ (n : Nat) (t : List AV) (i : Nat), keepT K (i + n) (t.drop n) = (keepT K i t).drop n
  | 0, _, _ => rfl
  | _ + 1, [], _ => rfl
  | n + 1, _ :: t, i => by
    simp only [List.drop_succ_cons, keepT]
    rw [← keepT_drop K n t (i + 1)]
    congr 1
    omega
theorem keepT_bad {K : List Nat} : ∀ (t : List AV) (i : Nat), (∀ x, i ≤ x → x < i + t.length → x ∉ K) → keepT K i t = List.replicate t.length .bad
  | [], _, _ => rfl
  | v :: t, i, h => by
    have hi := h i (Nat.le_refl _) (by simp)
    simp only [keepT, List.contains_eq_mem, hi, decide_false, cond_false, List.length_cons, List.replicate_succ]
    rw [keepT_bad t (i + 1) (fun x h1 h2 => h x (by omega) (by simp only [List.length_cons]; omega))]
theorem frm_all {K : List Nat} {i n : Nat} (h : ∀ x, i ≤ x → x < i + n → x ∉ K) : frm K i = frm K (i + n) := by
  apply List.filter_congr
  intro x hx
  by_cases h1 : i ≤ x
  · by_cases h2 : x < i + n
    · exact absurd hx (h x h1 h2)
    · simp [h1]; omega
  · simp; omega
theorem keepR_eq {γ : Type} (bs : List Nat) {K : List Nat} (hK : K.Pairwise (· < ·)) : ∀ (n : Nat) (t : List AV) (i : Nat) (k : List (List AV) → γ), t.length ≤ n → keepR bs (toRn n t) (frm K i) i k = k (toRn n (scrubs bs (keepT K i t)))
  | 0, t, _, _, _ => by simp [toRn]; rfl
  | _ + 1, [], _, _, _ => rfl
  | n + 1, x :: t, i, k, hn => by
    have hlen : ((x :: t).drop 16).length ≤ n := by simp only [List.length_drop, List.length_cons] at hn ⊢; omega
    have ih := fun k => keepR_eq (γ := γ) bs hK n ((x :: t).drop 16) (i + 16) k hlen
    have hmap : ∀ l : List AV, scrubs bs l = l.map (scrub bs) := scrubs_map bs
    have hR : toRn (n + 1) (scrubs bs (keepT K i (x :: t))) = scrubs bs (keepT K i ((x :: t).take 16)) :: toRn n (scrubs bs (keepT K (i + 16) ((x :: t).drop 16))) := by
      have h : ∀ l : List AV, 0 < l.length → toRn (n + 1) l = l.take 16 :: toRn n (l.drop 16) := fun l hl => by
        cases l with
        | nil => simp at hl
        | cons _ _ => rfl
      rw [h _ (by rw [scrubs_len, keepT_len]; simp), keepT_take, keepT_drop]
      simp only [hmap, List.map_take, List.map_drop]
    rw [hR]
    have hC := fun k => keepC_eq (γ := γ) bs hK ((x :: t).take 16) i k
    show (match toRn n ((x :: t).drop 16) with
      | [] => keepC bs ((x :: t).take 16) (frm K i) i fun ch' _ => k [ch']
      | _ :: _ => match frm K i with
        | [] => keepR bs (toRn n ((x :: t).drop 16)) [] (Nat.add i 16) fun r => k (bad16 :: r)
        | q :: ks0 => bif Nat.ble (Nat.add i 16) q then keepR bs (toRn n ((x :: t).drop 16)) (q :: ks0) (Nat.add i 16) fun r => k (bad16 :: r) else keepC bs ((x :: t).take 16) (q :: ks0) i fun ch' ks' => keepR bs (toRn n ((x :: t).drop 16)) ks' (Nat.add i 16) fun r => k (ch' :: r)) = _
    have hadd : Nat.add i 16 = i + 16 := rfl
    split
    · rename_i he
      have hd : (x :: t).drop 16 = [] := by rw [← toRn_flat n _ hlen, he]; rfl
      rw [hC, hd]
      simp only [keepT, scrubs]
      cases n <;> rfl
    · rename_i r0 rs he
      have hl16 : ((x :: t).take 16).length = 16 := by
        rw [List.length_take]
        have : 0 < ((x :: t).drop 16).length := by
          cases hd : (x :: t).drop 16 with
          | nil => rw [hd] at he; cases n <;> simp [toRn] at he
          | cons _ _ => simp
        simp only [List.length_drop] at this
        omega
      have hbad : (∀ y, i ≤ y → y < i + 16 → y ∉ K) → scrubs bs (keepT K i ((x :: t).take 16)) = bad16 := fun hno => by
        rw [keepT_bad _ _ (by rw [hl16]; exact hno), hl16, hmap]
        simp only [List.map_replicate, show scrub bs .bad = .bad by simp [scrub]]
        rfl
      split
      · rename_i hk
        have hno : ∀ y, i ≤ y → y < i + 16 → y ∉ K := fun y h1 _ hy => by
          have : y ∈ frm K i := by simp [frm, hy, h1]
          rw [hk] at this
          cases this
        rw [hbad hno, hadd, show ([] : List Nat) = frm K (i + 16) by rw [← frm_all hno, hk], ih]
      · rename_i q ks0 hk
        cases hb : Nat.ble (Nat.add i 16) q with
        | true =>
          have hq : i + 16 ≤ q := Nat.le_of_ble_eq_true hb
          have hpw : (frm K i).Pairwise (· < ·) := hK.sublist (List.filter_sublist)
          have hno : ∀ y, i ≤ y → y < i + 16 → y ∉ K := fun y h1 h2 hy => by
            have hm : y ∈ frm K i := by simp [frm, hy, h1]
            rw [hk] at hm hpw
            rcases List.mem_cons.1 hm with rfl | hm
            · omega
            · have := (List.pairwise_cons.1 hpw).1 y hm; omega
          simp only [cond_true]
          rw [hbad hno, hadd, show (q :: ks0) = frm K (i + 16) by rw [← frm_all hno, hk], ih]
        | false =>
          simp only [cond_false]
          rw [← hk, hC, hl16, hadd, ih]
noncomputable def scrM {γ : Type} (bs : List Nat) (b : Bk) (k : Bk → γ) : γ := match b with
  | .cells w cs => k (.cells w (scrubs bs cs))
  | .none => k .none
  | b => k b
theorem scrM_eq {γ : Type} (bs : List Nat) (b : Bk) (k : Bk → γ) : scrM bs b k = k (scrubQ bs b) := by cases b <;> rfl
noncomputable def freeM {γ : Type} (bs : List Nat) (m : List Bk) (ks : List Nat) (i : Nat) (k : List Bk → γ) : γ :=
  List.rec (motive := fun _ => List Nat → Nat → (List Bk → γ) → γ) (fun _ _ k => k [])
    (fun b _ ih ks i k => match ks with
      | [] => scrM bs b fun b' => ih [] (Nat.succ i) fun r => k (b' :: r)
      | q :: ks0 => bif Nat.beq q i then ih ks0 (Nat.succ i) fun r => k (.none :: r) else scrM bs b fun b' => ih (q :: ks0) (Nat.succ i) fun r => k (b' :: r)) m ks i k
def freeT (bs K : List Nat) : Nat → List Bk → List Bk
  | _, [] => []
  | i, b :: m => (bif K.contains i then .none else scrubQ bs b) :: freeT bs K (i + 1) m
theorem freeM_eq {γ : Type} (bs : List Nat) {K : List Nat} (hK : K.Pairwise (· < ·)) : ∀ (m : List Bk) (i : Nat) (k : List Bk → γ), freeM bs m (frm K i) i k = k (freeT bs K i m)
  | [], _, _ => rfl
  | b :: m, i, k => by
    have hs := frm_step hK i
    have ih := fun k => freeM_eq (γ := γ) bs hK m (i + 1) k
    show (match frm K i with
      | [] => scrM bs b fun b' => freeM bs m [] (Nat.succ i) fun r => k (b' :: r)
      | q :: ks0 => bif Nat.beq q i then freeM bs m ks0 (Nat.succ i) fun r => k (.none :: r) else scrM bs b fun b' => freeM bs m (q :: ks0) (Nat.succ i) fun r => k (b' :: r)) = _
    by_cases hi : i ∈ K
    · rw [if_pos hi] at hs
      rw [hs]
      simp only [Nat.beq_refl, cond_true]
      rw [ih]
      simp only [freeT, List.contains_eq_mem, hi, decide_true, cond_true]
    · rw [if_neg hi] at hs
      simp only [freeT, List.contains_eq_mem, hi, decide_false, cond_false]
      split
      · rename_i he
        rw [scrM_eq, show ([] : List Nat) = frm K (i + 1) by rw [← hs, he], ih]
      · rename_i q ks0 he
        have hq : i + 1 ≤ q := frm_mem (hs ▸ he)
        rw [show Nat.beq q i = false from by
          cases h : Nat.beq q i
          · rfl
          · have := Nat.eq_of_beq_eq_true h; omega]
        simp only [cond_false]
        rw [scrM_eq, show (q :: ks0) = frm K (i + 1) by rw [← hs, he], ih]
theorem freeT_get (bs K : List Nat) : ∀ (m : List Bk) (i j : Nat), (freeT bs K i m)[j]? = (m[j]?).map fun b => bif K.contains (i + j) then .none else scrubQ bs b
  | [], _, _ => by simp [freeT]
  | b :: m, i, 0 => by simp [freeT]
  | b :: m, i, j + 1 => by
    simp only [freeT, List.getElem?_cons_succ]
    rw [freeT_get bs K m (i + 1) j, show i + 1 + j = i + (j + 1) by omega]
theorem freeQ_get (bs : List Nat) (m : List Bk) (i : Nat) : (freeQ bs m)[i]? = (m[i]?).map fun b => bif bs.contains i then .none else b := by
  induction bs generalizing m with
  | nil => simp [freeQ]
  | cons k bs ih =>
    have := ih (m.set k .none)
    simp only [freeQ, List.foldl_cons] at this ⊢
    rw [this, List.getElem?_set]
    by_cases h3 : k = i
    · subst h3
      by_cases hl : k < m.length
      · simp [hl]
      · simp [hl]
    · simp only [h3, if_false]
      congr 1
      funext b
      simp only [List.contains_eq_mem, List.mem_cons]
      have : (i = k) = False := by simp; omega
      simp [this]
theorem freeT_eq (bs : List Nat) (m : List Bk) : freeT bs bs 0 m = (freeQ bs m).map (scrubQ bs) := by
  apply List.ext_getElem?
  intro i
  rw [freeT_get, List.getElem?_map, freeQ_get, Nat.zero_add]
  cases m[i]? with
  | none => rfl
  | some b =>
    simp only [Option.map_some]
    cases bs.contains i <;> rfl
theorem frm_zero (K : List Nat) : frm K 0 = K := by simp [frm]
noncomputable def normF {γ : Type} (ks bs : List Nat) (s : FQ) (k : FQ → γ) : γ :=
  bif sortedB ks && sortedB bs then
    keepR bs s.r ks 0 fun r => match bs with
      | [] => k ⟨r, s.m⟩
      | b :: bs => freeM (b :: bs) s.m (b :: bs) 0 fun m => k ⟨r, m⟩
  else toFk (normQ ks bs (ofF s)) k
theorem scrubQ_nil (b : Bk) : scrubQ [] b = b := by cases b <;> simp [scrubQ, scrubs_nil]
theorem normF_eq {γ : Type} (ks bs : List Nat) (s : Q) (k : FQ → γ) : normF ks bs (toF s) k = k (toF (normQ ks bs s)) := by
  unfold normF
  cases h : sortedB ks && sortedB bs with
  | false => simp only [cond_false, toFk_eq, ofF_toF]
  | true =>
    simp only [Bool.and_eq_true] at h
    have hk := sortedB_pw h.1
    have hb := sortedB_pw h.2
    simp only [cond_true]
    have h1 := fun k => keepR_eq (γ := γ) bs hk s.t.length s.t 0 k (Nat.le_refl _)
    rw [frm_zero] at h1
    show keepR bs (toRn s.t.length s.t) ks 0 _ = _
    rw [h1]
    have hr : toRn s.t.length (scrubs bs (keepT ks 0 s.t)) = toR (normQ ks bs s).t := by
      show _ = toRn (scrubs bs (kill ks s.t)).length (scrubs bs (kill ks s.t))
      rw [scrubs_len, show kill ks s.t = keepT ks 0 s.t from rfl, keepT_len]
    rw [hr]
    cases bs with
    | nil =>
      have hm : (normQ ks [] s).m = s.m := by
        show (freeQ [] s.m).map (scrubQ []) = s.m
        have : scrubQ [] = id := funext scrubQ_nil
        rw [this, List.map_id]
        rfl
      show k ⟨_, s.m⟩ = k ⟨_, (normQ ks [] s).m⟩
      rw [hm]
    | cons b bs =>
      have h2 := fun k => freeM_eq (γ := γ) (b :: bs) hb s.m 0 k
      rw [frm_zero] at h2
      show freeM (b :: bs) s.m (b :: bs) 0 _ = _
      rw [h2, freeT_eq]
      rfl
noncomputable def fsC (call : CallF α) (sh : Nat → Option (List CK)) (lp : LoopF α) (n : Nat) : ACode → FQ → (Ext → FQ → Option α) → Option α :=
  Nat.rec (motive := fun _ => ACode → FQ → (Ext → FQ → Option α) → Option α) (fun _ _ _ => none)
    (fun _ ih c s kk => match c with
    | .skip => kk .normal s
    | .ops l => fsOps call sh l s fun s' => kk .normal s'
    | .seq a b => ih a s fun e s' => match e with
      | .normal => ih b s' kk
      | e => kk e s'
    | .cond c a b => match getF s.r c with
      | .p (.bool v) => bif v then ih a s kk else ih b s kk
      | _ => none
    | .block id ks bs c => match lp id with
      | some F => F (headN (.block id ks bs c) (ofF s)) fun e s' => toFk s' (kk e)
      | none => ih c s fun e s' => match e with
        | .exit i => bif i == id then normF ks bs s' (kk .normal) else kk (.exit i) s'
        | .normal => normF ks bs s' (kk .normal)
        | e => kk e s'
    | .node id ki bi ks bs c => match lp id with
      | some F => F (headN (.node id ki bi ks bs c) (ofF s)) fun e s' => toFk s' (kk e)
      | none => normF ki bi s fun s => ih c s fun e s' => match e with
        | .normal => normF ks bs s' (kk .normal)
        | e => kk e s'
    | .loop ks bs c => normF ks bs s fun s => ih c s fun e s' => match e with
      | .normal => ih (.loop ks bs c) s' kk
      | e => kk e s'
    | .rnd ks bs c => ih c s fun e s' => normF ks bs s' (kk e)
    | .exit id => kk (.exit id) s
    | .ret ks bs => normF ks bs s (kk .ret)) n
theorem fsC_eq {call : CallF α} {sh : Nat → Option (List CK)} {lp : LoopF α} : ∀ {n : Nat} {c : ACode} {s : Q} {kk : Ext → FQ → Option α}, fsC call sh lp n c (toF s) kk = semC call sh lp n c s (fun e s' => kk e (toF s'))
  | 0, _, _, _ => rfl
  | n + 1, c, s, kk => by
    have ih : ∀ {c : ACode} {s : Q} {kk : Ext → FQ → Option α}, fsC call sh lp n c (toF s) kk = semC call sh lp n c s (fun e s' => kk e (toF s')) := fsC_eq
    cases c with
    | skip => rfl
    | exit i => rfl
    | ops l => exact fsOps_eq
    | seq a b =>
      show fsC call sh lp n a (toF s) _ = semC call sh lp n a s _
      rw [ih]
      congr 1
      funext e s'
      cases e with
      | normal => exact ih
      | exit i => rfl
      | ret => rfl
    | cond c a b =>
      show (match getF (toR s.t) c with
        | .p (.bool v) => bif v then fsC call sh lp n a (toF s) kk else fsC call sh lp n b (toF s) kk
        | _ => none) = _
      rw [getF_eq]
      simp only [semC, ih]
    | block id ks bs c =>
      show (match lp id with
        | some F => F (headN (.block id ks bs c) (ofF (toF s))) fun e s' => toFk s' (kk e)
        | none => fsC call sh lp n c (toF s) fun e s' => match e with
          | .exit i => bif i == id then normF ks bs s' (kk .normal) else kk (.exit i) s'
          | .normal => normF ks bs s' (kk .normal)
          | e => kk e s') = _
      simp only [semC, ofF_toF, toFk_eq]
      cases lp id with
      | some F => rfl
      | none =>
        simp only [ih]
        congr 1
        funext e s'
        cases e with
        | normal => exact normF_eq _ _ _ _
        | exit i =>
          simp only
          cases i == id with
          | true => exact normF_eq _ _ _ _
          | false => rfl
        | ret => rfl
    | node id ki bi ks bs c =>
      show (match lp id with
        | some F => F (headN (.node id ki bi ks bs c) (ofF (toF s))) fun e s' => toFk s' (kk e)
        | none => normF ki bi (toF s) fun s => fsC call sh lp n c s fun e s' => match e with
          | .normal => normF ks bs s' (kk .normal)
          | e => kk e s') = _
      simp only [semC, ofF_toF, toFk_eq, normF_eq]
      cases lp id with
      | some F => rfl
      | none =>
        simp only [ih]
        congr 1
        funext e s'
        cases e with
        | normal => exact normF_eq _ _ _ _
        | exit i => rfl
        | ret => rfl
    | loop ks bs c =>
      show (normF ks bs (toF s) fun s => fsC call sh lp n c s fun e s' => match e with
        | .normal => fsC call sh lp n (.loop ks bs c) s' kk
        | e => kk e s') = _
      simp only [semC, normF_eq, ih]
    | rnd ks bs c =>
      show (fsC call sh lp n c (toF s) fun e s' => normF ks bs s' (kk e)) = _
      simp only [semC, ih, normF_eq]
    | ret ks bs =>
      show normF ks bs (toF s) (kk .ret) = _
      simp only [semC, normF_eq]
noncomputable def goC (call : CallF α) (sh : Nat → Option (List CK)) (lp : LoopF α) (n : Nat) (c : ACode) (s : Q) (kk : Ext → Q → Option α) : Option α :=
  toFk s fun s => fsC call sh lp n c s fun e s' => kk e (ofF s')
theorem goC_eq {call : CallF α} {sh : Nat → Option (List CK)} {lp : LoopF α} {n : Nat} {c : ACode} {s : Q} {kk : Ext → Q → Option α} : goC call sh lp n c s kk = semC call sh lp n c s kk := by
  unfold goC
  rw [toFk_eq, fsC_eq]
  simp only [ofF_toF]
theorem goC_some {call : CallF α} (hc : CallFOK call (run env)) {sh : Nat → Option (List CK)} {lp : LoopF α} {n : Nat} {c : ACode} {s : Q} {kk : Ext → Q → Option α} {r : α} (hl : LoopsOK env lp c) (h : goC call sh lp n c s kk = some r) : ∃ e s', ex env c s.x = some (e, Q.x s') ∧ kk e s' = some r :=
  semC_some hc hl (goC_eq ▸ h)
theorem foldr_pure (g : AV → Option PV) (hg : ∀ v, g (.p v) = some v) : ∀ (cs : List PV), (cs.map AV.p).foldr (fun x r => match g x, r with
      | some y, some ys => some (y :: ys)
      | _, _ => none) (some []) = some cs
  | [] => rfl
  | c :: cs => by simp only [List.map_cons, List.foldr_cons, foldr_pure g hg cs, hg]
def endQ1 (k : Nat) (m : List Bk) (v : AV) (f : PV → Option α) : Option α := match v with
  | .msl b o len sz => match m[b]? with
    | some (.pcs _ cs) => need (o + len * sz ≤ cs.length) <| f (.list len ((cs.drop o).take (len * sz)))
    | _ => bindO (endA (xm m) (k + 2) (.msl b o len sz)) f
  | .loc b o => match m[b]? with
    | some (.pcs _ cs) => f (.imm cs o)
    | _ => bindO (endA (xm m) (k + 2) (.loc b o)) f
  | .vap b n _ => match m[b]? with
    | some (.vec _ n' _ cs) => need (n' = n) <| f (.list n cs)
    | _ => none
  | v => match endA (xm m) (k + 2) v with
    | some x => f x
    | none => none
theorem endQ1_some {k : Nat} {m : List Bk} {v : AV} {f : PV → Option α} {r : α} (h : endQ1 k m v f = some r) : ∃ x, endA (xm m) (k + 2) v = some x ∧ f x = some r := by
  have hp : ∀ v, endA (xm m) (k + 1) (.p v) = some v := fun v => by simp [endA]
  unfold endQ1 at h
  split at h
  · split at h
    · rename_i b o len sz _ wr cs hb
      obtain ⟨h0, h⟩ := need_some h
      refine ⟨_, ?_, h⟩
      have hb' : (xm m)[b]? = some (.cells wr (cs.map .p)) := by rw [xm_get, hb]; rfl
      rw [endA]
      simp only [hb']
      erw [foldr_pure _ hp]
      simp only [sub, if_pos h0, Option.map_some]
    · exact bindO_some h
  · split at h
    · rename_i b o _ wr cs hb
      refine ⟨_, ?_, h⟩
      have hb' : (xm m)[b]? = some (.cells wr (cs.map .p)) := by rw [xm_get, hb]; rfl
      rw [endA]
      simp only [hb']
      erw [foldr_pure _ hp]
      rfl
    · exact bindO_some h
  · rename_i b n sz
    split at h <;> try (cases h; done)
    rename_i wr n' s cs hb
    obtain ⟨hn, h⟩ := need_some h
    refine ⟨_, ?_, h⟩
    have hb' : (xm m)[b]? = some (.vec wr n' s cs) := by rw [xm_get, hb]; rfl
    rw [endA]
    simp only [hb', if_pos hn]
  · split at h <;> try (cases h; done)
    rename_i x hx
    exact ⟨x, hx, h⟩
def endQs (m : List Bk) : List AV → (List PV → Option α) → Option α
  | [], f => f []
  | v :: vs, f => endQ1 5 m v fun x => endQs m vs fun xs => f (x :: xs)
theorem endQs_some {m : List Bk} : ∀ {vs : List AV} {f : List PV → Option α} {r : α}, endQs m vs f = some r → ∃ xs, vs.foldr (fun x r => match endA (xm m) 7 x, r with
      | some y, some ys => some (y :: ys)
      | _, _ => none) (some []) = some xs ∧ f xs = some r
  | [], f, r, h => ⟨[], rfl, h⟩
  | v :: vs, f, r, h => by
    simp only [endQs] at h
    obtain ⟨x, h1, h2⟩ := endQ1_some h
    obtain ⟨xs, h3, h4⟩ := endQs_some h2
    refine ⟨x :: xs, ?_, h4⟩
    simp only [List.foldr_cons, h1, h3]
def endQ (m : List Bk) (v : AV) (f : PV → Option α) : Option α := match v with
  | .agg cs => endQs m cs fun xs => f (.agg xs)
  | v => endQ1 6 m v f
theorem endQ_some {m : List Bk} {v : AV} {f : PV → Option α} {r : α} (h : endQ m v f = some r) : ∃ x, endA (xm m) 8 v = some x ∧ f x = some r := by
  unfold endQ at h
  split at h
  · rename_i cs
    obtain ⟨xs, h1, h2⟩ := endQs_some h
    refine ⟨_, ?_, h2⟩
    rw [endA]
    exact congrArg (Option.map PV.agg) h1
  · exact endQ1_some h
def semAll (s : Q) : List RSlot → (List PV → Option α) → Option α
  | [], f => f []
  | r :: rs, f => match resOf s.x r with
    | some v => endQ s.m v fun x => semAll s rs fun xs => f (x :: xs)
    | none => none
theorem semAll_some {s : Q} : ∀ {rs : List RSlot} {f : List PV → Option α} {r : α}, semAll s rs f = some r → ∃ xs, resAll s.x rs = some xs ∧ f xs = some r
  | [], f, r, h => ⟨[], rfl, h⟩
  | rr :: rs, f, r, h => by
    simp only [semAll] at h
    split at h <;> try (cases h; done)
    rename_i v hv
    obtain ⟨x, h1, h2⟩ := endQ_some h
    obtain ⟨xs, h3, h4⟩ := semAll_some h2
    have h1 : endA s.x.m 8 v = some x := h1
    exact ⟨x :: xs, by simp only [resAll, hv, h1, h3], h4⟩
def semRes (s : Q) (rs : List RSlot) (kk : RV → Option α) : Option α :=
  match s.m[(0 : Nat)]? with
  | some (.log _ _ n cs) => kk (.val (.list n cs))
  | _ =>
  match rs with
  | [r] => match resOf s.x r with
    | some (.app b n sz cs) => match s.m[b]? with
      | some (.buf n') => need (n' = n) (kk (.own n sz cs))
      | _ => none
    | some (.vap b n sz) => match s.m[b]? with
      | some (.vec true n' _ cs) => need (n' = n) (kk (.own n sz cs))
      | some (.vec false n' _ cs) => need (n' = n) (kk (.val (.list n cs)))
      | _ => none
    | some v => endQ s.m v fun x => kk (.val x)
    | none => none
  | rs => semAll s rs fun xs => kk (.val (.tup xs))
theorem semRes_some {s : Q} {rs : List RSlot} {kk : RV → Option α} {r : α} (h : semRes s rs kk = some r) : ∃ rv, result s.x rs = some rv ∧ kk rv = some r := by
  unfold semRes at h
  split at h
  · rename_i sh k n cs hm
    have hm' : s.x.m[(0 : Nat)]? = some (.log sh k n cs) := by show (xm s.m)[(0 : Nat)]? = _; rw [xm_get, hm]; rfl
    exact ⟨_, by unfold result; rw [hm'], h⟩
  rename_i hnl
  have hno : ∀ sh k n cs, s.x.m[(0 : Nat)]? ≠ some (.log sh k n cs) := by
    intro sh k n cs hm
    have hm : (xm s.m)[(0 : Nat)]? = some (.log sh k n cs) := hm
    rw [xm_get] at hm
    cases hb : s.m[(0 : Nat)]? with
    | none => rw [hb] at hm; cases hm
    | some b =>
      rw [hb] at hm
      cases b <;> simp [Bk.x] at hm
      exact hnl _ _ _ _ hb
  have hres1 : ∀ r, result s.x [r] = match resOf s.x r with
      | some (.app b n sz cs) => match s.x.m[b]? with
        | some (.buf n') => some (if n' = n then .own n sz cs else .val (.list n cs))
        | _ => some (.val (.list n cs))
      | some (.vap b n sz) => match s.x.m[b]? with
        | some (.vec true n' _ cs) => if n' = n then some (.own n sz cs) else Option.none
        | some (.vec false n' _ cs) => if n' = n then some (.val (.list n cs)) else Option.none
        | _ => Option.none
      | some v => match endA s.x.m 8 v with
        | some x => some (.val x)
        | Option.none => Option.none
      | Option.none => Option.none := by
    intro r
    unfold result
    split
    · rename_i hm; exact absurd hm (hno _ _ _ _)
    · rfl
  have hres2 : ∀ rs, (∀ r, rs ≠ [r]) → result s.x rs = match resAll s.x rs with
      | some xs => some (.val (.tup xs))
      | Option.none => Option.none := by
    intro rs hne
    unfold result
    split
    · rename_i hm; exact absurd hm (hno _ _ _ _)
    · split
      · exact absurd rfl (hne _)
      · rfl
  split at h
  · rw [hres1]
    split at h
    · rename_i hr
      split at h
      · rename_i b n sz cs _ n' hb
        obtain ⟨hn, h⟩ := need_some h
        have hb' : s.x.m[b]? = some (Blk.buf n') := by show (xm s.m)[b]? = _; rw [xm_get, hb]; rfl
        exact ⟨_, by simp only [hb', if_pos hn], h⟩
      · cases h
    · rename_i b n sz hr
      split at h
      · rename_i n' s1 cs hb
        obtain ⟨hn, h⟩ := need_some h
        have hb' : s.x.m[b]? = some (Blk.vec true n' s1 cs) := by show (xm s.m)[b]? = _; rw [xm_get, hb]; rfl
        exact ⟨_, by simp only [hb', if_pos hn], h⟩
      · rename_i n' s1 cs hb
        obtain ⟨hn, h⟩ := need_some h
        have hb' : s.x.m[b]? = some (Blk.vec false n' s1 cs) := by show (xm s.m)[b]? = _; rw [xm_get, hb]; rfl
        exact ⟨_, by simp only [hb', if_pos hn], h⟩
      · cases h
    · rename_i v hne hne2 hr
      obtain ⟨x, hx, h⟩ := endQ_some h
      have hx : endA s.x.m 8 v = some x := hx
      refine ⟨_, ?_, h⟩
      simp only [hx]
    · cases h
  · rename_i hne
    obtain ⟨xs, hxs, h⟩ := semAll_some h
    rw [hres2 _ hne]
    exact ⟨_, by rw [hxs], h⟩
def startQ (af : AFn) (args : List PV) : Q := match args with
  | .it sh (k + 1) :: r => ⟨.yv :: (r.map .p ++ List.replicate (af.nt - (r.length + 1)) .undef), .log sh k 0 [] :: List.replicate (af.nt - 1) .none⟩
  | args => ⟨args.map .p ++ List.replicate (af.nt - args.length) .undef, List.replicate af.nt .none⟩
theorem start_x (af : AFn) (args : List PV) : (startQ af args).x = start af args := by
  unfold startQ start
  split
  · simp [Q.x, xm, Bk.x]
  · simp [Q.x, xm, Bk.x]
def notIt0 : List PV → Bool
  | .it _ 0 :: _ => false
  | _ => true
def okArgs (af : AFn) (args : List PV) : Bool := (args.length == af.np) && (yOK af args && notIt0 args)
noncomputable def semF (call : CallF α) (sh : Nat → Option (List CK)) (lp : LoopF α) (n : Nat) (af : AFn) (args : List PV) (kk : RV → Option α) : Option α :=
  goC call sh lp n af.body (startQ af args) fun e s => match e with
    | .exit _ => none
    | _ => semRes s af.res kk
theorem semF_some {call : CallF α} (hc : CallFOK call (run env)) {sh : Nat → Option (List CK)} {lp : LoopF α} {n f : Nat} {af : AFn} {args : List PV} {kk : RV → Option α} {r : α} (hf : env f = some af) (hl : okArgs af args = true) (hlp : LoopsOK env lp af.body)
    (h : semF call sh lp n af args kk = some r) : ∃ rv, run env f args = some rv ∧ kk rv = some r := by
  unfold semF at h
  obtain ⟨e, s, h1, h2⟩ := goC_some hc hlp h
  rw [start_x] at h1
  simp only [okArgs, Bool.and_eq_true, beq_iff_eq] at hl
  rw [run_eq f args (fun sh caps e => by rw [e] at hl; simp [notIt0] at hl), hf]
  simp only [if_pos (And.intro hl.1 hl.2.1), h1]
  cases e with
  | exit _ => cases h2
  | normal => exact semRes_some h2
  | ret => exact semRes_some h2
def startBQ (af : AFn) (as : List AV) (ms : List Bk) : Option Q :=
  match rens (fun b => some (b + af.nt)) as, renBqs (fun b => some (b + af.nt)) ms with
  | some as', some ms' => some ⟨as' ++ List.replicate (af.nt - as.length) .undef, List.replicate af.nt .none ++ ms'⟩
  | _, _ => none
theorem startBQ_x {af : AFn} {as : List AV} {ms : List Bk} {s : Q} (h : startBQ af as ms = some s) : startB af as (xm ms) = some s.x := by
  unfold startBQ at h
  split at h <;> try (cases h; done)
  rename_i as' ms' h1 h2
  simp at h; subst h
  unfold startB
  simp only [h1, renBqs_x h2]
  simp [Q.x, xm, Bk.x]
def adBQ (m : List Bk) : Option Nat → List Bk
  | some a => [m.getD a .none]
  | none => []
theorem adBQ_x (m : List Bk) (a : Option Nat) : xm (adBQ m a) = adB (xm m) a := by
  cases a with
  | none => rfl
  | some a =>
    simp only [adBQ, adB, xm, List.map_cons, List.map_nil, List.getD_eq_getElem?_getD, List.getElem?_map]
    cases m[a]? <;> rfl
def semResB (nt k : Nat) (s : Q) (rs : List RSlot) (kk : AV → List Bk → Option α) : Option α :=
  bif s.m.length == nt + k then
  match rs with
  | [r] => match resOf s.x r with
    | some v => match renBqs (backOf nt k ((reachLq s.m deep v).find? (· < nt))) (s.m.drop nt ++ adBQ s.m ((reachLq s.m deep v).find? (· < nt))), ren (backOf nt k ((reachLq s.m deep v).find? (· < nt))) v with
      | some ms, some v' => kk v' ms
      | _, _ => none
    | none => none
  | rs => match (resRaw s.x rs).bind ps?, renBqs (backOf nt k none) (s.m.drop nt) with
    | some ps, some ms => kk (.p (.tup ps)) ms
    | _, _ => none
  else none
theorem semResB_some {nt k : Nat} {s : Q} {rs : List RSlot} {kk : AV → List Bk → Option α} {r : α} (h : semResB nt k s rs kk = some r) : ∃ v ms, resultB nt k s.x rs = some (v, xm ms) ∧ kk v ms = some r := by
  unfold semResB at h
  cases hl : s.m.length == nt + k with
  | false => rw [hl] at h; cases h
  | true =>
    rw [hl] at h
    simp only [cond_true] at h
    have hlen : s.x.m.length = nt + k := by simpa [Q.x, xm] using hl
    have hdrop : ∀ ad, s.x.m.drop nt ++ adB s.x.m ad = xm (s.m.drop nt ++ adBQ s.m ad) := fun ad => by
      show (xm s.m).drop nt ++ adB (xm s.m) ad = _
      rw [← adBQ_x]
      simp [xm]
    unfold resultB
    rw [if_pos hlen]
    split at h
    · rename_i r0
      split at h <;> try (cases h; done)
      rename_i v hv
      split at h <;> try (cases h; done)
      rename_i ms v' h1 h2
      refine ⟨v', ms, ?_, h⟩
      have ha : adoptOf nt s.x.m v = (reachLq s.m deep v).find? (· < nt) := by
        unfold adoptOf
        rw [reachLq_x]
        rfl
      simp only [hv, ha, hdrop, renBqs_x h1, h2]
    · rename_i hne
      split at h <;> try (cases h; done)
      rename_i ps ms h1 h2
      refine ⟨_, ms, ?_, h⟩
      have hd : s.x.m.drop nt = xm (s.m.drop nt) := by simp [Q.x, xm]
      split
      · exact absurd rfl (hne _)
      · simp only [h1, hd, renBqs_x h2]
def okB (af : AFn) (as : List AV) : Bool := (as.length == af.np) && (!af.rf && bsOK af.nt af.body)
noncomputable def semFB (call : CallF α) (sh : Nat → Option (List CK)) (lp : LoopF α) (n : Nat) (af : AFn) (as : List AV) (ms : List Bk) (kk : AV → List Bk → Option α) : Option α :=
  match startBQ af as ms with
  | some s0 => goC call sh lp n af.body s0 fun e s => match e with
    | .exit _ => none
    | _ => semResB af.nt ms.length s af.res kk
  | none => none
theorem semFB_some {call : CallF α} (hc : CallFOK call (run env)) {sh : Nat → Option (List CK)} {lp : LoopF α} {n f : Nat} {af : AFn} {as : List AV} {ms : List Bk} {kk : AV → List Bk → Option α} {r : α} (hf : env f = some af) (hl : okB af as = true) (hlp : LoopsOK env lp af.body)
    (h : semFB call sh lp n af as ms kk = some r) : ∃ v ms', (run env).ln f as (xm ms) = some (v, xm ms') ∧ kk v ms' = some r := by
  unfold semFB at h
  split at h <;> try (cases h; done)
  rename_i s0 hs0
  obtain ⟨e, s, h1, h2⟩ := goC_some hc hlp h
  simp only [okB, Bool.and_eq_true, beq_iff_eq, Bool.not_eq_true'] at hl
  have hlen : (xm ms).length = ms.length := by simp [xm]
  have fin : ∀ (he : e = .normal ∨ e = .ret), semResB af.nt ms.length s af.res kk = some r → ∃ v ms', (run env).ln f as (xm ms) = some (v, xm ms') ∧ kk v ms' = some r := fun he h => by
    obtain ⟨v, ms', h3, h4⟩ := semResB_some h
    exact ⟨v, ms', run_ln_of hf hl.1 hl.2.1 hl.2.2 (startBQ_x hs0) h1 he (by rw [hlen]; exact h3), h4⟩
  cases e with
  | exit _ => cases h2
  | normal => exact fin (.inl rfl) h2
  | ret => exact fin (.inr rfl) h2
end Gv
