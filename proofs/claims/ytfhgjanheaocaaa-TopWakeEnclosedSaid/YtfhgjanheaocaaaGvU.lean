/- What is known of functions and loops: typed results, tables, rules. -/
import Derived.Test.YtfhgjanheaocaaaGvT
namespace Gv
open Go
@[reducible] def CK.T : CK → Type
  | .int _ => Int
  | .bool => Bool
  | .str => ByteArray
  | .list => Nat × List PV
  | .any => PV
@[reducible] def Ty : List CK → Type
  | [] => Unit
  | [k] => k.T
  | k :: k' :: ks => k.T × Ty (k' :: ks)
def encC : (k : CK) → k.T → PV
  | .int k, x => .int k x
  | .bool, x => .bool x
  | .str, x => .str x
  | .list, x => .list x.1 x.2
  | .any, x => x
def decC : (k : CK) → PV → Option k.T
  | .int k, v => intC k (some v)
  | .bool, v => boolC (some v)
  | .str, v => strC (some v)
  | .list, v => listC (some v)
  | .any, v => some v
theorem decC_some : ∀ {k : CK} {v : PV} {y : k.T}, decC k v = some y → v = encC k y
  | .int k, v, y, h => by
    cases v <;> simp [decC, intC] at h
    obtain ⟨rfl, rfl⟩ := h
    rfl
  | .bool, v, y, h => by cases v <;> simp [decC, boolC] at h; subst h; rfl
  | .str, v, y, h => by cases v <;> simp [decC, strC] at h; subst h; rfl
  | .list, v, y, h => by cases v <;> simp [decC, listC] at h; subst h; rfl
  | .any, v, y, h => by simp [decC] at h; exact h
def encCs : (ks : List CK) → Ty ks → List PV
  | [], _ => []
  | [k], x => [encC k x]
  | k :: k' :: ks, x => encC k x.1 :: encCs (k' :: ks) x.2
def decCs : (ks : List CK) → List PV → Option (Ty ks)
  | [], l => match l with
    | [] => some ()
    | _ :: _ => none
  | [k], l => match l with
    | [v] => decC k v
    | _ => none
  | k :: k' :: ks, l => match l with
    | v :: l => bindO (decC k v) fun x => bindO (decCs (k' :: ks) l) fun y => some (x, y)
    | [] => none
theorem decCs_some : ∀ {ks : List CK} {l : List PV} {y : Ty ks}, decCs ks l = some y → l = encCs ks y
  | [], l, y, h => by
    cases l with
    | nil => rfl
    | cons _ _ => simp [decCs] at h
  | [k], l, y, h => by
    simp only [decCs] at h
    split at h
    · rw [decC_some h]; rfl
    · cases h
  | k :: k' :: ks, l, y, h => by
    simp only [decCs] at h
    split at h
    · obtain ⟨x, h1, h2⟩ := bindO_some h
      obtain ⟨z, h3, h4⟩ := bindO_some h2
      simp at h4
      subst h4
      rw [decC_some h1, decCs_some h3]
      rfl
    · cases h
inductive RSh where
  | one (k : CK)
  | agg (ks : List CK)
  | tup (l : List (Bool × List CK))
  deriving Inhabited
@[reducible] def appK : List CK → List CK → List CK
  | [], b => b
  | k :: a, b => k :: appK a b
@[reducible] def flatK : List (Bool × List CK) → List CK
  | [] => []
  | (_, ks) :: l => appK ks (flatK l)
@[reducible] def RSh.ks : RSh → List CK
  | .one k => [k]
  | .agg ks => ks
  | .tup l => flatK l
def cut : List (Bool × List CK) → List PV → List PV
  | [], _ => []
  | (true, ks) :: l, cs => .agg (cs.take ks.length) :: cut l (cs.drop ks.length)
  | (false, ks) :: l, cs => cs.take ks.length ++ cut l (cs.drop ks.length)
def uncut : List (Bool × List CK) → List PV → Option (List PV)
  | [], l => match l with
    | [] => some []
    | _ :: _ => none
  | (true, ks) :: l, vs => match vs with
    | .agg cs :: vs => bif cs.length == ks.length then bindO (uncut l vs) fun r => some (cs ++ r) else none
    | _ => none
  | (false, ks) :: l, vs => match ks, vs with
    | [_], v :: vs => bindO (uncut l vs) fun r => some (v :: r)
    | _, _ => none
theorem uncut_some : ∀ {l : List (Bool × List CK)} {vs cs : List PV}, uncut l vs = some cs → vs = cut l cs
  | [], vs, cs, h => by
    cases vs with
    | nil => rfl
    | cons _ _ => simp [uncut] at h
  | (true, ks) :: l, vs, cs, h => by
    simp only [uncut] at h
    split at h
    · rename_i cs' vs'
      cases hl : cs'.length == ks.length with
      | false => simp [hl] at h
      | true =>
        simp only [hl, cond_true] at h
        obtain ⟨r, h1, h2⟩ := bindO_some h
        simp at h2
        subst h2
        have hl : cs'.length = ks.length := by simpa using hl
        simp only [cut, ← hl, List.take_left, List.drop_left]
        rw [uncut_some h1]
    · cases h
  | (false, ks) :: l, vs, cs, h => by
    simp only [uncut] at h
    split at h
    · obtain ⟨r, h1, h2⟩ := bindO_some h
      simp at h2
      subst h2
      rw [uncut_some h1]
      simp [cut]
    · cases h
def encR : (r : RSh) → Ty r.ks → PV
  | .one k, y => encC k y
  | .agg ks, y => .agg (encCs ks y)
  | .tup l, y => .tup (cut l (encCs (flatK l) y))
def decR : (r : RSh) → PV → Option (Ty r.ks)
  | .one k, v => decC k v
  | .agg ks, v => match v with
    | .agg cs => decCs ks cs
    | _ => none
  | .tup l, v => match v with
    | .tup vs => bindO (uncut l vs) fun cs => decCs (flatK l) cs
    | _ => none
theorem decR_some : ∀ {r : RSh} {v : PV} {y : Ty r.ks}, decR r v = some y → v = encR r y
  | .one k, v, y, h => decC_some h
  | .agg ks, v, y, h => by
    simp only [decR] at h
    split at h
    · rw [decCs_some h]; rfl
    · cases h
  | .tup l, v, y, h => by
    simp only [decR] at h
    split at h
    · obtain ⟨cs, h1, h2⟩ := bindO_some h
      rw [uncut_some h1, decCs_some h2]
      rfl
    · cases h
noncomputable def Fn (env : Nat → Option AFn) (f : Nat) (r : RSh) (args : List PV) : Option (Ty r.ks) := bindO (run env f args) fun rv => decR r rv.pv
theorem Fn_some {env : Nat → Option AFn} {f : Nat} {r : RSh} {args : List PV} {y : Ty r.ks} (h : Fn env f r args = some y) : ∃ rv, run env f args = some rv ∧ rv.pv = encR r y := by
  obtain ⟨rv, h1, h2⟩ := bindO_some h
  exact ⟨rv, h1, decR_some h2⟩
abbrev FnT := Nat → (r : RSh) → List PV → Option (Ty r.ks)
abbrev ShT := Nat → Option (List CK)
def shOf : List (Nat × List CK) → ShT
  | [], _ => none
  | (i, ks) :: l, j => bif Nat.beq i j then some ks else shOf l j
variable {α : Type}
inductive XL : Type → Type 1 where
  | one {Y : Type} (X : Y → Ext × Q) : XL Y
  | more {Y Z : Type} (X : Y → Ext × Q) (r : XL Z) : XL (Y ⊕ Z)
def XL.go : {Y : Type} → XL Y → Y → (Ext → Q → Option α) → Option α
  | _, .one X, y, kk => kk (X y).1 (X y).2
  | _, .more X r, y, kk => match y with
    | .inl y => kk (X y).1 (X y).2
    | .inr z => r.go z kk
def XL.fn : {Y : Type} → XL Y → Y → Ext × Q
  | _, .one X, y => X y
  | _, .more X r, y => match y with
    | .inl y => X y
    | .inr z => r.fn z
theorem XL.go_fn : ∀ {Y : Type} (X : XL Y) (y : Y) (kk : Ext → Q → Option α), X.go y kk = kk (X.fn y).1 (X.fn y).2
  | _, .one _X, _y, _kk => rfl
  | _, .more _X _r, .inl _y, _kk => rfl
  | _, .more _X r, .inr z, kk => r.go_fn z kk
structure LoopO where
  id : Nat
  Y : Type
  L : Q → Option Y
  X : XL Y
def loopT : List LoopO → LoopF α
  | [], _ => none
  | o :: l, id => bif o.id == id then some fun s kk => bindO (o.L s) fun y => o.X.go y kk else loopT l id
def xe (p : Ext × Q) : Ext × S := (p.1, p.2.x)
inductive Entry where
  | out (f : Nat) (r : RSh)
  | inl (f : Nat) (af : AFn) (sh : ShT)
  | itr (f : Nat) (af : AFn) (sh : ShT)
  | tld (f np : Nat) (sh : List (Option Nat)) (g : List PV → Option (Nat × List PV))
  | inp (f : Nat) (af : AFn) (sh : ShT) (l : List LoopO)
mutual
def eqP : PV → PV → Bool
  | .int k n, .int k' n' => decide (k = k') && decide (n = n')
  | .bool b, .bool b' => b == b'
  | .agg cs, .agg cs' => eqPs cs cs'
  | .list n cs, .list n' cs' => decide (n = n') && eqPs cs cs'
  | .imm cs o, .imm cs' o' => decide (o = o') && eqPs cs cs'
  | .fn f cs, .fn f' cs' => decide (f = f') && eqPs cs cs'
  | _, _ => false
def eqPs : List PV → List PV → Bool
  | [], [] => true
  | c :: cs, c' :: cs' => eqP c c' && eqPs cs cs'
  | _, _ => false
end
mutual
theorem eqP_ok : ∀ {a b : PV}, eqP a b = true → a = b
  | .int k n, b, h => by cases b <;> simp [eqP] at h; obtain ⟨rfl, rfl⟩ := h; rfl
  | .bool x, b, h => by cases b <;> simp [eqP] at h; subst h; rfl
  | .agg cs, b, h => by cases b <;> simp [eqP] at h; rw [eqPs_ok h]
  | .list n cs, b, h => by cases b <;> simp [eqP] at h; obtain ⟨rfl, h⟩ := h; rw [eqPs_ok h]
  | .imm cs o, b, h => by cases b <;> simp [eqP] at h; obtain ⟨rfl, h⟩ := h; rw [eqPs_ok h]
  | .fn f cs, b, h => by cases b <;> simp [eqP] at h; obtain ⟨rfl, h⟩ := h; rw [eqPs_ok h]
  | .str _, b, h => by cases b <;> simp [eqP] at h
  | .tup _, b, h => by cases b <;> simp [eqP] at h
  | .nilF, b, h => by cases b <;> simp [eqP] at h
  | .nilL, b, h => by cases b <;> simp [eqP] at h
  | .it _ _, b, h => by cases b <;> simp [eqP] at h
theorem eqPs_ok : ∀ {a b : List PV}, eqPs a b = true → a = b
  | [], b, h => by cases b <;> simp [eqPs] at h; rfl
  | c :: cs, b, h => by
    cases b with
    | nil => simp [eqPs] at h
    | cons d ds =>
      simp only [eqPs, Bool.and_eq_true] at h
      rw [eqP_ok h.1, eqPs_ok h.2]
end
def yldR : RV → Option (Nat × List PV)
  | .val (.list n cs) => some (n, cs)
  | _ => none
def allR (r : Nat → Option (Nat × List PV)) (sz N : Nat) (cs : List PV) : Nat → Bool
  | 0 => true
  | k + 1 => (match r k with
    | some (n, ds) => decide (n = min (k + 1) N) && eqPs ds (cs.take (min (k + 1) N * sz))
    | none => false) && allR r sz N cs k
def itAll (r : Nat → Option (Nat × List PV)) (sz : Nat) : Option (Nat × List PV) := match r 1000 with
  | some (N, cs) => bif decide (N ≤ 1000) && decide (cs.length = N * sz) && allR r sz N cs (N + 1) then some (N, cs) else none
  | none => none
theorem allR_get {r : Nat → Option (Nat × List PV)} {sz N : Nat} {cs : List PV} : ∀ {n : Nat}, allR r sz N cs n = true → ∀ k, k < n → r k = some (min (k + 1) N, cs.take (min (k + 1) N * sz))
  | 0, _, k, hk => by omega
  | n + 1, h, k, hk => by
    simp only [allR, Bool.and_eq_true] at h
    by_cases he : k = n
    · subst he
      have h1 := h.1
      split at h1
      · rename_i m ds hr
        simp only [Bool.and_eq_true, decide_eq_true_eq] at h1
        rw [hr, h1.1, eqPs_ok h1.2]
      · cases h1
    · exact allR_get h.2 k (by omega)
def noR : Nat → List PV → (RV → Option α) → Option α := fun _ _ _ => none
def noLp : LoopF α := fun _ => none
mutual
noncomputable def callGo (F : FnT) (all : List Entry) : {α : Type} → Nat → List Entry → Nat → List PV → (RV → Option α) → Option α
  | _, 0, _, _, _, _ => none
  | _, _ + 1, [], _, _, _ => none
  | _, d + 1, .out g r :: l, f, args, kk => bif g == f then bindO (F g r args) fun y => kk (.val (encR r y)) else callGo F all d l f args kk
  | _, d + 1, .inl g af sh :: l, f, args, kk => bif g == f then bif okArgs af args then semF ⟨fun f args kk => callGo F all d all f args fun rv => kk rv.pv, noR, fun f as ms kk => callGoL F all d all f as ms kk⟩ sh noLp 400 af args kk else none else callGo F all d l f args kk
  | _, d + 1, .inp g af sh lo :: l, f, args, kk => bif g == f then bif okArgs af args then semF ⟨fun f args kk => callGo F all d all f args fun rv => kk rv.pv, noR, fun f as ms kk => callGoL F all d all f as ms kk⟩ sh (loopT lo) 400 af args kk else none else callGo F all d l f args kk
  | _, d + 1, .itr g af sh :: l, f, args, kk => bif g == f then (match args with
    | .it shp 0 :: caps => bindO (itAll (fun k => bif okArgs af (.it shp (k + 1) :: caps) then semF ⟨fun f args kk => callGo F all d all f args fun rv => kk rv.pv, noR, fun f as ms kk => callGoL F all d all f as ms kk⟩ sh noLp 400 af (.it shp (k + 1) :: caps) yldR else none) (shSize shp)) fun q => kk (.val (.list q.1 q.2))
    | _ => none) else callGo F all d l f args kk
  | _, d + 1, .tld g np sht G :: l, f, args, kk => bif g == f then (match args with
    | .it shp 0 :: caps => bif decide (caps.length + 1 = np) && decide (shp = sht) then bindO (G caps) (fun q => bif decide (q.1 ≤ 1000) && decide (q.2.length = q.1 * shSize sht) then kk (.val (.list q.1 q.2)) else none) else none
    | _ => none) else callGo F all d l f args kk
noncomputable def callGoL (F : FnT) (all : List Entry) : {α : Type} → Nat → List Entry → Nat → List AV → List Bk → (AV → List Bk → Option α) → Option α
  | _, 0, _, _, _, _, _ => none
  | _, _ + 1, [], _, _, _, _ => none
  | _, d + 1, .out g _ :: l, f, as, ms, kk => bif g == f then none else callGoL F all d l f as ms kk
  | _, d + 1, .inl g af sh :: l, f, as, ms, kk => bif g == f then bif okB af as then semFB ⟨fun f args kk => callGo F all d all f args fun rv => kk rv.pv, noR, fun f as ms kk => callGoL F all d all f as ms kk⟩ sh noLp 400 af as ms kk else none else callGoL F all d l f as ms kk
  | _, d + 1, .inp g af sh lo :: l, f, as, ms, kk => bif g == f then bif okB af as then semFB ⟨fun f args kk => callGo F all d all f args fun rv => kk rv.pv, noR, fun f as ms kk => callGoL F all d all f as ms kk⟩ sh (loopT lo) 400 af as ms kk else none else callGoL F all d l f as ms kk
  | _, d + 1, .itr g _ _ :: l, f, as, ms, kk => bif g == f then none else callGoL F all d l f as ms kk
  | _, d + 1, .tld g _ _ _ :: l, f, as, ms, kk => bif g == f then none else callGoL F all d l f as ms kk
end
noncomputable def callGoR (F : FnT) (all : List Entry) (d : Nat) : List Entry → Nat → List PV → (RV → Option α) → Option α
  | [], _, _, _ => none
  | .out g _ :: l, f, args, kk => bif g == f then none else callGoR F all d l f args kk
  | .inl g af sh :: l, f, args, kk => bif g == f then bif okArgs af args then semF ⟨fun f args kk => callGo F all d all f args fun rv => kk rv.pv, noR, fun f as ms kk => callGoL F all d all f as ms kk⟩ sh noLp 400 af args kk else none else callGoR F all d l f args kk
  | .inp g af sh lo :: l, f, args, kk => bif g == f then bif okArgs af args then semF ⟨fun f args kk => callGo F all d all f args fun rv => kk rv.pv, noR, fun f as ms kk => callGoL F all d all f as ms kk⟩ sh (loopT lo) 400 af args kk else none else callGoR F all d l f args kk
  | .itr g _ _ :: l, f, args, kk => bif g == f then none else callGoR F all d l f args kk
  | .tld g _ _ _ :: l, f, args, kk => bif g == f then none else callGoR F all d l f args kk
variable {env : Nat → Option AFn}
def LoopOOK (env : Nat → Option AFn) (c : ACode) (o : LoopO) : Prop := ∀ p ∈ blocksOf c, p.1 = o.id → ∀ s y, o.L s = some y → ex env p.2 s.x = some (xe (o.X.fn y))
theorem loopT_ok {c : ACode} : ∀ {l : List LoopO}, (∀ o ∈ l, LoopOOK env c o) → LoopsOK env (loopT l : LoopF α) c
  | [], _ => fun _ _ _ hF => by simp [loopT] at hF
  | o :: l, h => fun p hp F hF s kk r hr => by
    simp only [loopT] at hF
    by_cases hi : o.id = p.1
    · rw [show (o.id == p.1) = true by simpa using hi] at hF
      simp at hF
      subst hF
      obtain ⟨y, h1, h2⟩ := bindO_some hr
      have := h o (by simp) p hp hi.symm s y h1
      rw [o.X.go_fn] at h2
      exact ⟨_, _, this, h2⟩
    · rw [show (o.id == p.1) = false by simpa using hi] at hF
      exact loopT_ok (fun o ho => h o (by simp [ho])) p hp F hF s kk r hr
theorem noLp_ok {c : ACode} : LoopsOK env (noLp : LoopF α) c := fun _ _ _ hF => by simp [noLp] at hF
def EntOK (env : Nat → Option AFn) : Entry → Prop
  | .out _ _ => True
  | .inl f af _ => env f = some af
  | .itr f af _ => env f = some af
  | .tld f np sh g => env f = some (toldA np sh g)
  | .inp f af _ l => env f = some af ∧ ∀ o ∈ l, LoopOOK env af.body o
noncomputable def callP (F : FnT) (all : List Entry) (d : Nat) : CallF α := ⟨fun f args kk => callGo F all d all f args fun rv => kk rv.pv, fun f args kk => callGoR F all d all f args kk, fun f as ms kk => callGoL F all d all f as ms kk⟩
theorem yldR_some {rv : RV} {q : Nat × List PV} (h : yldR rv = some q) : rv = .val (.list q.1 q.2) := by
  unfold yldR at h
  split at h
  · cases h; rfl
  · cases h
theorem run_all {f : Nat} {sh : List (Option Nat)} {caps : List PV} {q : Nat × List PV} {r : Nat → Option (Nat × List PV)} (h : itAll r (shSize sh) = some q) (hr : ∀ k p, r k = some p → run env f (.it sh (k + 1) :: caps) = some (.val (.list p.1 p.2))) :
    run env f (.it sh 0 :: caps) = some (.val (.list q.1 q.2)) := by
  unfold itAll at h
  split at h <;> try (cases h; done)
  rename_i N cs h1
  cases hc : decide (N ≤ 1000) && decide (cs.length = N * shSize sh) && allR r (shSize sh) N cs (N + 1) with
  | false => rw [hc] at h; cases h
  | true =>
    rw [hc] at h
    cases h
    simp only [Bool.and_eq_true, decide_eq_true_eq] at hc
    refine run_it (N := N) (cs := cs) ⟨by simp only [big]; omega, hc.1.2, fun k hk => hr k _ (allR_get hc.2 k (by omega))⟩
theorem run_told {f np : Nat} {sh : List (Option Nat)} {g : List PV → Option (Nat × List PV)} {caps : List PV} {N : Nat} {cs : List PV} (he : env f = some (toldA np sh g)) (hl : caps.length + 1 = np) (hg : g caps = some (N, cs)) (hb : N ≤ big) (hc : cs.length = N * shSize sh) :
    run env f (.it sh 0 :: caps) = some (.val (.list N cs)) := by
  refine run_it (N := N) (cs := cs) ⟨hb, hc, fun k _ => (run_iff env).2 ⟨2, ?_⟩⟩
  rw [callN_fn env 1 f _ (fun sh caps e => by cases e), he]
  have h2 : (PV.it sh (k + 1) :: caps).length = (toldA np sh g).np ∧ yOK (toldA np sh g) (PV.it sh (k + 1) :: caps) = true := ⟨by simpa [toldA] using hl, by subst hl; simp [yOK, toldA]⟩
  simp only [if_pos h2, told_ex (call := callN env 1) (n := 0) hl hg rfl hb hc]
  rfl
mutual
theorem go_ok (all : List Entry) (ha : ∀ e ∈ all, EntOK env e) : ∀ {α : Type} (d : Nat) (l : List Entry), (∀ e ∈ l, EntOK env e) → ∀ f args (kk : RV → Option α) r, (∀ rv, kk rv = kk (.val rv.pv)) → callGo (Fn env) all d l f args kk = some r → ∃ rv, run env f args = some rv ∧ kk rv = some r
  | _, 0, _, _, f, args, kk, r, _, h => by simp [callGo] at h
  | _, d + 1, [], _, f, args, kk, r, _, h => by simp [callGo] at h
  | _, d + 1, .itr g af sh :: l, hl, f, args, kk, r, hk, h => by
    simp only [callGo] at h
    by_cases hg : g = f
    · subst hg
      simp only [beq_self_eq_true, cond_true] at h
      have he : env g = some af := hl (.itr g af sh) (by simp)
      split at h <;> try (cases h; done)
      rename_i shp caps
      obtain ⟨q, h1, h2⟩ := bindO_some h
      refine ⟨_, run_all h1 fun k p hp => ?_, h2⟩
      cases hln : okArgs af (.it shp (k + 1) :: caps) with
      | false => simp [hln] at hp
      | true =>
        simp only [hln, cond_true] at hp
        obtain ⟨rv, h3, h4⟩ := semF_some ⟨fun f args kk r h => (by
          obtain ⟨rv, h1, h2⟩ := go_ok all ha d all ha f args (fun rv => kk rv.pv) r (fun rv => by cases rv <;> rfl) h
          exact ⟨rv, h1, h2⟩), fun f args kk r h => by simp [noR] at h, fun f as ms kk r h => goL_ok all ha d all ha f as ms kk r h⟩ he hln noLp_ok hp
        rw [h3, yldR_some h4]
    · rw [show (g == f) = false by simpa using hg] at h
      exact go_ok all ha d l (fun e he => hl e (by simp [he])) f args kk r hk h
  | _, d + 1, .tld g np sht G :: l, hl, f, args, kk, r, hk, h => by
    simp only [callGo] at h
    by_cases hg : g = f
    · subst hg
      simp only [beq_self_eq_true, cond_true] at h
      have he : env g = some (toldA np sht G) := hl (.tld g np sht G) (by simp)
      split at h <;> try (cases h; done)
      rename_i shp caps
      by_cases hc : caps.length + 1 = np ∧ shp = sht
      · simp only [hc.1, hc.2, decide_true, Bool.and_self, cond_true] at h
        obtain ⟨q, h1, h2⟩ := bindO_some h
        by_cases hc2 : q.1 ≤ 1000 ∧ q.2.length = q.1 * shSize sht
        · simp only [hc2.1, hc2.2, decide_true, Bool.and_self, cond_true] at h2
          rw [hc.2]
          exact ⟨_, run_told he hc.1 h1 (by simp only [big]; omega) hc2.2, h2⟩
        · rw [show (decide (q.1 ≤ 1000) && decide (q.2.length = q.1 * shSize sht)) = false by rw [← Bool.not_eq_true]; simpa using hc2] at h2
          cases h2
      · rw [show (decide (caps.length + 1 = np) && decide (shp = sht)) = false by rw [← Bool.not_eq_true]; simpa using hc] at h
        cases h
    · rw [show (g == f) = false by simpa using hg] at h
      exact go_ok all ha d l (fun e he => hl e (by simp [he])) f args kk r hk h
  | _, d + 1, .out g rs :: l, hl, f, args, kk, r, hk, h => by
    simp only [callGo] at h
    by_cases hg : g = f
    · subst hg
      simp only [beq_self_eq_true, cond_true] at h
      obtain ⟨y, h1, h2⟩ := bindO_some h
      obtain ⟨rv, h3, h4⟩ := Fn_some h1
      exact ⟨rv, h3, by rw [hk rv, h4]; exact h2⟩
    · rw [show (g == f) = false by simpa using hg] at h
      exact go_ok all ha d l (fun e he => hl e (by simp [he])) f args kk r hk h
  | _, d + 1, .inl g af sh :: l, hl, f, args, kk, r, hk, h => by
    simp only [callGo] at h
    by_cases hg : g = f
    · subst hg
      simp only [beq_self_eq_true, cond_true] at h
      have he : env g = some af := hl (.inl g af sh) (by simp)
      cases hln : okArgs af args with
      | false => simp [hln] at h
      | true =>
        simp only [hln, cond_true] at h
        refine semF_some ⟨fun f args kk r h => ?_, fun f args kk r h => by simp [noR] at h, fun f as ms kk r h => goL_ok all ha d all ha f as ms kk r h⟩ he hln noLp_ok h
        obtain ⟨rv, h1, h2⟩ := go_ok all ha d all ha f args (fun rv => kk rv.pv) r (fun rv => by cases rv <;> rfl) h
        exact ⟨rv, h1, h2⟩
    · rw [show (g == f) = false by simpa using hg] at h
      exact go_ok all ha d l (fun e he => hl e (by simp [he])) f args kk r hk h
  | _, d + 1, .inp g af sh lo :: l, hl, f, args, kk, r, hk, h => by
    simp only [callGo] at h
    by_cases hg : g = f
    · subst hg
      simp only [beq_self_eq_true, cond_true] at h
      obtain ⟨he, ho⟩ : env g = some af ∧ ∀ o ∈ lo, LoopOOK env af.body o := hl (.inp g af sh lo) (by simp)
      cases hln : okArgs af args with
      | false => simp [hln] at h
      | true =>
        simp only [hln, cond_true] at h
        refine semF_some ⟨fun f args kk r h => ?_, fun f args kk r h => by simp [noR] at h, fun f as ms kk r h => goL_ok all ha d all ha f as ms kk r h⟩ he hln (loopT_ok ho) h
        obtain ⟨rv, h1, h2⟩ := go_ok all ha d all ha f args (fun rv => kk rv.pv) r (fun rv => by cases rv <;> rfl) h
        exact ⟨rv, h1, h2⟩
    · rw [show (g == f) = false by simpa using hg] at h
      exact go_ok all ha d l (fun e he => hl e (by simp [he])) f args kk r hk h
theorem goL_ok (all : List Entry) (ha : ∀ e ∈ all, EntOK env e) : ∀ {α : Type} (d : Nat) (l : List Entry), (∀ e ∈ l, EntOK env e) → ∀ f as ms (kk : AV → List Bk → Option α) r, callGoL (Fn env) all d l f as ms kk = some r → ∃ v ms', (run env).ln f as (xm ms) = some (v, xm ms') ∧ kk v ms' = some r
  | _, 0, _, _, f, as, ms, kk, r, h => by simp [callGoL] at h
  | _, d + 1, [], _, f, as, ms, kk, r, h => by simp [callGoL] at h
  | _, d + 1, .out g rs :: l, hl, f, as, ms, kk, r, h => by
    simp only [callGoL] at h
    by_cases hg : g = f
    · subst hg; simp at h
    · rw [show (g == f) = false by simpa using hg] at h
      exact goL_ok all ha d l (fun e he => hl e (by simp [he])) f as ms kk r h
  | _, d + 1, .inl g af sh :: l, hl, f, as, ms, kk, r, h => by
    simp only [callGoL] at h
    by_cases hg : g = f
    · subst hg
      simp only [beq_self_eq_true, cond_true] at h
      have he : env g = some af := hl (.inl g af sh) (by simp)
      cases hln : okB af as with
      | false => simp [hln] at h
      | true =>
        simp only [hln, cond_true] at h
        refine semFB_some ⟨fun f args kk r h => ?_, fun f args kk r h => by simp [noR] at h, fun f as ms kk r h => goL_ok all ha d all ha f as ms kk r h⟩ he hln noLp_ok h
        obtain ⟨rv, h1, h2⟩ := go_ok all ha d all ha f args (fun rv => kk rv.pv) r (fun rv => by cases rv <;> rfl) h
        exact ⟨rv, h1, h2⟩
    · rw [show (g == f) = false by simpa using hg] at h
      exact goL_ok all ha d l (fun e he => hl e (by simp [he])) f as ms kk r h
  | _, d + 1, .inp g af sh lo :: l, hl, f, as, ms, kk, r, h => by
    simp only [callGoL] at h
    by_cases hg : g = f
    · subst hg
      simp only [beq_self_eq_true, cond_true] at h
      obtain ⟨he, ho⟩ : env g = some af ∧ ∀ o ∈ lo, LoopOOK env af.body o := hl (.inp g af sh lo) (by simp)
      cases hln : okB af as with
      | false => simp [hln] at h
      | true =>
        simp only [hln, cond_true] at h
        refine semFB_some ⟨fun f args kk r h => ?_, fun f args kk r h => by simp [noR] at h, fun f as ms kk r h => goL_ok all ha d all ha f as ms kk r h⟩ he hln (loopT_ok ho) h
        obtain ⟨rv, h1, h2⟩ := go_ok all ha d all ha f args (fun rv => kk rv.pv) r (fun rv => by cases rv <;> rfl) h
        exact ⟨rv, h1, h2⟩
    · rw [show (g == f) = false by simpa using hg] at h
      exact goL_ok all ha d l (fun e he => hl e (by simp [he])) f as ms kk r h
  | _, d + 1, .itr g _ _ :: l, hl, f, as, ms, kk, r, h => by
    simp only [callGoL] at h
    by_cases hg : g = f
    · subst hg; simp at h
    · rw [show (g == f) = false by simpa using hg] at h
      exact goL_ok all ha d l (fun e he => hl e (by simp [he])) f as ms kk r h
  | _, d + 1, .tld g _ _ _ :: l, hl, f, as, ms, kk, r, h => by
    simp only [callGoL] at h
    by_cases hg : g = f
    · subst hg; simp at h
    · rw [show (g == f) = false by simpa using hg] at h
      exact goL_ok all ha d l (fun e he => hl e (by simp [he])) f as ms kk r h
end
theorem goR_ok (all : List Entry) (ha : ∀ e ∈ all, EntOK env e) (d : Nat) : ∀ (l : List Entry), (∀ e ∈ l, EntOK env e) → ∀ f args (kk : RV → Option α) r, callGoR (Fn env) all d l f args kk = some r → ∃ rv, run env f args = some rv ∧ kk rv = some r
  | [], _, f, args, kk, r, h => by simp [callGoR] at h
  | .out g rs :: l, hl, f, args, kk, r, h => by
    simp only [callGoR] at h
    by_cases hg : g = f
    · subst hg; simp at h
    · rw [show (g == f) = false by simpa using hg] at h
      exact goR_ok all ha d l (fun e he => hl e (by simp [he])) f args kk r h
  | .inl g af sh :: l, hl, f, args, kk, r, h => by
    simp only [callGoR] at h
    by_cases hg : g = f
    · subst hg
      simp only [beq_self_eq_true, cond_true] at h
      have he : env g = some af := hl (.inl g af sh) (by simp)
      cases hln : okArgs af args with
      | false => simp [hln] at h
      | true =>
        simp only [hln, cond_true] at h
        refine semF_some ⟨fun f args kk r h => ?_, fun f args kk r h => by simp [noR] at h, fun f as ms kk r h => goL_ok all ha d all ha f as ms kk r h⟩ he hln noLp_ok h
        obtain ⟨rv, h1, h2⟩ := go_ok all ha d all ha f args (fun rv => kk rv.pv) r (fun rv => by cases rv <;> rfl) h
        exact ⟨rv, h1, h2⟩
    · rw [show (g == f) = false by simpa using hg] at h
      exact goR_ok all ha d l (fun e he => hl e (by simp [he])) f args kk r h
  | .inp g af sh lo :: l, hl, f, args, kk, r, h => by
    simp only [callGoR] at h
    by_cases hg : g = f
    · subst hg
      simp only [beq_self_eq_true, cond_true] at h
      obtain ⟨he, ho⟩ : env g = some af ∧ ∀ o ∈ lo, LoopOOK env af.body o := hl (.inp g af sh lo) (by simp)
      cases hln : okArgs af args with
      | false => simp [hln] at h
      | true =>
        simp only [hln, cond_true] at h
        refine semF_some ⟨fun f args kk r h => ?_, fun f args kk r h => by simp [noR] at h, fun f as ms kk r h => goL_ok all ha d all ha f as ms kk r h⟩ he hln (loopT_ok ho) h
        obtain ⟨rv, h1, h2⟩ := go_ok all ha d all ha f args (fun rv => kk rv.pv) r (fun rv => by cases rv <;> rfl) h
        exact ⟨rv, h1, h2⟩
    · rw [show (g == f) = false by simpa using hg] at h
      exact goR_ok all ha d l (fun e he => hl e (by simp [he])) f args kk r h
  | .tld g np sht G :: l, hl, f, args, kk, r, h => by
    simp only [callGoR] at h
    by_cases hg : g = f
    · subst hg; simp at h
    · rw [show (g == f) = false by simpa using hg] at h
      exact goR_ok all ha d l (fun e he => hl e (by simp [he])) f args kk r h
  | .itr g af sh :: l, hl, f, args, kk, r, h => by
    simp only [callGoR] at h
    by_cases hg : g = f
    · subst hg; simp at h
    · rw [show (g == f) = false by simpa using hg] at h
      exact goR_ok all ha d l (fun e he => hl e (by simp [he])) f args kk r h
theorem callP_ok {all : List Entry} (ha : ∀ e ∈ all, EntOK env e) (d : Nat) : CallFOK (callP (Fn env) all d : CallF α) (run env) :=
  ⟨fun f args kk r h => go_ok all ha d all ha f args (fun rv => kk rv.pv) r (fun rv => by cases rv <;> rfl) h, fun f args kk r h => goR_ok all ha d all ha f args kk r h, fun f as ms kk r h => goL_ok all ha d all ha f as ms kk r h⟩
open Classical in
noncomputable def outc {Y : Type} (o : Option (Ext × S)) (X : Y → Ext × Q) : Option Y := if h : ∃ y, o = some (xe (X y)) then some h.choose else none
theorem outc_some {Y : Type} {o : Option (Ext × S)} {X : Y → Ext × Q} {y : Y} (h : outc o X = some y) : o = some (xe (X y)) := by
  unfold outc at h
  split at h
  · rename_i hx
    simp at h
    rw [← h]
    exact hx.choose_spec
  · cases h
theorem outc_of {Y : Type} {o : Option (Ext × S)} {X : Y → Ext × Q} (Xi : Ext × S → Y) (hi : ∀ y, Xi (xe (X y)) = y) {y : Y} (h : o = some (xe (X y))) : outc o X = some y := by
  have hx : ∃ y, o = some (xe (X y)) := ⟨y, h⟩
  unfold outc
  rw [dif_pos hx]
  have h1 : some (xe (X y)) = some (xe (X hx.choose)) := h.symm.trans hx.choose_spec
  have h2 := congrArg Xi (Option.some.inj h1)
  rw [hi, hi] at h2
  rw [← h2]
def lpId : ACode → Nat
  | .block id _ _ _ => id
  | _ => 0
def lpKb : ACode → List Nat
  | .block _ ks _ _ => ks
  | _ => []
def lpBb : ACode → List Nat
  | .block _ _ bs _ => bs
  | _ => []
def lpKs : ACode → List Nat
  | .block _ _ _ (.loop ks _ _) => ks
  | _ => []
def lpBs : ACode → List Nat
  | .block _ _ _ (.loop _ bs _) => bs
  | _ => []
def lpC : ACode → ACode
  | .block _ _ _ (.loop _ _ c) => c
  | _ => .skip
def isLp : ACode → Bool
  | .block _ _ _ (.loop _ _ _) => true
  | _ => false
theorem isLp_eq {b : ACode} (h : isLp b = true) : b = .block (lpId b) (lpKb b) (lpBb b) (.loop (lpKs b) (lpBs b) (lpC b)) := by
  unfold isLp at h
  split at h
  · rfl
  · cases h
noncomputable def semB (call : CallF (Ext × S)) (sh : ShT) (lp : LoopF (Ext × S)) (n : Nat) (b : ACode) (N : Q → Option (Ext × S)) (E : Ext × Q → Option (Ext × S)) (s : Q) : Option (Ext × S) :=
  goC call sh lp n (lpC b) s (fun e s' => match e with
      | .normal => N (normQ (lpKs b) (lpBs b) s')
      | .exit i => bif i == lpId b then E (.normal, normQ (lpKb b) (lpBb b) s') else E (.exit i, s')
      | .ret => E (.ret, s'))
theorem body_of {b : ACode} (hb : isLp b = true) {call : CallF (Ext × S)} (hc : CallFOK call (run env)) {sh : ShT} {lp : LoopF (Ext × S)} {n : Nat} {s : Q} {r : Ext × S} (hl : LoopsOK env lp (lpC b)) (hs : normQ (lpKs b) (lpBs b) s = s)
    (h : semB call sh lp n b (fun s => ex env b s.x) (fun p => some (xe p)) s = some r) : ex env b s.x = some r := by
  rw [isLp_eq hb]
  unfold semB at h
  obtain ⟨e, s', h1, h2⟩ := goC_some hc hl h
  rw [ex_block, ex_loop, ← norm_x, hs, h1]
  cases e with
  | normal =>
    have h2 : ex env b (normQ (lpKs b) (lpBs b) s').x = some r := h2
    rw [isLp_eq hb, norm_x] at h2
    rw [ex_block] at h2
    have e1 : lpKs (.block (lpId b) (lpKb b) (lpBb b) (.loop (lpKs b) (lpBs b) (lpC b))) = lpKs b := rfl
    have e2 : lpBs (.block (lpId b) (lpKb b) (lpBb b) (.loop (lpKs b) (lpBs b) (lpC b))) = lpBs b := rfl
    rw [e1, e2, ex_loop_norm] at h2
    exact h2
  | exit i =>
    have h2 : (bif i == lpId b then some (xe (Ext.normal, normQ (lpKb b) (lpBb b) s')) else some (xe (Ext.exit i, s'))) = some r := h2
    by_cases hi : i = lpId b
    · rw [show (i == lpId b) = true by simpa using hi] at h2
      simp only [if_pos hi, ← norm_x]
      exact h2
    · rw [show (i == lpId b) = false by simpa using hi] at h2
      simp only [if_neg hi]
      exact h2
  | ret => exact h2
def findB : List (Nat × ACode) → Nat → ACode
  | [], _ => .skip
  | p :: l, id => bif p.1 == id then p.2 else findB l id
def blkIn (c : ACode) (id : Nat) : ACode := findB (blocksOf c) id
def uniq : List Nat → Bool
  | [] => true
  | x :: l => !l.contains x && uniq l
theorem findB_of : ∀ {l : List (Nat × ACode)} {p : Nat × ACode}, uniq (l.map (·.1)) = true → p ∈ l → findB l p.1 = p.2
  | q :: l, p, hu, hp => by
    simp only [List.map_cons, uniq, Bool.and_eq_true, Bool.not_eq_true', List.contains_eq_mem, decide_eq_false_iff_not] at hu
    simp only [findB]
    rcases List.mem_cons.1 hp with rfl | hp
    · simp
    · have hne : q.1 ≠ p.1 := fun e => hu.1 (by rw [e]; exact List.mem_map_of_mem hp)
      rw [show (q.1 == p.1) = false by simpa using hne]
      exact findB_of hu.2 hp
theorem blocks_in : ∀ {c : ACode} {p : Nat × ACode}, p ∈ blocksOf c → ∀ q ∈ blocksOf p.2, q ∈ blocksOf c
  | .seq a b, p, hp, q, hq => by
    simp only [blocksOf, List.mem_append] at hp ⊢
    rcases hp with hp | hp
    · exact .inl (blocks_in hp q hq)
    · exact .inr (blocks_in hp q hq)
  | .cond _ a b, p, hp, q, hq => by
    simp only [blocksOf, List.mem_append] at hp ⊢
    rcases hp with hp | hp
    · exact .inl (blocks_in hp q hq)
    · exact .inr (blocks_in hp q hq)
  | .block id ks bs c, p, hp, q, hq => by
    simp only [blocksOf, List.mem_cons] at hp
    rcases hp with rfl | hp
    · exact hq
    · simp only [blocksOf, List.mem_cons]
      exact .inr (blocks_in hp q hq)
  | .node id ki bi ks bs c, p, hp, q, hq => by
    simp only [blocksOf, List.mem_cons] at hp
    rcases hp with rfl | hp
    · exact hq
    · simp only [blocksOf, List.mem_cons]
      exact .inr (blocks_in hp q hq)
  | .loop _ _ c, p, hp, q, hq => by
    simp only [blocksOf] at hp ⊢
    exact blocks_in hp q hq
  | .rnd _ _ c, p, hp, q, hq => by
    simp only [blocksOf] at hp ⊢
    exact blocks_in hp q hq
  | .skip, _, hp, _, _ => by simp [blocksOf] at hp
  | .ops _, _, hp, _, _ => by simp [blocksOf] at hp
  | .exit _, _, hp, _, _ => by simp [blocksOf] at hp
  | .ret _ _, _, hp, _, _ => by simp [blocksOf] at hp
theorem findB_mem : ∀ {l : List (Nat × ACode)} {id : Nat}, findB l id ≠ .skip → ∃ p ∈ l, findB l id = p.2
  | [], id, h => by simp [findB] at h
  | q :: l, id, h => by
    simp only [findB] at h ⊢
    cases hq : q.1 == id with
    | true => exact ⟨q, by simp, by simp⟩
    | false =>
      rw [hq] at h
      obtain ⟨p, h1, h2⟩ := findB_mem (l := l) (id := id) h
      exact ⟨p, by simp [h1], h2⟩
theorem within_in {c : ACode} {id : Nat} (hb : blkIn c id ≠ .skip) : ∀ q ∈ blocksOf (blkIn c id), q ∈ blocksOf c := by
  intro q hq
  obtain ⟨p, h1, h2⟩ := findB_mem hb
  have h2 : blkIn c id = p.2 := h2
  rw [h2] at hq
  exact blocks_in h1 q hq
theorem inner_in {c : ACode} {id : Nat} (hb : isLp (blkIn c id) = true) : ∀ q ∈ blocksOf (lpC (blkIn c id)), q ∈ blocksOf c := by
  intro q hq
  refine within_in (id := id) (by intro e; rw [e] at hb; cases hb) q ?_
  rw [isLp_eq hb]
  simp only [blocksOf, List.mem_cons]
  exact .inr hq
def ndId : ACode → Nat
  | .node id _ _ _ _ _ => id
  | _ => 0
def ndKi : ACode → List Nat
  | .node _ k _ _ _ _ => k
  | _ => []
def ndBi : ACode → List Nat
  | .node _ _ k _ _ _ => k
  | _ => []
def ndKb : ACode → List Nat
  | .node _ _ _ k _ _ => k
  | _ => []
def ndBb : ACode → List Nat
  | .node _ _ _ _ k _ => k
  | _ => []
def ndC : ACode → ACode
  | .node _ _ _ _ _ c => c
  | _ => .skip
def isNd : ACode → Bool
  | .node _ _ _ _ _ _ => true
  | _ => false
theorem isNd_eq {b : ACode} (h : isNd b = true) : b = .node (ndId b) (ndKi b) (ndBi b) (ndKb b) (ndBb b) (ndC b) := by
  unfold isNd at h
  split at h
  · rfl
  · cases h
theorem node_in {c : ACode} {id : Nat} (hb : isNd (blkIn c id) = true) : ∀ q ∈ blocksOf (ndC (blkIn c id)), q ∈ blocksOf c := by
  intro q hq
  refine within_in (id := id) (by intro e; rw [e] at hb; cases hb) q ?_
  rw [isNd_eq hb]
  simp only [blocksOf, List.mem_cons]
  exact .inr hq
noncomputable def semN (call : CallF (Ext × S)) (sh : ShT) (lp : LoopF (Ext × S)) (n : Nat) (b : ACode) (E : Ext × Q → Option (Ext × S)) (s : Q) : Option (Ext × S) :=
  goC call sh lp n (ndC b) s (fun e s' => match e with
      | .normal => E (.normal, normQ (ndKb b) (ndBb b) s')
      | e => E (e, s'))
theorem part_of {b : ACode} (hb : isNd b = true) {call : CallF (Ext × S)} (hc : CallFOK call (run env)) {sh : ShT} {lp : LoopF (Ext × S)} {n : Nat} {s : Q} {r : Ext × S} (hl : LoopsOK env lp (ndC b)) (hs : normQ (ndKi b) (ndBi b) s = s)
    (h : semN call sh lp n b (fun p => some (xe p)) s = some r) : ex env b s.x = some r := by
  rw [isNd_eq hb]
  unfold semN at h
  obtain ⟨e, s', h1, h2⟩ := goC_some hc hl h
  rw [ex_node, ← norm_x, hs, h1]
  cases e with
  | normal =>
    have h2 : some (xe (Ext.normal, normQ (ndKb b) (ndBb b) s')) = some r := h2
    rw [← h2]
    simp only [xe, norm_x]
  | exit i => exact h2
  | ret => exact h2
noncomputable def lpO (env : Nat → Option AFn) (c : ACode) (id : Nat) {Y : Type} (X : XL Y) : Q → Option Y := fun s => outc (ex env (blkIn c id) s.x) X.fn
theorem lpO_ok {c : ACode} (hu : uniq ((blocksOf c).map (·.1)) = true) {id : Nat} {Y : Type} {X : XL Y} : LoopOOK env c ⟨id, Y, lpO env c id X, X⟩ := by
  intro p hp hid s y hy
  have this : ex env (findB (blocksOf c) id) s.x = some (xe (X.fn y)) := outc_some hy
  have hid : p.1 = id := hid
  rw [← hid, findB_of hu hp] at this
  exact this
theorem lps_ok {c : ACode} {l : List LoopO} (h : ∀ o ∈ l, LoopOOK env c o) : LoopsOK env (loopT l : LoopF α) c := loopT_ok h
theorem lps_nd {c : ACode} {id : Nat} (hb : isNd (blkIn c id) = true) {l : List LoopO} (h : ∀ o ∈ l, LoopOOK env c o) : LoopsOK env (loopT l : LoopF α) (ndC (blkIn c id)) :=
  loopT_ok fun o ho p hp => h o ho p (node_in hb p hp)
theorem lps_in {c : ACode} {id : Nat} (hb : isLp (blkIn c id) = true) {l : List LoopO} (h : ∀ o ∈ l, LoopOOK env c o) : LoopsOK env (loopT l : LoopF α) (lpC (blkIn c id)) :=
  loopT_ok fun o ho p hp => h o ho p (inner_in hb p hp)
theorem fn_of {es : List Entry} (he : ∀ e ∈ es, EntOK env e) {d : Nat} {sh : ShT} {ls : List LoopO} {n f : Nat} {af : AFn} {args : List PV} {rs : RSh} {y : Ty rs.ks} (hf : env f = some af) (hl : okArgs af args = true) (hlp : ∀ o ∈ ls, LoopOOK env af.body o)
    (h : semF (callP (Fn env) es d) sh (loopT ls) n af args (fun rv => decR rs rv.pv) = some y) : Fn env f rs args = some y := by
  obtain ⟨rv, h1, h2⟩ := semF_some (callP_ok he d) hf hl (lps_ok hlp) h
  unfold Fn
  rw [h1]
  exact h2
noncomputable def lpR (env : Nat → Option AFn) (c : ACode) (id : Nat) : Q → Option (Ext × S) := fun s => ex env (blkIn c id) s.x
def exO : Ext × Q → Option (Ext × S) := fun p => some (xe p)
theorem lp_of {es : List Entry} (he : ∀ e ∈ es, EntOK env e) {d : Nat} {sh : ShT} {ls : List LoopO} {n id : Nat} {c : ACode} {s : Q} {r : Ext × S} (hb : isLp (blkIn c id) = true) (hlp : ∀ o ∈ ls, LoopOOK env c o) (hs : normQ (lpKs (blkIn c id)) (lpBs (blkIn c id)) s = s)
    (h : semB (callP (Fn env) es d) sh (loopT ls) n (blkIn c id) (lpR env c id) exO s = some r) : lpR env c id s = some r :=
  body_of hb (callP_ok he d) (lps_in hb hlp) hs h
theorem nd_of {es : List Entry} (he : ∀ e ∈ es, EntOK env e) {d : Nat} {sh : ShT} {ls : List LoopO} {n id : Nat} {c : ACode} {s : Q} {r : Ext × S} (hb : isNd (blkIn c id) = true) (hlp : ∀ o ∈ ls, LoopOOK env c o) (hs : normQ (ndKi (blkIn c id)) (ndBi (blkIn c id)) s = s)
    (h : semN (callP (Fn env) es d) sh (loopT ls) n (blkIn c id) exO s = some r) : lpR env c id s = some r :=
  part_of hb (callP_ok he d) (lps_nd hb hlp) hs h
theorem lpO_of {c : ACode} {id : Nat} {Y : Type} {X : XL Y} (Xi : Ext × S → Y) (hi : ∀ y, Xi (xe (X.fn y)) = y) {s : Q} {y : Y} (h : lpR env c id s = exO (X.fn y)) : lpO env c id X s = some y :=
  outc_of Xi hi h
def tm : Nat → List (Nat × AV) → List AV
  | n, [] => List.replicate n .bad
  | n, (i, v) :: l => (tm n l).set i v
def mm : Nat → List (Nat × Bk) → List Bk
  | n, [] => List.replicate n .none
  | n, (i, v) :: l => (mm n l).set i v
def w64 (x : Int) : Int := IntKind.wrap .i64 x
def avT (s : S) (i : Nat) : AV := s.t.getD i .bad
def avM (s : S) (i : Nat) : Blk := s.m.getD i .none
def hdA (l : List AV) : AV := l.headD .bad
def hdP (l : List PV) : PV := l.headD .nilF
def pA_p : AV → PV | .p v => v | _ => .nilF
def pA_loc1 : AV → Nat | .loc _ o => o | _ => 0
def pA_msl1 : AV → Nat | .msl _ o _ _ => o | _ => 0
def pA_msl2 : AV → Nat | .msl _ _ n _ => n | _ => 0
def pA_lit0 : AV → Nat | .lit n _ _ => n | _ => 0
def pA_lit2 : AV → List PV | .lit _ _ cs => cs | _ => []
def pA_app1 : AV → Nat | .app _ n _ _ => n | _ => 0
def pA_app3 : AV → List PV | .app _ _ _ cs => cs | _ => []
def pA_agg0 : AV → List AV | .agg cs => cs | _ => []
def pA_clo1 : AV → List AV | .clo _ cs => cs | _ => []
def pP_int1 : PV → Int | .int _ n => n | _ => 0
def pP_bool0 : PV → Bool | .bool b => b | _ => false
def pP_str0 : PV → ByteArray | .str s => s | _ => .empty
def pP_agg0 : PV → List PV | .agg cs => cs | _ => []
def pP_tup0 : PV → List PV | .tup cs => cs | _ => []
def pP_list0 : PV → Nat | .list n _ => n | _ => 0
def pP_list1 : PV → List PV | .list _ cs => cs | _ => []
def pP_imm0 : PV → List PV | .imm cs _ => cs | _ => []
def pP_imm1 : PV → Nat | .imm _ o => o | _ => 0
def pP_fn1 : PV → List PV | .fn _ cs => cs | _ => []
def pB_cells1 : Blk → List AV | .cells _ cs => cs | _ => []
def pB_pcs1 (b : Blk) : List PV := (pB_cells1 b).map pA_p
theorem map_back (cs : List PV) : (cs.map AV.p).map pA_p = cs := by simp [Function.comp_def, pA_p]
def pB_buf0 : Blk → Nat | .buf n => n | _ => 0
def cA : AV → Nat | .p _ => 0 | .nilS => 1 | .loc _ _ => 2 | .msl _ _ _ _ => 3 | .lit _ _ _ => 4 | .app _ _ _ _ => 5 | .agg _ => 6 | .clo _ _ => 7 | .undef => 8 | .bad => 9 | .yv => 10 | .vap _ _ _ => 11 | .vlc _ _ _ => 12
def cP : PV → Nat | .int _ _ => 0 | .bool _ => 1 | .str _ => 2 | .agg _ => 3 | .tup _ => 4 | .list _ _ => 5 | .imm _ _ => 6 | .fn _ _ => 7 | .nilF => 8 | .it _ _ => 9 | .nilL => 10
def cB : Blk → Nat | .none => 0 | .cells _ _ => 1 | .buf _ => 2 | .log _ _ _ _ => 3 | .vec _ _ _ _ => 4
def pA_vap1 : AV → Nat | .vap _ n _ => n | _ => 0
def pA_vlc1 : AV → Nat | .vlc _ n _ => n | _ => 0
def pA_vlc2 : AV → Nat | .vlc _ _ o => o | _ => 0
def pB_vec0 : Blk → Bool | .vec w _ _ _ => w | _ => false
def pB_vec1 : Blk → Nat | .vec _ n _ _ => n | _ => 0
def pB_vec2 : Blk → Nat | .vec _ _ s _ => s | _ => 0
def pB_vec3 : Blk → List PV | .vec _ _ _ cs => cs | _ => []
def pB_log0 : Blk → List (Option Nat) | .log sh _ _ _ => sh | _ => []
def pB_log1 : Blk → Nat | .log _ k _ _ => k | _ => 0
def pB_log2 : Blk → Nat | .log _ _ n _ => n | _ => 0
def pB_log3 : Blk → List PV | .log _ _ _ cs => cs | _ => []
def cE : Ext → Nat | .normal => 0 | .exit _ => 1 | .ret => 2
theorem ent_nil : ∀ e ∈ ([] : List Entry), EntOK env e := by simp
theorem ent_out {f : Nat} {r : RSh} {l : List Entry} (h : ∀ e ∈ l, EntOK env e) : ∀ e ∈ Entry.out f r :: l, EntOK env e := by
  intro e he
  rcases List.mem_cons.1 he with rfl | he
  · trivial
  · exact h e he
theorem ent_inl {f : Nat} {af : AFn} {sh : ShT} {l : List Entry} (hf : env f = some af) (h : ∀ e ∈ l, EntOK env e) : ∀ e ∈ Entry.inl f af sh :: l, EntOK env e := by
  intro e he
  rcases List.mem_cons.1 he with rfl | he
  · exact hf
  · exact h e he
theorem ent_tld {f np : Nat} {sh : List (Option Nat)} {g : List PV → Option (Nat × List PV)} {l : List Entry} (hf : env f = some (toldA np sh g)) (h : ∀ e ∈ l, EntOK env e) : ∀ e ∈ Entry.tld f np sh g :: l, EntOK env e := by
  intro e he
  rcases List.mem_cons.1 he with rfl | he
  · exact hf
  · exact h e he
theorem ent_itr {f : Nat} {af : AFn} {sh : ShT} {l : List Entry} (hf : env f = some af) (h : ∀ e ∈ l, EntOK env e) : ∀ e ∈ Entry.itr f af sh :: l, EntOK env e := by
  intro e he
  rcases List.mem_cons.1 he with rfl | he
  · exact hf
  · exact h e he
theorem ent_inp {f : Nat} {af : AFn} {sh : ShT} {lo : List LoopO} {l : List Entry} (hf : env f = some af) (ho : ∀ o ∈ lo, LoopOOK env af.body o) (h : ∀ e ∈ l, EntOK env e) : ∀ e ∈ Entry.inp f af sh lo :: l, EntOK env e := by
  intro e he
  rcases List.mem_cons.1 he with rfl | he
  · exact ⟨hf, ho⟩
  · exact h e he
theorem lo_nil {c : ACode} : ∀ o ∈ ([] : List LoopO), LoopOOK env c o := by simp
theorem lo_cons {c : ACode} {o : LoopO} {l : List LoopO} (ho : LoopOOK env c o) (h : ∀ o ∈ l, LoopOOK env c o) : ∀ o' ∈ o :: l, LoopOOK env c o' := by
  intro o' he
  rcases List.mem_cons.1 he with rfl | he
  · exact ho
  · exact h o' he
abbrev QO := Q → Option (Ext × S)
abbrev EO := Ext × Q → Option (Ext × S)
abbrev kM : K := .l .mv
abbrev kC : K := .l .call
abbrev kL : K := .ld [] 1 false
abbrev kB (b : BinOp) : K := .l (.bin b 0)
abbrev kI (x : Int) : Arg := .k (.p (.int .i64 x))
abbrev kF (f : Nat) : Arg := .k (.p (.fn f []))
abbrev oN (n : Nat) (l : List Arg) (k : K) : AOp := .mk (some n) none l k
end Gv
