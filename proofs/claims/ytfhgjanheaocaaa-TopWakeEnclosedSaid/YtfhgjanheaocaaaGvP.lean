/- Regions in any order; code. -/
import Derived.Test.YtfhgjanheaocaaaGvO
namespace Gv
open Go Go.RowKit
variable {P : Program} {X : Nat → Prop} {J : Nat → JT} {call : CallT}
def restOf (n : Nat) (listed : Array Bool) : List Nat := (List.range n).filter fun i => !listed.getD i true
def sel (al : List AOp) (l : List Nat) : List AOp := l.filterMap (al[·]?)
theorem fm_congr {α β : Type} {f g : α → Option β} : ∀ (l : List α), (∀ x ∈ l, f x = g x) → l.filterMap f = l.filterMap g
  | [], _ => rfl
  | x :: l, h => by
    simp only [List.filterMap_cons, h x (by simp), fm_congr l (fun y hy => h y (by simp [hy]))]
theorem sel_range (al : List AOp) : sel al (List.range al.length) = al := by
  unfold sel
  have : ∀ (l : List AOp) (k : Nat), (List.range' k l.length).filterMap (fun i => l[i - k]?) = l := by
    intro l
    induction l with
    | nil => intro k; simp
    | cons x l ih =>
      intro k
      simp only [List.length_cons, List.range'_succ, List.filterMap_cons, Nat.sub_self, List.getElem?_cons_zero]
      congr 1
      conv => rhs; rw [← ih (k + 1)]
      refine fm_congr _ fun i hi => ?_
      have : k + 1 ≤ i := (List.mem_range'_1.1 hi).1
      rw [show i - k = (i - (k + 1)) + 1 by omega, List.getElem?_cons_succ]
  have h := this al 0
  rw [List.range_eq_range']
  simpa using h
theorem opsC_get {L : Lm} {ops : Array Oper} {av : List Nat} : ∀ {l : List Oper} {al : List AOp}, opsC P L ops av l = some al → al.length = l.length ∧ ∀ (i : Nat) (o : Oper) (x : AOp), l[i]? = some o → al[i]? = some x → opC P L ops av o = some x
  | [], al, h => by simp [opsC] at h; subst h; simp
  | o :: l, al, h => by
    simp only [opsC] at h
    split at h
    · rename_i x xs hx hxs
      simp at h
      subst h
      obtain ⟨h1, h2⟩ := opsC_get hxs
      refine ⟨by simp [h1], fun i o' x' hi hx' => ?_⟩
      cases i with
      | zero => simp at hi hx'; subst hi; subst hx'; exact hx
      | succ i => exact h2 i o' x' (by simpa using hi) (by simpa using hx')
    · cases h
theorem draw_spec {ops : List Oper} {al : List AOp} (h : drawOK ops al = true) {i : Nat} {o : Oper} {x : AOp} (hi : ops[i]? = some o) (hx : al[i]? = some x) :
    (∀ e ∈ o.after, Region.binds .any e = true → e.on < i) ∧ ∀ j y, j < i → al[j]? = some y → j ∈ anc ops 12 (edgesOf o) ∨ apart y x = true := by
  unfold drawOK at h
  have hlt : i < ops.length := (List.getElem?_eq_some_iff.1 hi).1
  have h1 := List.all_eq_true.1 h i (List.mem_range.2 hlt)
  rw [hi, hx] at h1
  simp only [Bool.and_eq_true] at h1
  obtain ⟨h1, h2⟩ := h1
  refine ⟨fun e he hb => ?_, fun j y hj hy => ?_⟩
  · have := Array.all_eq_true_iff_forall_mem.1 h1 e he
    simp [hb] at this
    exact this
  · unfold drawOK.drawAt at h2
    have := List.all_eq_true.1 h2 j (List.mem_range.2 hj)
    rw [hy] at this
    simp only [Bool.or_eq_true] at this
    rcases this with h3 | h3
    · left
      simpa using h3
    · exact .inr h3
theorem anc_all {ops : List Oper} {p : Nat → Prop} (hc : ∀ (j : Nat) (o : Oper), ops[j]? = some o → p j → ∀ e ∈ edgesOf o, p e) : ∀ (n : Nat) (s : List Nat), (∀ j ∈ s, p j) → ∀ j ∈ anc ops n s, p j
  | 0, s, h => h
  | n + 1, s, h => by
    simp only [anc]
    refine anc_all hc n _ fun j hj => ?_
    rcases List.mem_append.1 hj with hj | hj
    · exact h j hj
    · have hj := (List.mem_filter.1 hj).1
      rw [List.mem_eraseDups] at hj
      obtain ⟨k, hk, hj⟩ := List.mem_flatMap.1 hj
      cases ho : ops[k]? with
      | none => rw [ho] at hj; simp at hj
      | some o =>
        rw [ho] at hj
        exact hc k o ho (h k hk) j hj
theorem mem_edges {o : Oper} {j : Nat} : j ∈ edgesOf o ↔ ∃ e ∈ o.after, Region.binds .any e = true ∧ e.on = j := by
  unfold edgesOf
  simp [and_assoc]
theorem rest_sorted (n : Nat) (listed : Array Bool) : (restOf n listed).Pairwise (· < ·) := by
  unfold restOf
  exact List.Pairwise.filter _ List.pairwise_lt_range
theorem mem_rest {n i : Nat} {listed : Array Bool} : i ∈ restOf n listed ↔ i < n ∧ listed.getD i true = false := by
  unfold restOf
  simp
theorem any_sound {cx : Cx} (hx : cx.OK P) (hcall : CallOK P call) {ops : Array Oper} {av : List Nat} {al : List AOp} {Q : Exit → Act → World → Prop} {s' : S} (hc : opsC P cx.L ops av ops.toList = some al) (hd : drawOK ops.toList al = true) (hw : Will cx s'.m)
    (hQ : ∀ a w, FR cx s' a w → Q .normal a w) :
    ∀ (fuel : Nat) (listed : Array Bool) (s : S) (a : Act) (w : World), listed.size = ops.size → (∀ (k : Nat) (o : Oper), ops.toList[k]? = some o → listed.getD k false = true → ∀ e ∈ edgesOf o, listed.getD e false = true) → (restOf ops.size listed).length = fuel → exOps call (sel al (restOf ops.size listed)) s = some s' → FR cx s a w → wpAnyIn (FW cx.r) 0 P .any ops Q fuel listed a w
  | 0, listed, s, a, w, hsz, _, hl, he, h => by
    have hr : restOf ops.size listed = [] := List.eq_nil_of_length_eq_zero hl
    rw [hr] at he
    simp [sel, exOps] at he
    subst he
    refine ⟨?_, hQ a w h⟩
    apply List.eq_nil_iff_forall_not_mem.2
    intro i hi
    unfold Region.ready at hi
    rw [List.mem_filter] at hi
    have : i ∈ restOf ops.size listed := mem_rest.2 ⟨List.mem_range.1 hi.1, by have := hi.2; simp at this; simpa using this.1⟩
    rw [hr] at this
    cases this
  | fuel + 1, listed, s, a, w, hsz, hcl, hl, he, h => by
    obtain ⟨hlen, hget⟩ := opsC_get hc
    have inrest : ∀ i, i ∈ Region.ready .any ops listed → i ∈ restOf ops.size listed := fun i hi => by
      unfold Region.ready at hi
      rw [List.mem_filter] at hi
      exact mem_rest.2 ⟨List.mem_range.1 hi.1, by have := hi.2; simp at this; simpa using this.1⟩
    have items : ∀ i, i < ops.size → ∃ o x, ops.toList[i]? = some o ∧ al[i]? = some x := fun i hi => by
      refine ⟨ops[i], al[i]'(by rw [hlen]; simpa using hi), by simp [hi], List.getElem?_eq_getElem _⟩
    have readyEdges : ∀ {i : Nat} {o : Oper}, i ∈ Region.ready .any ops listed → ops.toList[i]? = some o → ∀ e ∈ edgesOf o, listed.getD e false = true := fun {i o} hi ho e he => by
      obtain ⟨e, he1, he2, rfl⟩ := mem_edges.1 he
      unfold Region.ready at hi
      rw [List.mem_filter] at hi
      have ho' : ops[i]? = some o := by simpa using ho
      have h4 := hi.2
      simp only [ho', Option.map_some, Option.getD_some, Bool.and_eq_true] at h4
      have h5 := Array.all_eq_true_iff_forall_mem.1 h4.2 e he1
      simpa [he2] using h5
    refine ⟨fun hnil => ?_, fun i hi => ?_⟩
    ·
      exfalso
      cases hr : restOf ops.size listed with
      | nil => rw [hr] at hl; simp at hl
      | cons i rest =>
        have hi : i ∈ restOf ops.size listed := by rw [hr]; simp
        obtain ⟨h1, h2⟩ := mem_rest.1 hi
        obtain ⟨o, x, ho, hxx⟩ := items i h1
        obtain ⟨d1, _⟩ := draw_spec hd ho hxx
        have hsorted := rest_sorted ops.size listed
        rw [hr] at hsorted
        have hready : i ∈ Region.ready .any ops listed := by
          unfold Region.ready
          rw [List.mem_filter]
          refine ⟨List.mem_range.2 h1, ?_⟩
          have ho' : ops[i]? = some o := by simpa using ho
          simp only [h2, ho', Option.map_some, Option.getD_some, Bool.not_false, Bool.true_and]
          rw [Array.all_eq_true_iff_forall_mem]
          intro e hee
          by_cases hb : Region.binds .any e = true
          · have hon := d1 e hee hb
            have : e.on ∉ restOf ops.size listed := by
              rw [hr]
              intro hm
              simp only [List.mem_cons] at hm
              rcases hm with hm | hm
              · omega
              · have := List.rel_of_pairwise_cons hsorted hm
                omega
            have hne : listed.getD e.on true ≠ false := fun hf => this (mem_rest.2 ⟨by omega, hf⟩)
            have hlt : e.on < listed.size := by omega
            have : listed.getD e.on false = true := by
              simp only [Array.getD_eq_getD_getElem?, Array.getElem?_eq_getElem hlt, Option.getD_some] at hne ⊢
              simpa using hne
            simp [this]
          · simp [hb]
        rw [hnil] at hready
        cases hready
    · have hir := inrest i hi
      obtain ⟨h1, h2⟩ := mem_rest.1 hir
      obtain ⟨o, x, ho, hxx⟩ := items i h1
      obtain ⟨pre, post, hsplit⟩ := List.append_of_mem hir
      have hsorted := rest_sorted ops.size listed
      rw [hsplit] at hsorted
      obtain ⟨_, _, hpl⟩ := List.pairwise_append.1 hsorted
      have hsel : sel al (restOf ops.size listed) = sel al pre ++ x :: sel al post := by
        rw [hsplit]
        unfold sel
        simp [List.filterMap_append, hxx]
      rw [hsel] at he
      have hap : ∀ y ∈ sel al pre, apart y x = true := by
        intro y hy
        unfold sel at hy
        obtain ⟨j, hj, hjy⟩ := List.mem_filterMap.1 hy
        have hji : j < i := hpl j hj i (by simp)
        obtain ⟨_, d2⟩ := draw_spec hd ho hxx
        rcases d2 j y hji hjy with h3 | h3
        · exfalso
          have hjr : j ∈ restOf ops.size listed := by rw [hsplit]; simp [hj]
          obtain ⟨hjs, hjl⟩ := mem_rest.1 hjr
          have hed : ∀ e ∈ edgesOf o, listed.getD e false = true := readyEdges hi ho
          have := anc_all (p := fun j => listed.getD j false = true) hcl 12 (edgesOf o) hed j h3
          have hlt : j < listed.size := by omega
          simp only [Array.getD_eq_getD_getElem?, Array.getElem?_eq_getElem hlt, Option.getD_some] at hjl this
          rw [hjl] at this
          cases this
        · exact h3
      obtain ⟨s1, k1, k2⟩ := exOps_first (sel al pre) s hap he
      have hrest : restOf ops.size (listed.setIfInBounds i true) = pre ++ post := by
        have e1 : restOf ops.size (listed.setIfInBounds i true) = (restOf ops.size listed).filter (fun j => j != i) := by
          unfold restOf
          rw [List.filter_filter]
          apply List.filter_congr
          intro j hj
          have hjn := List.mem_range.1 hj
          by_cases hji : j = i
          · subst hji
            have : j < listed.size := by omega
            simp [Array.getD_eq_getD_getElem?, this]
          · have : i ≠ j := fun e => hji e.symm
            simp [Array.getD_eq_getD_getElem?, Array.getElem?_setIfInBounds_ne this, hji]
        rw [e1, hsplit, List.filter_append, List.filter_cons]
        obtain ⟨_, hp2, _⟩ := List.pairwise_append.1 hsorted
        have f1 : pre.filter (fun j => j != i) = pre := List.filter_eq_self.2 fun j hj => by
          have := hpl j hj i (by simp)
          simp; omega
        have f2 : post.filter (fun j => j != i) = post := List.filter_eq_self.2 fun j hj => by
          have := List.rel_of_pairwise_cons hp2 hj
          simp; omega
        rw [f1, f2]
        simp
      unfold wpOpIn
      have ho' : ops[i]? = some o := by simpa using ho
      rw [ho']
      simp only
      have key := exOp_sound hx hcall (Q := Q) (K := wpAnyIn (FW cx.r) 0 P .any ops Q fuel (listed.setIfInBounds i true)) (hget i o x ho hxx) k1 (hw.back (exOps_log k2)) h fun a' w' hf =>
        any_sound hx hcall hc hd hw hQ fuel (listed.setIfInBounds i true) s1 a' w' (by simp [hsz]) (fun k o' hk hlk e he => by
          have grow : ∀ j, listed.getD j false = true → (listed.setIfInBounds i true).getD j false = true := fun j hj => by
            by_cases hji : i = j
            · subst hji
              have : i < listed.size := by omega
              simp [Array.getD_eq_getD_getElem?, this]
            · simpa [Array.getD_eq_getD_getElem?, Array.getElem?_setIfInBounds_ne hji] using hj
          by_cases hki : i = k
          · subst hki
            rw [ho] at hk
            cases hk
            exact grow e (readyEdges hi ho e he)
          · refine grow e (hcl k o' hk ?_ e he)
            simpa [Array.getD_eq_getD_getElem?, Array.getElem?_setIfInBounds_ne hki] using hlk) (by
          have e2 : (restOf ops.size listed).length = (pre ++ post).length + 1 := by rw [hsplit]; simp; omega
          rw [hrest]
          omega) (by
          rw [hrest]
          unfold sel at k2 ⊢
          rw [List.filterMap_append]
          exact k2) hf
      split
      · rename_i hwt
        rw [if_pos hwt] at key
        exact key
      · rename_i hwt
        rw [if_neg hwt] at key
        exact ⟨fun _ _ => trivial, key⟩
theorem region_sound {cx : Cx} (hx : cx.OK P) (hm : P.follows .mixedOrders = true) (hcall : CallOK P call) {id : Nat} {ops : Array Oper} {dr : Bool} {al : List AOp} {Q : Exit → Act → World → Prop} {s s' : S} {a : Act} {w : World} {fr : List Nat} (hc : regC P cx.L fr ops dr = some al) (he : exOps call al s = some s')
    (hw : Will cx s'.m) (h : FR cx s a w) (hQ : ∀ a w, FR cx s' a w → Q .normal a w) : (Code.region id ops dr).wpIn (FW cx.r) 0 P Q a w := by
  unfold regC at hc
  split at hc
  · rename_i l hl
    cases dr with
    | false =>
      simp at hc
      subst hc
      exact wpIn_region_list (list_sound hx hcall hw hQ ops.toList l s a w hl he h)
    | true =>
      simp only [if_true] at hc
      split at hc
      · rename_i l2 hl2
        split at hc
        · rename_i hd
          simp at hc
          subst hc
          refine wpIn_region_any hm ?_
          obtain ⟨hlen, _⟩ := opsC_get hl2
          have hall : restOf ops.size (Array.replicate ops.size false) = List.range ops.size := by
            unfold restOf
            apply List.filter_eq_self.2
            intro i hi
            have := List.mem_range.1 hi
            simp [Array.getD_eq_getD_getElem?, this]
          refine any_sound hx hcall hl2 hd hw hQ ops.size _ s a _ (by simp) (fun k o _ hk => by
            exfalso
            rw [Array.getD_eq_getD_getElem?] at hk
            cases hr : (Array.replicate ops.size false)[k]? with
            | none => rw [hr] at hk; cases hk
            | some v =>
              have := Array.getElem?_replicate (n := ops.size) (v := false) (i := k)
              rw [hr] at this
              split at this
              · cases this; rw [hr] at hk; cases hk
              · cases this) (by rw [hall]; simp) ?_ h.drew
          rw [hall]
          have : ops.size = l2.length := by rw [hlen]; simp
          rw [this, sel_range]
          exact he
        · cases hc
      · cases hc
  · cases hc
end Gv
