/- From a function that runs true on all arguments of its shapes to what a row asks. -/
import Derived.Below
import Derived.Carry
import Derived.ChangeSame
import Derived.Handed
import Derived.RowKit
import Derived.Test.YtfhgjanheaocaaaGvW
namespace Gv
open Go Go.RowKit Go.WideShapes Go.ChangeShapes
section
variable {H : Type} {enc : TypeId × Value → H} {P : Program}
def Shp.agg : Shp → Bool
  | .arr _ _ | .nil | .cons _ _ => true
  | _ => false
def FitsArgs : List Shp → List PV → Prop
  | [], ps => ps = []
  | s :: ss, ps => ∃ p r cs, ps = p :: r ∧ Fits s cs ∧ (if s.agg = true then p = .agg cs else [p] = cs) ∧ FitsArgs ss r
theorem open_arg {W : World} {base : Nat} {sp : Nat → Bool} {held : Bool} {d : Nat} {s : Shp} {t : TypeId} {v : Value} {x : DataW H} {ps : List MemPlace} (hs : okT P d s t = true) (hv : Value.okWide P W .any base t v) (h : DataW.Trod enc P W 0 sp held t v x ps) :
    ∃ p cs, Fits s cs ∧ (if s.agg = true then p = PV.agg cs else [p] = cs) ∧ PR (StAll W) W p v := by
  obtain ⟨fuel, h⟩ := h
  obtain ⟨cs, hf, hp⟩ := open_fits d s t fuel _ _ hs h
  cases d with
  | zero => simp [okT] at hs
  | succ d =>
    have one : s.agg = false → v.cells = #[v] → (∃ p, cs = [p]) → ∃ p cs, Fits s cs ∧ (if s.agg = true then p = PV.agg cs else [p] = cs) ∧ PR (StAll W) W p v := by
      rintro ha hc ⟨p, rfl⟩
      rw [hc] at hp
      simp only [PRs] at hp
      obtain ⟨u, us, he, h1, _⟩ := hp
      simp at he
      obtain ⟨rfl, _⟩ := he
      exact ⟨p, [p], hf, by rw [ha]; simp, h1⟩
    have many : s.agg = true → (∃ us, v = .agg us) → ∃ p cs, Fits s cs ∧ (if s.agg = true then p = PV.agg cs else [p] = cs) ∧ PR (StAll W) W p v := by
      rintro ha ⟨us, rfl⟩
      refine ⟨.agg cs, cs, hf, by rw [if_pos ha], ?_⟩
      simp only [PR]
      exact ⟨us.toList, by simp, hp⟩
    simp only [okT, Bool.and_eq_true] at hs
    replace hs := hs.2
    split at hs
    · rename_i k k' hu
      obtain ⟨n, rfl⟩ := okWide_int hu hv
      obtain ⟨n, rfl, _⟩ := hf
      exact one rfl rfl ⟨_, rfl⟩
    · rename_i hu
      obtain ⟨n, rfl⟩ := okWide_bool hu hv
      obtain ⟨n, rfl⟩ := hf
      exact one rfl rfl ⟨_, rfl⟩
    · rename_i hu
      obtain ⟨n, rfl⟩ := okWide_string hu hv
      obtain ⟨n, rfl, _⟩ := hf
      exact one rfl rfl ⟨_, rfl⟩
    · rename_i n e m u hu
      refine many rfl ?_
      simp only [Value.okWide, hu] at hv
      obtain ⟨cs, h1, _⟩ := hv
      exact ⟨cs, h1⟩
    · rename_i e u hu
      obtain ⟨a, l, c, rfl⟩ := okWide_slice hu hv
      obtain ⟨n, rfl, _⟩ := hf
      exact one rfl rfl ⟨_, rfl⟩
    · rename_i fs hu
      obtain ⟨cs, h1, _⟩ := okWide_struct hu hv
      exact many rfl ⟨cs, h1⟩
    · rename_i a r fs hu
      obtain ⟨cs, h1, _⟩ := okWide_struct hu hv
      exact many rfl ⟨cs, h1⟩
    · cases hs
def okAll (P : Program) (d : Nat) : List Shp → List TypeId → Bool
  | [], [] => true
  | s :: ss, t :: ts => okT P d s t && P.readableRec t && decide (t < P.types.size) && okAll P d ss ts
  | _, _ => false
theorem open_all {W : World} {base d : Nat} {sp : Nat → Bool} {held : Bool} : ∀ {ss : List Shp} {ts : List TypeId} {vs : List Value} {ds : List (DataW H)} {ps : List MemPlace}, okAll P d ss ts = true → DataW.TrodAll enc P W 0 sp held ts vs ds ps →
    (∀ (j : Nat) t v, ts[j]? = some t → vs[j]? = some v → Value.okWide P W .any base t v) → ∃ qs, FitsArgs ss qs ∧ PRs (StAll W) W qs vs
  | [], [], [], [], _, _, _, _ => ⟨[], rfl, by simp [PRs]⟩
  | s :: ss, t :: ts, v :: vs, x :: ds, ps, ho, h, hv => by
    simp only [okAll, Bool.and_eq_true] at ho
    obtain ⟨p, q, h1, h2, _⟩ := h
    obtain ⟨y, cs, k1, k2, k3⟩ := open_arg ho.1.1.1 (hv 0 t v rfl rfl) h1
    obtain ⟨qs, k4, k5⟩ := open_all ho.2 h2 fun j t v ht hv' => hv (j + 1) t v (by simpa using ht) (by simpa using hv')
    exact ⟨y :: qs, ⟨y, qs, cs, rfl, k1, k2, k4⟩, by simp only [PRs]; exact ⟨v, vs, rfl, k3, k5⟩⟩
  | [], [], [], _ :: _, _, _, h, _ => h.elim
  | [], [], _ :: _, _, _, _, h, _ => h.elim
  | [], _ :: _, _, _, _, ho, _, _ => by simp [okAll] at ho
  | _ :: _, [], _, _, _, ho, _, _ => by simp [okAll] at ho
  | _ :: _, _ :: _, [], _, _, _, h, _ => h.elim
  | _ :: _, _ :: _, _ :: _, [], _, _, h, _ => h.elim
theorem stay_all (hl : laidOutB P = true) {W W' : World} (hb : Below W.heap.size W W') {d : Nat} {sp : Nat → Bool} : ∀ {ss : List Shp} {ts : List TypeId} {vs : List Value} {ds : List (DataW H)} {ps : List MemPlace}, okAll P d ss ts = true →
    DataW.TrodAll enc P W 0 (fun _ => true) true ts vs ds ps → (∀ p ∈ ps, p.block < W.heap.size) → (∀ p ∈ ps, sp p.block = true) → DataW.TrodAll enc P W' 0 sp true ts vs ds ps
  | [], [], [], [], _, _, h, _, _ => h
  | s :: ss, t :: ts, v :: vs, x :: ds, ps, ho, h, hlt, hsp => by
    simp only [okAll, Bool.and_eq_true, decide_eq_true_eq] at ho
    obtain ⟨p, q, h1, h2, rfl⟩ := h
    exact ⟨p, q, WideElems.Trod_stays hl ho.1.1.2 ho.1.2 h1 (fun y hy => hb.same (hlt y (by simp [hy]))) (fun y hy => hsp y (by simp [hy])),
      stay_all hl hb ho.2 h2 (fun y hy => hlt y (by simp [hy])) (fun y hy => hsp y (by simp [hy])), rfl⟩
  | [], [], [], _ :: _, _, _, h, _, _ => h.elim
  | [], [], _ :: _, _, _, _, h, _, _ => h.elim
  | [], _ :: _, _, _, _, ho, _, _, _ => by simp [okAll] at ho
  | _ :: _, [], _, _, _, ho, _, _, _ => by simp [okAll] at ho
  | _ :: _, _ :: _, [], _, _, _, h, _, _ => h.elim
  | _ :: _, _ :: _, _ :: _, [], _, _, h, _, _ => h.elim
theorem trod_length {W : World} {sp : Nat → Bool} {held : Bool} {b : Nat} : ∀ {ts : List TypeId} {vs : List Value} {ds : List (DataW H)} {ps : List MemPlace}, DataW.TrodAll enc P W b sp held ts vs ds ps → ds.length = ts.length
  | [], [], [], _, _ => rfl
  | _ :: _, _ :: _, _ :: _, _, h => by
    obtain ⟨_, _, _, h2, _⟩ := h
    simp [trod_length h2]
  | [], [], _ :: _, _, h => h.elim
  | [], _ :: _, _, _, h => h.elim
  | _ :: _, [], _, _, h => h.elim
  | _ :: _, _ :: _, [], _, h => h.elim
structure Tells (s : ChangeSpec) (n : Nat) : Prop where
  vars : s.vars = []
  results : ∀ (H : Type) (ds : List (DataW H)), ds.length = n → (s.fn H ds).results = [.lit (.bool true)]
  args : ∀ (H : Type) (ds : List (DataW H)), ds.length = n → (s.fn H ds).args = ds
  left : ∀ (H : Type) (ds : List (DataW H)), ds.length = n → (s.fn H ds).vars = []
theorem told {fn : Func} {s : ChangeSpec} {tb : TypeId} {d : Nat} {ss : List Shp} {apart fresh handsOn again : Bool} {W W' : World} {args : Array Value} {ds : List (DataW H)} {ps : List MemPlace} (hl : laidOutB P = true) (ht : Tells s fn.params.toList.length)
    (hr : fn.resultTypes = #[tb]) (hb : P.underlying tb = some .bool) (hp : okAll P d ss fn.params.toList = true) (hW : DataW.Whole enc P fn.params.toList s.vars apart W args.toList ds [] ps)
    (hA : DataW.TrodAll enc P W 0 (fun _ => true) true fn.params.toList args.toList ds ps) (hbel : Below W.heap.size W W') : s.post enc P fn apart fresh handsOn again W args (.bool true) W' := by
  have hlen := trod_length hA
  have hlt : ∀ x ∈ ps, x.block < W.heap.size := fun x hx => hW.lt x hx
  have res : ∀ (b : Nat) (sp : Nat → Bool) (hd : Bool), DataW.TrodAll enc P W' b sp hd fn.resultTypes.toList ((Value.bool true).resultList fn.resultTypes.size) (s.fn H (ds ++ [])).results [] := fun b sp hd => by
    rw [hr, List.append_nil, ht.results H ds hlen]
    exact trodAll_mk1 (shut_bool hb true)
  have arg : ∀ sp : Nat → Bool, (∀ x ∈ ps, sp x.block = true) → DataW.TrodAll enc P W' 0 sp true fn.params.toList args.toList (s.fn H (ds ++ [])).args ps := fun sp hsp => by
    rw [List.append_nil, ht.args H ds hlen]
    exact stay_all hl hbel hp hA hlt hsp
  have var : ∀ sp : Nat → Bool, DataW.TrodVars enc P W' sp s.vars (s.fn H (ds ++ [])).vars [] := fun sp => by
    rw [ht.vars, List.append_nil, ht.left H ds hlen]
    rfl
  have out : ∀ (j : Nat) (t : TypeId) (r : Value), fn.resultTypes[j]? = some t → ((Value.bool true).resultList fn.resultTypes.size)[j]? = some r → Value.okWide P W' .any 0 t r := ok_one hr rfl (okWide_bool_mk hb true)
  have both := trodAll_append (arg (fun _ => true) fun _ _ => rfl) (res 0 (fun _ => true) true)
  have marks : ∀ x ∈ ps, (fun b => decide (b < W.heap.size)) x.block = true := by
    intro x hx
    simp [hlt x hx]
  have kept : W.keptBut W' (fun x => x ∈ ps ∧ (x ∈ ([] : List MemPlace) ∨ x ∈ ps ∨ x ∈ ([] : List MemPlace))) := by
    refine World.keptBut_mono ?_ (hbel.frame (· ∈ ps))
    intro x hx
    exact ⟨hx, .inr (.inl hx)⟩
  have hand := hW
  obtain ⟨_, _, _, _, _, ice, alone⟩ := hand
  refine ⟨ds, [], ps, [], ps, [], hW, res _ _ _, arg _ marks, var _, kept, fun _ => ⟨out, _, _, ([] ++ ps) ++ [], ⟨[] ++ ps, [], both, var _, rfl, ?_, ?_⟩, ?_⟩⟩
  · intro b o hin
    have here : MemPlace.cell b o ∈ ps := by simpa using hin
    exact (hbel.frozen (hlt _ here)).trans (ice b o here)
  · intro yes
    simpa using alone yes
  · intro x hx _
    simpa using hx
theorem contract_true (hm : P.follows .mixedOrders = true) {env : Nat → Option AFn} (hE : EnvOK P env) (hl : laidOutB P = true) {f d : Nat} {fn : Func} {s : ChangeSpec} {ss : List Shp} {tb : TypeId} {apart fresh handsOn again : Bool} (hp : okAll P d ss fn.params.toList = true) (hr : fn.resultTypes = #[tb]) (hb : P.underlying tb = some .bool)
    (ht : Tells s fn.params.toList.length) (hrun : ∀ qs, FitsArgs ss qs → run env f qs = some (.val (.bool true)))
    (W : World) (base : Nat) (args : Array Value) (ds gs : List (DataW H)) (before : List MemPlace)
    (hval : ∀ (j : Nat) t v, fn.params[j]? = some t → args[j]? = some v → Value.okWide P W .any base t v)
    (hW : DataW.Whole enc P fn.params.toList s.vars apart W args.toList ds gs before) :
    Calls P f args W fun e W' => ∃ v, e = .returned v ∧ s.post enc P fn apart fresh handsOn again W args v W' := by
  have hW' := hW
  obtain ⟨p, q, hA, hV, hbef, hz, hn⟩ := hW
  have hnil : gs = [] ∧ q = [] := by
    rw [ht.vars] at hV
    exact trodVars_none hV
  obtain ⟨rfl, rfl⟩ := hnil
  rw [List.append_nil] at hbef
  subst hbef
  obtain ⟨qs, hfit, hprs⟩ := open_all hp hA fun j t v hj hv => hval j t v (by simpa using hj) (by simpa using hv)
  have hcalls := ((run_sound hm hE).fn f qs _ (hrun qs hfit)).2 W (StAll W) args.toList (fun _ _ h => h) hprs
  rw [Array.toArray_toList] at hcalls
  refine hcalls.mono fun e W' hpost => ?_
  obtain ⟨u, St', rfl, hrr, hbel, _⟩ := hpost
  simp only [RR, PR] at hrr
  subst hrr
  exact ⟨_, rfl, told hl ht hr hb hp hW' hA hbel⟩
end
end Gv
