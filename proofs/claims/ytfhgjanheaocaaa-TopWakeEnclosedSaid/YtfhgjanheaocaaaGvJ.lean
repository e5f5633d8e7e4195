/- Loads, stores, new variables, appends. -/
import Derived.Test.YtfhgjanheaocaaaGvI
namespace Gv
open Go Go.RowKit
variable {P : Program} {X : Nat → Prop} {J : Nat → JT} {g : G} {St : Nat → Nat → Prop} {m : List Blk} {w : World} {call : CallT}
theorem aggT_spec {t : TypeId} {ag : Bool} (h : aggT P t = some ag) : ∃ d, P.underlying t = some d ∧ isAggD d = ag := by
  unfold aggT at h
  split at h <;> rename_i hu <;> simp at h <;> subst h
  · exact ⟨_, hu, rfl⟩
  · exact ⟨_, hu, rfl⟩
  · rename_i d h1 h2
    refine ⟨_, hu, ?_⟩
    cases d <;> first | rfl | exact absurd rfl (h1 _) | exact absurd rfl (h2 _ _)
theorem run_loadAgg {t : TypeId} {d : TypeDesc} {n : Nat} {a : Addr} {us : List Value} (hu : P.underlying t = some d) (ha : isAggD d = true) (hn : szT P t = some n) (hl : us.length = n)
    (hc : ∀ j v, us[j]? = some v → w.cell? (a.add j) = some v) : (Instr.loadAt t (.pointer (some a))).run P w = .ok (.agg us.toArray) w := by
  simp only [Instr.loadAt, Instr.sureAddr, Sem.run_bind, Sem.run_pure, Result.andThen_ok, loadVar, run_isAgg hu, ha, if_true, run_size hn]
  rw [← hl, run_loadCells_list w a us hc]
  rfl
theorem run_loadCell {t : TypeId} {d : TypeDesc} {a : Addr} {u : Value} (hu : P.underlying t = some d) (ha : isAggD d = false) (hc : w.cell? a = some u) :
    (Instr.loadAt t (.pointer (some a))).run P w = .ok u w := by
  simp only [Instr.loadAt, Instr.sureAddr, Sem.run_bind, Sem.run_pure, Result.andThen_ok, loadVar, run_isAgg hu, ha, Bool.false_eq_true, if_false, run_load, hc]
theorem row_cell {q o j : Nat} {cur : Array Value} {e : TypeId} (h : w.heap[q]? = some (.cells cur e (0, 0))) : w.cell? ((⟨q, o, none⟩ : Addr).add j) = cur[o + j]? := by
  rw [addr_add]
  exact cell_of_row w q (o + j) cur e (0, 0) h
theorem look_spec {av : List Nat} {b : Nat} {cs : List AV} (h : lookB av m b = some cs) : ∃ wr, m[b]? = some (.cells wr cs) := by
  unfold lookB at h
  split at h
  · cases h
  · split at h
    · simp at h
      subst h
      exact ⟨_, by assumption⟩
    · cases h
theorem load_sound (h : MemOK X J g St m w) {t : TypeId} {n : Nat} {ag : Bool} {av : List Nat} {x v : AV} {ux : Value} (ha : aggT P t = some ag) (hn : szT P t = some n)
    (hr : runD n ag [x] (lookB av m) = some v) (hx : VR g m St w x ux) : ∃ u, (Instr.loadAt t ux).run P w = .ok u w ∧ VR g m St w v u := by
  obtain ⟨d, hu, hd⟩ := aggT_spec ha
  unfold runD at hr
  split at hr
  · rename_i l b o heq
    simp at heq
    subst heq
    split at hr
    · rename_i cs hcs
      obtain ⟨wr, hb⟩ := look_spec hcs
      obtain ⟨_, cur, e, h2, h3, _⟩ := h.mem b _ hb
      simp only [VR] at hx
      obtain ⟨_, rfl⟩ := hx
      split at hr
      · rename_i hag
        subst hag
        split at hr
        · rename_i ws hws
          simp at hr; subst hr
          obtain ⟨hl, rfl⟩ := sub_spec hws
          have hcl : cur.size = cs.length := by have := h3.length; simpa using this
          refine ⟨_, run_loadAgg (us := (cur.toList.drop o).take n) hu hd hn (by simp; omega) (fun j v hj => ?_), VR.mkAgg (h3.drop_take o n)⟩
          rw [row_cell h2]
          rw [List.getElem?_take] at hj
          split at hj
          · rw [List.getElem?_drop] at hj
            simpa using hj
          · cases hj
        · cases hr
      · rename_i hag
        have hag : isAggD d = false := by rw [hd]; simpa using hag
        obtain ⟨u, k1, k2⟩ := h3.get hr
        refine ⟨u, run_loadCell hu hag ?_, k2⟩
        rw [cell_of_row w (g.ρ b) o cur e (0, 0) h2]
        simpa using k1
    · cases hr
  · rename_i l cs o heq
    simp at heq
    subst heq
    simp only [VR, PR] at hx
    obtain ⟨ad, us, rfl, h1, hat⟩ := hx
    split at hr
    · rename_i hag
      subst hag
      split at hr
      · rename_i ws hws
        simp at hr; subst hr
        obtain ⟨hl, rfl⟩ := sub_spec hws
        refine ⟨_, run_loadAgg (us := (us.drop o).take n) hu hd hn (by simp [h1.length]; omega) (fun j v hj => ?_), by simp only [VR, PR]; exact ⟨_, rfl, h1.drop_take o n⟩⟩
        rw [add_of_add]
        rw [List.getElem?_take] at hj
        split at hj
        · rw [List.getElem?_drop] at hj
          exact (hat _ _ hj).2.1
        · cases hj
      · cases hr
    · rename_i hag
      have hag : isAggD d = false := by rw [hd]; simpa using hag
      split at hr
      · rename_i y hy
        simp at hr; subst hr
        obtain ⟨u, k1, k2⟩ := h1.get hy
        exact ⟨u, run_loadCell hu hag (hat _ _ k1).2.1, by simpa [VR] using k2⟩
      · cases hr
  · cases hr
theorem runV_spec {sz : Nat} {ag : Bool} {av : List Nat} {b n o : Nat} {v : AV} (h : runV sz ag av m b n o = some v) :
    ∃ wr s cs, m[b]? = some (.vec wr n s cs) ∧ av.contains b = false ∧ runD sz ag [.p (.imm cs o)] (fun _ => none) = some v := by
  unfold runV at h
  split at h
  · cases h
  · rename_i hav
    split at h
    · rename_i wr n' s cs hb
      split at h
      · rename_i hn
        subst hn
        exact ⟨wr, s, cs, hb, by simpa using hav, by simpa only [runD] using h⟩
      · cases h
    · cases h
theorem vec_cells (h : MemOK X J g St m w) {b n s : Nat} {wr : Bool} {cs : List PV} (hb : m[b]? = some (.vec wr n s cs)) :
    ∃ us : List Value, PRs St w cs us ∧ us.length = n * s ∧ ∀ j x, us[j]? = some x → w.cell? (⟨g.ρ b, j, none⟩ : Addr) = some x ∧ x.oneCell' = true := by
  obtain ⟨h1, cur, e, us, rest, h2, h3, h4, h5, h6, h7⟩ := h.mem b _ hb
  refine ⟨us, h4, h5, fun j x hj => ⟨?_, h6 x (List.mem_of_getElem? hj)⟩⟩
  rw [cell_of_row w (g.ρ b) j cur e (0, 0) h2, ← Array.getElem?_toList, h3, List.getElem?_append_left (List.getElem?_eq_some_iff.1 hj).1]
  exact hj
theorem loadV_sound (h : MemOK X J g St m w) {t : TypeId} {n : Nat} {ag : Bool} {av : List Nat} {vs : List AV} {v : AV} {ux : Value} (ha : aggT P t = some ag) (hn : szT P t = some n)
    (hr : runDV n ag vs av m = some v) (hx : VRs g m St w vs [ux]) : ∃ u, (Instr.loadAt t ux).run P w = .ok u w ∧ VR g m St w v u := by
  have one : ∃ x, vs = [x] ∧ VR g m St w x ux := by
    cases vs with
    | nil => simp only [VRs] at hx; cases hx
    | cons x vs =>
      simp only [VRs] at hx
      obtain ⟨y, ys, he, h1, h2⟩ := hx
      simp only [List.cons.injEq] at he
      obtain ⟨rfl, rfl⟩ := he
      cases vs with
      | nil => exact ⟨x, rfl, h1⟩
      | cons _ _ => simp only [VRs] at h2; obtain ⟨_, _, h3, _⟩ := h2; cases h3
  obtain ⟨x, rfl, hx1⟩ := one
  clear hx
  have hx := hx1
  clear hx1
  by_cases hvl : ∃ b i o, x = .vlc b i o
  · obtain ⟨b, i, o, rfl⟩ := hvl
    simp only [runDV] at hr
    obtain ⟨wr, s, cs, hb, _, hr2⟩ := runV_spec hr
    clear hr
    have hr := hr2
    clear hr2
    simp only [VR] at hx
    obtain ⟨q, rfl, wr', n', s', cs', hb', hle, hq⟩ := hx
    rw [hb] at hb'
    simp only [Option.some.injEq, Blk.vec.injEq] at hb'
    obtain ⟨_, rfl, _, rfl⟩ := hb'
    obtain rfl := hq rfl
    obtain ⟨us, k1, k2, k3⟩ := vec_cells h hb
    obtain ⟨d, hu, hd⟩ := aggT_spec ha
    unfold runD at hr
    simp only at hr
    split at hr
    · rename_i hag
      subst hag
      split at hr
      · rename_i ws hws
        simp at hr; subst hr
        obtain ⟨hl, rfl⟩ := sub_spec hws
        refine ⟨_, run_loadAgg (us := (us.drop o).take n) hu hd hn (by simp [k1.length]; omega) (fun j v hj => ?_), by simp only [VR, PR]; exact ⟨_, rfl, k1.drop_take o n⟩⟩
        rw [addr_add]
        rw [List.getElem?_take] at hj
        split at hj
        · rw [List.getElem?_drop] at hj
          exact (k3 _ _ hj).1
        · cases hj
      · cases hr
    · rename_i hag
      have hag : isAggD d = false := by rw [hd]; simpa using hag
      split at hr
      · rename_i y hy
        simp at hr; subst hr
        obtain ⟨u, k4, k5⟩ := k1.get hy
        exact ⟨u, run_loadCell hu hag (k3 _ _ k4).1, by simpa [VR] using k5⟩
      · cases hr
  · have hr : runD n ag [x] (lookB av m) = some v := by
      cases x <;> first | exact hr | exact absurd ⟨_, _, _, rfl⟩ hvl
    exact load_sound h ha hn hr hx
theorem MemOK.fresh (h : MemOK X J g St m w) {d : Nat} {cs : List AV} {cur : Array Value} {e : TypeId} (hd : m[d]? = some .none) (hv : VRs g m St w cs cur.toList) (hone : ∀ x ∈ cur.toList, x.oneCell' = true) :
    MemOK X J (g.set d w.heap.size 0 0) St (m.set d (.cells true cs)) (w.alloc (.cells cur e)) ∧ Evo St w St (w.alloc (.cells cur e)) ∧ MExt g m (g.set d w.heap.size 0 0) (m.set d (.cells true cs)) := by
  have hb : Below w.heap.size w (w.alloc (.cells cur e)) := (Below.refl _ _).alloc (Nat.le_refl _) _
  obtain ⟨h1, h2⟩ := h.grow (St' := St) hb (fun _ _ hs => hs) (fun b o hs => by have := h.stLt b o hs; simp; omega) (fun _ _ hs => .inl hs)
  have mx : MExt g m (g.set d w.heap.size 0 0) (m.set d (.cells true cs)) := mext_new hd
  refine ⟨h1.new hd (fun b hl he => by have := h.lt hl; omega) (fun q' o hq => by have := heap_lt (h.fix q' o hq).1; omega) ?_, h2, mx⟩
  refine ⟨(fun hx => by have := h.b0 _ hx; simp [G.set] at this), cur, e, ?_, VRs.mono h2 mx _ _ hv, fun _ j hj => ?_, hone⟩
  · simp only [G.set, if_true]
    exact heap_alloc_new w _
  · have := h.stLt _ _ hj
    simp [G.set] at this
theorem alloc_sound (h : MemOK X J g St m w) {e : TypeId} {d : Nat} {z : List AV} {v : AV} {blk : Blk} (hz : zeroT P e = some z) (hd : m[d]? = some .none) (hr : runA call d (.alloc z) [] = some (v, blk)) :
    ∃ u w', (Instr.alloc e true (.tuple #[])).run P w = .ok u w' ∧ Step X J g St m w v (m.set d blk) u w' := by
  simp [runA] at hr
  obtain ⟨rfl, rfl⟩ := hr
  obtain ⟨i, zv, hi, hzv, hcs⟩ := zero_info hz
  obtain ⟨h1, h2, h3⟩ := h.fresh (e := e) hd (consts_sound hcs) (consts_one hcs)
  refine ⟨.pointer (some ⟨w.heap.size, 0, none⟩), _, ?_, _, _, _, h1, h2, h3, ?_⟩
  · simp [Instr.alloc, zeroValue, typeInfo, hi, hzv, newVar, newRow]
  · simp only [VR]
    exact ⟨⟨true, z, set_same hd⟩, by simp [G.set]⟩
theorem box_sound (h : MemOK X J g St m w) {e : TypeId} {d : Nat} {x v : AV} {ux : Value} {blk : Blk} (hd : m[d]? = some .none) (hr : runA call d .box [x] = some (v, blk)) (hx : VR g m St w x ux) :
    ∃ u w', (Instr.box e ux).run P w = .ok u w' ∧ Step X J g St m w v (m.set d blk) u w' := by
  simp only [runA] at hr
  split at hr
  · rename_i hc
    simp at hr
    obtain ⟨rfl, rfl⟩ := hr
    obtain ⟨k1, k2⟩ := cellsOf_sound hx hc
    obtain ⟨h1, h2, h3⟩ := h.fresh (e := e) hd k1 k2
    refine ⟨.pointer (some ⟨w.heap.size, 0, none⟩), _, ?_, _, _, _, h1, h2, h3, ?_⟩
    · simp [Instr.box, newVar, newRow]
    · simp only [VR]
      exact ⟨⟨true, _, set_same hd⟩, by simp [G.set]⟩
  · cases hr
theorem mkS_sound (h : MemOK X J g St m w) {t e : TypeId} {d : Nat} {i : TypeInfo} {z : List PV} {l c v : AV} {ul uc : Value} {blk : Blk} (ht : P.underlying t = some (.slice e)) (hi : P.info? e = some i) (hz : zeroP P e = some z)
    (hc : z.length = i.size ∧ i.size ≠ 0 ∧ i.bytes ≤ 4096) (hd : m[d]? = some .none) (hr : runA call d (.mkS i.size z) [l, c] = some (v, blk)) (hl : VR g m St w l ul) (hcc : VR g m St w c uc) :
    ∃ u w', (Instr.makeSlice t ul uc).run P w = .ok u w' ∧ Step X J g St m w v (m.set d blk) u w' := by
  cases l <;> simp only [runA] at hr <;> try (cases hr; done)
  rename_i pl
  cases pl <;> (try simp only at hr) <;> try (cases hr; done)
  rename_i kl n
  cases c <;> (try simp only at hr) <;> try (cases hr; done)
  rename_i pc
  cases pc <;> (try simp only at hr) <;> try (cases hr; done)
  rename_i kc c
  have := hl.int; subst this
  have := hcc.int; subst this
  split at hr
  · rename_i hn
    obtain ⟨rfl, h0, hb⟩ := hn
    simp at hr
    obtain ⟨rfl, rfl⟩ := hr
    obtain ⟨i', zv, hi', hzv, hzs, hzo⟩ := zeroP_info (St := St) (w := w) hz
    rw [hi] at hi'
    simp at hi'
    subst hi'
    have hzl : zv.cells.size = z.length := by have := hzs.length; simpa using this
    have hb' : (i.bytes : Int) * n ≤ 281474976710656 := by
      have h1 : i.bytes * n.toNat ≤ 4096 * 1073741824 := Nat.mul_le_mul hc.2.2 (by unfold big at hb; omega)
      have h2 : ((i.bytes * n.toNat : Nat) : Int) = (i.bytes : Int) * n := by rw [Int.natCast_mul, Int.toNat_of_nonneg h0]
      omega
    have hrun := run_make (P := P) w t e i zv ht hi hzv kl kc n n h0 (Int.le_refl _) hb' (by unfold big at hb; omega)
    have hv : VRs g m St w ((rep z n.toNat).map .p) (madeCells zv.cells (n.toNat * i.size)).toList := by
      rw [← hc.1]
      exact VRs.of_p (rep_sound hzs (by omega) _)
    obtain ⟨h1, h2, h3⟩ := h.fresh (e := e) hd hv (made_one (by omega) hzo)
    refine ⟨_, _, hrun, _, _, _, h1, h2, h3, ?_⟩
    simp only [VR]
    exact ⟨⟨true, _, set_same hd⟩, n.toNat, by simp [G.set], Nat.le_refl _⟩
  · cases hr
theorem store_sound (h : MemOK X J g St m w) {t : TypeId} {sz : Nat} {p x v : AV} {up ux : Value} {m' : List Blk} (hn : szT P t = some sz) (hr : runS call (.store sz) [p, x] m = some (v, m')) (hp : VR g m St w p up) (hx : VR g m St w x ux) :
    ∃ w', (Instr.storeAt t up ux).run P w = .ok () w' ∧ Step X J g St m w v m' undef w' := by
  cases p <;> simp only [runS] at hr <;> try (cases hr; done)
  rotate_left
  · rename_i b i o
    unfold storeV at hr
    split at hr
    · rename_i n' s cs hb
      split at hr
      · rename_i ps hps
        split at hr
        · rename_i hc
          obtain ⟨rfl, c1, c2, c3⟩ := hc
          simp at hr
          obtain ⟨rfl, rfl⟩ := hr
          obtain ⟨h1, cur, e, us, rest, h2, h3, h4, h5, h6, h7, h8, h9, h10, h11⟩ := h.mem b _ hb
          have hst := h11 rfl
          simp only [VR] at hp
          obtain ⟨q, rfl, wr', n2, s', cs', hb', hle, hq⟩ := hp
          rw [hb] at hb'
          simp only [Option.some.injEq, Blk.vec.injEq] at hb'
          obtain ⟨_, rfl, _, _⟩ := hb'
          obtain rfl := hq rfl
          have hcell : (cellsOf x).all isCell = true := by
            rw [ps_spec hps]
            rw [List.all_map]
            rw [List.all_eq_true] at c3 ⊢
            intro y hy
            have := c3 y hy
            cases y <;> first | rfl | (simp [isCellP] at this)
          obtain ⟨k1, k2⟩ := cellsOf_sound hx hcell
          rw [ps_spec hps] at k1
          have k1 := PRs.of_map_p k1
          have hxl : ux.cells.size = sz := by have := k1.length; simp at this; omega
          have hul : us.length = cs.length := h4.length
          have hcs : us.length ≤ cur.size := by
            have := congrArg List.length h3
            simp only [Array.length_toList, List.length_append] at this
            omega
          have hstc := run_storeCells_at P (g.ρ b) o e ux.cells.toList 0 cur w h2 (by simp; omega) k2
          simp only [Nat.add_zero] at hstc
          have hover : (cur.toList.take o ++ ux.cells.toList ++ cur.toList.drop (o + ux.cells.toList.length)) = over cur.toList o ux.cells.toList := by
            unfold Gv.over
            rw [List.append_assoc]
          rw [hover] at hstc
          have hsplit : over cur.toList o ux.cells.toList = over us o ux.cells.toList ++ rest := by
            unfold Gv.over
            rw [h3, List.take_append_of_le_length (by omega), List.drop_append_of_le_length (by simp; omega)]
            simp
          refine ⟨w.setRow (g.ρ b) (over cur.toList o ux.cells.toList).toArray, ?_, ?_⟩
          · simp only [Instr.storeAt, Instr.sureAddr, Sem.run_bind, Sem.run_pure, Result.andThen_ok, storeVar, run_size hn, Sem.run_ite]
            rw [if_neg (by simp [hxl])]
            exact hstc
          · have hg : w.grownBy (w.setRow (g.ρ b) (over cur.toList o ux.cells.toList).toArray) (some (g.ρ b)) :=
              ⟨rfl, rfl, rfl, by simp [World.setRow], fun k _ hk => setRow_other w (g.ρ b) k _ (fun e => hk (by rw [e]))⟩
            have hh := setRow_heap w (g.ρ b) cur (over cur.toList o ux.cells.toList).toArray e (0, 0) h2
            have mx := mext_vec (g := g) (wr' := true) (s' := s) (cs' := over cs o ps) hb
            obtain ⟨r1, r2⟩ := h.change0 hb rfl hst hg mx fun ev => by
              refine ⟨h1, _, e, over us o ux.cells.toList, rest, hh, by simp [hsplit], PRs.mono ev _ _ (h4.over k1 o), ?_, fun y hy => ?_, h7, ?_, h9, h10, fun _ => hst⟩
              · rw [← h5]; simp [Gv.over]; omega
              · rcases over_mem hy with hy | hy
                · exact h6 y hy
                · exact k2 y hy
              · rw [← h8]; simp [Gv.over]; omega
            exact ⟨_, g, St, r1, r2, mx, by simp [VR]⟩
        · cases hr
      · cases hr
    · cases hr
  rename_i b o
  unfold storeA at hr
  split at hr
  · rename_i cs hb
    split at hr
    · rename_i hc
      obtain ⟨c1, c2, c3⟩ := hc
      simp at hr
      obtain ⟨rfl, rfl⟩ := hr
      obtain ⟨h1, cur, e, h2, h3, h4, h5⟩ := h.mem b _ hb
      obtain ⟨k1, k2⟩ := cellsOf_sound hx c3
      simp only [VR] at hp
      obtain ⟨_, rfl⟩ := hp
      have hcl : cur.size = cs.length := by have := h3.length; simpa using this
      have hxl : ux.cells.size = sz := by have := k1.length; simp at this; omega
      have hst := run_storeCells_at P (g.ρ b) o e ux.cells.toList 0 cur w h2 (by simp; omega) k2
      simp only [Nat.add_zero] at hst
      have hover : (cur.toList.take o ++ ux.cells.toList ++ cur.toList.drop (o + ux.cells.toList.length)) = over cur.toList o ux.cells.toList := by
        unfold Gv.over
        rw [List.append_assoc]
      rw [hover] at hst
      refine ⟨w.setRow (g.ρ b) (over cur.toList o ux.cells.toList).toArray, ?_, ?_⟩
      · simp only [Instr.storeAt, Instr.sureAddr, Sem.run_bind, Sem.run_pure, Result.andThen_ok, storeVar, run_size hn, Sem.run_ite]
        rw [if_neg (by simp [hxl])]
        exact hst
      · have hg : w.grownBy (w.setRow (g.ρ b) (over cur.toList o ux.cells.toList).toArray) (some (g.ρ b)) :=
          ⟨rfl, rfl, rfl, by simp [World.setRow], fun k _ hk => setRow_other w (g.ρ b) k _ (fun e => hk (by rw [e]))⟩
        have hh := setRow_heap w (g.ρ b) cur (over cur.toList o ux.cells.toList).toArray e (0, 0) h2
        obtain ⟨r1, r2, r3⟩ := h.store (cs' := over cs o (cellsOf x)) hb hg hh (by simpa using h3.over k1 o) (fun y hy => by
          simp only at hy
          rcases over_mem hy with hy | hy
          · exact h5 y hy
          · exact k2 y hy)
        exact ⟨_, g, St, r1, r2, r3, by simp [VR]⟩
    · cases hr
  · cases hr
end Gv
