/- Appends. -/
import Derived.Test.YtfhgjanheaocaaaGvJ
namespace Gv
open Go Go.RowKit
variable {P : Program} {X : Nat → Prop} {J : Nat → JT} {g : G} {St : Nat → Nat → Prop} {m : List Blk} {w : World} {call : CallT}
theorem below_da (w : World) (o : Obj) : Below w.heap.size w (w.drew.alloc o) := ((Below.refl w.heap.size w).drew).alloc (Nat.le_refl _) _
theorem grown_da (w : World) (o : Obj) (row : Option Nat) : w.grownBy (w.drew.alloc o) row :=
  ⟨rfl, rfl, rfl, by simp, fun k hk _ => by
    have hk' : k < w.drew.heap.size := hk
    exact Below.heap_alloc w.drew o k hk'⟩
theorem MemOK.stableN (h : MemOK X J g St m w) (c : Array Value) (t : TypeId) (k : Nat) :
    ∃ St' : Nat → Nat → Prop, MemOK X J g St' m (w.drew.alloc (.cells c t)) ∧ Evo St w St' (w.drew.alloc (.cells c t)) ∧ (∀ j, j < k → St' w.heap.size j) ∧ (∀ j, k ≤ j → ¬ St' w.heap.size j) ∧
      (∀ b o, St' b o → b < (w.drew.alloc (.cells c t)).heap.size) ∧ ∀ b o, St' b o → St b o ∨ b = w.heap.size := by
  have hl : ∀ b o, (St b o ∨ (b = w.heap.size ∧ o < k)) → b < (w.drew.alloc (.cells c t)).heap.size := fun b o hs => by
    rcases hs with hs | ⟨rfl, _⟩
    · have := h.stLt b o hs; simp; omega
    · simp
  obtain ⟨h1, h2⟩ := h.grow (St' := fun b o => St b o ∨ (b = w.heap.size ∧ o < k)) (below_da w _) (fun _ _ => .inl) hl
    (fun b o hs => by rcases hs with hs | ⟨rfl, _⟩; exact .inl hs; exact .inr (Nat.le_refl _))
  refine ⟨_, h1, h2, fun j hj => .inr ⟨rfl, hj⟩, fun j hj hs => ?_, hl, fun b o hs => hs.imp id And.left⟩
  rcases hs with hs | ⟨_, hs⟩
  · have := h.stLt _ _ hs
    omega
  · omega
theorem at_newN {St' : Nat → Nat → Prop} {us rest : List Value} {t : TypeId} (h : ∀ j, j < us.length → St' w.heap.size j) (hone : ∀ x ∈ us, x.oneCell' = true) :
    At St' (w.drew.alloc (.cells (us.toArray ++ rest.toArray) t)) ⟨w.heap.size, 0, none⟩ us := by
  intro j x hj
  have hlt : j < us.length := (List.getElem?_eq_some_iff.1 hj).1
  refine ⟨by simpa using h j hlt, ?_, hone x (List.mem_of_getElem? hj)⟩
  rw [addr_add, Nat.zero_add]
  have := new_cell w.drew (us.toArray ++ rest.toArray) t j
  rw [show w.drew.heap.size = w.heap.size from rfl] at this
  rw [this, List.append_toArray, List.getElem?_toArray, List.getElem?_append_left hlt]
  exact hj
theorem zero_list (z : Array Value) (n : Nat) : ∃ rest : List Value, Builtin.zeroCells z n = rest.toArray ∧ rest.length = n * z.size := by
  refine ⟨(Builtin.zeroCells z n).toList, by simp, ?_⟩
  rw [Array.length_toList, size_zeroCells]
theorem run_append_zero {t e ty : TypeId} {i : TypeInfo} {a ay : Option Addr} {n cap cy : Nat} (ht : P.underlying t = some (.slice e)) (hi : P.info? e = some i) (hn : n ≤ cap) :
    (Builtin.append_ #[t, t] ty #[.slice a n cap, .slice ay 0 cy]).run P w = .ok (.slice a n cap) w := by
  have hf : (Builtin.firstCells i.size 0 (.slice ay 0 cy)).run P w = .ok #[] w := by
    cases ay <;> simp [Builtin.firstCells, loadCells, loadCellsFrom]
  cases a <;> simp [Builtin.append_, run_underlying ht, Go.sizeOf, typeInfo, hi, Builtin.lenOf, hn, hf, storeCells]
theorem run_append_in {t e e' ty : TypeId} {i : TypeInfo} (ht : P.underlying t = some (.slice e)) (hi : P.info? e = some i)
    (q sLen sCap : Nat) (cur : Array Value) (hg : w.heap[q]? = some (.cells cur e' (0, 0)))
    (a : Addr) (n c : Nat) (news : List Value) (hl : news.length = n * i.size) (hnews : ∀ j u, news[j]? = some u → w.cell? (a.add j) = some u) (h1 : ∀ u ∈ news, u.oneCell' = true)
    (hroom : sLen + n ≤ sCap) (hfit : sLen * i.size + news.length ≤ cur.size) :
    (Builtin.append_ #[t, t] ty #[.slice (some ⟨q, 0, none⟩) sLen sCap, .slice (some a) n c]).run P w =
      .ok (.slice (some ⟨q, 0, none⟩) (sLen + n) sCap) (w.setRow q (over cur.toList (sLen * i.size) news).toArray) := by
  have hf := run_firstCells_some (P := P) w i.size n a n c news hl hnews
  have hst := run_storeCells_at P q (sLen * i.size) e' news 0 cur w hg (by simpa using hfit) h1
  simp only [Nat.add_zero] at hst
  have hover : (cur.toList.take (sLen * i.size) ++ news ++ cur.toList.drop (sLen * i.size + news.length)) = over cur.toList (sLen * i.size) news := by
    unfold Gv.over
    rw [List.append_assoc]
  rw [hover] at hst
  simp [Builtin.append_, run_underlying ht, Go.sizeOf, typeInfo, hi, Builtin.lenOf, hroom, hf, Addr.add_lit, hst]
theorem mem_of_at {St : Nat → Nat → Prop} {w : World} {ad : Addr} {us : List Value} (h : At St w ad us) : ∀ x ∈ us, x.oneCell' = true := fun x hx => by
  obtain ⟨j, hj, rfl⟩ := List.getElem_of_mem hx
  exact (h j _ (List.getElem?_eq_getElem hj)).2.2
theorem VR_nilA {g : G} {m : List Blk} {St : Nat → Nat → Prop} {w : World} {x : AV} {u : Value} (h : VR g m St w x u) : VR g m St w (nilA x) u := by
  unfold nilA
  split
  · simpa [VR, PR] using h
  · exact h
theorem append_sound (h : MemOK X J g St m w) {t e ty : TypeId} {i : TypeInfo} {z : Value} {d : Nat} {x y v : AV} {ux uy : Value} {m' : List Blk} (ht : P.underlying t = some (.slice e)) (hi : P.info? e = some i) (hz : i.zero = some z)
    (hc : z.cells.size = i.size ∧ i.size ≠ 0 ∧ i.bytes ≤ 4096) (hr : runS call (.append d i.size) [x, y] m = some (v, m')) (hx : VR g m St w x ux) (hy : VR g m St w y uy) :
    ∃ u w', (Builtin.append_ #[t, t] ty #[ux, uy]).run P w = .ok u w' ∧ Step X J g St m w v m' u w' := by
  obtain ⟨hzs, hs0, hbytes⟩ := hc
  simp only [runS] at hr
  split at hr
  · rename_i n ys hys
    obtain ⟨ay, cy, usy, rfl, hyp, hcy, hay⟩ := asList_spec hys hy
    unfold appendA at hr
    split at hr
    · rename_i hn
      subst hn
      split at hr
      · rename_i r hxs
        obtain ⟨n0, cs0⟩ := r
        simp at hr
        obtain ⟨rfl, rfl⟩ := hr
        obtain ⟨ax, cx, usx, rfl, _, hcx, _⟩ := asList_spec hxs hx
        exact ⟨_, w, run_append_zero ht hi hcx, Step.same h hx⟩
      · cases hr
    · rename_i hn
      rcases hay with ⟨h0, _⟩ | ⟨ad, rfl, hat⟩
      · exact absurd h0 hn
      · split at hr
        · rename_i hlen
          have huy : usy.length = n * i.size := by rw [hyp.length]; exact hlen
          have hnews : ∀ j u, usy[j]? = some u → w.cell? (ad.add j) = some u := fun j u hj => (hat j u hj).2.1
          have hyone := mem_of_at hat
          have small : ∀ k, k ≤ big → k * i.bytes ≤ 140737488355328 := fun k hk => by
            have : k * i.bytes ≤ 1073741824 * 4096 := Nat.mul_le_mul hk hbytes
            omega
          have small63 : ∀ k, k ≤ big → k ≤ maxLen := fun k hk => by unfold big at hk; unfold maxLen; omega
          replace hx := VR_nilA hx
          generalize nilA x = x at hr hx
          split at hr
          ·
            split at hr
            · rename_i hd
              split at hr
              · rename_i hb
                simp at hr
                obtain ⟨rfl, rfl⟩ := hr
                simp only [VR] at hx
                subst hx
                have hrun := run_append_nil (P := P) w t ty e i z ht hi hz ad n cy usy huy hnews (by omega) (by unfold big at hb; omega) (by have := small n hb; omega)
                obtain ⟨rest, hrest, hrl⟩ := zero_list z.cells (grownCap w n 0 e - n)
                rw [hrest] at hrun
                have hge := grownCap_ge w n 0 e
                have hcm : grownCap w n 0 e ≤ maxLen := grownCap_le_maxLen w n 0 e (small63 n hb)
                obtain ⟨St', s1, s2, s3, s4, s5, s6⟩ := h.stableN (usy.toArray ++ rest.toArray) e (n * i.size)
                have hat' := at_newN (w := w) (rest := rest) (t := e) (us := usy) (fun j hj => s3 j (by rw [huy] at hj; exact hj)) hyone
                have mx : MExt g m (g.set d w.heap.size (grownCap w n 0 e) i.size) (m.set d (.buf n)) := mext_new hd
                refine ⟨_, _, hrun, _, g.set d w.heap.size (grownCap w n 0 e) i.size, St', s1.new hd (fun b hl he => by have := h.lt hl; omega) (fun q' o hq => by have := heap_lt (h.fix q' o hq).1; omega) ?_, s2, mx, ?_⟩
                · refine ⟨(fun hx => by have := h.b0 _ hx; simp [G.set] at this), usy.toArray ++ rest.toArray, e, ?_, ?_, ?_, ?_, ?_⟩
                  · simp only [G.set, if_true]
                    exact heap_alloc_new w.drew _
                  · simp [G.set, huy, hrl, hzs]
                    rw [← Nat.add_mul]
                    congr 1
                    omega
                  · simpa [G.set] using hge
                  · simpa [G.set] using hcm
                  · simpa [G.set] using s4
                · simp only [VR]
                  refine ⟨_, _, usy, rfl, hge, PRs.mono s2 _ _ hyp, huy, hat', n, set_same hd, Nat.le_refl _, fun _ => ?_⟩
                  simp [G.set]
              · cases hr
            · cases hr
          ·
            rename_i n1 sz' cs
            split at hr
            · rename_i hd
              split at hr
              · rename_i hb
                obtain ⟨rfl, hb⟩ := hb
                simp at hr
                obtain ⟨rfl, rfl⟩ := hr
                simp only [VR] at hx
                obtain ⟨q, usx, rfl, hxp, hxl, hxa⟩ := hx
                have hrun := run_append_grow (P := P) w t ty e i z ht hi hz ⟨q, 0, none⟩ n1 n1 usx hxl (fun j v hj => (hxa j v hj).2.1) ad n cy usy huy hnews (by omega) (by unfold big at hb; omega) (growslice_fits (by omega) (small _ hb))
                obtain ⟨rest, hrest, hrl⟩ := zero_list z.cells (grownCap w (n1 + n) n1 e - (n1 + n))
                rw [hrest] at hrun
                have happ : usx.toArray ++ usy.toArray ++ rest.toArray = (usx ++ usy).toArray ++ rest.toArray := by simp
                rw [happ] at hrun
                have hul : (usx ++ usy).length = (n1 + n) * i.size := by rw [List.length_append, hxl, huy, Nat.add_mul]
                have hge := grownCap_ge w (n1 + n) n1 e
                have hcm : grownCap w (n1 + n) n1 e ≤ maxLen := grownCap_le_maxLen w (n1 + n) n1 e (small63 _ hb)
                obtain ⟨St', s1, s2, s3, s4, s5, s6⟩ := h.stableN ((usx ++ usy).toArray ++ rest.toArray) e ((n1 + n) * i.size)
                have hone : ∀ x ∈ usx ++ usy, x.oneCell' = true := fun x hx => by
                  rcases List.mem_append.1 hx with hx | hx
                  · exact mem_of_at hxa x hx
                  · exact hyone x hx
                have hat' := at_newN (w := w) (rest := rest) (t := e) (us := usx ++ usy) (fun j hj => s3 j (by rw [hul] at hj; exact hj)) hone
                have mx : MExt g m (g.set d w.heap.size (grownCap w (n1 + n) n1 e) i.size) (m.set d (.buf (n1 + n))) := mext_new hd
                refine ⟨_, _, hrun, _, g.set d w.heap.size (grownCap w (n1 + n) n1 e) i.size, St', s1.new hd (fun b hl he => by have := h.lt hl; omega) (fun q' o hq => by have := heap_lt (h.fix q' o hq).1; omega) ?_, s2, mx, ?_⟩
                · refine ⟨(fun hx => by have := h.b0 _ hx; simp [G.set] at this), (usx ++ usy).toArray ++ rest.toArray, e, ?_, ?_, ?_, ?_, ?_⟩
                  · simp only [G.set, if_true]
                    exact heap_alloc_new w.drew _
                  · rw [Array.size_append, List.size_toArray, List.size_toArray, hul, hrl, hzs]
                    simp only [G.set, if_true]
                    rw [← Nat.add_mul]
                    congr 1
                    omega
                  · simpa [G.set] using hge
                  · simpa [G.set] using hcm
                  · simpa [G.set] using s4
                · simp only [VR]
                  refine ⟨_, _, usx ++ usy, rfl, hge, PRs.mono s2 _ _ (hxp.append hyp), hul, hat', n1 + n, set_same hd, Nat.le_refl _, fun _ => ?_⟩
                  simp [G.set]
              · cases hr
            · cases hr
          ·
            rename_i b n1 sz' cs
            split at hr
            · rename_i n2 hbuf
              split at hr
              · rename_i hb
                obtain ⟨rfl, rfl, hb⟩ := hb
                simp at hr
                obtain ⟨rfl, rfl⟩ := hr
                simp only [VR] at hx
                obtain ⟨q, cap, usx, rfl, hcap, hxp, hxl, hxa, n', hb', _, hlink⟩ := hx
                rw [hbuf] at hb'
                simp at hb'
                subst hb'
                obtain ⟨rfl, rfl, hsig⟩ := hlink rfl
                obtain ⟨k1, cur, el, k2, k3, k4, k5, k6⟩ := h.mem b _ hbuf
                have hul : (usx ++ usy).length = (n2 + n) * i.size := by rw [List.length_append, hxl, huy, Nat.add_mul]
                have hone : ∀ x ∈ usx ++ usy, x.oneCell' = true := fun x hx => by
                  rcases List.mem_append.1 hx with hx | hx
                  · exact mem_of_at hxa x hx
                  · exact hyone x hx
                by_cases hroom : n2 + n ≤ g.κ b
                ·
                  have hfit : n2 * i.size + usy.length ≤ cur.size := by
                    rw [huy, k3, ← hsig, ← Nat.add_mul]
                    exact Nat.mul_le_mul_right _ hroom
                  have hrun := run_append_in (P := P) (w := w) (ty := ty) ht hi (g.ρ b) n2 (g.κ b) cur k2 ad n cy usy huy hnews hyone hroom hfit
                  have hg : w.grownBy (w.setRow (g.ρ b) (over cur.toList (n2 * i.size) usy).toArray) (some (g.ρ b)) :=
                    ⟨rfl, rfl, rfl, by simp [World.setRow], fun k _ hk => setRow_other w (g.ρ b) k _ (fun e => hk (by rw [e]))⟩
                  have hh := setRow_heap w (g.ρ b) cur (over cur.toList (n2 * i.size) usy).toArray el (0, 0) k2
                  have hcell : ∀ j, (w.setRow (g.ρ b) (over cur.toList (n2 * i.size) usy).toArray).cell? ⟨g.ρ b, j, none⟩ = (over cur.toList (n2 * i.size) usy)[j]? := fun j => by
                    rw [cell_of_row _ (g.ρ b) j _ el (0, 0) hh]
                    simp
                  have hold : ∀ j, j < n2 * i.size → (over cur.toList (n2 * i.size) usy)[j]? = cur[j]? := fun j hj => by
                    unfold Gv.over
                    rw [List.getElem?_append_left (by simp; omega), List.getElem?_take, if_pos hj]
                    simp
                  have hst : ∀ j, St (g.ρ b) j → j < n2 * i.size := fun j hj => by
                    rcases Nat.lt_or_ge j (n2 * i.size) with h' | h'
                    · exact h'
                    · exact absurd hj (k6 j (by rw [← hsig]; exact h'))
                  have ev : Evo St w (fun b' o => St b' o ∨ (b' = g.ρ b ∧ o < (n2 + n) * i.size)) (w.setRow (g.ρ b) (over cur.toList (n2 * i.size) usy).toArray) := fun b' o hs => by
                    refine ⟨.inl hs, ?_⟩
                    by_cases hbb : b' = g.ρ b
                    · subst hbb
                      rw [hcell, hold o (hst o hs), cell_of_row w (g.ρ b) o cur el (0, 0) k2]
                    · exact grown_cell hg (h.stLt b' o hs) hbb
                  have mo := h.rise (St' := fun b' o => St b' o ∨ (b' = g.ρ b ∧ o < (n2 + n) * i.size)) (n' := n2 + n) (q := g.ρ b) (k := g.κ b) (s := i.size) hbuf (by omega) hg ev
                    (fun b' o hs => by
                      rcases hs with hs | ⟨rfl, _⟩
                      · exact Nat.lt_of_lt_of_le (h.stLt b' o hs) hg.size
                      · exact heap_lt hh)
                    (fun b' o hs => hs.imp id And.left) (.inl rfl) hh (by simp [Gv.over]; rw [hsig]; have := k3; rw [hsig] at hfit; omega) hroom k5
                    (fun j hj hs => by
                      rcases hs with hs | ⟨_, hs⟩
                      · have := hst j hs
                        have : n2 * i.size ≤ (n2 + n) * i.size := Nat.mul_le_mul_right _ (by omega)
                        omega
                      · omega)
                  refine ⟨_, _, hrun, _, _, _, mo, ev, mext_buf hbuf (by omega), ?_⟩
                  simp only [VR]
                  refine ⟨g.ρ b, g.κ b, usx ++ usy, rfl, hroom, PRs.mono ev _ _ (hxp.append hyp), hul, ?_, n2 + n, set_same hbuf, Nat.le_refl _, fun _ => by simp [G.set]⟩
                  intro j x hj
                  have hjl : j < (n2 + n) * i.size := by
                    have := (List.getElem?_eq_some_iff.1 hj).1
                    omega
                  refine ⟨.inr ⟨rfl, by simpa using hjl⟩, ?_, hone x (List.mem_of_getElem? hj)⟩
                  rw [addr_add, Nat.zero_add, hcell]
                  by_cases hjx : j < usx.length
                  · rw [List.getElem?_append_left hjx] at hj
                    rw [hold j (by omega), ← (hxa j x hj).2.1, addr_add, Nat.zero_add, cell_of_row w (g.ρ b) j cur el (0, 0) k2]
                  · rw [List.getElem?_append_right (by omega)] at hj
                    unfold Gv.over
                    have hlt : n2 * i.size ≤ cur.size := by omega
                    rw [List.getElem?_append_right (by simp; omega)]
                    have hl1 : (cur.toList.take (n2 * i.size)).length = usx.length := by simp; omega
                    rw [hl1, List.getElem?_append_left (List.getElem?_eq_some_iff.1 hj).1]
                    exact hj
                ·
                  have hrun := run_append_grow (P := P) w t ty e i z ht hi hz ⟨g.ρ b, 0, none⟩ n2 (g.κ b) usx hxl (fun j v hj => (hxa j v hj).2.1) ad n cy usy huy hnews (by omega) (by unfold big at hb; omega) (growslice_fits (by omega) (small _ hb))
                  obtain ⟨rest, hrest, hrl⟩ := zero_list z.cells (grownCap w (n2 + n) (g.κ b) e - (n2 + n))
                  rw [hrest] at hrun
                  have happ : usx.toArray ++ usy.toArray ++ rest.toArray = (usx ++ usy).toArray ++ rest.toArray := by simp
                  rw [happ] at hrun
                  have hge := grownCap_ge w (n2 + n) (g.κ b) e
                  have hcm : grownCap w (n2 + n) (g.κ b) e ≤ maxLen := grownCap_le_maxLen w (n2 + n) (g.κ b) e (small63 _ hb)
                  obtain ⟨St', s1, s2, s3, s4, s5, s6⟩ := h.stableN ((usx ++ usy).toArray ++ rest.toArray) e ((n2 + n) * i.size)
                  have hat' := at_newN (w := w) (rest := rest) (t := e) (us := usx ++ usy) (fun j hj => s3 j (by rw [hul] at hj; exact hj)) hone
                  have mo := h.rise (St' := St') (n' := n2 + n) (q := w.heap.size) (k := grownCap w (n2 + n) (g.κ b) e) (s := i.size) hbuf (by omega) (grown_da w _ _) s2 s5 s6 (.inr (Nat.le_refl _)) (heap_alloc_new w.drew _)
                    (by
                      rw [Array.size_append, List.size_toArray, List.size_toArray, hul, hrl, hzs, ← Nat.add_mul]
                      congr 1
                      omega) hge hcm s4
                  refine ⟨_, _, hrun, _, _, _, mo, s2, mext_buf hbuf (by omega), ?_⟩
                  simp only [VR]
                  refine ⟨_, _, usx ++ usy, rfl, hge, PRs.mono s2 _ _ (hxp.append hyp), hul, hat', n2 + n, set_same hbuf, Nat.le_refl _, fun _ => by simp [G.set]⟩
              · cases hr
            · cases hr
          · cases hr
        · cases hr
  · cases hr
theorem MemOK.vecN (h : MemOK X J g St m w) {d n k sz : Nat} {us rest : List Value} {cs : List PV} {e : TypeId} (hd : m[d]? = some .none) (hcs : PRs St w cs us) (hul : us.length = n * sz) (hone : ∀ x ∈ us, x.oneCell' = true)
    (hsz : (us.toArray ++ rest.toArray).size = k * sz) (hnk : n ≤ k) (hk : k ≤ maxLen) :
    MemOK X J (g.set d w.heap.size k sz) St (m.set d (.vec true n sz cs)) (w.drew.alloc (.cells (us.toArray ++ rest.toArray) e)) ∧ Evo St w St (w.drew.alloc (.cells (us.toArray ++ rest.toArray) e)) ∧ MExt g m (g.set d w.heap.size k sz) (m.set d (.vec true n sz cs)) := by
  obtain ⟨h1, h2⟩ := h.grow (St' := St) (below_da w _) (fun _ _ h => h) (fun b o hs => by have := h.stLt b o hs; simp; omega) (fun _ _ h => .inl h)
  refine ⟨h1.new hd (fun b hl he => by have := h.lt hl; omega) (fun q' o hq => by have := heap_lt (h.fix q' o hq).1; omega) ?_, h2, mext_new hd⟩
  refine ⟨(fun hx => by have := h.b0 _ hx; simp [G.set] at this), us.toArray ++ rest.toArray, e, us, rest, ?_, by simp, PRs.mono h2 _ _ hcs, hul, hone, ?_, ?_, ?_, ?_, fun _ j hs => ?_⟩
  · simp only [G.set, if_true]
    exact heap_alloc_new w.drew _
  · simp [G.set]
  · simpa [G.set] using hsz
  · simpa [G.set] using hnk
  · simpa [G.set] using hk
  · have := h.stLt _ _ hs
    simp [G.set] at this
theorem appendV_sound (h : MemOK X J g St m w) {t e ty : TypeId} {i : TypeInfo} {z : Value} {d : Nat} {x y v : AV} {ux uy : Value} {m' : List Blk} (ht : P.underlying t = some (.slice e)) (hi : P.info? e = some i) (hz : i.zero = some z)
    (hc : z.cells.size = i.size ∧ i.size ≠ 0 ∧ i.bytes ≤ 4096) (hr : runS call (.appendV d i.size) [x, y] m = some (v, m')) (hx : VR g m St w x ux) (hy : VR g m St w y uy) :
    ∃ u w', (Builtin.append_ #[t, t] ty #[ux, uy]).run P w = .ok u w' ∧ Step X J g St m w v m' u w' := by
  obtain ⟨hzs, hs0, hbytes⟩ := hc
  simp only [runS] at hr
  split at hr
  · rename_i n ys hys
    obtain ⟨ay, cy, usy, rfl, hyp, hcy, hay⟩ := asList_spec hys hy
    unfold appendVA at hr
    split at hr
    · cases hr
    · rename_i hn
      rcases hay with ⟨h0, _⟩ | ⟨ad, rfl, hat⟩
      · exact absurd h0 hn
      · split at hr
        · rename_i hlen
          obtain ⟨hlen, _⟩ := hlen
          have huy : usy.length = n * i.size := by rw [hyp.length]; exact hlen
          have hnews : ∀ j u, usy[j]? = some u → w.cell? (ad.add j) = some u := fun j u hj => (hat j u hj).2.1
          have hyone := mem_of_at hat
          have small : ∀ k, k ≤ big → k * i.bytes ≤ 140737488355328 := fun k hk => by
            have : k * i.bytes ≤ 1073741824 * 4096 := Nat.mul_le_mul hk hbytes
            omega
          have small63 : ∀ k, k ≤ big → k ≤ maxLen := fun k hk => by unfold big at hk; unfold maxLen; omega
          replace hx := VR_nilA hx
          generalize nilA x = x at hr hx
          split at hr
          ·
            split at hr
            · rename_i hd
              split at hr
              · rename_i hb
                simp at hr
                obtain ⟨rfl, rfl⟩ := hr
                simp only [VR] at hx
                subst hx
                have hrun := run_append_nil (P := P) w t ty e i z ht hi hz ad n cy usy huy hnews (by omega) (by unfold big at hb; omega) (by have := small n hb; omega)
                obtain ⟨rest, hrest, hrl⟩ := zero_list z.cells (grownCap w n 0 e - n)
                rw [hrest] at hrun
                have hge := grownCap_ge w n 0 e
                have hcm : grownCap w n 0 e ≤ maxLen := grownCap_le_maxLen w n 0 e (small63 n hb)
                have hsz : (usy.toArray ++ rest.toArray).size = grownCap w n 0 e * i.size := by
                  simp [huy, hrl, hzs]
                  rw [← Nat.add_mul]
                  congr 1
                  omega
                obtain ⟨s1, s2, mx⟩ := h.vecN (e := e) hd hyp huy hyone hsz hge hcm
                refine ⟨_, _, hrun, _, _, St, s1, s2, mx, ?_⟩
                simp only [VR]
                exact ⟨_, _, rfl, hge, true, n, _, _, set_same hd, Nat.le_refl _, fun _ => by simp [G.set]⟩
              · cases hr
            · cases hr
          ·
            rename_i n1 sz' cs
            split at hr
            · rename_i hd
              split at hr
              · rename_i hb
                obtain ⟨rfl, hb⟩ := hb
                simp at hr
                obtain ⟨rfl, rfl⟩ := hr
                simp only [VR] at hx
                obtain ⟨q, usx, rfl, hxp, hxl, hxa⟩ := hx
                have hrun := run_append_grow (P := P) w t ty e i z ht hi hz ⟨q, 0, none⟩ n1 n1 usx hxl (fun j v hj => (hxa j v hj).2.1) ad n cy usy huy hnews (by omega) (by unfold big at hb; omega) (growslice_fits (by omega) (small _ hb))
                obtain ⟨rest, hrest, hrl⟩ := zero_list z.cells (grownCap w (n1 + n) n1 e - (n1 + n))
                rw [hrest] at hrun
                have happ : usx.toArray ++ usy.toArray ++ rest.toArray = (usx ++ usy).toArray ++ rest.toArray := by simp
                rw [happ] at hrun
                have hul : (usx ++ usy).length = (n1 + n) * i.size := by rw [List.length_append, hxl, huy, Nat.add_mul]
                have hge := grownCap_ge w (n1 + n) n1 e
                have hcm : grownCap w (n1 + n) n1 e ≤ maxLen := grownCap_le_maxLen w (n1 + n) n1 e (small63 _ hb)
                have hone : ∀ x ∈ usx ++ usy, x.oneCell' = true := fun x hx => by
                  rcases List.mem_append.1 hx with hx | hx
                  · exact mem_of_at hxa x hx
                  · exact hyone x hx
                have hsz : ((usx ++ usy).toArray ++ rest.toArray).size = grownCap w (n1 + n) n1 e * i.size := by
                  rw [Array.size_append, List.size_toArray, List.size_toArray, hul, hrl, hzs, ← Nat.add_mul]
                  congr 1
                  omega
                obtain ⟨s1, s2, mx⟩ := h.vecN (e := e) hd (hxp.append hyp) hul hone hsz hge hcm
                refine ⟨_, _, hrun, _, _, St, s1, s2, mx, ?_⟩
                simp only [VR]
                exact ⟨_, _, rfl, hge, true, n1 + n, _, _, set_same hd, Nat.le_refl _, fun _ => by simp [G.set]⟩
              · cases hr
            · cases hr
          ·
            rename_i b n1 sz'
            split at hr
            · rename_i n2 sz'' cs hbuf
              split at hr
              · rename_i hb
                obtain ⟨rfl, rfl, rfl, hb⟩ := hb
                simp at hr
                obtain ⟨rfl, rfl⟩ := hr
                simp only [VR] at hx
                obtain ⟨q, cap, rfl, hcap, wr, n', s', cs', hb', _, hlink⟩ := hx
                rw [hbuf] at hb'
                simp only [Option.some.injEq, Blk.vec.injEq] at hb'
                obtain ⟨_, rfl, _, _⟩ := hb'
                obtain ⟨rfl, rfl, _⟩ := hlink rfl
                obtain ⟨k1, cur, el, usx, rest0, k2, k3, hxp, hxl, hxo, hsig, k8, k9, k10, k11⟩ := h.mem b _ hbuf
                have hst := k11 rfl
                have hxa : ∀ j v, usx[j]? = some v → w.cell? ((⟨g.ρ b, 0, none⟩ : Addr).add j) = some v := fun j v hj => by
                  rw [addr_add, Nat.zero_add, cell_of_row w (g.ρ b) j cur el (0, 0) k2, ← Array.getElem?_toList, k3, List.getElem?_append_left (List.getElem?_eq_some_iff.1 hj).1]
                  exact hj
                have hul : (usx ++ usy).length = (n2 + n) * i.size := by rw [List.length_append, hxl, huy, Nat.add_mul]
                have hone : ∀ x ∈ usx ++ usy, x.oneCell' = true := fun x hx => by
                  rcases List.mem_append.1 hx with hx | hx
                  · exact hxo x hx
                  · exact hyone x hx
                have hcsz : cur.size = usx.length + rest0.length := by
                  have := congrArg List.length k3
                  simpa using this
                by_cases hroom : n2 + n ≤ g.κ b
                ·
                  have hfit : n2 * i.size + usy.length ≤ cur.size := by
                    rw [huy, k8, ← Nat.add_mul]
                    exact Nat.mul_le_mul_right _ hroom
                  have hrun := run_append_in (P := P) (w := w) (ty := ty) ht hi (g.ρ b) n2 (g.κ b) cur k2 ad n cy usy huy hnews hyone hroom hfit
                  have hg : w.grownBy (w.setRow (g.ρ b) (over cur.toList (n2 * i.size) usy).toArray) (some (g.ρ b)) :=
                    ⟨rfl, rfl, rfl, by simp [World.setRow], fun k _ hk => setRow_other w (g.ρ b) k _ (fun e => hk (by rw [e]))⟩
                  have hh := setRow_heap w (g.ρ b) cur (over cur.toList (n2 * i.size) usy).toArray el (0, 0) k2
                  have hsplit : over cur.toList (n2 * i.size) usy = (usx ++ usy) ++ rest0.drop usy.length := by
                    unfold Gv.over
                    rw [k3, ← hxl, List.take_left', List.drop_append]
                    · simp
                    · rfl
                  have ev : Evo St w St (w.setRow (g.ρ b) (over cur.toList (n2 * i.size) usy).toArray) := fun b' o hs => ⟨hs, grown_cell hg (h.stLt b' o hs) (fun e => hst o (e ▸ hs))⟩
                  have mx := mext_rise (g := g) (q := g.ρ b) (k := g.κ b) (t := i.size) (n' := n2 + n) (wr' := true) (s' := i.size) (cs' := cs ++ ys) hbuf (by omega)
                  have mo := h.change (St' := St) (k := g.κ b) (s := i.size) (y := .vec true (n2 + n) i.size (cs ++ ys)) hbuf rfl hg ev (fun b' o hs => Nat.lt_of_lt_of_le (h.stLt b' o hs) hg.size) (fun _ _ => .inl) (.inl rfl) mx
                    ⟨by simpa [G.set] using k1, _, el, usx ++ usy, rest0.drop usy.length, by simpa [G.set] using hh, by simp [hsplit], PRs.mono ev _ _ (hxp.append hyp), hul, hone, by simp [G.set], by simp [G.set, Gv.over]; omega, by simpa [G.set] using hroom, by simpa [G.set] using k10, by simpa [G.set] using fun j => hst j⟩
                  refine ⟨_, _, hrun, _, _, St, mo, ev, mx, ?_⟩
                  simp only [VR]
                  exact ⟨_, _, rfl, hroom, true, n2 + n, _, _, set_same hbuf, Nat.le_refl _, fun _ => by simp [G.set]⟩
                ·
                  have hrun := run_append_grow (P := P) w t ty e i z ht hi hz ⟨g.ρ b, 0, none⟩ n2 (g.κ b) usx hxl hxa ad n cy usy huy hnews (by omega) (by unfold big at hb; omega) (growslice_fits (by omega) (small _ hb))
                  obtain ⟨rest, hrest, hrl⟩ := zero_list z.cells (grownCap w (n2 + n) (g.κ b) e - (n2 + n))
                  rw [hrest] at hrun
                  have happ : usx.toArray ++ usy.toArray ++ rest.toArray = (usx ++ usy).toArray ++ rest.toArray := by simp
                  rw [happ] at hrun
                  have hge := grownCap_ge w (n2 + n) (g.κ b) e
                  have hcm : grownCap w (n2 + n) (g.κ b) e ≤ maxLen := grownCap_le_maxLen w (n2 + n) (g.κ b) e (small63 _ hb)
                  have hsz : ((usx ++ usy).toArray ++ rest.toArray).size = grownCap w (n2 + n) (g.κ b) e * i.size := by
                    rw [Array.size_append, List.size_toArray, List.size_toArray, hul, hrl, hzs, ← Nat.add_mul]
                    congr 1
                    omega
                  have hg := grown_da w (.cells ((usx ++ usy).toArray ++ rest.toArray) e) (some (g.ρ b))
                  have ev : Evo St w St (w.drew.alloc (.cells ((usx ++ usy).toArray ++ rest.toArray) e)) := evo_below h.stLt (below_da w _) (fun _ _ h => h)
                  have mx := mext_rise (g := g) (q := w.heap.size) (k := grownCap w (n2 + n) (g.κ b) e) (t := i.size) (n' := n2 + n) (wr' := true) (s' := i.size) (cs' := cs ++ ys) hbuf (by omega)
                  have mo := h.change (St' := St) (q := w.heap.size) (k := grownCap w (n2 + n) (g.κ b) e) (s := i.size) (y := .vec true (n2 + n) i.size (cs ++ ys)) hbuf rfl hg ev (fun b' o hs => Nat.lt_of_lt_of_le (h.stLt b' o hs) hg.size) (fun _ _ => .inl) (.inr (Nat.le_refl _)) mx
                    ⟨fun hx => by have := h.b0 _ hx; simp [G.set] at this, _, e, usx ++ usy, rest, by simpa [G.set] using heap_alloc_new w.drew _, by simp, PRs.mono ev _ _ (hxp.append hyp), hul, hone, by simp [G.set], by simpa [G.set] using hsz, by simpa [G.set] using hge, by simpa [G.set] using hcm, fun _ j hs => by have := h.stLt _ _ hs; simp [G.set] at this⟩
                  refine ⟨_, _, hrun, _, _, St, mo, ev, mx, ?_⟩
                  simp only [VR]
                  exact ⟨_, _, rfl, hge, true, n2 + n, _, _, set_same hbuf, Nat.le_refl _, fun _ => by simp [G.set]⟩
              · cases hr
            · cases hr
          · cases hr
        · cases hr
  · cases hr
end Gv
