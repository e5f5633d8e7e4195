/- Blocks of samples: their errors and copies; sums of their powers. -/
import Derived.Test.YtpcpegneobkbdaaS4
import Derived.Test.YtpcpegneobkbdaaS18
import Derived.Test.YtpcpegneobkbdaaP11
namespace Gv
open Go
set_option maxRecDepth 100000

def encB (bs : List (List ZZ)) : List PV := bs.map fun l => .list l.length (encG l)
theorem encB_get (bs : List (List ZZ)) (i : Nat) : (encB bs)[i]? = bs[i]?.map fun l => PV.list l.length (encG l) := by simp [encB]
theorem encB_snoc (bs : List (List ZZ)) (l : List ZZ) : encB bs ++ [.list l.length (encG l)] = encB (bs ++ [l]) := by simp [encB]

theorem findE_nil {β : Type} {f : β → Int} : ∀ {l : List β} {i : Nat}, ((findE f l i).getD (0, 0)).2 = 0 → ∀ z ∈ l, f z = 0
  | [], _, _, z, hz => by simp at hz
  | x :: l, i, h, z, hz => by
    simp only [findE] at h
    by_cases hx : f x = 0
    · rw [if_neg (by simpa using hx)] at h
      rcases List.mem_cons.1 hz with rfl | hz
      · exact hx
      · exact findE_nil h z hz
    · rw [if_pos hx] at h
      exact absurd h hx

/-- The first error. -/
def errOf {β : Type} (f : β → Int) (bs : List β) : Int := ((findE f bs 0).getD (0, 0)).2

theorem itemB_loop (bs : List (List ZZ)) (hl : bs.length < 4294967296) (hb : ∀ b ∈ bs, b.length < 4294967296) : ∀ i, i ≤ bs.length →
    Rpulse_itemError_blocks_0 (Tpulse_itemError_blocks_0a bs.length (encB bs) bs.length i) = exO (XLpulse_itemError_blocks_0.fn (sumE (findE blockE (bs.drop i) i))) := by
  refine up_ind _ ?_ ?_
  · refine Rpulse_itemError_blocks_0a_of _ _ _ _ ?_
    unfold Bpulse_itemError_blocks_0a
    rw [bif_neg (by omega), List.drop_length]
    rfl
  · intro i hi' ih
    refine Rpulse_itemError_blocks_0a_of _ _ _ _ ?_
    unfold Bpulse_itemError_blocks_0a
    obtain ⟨x, hx, hd⟩ := get_drop hi'
    rw [bif_pos (by omega), bif_pos (by omega)]
    simp only [Int.toNat_natCast, Nat.mul_one, encB_get, hx, Option.map_some, listC_list, bindO_val, blockError_is x (hb x (List.mem_of_getElem? hx))]
    rw [hd, w64_in (by omega), bif_ne]
    by_cases he : blockE x = 0
    · rw [if_pos he]
      simp only [findE, he, ne_eq, not_true_eq_false, if_false]
      exact ih
    · rw [if_neg he]
      simp only [findE, ne_eq, he, not_false_eq_true, if_true]
      rfl

theorem itemB_is (bs : List (List ZZ)) (hl : bs.length < 4294967296) (hb : ∀ b ∈ bs, b.length < 4294967296) :
    Fpulse_itemError_blocks [.list bs.length (encB bs), .fn 96 []] = some ((findE blockE bs 0).getD (0, 0)) := by
  refine Fpulse_itemError_blocks_of _ _ ?_
  unfold tpulse_itemError_blocks
  have := lpO_of Ipulse_itemError_blocks_0 XIpulse_itemError_blocks_0 (itemB_loop bs hl hb 0 (by omega))
  have this : Lpulse_itemError_blocks_0 (Tpulse_itemError_blocks_0a bs.length (encB bs) bs.length 0) = _ := this
  rw [this]
  simp only [bindO_val, List.drop_zero]
  cases findE blockE bs 0 <;> rfl

theorem gap_is (g : Gt) (l : List ZZ) (k : Int) : Fpulse_SpectrumOf_1 [.list l.length (encG l), .imm [.int .i64 g.first, .int .i64 g.hop, .int .i64 g.count, .list g.ws.length (encI g.ws)] 0, .imm [.int .i64 k] 0] = some (openE g l.length k) := by
  refine Fpulse_SpectrumOf_1_of _ _ _ _ _ _ _ _ ?_
  unfold tpulse_SpectrumOf_1
  have := openError_is g l k
  unfold encGt at this
  simp only [this, bindO_val]

theorem itemO_loop (g : Gt) (k : Int) (bs : List (List ZZ)) (hl : bs.length < 4294967296) : ∀ i, i ≤ bs.length →
    Rpulse_itemError_gaps_0 (Tpulse_itemError_gaps_0a g.first g.hop g.count g.ws.length (encI g.ws) k bs.length (encB bs) bs.length i) = exO (XLpulse_itemError_gaps_0.fn (sumE (findE (fun b : List ZZ => openE g b.length k) (bs.drop i) i))) := by
  refine up_ind _ ?_ ?_
  · refine Rpulse_itemError_gaps_0a_of _ _ _ _ _ _ _ _ _ _ ?_
    unfold Bpulse_itemError_gaps_0a
    rw [bif_neg (by omega), List.drop_length]
    rfl
  · intro i hi' ih
    refine Rpulse_itemError_gaps_0a_of _ _ _ _ _ _ _ _ _ _ ?_
    unfold Bpulse_itemError_gaps_0a
    obtain ⟨x, hx, hd⟩ := get_drop hi'
    rw [bif_pos (by omega), bif_pos (by omega)]
    simp only [Int.toNat_natCast, Nat.mul_one, encB_get, hx, Option.map_some, listC_list, bindO_val, gap_is g x k]
    rw [hd, w64_in (by omega), bif_ne]
    by_cases he : openE g x.length k = 0
    · rw [if_pos he]
      simp only [findE, he, ne_eq, not_true_eq_false, if_false]
      exact ih
    · rw [if_neg he]
      simp only [findE, ne_eq, he, not_false_eq_true, if_true]
      rfl

theorem itemO_is (g : Gt) (k : Int) (bs : List (List ZZ)) (hl : bs.length < 4294967296) :
    Fpulse_itemError_gaps [.list bs.length (encB bs), .fn 104 [.imm [.int .i64 g.first, .int .i64 g.hop, .int .i64 g.count, .list g.ws.length (encI g.ws)] 0, .imm [.int .i64 k] 0]] = some ((findE (fun b : List ZZ => openE g b.length k) bs 0).getD (0, 0)) := by
  refine Fpulse_itemError_gaps_of _ _ _ _ _ _ _ _ ?_
  unfold tpulse_itemError_gaps
  have := lpO_of Ipulse_itemError_gaps_0 XIpulse_itemError_gaps_0 (itemO_loop g k bs hl 0 (by omega))
  have this : Lpulse_itemError_gaps_0 (Tpulse_itemError_gaps_0a g.first g.hop g.count g.ws.length (encI g.ws) k bs.length (encB bs) bs.length 0) = _ := this
  rw [this]
  simp only [bindO_val, List.drop_zero]
  cases findE (fun b : List ZZ => openE g b.length k) bs 0 <;> rfl

theorem copyB_loop (bs : List (List ZZ)) (hl : bs.length ≤ 1000) (hb : ∀ b ∈ bs, b.length ≤ 1000000) : ∀ i, i ≤ bs.length → ∀ acc : List (List ZZ), acc.length = i → acc ++ bs.drop i = bs →
    Rglidepathref01_CopyBlocks_0 (Tglidepathref01_CopyBlocks_0b bs.length (encB bs) acc.length (encB acc) i acc.length) = exO (Xglidepathref01_CopyBlocks_0b (bs.length, encB bs, bs.length)) := by
  refine up_ind _ ?_ ?_
  · intro acc ha hq
    refine Rglidepathref01_CopyBlocks_0b_of _ _ _ _ _ _ ?_
    unfold Bglidepathref01_CopyBlocks_0b
    rw [List.drop_length, List.append_nil] at hq
    subst hq
    rw [bif_neg (by omega)]
    rfl
  · intro i hi ih acc ha hq
    refine Rglidepathref01_CopyBlocks_0b_of _ _ _ _ _ _ ?_
    unfold Bglidepathref01_CopyBlocks_0b
    obtain ⟨x, hx, hd⟩ := get_drop hi
    rw [bif_pos (by omega), bif_pos (by omega)]
    simp only [Int.toNat_natCast, Nat.mul_one, encB_get, hx, Option.map_some, listC_list, bindO_val, copyG_is x (hb x (List.mem_of_getElem? hx))]
    rw [bif_pos ⟨trivial, by simp only [big]; omega⟩, w64_in (by omega), encB_snoc]
    have := ih (acc ++ [x]) (by simp [ha]) (by rw [List.append_assoc, List.singleton_append, ← hd, hq])
    rw [List.length_append] at this
    exact this

theorem copyB_is (bs : List (List ZZ)) (hl : bs.length ≤ 1000) (hb : ∀ b ∈ bs, b.length ≤ 1000000) : Fglidepathref01_CopyBlocks [.list bs.length (encB bs)] = some (bs.length, encB bs) := by
  refine Fglidepathref01_CopyBlocks_of _ _ ?_
  unfold tglidepathref01_CopyBlocks
  by_cases hn : bs.length = 0
  · have := List.eq_nil_of_length_eq_zero hn
    subst this
    have l : Rglidepathref01_CopyBlocks_0 (Tglidepathref01_CopyBlocks_0a 0 (encB [])) = exO (Xglidepathref01_CopyBlocks_0a ()) := by
      refine Rglidepathref01_CopyBlocks_0a_of _ _ ?_
      unfold Bglidepathref01_CopyBlocks_0a
      rw [bif_neg (by omega)]
      rfl
    have l := Lglidepathref01_CopyBlocks_0a_of l
    simp only [List.length_nil, l, bindO_val, Sum.elim_inl]
    rfl
  · have l : Rglidepathref01_CopyBlocks_0 (Tglidepathref01_CopyBlocks_0a bs.length (encB bs)) = exO (Xglidepathref01_CopyBlocks_0b (bs.length, encB bs, bs.length)) := by
      refine Rglidepathref01_CopyBlocks_0a_of _ _ ?_
      unfold Bglidepathref01_CopyBlocks_0a
      obtain ⟨x, hx, hd⟩ := get_drop (l := bs) (i := 0) (by omega)
      rw [bif_pos (by omega), bif_pos (by omega)]
      simp only [encB_get, hx, Option.map_some, listC_list, bindO_val, copyG_is x (hb x (List.mem_of_getElem? hx))]
      exact copyB_loop bs hl hb 1 (by omega) [x] rfl (by rw [List.singleton_append, ← hd, List.drop_zero])
    have l := Lglidepathref01_CopyBlocks_0b_of l
    simp only [l, bindO_val, Sum.elim_inr]
    rw [bif_pos trivial]
end Gv
