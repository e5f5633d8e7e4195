/- What the functions do, round by round: P3b. -/
import Derived.Test.YtggnifebabjoiaaGvEnv
namespace Gv
open Go
set_option maxRecDepth 100000
def EalOf : List Entry := [.inl 106 a106 s106, .inl 98 a98 s98, .inl 107 a107 s107, .inl 120 a120 s120, .inl 122 a122 s122, .out 47 (RSh.one (CK.int .i64)), .out 105 (RSh.one (CK.int .i64)), .out 73 (RSh.one (CK.int .i64))]
theorem EalOf_ok : ∀ e ∈ EalOf, EntOK env e := (ent_inl rfl (ent_inl rfl (ent_inl rfl (ent_inl rfl (ent_inl rfl (ent_out (ent_out (ent_out ent_nil))))))))
def TalOf_0a (n0 : Nat) (c1 : List PV) (i2 i3 i4 i5 i6 i7 i8 i9 i10 : Int) : Q := ⟨(tm 82 [(7, AV.nilS), (8, (AV.loc 8 0)), (23, (AV.p (PV.list n0 c1))), (24, (AV.p (PV.int .i64 i2))), (25, (AV.p (PV.int .i64 (0 : Int))))]), (mm 82 [(2, (Bk.pcs true [(PV.int .i64 i3), (PV.int .i64 i4), (PV.int .i64 i5), (PV.int .i64 i6)])), (8, (Bk.pcs true [(PV.int .i64 i7), (PV.int .i64 i8), (PV.int .i64 i9), (PV.int .i64 i10), (PV.bool false), (PV.int .i64 (0 : Int)), (PV.int .i64 (0 : Int)), (PV.int .i64 (-1 : Int)), (PV.int .i64 (-1 : Int))]))])⟩
def TalOf_0b (n0 n1 : Nat) (c2 : List PV) (i3 i4 i5 i6 i7 i8 : Int) (b9 : Bool) (i10 i11 i12 i13 : Int) (n14 : Nat) (c15 : List PV) : Q := ⟨(tm 82 [(7, (AV.vap 53 n0 3)), (8, (AV.loc 8 0)), (23, (AV.p (PV.list n1 c2))), (24, (AV.p (PV.int .i64 i3))), (25, (AV.p (PV.int .i64 i4)))]), (mm 82 [(8, (Bk.pcs true [(PV.int .i64 i5), (PV.int .i64 i6), (PV.int .i64 i7), (PV.int .i64 i8), (PV.bool b9), (PV.int .i64 i10), (PV.int .i64 i11), (PV.int .i64 i12), (PV.int .i64 i13)])), (53, (Bk.vec true n14 3 c15))])⟩
def TalOf_0c (n0 : Nat) (c1 : List PV) (i2 i3 i4 i5 i6 i7 i8 : Int) : Q := ⟨(tm 82 [(7, AV.nilS), (8, (AV.loc 8 0)), (23, (AV.p (PV.list n0 c1))), (24, (AV.p (PV.int .i64 i2))), (25, (AV.p (PV.int .i64 i3)))]), (mm 82 [(8, (Bk.pcs true [(PV.int .i64 i4), (PV.int .i64 i5), (PV.int .i64 i6), (PV.int .i64 i7), (PV.bool false), (PV.int .i64 (0 : Int)), (PV.int .i64 (0 : Int)), (PV.int .i64 i8), (PV.int .i64 (-1 : Int))]))])⟩
def XalOf_0a (y : Int × Int × Int × Int × Int) : Ext × Q := (Ext.normal, ⟨(tm 82 [(7, AV.nilS)]), (mm 82 [(8, (Bk.pcs true [(PV.int .i64 y.1), (PV.int .i64 y.2.1), (PV.int .i64 y.2.2.1), (PV.int .i64 y.2.2.2.1), (PV.bool false), (PV.int .i64 (0 : Int)), (PV.int .i64 (0 : Int)), (PV.int .i64 y.2.2.2.2), (PV.int .i64 (-1 : Int))]))])⟩)
def IalOf_0a (q : Ext × S) : Int × Int × Int × Int × Int := ((pP_int1 (hdP (pB_pcs1 (avM q.2 8)))), (pP_int1 (hdP (List.tail (pB_pcs1 (avM q.2 8))))), (pP_int1 (hdP (List.tail (List.tail (pB_pcs1 (avM q.2 8)))))), (pP_int1 (hdP (List.tail (List.tail (List.tail (pB_pcs1 (avM q.2 8))))))), (pP_int1 (hdP (List.tail (List.tail (List.tail (List.tail (List.tail (List.tail (List.tail (pB_pcs1 (avM q.2 8))))))))))))
def XalOf_0b (y : Nat × Int × Int × Int × Int × Bool × Int × Int × Int × Int × Nat × List PV) : Ext × Q := (Ext.normal, ⟨(tm 82 [(7, (AV.vap 53 y.1 3))]), (mm 82 [(8, (Bk.pcs true [(PV.int .i64 y.2.1), (PV.int .i64 y.2.2.1), (PV.int .i64 y.2.2.2.1), (PV.int .i64 y.2.2.2.2.1), (PV.bool y.2.2.2.2.2.1), (PV.int .i64 y.2.2.2.2.2.2.1), (PV.int .i64 y.2.2.2.2.2.2.2.1), (PV.int .i64 y.2.2.2.2.2.2.2.2.1), (PV.int .i64 y.2.2.2.2.2.2.2.2.2.1)])), (53, (Bk.vec true y.2.2.2.2.2.2.2.2.2.2.1 3 y.2.2.2.2.2.2.2.2.2.2.2))])⟩)
def IalOf_0b (q : Ext × S) : Nat × Int × Int × Int × Int × Bool × Int × Int × Int × Int × Nat × List PV := ((pA_vap1 (avT q.2 7)), (pP_int1 (hdP (pB_pcs1 (avM q.2 8)))), (pP_int1 (hdP (List.tail (pB_pcs1 (avM q.2 8))))), (pP_int1 (hdP (List.tail (List.tail (pB_pcs1 (avM q.2 8)))))), (pP_int1 (hdP (List.tail (List.tail (List.tail (pB_pcs1 (avM q.2 8))))))), (pP_bool0 (hdP (List.tail (List.tail (List.tail (List.tail (pB_pcs1 (avM q.2 8)))))))), (pP_int1 (hdP (List.tail (List.tail (List.tail (List.tail (List.tail (pB_pcs1 (avM q.2 8))))))))), (pP_int1 (hdP (List.tail (List.tail (List.tail (List.tail (List.tail (List.tail (pB_pcs1 (avM q.2 8)))))))))), (pP_int1 (hdP (List.tail (List.tail (List.tail (List.tail (List.tail (List.tail (List.tail (pB_pcs1 (avM q.2 8))))))))))), (pP_int1 (hdP (List.tail (List.tail (List.tail (List.tail (List.tail (List.tail (List.tail (List.tail (pB_pcs1 (avM q.2 8)))))))))))), (pB_vec1 (avM q.2 53)), (pB_vec3 (avM q.2 53)))
abbrev YalOf_0 : Type := (Int × Int × Int × Int × Int) ⊕ ((Nat × Int × Int × Int × Int × Bool × Int × Int × Int × Int × Nat × List PV))
def XLalOf_0 : XL YalOf_0 := .more XalOf_0a (.one XalOf_0b)
def IalOf_0 (q : Ext × S) : YalOf_0 := bif (cA (avT q.2 7) == 1) then (Sum.inl (IalOf_0a q)) else (Sum.inr (IalOf_0b q))
theorem XIalOf_0a (y : Int × Int × Int × Int × Int) : IalOf_0 (xe (XalOf_0a y)) = (Sum.inl y) := by kernel_rfl
theorem XIalOf_0b (y : Nat × Int × Int × Int × Int × Bool × Int × Int × Int × Int × Nat × List PV) : IalOf_0 (xe (XalOf_0b y)) = (Sum.inr y) := by kernel_rfl
theorem XIalOf_0 (y : YalOf_0) : IalOf_0 (xe (XLalOf_0.fn y)) = y := (match y with | .inl y => XIalOf_0a y | .inr y => XIalOf_0b y)
noncomputable abbrev LalOf_0 : Q → Option YalOf_0 := lpO env a57.body 0 XLalOf_0
noncomputable abbrev RalOf_0 : Q → Option (Ext × S) := lpR env a57.body 0
theorem UalOf : uniq ((blocksOf a57.body).map (·.1)) = true := by kernel_rfl
def BalOf_0a (_F : FnT) (N : QO) (E : EO) (_L0 : Q → Option YalOf_0) (n0 : Nat) (c1 : List PV) (i2 _i3 _i4 _i5 _i6 i7 i8 i9 i10 : Int) : Option (Ext × S) :=
  bif (decide ((0 : Int) < i2)) then
    bif (decide (((0 : Int) ≤ (0 : Int)) ∧ ((0 : Int) < (n0 : Int)))) then
      bindO (intC .i64 (c1[0]?)) fun x0 =>
      bindO (intC .i64 (c1[1]?)) fun x1 =>
      bindO (intC .i64 (c1[2]?)) fun _x2 =>
      bif (decide (x1 ≥ i7)) then
        N (TalOf_0b 1 n0 c1 i2 (1 : Int) i7 i8 i9 i10 true (1 : Int) x0 x0 (-1 : Int) 1 [(PV.int .i64 (1 : Int)), (PV.int .i64 x0), (PV.int .i64 (w64 (x0 + i10)))])
      else N (TalOf_0c n0 c1 i2 (1 : Int) i7 i8 i9 i10 x0)
    else none
  else E (XalOf_0a (i7, i8, i9, i10, (-1 : Int)))
theorem BalOf_0a_eq (F : FnT) (N : QO) (E : EO) (L0 : Q → Option YalOf_0) (n0 : Nat) (c1 : List PV) (i2 i3 i4 i5 i6 i7 i8 i9 i10 : Int) : semB (callP F EalOf 20) s57 (loopT [⟨0, YalOf_0, L0, XLalOf_0⟩]) 400 (blkIn a57.body 0) N E (TalOf_0a n0 c1 i2 i3 i4 i5 i6 i7 i8 i9 i10) = BalOf_0a F N E L0 n0 c1 i2 i3 i4 i5 i6 i7 i8 i9 i10 := by kernel_rfl
theorem RalOf_0a_of  (n0 : Nat) (c1 : List PV) (i2 i3 i4 i5 i6 i7 i8 i9 i10 : Int) {r : Ext × S} (h : BalOf_0a (Fn env) RalOf_0 exO LalOf_0 n0 c1 i2 i3 i4 i5 i6 i7 i8 i9 i10 = some r) : RalOf_0 (TalOf_0a n0 c1 i2 i3 i4 i5 i6 i7 i8 i9 i10) = some r :=
  lp_of EalOf_ok (by kernel_rfl) (lo_cons (lpO_ok UalOf) lo_nil) (by kernel_rfl) ((BalOf_0a_eq _ _ _ _ _ _ _ _ _ _ _ _ _ _ _).trans h)
def BalOf_0b (_F : FnT) (N : QO) (E : EO) (_L0 : Q → Option YalOf_0) (n0 n1 : Nat) (c2 : List PV) (i3 i4 i5 i6 i7 i8 : Int) (b9 : Bool) (i10 i11 i12 i13 : Int) (n14 : Nat) (c15 : List PV) : Option (Ext × S) :=
  bif (decide (i4 < i3)) then
    bif (decide (((0 : Int) ≤ i4) ∧ (i4 < (n1 : Int)))) then
      bindO (intC .i64 (c2[((Int.toNat i4) * 3)]?)) fun x0 =>
      bindO (intC .i64 (c2[(((Int.toNat i4) * 3) + 1)]?)) fun x1 =>
      bindO (intC .i64 (c2[((((Int.toNat i4) * 3) + 1) + 1)]?)) fun x2 =>
      bif b9 then
        bif (decide ((w64 (x0 - i12)) > i8)) then
          bif (decide (x1 ≥ i5)) then
            bif (decide ((n14 = n0) ∧ ((n0 + 1) ≤ big))) then
              bif (decide (((0 : Int) ≤ (w64 (((n0 + 1) : Int) - (1 : Int)))) ∧ ((w64 (((n0 + 1) : Int) - (1 : Int))) < ((n0 + 1) : Int)))) then
                bif (decide ((n0 + 1) = (n0 + 1))) then
                  bindO (Gv.overO (c15 ++ [(PV.int .i64 (w64 (i10 + (1 : Int)))), (PV.int .i64 x0), (PV.int .i64 (0 : Int))]) (((Int.toNat (w64 (((n0 + 1) : Int) - (1 : Int)))) * 3) + 2) [(PV.int .i64 (w64 (x0 + i8)))]) fun x3 =>
                  N (TalOf_0b (n0 + 1) n1 c2 i3 (w64 (i4 + (1 : Int))) i5 i6 i7 i8 true (w64 (i10 + (1 : Int))) x0 x0 (-1 : Int) (n0 + 1) x3)
                else none
              else none
            else none
          else N (TalOf_0b n0 n1 c2 i3 (w64 (i4 + (1 : Int))) i5 i6 i7 i8 false i10 (0 : Int) x0 (-1 : Int) n14 c15)
        else bif b9 then
          bif b9 then
            bif (decide ((w64 (x0 - i12)) > i8)) then
              bif (decide (x1 ≥ i5)) then
                bif (decide (((0 : Int) ≤ (w64 ((n0 : Int) - (1 : Int)))) ∧ ((w64 ((n0 : Int) - (1 : Int))) < (n0 : Int)))) then
                  bif (decide (n14 = n0)) then
                    bindO (Gv.overO c15 (((Int.toNat (w64 ((n0 : Int) - (1 : Int)))) * 3) + 2) [(PV.int .i64 (w64 (x0 + i8)))]) fun x4 =>
                    N (TalOf_0b n0 n1 c2 i3 (w64 (i4 + (1 : Int))) i5 i6 i7 i8 true (w64 (i10 + (1 : Int))) x0 x0 (-1 : Int) n0 x4)
                  else none
                else none
              else bif (decide (((0 : Int) ≤ (w64 ((n0 : Int) - (1 : Int)))) ∧ ((w64 ((n0 : Int) - (1 : Int))) < (n0 : Int)))) then
                bif (decide (n14 = n0)) then
                  bindO (Gv.overO c15 (((Int.toNat (w64 ((n0 : Int) - (1 : Int)))) * 3) + 2) [(PV.int .i64 (w64 (x0 - (1 : Int))))]) fun x5 =>
                  N (TalOf_0b n0 n1 c2 i3 (w64 (i4 + (1 : Int))) i5 i6 i7 i8 false i10 (0 : Int) x0 (-1 : Int) n0 x5)
                else none
              else none
            else bif b9 then
              bif (decide (x2 ≥ i6)) then
                bif b9 then
                  bif b9 then
                    bif b9 then
                      bif (decide (((0 : Int) ≤ (w64 ((n0 : Int) - (1 : Int)))) ∧ ((w64 ((n0 : Int) - (1 : Int))) < (n0 : Int)))) then
                        bif (decide (n14 = n0)) then
                          bindO (Gv.overO c15 (((Int.toNat (w64 ((n0 : Int) - (1 : Int)))) * 3) + 2) [(PV.int .i64 (w64 (x0 + i8)))]) fun x6 =>
                          N (TalOf_0b n0 n1 c2 i3 (w64 (i4 + (1 : Int))) i5 i6 i7 i8 b9 i10 i11 x0 (-1 : Int) n0 x6)
                        else none
                      else none
                    else bif (decide (((0 : Int) ≤ (w64 ((n0 : Int) - (1 : Int)))) ∧ ((w64 ((n0 : Int) - (1 : Int))) < (n0 : Int)))) then
                      bif (decide (n14 = n0)) then
                        bindO (Gv.overO c15 (((Int.toNat (w64 ((n0 : Int) - (1 : Int)))) * 3) + 2) [(PV.int .i64 (w64 (x0 - (1 : Int))))]) fun x7 =>
                        N (TalOf_0b n0 n1 c2 i3 (w64 (i4 + (1 : Int))) i5 i6 i7 i8 b9 i10 i11 x0 (-1 : Int) n0 x7)
                      else none
                    else none
                  else bif b9 then
                    bif (decide (((0 : Int) ≤ (w64 ((n0 : Int) - (1 : Int)))) ∧ ((w64 ((n0 : Int) - (1 : Int))) < (n0 : Int)))) then
                      bif (decide (n14 = n0)) then
                        bindO (Gv.overO c15 (((Int.toNat (w64 ((n0 : Int) - (1 : Int)))) * 3) + 2) [(PV.int .i64 (w64 (x0 + i8)))]) fun x8 =>
                        N (TalOf_0b n0 n1 c2 i3 (w64 (i4 + (1 : Int))) i5 i6 i7 i8 b9 i10 i11 x0 (-1 : Int) n0 x8)
                      else none
                    else none
                  else bif (decide (((0 : Int) ≤ (w64 ((n0 : Int) - (1 : Int)))) ∧ ((w64 ((n0 : Int) - (1 : Int))) < (n0 : Int)))) then
                    bif (decide (n14 = n0)) then
                      bindO (Gv.overO c15 (((Int.toNat (w64 ((n0 : Int) - (1 : Int)))) * 3) + 2) [(PV.int .i64 (w64 (x0 - (1 : Int))))]) fun x9 =>
                      N (TalOf_0b n0 n1 c2 i3 (w64 (i4 + (1 : Int))) i5 i6 i7 i8 b9 i10 i11 x0 (-1 : Int) n0 x9)
                    else none
                  else none
                else bif (decide (x1 ≥ i5)) then
                  bif (decide (((0 : Int) ≤ (w64 ((n0 : Int) - (1 : Int)))) ∧ ((w64 ((n0 : Int) - (1 : Int))) < (n0 : Int)))) then
                    bif (decide (n14 = n0)) then
                      bindO (Gv.overO c15 (((Int.toNat (w64 ((n0 : Int) - (1 : Int)))) * 3) + 2) [(PV.int .i64 (w64 (x0 + i8)))]) fun x10 =>
                      N (TalOf_0b n0 n1 c2 i3 (w64 (i4 + (1 : Int))) i5 i6 i7 i8 true (w64 (i10 + (1 : Int))) x0 x0 (-1 : Int) n0 x10)
                    else none
                  else none
                else bif b9 then
                  bif b9 then
                    bif (decide (((0 : Int) ≤ (w64 ((n0 : Int) - (1 : Int)))) ∧ ((w64 ((n0 : Int) - (1 : Int))) < (n0 : Int)))) then
                      bif (decide (n14 = n0)) then
                        bindO (Gv.overO c15 (((Int.toNat (w64 ((n0 : Int) - (1 : Int)))) * 3) + 2) [(PV.int .i64 (w64 (x0 + i8)))]) fun x11 =>
                        N (TalOf_0b n0 n1 c2 i3 (w64 (i4 + (1 : Int))) i5 i6 i7 i8 b9 i10 i11 x0 (-1 : Int) n0 x11)
                      else none
                    else none
                  else bif (decide (((0 : Int) ≤ (w64 ((n0 : Int) - (1 : Int)))) ∧ ((w64 ((n0 : Int) - (1 : Int))) < (n0 : Int)))) then
                    bif (decide (n14 = n0)) then
                      bindO (Gv.overO c15 (((Int.toNat (w64 ((n0 : Int) - (1 : Int)))) * 3) + 2) [(PV.int .i64 (w64 (x0 - (1 : Int))))]) fun x12 =>
                      N (TalOf_0b n0 n1 c2 i3 (w64 (i4 + (1 : Int))) i5 i6 i7 i8 b9 i10 i11 x0 (-1 : Int) n0 x12)
                    else none
                  else none
                else bif b9 then
                  bif (decide (((0 : Int) ≤ (w64 ((n0 : Int) - (1 : Int)))) ∧ ((w64 ((n0 : Int) - (1 : Int))) < (n0 : Int)))) then
                    bif (decide (n14 = n0)) then
                      bindO (Gv.overO c15 (((Int.toNat (w64 ((n0 : Int) - (1 : Int)))) * 3) + 2) [(PV.int .i64 (w64 (x0 + i8)))]) fun x13 =>
                      N (TalOf_0b n0 n1 c2 i3 (w64 (i4 + (1 : Int))) i5 i6 i7 i8 b9 i10 i11 x0 (-1 : Int) n0 x13)
                    else none
                  else none
                else bif (decide (((0 : Int) ≤ (w64 ((n0 : Int) - (1 : Int)))) ∧ ((w64 ((n0 : Int) - (1 : Int))) < (n0 : Int)))) then
                  bif (decide (n14 = n0)) then
                    bindO (Gv.overO c15 (((Int.toNat (w64 ((n0 : Int) - (1 : Int)))) * 3) + 2) [(PV.int .i64 (w64 (x0 - (1 : Int))))]) fun x14 =>
                    N (TalOf_0b n0 n1 c2 i3 (w64 (i4 + (1 : Int))) i5 i6 i7 i8 b9 i10 i11 x0 (-1 : Int) n0 x14)
                  else none
                else none
              else bif (i13 == (-1 : Int)) then
                bif (decide ((w64 (x0 - x0)) ≥ i7)) then
                  bif (decide (x1 ≥ i5)) then
                    bif (decide (((0 : Int) ≤ (w64 ((n0 : Int) - (1 : Int)))) ∧ ((w64 ((n0 : Int) - (1 : Int))) < (n0 : Int)))) then
                      bif (decide (n14 = n0)) then
                        bindO (Gv.overO c15 (((Int.toNat (w64 ((n0 : Int) - (1 : Int)))) * 3) + 2) [(PV.int .i64 (w64 (x0 + i8)))]) fun x15 =>
                        N (TalOf_0b n0 n1 c2 i3 (w64 (i4 + (1 : Int))) i5 i6 i7 i8 true (w64 (i10 + (1 : Int))) x0 x0 (-1 : Int) n0 x15)
                      else none
                    else none
                  else bif (decide (((0 : Int) ≤ (w64 ((n0 : Int) - (1 : Int)))) ∧ ((w64 ((n0 : Int) - (1 : Int))) < (n0 : Int)))) then
                    bif (decide (n14 = n0)) then
                      bindO (Gv.overO c15 (((Int.toNat (w64 ((n0 : Int) - (1 : Int)))) * 3) + 2) [(PV.int .i64 (w64 (x0 - (1 : Int))))]) fun x16 =>
                      N (TalOf_0b n0 n1 c2 i3 (w64 (i4 + (1 : Int))) i5 i6 i7 i8 false i10 (0 : Int) x0 (-1 : Int) n0 x16)
                    else none
                  else none
                else bif b9 then
                  bif b9 then
                    bif b9 then
                      bif (decide (((0 : Int) ≤ (w64 ((n0 : Int) - (1 : Int)))) ∧ ((w64 ((n0 : Int) - (1 : Int))) < (n0 : Int)))) then
                        bif (decide (n14 = n0)) then
                          bindO (Gv.overO c15 (((Int.toNat (w64 ((n0 : Int) - (1 : Int)))) * 3) + 2) [(PV.int .i64 (w64 (x0 + i8)))]) fun x17 =>
                          N (TalOf_0b n0 n1 c2 i3 (w64 (i4 + (1 : Int))) i5 i6 i7 i8 b9 i10 i11 x0 x0 n0 x17)
                        else none
                      else none
                    else bif (decide (((0 : Int) ≤ (w64 ((n0 : Int) - (1 : Int)))) ∧ ((w64 ((n0 : Int) - (1 : Int))) < (n0 : Int)))) then
                      bif (decide (n14 = n0)) then
                        bindO (Gv.overO c15 (((Int.toNat (w64 ((n0 : Int) - (1 : Int)))) * 3) + 2) [(PV.int .i64 (w64 (x0 - (1 : Int))))]) fun x18 =>
                        N (TalOf_0b n0 n1 c2 i3 (w64 (i4 + (1 : Int))) i5 i6 i7 i8 b9 i10 i11 x0 x0 n0 x18)
                      else none
                    else none
                  else bif b9 then
                    bif (decide (((0 : Int) ≤ (w64 ((n0 : Int) - (1 : Int)))) ∧ ((w64 ((n0 : Int) - (1 : Int))) < (n0 : Int)))) then
                      bif (decide (n14 = n0)) then
                        bindO (Gv.overO c15 (((Int.toNat (w64 ((n0 : Int) - (1 : Int)))) * 3) + 2) [(PV.int .i64 (w64 (x0 + i8)))]) fun x19 =>
                        N (TalOf_0b n0 n1 c2 i3 (w64 (i4 + (1 : Int))) i5 i6 i7 i8 b9 i10 i11 x0 x0 n0 x19)
                      else none
                    else none
                  else bif (decide (((0 : Int) ≤ (w64 ((n0 : Int) - (1 : Int)))) ∧ ((w64 ((n0 : Int) - (1 : Int))) < (n0 : Int)))) then
                    bif (decide (n14 = n0)) then
                      bindO (Gv.overO c15 (((Int.toNat (w64 ((n0 : Int) - (1 : Int)))) * 3) + 2) [(PV.int .i64 (w64 (x0 - (1 : Int))))]) fun x20 =>
                      N (TalOf_0b n0 n1 c2 i3 (w64 (i4 + (1 : Int))) i5 i6 i7 i8 b9 i10 i11 x0 x0 n0 x20)
                    else none
                  else none
                else bif (decide (x1 ≥ i5)) then
                  bif (decide (((0 : Int) ≤ (w64 ((n0 : Int) - (1 : Int)))) ∧ ((w64 ((n0 : Int) - (1 : Int))) < (n0 : Int)))) then
                    bif (decide (n14 = n0)) then
                      bindO (Gv.overO c15 (((Int.toNat (w64 ((n0 : Int) - (1 : Int)))) * 3) + 2) [(PV.int .i64 (w64 (x0 + i8)))]) fun x21 =>
                      N (TalOf_0b n0 n1 c2 i3 (w64 (i4 + (1 : Int))) i5 i6 i7 i8 true (w64 (i10 + (1 : Int))) x0 x0 x0 n0 x21)
                    else none
                  else none
                else bif b9 then
                  bif b9 then
                    bif (decide (((0 : Int) ≤ (w64 ((n0 : Int) - (1 : Int)))) ∧ ((w64 ((n0 : Int) - (1 : Int))) < (n0 : Int)))) then
                      bif (decide (n14 = n0)) then
                        bindO (Gv.overO c15 (((Int.toNat (w64 ((n0 : Int) - (1 : Int)))) * 3) + 2) [(PV.int .i64 (w64 (x0 + i8)))]) fun x22 =>
                        N (TalOf_0b n0 n1 c2 i3 (w64 (i4 + (1 : Int))) i5 i6 i7 i8 b9 i10 i11 x0 x0 n0 x22)
                      else none
                    else none
                  else bif (decide (((0 : Int) ≤ (w64 ((n0 : Int) - (1 : Int)))) ∧ ((w64 ((n0 : Int) - (1 : Int))) < (n0 : Int)))) then
                    bif (decide (n14 = n0)) then
                      bindO (Gv.overO c15 (((Int.toNat (w64 ((n0 : Int) - (1 : Int)))) * 3) + 2) [(PV.int .i64 (w64 (x0 - (1 : Int))))]) fun x23 =>
                      N (TalOf_0b n0 n1 c2 i3 (w64 (i4 + (1 : Int))) i5 i6 i7 i8 b9 i10 i11 x0 x0 n0 x23)
                    else none
                  else none
                else bif b9 then
                  bif (decide (((0 : Int) ≤ (w64 ((n0 : Int) - (1 : Int)))) ∧ ((w64 ((n0 : Int) - (1 : Int))) < (n0 : Int)))) then
                    bif (decide (n14 = n0)) then
                      bindO (Gv.overO c15 (((Int.toNat (w64 ((n0 : Int) - (1 : Int)))) * 3) + 2) [(PV.int .i64 (w64 (x0 + i8)))]) fun x24 =>
                      N (TalOf_0b n0 n1 c2 i3 (w64 (i4 + (1 : Int))) i5 i6 i7 i8 b9 i10 i11 x0 x0 n0 x24)
                    else none
                  else none
                else bif (decide (((0 : Int) ≤ (w64 ((n0 : Int) - (1 : Int)))) ∧ ((w64 ((n0 : Int) - (1 : Int))) < (n0 : Int)))) then
                  bif (decide (n14 = n0)) then
                    bindO (Gv.overO c15 (((Int.toNat (w64 ((n0 : Int) - (1 : Int)))) * 3) + 2) [(PV.int .i64 (w64 (x0 - (1 : Int))))]) fun x25 =>
                    N (TalOf_0b n0 n1 c2 i3 (w64 (i4 + (1 : Int))) i5 i6 i7 i8 b9 i10 i11 x0 x0 n0 x25)
                  else none
                else none
              else bif (decide ((w64 (x0 - i13)) ≥ i7)) then
                bif (decide (x1 ≥ i5)) then
                  bif (decide (((0 : Int) ≤ (w64 ((n0 : Int) - (1 : Int)))) ∧ ((w64 ((n0 : Int) - (1 : Int))) < (n0 : Int)))) then
                    bif (decide (n14 = n0)) then
                      bindO (Gv.overO c15 (((Int.toNat (w64 ((n0 : Int) - (1 : Int)))) * 3) + 2) [(PV.int .i64 (w64 (x0 + i8)))]) fun x26 =>
                      N (TalOf_0b n0 n1 c2 i3 (w64 (i4 + (1 : Int))) i5 i6 i7 i8 true (w64 (i10 + (1 : Int))) x0 x0 (-1 : Int) n0 x26)
                    else none
                  else none
                else bif (decide (((0 : Int) ≤ (w64 ((n0 : Int) - (1 : Int)))) ∧ ((w64 ((n0 : Int) - (1 : Int))) < (n0 : Int)))) then
                  bif (decide (n14 = n0)) then
                    bindO (Gv.overO c15 (((Int.toNat (w64 ((n0 : Int) - (1 : Int)))) * 3) + 2) [(PV.int .i64 (w64 (x0 - (1 : Int))))]) fun x27 =>
                    N (TalOf_0b n0 n1 c2 i3 (w64 (i4 + (1 : Int))) i5 i6 i7 i8 false i10 (0 : Int) x0 (-1 : Int) n0 x27)
                  else none
                else none
              else bif b9 then
                bif b9 then
                  bif b9 then
                    bif (decide (((0 : Int) ≤ (w64 ((n0 : Int) - (1 : Int)))) ∧ ((w64 ((n0 : Int) - (1 : Int))) < (n0 : Int)))) then
                      bif (decide (n14 = n0)) then
                        bindO (Gv.overO c15 (((Int.toNat (w64 ((n0 : Int) - (1 : Int)))) * 3) + 2) [(PV.int .i64 (w64 (x0 + i8)))]) fun x28 =>
                        N (TalOf_0b n0 n1 c2 i3 (w64 (i4 + (1 : Int))) i5 i6 i7 i8 b9 i10 i11 x0 i13 n0 x28)
                      else none
                    else none
                  else bif (decide (((0 : Int) ≤ (w64 ((n0 : Int) - (1 : Int)))) ∧ ((w64 ((n0 : Int) - (1 : Int))) < (n0 : Int)))) then
                    bif (decide (n14 = n0)) then
                      bindO (Gv.overO c15 (((Int.toNat (w64 ((n0 : Int) - (1 : Int)))) * 3) + 2) [(PV.int .i64 (w64 (x0 - (1 : Int))))]) fun x29 =>
                      N (TalOf_0b n0 n1 c2 i3 (w64 (i4 + (1 : Int))) i5 i6 i7 i8 b9 i10 i11 x0 i13 n0 x29)
                    else none
                  else none
                else bif b9 then
                  bif (decide (((0 : Int) ≤ (w64 ((n0 : Int) - (1 : Int)))) ∧ ((w64 ((n0 : Int) - (1 : Int))) < (n0 : Int)))) then
                    bif (decide (n14 = n0)) then
                      bindO (Gv.overO c15 (((Int.toNat (w64 ((n0 : Int) - (1 : Int)))) * 3) + 2) [(PV.int .i64 (w64 (x0 + i8)))]) fun x30 =>
                      N (TalOf_0b n0 n1 c2 i3 (w64 (i4 + (1 : Int))) i5 i6 i7 i8 b9 i10 i11 x0 i13 n0 x30)
                    else none
                  else none
                else bif (decide (((0 : Int) ≤ (w64 ((n0 : Int) - (1 : Int)))) ∧ ((w64 ((n0 : Int) - (1 : Int))) < (n0 : Int)))) then
                  bif (decide (n14 = n0)) then
                    bindO (Gv.overO c15 (((Int.toNat (w64 ((n0 : Int) - (1 : Int)))) * 3) + 2) [(PV.int .i64 (w64 (x0 - (1 : Int))))]) fun x31 =>
                    N (TalOf_0b n0 n1 c2 i3 (w64 (i4 + (1 : Int))) i5 i6 i7 i8 b9 i10 i11 x0 i13 n0 x31)
                  else none
                else none
              else bif (decide (x1 ≥ i5)) then
                bif (decide (((0 : Int) ≤ (w64 ((n0 : Int) - (1 : Int)))) ∧ ((w64 ((n0 : Int) - (1 : Int))) < (n0 : Int)))) then
                  bif (decide (n14 = n0)) then
                    bindO (Gv.overO c15 (((Int.toNat (w64 ((n0 : Int) - (1 : Int)))) * 3) + 2) [(PV.int .i64 (w64 (x0 + i8)))]) fun x32 =>
                    N (TalOf_0b n0 n1 c2 i3 (w64 (i4 + (1 : Int))) i5 i6 i7 i8 true (w64 (i10 + (1 : Int))) x0 x0 i13 n0 x32)
                  else none
                else none
              else bif b9 then
                bif b9 then
                  bif (decide (((0 : Int) ≤ (w64 ((n0 : Int) - (1 : Int)))) ∧ ((w64 ((n0 : Int) - (1 : Int))) < (n0 : Int)))) then
                    bif (decide (n14 = n0)) then
                      bindO (Gv.overO c15 (((Int.toNat (w64 ((n0 : Int) - (1 : Int)))) * 3) + 2) [(PV.int .i64 (w64 (x0 + i8)))]) fun x33 =>
                      N (TalOf_0b n0 n1 c2 i3 (w64 (i4 + (1 : Int))) i5 i6 i7 i8 b9 i10 i11 x0 i13 n0 x33)
                    else none
                  else none
                else bif (decide (((0 : Int) ≤ (w64 ((n0 : Int) - (1 : Int)))) ∧ ((w64 ((n0 : Int) - (1 : Int))) < (n0 : Int)))) then
                  bif (decide (n14 = n0)) then
                    bindO (Gv.overO c15 (((Int.toNat (w64 ((n0 : Int) - (1 : Int)))) * 3) + 2) [(PV.int .i64 (w64 (x0 - (1 : Int))))]) fun x34 =>
                    N (TalOf_0b n0 n1 c2 i3 (w64 (i4 + (1 : Int))) i5 i6 i7 i8 b9 i10 i11 x0 i13 n0 x34)
                  else none
                else none
              else bif b9 then
                bif (decide (((0 : Int) ≤ (w64 ((n0 : Int) - (1 : Int)))) ∧ ((w64 ((n0 : Int) - (1 : Int))) < (n0 : Int)))) then
                  bif (decide (n14 = n0)) then
                    bindO (Gv.overO c15 (((Int.toNat (w64 ((n0 : Int) - (1 : Int)))) * 3) + 2) [(PV.int .i64 (w64 (x0 + i8)))]) fun x35 =>
                    N (TalOf_0b n0 n1 c2 i3 (w64 (i4 + (1 : Int))) i5 i6 i7 i8 b9 i10 i11 x0 i13 n0 x35)
                  else none
                else none
              else bif (decide (((0 : Int) ≤ (w64 ((n0 : Int) - (1 : Int)))) ∧ ((w64 ((n0 : Int) - (1 : Int))) < (n0 : Int)))) then
                bif (decide (n14 = n0)) then
                  bindO (Gv.overO c15 (((Int.toNat (w64 ((n0 : Int) - (1 : Int)))) * 3) + 2) [(PV.int .i64 (w64 (x0 - (1 : Int))))]) fun x36 =>
                  N (TalOf_0b n0 n1 c2 i3 (w64 (i4 + (1 : Int))) i5 i6 i7 i8 b9 i10 i11 x0 i13 n0 x36)
                else none
              else none
            else bif b9 then
              bif b9 then
                bif b9 then
                  bif (decide (((0 : Int) ≤ (w64 ((n0 : Int) - (1 : Int)))) ∧ ((w64 ((n0 : Int) - (1 : Int))) < (n0 : Int)))) then
                    bif (decide (n14 = n0)) then
                      bindO (Gv.overO c15 (((Int.toNat (w64 ((n0 : Int) - (1 : Int)))) * 3) + 2) [(PV.int .i64 (w64 (x0 + i8)))]) fun x37 =>
                      N (TalOf_0b n0 n1 c2 i3 (w64 (i4 + (1 : Int))) i5 i6 i7 i8 b9 i10 i11 x0 i13 n0 x37)
                    else none
                  else none
                else bif (decide (((0 : Int) ≤ (w64 ((n0 : Int) - (1 : Int)))) ∧ ((w64 ((n0 : Int) - (1 : Int))) < (n0 : Int)))) then
                  bif (decide (n14 = n0)) then
                    bindO (Gv.overO c15 (((Int.toNat (w64 ((n0 : Int) - (1 : Int)))) * 3) + 2) [(PV.int .i64 (w64 (x0 - (1 : Int))))]) fun x38 =>
                    N (TalOf_0b n0 n1 c2 i3 (w64 (i4 + (1 : Int))) i5 i6 i7 i8 b9 i10 i11 x0 i13 n0 x38)
                  else none
                else none
              else bif b9 then
                bif (decide (((0 : Int) ≤ (w64 ((n0 : Int) - (1 : Int)))) ∧ ((w64 ((n0 : Int) - (1 : Int))) < (n0 : Int)))) then
                  bif (decide (n14 = n0)) then
                    bindO (Gv.overO c15 (((Int.toNat (w64 ((n0 : Int) - (1 : Int)))) * 3) + 2) [(PV.int .i64 (w64 (x0 + i8)))]) fun x39 =>
                    N (TalOf_0b n0 n1 c2 i3 (w64 (i4 + (1 : Int))) i5 i6 i7 i8 b9 i10 i11 x0 i13 n0 x39)
                  else none
                else none
              else bif (decide (((0 : Int) ≤ (w64 ((n0 : Int) - (1 : Int)))) ∧ ((w64 ((n0 : Int) - (1 : Int))) < (n0 : Int)))) then
                bif (decide (n14 = n0)) then
                  bindO (Gv.overO c15 (((Int.toNat (w64 ((n0 : Int) - (1 : Int)))) * 3) + 2) [(PV.int .i64 (w64 (x0 - (1 : Int))))]) fun x40 =>
                  N (TalOf_0b n0 n1 c2 i3 (w64 (i4 + (1 : Int))) i5 i6 i7 i8 b9 i10 i11 x0 i13 n0 x40)
                else none
              else none
            else bif (decide (x1 ≥ i5)) then
              bif (decide (((0 : Int) ≤ (w64 ((n0 : Int) - (1 : Int)))) ∧ ((w64 ((n0 : Int) - (1 : Int))) < (n0 : Int)))) then
                bif (decide (n14 = n0)) then
                  bindO (Gv.overO c15 (((Int.toNat (w64 ((n0 : Int) - (1 : Int)))) * 3) + 2) [(PV.int .i64 (w64 (x0 + i8)))]) fun x41 =>
                  N (TalOf_0b n0 n1 c2 i3 (w64 (i4 + (1 : Int))) i5 i6 i7 i8 true (w64 (i10 + (1 : Int))) x0 x0 i13 n0 x41)
                else none
              else none
            else bif b9 then
              bif b9 then
                bif (decide (((0 : Int) ≤ (w64 ((n0 : Int) - (1 : Int)))) ∧ ((w64 ((n0 : Int) - (1 : Int))) < (n0 : Int)))) then
                  bif (decide (n14 = n0)) then
                    bindO (Gv.overO c15 (((Int.toNat (w64 ((n0 : Int) - (1 : Int)))) * 3) + 2) [(PV.int .i64 (w64 (x0 + i8)))]) fun x42 =>
                    N (TalOf_0b n0 n1 c2 i3 (w64 (i4 + (1 : Int))) i5 i6 i7 i8 b9 i10 i11 x0 i13 n0 x42)
                  else none
                else none
              else bif (decide (((0 : Int) ≤ (w64 ((n0 : Int) - (1 : Int)))) ∧ ((w64 ((n0 : Int) - (1 : Int))) < (n0 : Int)))) then
                bif (decide (n14 = n0)) then
                  bindO (Gv.overO c15 (((Int.toNat (w64 ((n0 : Int) - (1 : Int)))) * 3) + 2) [(PV.int .i64 (w64 (x0 - (1 : Int))))]) fun x43 =>
                  N (TalOf_0b n0 n1 c2 i3 (w64 (i4 + (1 : Int))) i5 i6 i7 i8 b9 i10 i11 x0 i13 n0 x43)
                else none
              else none
            else bif b9 then
              bif (decide (((0 : Int) ≤ (w64 ((n0 : Int) - (1 : Int)))) ∧ ((w64 ((n0 : Int) - (1 : Int))) < (n0 : Int)))) then
                bif (decide (n14 = n0)) then
                  bindO (Gv.overO c15 (((Int.toNat (w64 ((n0 : Int) - (1 : Int)))) * 3) + 2) [(PV.int .i64 (w64 (x0 + i8)))]) fun x44 =>
                  N (TalOf_0b n0 n1 c2 i3 (w64 (i4 + (1 : Int))) i5 i6 i7 i8 b9 i10 i11 x0 i13 n0 x44)
                else none
              else none
            else bif (decide (((0 : Int) ≤ (w64 ((n0 : Int) - (1 : Int)))) ∧ ((w64 ((n0 : Int) - (1 : Int))) < (n0 : Int)))) then
              bif (decide (n14 = n0)) then
                bindO (Gv.overO c15 (((Int.toNat (w64 ((n0 : Int) - (1 : Int)))) * 3) + 2) [(PV.int .i64 (w64 (x0 - (1 : Int))))]) fun x45 =>
                N (TalOf_0b n0 n1 c2 i3 (w64 (i4 + (1 : Int))) i5 i6 i7 i8 b9 i10 i11 x0 i13 n0 x45)
              else none
            else none
          else bif b9 then
            bif (decide (x2 ≥ i6)) then
              bif b9 then
                bif b9 then
                  bif b9 then
                    bif (decide (((0 : Int) ≤ (w64 ((n0 : Int) - (1 : Int)))) ∧ ((w64 ((n0 : Int) - (1 : Int))) < (n0 : Int)))) then
                      bif (decide (n14 = n0)) then
                        bindO (Gv.overO c15 (((Int.toNat (w64 ((n0 : Int) - (1 : Int)))) * 3) + 2) [(PV.int .i64 (w64 (x0 + i8)))]) fun x46 =>
                        N (TalOf_0b n0 n1 c2 i3 (w64 (i4 + (1 : Int))) i5 i6 i7 i8 b9 i10 i11 x0 (-1 : Int) n0 x46)
                      else none
                    else none
                  else bif (decide (((0 : Int) ≤ (w64 ((n0 : Int) - (1 : Int)))) ∧ ((w64 ((n0 : Int) - (1 : Int))) < (n0 : Int)))) then
                    bif (decide (n14 = n0)) then
                      bindO (Gv.overO c15 (((Int.toNat (w64 ((n0 : Int) - (1 : Int)))) * 3) + 2) [(PV.int .i64 (w64 (x0 - (1 : Int))))]) fun x47 =>
                      N (TalOf_0b n0 n1 c2 i3 (w64 (i4 + (1 : Int))) i5 i6 i7 i8 b9 i10 i11 x0 (-1 : Int) n0 x47)
                    else none
                  else none
                else bif b9 then
                  bif (decide (((0 : Int) ≤ (w64 ((n0 : Int) - (1 : Int)))) ∧ ((w64 ((n0 : Int) - (1 : Int))) < (n0 : Int)))) then
                    bif (decide (n14 = n0)) then
                      bindO (Gv.overO c15 (((Int.toNat (w64 ((n0 : Int) - (1 : Int)))) * 3) + 2) [(PV.int .i64 (w64 (x0 + i8)))]) fun x48 =>
                      N (TalOf_0b n0 n1 c2 i3 (w64 (i4 + (1 : Int))) i5 i6 i7 i8 b9 i10 i11 x0 (-1 : Int) n0 x48)
                    else none
                  else none
                else bif (decide (((0 : Int) ≤ (w64 ((n0 : Int) - (1 : Int)))) ∧ ((w64 ((n0 : Int) - (1 : Int))) < (n0 : Int)))) then
                  bif (decide (n14 = n0)) then
                    bindO (Gv.overO c15 (((Int.toNat (w64 ((n0 : Int) - (1 : Int)))) * 3) + 2) [(PV.int .i64 (w64 (x0 - (1 : Int))))]) fun x49 =>
                    N (TalOf_0b n0 n1 c2 i3 (w64 (i4 + (1 : Int))) i5 i6 i7 i8 b9 i10 i11 x0 (-1 : Int) n0 x49)
                  else none
                else none
              else bif (decide (x1 ≥ i5)) then
                bif (decide (((0 : Int) ≤ (w64 ((n0 : Int) - (1 : Int)))) ∧ ((w64 ((n0 : Int) - (1 : Int))) < (n0 : Int)))) then
                  bif (decide (n14 = n0)) then
                    bindO (Gv.overO c15 (((Int.toNat (w64 ((n0 : Int) - (1 : Int)))) * 3) + 2) [(PV.int .i64 (w64 (x0 + i8)))]) fun x50 =>
                    N (TalOf_0b n0 n1 c2 i3 (w64 (i4 + (1 : Int))) i5 i6 i7 i8 true (w64 (i10 + (1 : Int))) x0 x0 (-1 : Int) n0 x50)
                  else none
                else none
              else bif b9 then
                bif b9 then
                  bif (decide (((0 : Int) ≤ (w64 ((n0 : Int) - (1 : Int)))) ∧ ((w64 ((n0 : Int) - (1 : Int))) < (n0 : Int)))) then
                    bif (decide (n14 = n0)) then
                      bindO (Gv.overO c15 (((Int.toNat (w64 ((n0 : Int) - (1 : Int)))) * 3) + 2) [(PV.int .i64 (w64 (x0 + i8)))]) fun x51 =>
                      N (TalOf_0b n0 n1 c2 i3 (w64 (i4 + (1 : Int))) i5 i6 i7 i8 b9 i10 i11 x0 (-1 : Int) n0 x51)
                    else none
                  else none
                else bif (decide (((0 : Int) ≤ (w64 ((n0 : Int) - (1 : Int)))) ∧ ((w64 ((n0 : Int) - (1 : Int))) < (n0 : Int)))) then
                  bif (decide (n14 = n0)) then
                    bindO (Gv.overO c15 (((Int.toNat (w64 ((n0 : Int) - (1 : Int)))) * 3) + 2) [(PV.int .i64 (w64 (x0 - (1 : Int))))]) fun x52 =>
                    N (TalOf_0b n0 n1 c2 i3 (w64 (i4 + (1 : Int))) i5 i6 i7 i8 b9 i10 i11 x0 (-1 : Int) n0 x52)
                  else none
                else none
              else bif b9 then
                bif (decide (((0 : Int) ≤ (w64 ((n0 : Int) - (1 : Int)))) ∧ ((w64 ((n0 : Int) - (1 : Int))) < (n0 : Int)))) then
                  bif (decide (n14 = n0)) then
                    bindO (Gv.overO c15 (((Int.toNat (w64 ((n0 : Int) - (1 : Int)))) * 3) + 2) [(PV.int .i64 (w64 (x0 + i8)))]) fun x53 =>
                    N (TalOf_0b n0 n1 c2 i3 (w64 (i4 + (1 : Int))) i5 i6 i7 i8 b9 i10 i11 x0 (-1 : Int) n0 x53)
                  else none
                else none
              else bif (decide (((0 : Int) ≤ (w64 ((n0 : Int) - (1 : Int)))) ∧ ((w64 ((n0 : Int) - (1 : Int))) < (n0 : Int)))) then
                bif (decide (n14 = n0)) then
                  bindO (Gv.overO c15 (((Int.toNat (w64 ((n0 : Int) - (1 : Int)))) * 3) + 2) [(PV.int .i64 (w64 (x0 - (1 : Int))))]) fun x54 =>
                  N (TalOf_0b n0 n1 c2 i3 (w64 (i4 + (1 : Int))) i5 i6 i7 i8 b9 i10 i11 x0 (-1 : Int) n0 x54)
                else none
              else none
            else bif (i13 == (-1 : Int)) then
              bif (decide ((w64 (x0 - x0)) ≥ i7)) then
                bif (decide (x1 ≥ i5)) then
                  bif (decide (((0 : Int) ≤ (w64 ((n0 : Int) - (1 : Int)))) ∧ ((w64 ((n0 : Int) - (1 : Int))) < (n0 : Int)))) then
                    bif (decide (n14 = n0)) then
                      bindO (Gv.overO c15 (((Int.toNat (w64 ((n0 : Int) - (1 : Int)))) * 3) + 2) [(PV.int .i64 (w64 (x0 + i8)))]) fun x55 =>
                      N (TalOf_0b n0 n1 c2 i3 (w64 (i4 + (1 : Int))) i5 i6 i7 i8 true (w64 (i10 + (1 : Int))) x0 x0 (-1 : Int) n0 x55)
                    else none
                  else none
                else bif (decide (((0 : Int) ≤ (w64 ((n0 : Int) - (1 : Int)))) ∧ ((w64 ((n0 : Int) - (1 : Int))) < (n0 : Int)))) then
                  bif (decide (n14 = n0)) then
                    bindO (Gv.overO c15 (((Int.toNat (w64 ((n0 : Int) - (1 : Int)))) * 3) + 2) [(PV.int .i64 (w64 (x0 - (1 : Int))))]) fun x56 =>
                    N (TalOf_0b n0 n1 c2 i3 (w64 (i4 + (1 : Int))) i5 i6 i7 i8 false i10 (0 : Int) x0 (-1 : Int) n0 x56)
                  else none
                else none
              else bif b9 then
                bif b9 then
                  bif b9 then
                    bif (decide (((0 : Int) ≤ (w64 ((n0 : Int) - (1 : Int)))) ∧ ((w64 ((n0 : Int) - (1 : Int))) < (n0 : Int)))) then
                      bif (decide (n14 = n0)) then
                        bindO (Gv.overO c15 (((Int.toNat (w64 ((n0 : Int) - (1 : Int)))) * 3) + 2) [(PV.int .i64 (w64 (x0 + i8)))]) fun x57 =>
                        N (TalOf_0b n0 n1 c2 i3 (w64 (i4 + (1 : Int))) i5 i6 i7 i8 b9 i10 i11 x0 x0 n0 x57)
                      else none
                    else none
                  else bif (decide (((0 : Int) ≤ (w64 ((n0 : Int) - (1 : Int)))) ∧ ((w64 ((n0 : Int) - (1 : Int))) < (n0 : Int)))) then
                    bif (decide (n14 = n0)) then
                      bindO (Gv.overO c15 (((Int.toNat (w64 ((n0 : Int) - (1 : Int)))) * 3) + 2) [(PV.int .i64 (w64 (x0 - (1 : Int))))]) fun x58 =>
                      N (TalOf_0b n0 n1 c2 i3 (w64 (i4 + (1 : Int))) i5 i6 i7 i8 b9 i10 i11 x0 x0 n0 x58)
                    else none
                  else none
                else bif b9 then
                  bif (decide (((0 : Int) ≤ (w64 ((n0 : Int) - (1 : Int)))) ∧ ((w64 ((n0 : Int) - (1 : Int))) < (n0 : Int)))) then
                    bif (decide (n14 = n0)) then
                      bindO (Gv.overO c15 (((Int.toNat (w64 ((n0 : Int) - (1 : Int)))) * 3) + 2) [(PV.int .i64 (w64 (x0 + i8)))]) fun x59 =>
                      N (TalOf_0b n0 n1 c2 i3 (w64 (i4 + (1 : Int))) i5 i6 i7 i8 b9 i10 i11 x0 x0 n0 x59)
                    else none
                  else none
                else bif (decide (((0 : Int) ≤ (w64 ((n0 : Int) - (1 : Int)))) ∧ ((w64 ((n0 : Int) - (1 : Int))) < (n0 : Int)))) then
                  bif (decide (n14 = n0)) then
                    bindO (Gv.overO c15 (((Int.toNat (w64 ((n0 : Int) - (1 : Int)))) * 3) + 2) [(PV.int .i64 (w64 (x0 - (1 : Int))))]) fun x60 =>
                    N (TalOf_0b n0 n1 c2 i3 (w64 (i4 + (1 : Int))) i5 i6 i7 i8 b9 i10 i11 x0 x0 n0 x60)
                  else none
                else none
              else bif (decide (x1 ≥ i5)) then
                bif (decide (((0 : Int) ≤ (w64 ((n0 : Int) - (1 : Int)))) ∧ ((w64 ((n0 : Int) - (1 : Int))) < (n0 : Int)))) then
                  bif (decide (n14 = n0)) then
                    bindO (Gv.overO c15 (((Int.toNat (w64 ((n0 : Int) - (1 : Int)))) * 3) + 2) [(PV.int .i64 (w64 (x0 + i8)))]) fun x61 =>
                    N (TalOf_0b n0 n1 c2 i3 (w64 (i4 + (1 : Int))) i5 i6 i7 i8 true (w64 (i10 + (1 : Int))) x0 x0 x0 n0 x61)
                  else none
                else none
              else bif b9 then
                bif b9 then
                  bif (decide (((0 : Int) ≤ (w64 ((n0 : Int) - (1 : Int)))) ∧ ((w64 ((n0 : Int) - (1 : Int))) < (n0 : Int)))) then
                    bif (decide (n14 = n0)) then
                      bindO (Gv.overO c15 (((Int.toNat (w64 ((n0 : Int) - (1 : Int)))) * 3) + 2) [(PV.int .i64 (w64 (x0 + i8)))]) fun x62 =>
                      N (TalOf_0b n0 n1 c2 i3 (w64 (i4 + (1 : Int))) i5 i6 i7 i8 b9 i10 i11 x0 x0 n0 x62)
                    else none
                  else none
                else bif (decide (((0 : Int) ≤ (w64 ((n0 : Int) - (1 : Int)))) ∧ ((w64 ((n0 : Int) - (1 : Int))) < (n0 : Int)))) then
                  bif (decide (n14 = n0)) then
                    bindO (Gv.overO c15 (((Int.toNat (w64 ((n0 : Int) - (1 : Int)))) * 3) + 2) [(PV.int .i64 (w64 (x0 - (1 : Int))))]) fun x63 =>
                    N (TalOf_0b n0 n1 c2 i3 (w64 (i4 + (1 : Int))) i5 i6 i7 i8 b9 i10 i11 x0 x0 n0 x63)
                  else none
                else none
              else bif b9 then
                bif (decide (((0 : Int) ≤ (w64 ((n0 : Int) - (1 : Int)))) ∧ ((w64 ((n0 : Int) - (1 : Int))) < (n0 : Int)))) then
                  bif (decide (n14 = n0)) then
                    bindO (Gv.overO c15 (((Int.toNat (w64 ((n0 : Int) - (1 : Int)))) * 3) + 2) [(PV.int .i64 (w64 (x0 + i8)))]) fun x64 =>
                    N (TalOf_0b n0 n1 c2 i3 (w64 (i4 + (1 : Int))) i5 i6 i7 i8 b9 i10 i11 x0 x0 n0 x64)
                  else none
                else none
              else bif (decide (((0 : Int) ≤ (w64 ((n0 : Int) - (1 : Int)))) ∧ ((w64 ((n0 : Int) - (1 : Int))) < (n0 : Int)))) then
                bif (decide (n14 = n0)) then
                  bindO (Gv.overO c15 (((Int.toNat (w64 ((n0 : Int) - (1 : Int)))) * 3) + 2) [(PV.int .i64 (w64 (x0 - (1 : Int))))]) fun x65 =>
                  N (TalOf_0b n0 n1 c2 i3 (w64 (i4 + (1 : Int))) i5 i6 i7 i8 b9 i10 i11 x0 x0 n0 x65)
                else none
              else none
            else bif (decide ((w64 (x0 - i13)) ≥ i7)) then
              bif (decide (x1 ≥ i5)) then
                bif (decide (((0 : Int) ≤ (w64 ((n0 : Int) - (1 : Int)))) ∧ ((w64 ((n0 : Int) - (1 : Int))) < (n0 : Int)))) then
                  bif (decide (n14 = n0)) then
                    bindO (Gv.overO c15 (((Int.toNat (w64 ((n0 : Int) - (1 : Int)))) * 3) + 2) [(PV.int .i64 (w64 (x0 + i8)))]) fun x66 =>
                    N (TalOf_0b n0 n1 c2 i3 (w64 (i4 + (1 : Int))) i5 i6 i7 i8 true (w64 (i10 + (1 : Int))) x0 x0 (-1 : Int) n0 x66)
                  else none
                else none
              else bif (decide (((0 : Int) ≤ (w64 ((n0 : Int) - (1 : Int)))) ∧ ((w64 ((n0 : Int) - (1 : Int))) < (n0 : Int)))) then
                bif (decide (n14 = n0)) then
                  bindO (Gv.overO c15 (((Int.toNat (w64 ((n0 : Int) - (1 : Int)))) * 3) + 2) [(PV.int .i64 (w64 (x0 - (1 : Int))))]) fun x67 =>
                  N (TalOf_0b n0 n1 c2 i3 (w64 (i4 + (1 : Int))) i5 i6 i7 i8 false i10 (0 : Int) x0 (-1 : Int) n0 x67)
                else none
              else none
            else bif b9 then
              bif b9 then
                bif b9 then
                  bif (decide (((0 : Int) ≤ (w64 ((n0 : Int) - (1 : Int)))) ∧ ((w64 ((n0 : Int) - (1 : Int))) < (n0 : Int)))) then
                    bif (decide (n14 = n0)) then
                      bindO (Gv.overO c15 (((Int.toNat (w64 ((n0 : Int) - (1 : Int)))) * 3) + 2) [(PV.int .i64 (w64 (x0 + i8)))]) fun x68 =>
                      N (TalOf_0b n0 n1 c2 i3 (w64 (i4 + (1 : Int))) i5 i6 i7 i8 b9 i10 i11 x0 i13 n0 x68)
                    else none
                  else none
                else bif (decide (((0 : Int) ≤ (w64 ((n0 : Int) - (1 : Int)))) ∧ ((w64 ((n0 : Int) - (1 : Int))) < (n0 : Int)))) then
                  bif (decide (n14 = n0)) then
                    bindO (Gv.overO c15 (((Int.toNat (w64 ((n0 : Int) - (1 : Int)))) * 3) + 2) [(PV.int .i64 (w64 (x0 - (1 : Int))))]) fun x69 =>
                    N (TalOf_0b n0 n1 c2 i3 (w64 (i4 + (1 : Int))) i5 i6 i7 i8 b9 i10 i11 x0 i13 n0 x69)
                  else none
                else none
              else bif b9 then
                bif (decide (((0 : Int) ≤ (w64 ((n0 : Int) - (1 : Int)))) ∧ ((w64 ((n0 : Int) - (1 : Int))) < (n0 : Int)))) then
                  bif (decide (n14 = n0)) then
                    bindO (Gv.overO c15 (((Int.toNat (w64 ((n0 : Int) - (1 : Int)))) * 3) + 2) [(PV.int .i64 (w64 (x0 + i8)))]) fun x70 =>
                    N (TalOf_0b n0 n1 c2 i3 (w64 (i4 + (1 : Int))) i5 i6 i7 i8 b9 i10 i11 x0 i13 n0 x70)
                  else none
                else none
              else bif (decide (((0 : Int) ≤ (w64 ((n0 : Int) - (1 : Int)))) ∧ ((w64 ((n0 : Int) - (1 : Int))) < (n0 : Int)))) then
                bif (decide (n14 = n0)) then
                  bindO (Gv.overO c15 (((Int.toNat (w64 ((n0 : Int) - (1 : Int)))) * 3) + 2) [(PV.int .i64 (w64 (x0 - (1 : Int))))]) fun x71 =>
                  N (TalOf_0b n0 n1 c2 i3 (w64 (i4 + (1 : Int))) i5 i6 i7 i8 b9 i10 i11 x0 i13 n0 x71)
                else none
              else none
            else bif (decide (x1 ≥ i5)) then
              bif (decide (((0 : Int) ≤ (w64 ((n0 : Int) - (1 : Int)))) ∧ ((w64 ((n0 : Int) - (1 : Int))) < (n0 : Int)))) then
                bif (decide (n14 = n0)) then
                  bindO (Gv.overO c15 (((Int.toNat (w64 ((n0 : Int) - (1 : Int)))) * 3) + 2) [(PV.int .i64 (w64 (x0 + i8)))]) fun x72 =>
                  N (TalOf_0b n0 n1 c2 i3 (w64 (i4 + (1 : Int))) i5 i6 i7 i8 true (w64 (i10 + (1 : Int))) x0 x0 i13 n0 x72)
                else none
              else none
            else bif b9 then
              bif b9 then
                bif (decide (((0 : Int) ≤ (w64 ((n0 : Int) - (1 : Int)))) ∧ ((w64 ((n0 : Int) - (1 : Int))) < (n0 : Int)))) then
                  bif (decide (n14 = n0)) then
                    bindO (Gv.overO c15 (((Int.toNat (w64 ((n0 : Int) - (1 : Int)))) * 3) + 2) [(PV.int .i64 (w64 (x0 + i8)))]) fun x73 =>
                    N (TalOf_0b n0 n1 c2 i3 (w64 (i4 + (1 : Int))) i5 i6 i7 i8 b9 i10 i11 x0 i13 n0 x73)
                  else none
                else none
              else bif (decide (((0 : Int) ≤ (w64 ((n0 : Int) - (1 : Int)))) ∧ ((w64 ((n0 : Int) - (1 : Int))) < (n0 : Int)))) then
                bif (decide (n14 = n0)) then
                  bindO (Gv.overO c15 (((Int.toNat (w64 ((n0 : Int) - (1 : Int)))) * 3) + 2) [(PV.int .i64 (w64 (x0 - (1 : Int))))]) fun x74 =>
                  N (TalOf_0b n0 n1 c2 i3 (w64 (i4 + (1 : Int))) i5 i6 i7 i8 b9 i10 i11 x0 i13 n0 x74)
                else none
              else none
            else bif b9 then
              bif (decide (((0 : Int) ≤ (w64 ((n0 : Int) - (1 : Int)))) ∧ ((w64 ((n0 : Int) - (1 : Int))) < (n0 : Int)))) then
                bif (decide (n14 = n0)) then
                  bindO (Gv.overO c15 (((Int.toNat (w64 ((n0 : Int) - (1 : Int)))) * 3) + 2) [(PV.int .i64 (w64 (x0 + i8)))]) fun x75 =>
                  N (TalOf_0b n0 n1 c2 i3 (w64 (i4 + (1 : Int))) i5 i6 i7 i8 b9 i10 i11 x0 i13 n0 x75)
                else none
              else none
            else bif (decide (((0 : Int) ≤ (w64 ((n0 : Int) - (1 : Int)))) ∧ ((w64 ((n0 : Int) - (1 : Int))) < (n0 : Int)))) then
              bif (decide (n14 = n0)) then
                bindO (Gv.overO c15 (((Int.toNat (w64 ((n0 : Int) - (1 : Int)))) * 3) + 2) [(PV.int .i64 (w64 (x0 - (1 : Int))))]) fun x76 =>
                N (TalOf_0b n0 n1 c2 i3 (w64 (i4 + (1 : Int))) i5 i6 i7 i8 b9 i10 i11 x0 i13 n0 x76)
              else none
            else none
          else bif b9 then
            bif b9 then
              bif b9 then
                bif (decide (((0 : Int) ≤ (w64 ((n0 : Int) - (1 : Int)))) ∧ ((w64 ((n0 : Int) - (1 : Int))) < (n0 : Int)))) then
                  bif (decide (n14 = n0)) then
                    bindO (Gv.overO c15 (((Int.toNat (w64 ((n0 : Int) - (1 : Int)))) * 3) + 2) [(PV.int .i64 (w64 (x0 + i8)))]) fun x77 =>
                    N (TalOf_0b n0 n1 c2 i3 (w64 (i4 + (1 : Int))) i5 i6 i7 i8 b9 i10 i11 x0 i13 n0 x77)
                  else none
                else none
              else bif (decide (((0 : Int) ≤ (w64 ((n0 : Int) - (1 : Int)))) ∧ ((w64 ((n0 : Int) - (1 : Int))) < (n0 : Int)))) then
                bif (decide (n14 = n0)) then
                  bindO (Gv.overO c15 (((Int.toNat (w64 ((n0 : Int) - (1 : Int)))) * 3) + 2) [(PV.int .i64 (w64 (x0 - (1 : Int))))]) fun x78 =>
                  N (TalOf_0b n0 n1 c2 i3 (w64 (i4 + (1 : Int))) i5 i6 i7 i8 b9 i10 i11 x0 i13 n0 x78)
                else none
              else none
            else bif b9 then
              bif (decide (((0 : Int) ≤ (w64 ((n0 : Int) - (1 : Int)))) ∧ ((w64 ((n0 : Int) - (1 : Int))) < (n0 : Int)))) then
                bif (decide (n14 = n0)) then
                  bindO (Gv.overO c15 (((Int.toNat (w64 ((n0 : Int) - (1 : Int)))) * 3) + 2) [(PV.int .i64 (w64 (x0 + i8)))]) fun x79 =>
                  N (TalOf_0b n0 n1 c2 i3 (w64 (i4 + (1 : Int))) i5 i6 i7 i8 b9 i10 i11 x0 i13 n0 x79)
                else none
              else none
            else bif (decide (((0 : Int) ≤ (w64 ((n0 : Int) - (1 : Int)))) ∧ ((w64 ((n0 : Int) - (1 : Int))) < (n0 : Int)))) then
              bif (decide (n14 = n0)) then
                bindO (Gv.overO c15 (((Int.toNat (w64 ((n0 : Int) - (1 : Int)))) * 3) + 2) [(PV.int .i64 (w64 (x0 - (1 : Int))))]) fun x80 =>
                N (TalOf_0b n0 n1 c2 i3 (w64 (i4 + (1 : Int))) i5 i6 i7 i8 b9 i10 i11 x0 i13 n0 x80)
              else none
            else none
          else bif (decide (x1 ≥ i5)) then
            bif (decide (((0 : Int) ≤ (w64 ((n0 : Int) - (1 : Int)))) ∧ ((w64 ((n0 : Int) - (1 : Int))) < (n0 : Int)))) then
              bif (decide (n14 = n0)) then
                bindO (Gv.overO c15 (((Int.toNat (w64 ((n0 : Int) - (1 : Int)))) * 3) + 2) [(PV.int .i64 (w64 (x0 + i8)))]) fun x81 =>
                N (TalOf_0b n0 n1 c2 i3 (w64 (i4 + (1 : Int))) i5 i6 i7 i8 true (w64 (i10 + (1 : Int))) x0 x0 i13 n0 x81)
              else none
            else none
          else bif b9 then
            bif b9 then
              bif (decide (((0 : Int) ≤ (w64 ((n0 : Int) - (1 : Int)))) ∧ ((w64 ((n0 : Int) - (1 : Int))) < (n0 : Int)))) then
                bif (decide (n14 = n0)) then
                  bindO (Gv.overO c15 (((Int.toNat (w64 ((n0 : Int) - (1 : Int)))) * 3) + 2) [(PV.int .i64 (w64 (x0 + i8)))]) fun x82 =>
                  N (TalOf_0b n0 n1 c2 i3 (w64 (i4 + (1 : Int))) i5 i6 i7 i8 b9 i10 i11 x0 i13 n0 x82)
                else none
              else none
            else bif (decide (((0 : Int) ≤ (w64 ((n0 : Int) - (1 : Int)))) ∧ ((w64 ((n0 : Int) - (1 : Int))) < (n0 : Int)))) then
              bif (decide (n14 = n0)) then
                bindO (Gv.overO c15 (((Int.toNat (w64 ((n0 : Int) - (1 : Int)))) * 3) + 2) [(PV.int .i64 (w64 (x0 - (1 : Int))))]) fun x83 =>
                N (TalOf_0b n0 n1 c2 i3 (w64 (i4 + (1 : Int))) i5 i6 i7 i8 b9 i10 i11 x0 i13 n0 x83)
              else none
            else none
          else bif b9 then
            bif (decide (((0 : Int) ≤ (w64 ((n0 : Int) - (1 : Int)))) ∧ ((w64 ((n0 : Int) - (1 : Int))) < (n0 : Int)))) then
              bif (decide (n14 = n0)) then
                bindO (Gv.overO c15 (((Int.toNat (w64 ((n0 : Int) - (1 : Int)))) * 3) + 2) [(PV.int .i64 (w64 (x0 + i8)))]) fun x84 =>
                N (TalOf_0b n0 n1 c2 i3 (w64 (i4 + (1 : Int))) i5 i6 i7 i8 b9 i10 i11 x0 i13 n0 x84)
              else none
            else none
          else bif (decide (((0 : Int) ≤ (w64 ((n0 : Int) - (1 : Int)))) ∧ ((w64 ((n0 : Int) - (1 : Int))) < (n0 : Int)))) then
            bif (decide (n14 = n0)) then
              bindO (Gv.overO c15 (((Int.toNat (w64 ((n0 : Int) - (1 : Int)))) * 3) + 2) [(PV.int .i64 (w64 (x0 - (1 : Int))))]) fun x85 =>
              N (TalOf_0b n0 n1 c2 i3 (w64 (i4 + (1 : Int))) i5 i6 i7 i8 b9 i10 i11 x0 i13 n0 x85)
            else none
          else none
        else bif b9 then
          bif (decide ((w64 (x0 - i12)) > i8)) then
            bif (decide (x1 ≥ i5)) then
              bif (decide ((n14 = n0) ∧ ((n0 + 1) ≤ big))) then
                bif (decide (((0 : Int) ≤ (w64 (((n0 + 1) : Int) - (1 : Int)))) ∧ ((w64 (((n0 + 1) : Int) - (1 : Int))) < ((n0 + 1) : Int)))) then
                  bif (decide ((n0 + 1) = (n0 + 1))) then
                    bindO (Gv.overO (c15 ++ [(PV.int .i64 (w64 (i10 + (1 : Int)))), (PV.int .i64 x0), (PV.int .i64 (0 : Int))]) (((Int.toNat (w64 (((n0 + 1) : Int) - (1 : Int)))) * 3) + 2) [(PV.int .i64 (w64 (x0 + i8)))]) fun x86 =>
                    N (TalOf_0b (n0 + 1) n1 c2 i3 (w64 (i4 + (1 : Int))) i5 i6 i7 i8 true (w64 (i10 + (1 : Int))) x0 x0 (-1 : Int) (n0 + 1) x86)
                  else none
                else none
              else none
            else N (TalOf_0b n0 n1 c2 i3 (w64 (i4 + (1 : Int))) i5 i6 i7 i8 false i10 (0 : Int) x0 (-1 : Int) n14 c15)
          else bif b9 then
            bif (decide (x2 ≥ i6)) then
              bif b9 then
                bif b9 then
                  bif (decide ((n14 = n0) ∧ ((n0 + 1) ≤ big))) then
                    bif b9 then
                      bif (decide (((0 : Int) ≤ (w64 (((n0 + 1) : Int) - (1 : Int)))) ∧ ((w64 (((n0 + 1) : Int) - (1 : Int))) < ((n0 + 1) : Int)))) then
                        bif (decide ((n0 + 1) = (n0 + 1))) then
                          bindO (Gv.overO (c15 ++ [(PV.int .i64 i10), (PV.int .i64 i11), (PV.int .i64 (0 : Int))]) (((Int.toNat (w64 (((n0 + 1) : Int) - (1 : Int)))) * 3) + 2) [(PV.int .i64 (w64 (x0 + i8)))]) fun x87 =>
                          N (TalOf_0b (n0 + 1) n1 c2 i3 (w64 (i4 + (1 : Int))) i5 i6 i7 i8 b9 i10 i11 x0 (-1 : Int) (n0 + 1) x87)
                        else none
                      else none
                    else N (TalOf_0b (n0 + 1) n1 c2 i3 (w64 (i4 + (1 : Int))) i5 i6 i7 i8 b9 i10 i11 x0 (-1 : Int) (n0 + 1) (c15 ++ [(PV.int .i64 i10), (PV.int .i64 i11), (PV.int .i64 (0 : Int))]))
                  else none
                else bif b9 then
                  bif (decide (((0 : Int) ≤ (w64 ((n0 : Int) - (1 : Int)))) ∧ ((w64 ((n0 : Int) - (1 : Int))) < (n0 : Int)))) then
                    bif (decide (n14 = n0)) then
                      bindO (Gv.overO c15 (((Int.toNat (w64 ((n0 : Int) - (1 : Int)))) * 3) + 2) [(PV.int .i64 (w64 (x0 + i8)))]) fun x88 =>
                      N (TalOf_0b n0 n1 c2 i3 (w64 (i4 + (1 : Int))) i5 i6 i7 i8 b9 i10 i11 x0 (-1 : Int) n0 x88)
                    else none
                  else none
                else N (TalOf_0b n0 n1 c2 i3 (w64 (i4 + (1 : Int))) i5 i6 i7 i8 b9 i10 i11 x0 (-1 : Int) n14 c15)
              else bif (decide (x1 ≥ i5)) then
                bif (decide ((n14 = n0) ∧ ((n0 + 1) ≤ big))) then
                  bif (decide (((0 : Int) ≤ (w64 (((n0 + 1) : Int) - (1 : Int)))) ∧ ((w64 (((n0 + 1) : Int) - (1 : Int))) < ((n0 + 1) : Int)))) then
                    bif (decide ((n0 + 1) = (n0 + 1))) then
                      bindO (Gv.overO (c15 ++ [(PV.int .i64 (w64 (i10 + (1 : Int)))), (PV.int .i64 x0), (PV.int .i64 (0 : Int))]) (((Int.toNat (w64 (((n0 + 1) : Int) - (1 : Int)))) * 3) + 2) [(PV.int .i64 (w64 (x0 + i8)))]) fun x89 =>
                      N (TalOf_0b (n0 + 1) n1 c2 i3 (w64 (i4 + (1 : Int))) i5 i6 i7 i8 true (w64 (i10 + (1 : Int))) x0 x0 (-1 : Int) (n0 + 1) x89)
                    else none
                  else none
                else none
              else bif b9 then
                bif (decide ((n14 = n0) ∧ ((n0 + 1) ≤ big))) then
                  bif b9 then
                    bif (decide (((0 : Int) ≤ (w64 (((n0 + 1) : Int) - (1 : Int)))) ∧ ((w64 (((n0 + 1) : Int) - (1 : Int))) < ((n0 + 1) : Int)))) then
                      bif (decide ((n0 + 1) = (n0 + 1))) then
                        bindO (Gv.overO (c15 ++ [(PV.int .i64 i10), (PV.int .i64 i11), (PV.int .i64 (0 : Int))]) (((Int.toNat (w64 (((n0 + 1) : Int) - (1 : Int)))) * 3) + 2) [(PV.int .i64 (w64 (x0 + i8)))]) fun x90 =>
                        N (TalOf_0b (n0 + 1) n1 c2 i3 (w64 (i4 + (1 : Int))) i5 i6 i7 i8 b9 i10 i11 x0 (-1 : Int) (n0 + 1) x90)
                      else none
                    else none
                  else N (TalOf_0b (n0 + 1) n1 c2 i3 (w64 (i4 + (1 : Int))) i5 i6 i7 i8 b9 i10 i11 x0 (-1 : Int) (n0 + 1) (c15 ++ [(PV.int .i64 i10), (PV.int .i64 i11), (PV.int .i64 (0 : Int))]))
                else none
              else bif b9 then
                bif (decide (((0 : Int) ≤ (w64 ((n0 : Int) - (1 : Int)))) ∧ ((w64 ((n0 : Int) - (1 : Int))) < (n0 : Int)))) then
                  bif (decide (n14 = n0)) then
                    bindO (Gv.overO c15 (((Int.toNat (w64 ((n0 : Int) - (1 : Int)))) * 3) + 2) [(PV.int .i64 (w64 (x0 + i8)))]) fun x91 =>
                    N (TalOf_0b n0 n1 c2 i3 (w64 (i4 + (1 : Int))) i5 i6 i7 i8 b9 i10 i11 x0 (-1 : Int) n0 x91)
                  else none
                else none
              else N (TalOf_0b n0 n1 c2 i3 (w64 (i4 + (1 : Int))) i5 i6 i7 i8 b9 i10 i11 x0 (-1 : Int) n14 c15)
            else bif (i13 == (-1 : Int)) then
              bif (decide ((w64 (x0 - x0)) ≥ i7)) then
                bif (decide (x1 ≥ i5)) then
                  bif (decide ((n14 = n0) ∧ ((n0 + 1) ≤ big))) then
                    bif (decide (((0 : Int) ≤ (w64 (((n0 + 1) : Int) - (1 : Int)))) ∧ ((w64 (((n0 + 1) : Int) - (1 : Int))) < ((n0 + 1) : Int)))) then
                      bif (decide ((n0 + 1) = (n0 + 1))) then
                        bindO (Gv.overO (c15 ++ [(PV.int .i64 (w64 (i10 + (1 : Int)))), (PV.int .i64 x0), (PV.int .i64 (0 : Int))]) (((Int.toNat (w64 (((n0 + 1) : Int) - (1 : Int)))) * 3) + 2) [(PV.int .i64 (w64 (x0 + i8)))]) fun x92 =>
                        N (TalOf_0b (n0 + 1) n1 c2 i3 (w64 (i4 + (1 : Int))) i5 i6 i7 i8 true (w64 (i10 + (1 : Int))) x0 x0 (-1 : Int) (n0 + 1) x92)
                      else none
                    else none
                  else none
                else N (TalOf_0b n0 n1 c2 i3 (w64 (i4 + (1 : Int))) i5 i6 i7 i8 false i10 (0 : Int) x0 (-1 : Int) n14 c15)
              else bif b9 then
                bif b9 then
                  bif (decide ((n14 = n0) ∧ ((n0 + 1) ≤ big))) then
                    bif b9 then
                      bif (decide (((0 : Int) ≤ (w64 (((n0 + 1) : Int) - (1 : Int)))) ∧ ((w64 (((n0 + 1) : Int) - (1 : Int))) < ((n0 + 1) : Int)))) then
                        bif (decide ((n0 + 1) = (n0 + 1))) then
                          bindO (Gv.overO (c15 ++ [(PV.int .i64 i10), (PV.int .i64 i11), (PV.int .i64 (0 : Int))]) (((Int.toNat (w64 (((n0 + 1) : Int) - (1 : Int)))) * 3) + 2) [(PV.int .i64 (w64 (x0 + i8)))]) fun x93 =>
                          N (TalOf_0b (n0 + 1) n1 c2 i3 (w64 (i4 + (1 : Int))) i5 i6 i7 i8 b9 i10 i11 x0 x0 (n0 + 1) x93)
                        else none
                      else none
                    else N (TalOf_0b (n0 + 1) n1 c2 i3 (w64 (i4 + (1 : Int))) i5 i6 i7 i8 b9 i10 i11 x0 x0 (n0 + 1) (c15 ++ [(PV.int .i64 i10), (PV.int .i64 i11), (PV.int .i64 (0 : Int))]))
                  else none
                else bif b9 then
                  bif (decide (((0 : Int) ≤ (w64 ((n0 : Int) - (1 : Int)))) ∧ ((w64 ((n0 : Int) - (1 : Int))) < (n0 : Int)))) then
                    bif (decide (n14 = n0)) then
                      bindO (Gv.overO c15 (((Int.toNat (w64 ((n0 : Int) - (1 : Int)))) * 3) + 2) [(PV.int .i64 (w64 (x0 + i8)))]) fun x94 =>
                      N (TalOf_0b n0 n1 c2 i3 (w64 (i4 + (1 : Int))) i5 i6 i7 i8 b9 i10 i11 x0 x0 n0 x94)
                    else none
                  else none
                else N (TalOf_0b n0 n1 c2 i3 (w64 (i4 + (1 : Int))) i5 i6 i7 i8 b9 i10 i11 x0 x0 n14 c15)
              else bif (decide (x1 ≥ i5)) then
                bif (decide ((n14 = n0) ∧ ((n0 + 1) ≤ big))) then
                  bif (decide (((0 : Int) ≤ (w64 (((n0 + 1) : Int) - (1 : Int)))) ∧ ((w64 (((n0 + 1) : Int) - (1 : Int))) < ((n0 + 1) : Int)))) then
                    bif (decide ((n0 + 1) = (n0 + 1))) then
                      bindO (Gv.overO (c15 ++ [(PV.int .i64 (w64 (i10 + (1 : Int)))), (PV.int .i64 x0), (PV.int .i64 (0 : Int))]) (((Int.toNat (w64 (((n0 + 1) : Int) - (1 : Int)))) * 3) + 2) [(PV.int .i64 (w64 (x0 + i8)))]) fun x95 =>
                      N (TalOf_0b (n0 + 1) n1 c2 i3 (w64 (i4 + (1 : Int))) i5 i6 i7 i8 true (w64 (i10 + (1 : Int))) x0 x0 x0 (n0 + 1) x95)
                    else none
                  else none
                else none
              else bif b9 then
                bif (decide ((n14 = n0) ∧ ((n0 + 1) ≤ big))) then
                  bif b9 then
                    bif (decide (((0 : Int) ≤ (w64 (((n0 + 1) : Int) - (1 : Int)))) ∧ ((w64 (((n0 + 1) : Int) - (1 : Int))) < ((n0 + 1) : Int)))) then
                      bif (decide ((n0 + 1) = (n0 + 1))) then
                        bindO (Gv.overO (c15 ++ [(PV.int .i64 i10), (PV.int .i64 i11), (PV.int .i64 (0 : Int))]) (((Int.toNat (w64 (((n0 + 1) : Int) - (1 : Int)))) * 3) + 2) [(PV.int .i64 (w64 (x0 + i8)))]) fun x96 =>
                        N (TalOf_0b (n0 + 1) n1 c2 i3 (w64 (i4 + (1 : Int))) i5 i6 i7 i8 b9 i10 i11 x0 x0 (n0 + 1) x96)
                      else none
                    else none
                  else N (TalOf_0b (n0 + 1) n1 c2 i3 (w64 (i4 + (1 : Int))) i5 i6 i7 i8 b9 i10 i11 x0 x0 (n0 + 1) (c15 ++ [(PV.int .i64 i10), (PV.int .i64 i11), (PV.int .i64 (0 : Int))]))
                else none
              else bif b9 then
                bif (decide (((0 : Int) ≤ (w64 ((n0 : Int) - (1 : Int)))) ∧ ((w64 ((n0 : Int) - (1 : Int))) < (n0 : Int)))) then
                  bif (decide (n14 = n0)) then
                    bindO (Gv.overO c15 (((Int.toNat (w64 ((n0 : Int) - (1 : Int)))) * 3) + 2) [(PV.int .i64 (w64 (x0 + i8)))]) fun x97 =>
                    N (TalOf_0b n0 n1 c2 i3 (w64 (i4 + (1 : Int))) i5 i6 i7 i8 b9 i10 i11 x0 x0 n0 x97)
                  else none
                else none
              else N (TalOf_0b n0 n1 c2 i3 (w64 (i4 + (1 : Int))) i5 i6 i7 i8 b9 i10 i11 x0 x0 n14 c15)
            else bif (decide ((w64 (x0 - i13)) ≥ i7)) then
              bif (decide (x1 ≥ i5)) then
                bif (decide ((n14 = n0) ∧ ((n0 + 1) ≤ big))) then
                  bif (decide (((0 : Int) ≤ (w64 (((n0 + 1) : Int) - (1 : Int)))) ∧ ((w64 (((n0 + 1) : Int) - (1 : Int))) < ((n0 + 1) : Int)))) then
                    bif (decide ((n0 + 1) = (n0 + 1))) then
                      bindO (Gv.overO (c15 ++ [(PV.int .i64 (w64 (i10 + (1 : Int)))), (PV.int .i64 x0), (PV.int .i64 (0 : Int))]) (((Int.toNat (w64 (((n0 + 1) : Int) - (1 : Int)))) * 3) + 2) [(PV.int .i64 (w64 (x0 + i8)))]) fun x98 =>
                      N (TalOf_0b (n0 + 1) n1 c2 i3 (w64 (i4 + (1 : Int))) i5 i6 i7 i8 true (w64 (i10 + (1 : Int))) x0 x0 (-1 : Int) (n0 + 1) x98)
                    else none
                  else none
                else none
              else N (TalOf_0b n0 n1 c2 i3 (w64 (i4 + (1 : Int))) i5 i6 i7 i8 false i10 (0 : Int) x0 (-1 : Int) n14 c15)
            else bif b9 then
              bif b9 then
                bif (decide ((n14 = n0) ∧ ((n0 + 1) ≤ big))) then
                  bif b9 then
                    bif (decide (((0 : Int) ≤ (w64 (((n0 + 1) : Int) - (1 : Int)))) ∧ ((w64 (((n0 + 1) : Int) - (1 : Int))) < ((n0 + 1) : Int)))) then
                      bif (decide ((n0 + 1) = (n0 + 1))) then
                        bindO (Gv.overO (c15 ++ [(PV.int .i64 i10), (PV.int .i64 i11), (PV.int .i64 (0 : Int))]) (((Int.toNat (w64 (((n0 + 1) : Int) - (1 : Int)))) * 3) + 2) [(PV.int .i64 (w64 (x0 + i8)))]) fun x99 =>
                        N (TalOf_0b (n0 + 1) n1 c2 i3 (w64 (i4 + (1 : Int))) i5 i6 i7 i8 b9 i10 i11 x0 i13 (n0 + 1) x99)
                      else none
                    else none
                  else N (TalOf_0b (n0 + 1) n1 c2 i3 (w64 (i4 + (1 : Int))) i5 i6 i7 i8 b9 i10 i11 x0 i13 (n0 + 1) (c15 ++ [(PV.int .i64 i10), (PV.int .i64 i11), (PV.int .i64 (0 : Int))]))
                else none
              else bif b9 then
                bif (decide (((0 : Int) ≤ (w64 ((n0 : Int) - (1 : Int)))) ∧ ((w64 ((n0 : Int) - (1 : Int))) < (n0 : Int)))) then
                  bif (decide (n14 = n0)) then
                    bindO (Gv.overO c15 (((Int.toNat (w64 ((n0 : Int) - (1 : Int)))) * 3) + 2) [(PV.int .i64 (w64 (x0 + i8)))]) fun x100 =>
                    N (TalOf_0b n0 n1 c2 i3 (w64 (i4 + (1 : Int))) i5 i6 i7 i8 b9 i10 i11 x0 i13 n0 x100)
                  else none
                else none
              else N (TalOf_0b n0 n1 c2 i3 (w64 (i4 + (1 : Int))) i5 i6 i7 i8 b9 i10 i11 x0 i13 n14 c15)
            else bif (decide (x1 ≥ i5)) then
              bif (decide ((n14 = n0) ∧ ((n0 + 1) ≤ big))) then
                bif (decide (((0 : Int) ≤ (w64 (((n0 + 1) : Int) - (1 : Int)))) ∧ ((w64 (((n0 + 1) : Int) - (1 : Int))) < ((n0 + 1) : Int)))) then
                  bif (decide ((n0 + 1) = (n0 + 1))) then
                    bindO (Gv.overO (c15 ++ [(PV.int .i64 (w64 (i10 + (1 : Int)))), (PV.int .i64 x0), (PV.int .i64 (0 : Int))]) (((Int.toNat (w64 (((n0 + 1) : Int) - (1 : Int)))) * 3) + 2) [(PV.int .i64 (w64 (x0 + i8)))]) fun x101 =>
                    N (TalOf_0b (n0 + 1) n1 c2 i3 (w64 (i4 + (1 : Int))) i5 i6 i7 i8 true (w64 (i10 + (1 : Int))) x0 x0 i13 (n0 + 1) x101)
                  else none
                else none
              else none
            else bif b9 then
              bif (decide ((n14 = n0) ∧ ((n0 + 1) ≤ big))) then
                bif b9 then
                  bif (decide (((0 : Int) ≤ (w64 (((n0 + 1) : Int) - (1 : Int)))) ∧ ((w64 (((n0 + 1) : Int) - (1 : Int))) < ((n0 + 1) : Int)))) then
                    bif (decide ((n0 + 1) = (n0 + 1))) then
                      bindO (Gv.overO (c15 ++ [(PV.int .i64 i10), (PV.int .i64 i11), (PV.int .i64 (0 : Int))]) (((Int.toNat (w64 (((n0 + 1) : Int) - (1 : Int)))) * 3) + 2) [(PV.int .i64 (w64 (x0 + i8)))]) fun x102 =>
                      N (TalOf_0b (n0 + 1) n1 c2 i3 (w64 (i4 + (1 : Int))) i5 i6 i7 i8 b9 i10 i11 x0 i13 (n0 + 1) x102)
                    else none
                  else none
                else N (TalOf_0b (n0 + 1) n1 c2 i3 (w64 (i4 + (1 : Int))) i5 i6 i7 i8 b9 i10 i11 x0 i13 (n0 + 1) (c15 ++ [(PV.int .i64 i10), (PV.int .i64 i11), (PV.int .i64 (0 : Int))]))
              else none
            else bif b9 then
              bif (decide (((0 : Int) ≤ (w64 ((n0 : Int) - (1 : Int)))) ∧ ((w64 ((n0 : Int) - (1 : Int))) < (n0 : Int)))) then
                bif (decide (n14 = n0)) then
                  bindO (Gv.overO c15 (((Int.toNat (w64 ((n0 : Int) - (1 : Int)))) * 3) + 2) [(PV.int .i64 (w64 (x0 + i8)))]) fun x103 =>
                  N (TalOf_0b n0 n1 c2 i3 (w64 (i4 + (1 : Int))) i5 i6 i7 i8 b9 i10 i11 x0 i13 n0 x103)
                else none
              else none
            else N (TalOf_0b n0 n1 c2 i3 (w64 (i4 + (1 : Int))) i5 i6 i7 i8 b9 i10 i11 x0 i13 n14 c15)
          else bif b9 then
            bif b9 then
              bif (decide ((n14 = n0) ∧ ((n0 + 1) ≤ big))) then
                bif b9 then
                  bif (decide (((0 : Int) ≤ (w64 (((n0 + 1) : Int) - (1 : Int)))) ∧ ((w64 (((n0 + 1) : Int) - (1 : Int))) < ((n0 + 1) : Int)))) then
                    bif (decide ((n0 + 1) = (n0 + 1))) then
                      bindO (Gv.overO (c15 ++ [(PV.int .i64 i10), (PV.int .i64 i11), (PV.int .i64 (0 : Int))]) (((Int.toNat (w64 (((n0 + 1) : Int) - (1 : Int)))) * 3) + 2) [(PV.int .i64 (w64 (x0 + i8)))]) fun x104 =>
                      N (TalOf_0b (n0 + 1) n1 c2 i3 (w64 (i4 + (1 : Int))) i5 i6 i7 i8 b9 i10 i11 x0 i13 (n0 + 1) x104)
                    else none
                  else none
                else N (TalOf_0b (n0 + 1) n1 c2 i3 (w64 (i4 + (1 : Int))) i5 i6 i7 i8 b9 i10 i11 x0 i13 (n0 + 1) (c15 ++ [(PV.int .i64 i10), (PV.int .i64 i11), (PV.int .i64 (0 : Int))]))
              else none
            else bif b9 then
              bif (decide (((0 : Int) ≤ (w64 ((n0 : Int) - (1 : Int)))) ∧ ((w64 ((n0 : Int) - (1 : Int))) < (n0 : Int)))) then
                bif (decide (n14 = n0)) then
                  bindO (Gv.overO c15 (((Int.toNat (w64 ((n0 : Int) - (1 : Int)))) * 3) + 2) [(PV.int .i64 (w64 (x0 + i8)))]) fun x105 =>
                  N (TalOf_0b n0 n1 c2 i3 (w64 (i4 + (1 : Int))) i5 i6 i7 i8 b9 i10 i11 x0 i13 n0 x105)
                else none
              else none
            else N (TalOf_0b n0 n1 c2 i3 (w64 (i4 + (1 : Int))) i5 i6 i7 i8 b9 i10 i11 x0 i13 n14 c15)
          else bif (decide (x1 ≥ i5)) then
            bif (decide ((n14 = n0) ∧ ((n0 + 1) ≤ big))) then
              bif (decide (((0 : Int) ≤ (w64 (((n0 + 1) : Int) - (1 : Int)))) ∧ ((w64 (((n0 + 1) : Int) - (1 : Int))) < ((n0 + 1) : Int)))) then
                bif (decide ((n0 + 1) = (n0 + 1))) then
                  bindO (Gv.overO (c15 ++ [(PV.int .i64 (w64 (i10 + (1 : Int)))), (PV.int .i64 x0), (PV.int .i64 (0 : Int))]) (((Int.toNat (w64 (((n0 + 1) : Int) - (1 : Int)))) * 3) + 2) [(PV.int .i64 (w64 (x0 + i8)))]) fun x106 =>
                  N (TalOf_0b (n0 + 1) n1 c2 i3 (w64 (i4 + (1 : Int))) i5 i6 i7 i8 true (w64 (i10 + (1 : Int))) x0 x0 i13 (n0 + 1) x106)
                else none
              else none
            else none
          else bif b9 then
            bif (decide ((n14 = n0) ∧ ((n0 + 1) ≤ big))) then
              bif b9 then
                bif (decide (((0 : Int) ≤ (w64 (((n0 + 1) : Int) - (1 : Int)))) ∧ ((w64 (((n0 + 1) : Int) - (1 : Int))) < ((n0 + 1) : Int)))) then
                  bif (decide ((n0 + 1) = (n0 + 1))) then
                    bindO (Gv.overO (c15 ++ [(PV.int .i64 i10), (PV.int .i64 i11), (PV.int .i64 (0 : Int))]) (((Int.toNat (w64 (((n0 + 1) : Int) - (1 : Int)))) * 3) + 2) [(PV.int .i64 (w64 (x0 + i8)))]) fun x107 =>
                    N (TalOf_0b (n0 + 1) n1 c2 i3 (w64 (i4 + (1 : Int))) i5 i6 i7 i8 b9 i10 i11 x0 i13 (n0 + 1) x107)
                  else none
                else none
              else N (TalOf_0b (n0 + 1) n1 c2 i3 (w64 (i4 + (1 : Int))) i5 i6 i7 i8 b9 i10 i11 x0 i13 (n0 + 1) (c15 ++ [(PV.int .i64 i10), (PV.int .i64 i11), (PV.int .i64 (0 : Int))]))
            else none
          else bif b9 then
            bif (decide (((0 : Int) ≤ (w64 ((n0 : Int) - (1 : Int)))) ∧ ((w64 ((n0 : Int) - (1 : Int))) < (n0 : Int)))) then
              bif (decide (n14 = n0)) then
                bindO (Gv.overO c15 (((Int.toNat (w64 ((n0 : Int) - (1 : Int)))) * 3) + 2) [(PV.int .i64 (w64 (x0 + i8)))]) fun x108 =>
                N (TalOf_0b n0 n1 c2 i3 (w64 (i4 + (1 : Int))) i5 i6 i7 i8 b9 i10 i11 x0 i13 n0 x108)
              else none
            else none
          else N (TalOf_0b n0 n1 c2 i3 (w64 (i4 + (1 : Int))) i5 i6 i7 i8 b9 i10 i11 x0 i13 n14 c15)
        else bif b9 then
          bif (decide (x2 ≥ i6)) then
            bif b9 then
              bif b9 then
                bif (decide ((n14 = n0) ∧ ((n0 + 1) ≤ big))) then
                  bif b9 then
                    bif (decide (((0 : Int) ≤ (w64 (((n0 + 1) : Int) - (1 : Int)))) ∧ ((w64 (((n0 + 1) : Int) - (1 : Int))) < ((n0 + 1) : Int)))) then
                      bif (decide ((n0 + 1) = (n0 + 1))) then
                        bindO (Gv.overO (c15 ++ [(PV.int .i64 i10), (PV.int .i64 i11), (PV.int .i64 (0 : Int))]) (((Int.toNat (w64 (((n0 + 1) : Int) - (1 : Int)))) * 3) + 2) [(PV.int .i64 (w64 (x0 + i8)))]) fun x109 =>
                        N (TalOf_0b (n0 + 1) n1 c2 i3 (w64 (i4 + (1 : Int))) i5 i6 i7 i8 b9 i10 i11 x0 (-1 : Int) (n0 + 1) x109)
                      else none
                    else none
                  else N (TalOf_0b (n0 + 1) n1 c2 i3 (w64 (i4 + (1 : Int))) i5 i6 i7 i8 b9 i10 i11 x0 (-1 : Int) (n0 + 1) (c15 ++ [(PV.int .i64 i10), (PV.int .i64 i11), (PV.int .i64 (0 : Int))]))
                else none
              else bif b9 then
                bif (decide (((0 : Int) ≤ (w64 ((n0 : Int) - (1 : Int)))) ∧ ((w64 ((n0 : Int) - (1 : Int))) < (n0 : Int)))) then
                  bif (decide (n14 = n0)) then
                    bindO (Gv.overO c15 (((Int.toNat (w64 ((n0 : Int) - (1 : Int)))) * 3) + 2) [(PV.int .i64 (w64 (x0 + i8)))]) fun x110 =>
                    N (TalOf_0b n0 n1 c2 i3 (w64 (i4 + (1 : Int))) i5 i6 i7 i8 b9 i10 i11 x0 (-1 : Int) n0 x110)
                  else none
                else none
              else N (TalOf_0b n0 n1 c2 i3 (w64 (i4 + (1 : Int))) i5 i6 i7 i8 b9 i10 i11 x0 (-1 : Int) n14 c15)
            else bif (decide (x1 ≥ i5)) then
              bif (decide ((n14 = n0) ∧ ((n0 + 1) ≤ big))) then
                bif (decide (((0 : Int) ≤ (w64 (((n0 + 1) : Int) - (1 : Int)))) ∧ ((w64 (((n0 + 1) : Int) - (1 : Int))) < ((n0 + 1) : Int)))) then
                  bif (decide ((n0 + 1) = (n0 + 1))) then
                    bindO (Gv.overO (c15 ++ [(PV.int .i64 (w64 (i10 + (1 : Int)))), (PV.int .i64 x0), (PV.int .i64 (0 : Int))]) (((Int.toNat (w64 (((n0 + 1) : Int) - (1 : Int)))) * 3) + 2) [(PV.int .i64 (w64 (x0 + i8)))]) fun x111 =>
                    N (TalOf_0b (n0 + 1) n1 c2 i3 (w64 (i4 + (1 : Int))) i5 i6 i7 i8 true (w64 (i10 + (1 : Int))) x0 x0 (-1 : Int) (n0 + 1) x111)
                  else none
                else none
              else none
            else bif b9 then
              bif (decide ((n14 = n0) ∧ ((n0 + 1) ≤ big))) then
                bif b9 then
                  bif (decide (((0 : Int) ≤ (w64 (((n0 + 1) : Int) - (1 : Int)))) ∧ ((w64 (((n0 + 1) : Int) - (1 : Int))) < ((n0 + 1) : Int)))) then
                    bif (decide ((n0 + 1) = (n0 + 1))) then
                      bindO (Gv.overO (c15 ++ [(PV.int .i64 i10), (PV.int .i64 i11), (PV.int .i64 (0 : Int))]) (((Int.toNat (w64 (((n0 + 1) : Int) - (1 : Int)))) * 3) + 2) [(PV.int .i64 (w64 (x0 + i8)))]) fun x112 =>
                      N (TalOf_0b (n0 + 1) n1 c2 i3 (w64 (i4 + (1 : Int))) i5 i6 i7 i8 b9 i10 i11 x0 (-1 : Int) (n0 + 1) x112)
                    else none
                  else none
                else N (TalOf_0b (n0 + 1) n1 c2 i3 (w64 (i4 + (1 : Int))) i5 i6 i7 i8 b9 i10 i11 x0 (-1 : Int) (n0 + 1) (c15 ++ [(PV.int .i64 i10), (PV.int .i64 i11), (PV.int .i64 (0 : Int))]))
              else none
            else bif b9 then
              bif (decide (((0 : Int) ≤ (w64 ((n0 : Int) - (1 : Int)))) ∧ ((w64 ((n0 : Int) - (1 : Int))) < (n0 : Int)))) then
                bif (decide (n14 = n0)) then
                  bindO (Gv.overO c15 (((Int.toNat (w64 ((n0 : Int) - (1 : Int)))) * 3) + 2) [(PV.int .i64 (w64 (x0 + i8)))]) fun x113 =>
                  N (TalOf_0b n0 n1 c2 i3 (w64 (i4 + (1 : Int))) i5 i6 i7 i8 b9 i10 i11 x0 (-1 : Int) n0 x113)
                else none
              else none
            else N (TalOf_0b n0 n1 c2 i3 (w64 (i4 + (1 : Int))) i5 i6 i7 i8 b9 i10 i11 x0 (-1 : Int) n14 c15)
          else bif (i13 == (-1 : Int)) then
            bif (decide ((w64 (x0 - x0)) ≥ i7)) then
              bif (decide (x1 ≥ i5)) then
                bif (decide ((n14 = n0) ∧ ((n0 + 1) ≤ big))) then
                  bif (decide (((0 : Int) ≤ (w64 (((n0 + 1) : Int) - (1 : Int)))) ∧ ((w64 (((n0 + 1) : Int) - (1 : Int))) < ((n0 + 1) : Int)))) then
                    bif (decide ((n0 + 1) = (n0 + 1))) then
                      bindO (Gv.overO (c15 ++ [(PV.int .i64 (w64 (i10 + (1 : Int)))), (PV.int .i64 x0), (PV.int .i64 (0 : Int))]) (((Int.toNat (w64 (((n0 + 1) : Int) - (1 : Int)))) * 3) + 2) [(PV.int .i64 (w64 (x0 + i8)))]) fun x114 =>
                      N (TalOf_0b (n0 + 1) n1 c2 i3 (w64 (i4 + (1 : Int))) i5 i6 i7 i8 true (w64 (i10 + (1 : Int))) x0 x0 (-1 : Int) (n0 + 1) x114)
                    else none
                  else none
                else none
              else N (TalOf_0b n0 n1 c2 i3 (w64 (i4 + (1 : Int))) i5 i6 i7 i8 false i10 (0 : Int) x0 (-1 : Int) n14 c15)
            else bif b9 then
              bif b9 then
                bif (decide ((n14 = n0) ∧ ((n0 + 1) ≤ big))) then
                  bif b9 then
                    bif (decide (((0 : Int) ≤ (w64 (((n0 + 1) : Int) - (1 : Int)))) ∧ ((w64 (((n0 + 1) : Int) - (1 : Int))) < ((n0 + 1) : Int)))) then
                      bif (decide ((n0 + 1) = (n0 + 1))) then
                        bindO (Gv.overO (c15 ++ [(PV.int .i64 i10), (PV.int .i64 i11), (PV.int .i64 (0 : Int))]) (((Int.toNat (w64 (((n0 + 1) : Int) - (1 : Int)))) * 3) + 2) [(PV.int .i64 (w64 (x0 + i8)))]) fun x115 =>
                        N (TalOf_0b (n0 + 1) n1 c2 i3 (w64 (i4 + (1 : Int))) i5 i6 i7 i8 b9 i10 i11 x0 x0 (n0 + 1) x115)
                      else none
                    else none
                  else N (TalOf_0b (n0 + 1) n1 c2 i3 (w64 (i4 + (1 : Int))) i5 i6 i7 i8 b9 i10 i11 x0 x0 (n0 + 1) (c15 ++ [(PV.int .i64 i10), (PV.int .i64 i11), (PV.int .i64 (0 : Int))]))
                else none
              else bif b9 then
                bif (decide (((0 : Int) ≤ (w64 ((n0 : Int) - (1 : Int)))) ∧ ((w64 ((n0 : Int) - (1 : Int))) < (n0 : Int)))) then
                  bif (decide (n14 = n0)) then
                    bindO (Gv.overO c15 (((Int.toNat (w64 ((n0 : Int) - (1 : Int)))) * 3) + 2) [(PV.int .i64 (w64 (x0 + i8)))]) fun x116 =>
                    N (TalOf_0b n0 n1 c2 i3 (w64 (i4 + (1 : Int))) i5 i6 i7 i8 b9 i10 i11 x0 x0 n0 x116)
                  else none
                else none
              else N (TalOf_0b n0 n1 c2 i3 (w64 (i4 + (1 : Int))) i5 i6 i7 i8 b9 i10 i11 x0 x0 n14 c15)
            else bif (decide (x1 ≥ i5)) then
              bif (decide ((n14 = n0) ∧ ((n0 + 1) ≤ big))) then
                bif (decide (((0 : Int) ≤ (w64 (((n0 + 1) : Int) - (1 : Int)))) ∧ ((w64 (((n0 + 1) : Int) - (1 : Int))) < ((n0 + 1) : Int)))) then
                  bif (decide ((n0 + 1) = (n0 + 1))) then
                    bindO (Gv.overO (c15 ++ [(PV.int .i64 (w64 (i10 + (1 : Int)))), (PV.int .i64 x0), (PV.int .i64 (0 : Int))]) (((Int.toNat (w64 (((n0 + 1) : Int) - (1 : Int)))) * 3) + 2) [(PV.int .i64 (w64 (x0 + i8)))]) fun x117 =>
                    N (TalOf_0b (n0 + 1) n1 c2 i3 (w64 (i4 + (1 : Int))) i5 i6 i7 i8 true (w64 (i10 + (1 : Int))) x0 x0 x0 (n0 + 1) x117)
                  else none
                else none
              else none
            else bif b9 then
              bif (decide ((n14 = n0) ∧ ((n0 + 1) ≤ big))) then
                bif b9 then
                  bif (decide (((0 : Int) ≤ (w64 (((n0 + 1) : Int) - (1 : Int)))) ∧ ((w64 (((n0 + 1) : Int) - (1 : Int))) < ((n0 + 1) : Int)))) then
                    bif (decide ((n0 + 1) = (n0 + 1))) then
                      bindO (Gv.overO (c15 ++ [(PV.int .i64 i10), (PV.int .i64 i11), (PV.int .i64 (0 : Int))]) (((Int.toNat (w64 (((n0 + 1) : Int) - (1 : Int)))) * 3) + 2) [(PV.int .i64 (w64 (x0 + i8)))]) fun x118 =>
                      N (TalOf_0b (n0 + 1) n1 c2 i3 (w64 (i4 + (1 : Int))) i5 i6 i7 i8 b9 i10 i11 x0 x0 (n0 + 1) x118)
                    else none
                  else none
                else N (TalOf_0b (n0 + 1) n1 c2 i3 (w64 (i4 + (1 : Int))) i5 i6 i7 i8 b9 i10 i11 x0 x0 (n0 + 1) (c15 ++ [(PV.int .i64 i10), (PV.int .i64 i11), (PV.int .i64 (0 : Int))]))
              else none
            else bif b9 then
              bif (decide (((0 : Int) ≤ (w64 ((n0 : Int) - (1 : Int)))) ∧ ((w64 ((n0 : Int) - (1 : Int))) < (n0 : Int)))) then
                bif (decide (n14 = n0)) then
                  bindO (Gv.overO c15 (((Int.toNat (w64 ((n0 : Int) - (1 : Int)))) * 3) + 2) [(PV.int .i64 (w64 (x0 + i8)))]) fun x119 =>
                  N (TalOf_0b n0 n1 c2 i3 (w64 (i4 + (1 : Int))) i5 i6 i7 i8 b9 i10 i11 x0 x0 n0 x119)
                else none
              else none
            else N (TalOf_0b n0 n1 c2 i3 (w64 (i4 + (1 : Int))) i5 i6 i7 i8 b9 i10 i11 x0 x0 n14 c15)
          else bif (decide ((w64 (x0 - i13)) ≥ i7)) then
            bif (decide (x1 ≥ i5)) then
              bif (decide ((n14 = n0) ∧ ((n0 + 1) ≤ big))) then
                bif (decide (((0 : Int) ≤ (w64 (((n0 + 1) : Int) - (1 : Int)))) ∧ ((w64 (((n0 + 1) : Int) - (1 : Int))) < ((n0 + 1) : Int)))) then
                  bif (decide ((n0 + 1) = (n0 + 1))) then
                    bindO (Gv.overO (c15 ++ [(PV.int .i64 (w64 (i10 + (1 : Int)))), (PV.int .i64 x0), (PV.int .i64 (0 : Int))]) (((Int.toNat (w64 (((n0 + 1) : Int) - (1 : Int)))) * 3) + 2) [(PV.int .i64 (w64 (x0 + i8)))]) fun x120 =>
                    N (TalOf_0b (n0 + 1) n1 c2 i3 (w64 (i4 + (1 : Int))) i5 i6 i7 i8 true (w64 (i10 + (1 : Int))) x0 x0 (-1 : Int) (n0 + 1) x120)
                  else none
                else none
              else none
            else N (TalOf_0b n0 n1 c2 i3 (w64 (i4 + (1 : Int))) i5 i6 i7 i8 false i10 (0 : Int) x0 (-1 : Int) n14 c15)
          else bif b9 then
            bif b9 then
              bif (decide ((n14 = n0) ∧ ((n0 + 1) ≤ big))) then
                bif b9 then
                  bif (decide (((0 : Int) ≤ (w64 (((n0 + 1) : Int) - (1 : Int)))) ∧ ((w64 (((n0 + 1) : Int) - (1 : Int))) < ((n0 + 1) : Int)))) then
                    bif (decide ((n0 + 1) = (n0 + 1))) then
                      bindO (Gv.overO (c15 ++ [(PV.int .i64 i10), (PV.int .i64 i11), (PV.int .i64 (0 : Int))]) (((Int.toNat (w64 (((n0 + 1) : Int) - (1 : Int)))) * 3) + 2) [(PV.int .i64 (w64 (x0 + i8)))]) fun x121 =>
                      N (TalOf_0b (n0 + 1) n1 c2 i3 (w64 (i4 + (1 : Int))) i5 i6 i7 i8 b9 i10 i11 x0 i13 (n0 + 1) x121)
                    else none
                  else none
                else N (TalOf_0b (n0 + 1) n1 c2 i3 (w64 (i4 + (1 : Int))) i5 i6 i7 i8 b9 i10 i11 x0 i13 (n0 + 1) (c15 ++ [(PV.int .i64 i10), (PV.int .i64 i11), (PV.int .i64 (0 : Int))]))
              else none
            else bif b9 then
              bif (decide (((0 : Int) ≤ (w64 ((n0 : Int) - (1 : Int)))) ∧ ((w64 ((n0 : Int) - (1 : Int))) < (n0 : Int)))) then
                bif (decide (n14 = n0)) then
                  bindO (Gv.overO c15 (((Int.toNat (w64 ((n0 : Int) - (1 : Int)))) * 3) + 2) [(PV.int .i64 (w64 (x0 + i8)))]) fun x122 =>
                  N (TalOf_0b n0 n1 c2 i3 (w64 (i4 + (1 : Int))) i5 i6 i7 i8 b9 i10 i11 x0 i13 n0 x122)
                else none
              else none
            else N (TalOf_0b n0 n1 c2 i3 (w64 (i4 + (1 : Int))) i5 i6 i7 i8 b9 i10 i11 x0 i13 n14 c15)
          else bif (decide (x1 ≥ i5)) then
            bif (decide ((n14 = n0) ∧ ((n0 + 1) ≤ big))) then
              bif (decide (((0 : Int) ≤ (w64 (((n0 + 1) : Int) - (1 : Int)))) ∧ ((w64 (((n0 + 1) : Int) - (1 : Int))) < ((n0 + 1) : Int)))) then
                bif (decide ((n0 + 1) = (n0 + 1))) then
                  bindO (Gv.overO (c15 ++ [(PV.int .i64 (w64 (i10 + (1 : Int)))), (PV.int .i64 x0), (PV.int .i64 (0 : Int))]) (((Int.toNat (w64 (((n0 + 1) : Int) - (1 : Int)))) * 3) + 2) [(PV.int .i64 (w64 (x0 + i8)))]) fun x123 =>
                  N (TalOf_0b (n0 + 1) n1 c2 i3 (w64 (i4 + (1 : Int))) i5 i6 i7 i8 true (w64 (i10 + (1 : Int))) x0 x0 i13 (n0 + 1) x123)
                else none
              else none
            else none
          else bif b9 then
            bif (decide ((n14 = n0) ∧ ((n0 + 1) ≤ big))) then
              bif b9 then
                bif (decide (((0 : Int) ≤ (w64 (((n0 + 1) : Int) - (1 : Int)))) ∧ ((w64 (((n0 + 1) : Int) - (1 : Int))) < ((n0 + 1) : Int)))) then
                  bif (decide ((n0 + 1) = (n0 + 1))) then
                    bindO (Gv.overO (c15 ++ [(PV.int .i64 i10), (PV.int .i64 i11), (PV.int .i64 (0 : Int))]) (((Int.toNat (w64 (((n0 + 1) : Int) - (1 : Int)))) * 3) + 2) [(PV.int .i64 (w64 (x0 + i8)))]) fun x124 =>
                    N (TalOf_0b (n0 + 1) n1 c2 i3 (w64 (i4 + (1 : Int))) i5 i6 i7 i8 b9 i10 i11 x0 i13 (n0 + 1) x124)
                  else none
                else none
              else N (TalOf_0b (n0 + 1) n1 c2 i3 (w64 (i4 + (1 : Int))) i5 i6 i7 i8 b9 i10 i11 x0 i13 (n0 + 1) (c15 ++ [(PV.int .i64 i10), (PV.int .i64 i11), (PV.int .i64 (0 : Int))]))
            else none
          else bif b9 then
            bif (decide (((0 : Int) ≤ (w64 ((n0 : Int) - (1 : Int)))) ∧ ((w64 ((n0 : Int) - (1 : Int))) < (n0 : Int)))) then
              bif (decide (n14 = n0)) then
                bindO (Gv.overO c15 (((Int.toNat (w64 ((n0 : Int) - (1 : Int)))) * 3) + 2) [(PV.int .i64 (w64 (x0 + i8)))]) fun x125 =>
                N (TalOf_0b n0 n1 c2 i3 (w64 (i4 + (1 : Int))) i5 i6 i7 i8 b9 i10 i11 x0 i13 n0 x125)
              else none
            else none
          else N (TalOf_0b n0 n1 c2 i3 (w64 (i4 + (1 : Int))) i5 i6 i7 i8 b9 i10 i11 x0 i13 n14 c15)
        else bif b9 then
          bif b9 then
            bif (decide ((n14 = n0) ∧ ((n0 + 1) ≤ big))) then
              bif b9 then
                bif (decide (((0 : Int) ≤ (w64 (((n0 + 1) : Int) - (1 : Int)))) ∧ ((w64 (((n0 + 1) : Int) - (1 : Int))) < ((n0 + 1) : Int)))) then
                  bif (decide ((n0 + 1) = (n0 + 1))) then
                    bindO (Gv.overO (c15 ++ [(PV.int .i64 i10), (PV.int .i64 i11), (PV.int .i64 (0 : Int))]) (((Int.toNat (w64 (((n0 + 1) : Int) - (1 : Int)))) * 3) + 2) [(PV.int .i64 (w64 (x0 + i8)))]) fun x126 =>
                    N (TalOf_0b (n0 + 1) n1 c2 i3 (w64 (i4 + (1 : Int))) i5 i6 i7 i8 b9 i10 i11 x0 i13 (n0 + 1) x126)
                  else none
                else none
              else N (TalOf_0b (n0 + 1) n1 c2 i3 (w64 (i4 + (1 : Int))) i5 i6 i7 i8 b9 i10 i11 x0 i13 (n0 + 1) (c15 ++ [(PV.int .i64 i10), (PV.int .i64 i11), (PV.int .i64 (0 : Int))]))
            else none
          else bif b9 then
            bif (decide (((0 : Int) ≤ (w64 ((n0 : Int) - (1 : Int)))) ∧ ((w64 ((n0 : Int) - (1 : Int))) < (n0 : Int)))) then
              bif (decide (n14 = n0)) then
                bindO (Gv.overO c15 (((Int.toNat (w64 ((n0 : Int) - (1 : Int)))) * 3) + 2) [(PV.int .i64 (w64 (x0 + i8)))]) fun x127 =>
                N (TalOf_0b n0 n1 c2 i3 (w64 (i4 + (1 : Int))) i5 i6 i7 i8 b9 i10 i11 x0 i13 n0 x127)
              else none
            else none
          else N (TalOf_0b n0 n1 c2 i3 (w64 (i4 + (1 : Int))) i5 i6 i7 i8 b9 i10 i11 x0 i13 n14 c15)
        else bif (decide (x1 ≥ i5)) then
          bif (decide ((n14 = n0) ∧ ((n0 + 1) ≤ big))) then
            bif (decide (((0 : Int) ≤ (w64 (((n0 + 1) : Int) - (1 : Int)))) ∧ ((w64 (((n0 + 1) : Int) - (1 : Int))) < ((n0 + 1) : Int)))) then
              bif (decide ((n0 + 1) = (n0 + 1))) then
                bindO (Gv.overO (c15 ++ [(PV.int .i64 (w64 (i10 + (1 : Int)))), (PV.int .i64 x0), (PV.int .i64 (0 : Int))]) (((Int.toNat (w64 (((n0 + 1) : Int) - (1 : Int)))) * 3) + 2) [(PV.int .i64 (w64 (x0 + i8)))]) fun x128 =>
                N (TalOf_0b (n0 + 1) n1 c2 i3 (w64 (i4 + (1 : Int))) i5 i6 i7 i8 true (w64 (i10 + (1 : Int))) x0 x0 i13 (n0 + 1) x128)
              else none
            else none
          else none
        else bif b9 then
          bif (decide ((n14 = n0) ∧ ((n0 + 1) ≤ big))) then
            bif b9 then
              bif (decide (((0 : Int) ≤ (w64 (((n0 + 1) : Int) - (1 : Int)))) ∧ ((w64 (((n0 + 1) : Int) - (1 : Int))) < ((n0 + 1) : Int)))) then
                bif (decide ((n0 + 1) = (n0 + 1))) then
                  bindO (Gv.overO (c15 ++ [(PV.int .i64 i10), (PV.int .i64 i11), (PV.int .i64 (0 : Int))]) (((Int.toNat (w64 (((n0 + 1) : Int) - (1 : Int)))) * 3) + 2) [(PV.int .i64 (w64 (x0 + i8)))]) fun x129 =>
                  N (TalOf_0b (n0 + 1) n1 c2 i3 (w64 (i4 + (1 : Int))) i5 i6 i7 i8 b9 i10 i11 x0 i13 (n0 + 1) x129)
                else none
              else none
            else N (TalOf_0b (n0 + 1) n1 c2 i3 (w64 (i4 + (1 : Int))) i5 i6 i7 i8 b9 i10 i11 x0 i13 (n0 + 1) (c15 ++ [(PV.int .i64 i10), (PV.int .i64 i11), (PV.int .i64 (0 : Int))]))
          else none
        else bif b9 then
          bif (decide (((0 : Int) ≤ (w64 ((n0 : Int) - (1 : Int)))) ∧ ((w64 ((n0 : Int) - (1 : Int))) < (n0 : Int)))) then
            bif (decide (n14 = n0)) then
              bindO (Gv.overO c15 (((Int.toNat (w64 ((n0 : Int) - (1 : Int)))) * 3) + 2) [(PV.int .i64 (w64 (x0 + i8)))]) fun x130 =>
              N (TalOf_0b n0 n1 c2 i3 (w64 (i4 + (1 : Int))) i5 i6 i7 i8 b9 i10 i11 x0 i13 n0 x130)
            else none
          else none
        else N (TalOf_0b n0 n1 c2 i3 (w64 (i4 + (1 : Int))) i5 i6 i7 i8 b9 i10 i11 x0 i13 n14 c15)
      else bif b9 then
        bif b9 then
          bif (decide ((w64 (x0 - i12)) > i8)) then
            bif (decide (x1 ≥ i5)) then
              bif (decide (((0 : Int) ≤ (w64 ((n0 : Int) - (1 : Int)))) ∧ ((w64 ((n0 : Int) - (1 : Int))) < (n0 : Int)))) then
                bif (decide (n14 = n0)) then
                  bindO (Gv.overO c15 (((Int.toNat (w64 ((n0 : Int) - (1 : Int)))) * 3) + 2) [(PV.int .i64 (w64 (x0 + i8)))]) fun x131 =>
                  N (TalOf_0b n0 n1 c2 i3 (w64 (i4 + (1 : Int))) i5 i6 i7 i8 true (w64 (i10 + (1 : Int))) x0 x0 (-1 : Int) n0 x131)
                else none
              else none
            else bif (decide (((0 : Int) ≤ (w64 ((n0 : Int) - (1 : Int)))) ∧ ((w64 ((n0 : Int) - (1 : Int))) < (n0 : Int)))) then
              bif (decide (n14 = n0)) then
                bindO (Gv.overO c15 (((Int.toNat (w64 ((n0 : Int) - (1 : Int)))) * 3) + 2) [(PV.int .i64 (w64 (x0 - (1 : Int))))]) fun x132 =>
                N (TalOf_0b n0 n1 c2 i3 (w64 (i4 + (1 : Int))) i5 i6 i7 i8 false i10 (0 : Int) x0 (-1 : Int) n0 x132)
              else none
            else none
          else bif b9 then
            bif (decide (x2 ≥ i6)) then
              bif b9 then
                bif b9 then
                  bif b9 then
                    bif (decide (((0 : Int) ≤ (w64 ((n0 : Int) - (1 : Int)))) ∧ ((w64 ((n0 : Int) - (1 : Int))) < (n0 : Int)))) then
                      bif (decide (n14 = n0)) then
                        bindO (Gv.overO c15 (((Int.toNat (w64 ((n0 : Int) - (1 : Int)))) * 3) + 2) [(PV.int .i64 (w64 (x0 + i8)))]) fun x133 =>
                        N (TalOf_0b n0 n1 c2 i3 (w64 (i4 + (1 : Int))) i5 i6 i7 i8 b9 i10 i11 x0 (-1 : Int) n0 x133)
                      else none
                    else none
                  else bif (decide (((0 : Int) ≤ (w64 ((n0 : Int) - (1 : Int)))) ∧ ((w64 ((n0 : Int) - (1 : Int))) < (n0 : Int)))) then
                    bif (decide (n14 = n0)) then
                      bindO (Gv.overO c15 (((Int.toNat (w64 ((n0 : Int) - (1 : Int)))) * 3) + 2) [(PV.int .i64 (w64 (x0 - (1 : Int))))]) fun x134 =>
                      N (TalOf_0b n0 n1 c2 i3 (w64 (i4 + (1 : Int))) i5 i6 i7 i8 b9 i10 i11 x0 (-1 : Int) n0 x134)
                    else none
                  else none
                else bif b9 then
                  bif (decide (((0 : Int) ≤ (w64 ((n0 : Int) - (1 : Int)))) ∧ ((w64 ((n0 : Int) - (1 : Int))) < (n0 : Int)))) then
                    bif (decide (n14 = n0)) then
                      bindO (Gv.overO c15 (((Int.toNat (w64 ((n0 : Int) - (1 : Int)))) * 3) + 2) [(PV.int .i64 (w64 (x0 + i8)))]) fun x135 =>
                      N (TalOf_0b n0 n1 c2 i3 (w64 (i4 + (1 : Int))) i5 i6 i7 i8 b9 i10 i11 x0 (-1 : Int) n0 x135)
                    else none
                  else none
                else bif (decide (((0 : Int) ≤ (w64 ((n0 : Int) - (1 : Int)))) ∧ ((w64 ((n0 : Int) - (1 : Int))) < (n0 : Int)))) then
                  bif (decide (n14 = n0)) then
                    bindO (Gv.overO c15 (((Int.toNat (w64 ((n0 : Int) - (1 : Int)))) * 3) + 2) [(PV.int .i64 (w64 (x0 - (1 : Int))))]) fun x136 =>
                    N (TalOf_0b n0 n1 c2 i3 (w64 (i4 + (1 : Int))) i5 i6 i7 i8 b9 i10 i11 x0 (-1 : Int) n0 x136)
                  else none
                else none
              else bif (decide (x1 ≥ i5)) then
                bif (decide (((0 : Int) ≤ (w64 ((n0 : Int) - (1 : Int)))) ∧ ((w64 ((n0 : Int) - (1 : Int))) < (n0 : Int)))) then
                  bif (decide (n14 = n0)) then
                    bindO (Gv.overO c15 (((Int.toNat (w64 ((n0 : Int) - (1 : Int)))) * 3) + 2) [(PV.int .i64 (w64 (x0 + i8)))]) fun x137 =>
                    N (TalOf_0b n0 n1 c2 i3 (w64 (i4 + (1 : Int))) i5 i6 i7 i8 true (w64 (i10 + (1 : Int))) x0 x0 (-1 : Int) n0 x137)
                  else none
                else none
              else bif b9 then
                bif b9 then
                  bif (decide (((0 : Int) ≤ (w64 ((n0 : Int) - (1 : Int)))) ∧ ((w64 ((n0 : Int) - (1 : Int))) < (n0 : Int)))) then
                    bif (decide (n14 = n0)) then
                      bindO (Gv.overO c15 (((Int.toNat (w64 ((n0 : Int) - (1 : Int)))) * 3) + 2) [(PV.int .i64 (w64 (x0 + i8)))]) fun x138 =>
                      N (TalOf_0b n0 n1 c2 i3 (w64 (i4 + (1 : Int))) i5 i6 i7 i8 b9 i10 i11 x0 (-1 : Int) n0 x138)
                    else none
                  else none
                else bif (decide (((0 : Int) ≤ (w64 ((n0 : Int) - (1 : Int)))) ∧ ((w64 ((n0 : Int) - (1 : Int))) < (n0 : Int)))) then
                  bif (decide (n14 = n0)) then
                    bindO (Gv.overO c15 (((Int.toNat (w64 ((n0 : Int) - (1 : Int)))) * 3) + 2) [(PV.int .i64 (w64 (x0 - (1 : Int))))]) fun x139 =>
                    N (TalOf_0b n0 n1 c2 i3 (w64 (i4 + (1 : Int))) i5 i6 i7 i8 b9 i10 i11 x0 (-1 : Int) n0 x139)
                  else none
                else none
              else bif b9 then
                bif (decide (((0 : Int) ≤ (w64 ((n0 : Int) - (1 : Int)))) ∧ ((w64 ((n0 : Int) - (1 : Int))) < (n0 : Int)))) then
                  bif (decide (n14 = n0)) then
                    bindO (Gv.overO c15 (((Int.toNat (w64 ((n0 : Int) - (1 : Int)))) * 3) + 2) [(PV.int .i64 (w64 (x0 + i8)))]) fun x140 =>
                    N (TalOf_0b n0 n1 c2 i3 (w64 (i4 + (1 : Int))) i5 i6 i7 i8 b9 i10 i11 x0 (-1 : Int) n0 x140)
                  else none
                else none
              else bif (decide (((0 : Int) ≤ (w64 ((n0 : Int) - (1 : Int)))) ∧ ((w64 ((n0 : Int) - (1 : Int))) < (n0 : Int)))) then
                bif (decide (n14 = n0)) then
                  bindO (Gv.overO c15 (((Int.toNat (w64 ((n0 : Int) - (1 : Int)))) * 3) + 2) [(PV.int .i64 (w64 (x0 - (1 : Int))))]) fun x141 =>
                  N (TalOf_0b n0 n1 c2 i3 (w64 (i4 + (1 : Int))) i5 i6 i7 i8 b9 i10 i11 x0 (-1 : Int) n0 x141)
                else none
              else none
            else bif (i13 == (-1 : Int)) then
              bif (decide ((w64 (x0 - x0)) ≥ i7)) then
                bif (decide (x1 ≥ i5)) then
                  bif (decide (((0 : Int) ≤ (w64 ((n0 : Int) - (1 : Int)))) ∧ ((w64 ((n0 : Int) - (1 : Int))) < (n0 : Int)))) then
                    bif (decide (n14 = n0)) then
                      bindO (Gv.overO c15 (((Int.toNat (w64 ((n0 : Int) - (1 : Int)))) * 3) + 2) [(PV.int .i64 (w64 (x0 + i8)))]) fun x142 =>
                      N (TalOf_0b n0 n1 c2 i3 (w64 (i4 + (1 : Int))) i5 i6 i7 i8 true (w64 (i10 + (1 : Int))) x0 x0 (-1 : Int) n0 x142)
                    else none
                  else none
                else bif (decide (((0 : Int) ≤ (w64 ((n0 : Int) - (1 : Int)))) ∧ ((w64 ((n0 : Int) - (1 : Int))) < (n0 : Int)))) then
                  bif (decide (n14 = n0)) then
                    bindO (Gv.overO c15 (((Int.toNat (w64 ((n0 : Int) - (1 : Int)))) * 3) + 2) [(PV.int .i64 (w64 (x0 - (1 : Int))))]) fun x143 =>
                    N (TalOf_0b n0 n1 c2 i3 (w64 (i4 + (1 : Int))) i5 i6 i7 i8 false i10 (0 : Int) x0 (-1 : Int) n0 x143)
                  else none
                else none
              else bif b9 then
                bif b9 then
                  bif b9 then
                    bif (decide (((0 : Int) ≤ (w64 ((n0 : Int) - (1 : Int)))) ∧ ((w64 ((n0 : Int) - (1 : Int))) < (n0 : Int)))) then
                      bif (decide (n14 = n0)) then
                        bindO (Gv.overO c15 (((Int.toNat (w64 ((n0 : Int) - (1 : Int)))) * 3) + 2) [(PV.int .i64 (w64 (x0 + i8)))]) fun x144 =>
                        N (TalOf_0b n0 n1 c2 i3 (w64 (i4 + (1 : Int))) i5 i6 i7 i8 b9 i10 i11 x0 x0 n0 x144)
                      else none
                    else none
                  else bif (decide (((0 : Int) ≤ (w64 ((n0 : Int) - (1 : Int)))) ∧ ((w64 ((n0 : Int) - (1 : Int))) < (n0 : Int)))) then
                    bif (decide (n14 = n0)) then
                      bindO (Gv.overO c15 (((Int.toNat (w64 ((n0 : Int) - (1 : Int)))) * 3) + 2) [(PV.int .i64 (w64 (x0 - (1 : Int))))]) fun x145 =>
                      N (TalOf_0b n0 n1 c2 i3 (w64 (i4 + (1 : Int))) i5 i6 i7 i8 b9 i10 i11 x0 x0 n0 x145)
                    else none
                  else none
                else bif b9 then
                  bif (decide (((0 : Int) ≤ (w64 ((n0 : Int) - (1 : Int)))) ∧ ((w64 ((n0 : Int) - (1 : Int))) < (n0 : Int)))) then
                    bif (decide (n14 = n0)) then
                      bindO (Gv.overO c15 (((Int.toNat (w64 ((n0 : Int) - (1 : Int)))) * 3) + 2) [(PV.int .i64 (w64 (x0 + i8)))]) fun x146 =>
                      N (TalOf_0b n0 n1 c2 i3 (w64 (i4 + (1 : Int))) i5 i6 i7 i8 b9 i10 i11 x0 x0 n0 x146)
                    else none
                  else none
                else bif (decide (((0 : Int) ≤ (w64 ((n0 : Int) - (1 : Int)))) ∧ ((w64 ((n0 : Int) - (1 : Int))) < (n0 : Int)))) then
                  bif (decide (n14 = n0)) then
                    bindO (Gv.overO c15 (((Int.toNat (w64 ((n0 : Int) - (1 : Int)))) * 3) + 2) [(PV.int .i64 (w64 (x0 - (1 : Int))))]) fun x147 =>
                    N (TalOf_0b n0 n1 c2 i3 (w64 (i4 + (1 : Int))) i5 i6 i7 i8 b9 i10 i11 x0 x0 n0 x147)
                  else none
                else none
              else bif (decide (x1 ≥ i5)) then
                bif (decide (((0 : Int) ≤ (w64 ((n0 : Int) - (1 : Int)))) ∧ ((w64 ((n0 : Int) - (1 : Int))) < (n0 : Int)))) then
                  bif (decide (n14 = n0)) then
                    bindO (Gv.overO c15 (((Int.toNat (w64 ((n0 : Int) - (1 : Int)))) * 3) + 2) [(PV.int .i64 (w64 (x0 + i8)))]) fun x148 =>
                    N (TalOf_0b n0 n1 c2 i3 (w64 (i4 + (1 : Int))) i5 i6 i7 i8 true (w64 (i10 + (1 : Int))) x0 x0 x0 n0 x148)
                  else none
                else none
              else bif b9 then
                bif b9 then
                  bif (decide (((0 : Int) ≤ (w64 ((n0 : Int) - (1 : Int)))) ∧ ((w64 ((n0 : Int) - (1 : Int))) < (n0 : Int)))) then
                    bif (decide (n14 = n0)) then
                      bindO (Gv.overO c15 (((Int.toNat (w64 ((n0 : Int) - (1 : Int)))) * 3) + 2) [(PV.int .i64 (w64 (x0 + i8)))]) fun x149 =>
                      N (TalOf_0b n0 n1 c2 i3 (w64 (i4 + (1 : Int))) i5 i6 i7 i8 b9 i10 i11 x0 x0 n0 x149)
                    else none
                  else none
                else bif (decide (((0 : Int) ≤ (w64 ((n0 : Int) - (1 : Int)))) ∧ ((w64 ((n0 : Int) - (1 : Int))) < (n0 : Int)))) then
                  bif (decide (n14 = n0)) then
                    bindO (Gv.overO c15 (((Int.toNat (w64 ((n0 : Int) - (1 : Int)))) * 3) + 2) [(PV.int .i64 (w64 (x0 - (1 : Int))))]) fun x150 =>
                    N (TalOf_0b n0 n1 c2 i3 (w64 (i4 + (1 : Int))) i5 i6 i7 i8 b9 i10 i11 x0 x0 n0 x150)
                  else none
                else none
              else bif b9 then
                bif (decide (((0 : Int) ≤ (w64 ((n0 : Int) - (1 : Int)))) ∧ ((w64 ((n0 : Int) - (1 : Int))) < (n0 : Int)))) then
                  bif (decide (n14 = n0)) then
                    bindO (Gv.overO c15 (((Int.toNat (w64 ((n0 : Int) - (1 : Int)))) * 3) + 2) [(PV.int .i64 (w64 (x0 + i8)))]) fun x151 =>
                    N (TalOf_0b n0 n1 c2 i3 (w64 (i4 + (1 : Int))) i5 i6 i7 i8 b9 i10 i11 x0 x0 n0 x151)
                  else none
                else none
              else bif (decide (((0 : Int) ≤ (w64 ((n0 : Int) - (1 : Int)))) ∧ ((w64 ((n0 : Int) - (1 : Int))) < (n0 : Int)))) then
                bif (decide (n14 = n0)) then
                  bindO (Gv.overO c15 (((Int.toNat (w64 ((n0 : Int) - (1 : Int)))) * 3) + 2) [(PV.int .i64 (w64 (x0 - (1 : Int))))]) fun x152 =>
                  N (TalOf_0b n0 n1 c2 i3 (w64 (i4 + (1 : Int))) i5 i6 i7 i8 b9 i10 i11 x0 x0 n0 x152)
                else none
              else none
            else bif (decide ((w64 (x0 - i13)) ≥ i7)) then
              bif (decide (x1 ≥ i5)) then
                bif (decide (((0 : Int) ≤ (w64 ((n0 : Int) - (1 : Int)))) ∧ ((w64 ((n0 : Int) - (1 : Int))) < (n0 : Int)))) then
                  bif (decide (n14 = n0)) then
                    bindO (Gv.overO c15 (((Int.toNat (w64 ((n0 : Int) - (1 : Int)))) * 3) + 2) [(PV.int .i64 (w64 (x0 + i8)))]) fun x153 =>
                    N (TalOf_0b n0 n1 c2 i3 (w64 (i4 + (1 : Int))) i5 i6 i7 i8 true (w64 (i10 + (1 : Int))) x0 x0 (-1 : Int) n0 x153)
                  else none
                else none
              else bif (decide (((0 : Int) ≤ (w64 ((n0 : Int) - (1 : Int)))) ∧ ((w64 ((n0 : Int) - (1 : Int))) < (n0 : Int)))) then
                bif (decide (n14 = n0)) then
                  bindO (Gv.overO c15 (((Int.toNat (w64 ((n0 : Int) - (1 : Int)))) * 3) + 2) [(PV.int .i64 (w64 (x0 - (1 : Int))))]) fun x154 =>
                  N (TalOf_0b n0 n1 c2 i3 (w64 (i4 + (1 : Int))) i5 i6 i7 i8 false i10 (0 : Int) x0 (-1 : Int) n0 x154)
                else none
              else none
            else bif b9 then
              bif b9 then
                bif b9 then
                  bif (decide (((0 : Int) ≤ (w64 ((n0 : Int) - (1 : Int)))) ∧ ((w64 ((n0 : Int) - (1 : Int))) < (n0 : Int)))) then
                    bif (decide (n14 = n0)) then
                      bindO (Gv.overO c15 (((Int.toNat (w64 ((n0 : Int) - (1 : Int)))) * 3) + 2) [(PV.int .i64 (w64 (x0 + i8)))]) fun x155 =>
                      N (TalOf_0b n0 n1 c2 i3 (w64 (i4 + (1 : Int))) i5 i6 i7 i8 b9 i10 i11 x0 i13 n0 x155)
                    else none
                  else none
                else bif (decide (((0 : Int) ≤ (w64 ((n0 : Int) - (1 : Int)))) ∧ ((w64 ((n0 : Int) - (1 : Int))) < (n0 : Int)))) then
                  bif (decide (n14 = n0)) then
                    bindO (Gv.overO c15 (((Int.toNat (w64 ((n0 : Int) - (1 : Int)))) * 3) + 2) [(PV.int .i64 (w64 (x0 - (1 : Int))))]) fun x156 =>
                    N (TalOf_0b n0 n1 c2 i3 (w64 (i4 + (1 : Int))) i5 i6 i7 i8 b9 i10 i11 x0 i13 n0 x156)
                  else none
                else none
              else bif b9 then
                bif (decide (((0 : Int) ≤ (w64 ((n0 : Int) - (1 : Int)))) ∧ ((w64 ((n0 : Int) - (1 : Int))) < (n0 : Int)))) then
                  bif (decide (n14 = n0)) then
                    bindO (Gv.overO c15 (((Int.toNat (w64 ((n0 : Int) - (1 : Int)))) * 3) + 2) [(PV.int .i64 (w64 (x0 + i8)))]) fun x157 =>
                    N (TalOf_0b n0 n1 c2 i3 (w64 (i4 + (1 : Int))) i5 i6 i7 i8 b9 i10 i11 x0 i13 n0 x157)
                  else none
                else none
              else bif (decide (((0 : Int) ≤ (w64 ((n0 : Int) - (1 : Int)))) ∧ ((w64 ((n0 : Int) - (1 : Int))) < (n0 : Int)))) then
                bif (decide (n14 = n0)) then
                  bindO (Gv.overO c15 (((Int.toNat (w64 ((n0 : Int) - (1 : Int)))) * 3) + 2) [(PV.int .i64 (w64 (x0 - (1 : Int))))]) fun x158 =>
                  N (TalOf_0b n0 n1 c2 i3 (w64 (i4 + (1 : Int))) i5 i6 i7 i8 b9 i10 i11 x0 i13 n0 x158)
                else none
              else none
            else bif (decide (x1 ≥ i5)) then
              bif (decide (((0 : Int) ≤ (w64 ((n0 : Int) - (1 : Int)))) ∧ ((w64 ((n0 : Int) - (1 : Int))) < (n0 : Int)))) then
                bif (decide (n14 = n0)) then
                  bindO (Gv.overO c15 (((Int.toNat (w64 ((n0 : Int) - (1 : Int)))) * 3) + 2) [(PV.int .i64 (w64 (x0 + i8)))]) fun x159 =>
                  N (TalOf_0b n0 n1 c2 i3 (w64 (i4 + (1 : Int))) i5 i6 i7 i8 true (w64 (i10 + (1 : Int))) x0 x0 i13 n0 x159)
                else none
              else none
            else bif b9 then
              bif b9 then
                bif (decide (((0 : Int) ≤ (w64 ((n0 : Int) - (1 : Int)))) ∧ ((w64 ((n0 : Int) - (1 : Int))) < (n0 : Int)))) then
                  bif (decide (n14 = n0)) then
                    bindO (Gv.overO c15 (((Int.toNat (w64 ((n0 : Int) - (1 : Int)))) * 3) + 2) [(PV.int .i64 (w64 (x0 + i8)))]) fun x160 =>
                    N (TalOf_0b n0 n1 c2 i3 (w64 (i4 + (1 : Int))) i5 i6 i7 i8 b9 i10 i11 x0 i13 n0 x160)
                  else none
                else none
              else bif (decide (((0 : Int) ≤ (w64 ((n0 : Int) - (1 : Int)))) ∧ ((w64 ((n0 : Int) - (1 : Int))) < (n0 : Int)))) then
                bif (decide (n14 = n0)) then
                  bindO (Gv.overO c15 (((Int.toNat (w64 ((n0 : Int) - (1 : Int)))) * 3) + 2) [(PV.int .i64 (w64 (x0 - (1 : Int))))]) fun x161 =>
                  N (TalOf_0b n0 n1 c2 i3 (w64 (i4 + (1 : Int))) i5 i6 i7 i8 b9 i10 i11 x0 i13 n0 x161)
                else none
              else none
            else bif b9 then
              bif (decide (((0 : Int) ≤ (w64 ((n0 : Int) - (1 : Int)))) ∧ ((w64 ((n0 : Int) - (1 : Int))) < (n0 : Int)))) then
                bif (decide (n14 = n0)) then
                  bindO (Gv.overO c15 (((Int.toNat (w64 ((n0 : Int) - (1 : Int)))) * 3) + 2) [(PV.int .i64 (w64 (x0 + i8)))]) fun x162 =>
                  N (TalOf_0b n0 n1 c2 i3 (w64 (i4 + (1 : Int))) i5 i6 i7 i8 b9 i10 i11 x0 i13 n0 x162)
                else none
              else none
            else bif (decide (((0 : Int) ≤ (w64 ((n0 : Int) - (1 : Int)))) ∧ ((w64 ((n0 : Int) - (1 : Int))) < (n0 : Int)))) then
              bif (decide (n14 = n0)) then
                bindO (Gv.overO c15 (((Int.toNat (w64 ((n0 : Int) - (1 : Int)))) * 3) + 2) [(PV.int .i64 (w64 (x0 - (1 : Int))))]) fun x163 =>
                N (TalOf_0b n0 n1 c2 i3 (w64 (i4 + (1 : Int))) i5 i6 i7 i8 b9 i10 i11 x0 i13 n0 x163)
              else none
            else none
          else bif b9 then
            bif b9 then
              bif b9 then
                bif (decide (((0 : Int) ≤ (w64 ((n0 : Int) - (1 : Int)))) ∧ ((w64 ((n0 : Int) - (1 : Int))) < (n0 : Int)))) then
                  bif (decide (n14 = n0)) then
                    bindO (Gv.overO c15 (((Int.toNat (w64 ((n0 : Int) - (1 : Int)))) * 3) + 2) [(PV.int .i64 (w64 (x0 + i8)))]) fun x164 =>
                    N (TalOf_0b n0 n1 c2 i3 (w64 (i4 + (1 : Int))) i5 i6 i7 i8 b9 i10 i11 x0 i13 n0 x164)
                  else none
                else none
              else bif (decide (((0 : Int) ≤ (w64 ((n0 : Int) - (1 : Int)))) ∧ ((w64 ((n0 : Int) - (1 : Int))) < (n0 : Int)))) then
                bif (decide (n14 = n0)) then
                  bindO (Gv.overO c15 (((Int.toNat (w64 ((n0 : Int) - (1 : Int)))) * 3) + 2) [(PV.int .i64 (w64 (x0 - (1 : Int))))]) fun x165 =>
                  N (TalOf_0b n0 n1 c2 i3 (w64 (i4 + (1 : Int))) i5 i6 i7 i8 b9 i10 i11 x0 i13 n0 x165)
                else none
              else none
            else bif b9 then
              bif (decide (((0 : Int) ≤ (w64 ((n0 : Int) - (1 : Int)))) ∧ ((w64 ((n0 : Int) - (1 : Int))) < (n0 : Int)))) then
                bif (decide (n14 = n0)) then
                  bindO (Gv.overO c15 (((Int.toNat (w64 ((n0 : Int) - (1 : Int)))) * 3) + 2) [(PV.int .i64 (w64 (x0 + i8)))]) fun x166 =>
                  N (TalOf_0b n0 n1 c2 i3 (w64 (i4 + (1 : Int))) i5 i6 i7 i8 b9 i10 i11 x0 i13 n0 x166)
                else none
              else none
            else bif (decide (((0 : Int) ≤ (w64 ((n0 : Int) - (1 : Int)))) ∧ ((w64 ((n0 : Int) - (1 : Int))) < (n0 : Int)))) then
              bif (decide (n14 = n0)) then
                bindO (Gv.overO c15 (((Int.toNat (w64 ((n0 : Int) - (1 : Int)))) * 3) + 2) [(PV.int .i64 (w64 (x0 - (1 : Int))))]) fun x167 =>
                N (TalOf_0b n0 n1 c2 i3 (w64 (i4 + (1 : Int))) i5 i6 i7 i8 b9 i10 i11 x0 i13 n0 x167)
              else none
            else none
          else bif (decide (x1 ≥ i5)) then
            bif (decide (((0 : Int) ≤ (w64 ((n0 : Int) - (1 : Int)))) ∧ ((w64 ((n0 : Int) - (1 : Int))) < (n0 : Int)))) then
              bif (decide (n14 = n0)) then
                bindO (Gv.overO c15 (((Int.toNat (w64 ((n0 : Int) - (1 : Int)))) * 3) + 2) [(PV.int .i64 (w64 (x0 + i8)))]) fun x168 =>
                N (TalOf_0b n0 n1 c2 i3 (w64 (i4 + (1 : Int))) i5 i6 i7 i8 true (w64 (i10 + (1 : Int))) x0 x0 i13 n0 x168)
              else none
            else none
          else bif b9 then
            bif b9 then
              bif (decide (((0 : Int) ≤ (w64 ((n0 : Int) - (1 : Int)))) ∧ ((w64 ((n0 : Int) - (1 : Int))) < (n0 : Int)))) then
                bif (decide (n14 = n0)) then
                  bindO (Gv.overO c15 (((Int.toNat (w64 ((n0 : Int) - (1 : Int)))) * 3) + 2) [(PV.int .i64 (w64 (x0 + i8)))]) fun x169 =>
                  N (TalOf_0b n0 n1 c2 i3 (w64 (i4 + (1 : Int))) i5 i6 i7 i8 b9 i10 i11 x0 i13 n0 x169)
                else none
              else none
            else bif (decide (((0 : Int) ≤ (w64 ((n0 : Int) - (1 : Int)))) ∧ ((w64 ((n0 : Int) - (1 : Int))) < (n0 : Int)))) then
              bif (decide (n14 = n0)) then
                bindO (Gv.overO c15 (((Int.toNat (w64 ((n0 : Int) - (1 : Int)))) * 3) + 2) [(PV.int .i64 (w64 (x0 - (1 : Int))))]) fun x170 =>
                N (TalOf_0b n0 n1 c2 i3 (w64 (i4 + (1 : Int))) i5 i6 i7 i8 b9 i10 i11 x0 i13 n0 x170)
              else none
            else none
          else bif b9 then
            bif (decide (((0 : Int) ≤ (w64 ((n0 : Int) - (1 : Int)))) ∧ ((w64 ((n0 : Int) - (1 : Int))) < (n0 : Int)))) then
              bif (decide (n14 = n0)) then
                bindO (Gv.overO c15 (((Int.toNat (w64 ((n0 : Int) - (1 : Int)))) * 3) + 2) [(PV.int .i64 (w64 (x0 + i8)))]) fun x171 =>
                N (TalOf_0b n0 n1 c2 i3 (w64 (i4 + (1 : Int))) i5 i6 i7 i8 b9 i10 i11 x0 i13 n0 x171)
              else none
            else none
          else bif (decide (((0 : Int) ≤ (w64 ((n0 : Int) - (1 : Int)))) ∧ ((w64 ((n0 : Int) - (1 : Int))) < (n0 : Int)))) then
            bif (decide (n14 = n0)) then
              bindO (Gv.overO c15 (((Int.toNat (w64 ((n0 : Int) - (1 : Int)))) * 3) + 2) [(PV.int .i64 (w64 (x0 - (1 : Int))))]) fun x172 =>
              N (TalOf_0b n0 n1 c2 i3 (w64 (i4 + (1 : Int))) i5 i6 i7 i8 b9 i10 i11 x0 i13 n0 x172)
            else none
          else none
        else bif b9 then
          bif (decide (x2 ≥ i6)) then
            bif b9 then
              bif b9 then
                bif b9 then
                  bif (decide (((0 : Int) ≤ (w64 ((n0 : Int) - (1 : Int)))) ∧ ((w64 ((n0 : Int) - (1 : Int))) < (n0 : Int)))) then
                    bif (decide (n14 = n0)) then
                      bindO (Gv.overO c15 (((Int.toNat (w64 ((n0 : Int) - (1 : Int)))) * 3) + 2) [(PV.int .i64 (w64 (x0 + i8)))]) fun x173 =>
                      N (TalOf_0b n0 n1 c2 i3 (w64 (i4 + (1 : Int))) i5 i6 i7 i8 b9 i10 i11 x0 (-1 : Int) n0 x173)
                    else none
                  else none
                else bif (decide (((0 : Int) ≤ (w64 ((n0 : Int) - (1 : Int)))) ∧ ((w64 ((n0 : Int) - (1 : Int))) < (n0 : Int)))) then
                  bif (decide (n14 = n0)) then
                    bindO (Gv.overO c15 (((Int.toNat (w64 ((n0 : Int) - (1 : Int)))) * 3) + 2) [(PV.int .i64 (w64 (x0 - (1 : Int))))]) fun x174 =>
                    N (TalOf_0b n0 n1 c2 i3 (w64 (i4 + (1 : Int))) i5 i6 i7 i8 b9 i10 i11 x0 (-1 : Int) n0 x174)
                  else none
                else none
              else bif b9 then
                bif (decide (((0 : Int) ≤ (w64 ((n0 : Int) - (1 : Int)))) ∧ ((w64 ((n0 : Int) - (1 : Int))) < (n0 : Int)))) then
                  bif (decide (n14 = n0)) then
                    bindO (Gv.overO c15 (((Int.toNat (w64 ((n0 : Int) - (1 : Int)))) * 3) + 2) [(PV.int .i64 (w64 (x0 + i8)))]) fun x175 =>
                    N (TalOf_0b n0 n1 c2 i3 (w64 (i4 + (1 : Int))) i5 i6 i7 i8 b9 i10 i11 x0 (-1 : Int) n0 x175)
                  else none
                else none
              else bif (decide (((0 : Int) ≤ (w64 ((n0 : Int) - (1 : Int)))) ∧ ((w64 ((n0 : Int) - (1 : Int))) < (n0 : Int)))) then
                bif (decide (n14 = n0)) then
                  bindO (Gv.overO c15 (((Int.toNat (w64 ((n0 : Int) - (1 : Int)))) * 3) + 2) [(PV.int .i64 (w64 (x0 - (1 : Int))))]) fun x176 =>
                  N (TalOf_0b n0 n1 c2 i3 (w64 (i4 + (1 : Int))) i5 i6 i7 i8 b9 i10 i11 x0 (-1 : Int) n0 x176)
                else none
              else none
            else bif (decide (x1 ≥ i5)) then
              bif (decide (((0 : Int) ≤ (w64 ((n0 : Int) - (1 : Int)))) ∧ ((w64 ((n0 : Int) - (1 : Int))) < (n0 : Int)))) then
                bif (decide (n14 = n0)) then
                  bindO (Gv.overO c15 (((Int.toNat (w64 ((n0 : Int) - (1 : Int)))) * 3) + 2) [(PV.int .i64 (w64 (x0 + i8)))]) fun x177 =>
                  N (TalOf_0b n0 n1 c2 i3 (w64 (i4 + (1 : Int))) i5 i6 i7 i8 true (w64 (i10 + (1 : Int))) x0 x0 (-1 : Int) n0 x177)
                else none
              else none
            else bif b9 then
              bif b9 then
                bif (decide (((0 : Int) ≤ (w64 ((n0 : Int) - (1 : Int)))) ∧ ((w64 ((n0 : Int) - (1 : Int))) < (n0 : Int)))) then
                  bif (decide (n14 = n0)) then
                    bindO (Gv.overO c15 (((Int.toNat (w64 ((n0 : Int) - (1 : Int)))) * 3) + 2) [(PV.int .i64 (w64 (x0 + i8)))]) fun x178 =>
                    N (TalOf_0b n0 n1 c2 i3 (w64 (i4 + (1 : Int))) i5 i6 i7 i8 b9 i10 i11 x0 (-1 : Int) n0 x178)
                  else none
                else none
              else bif (decide (((0 : Int) ≤ (w64 ((n0 : Int) - (1 : Int)))) ∧ ((w64 ((n0 : Int) - (1 : Int))) < (n0 : Int)))) then
                bif (decide (n14 = n0)) then
                  bindO (Gv.overO c15 (((Int.toNat (w64 ((n0 : Int) - (1 : Int)))) * 3) + 2) [(PV.int .i64 (w64 (x0 - (1 : Int))))]) fun x179 =>
                  N (TalOf_0b n0 n1 c2 i3 (w64 (i4 + (1 : Int))) i5 i6 i7 i8 b9 i10 i11 x0 (-1 : Int) n0 x179)
                else none
              else none
            else bif b9 then
              bif (decide (((0 : Int) ≤ (w64 ((n0 : Int) - (1 : Int)))) ∧ ((w64 ((n0 : Int) - (1 : Int))) < (n0 : Int)))) then
                bif (decide (n14 = n0)) then
                  bindO (Gv.overO c15 (((Int.toNat (w64 ((n0 : Int) - (1 : Int)))) * 3) + 2) [(PV.int .i64 (w64 (x0 + i8)))]) fun x180 =>
                  N (TalOf_0b n0 n1 c2 i3 (w64 (i4 + (1 : Int))) i5 i6 i7 i8 b9 i10 i11 x0 (-1 : Int) n0 x180)
                else none
              else none
            else bif (decide (((0 : Int) ≤ (w64 ((n0 : Int) - (1 : Int)))) ∧ ((w64 ((n0 : Int) - (1 : Int))) < (n0 : Int)))) then
              bif (decide (n14 = n0)) then
                bindO (Gv.overO c15 (((Int.toNat (w64 ((n0 : Int) - (1 : Int)))) * 3) + 2) [(PV.int .i64 (w64 (x0 - (1 : Int))))]) fun x181 =>
                N (TalOf_0b n0 n1 c2 i3 (w64 (i4 + (1 : Int))) i5 i6 i7 i8 b9 i10 i11 x0 (-1 : Int) n0 x181)
              else none
            else none
          else bif (i13 == (-1 : Int)) then
            bif (decide ((w64 (x0 - x0)) ≥ i7)) then
              bif (decide (x1 ≥ i5)) then
                bif (decide (((0 : Int) ≤ (w64 ((n0 : Int) - (1 : Int)))) ∧ ((w64 ((n0 : Int) - (1 : Int))) < (n0 : Int)))) then
                  bif (decide (n14 = n0)) then
                    bindO (Gv.overO c15 (((Int.toNat (w64 ((n0 : Int) - (1 : Int)))) * 3) + 2) [(PV.int .i64 (w64 (x0 + i8)))]) fun x182 =>
                    N (TalOf_0b n0 n1 c2 i3 (w64 (i4 + (1 : Int))) i5 i6 i7 i8 true (w64 (i10 + (1 : Int))) x0 x0 (-1 : Int) n0 x182)
                  else none
                else none
              else bif (decide (((0 : Int) ≤ (w64 ((n0 : Int) - (1 : Int)))) ∧ ((w64 ((n0 : Int) - (1 : Int))) < (n0 : Int)))) then
                bif (decide (n14 = n0)) then
                  bindO (Gv.overO c15 (((Int.toNat (w64 ((n0 : Int) - (1 : Int)))) * 3) + 2) [(PV.int .i64 (w64 (x0 - (1 : Int))))]) fun x183 =>
                  N (TalOf_0b n0 n1 c2 i3 (w64 (i4 + (1 : Int))) i5 i6 i7 i8 false i10 (0 : Int) x0 (-1 : Int) n0 x183)
                else none
              else none
            else bif b9 then
              bif b9 then
                bif b9 then
                  bif (decide (((0 : Int) ≤ (w64 ((n0 : Int) - (1 : Int)))) ∧ ((w64 ((n0 : Int) - (1 : Int))) < (n0 : Int)))) then
                    bif (decide (n14 = n0)) then
                      bindO (Gv.overO c15 (((Int.toNat (w64 ((n0 : Int) - (1 : Int)))) * 3) + 2) [(PV.int .i64 (w64 (x0 + i8)))]) fun x184 =>
                      N (TalOf_0b n0 n1 c2 i3 (w64 (i4 + (1 : Int))) i5 i6 i7 i8 b9 i10 i11 x0 x0 n0 x184)
                    else none
                  else none
                else bif (decide (((0 : Int) ≤ (w64 ((n0 : Int) - (1 : Int)))) ∧ ((w64 ((n0 : Int) - (1 : Int))) < (n0 : Int)))) then
                  bif (decide (n14 = n0)) then
                    bindO (Gv.overO c15 (((Int.toNat (w64 ((n0 : Int) - (1 : Int)))) * 3) + 2) [(PV.int .i64 (w64 (x0 - (1 : Int))))]) fun x185 =>
                    N (TalOf_0b n0 n1 c2 i3 (w64 (i4 + (1 : Int))) i5 i6 i7 i8 b9 i10 i11 x0 x0 n0 x185)
                  else none
                else none
              else bif b9 then
                bif (decide (((0 : Int) ≤ (w64 ((n0 : Int) - (1 : Int)))) ∧ ((w64 ((n0 : Int) - (1 : Int))) < (n0 : Int)))) then
                  bif (decide (n14 = n0)) then
                    bindO (Gv.overO c15 (((Int.toNat (w64 ((n0 : Int) - (1 : Int)))) * 3) + 2) [(PV.int .i64 (w64 (x0 + i8)))]) fun x186 =>
                    N (TalOf_0b n0 n1 c2 i3 (w64 (i4 + (1 : Int))) i5 i6 i7 i8 b9 i10 i11 x0 x0 n0 x186)
                  else none
                else none
              else bif (decide (((0 : Int) ≤ (w64 ((n0 : Int) - (1 : Int)))) ∧ ((w64 ((n0 : Int) - (1 : Int))) < (n0 : Int)))) then
                bif (decide (n14 = n0)) then
                  bindO (Gv.overO c15 (((Int.toNat (w64 ((n0 : Int) - (1 : Int)))) * 3) + 2) [(PV.int .i64 (w64 (x0 - (1 : Int))))]) fun x187 =>
                  N (TalOf_0b n0 n1 c2 i3 (w64 (i4 + (1 : Int))) i5 i6 i7 i8 b9 i10 i11 x0 x0 n0 x187)
                else none
              else none
            else bif (decide (x1 ≥ i5)) then
              bif (decide (((0 : Int) ≤ (w64 ((n0 : Int) - (1 : Int)))) ∧ ((w64 ((n0 : Int) - (1 : Int))) < (n0 : Int)))) then
                bif (decide (n14 = n0)) then
                  bindO (Gv.overO c15 (((Int.toNat (w64 ((n0 : Int) - (1 : Int)))) * 3) + 2) [(PV.int .i64 (w64 (x0 + i8)))]) fun x188 =>
                  N (TalOf_0b n0 n1 c2 i3 (w64 (i4 + (1 : Int))) i5 i6 i7 i8 true (w64 (i10 + (1 : Int))) x0 x0 x0 n0 x188)
                else none
              else none
            else bif b9 then
              bif b9 then
                bif (decide (((0 : Int) ≤ (w64 ((n0 : Int) - (1 : Int)))) ∧ ((w64 ((n0 : Int) - (1 : Int))) < (n0 : Int)))) then
                  bif (decide (n14 = n0)) then
                    bindO (Gv.overO c15 (((Int.toNat (w64 ((n0 : Int) - (1 : Int)))) * 3) + 2) [(PV.int .i64 (w64 (x0 + i8)))]) fun x189 =>
                    N (TalOf_0b n0 n1 c2 i3 (w64 (i4 + (1 : Int))) i5 i6 i7 i8 b9 i10 i11 x0 x0 n0 x189)
                  else none
                else none
              else bif (decide (((0 : Int) ≤ (w64 ((n0 : Int) - (1 : Int)))) ∧ ((w64 ((n0 : Int) - (1 : Int))) < (n0 : Int)))) then
                bif (decide (n14 = n0)) then
                  bindO (Gv.overO c15 (((Int.toNat (w64 ((n0 : Int) - (1 : Int)))) * 3) + 2) [(PV.int .i64 (w64 (x0 - (1 : Int))))]) fun x190 =>
                  N (TalOf_0b n0 n1 c2 i3 (w64 (i4 + (1 : Int))) i5 i6 i7 i8 b9 i10 i11 x0 x0 n0 x190)
                else none
              else none
            else bif b9 then
              bif (decide (((0 : Int) ≤ (w64 ((n0 : Int) - (1 : Int)))) ∧ ((w64 ((n0 : Int) - (1 : Int))) < (n0 : Int)))) then
                bif (decide (n14 = n0)) then
                  bindO (Gv.overO c15 (((Int.toNat (w64 ((n0 : Int) - (1 : Int)))) * 3) + 2) [(PV.int .i64 (w64 (x0 + i8)))]) fun x191 =>
                  N (TalOf_0b n0 n1 c2 i3 (w64 (i4 + (1 : Int))) i5 i6 i7 i8 b9 i10 i11 x0 x0 n0 x191)
                else none
              else none
            else bif (decide (((0 : Int) ≤ (w64 ((n0 : Int) - (1 : Int)))) ∧ ((w64 ((n0 : Int) - (1 : Int))) < (n0 : Int)))) then
              bif (decide (n14 = n0)) then
                bindO (Gv.overO c15 (((Int.toNat (w64 ((n0 : Int) - (1 : Int)))) * 3) + 2) [(PV.int .i64 (w64 (x0 - (1 : Int))))]) fun x192 =>
                N (TalOf_0b n0 n1 c2 i3 (w64 (i4 + (1 : Int))) i5 i6 i7 i8 b9 i10 i11 x0 x0 n0 x192)
              else none
            else none
          else bif (decide ((w64 (x0 - i13)) ≥ i7)) then
            bif (decide (x1 ≥ i5)) then
              bif (decide (((0 : Int) ≤ (w64 ((n0 : Int) - (1 : Int)))) ∧ ((w64 ((n0 : Int) - (1 : Int))) < (n0 : Int)))) then
                bif (decide (n14 = n0)) then
                  bindO (Gv.overO c15 (((Int.toNat (w64 ((n0 : Int) - (1 : Int)))) * 3) + 2) [(PV.int .i64 (w64 (x0 + i8)))]) fun x193 =>
                  N (TalOf_0b n0 n1 c2 i3 (w64 (i4 + (1 : Int))) i5 i6 i7 i8 true (w64 (i10 + (1 : Int))) x0 x0 (-1 : Int) n0 x193)
                else none
              else none
            else bif (decide (((0 : Int) ≤ (w64 ((n0 : Int) - (1 : Int)))) ∧ ((w64 ((n0 : Int) - (1 : Int))) < (n0 : Int)))) then
              bif (decide (n14 = n0)) then
                bindO (Gv.overO c15 (((Int.toNat (w64 ((n0 : Int) - (1 : Int)))) * 3) + 2) [(PV.int .i64 (w64 (x0 - (1 : Int))))]) fun x194 =>
                N (TalOf_0b n0 n1 c2 i3 (w64 (i4 + (1 : Int))) i5 i6 i7 i8 false i10 (0 : Int) x0 (-1 : Int) n0 x194)
              else none
            else none
          else bif b9 then
            bif b9 then
              bif b9 then
                bif (decide (((0 : Int) ≤ (w64 ((n0 : Int) - (1 : Int)))) ∧ ((w64 ((n0 : Int) - (1 : Int))) < (n0 : Int)))) then
                  bif (decide (n14 = n0)) then
                    bindO (Gv.overO c15 (((Int.toNat (w64 ((n0 : Int) - (1 : Int)))) * 3) + 2) [(PV.int .i64 (w64 (x0 + i8)))]) fun x195 =>
                    N (TalOf_0b n0 n1 c2 i3 (w64 (i4 + (1 : Int))) i5 i6 i7 i8 b9 i10 i11 x0 i13 n0 x195)
                  else none
                else none
              else bif (decide (((0 : Int) ≤ (w64 ((n0 : Int) - (1 : Int)))) ∧ ((w64 ((n0 : Int) - (1 : Int))) < (n0 : Int)))) then
                bif (decide (n14 = n0)) then
                  bindO (Gv.overO c15 (((Int.toNat (w64 ((n0 : Int) - (1 : Int)))) * 3) + 2) [(PV.int .i64 (w64 (x0 - (1 : Int))))]) fun x196 =>
                  N (TalOf_0b n0 n1 c2 i3 (w64 (i4 + (1 : Int))) i5 i6 i7 i8 b9 i10 i11 x0 i13 n0 x196)
                else none
              else none
            else bif b9 then
              bif (decide (((0 : Int) ≤ (w64 ((n0 : Int) - (1 : Int)))) ∧ ((w64 ((n0 : Int) - (1 : Int))) < (n0 : Int)))) then
                bif (decide (n14 = n0)) then
                  bindO (Gv.overO c15 (((Int.toNat (w64 ((n0 : Int) - (1 : Int)))) * 3) + 2) [(PV.int .i64 (w64 (x0 + i8)))]) fun x197 =>
                  N (TalOf_0b n0 n1 c2 i3 (w64 (i4 + (1 : Int))) i5 i6 i7 i8 b9 i10 i11 x0 i13 n0 x197)
                else none
              else none
            else bif (decide (((0 : Int) ≤ (w64 ((n0 : Int) - (1 : Int)))) ∧ ((w64 ((n0 : Int) - (1 : Int))) < (n0 : Int)))) then
              bif (decide (n14 = n0)) then
                bindO (Gv.overO c15 (((Int.toNat (w64 ((n0 : Int) - (1 : Int)))) * 3) + 2) [(PV.int .i64 (w64 (x0 - (1 : Int))))]) fun x198 =>
                N (TalOf_0b n0 n1 c2 i3 (w64 (i4 + (1 : Int))) i5 i6 i7 i8 b9 i10 i11 x0 i13 n0 x198)
              else none
            else none
          else bif (decide (x1 ≥ i5)) then
            bif (decide (((0 : Int) ≤ (w64 ((n0 : Int) - (1 : Int)))) ∧ ((w64 ((n0 : Int) - (1 : Int))) < (n0 : Int)))) then
              bif (decide (n14 = n0)) then
                bindO (Gv.overO c15 (((Int.toNat (w64 ((n0 : Int) - (1 : Int)))) * 3) + 2) [(PV.int .i64 (w64 (x0 + i8)))]) fun x199 =>
                N (TalOf_0b n0 n1 c2 i3 (w64 (i4 + (1 : Int))) i5 i6 i7 i8 true (w64 (i10 + (1 : Int))) x0 x0 i13 n0 x199)
              else none
            else none
          else bif b9 then
            bif b9 then
              bif (decide (((0 : Int) ≤ (w64 ((n0 : Int) - (1 : Int)))) ∧ ((w64 ((n0 : Int) - (1 : Int))) < (n0 : Int)))) then
                bif (decide (n14 = n0)) then
                  bindO (Gv.overO c15 (((Int.toNat (w64 ((n0 : Int) - (1 : Int)))) * 3) + 2) [(PV.int .i64 (w64 (x0 + i8)))]) fun x200 =>
                  N (TalOf_0b n0 n1 c2 i3 (w64 (i4 + (1 : Int))) i5 i6 i7 i8 b9 i10 i11 x0 i13 n0 x200)
                else none
              else none
            else bif (decide (((0 : Int) ≤ (w64 ((n0 : Int) - (1 : Int)))) ∧ ((w64 ((n0 : Int) - (1 : Int))) < (n0 : Int)))) then
              bif (decide (n14 = n0)) then
                bindO (Gv.overO c15 (((Int.toNat (w64 ((n0 : Int) - (1 : Int)))) * 3) + 2) [(PV.int .i64 (w64 (x0 - (1 : Int))))]) fun x201 =>
                N (TalOf_0b n0 n1 c2 i3 (w64 (i4 + (1 : Int))) i5 i6 i7 i8 b9 i10 i11 x0 i13 n0 x201)
              else none
            else none
          else bif b9 then
            bif (decide (((0 : Int) ≤ (w64 ((n0 : Int) - (1 : Int)))) ∧ ((w64 ((n0 : Int) - (1 : Int))) < (n0 : Int)))) then
              bif (decide (n14 = n0)) then
                bindO (Gv.overO c15 (((Int.toNat (w64 ((n0 : Int) - (1 : Int)))) * 3) + 2) [(PV.int .i64 (w64 (x0 + i8)))]) fun x202 =>
                N (TalOf_0b n0 n1 c2 i3 (w64 (i4 + (1 : Int))) i5 i6 i7 i8 b9 i10 i11 x0 i13 n0 x202)
              else none
            else none
          else bif (decide (((0 : Int) ≤ (w64 ((n0 : Int) - (1 : Int)))) ∧ ((w64 ((n0 : Int) - (1 : Int))) < (n0 : Int)))) then
            bif (decide (n14 = n0)) then
              bindO (Gv.overO c15 (((Int.toNat (w64 ((n0 : Int) - (1 : Int)))) * 3) + 2) [(PV.int .i64 (w64 (x0 - (1 : Int))))]) fun x203 =>
              N (TalOf_0b n0 n1 c2 i3 (w64 (i4 + (1 : Int))) i5 i6 i7 i8 b9 i10 i11 x0 i13 n0 x203)
            else none
          else none
        else bif b9 then
          bif b9 then
            bif b9 then
              bif (decide (((0 : Int) ≤ (w64 ((n0 : Int) - (1 : Int)))) ∧ ((w64 ((n0 : Int) - (1 : Int))) < (n0 : Int)))) then
                bif (decide (n14 = n0)) then
                  bindO (Gv.overO c15 (((Int.toNat (w64 ((n0 : Int) - (1 : Int)))) * 3) + 2) [(PV.int .i64 (w64 (x0 + i8)))]) fun x204 =>
                  N (TalOf_0b n0 n1 c2 i3 (w64 (i4 + (1 : Int))) i5 i6 i7 i8 b9 i10 i11 x0 i13 n0 x204)
                else none
              else none
            else bif (decide (((0 : Int) ≤ (w64 ((n0 : Int) - (1 : Int)))) ∧ ((w64 ((n0 : Int) - (1 : Int))) < (n0 : Int)))) then
              bif (decide (n14 = n0)) then
                bindO (Gv.overO c15 (((Int.toNat (w64 ((n0 : Int) - (1 : Int)))) * 3) + 2) [(PV.int .i64 (w64 (x0 - (1 : Int))))]) fun x205 =>
                N (TalOf_0b n0 n1 c2 i3 (w64 (i4 + (1 : Int))) i5 i6 i7 i8 b9 i10 i11 x0 i13 n0 x205)
              else none
            else none
          else bif b9 then
            bif (decide (((0 : Int) ≤ (w64 ((n0 : Int) - (1 : Int)))) ∧ ((w64 ((n0 : Int) - (1 : Int))) < (n0 : Int)))) then
              bif (decide (n14 = n0)) then
                bindO (Gv.overO c15 (((Int.toNat (w64 ((n0 : Int) - (1 : Int)))) * 3) + 2) [(PV.int .i64 (w64 (x0 + i8)))]) fun x206 =>
                N (TalOf_0b n0 n1 c2 i3 (w64 (i4 + (1 : Int))) i5 i6 i7 i8 b9 i10 i11 x0 i13 n0 x206)
              else none
            else none
          else bif (decide (((0 : Int) ≤ (w64 ((n0 : Int) - (1 : Int)))) ∧ ((w64 ((n0 : Int) - (1 : Int))) < (n0 : Int)))) then
            bif (decide (n14 = n0)) then
              bindO (Gv.overO c15 (((Int.toNat (w64 ((n0 : Int) - (1 : Int)))) * 3) + 2) [(PV.int .i64 (w64 (x0 - (1 : Int))))]) fun x207 =>
              N (TalOf_0b n0 n1 c2 i3 (w64 (i4 + (1 : Int))) i5 i6 i7 i8 b9 i10 i11 x0 i13 n0 x207)
            else none
          else none
        else bif (decide (x1 ≥ i5)) then
          bif (decide (((0 : Int) ≤ (w64 ((n0 : Int) - (1 : Int)))) ∧ ((w64 ((n0 : Int) - (1 : Int))) < (n0 : Int)))) then
            bif (decide (n14 = n0)) then
              bindO (Gv.overO c15 (((Int.toNat (w64 ((n0 : Int) - (1 : Int)))) * 3) + 2) [(PV.int .i64 (w64 (x0 + i8)))]) fun x208 =>
              N (TalOf_0b n0 n1 c2 i3 (w64 (i4 + (1 : Int))) i5 i6 i7 i8 true (w64 (i10 + (1 : Int))) x0 x0 i13 n0 x208)
            else none
          else none
        else bif b9 then
          bif b9 then
            bif (decide (((0 : Int) ≤ (w64 ((n0 : Int) - (1 : Int)))) ∧ ((w64 ((n0 : Int) - (1 : Int))) < (n0 : Int)))) then
              bif (decide (n14 = n0)) then
                bindO (Gv.overO c15 (((Int.toNat (w64 ((n0 : Int) - (1 : Int)))) * 3) + 2) [(PV.int .i64 (w64 (x0 + i8)))]) fun x209 =>
                N (TalOf_0b n0 n1 c2 i3 (w64 (i4 + (1 : Int))) i5 i6 i7 i8 b9 i10 i11 x0 i13 n0 x209)
              else none
            else none
          else bif (decide (((0 : Int) ≤ (w64 ((n0 : Int) - (1 : Int)))) ∧ ((w64 ((n0 : Int) - (1 : Int))) < (n0 : Int)))) then
            bif (decide (n14 = n0)) then
              bindO (Gv.overO c15 (((Int.toNat (w64 ((n0 : Int) - (1 : Int)))) * 3) + 2) [(PV.int .i64 (w64 (x0 - (1 : Int))))]) fun x210 =>
              N (TalOf_0b n0 n1 c2 i3 (w64 (i4 + (1 : Int))) i5 i6 i7 i8 b9 i10 i11 x0 i13 n0 x210)
            else none
          else none
        else bif b9 then
          bif (decide (((0 : Int) ≤ (w64 ((n0 : Int) - (1 : Int)))) ∧ ((w64 ((n0 : Int) - (1 : Int))) < (n0 : Int)))) then
            bif (decide (n14 = n0)) then
              bindO (Gv.overO c15 (((Int.toNat (w64 ((n0 : Int) - (1 : Int)))) * 3) + 2) [(PV.int .i64 (w64 (x0 + i8)))]) fun x211 =>
              N (TalOf_0b n0 n1 c2 i3 (w64 (i4 + (1 : Int))) i5 i6 i7 i8 b9 i10 i11 x0 i13 n0 x211)
            else none
          else none
        else bif (decide (((0 : Int) ≤ (w64 ((n0 : Int) - (1 : Int)))) ∧ ((w64 ((n0 : Int) - (1 : Int))) < (n0 : Int)))) then
          bif (decide (n14 = n0)) then
            bindO (Gv.overO c15 (((Int.toNat (w64 ((n0 : Int) - (1 : Int)))) * 3) + 2) [(PV.int .i64 (w64 (x0 - (1 : Int))))]) fun x212 =>
            N (TalOf_0b n0 n1 c2 i3 (w64 (i4 + (1 : Int))) i5 i6 i7 i8 b9 i10 i11 x0 i13 n0 x212)
          else none
        else none
      else bif b9 then
        bif (decide ((w64 (x0 - i12)) > i8)) then
          bif (decide (x1 ≥ i5)) then
            bif (decide ((n14 = n0) ∧ ((n0 + 1) ≤ big))) then
              bif (decide (((0 : Int) ≤ (w64 (((n0 + 1) : Int) - (1 : Int)))) ∧ ((w64 (((n0 + 1) : Int) - (1 : Int))) < ((n0 + 1) : Int)))) then
                bif (decide ((n0 + 1) = (n0 + 1))) then
                  bindO (Gv.overO (c15 ++ [(PV.int .i64 (w64 (i10 + (1 : Int)))), (PV.int .i64 x0), (PV.int .i64 (0 : Int))]) (((Int.toNat (w64 (((n0 + 1) : Int) - (1 : Int)))) * 3) + 2) [(PV.int .i64 (w64 (x0 + i8)))]) fun x213 =>
                  N (TalOf_0b (n0 + 1) n1 c2 i3 (w64 (i4 + (1 : Int))) i5 i6 i7 i8 true (w64 (i10 + (1 : Int))) x0 x0 (-1 : Int) (n0 + 1) x213)
                else none
              else none
            else none
          else N (TalOf_0b n0 n1 c2 i3 (w64 (i4 + (1 : Int))) i5 i6 i7 i8 false i10 (0 : Int) x0 (-1 : Int) n14 c15)
        else bif b9 then
          bif (decide (x2 ≥ i6)) then
            bif b9 then
              bif b9 then
                bif (decide ((n14 = n0) ∧ ((n0 + 1) ≤ big))) then
                  bif b9 then
                    bif (decide (((0 : Int) ≤ (w64 (((n0 + 1) : Int) - (1 : Int)))) ∧ ((w64 (((n0 + 1) : Int) - (1 : Int))) < ((n0 + 1) : Int)))) then
                      bif (decide ((n0 + 1) = (n0 + 1))) then
                        bindO (Gv.overO (c15 ++ [(PV.int .i64 i10), (PV.int .i64 i11), (PV.int .i64 (0 : Int))]) (((Int.toNat (w64 (((n0 + 1) : Int) - (1 : Int)))) * 3) + 2) [(PV.int .i64 (w64 (x0 + i8)))]) fun x214 =>
                        N (TalOf_0b (n0 + 1) n1 c2 i3 (w64 (i4 + (1 : Int))) i5 i6 i7 i8 b9 i10 i11 x0 (-1 : Int) (n0 + 1) x214)
                      else none
                    else none
                  else N (TalOf_0b (n0 + 1) n1 c2 i3 (w64 (i4 + (1 : Int))) i5 i6 i7 i8 b9 i10 i11 x0 (-1 : Int) (n0 + 1) (c15 ++ [(PV.int .i64 i10), (PV.int .i64 i11), (PV.int .i64 (0 : Int))]))
                else none
              else bif b9 then
                bif (decide (((0 : Int) ≤ (w64 ((n0 : Int) - (1 : Int)))) ∧ ((w64 ((n0 : Int) - (1 : Int))) < (n0 : Int)))) then
                  bif (decide (n14 = n0)) then
                    bindO (Gv.overO c15 (((Int.toNat (w64 ((n0 : Int) - (1 : Int)))) * 3) + 2) [(PV.int .i64 (w64 (x0 + i8)))]) fun x215 =>
                    N (TalOf_0b n0 n1 c2 i3 (w64 (i4 + (1 : Int))) i5 i6 i7 i8 b9 i10 i11 x0 (-1 : Int) n0 x215)
                  else none
                else none
              else N (TalOf_0b n0 n1 c2 i3 (w64 (i4 + (1 : Int))) i5 i6 i7 i8 b9 i10 i11 x0 (-1 : Int) n14 c15)
            else bif (decide (x1 ≥ i5)) then
              bif (decide ((n14 = n0) ∧ ((n0 + 1) ≤ big))) then
                bif (decide (((0 : Int) ≤ (w64 (((n0 + 1) : Int) - (1 : Int)))) ∧ ((w64 (((n0 + 1) : Int) - (1 : Int))) < ((n0 + 1) : Int)))) then
                  bif (decide ((n0 + 1) = (n0 + 1))) then
                    bindO (Gv.overO (c15 ++ [(PV.int .i64 (w64 (i10 + (1 : Int)))), (PV.int .i64 x0), (PV.int .i64 (0 : Int))]) (((Int.toNat (w64 (((n0 + 1) : Int) - (1 : Int)))) * 3) + 2) [(PV.int .i64 (w64 (x0 + i8)))]) fun x216 =>
                    N (TalOf_0b (n0 + 1) n1 c2 i3 (w64 (i4 + (1 : Int))) i5 i6 i7 i8 true (w64 (i10 + (1 : Int))) x0 x0 (-1 : Int) (n0 + 1) x216)
                  else none
                else none
              else none
            else bif b9 then
              bif (decide ((n14 = n0) ∧ ((n0 + 1) ≤ big))) then
                bif b9 then
                  bif (decide (((0 : Int) ≤ (w64 (((n0 + 1) : Int) - (1 : Int)))) ∧ ((w64 (((n0 + 1) : Int) - (1 : Int))) < ((n0 + 1) : Int)))) then
                    bif (decide ((n0 + 1) = (n0 + 1))) then
                      bindO (Gv.overO (c15 ++ [(PV.int .i64 i10), (PV.int .i64 i11), (PV.int .i64 (0 : Int))]) (((Int.toNat (w64 (((n0 + 1) : Int) - (1 : Int)))) * 3) + 2) [(PV.int .i64 (w64 (x0 + i8)))]) fun x217 =>
                      N (TalOf_0b (n0 + 1) n1 c2 i3 (w64 (i4 + (1 : Int))) i5 i6 i7 i8 b9 i10 i11 x0 (-1 : Int) (n0 + 1) x217)
                    else none
                  else none
                else N (TalOf_0b (n0 + 1) n1 c2 i3 (w64 (i4 + (1 : Int))) i5 i6 i7 i8 b9 i10 i11 x0 (-1 : Int) (n0 + 1) (c15 ++ [(PV.int .i64 i10), (PV.int .i64 i11), (PV.int .i64 (0 : Int))]))
              else none
            else bif b9 then
              bif (decide (((0 : Int) ≤ (w64 ((n0 : Int) - (1 : Int)))) ∧ ((w64 ((n0 : Int) - (1 : Int))) < (n0 : Int)))) then
                bif (decide (n14 = n0)) then
                  bindO (Gv.overO c15 (((Int.toNat (w64 ((n0 : Int) - (1 : Int)))) * 3) + 2) [(PV.int .i64 (w64 (x0 + i8)))]) fun x218 =>
                  N (TalOf_0b n0 n1 c2 i3 (w64 (i4 + (1 : Int))) i5 i6 i7 i8 b9 i10 i11 x0 (-1 : Int) n0 x218)
                else none
              else none
            else N (TalOf_0b n0 n1 c2 i3 (w64 (i4 + (1 : Int))) i5 i6 i7 i8 b9 i10 i11 x0 (-1 : Int) n14 c15)
          else bif (i13 == (-1 : Int)) then
            bif (decide ((w64 (x0 - x0)) ≥ i7)) then
              bif (decide (x1 ≥ i5)) then
                bif (decide ((n14 = n0) ∧ ((n0 + 1) ≤ big))) then
                  bif (decide (((0 : Int) ≤ (w64 (((n0 + 1) : Int) - (1 : Int)))) ∧ ((w64 (((n0 + 1) : Int) - (1 : Int))) < ((n0 + 1) : Int)))) then
                    bif (decide ((n0 + 1) = (n0 + 1))) then
                      bindO (Gv.overO (c15 ++ [(PV.int .i64 (w64 (i10 + (1 : Int)))), (PV.int .i64 x0), (PV.int .i64 (0 : Int))]) (((Int.toNat (w64 (((n0 + 1) : Int) - (1 : Int)))) * 3) + 2) [(PV.int .i64 (w64 (x0 + i8)))]) fun x219 =>
                      N (TalOf_0b (n0 + 1) n1 c2 i3 (w64 (i4 + (1 : Int))) i5 i6 i7 i8 true (w64 (i10 + (1 : Int))) x0 x0 (-1 : Int) (n0 + 1) x219)
                    else none
                  else none
                else none
              else N (TalOf_0b n0 n1 c2 i3 (w64 (i4 + (1 : Int))) i5 i6 i7 i8 false i10 (0 : Int) x0 (-1 : Int) n14 c15)
            else bif b9 then
              bif b9 then
                bif (decide ((n14 = n0) ∧ ((n0 + 1) ≤ big))) then
                  bif b9 then
                    bif (decide (((0 : Int) ≤ (w64 (((n0 + 1) : Int) - (1 : Int)))) ∧ ((w64 (((n0 + 1) : Int) - (1 : Int))) < ((n0 + 1) : Int)))) then
                      bif (decide ((n0 + 1) = (n0 + 1))) then
                        bindO (Gv.overO (c15 ++ [(PV.int .i64 i10), (PV.int .i64 i11), (PV.int .i64 (0 : Int))]) (((Int.toNat (w64 (((n0 + 1) : Int) - (1 : Int)))) * 3) + 2) [(PV.int .i64 (w64 (x0 + i8)))]) fun x220 =>
                        N (TalOf_0b (n0 + 1) n1 c2 i3 (w64 (i4 + (1 : Int))) i5 i6 i7 i8 b9 i10 i11 x0 x0 (n0 + 1) x220)
                      else none
                    else none
                  else N (TalOf_0b (n0 + 1) n1 c2 i3 (w64 (i4 + (1 : Int))) i5 i6 i7 i8 b9 i10 i11 x0 x0 (n0 + 1) (c15 ++ [(PV.int .i64 i10), (PV.int .i64 i11), (PV.int .i64 (0 : Int))]))
                else none
              else bif b9 then
                bif (decide (((0 : Int) ≤ (w64 ((n0 : Int) - (1 : Int)))) ∧ ((w64 ((n0 : Int) - (1 : Int))) < (n0 : Int)))) then
                  bif (decide (n14 = n0)) then
                    bindO (Gv.overO c15 (((Int.toNat (w64 ((n0 : Int) - (1 : Int)))) * 3) + 2) [(PV.int .i64 (w64 (x0 + i8)))]) fun x221 =>
                    N (TalOf_0b n0 n1 c2 i3 (w64 (i4 + (1 : Int))) i5 i6 i7 i8 b9 i10 i11 x0 x0 n0 x221)
                  else none
                else none
              else N (TalOf_0b n0 n1 c2 i3 (w64 (i4 + (1 : Int))) i5 i6 i7 i8 b9 i10 i11 x0 x0 n14 c15)
            else bif (decide (x1 ≥ i5)) then
              bif (decide ((n14 = n0) ∧ ((n0 + 1) ≤ big))) then
                bif (decide (((0 : Int) ≤ (w64 (((n0 + 1) : Int) - (1 : Int)))) ∧ ((w64 (((n0 + 1) : Int) - (1 : Int))) < ((n0 + 1) : Int)))) then
                  bif (decide ((n0 + 1) = (n0 + 1))) then
                    bindO (Gv.overO (c15 ++ [(PV.int .i64 (w64 (i10 + (1 : Int)))), (PV.int .i64 x0), (PV.int .i64 (0 : Int))]) (((Int.toNat (w64 (((n0 + 1) : Int) - (1 : Int)))) * 3) + 2) [(PV.int .i64 (w64 (x0 + i8)))]) fun x222 =>
                    N (TalOf_0b (n0 + 1) n1 c2 i3 (w64 (i4 + (1 : Int))) i5 i6 i7 i8 true (w64 (i10 + (1 : Int))) x0 x0 x0 (n0 + 1) x222)
                  else none
                else none
              else none
            else bif b9 then
              bif (decide ((n14 = n0) ∧ ((n0 + 1) ≤ big))) then
                bif b9 then
                  bif (decide (((0 : Int) ≤ (w64 (((n0 + 1) : Int) - (1 : Int)))) ∧ ((w64 (((n0 + 1) : Int) - (1 : Int))) < ((n0 + 1) : Int)))) then
                    bif (decide ((n0 + 1) = (n0 + 1))) then
                      bindO (Gv.overO (c15 ++ [(PV.int .i64 i10), (PV.int .i64 i11), (PV.int .i64 (0 : Int))]) (((Int.toNat (w64 (((n0 + 1) : Int) - (1 : Int)))) * 3) + 2) [(PV.int .i64 (w64 (x0 + i8)))]) fun x223 =>
                      N (TalOf_0b (n0 + 1) n1 c2 i3 (w64 (i4 + (1 : Int))) i5 i6 i7 i8 b9 i10 i11 x0 x0 (n0 + 1) x223)
                    else none
                  else none
                else N (TalOf_0b (n0 + 1) n1 c2 i3 (w64 (i4 + (1 : Int))) i5 i6 i7 i8 b9 i10 i11 x0 x0 (n0 + 1) (c15 ++ [(PV.int .i64 i10), (PV.int .i64 i11), (PV.int .i64 (0 : Int))]))
              else none
            else bif b9 then
              bif (decide (((0 : Int) ≤ (w64 ((n0 : Int) - (1 : Int)))) ∧ ((w64 ((n0 : Int) - (1 : Int))) < (n0 : Int)))) then
                bif (decide (n14 = n0)) then
                  bindO (Gv.overO c15 (((Int.toNat (w64 ((n0 : Int) - (1 : Int)))) * 3) + 2) [(PV.int .i64 (w64 (x0 + i8)))]) fun x224 =>
                  N (TalOf_0b n0 n1 c2 i3 (w64 (i4 + (1 : Int))) i5 i6 i7 i8 b9 i10 i11 x0 x0 n0 x224)
                else none
              else none
            else N (TalOf_0b n0 n1 c2 i3 (w64 (i4 + (1 : Int))) i5 i6 i7 i8 b9 i10 i11 x0 x0 n14 c15)
          else bif (decide ((w64 (x0 - i13)) ≥ i7)) then
            bif (decide (x1 ≥ i5)) then
              bif (decide ((n14 = n0) ∧ ((n0 + 1) ≤ big))) then
                bif (decide (((0 : Int) ≤ (w64 (((n0 + 1) : Int) - (1 : Int)))) ∧ ((w64 (((n0 + 1) : Int) - (1 : Int))) < ((n0 + 1) : Int)))) then
                  bif (decide ((n0 + 1) = (n0 + 1))) then
                    bindO (Gv.overO (c15 ++ [(PV.int .i64 (w64 (i10 + (1 : Int)))), (PV.int .i64 x0), (PV.int .i64 (0 : Int))]) (((Int.toNat (w64 (((n0 + 1) : Int) - (1 : Int)))) * 3) + 2) [(PV.int .i64 (w64 (x0 + i8)))]) fun x225 =>
                    N (TalOf_0b (n0 + 1) n1 c2 i3 (w64 (i4 + (1 : Int))) i5 i6 i7 i8 true (w64 (i10 + (1 : Int))) x0 x0 (-1 : Int) (n0 + 1) x225)
                  else none
                else none
              else none
            else N (TalOf_0b n0 n1 c2 i3 (w64 (i4 + (1 : Int))) i5 i6 i7 i8 false i10 (0 : Int) x0 (-1 : Int) n14 c15)
          else bif b9 then
            bif b9 then
              bif (decide ((n14 = n0) ∧ ((n0 + 1) ≤ big))) then
                bif b9 then
                  bif (decide (((0 : Int) ≤ (w64 (((n0 + 1) : Int) - (1 : Int)))) ∧ ((w64 (((n0 + 1) : Int) - (1 : Int))) < ((n0 + 1) : Int)))) then
                    bif (decide ((n0 + 1) = (n0 + 1))) then
                      bindO (Gv.overO (c15 ++ [(PV.int .i64 i10), (PV.int .i64 i11), (PV.int .i64 (0 : Int))]) (((Int.toNat (w64 (((n0 + 1) : Int) - (1 : Int)))) * 3) + 2) [(PV.int .i64 (w64 (x0 + i8)))]) fun x226 =>
                      N (TalOf_0b (n0 + 1) n1 c2 i3 (w64 (i4 + (1 : Int))) i5 i6 i7 i8 b9 i10 i11 x0 i13 (n0 + 1) x226)
                    else none
                  else none
                else N (TalOf_0b (n0 + 1) n1 c2 i3 (w64 (i4 + (1 : Int))) i5 i6 i7 i8 b9 i10 i11 x0 i13 (n0 + 1) (c15 ++ [(PV.int .i64 i10), (PV.int .i64 i11), (PV.int .i64 (0 : Int))]))
              else none
            else bif b9 then
              bif (decide (((0 : Int) ≤ (w64 ((n0 : Int) - (1 : Int)))) ∧ ((w64 ((n0 : Int) - (1 : Int))) < (n0 : Int)))) then
                bif (decide (n14 = n0)) then
                  bindO (Gv.overO c15 (((Int.toNat (w64 ((n0 : Int) - (1 : Int)))) * 3) + 2) [(PV.int .i64 (w64 (x0 + i8)))]) fun x227 =>
                  N (TalOf_0b n0 n1 c2 i3 (w64 (i4 + (1 : Int))) i5 i6 i7 i8 b9 i10 i11 x0 i13 n0 x227)
                else none
              else none
            else N (TalOf_0b n0 n1 c2 i3 (w64 (i4 + (1 : Int))) i5 i6 i7 i8 b9 i10 i11 x0 i13 n14 c15)
          else bif (decide (x1 ≥ i5)) then
            bif (decide ((n14 = n0) ∧ ((n0 + 1) ≤ big))) then
              bif (decide (((0 : Int) ≤ (w64 (((n0 + 1) : Int) - (1 : Int)))) ∧ ((w64 (((n0 + 1) : Int) - (1 : Int))) < ((n0 + 1) : Int)))) then
                bif (decide ((n0 + 1) = (n0 + 1))) then
                  bindO (Gv.overO (c15 ++ [(PV.int .i64 (w64 (i10 + (1 : Int)))), (PV.int .i64 x0), (PV.int .i64 (0 : Int))]) (((Int.toNat (w64 (((n0 + 1) : Int) - (1 : Int)))) * 3) + 2) [(PV.int .i64 (w64 (x0 + i8)))]) fun x228 =>
                  N (TalOf_0b (n0 + 1) n1 c2 i3 (w64 (i4 + (1 : Int))) i5 i6 i7 i8 true (w64 (i10 + (1 : Int))) x0 x0 i13 (n0 + 1) x228)
                else none
              else none
            else none
          else bif b9 then
            bif (decide ((n14 = n0) ∧ ((n0 + 1) ≤ big))) then
              bif b9 then
                bif (decide (((0 : Int) ≤ (w64 (((n0 + 1) : Int) - (1 : Int)))) ∧ ((w64 (((n0 + 1) : Int) - (1 : Int))) < ((n0 + 1) : Int)))) then
                  bif (decide ((n0 + 1) = (n0 + 1))) then
                    bindO (Gv.overO (c15 ++ [(PV.int .i64 i10), (PV.int .i64 i11), (PV.int .i64 (0 : Int))]) (((Int.toNat (w64 (((n0 + 1) : Int) - (1 : Int)))) * 3) + 2) [(PV.int .i64 (w64 (x0 + i8)))]) fun x229 =>
                    N (TalOf_0b (n0 + 1) n1 c2 i3 (w64 (i4 + (1 : Int))) i5 i6 i7 i8 b9 i10 i11 x0 i13 (n0 + 1) x229)
                  else none
                else none
              else N (TalOf_0b (n0 + 1) n1 c2 i3 (w64 (i4 + (1 : Int))) i5 i6 i7 i8 b9 i10 i11 x0 i13 (n0 + 1) (c15 ++ [(PV.int .i64 i10), (PV.int .i64 i11), (PV.int .i64 (0 : Int))]))
            else none
          else bif b9 then
            bif (decide (((0 : Int) ≤ (w64 ((n0 : Int) - (1 : Int)))) ∧ ((w64 ((n0 : Int) - (1 : Int))) < (n0 : Int)))) then
              bif (decide (n14 = n0)) then
                bindO (Gv.overO c15 (((Int.toNat (w64 ((n0 : Int) - (1 : Int)))) * 3) + 2) [(PV.int .i64 (w64 (x0 + i8)))]) fun x230 =>
                N (TalOf_0b n0 n1 c2 i3 (w64 (i4 + (1 : Int))) i5 i6 i7 i8 b9 i10 i11 x0 i13 n0 x230)
              else none
            else none
          else N (TalOf_0b n0 n1 c2 i3 (w64 (i4 + (1 : Int))) i5 i6 i7 i8 b9 i10 i11 x0 i13 n14 c15)
        else bif b9 then
          bif b9 then
            bif (decide ((n14 = n0) ∧ ((n0 + 1) ≤ big))) then
              bif b9 then
                bif (decide (((0 : Int) ≤ (w64 (((n0 + 1) : Int) - (1 : Int)))) ∧ ((w64 (((n0 + 1) : Int) - (1 : Int))) < ((n0 + 1) : Int)))) then
                  bif (decide ((n0 + 1) = (n0 + 1))) then
                    bindO (Gv.overO (c15 ++ [(PV.int .i64 i10), (PV.int .i64 i11), (PV.int .i64 (0 : Int))]) (((Int.toNat (w64 (((n0 + 1) : Int) - (1 : Int)))) * 3) + 2) [(PV.int .i64 (w64 (x0 + i8)))]) fun x231 =>
                    N (TalOf_0b (n0 + 1) n1 c2 i3 (w64 (i4 + (1 : Int))) i5 i6 i7 i8 b9 i10 i11 x0 i13 (n0 + 1) x231)
                  else none
                else none
              else N (TalOf_0b (n0 + 1) n1 c2 i3 (w64 (i4 + (1 : Int))) i5 i6 i7 i8 b9 i10 i11 x0 i13 (n0 + 1) (c15 ++ [(PV.int .i64 i10), (PV.int .i64 i11), (PV.int .i64 (0 : Int))]))
            else none
          else bif b9 then
            bif (decide (((0 : Int) ≤ (w64 ((n0 : Int) - (1 : Int)))) ∧ ((w64 ((n0 : Int) - (1 : Int))) < (n0 : Int)))) then
              bif (decide (n14 = n0)) then
                bindO (Gv.overO c15 (((Int.toNat (w64 ((n0 : Int) - (1 : Int)))) * 3) + 2) [(PV.int .i64 (w64 (x0 + i8)))]) fun x232 =>
                N (TalOf_0b n0 n1 c2 i3 (w64 (i4 + (1 : Int))) i5 i6 i7 i8 b9 i10 i11 x0 i13 n0 x232)
              else none
            else none
          else N (TalOf_0b n0 n1 c2 i3 (w64 (i4 + (1 : Int))) i5 i6 i7 i8 b9 i10 i11 x0 i13 n14 c15)
        else bif (decide (x1 ≥ i5)) then
          bif (decide ((n14 = n0) ∧ ((n0 + 1) ≤ big))) then
            bif (decide (((0 : Int) ≤ (w64 (((n0 + 1) : Int) - (1 : Int)))) ∧ ((w64 (((n0 + 1) : Int) - (1 : Int))) < ((n0 + 1) : Int)))) then
              bif (decide ((n0 + 1) = (n0 + 1))) then
                bindO (Gv.overO (c15 ++ [(PV.int .i64 (w64 (i10 + (1 : Int)))), (PV.int .i64 x0), (PV.int .i64 (0 : Int))]) (((Int.toNat (w64 (((n0 + 1) : Int) - (1 : Int)))) * 3) + 2) [(PV.int .i64 (w64 (x0 + i8)))]) fun x233 =>
                N (TalOf_0b (n0 + 1) n1 c2 i3 (w64 (i4 + (1 : Int))) i5 i6 i7 i8 true (w64 (i10 + (1 : Int))) x0 x0 i13 (n0 + 1) x233)
              else none
            else none
          else none
        else bif b9 then
          bif (decide ((n14 = n0) ∧ ((n0 + 1) ≤ big))) then
            bif b9 then
              bif (decide (((0 : Int) ≤ (w64 (((n0 + 1) : Int) - (1 : Int)))) ∧ ((w64 (((n0 + 1) : Int) - (1 : Int))) < ((n0 + 1) : Int)))) then
                bif (decide ((n0 + 1) = (n0 + 1))) then
                  bindO (Gv.overO (c15 ++ [(PV.int .i64 i10), (PV.int .i64 i11), (PV.int .i64 (0 : Int))]) (((Int.toNat (w64 (((n0 + 1) : Int) - (1 : Int)))) * 3) + 2) [(PV.int .i64 (w64 (x0 + i8)))]) fun x234 =>
                  N (TalOf_0b (n0 + 1) n1 c2 i3 (w64 (i4 + (1 : Int))) i5 i6 i7 i8 b9 i10 i11 x0 i13 (n0 + 1) x234)
                else none
              else none
            else N (TalOf_0b (n0 + 1) n1 c2 i3 (w64 (i4 + (1 : Int))) i5 i6 i7 i8 b9 i10 i11 x0 i13 (n0 + 1) (c15 ++ [(PV.int .i64 i10), (PV.int .i64 i11), (PV.int .i64 (0 : Int))]))
          else none
        else bif b9 then
          bif (decide (((0 : Int) ≤ (w64 ((n0 : Int) - (1 : Int)))) ∧ ((w64 ((n0 : Int) - (1 : Int))) < (n0 : Int)))) then
            bif (decide (n14 = n0)) then
              bindO (Gv.overO c15 (((Int.toNat (w64 ((n0 : Int) - (1 : Int)))) * 3) + 2) [(PV.int .i64 (w64 (x0 + i8)))]) fun x235 =>
              N (TalOf_0b n0 n1 c2 i3 (w64 (i4 + (1 : Int))) i5 i6 i7 i8 b9 i10 i11 x0 i13 n0 x235)
            else none
          else none
        else N (TalOf_0b n0 n1 c2 i3 (w64 (i4 + (1 : Int))) i5 i6 i7 i8 b9 i10 i11 x0 i13 n14 c15)
      else bif b9 then
        bif (decide (x2 ≥ i6)) then
          bif b9 then
            bif b9 then
              bif (decide ((n14 = n0) ∧ ((n0 + 1) ≤ big))) then
                bif b9 then
                  bif (decide (((0 : Int) ≤ (w64 (((n0 + 1) : Int) - (1 : Int)))) ∧ ((w64 (((n0 + 1) : Int) - (1 : Int))) < ((n0 + 1) : Int)))) then
                    bif (decide ((n0 + 1) = (n0 + 1))) then
                      bindO (Gv.overO (c15 ++ [(PV.int .i64 i10), (PV.int .i64 i11), (PV.int .i64 (0 : Int))]) (((Int.toNat (w64 (((n0 + 1) : Int) - (1 : Int)))) * 3) + 2) [(PV.int .i64 (w64 (x0 + i8)))]) fun x236 =>
                      N (TalOf_0b (n0 + 1) n1 c2 i3 (w64 (i4 + (1 : Int))) i5 i6 i7 i8 b9 i10 i11 x0 (-1 : Int) (n0 + 1) x236)
                    else none
                  else none
                else N (TalOf_0b (n0 + 1) n1 c2 i3 (w64 (i4 + (1 : Int))) i5 i6 i7 i8 b9 i10 i11 x0 (-1 : Int) (n0 + 1) (c15 ++ [(PV.int .i64 i10), (PV.int .i64 i11), (PV.int .i64 (0 : Int))]))
              else none
            else bif b9 then
              bif (decide (((0 : Int) ≤ (w64 ((n0 : Int) - (1 : Int)))) ∧ ((w64 ((n0 : Int) - (1 : Int))) < (n0 : Int)))) then
                bif (decide (n14 = n0)) then
                  bindO (Gv.overO c15 (((Int.toNat (w64 ((n0 : Int) - (1 : Int)))) * 3) + 2) [(PV.int .i64 (w64 (x0 + i8)))]) fun x237 =>
                  N (TalOf_0b n0 n1 c2 i3 (w64 (i4 + (1 : Int))) i5 i6 i7 i8 b9 i10 i11 x0 (-1 : Int) n0 x237)
                else none
              else none
            else N (TalOf_0b n0 n1 c2 i3 (w64 (i4 + (1 : Int))) i5 i6 i7 i8 b9 i10 i11 x0 (-1 : Int) n14 c15)
          else bif (decide (x1 ≥ i5)) then
            bif (decide ((n14 = n0) ∧ ((n0 + 1) ≤ big))) then
              bif (decide (((0 : Int) ≤ (w64 (((n0 + 1) : Int) - (1 : Int)))) ∧ ((w64 (((n0 + 1) : Int) - (1 : Int))) < ((n0 + 1) : Int)))) then
                bif (decide ((n0 + 1) = (n0 + 1))) then
                  bindO (Gv.overO (c15 ++ [(PV.int .i64 (w64 (i10 + (1 : Int)))), (PV.int .i64 x0), (PV.int .i64 (0 : Int))]) (((Int.toNat (w64 (((n0 + 1) : Int) - (1 : Int)))) * 3) + 2) [(PV.int .i64 (w64 (x0 + i8)))]) fun x238 =>
                  N (TalOf_0b (n0 + 1) n1 c2 i3 (w64 (i4 + (1 : Int))) i5 i6 i7 i8 true (w64 (i10 + (1 : Int))) x0 x0 (-1 : Int) (n0 + 1) x238)
                else none
              else none
            else none
          else bif b9 then
            bif (decide ((n14 = n0) ∧ ((n0 + 1) ≤ big))) then
              bif b9 then
                bif (decide (((0 : Int) ≤ (w64 (((n0 + 1) : Int) - (1 : Int)))) ∧ ((w64 (((n0 + 1) : Int) - (1 : Int))) < ((n0 + 1) : Int)))) then
                  bif (decide ((n0 + 1) = (n0 + 1))) then
                    bindO (Gv.overO (c15 ++ [(PV.int .i64 i10), (PV.int .i64 i11), (PV.int .i64 (0 : Int))]) (((Int.toNat (w64 (((n0 + 1) : Int) - (1 : Int)))) * 3) + 2) [(PV.int .i64 (w64 (x0 + i8)))]) fun x239 =>
                    N (TalOf_0b (n0 + 1) n1 c2 i3 (w64 (i4 + (1 : Int))) i5 i6 i7 i8 b9 i10 i11 x0 (-1 : Int) (n0 + 1) x239)
                  else none
                else none
              else N (TalOf_0b (n0 + 1) n1 c2 i3 (w64 (i4 + (1 : Int))) i5 i6 i7 i8 b9 i10 i11 x0 (-1 : Int) (n0 + 1) (c15 ++ [(PV.int .i64 i10), (PV.int .i64 i11), (PV.int .i64 (0 : Int))]))
            else none
          else bif b9 then
            bif (decide (((0 : Int) ≤ (w64 ((n0 : Int) - (1 : Int)))) ∧ ((w64 ((n0 : Int) - (1 : Int))) < (n0 : Int)))) then
              bif (decide (n14 = n0)) then
                bindO (Gv.overO c15 (((Int.toNat (w64 ((n0 : Int) - (1 : Int)))) * 3) + 2) [(PV.int .i64 (w64 (x0 + i8)))]) fun x240 =>
                N (TalOf_0b n0 n1 c2 i3 (w64 (i4 + (1 : Int))) i5 i6 i7 i8 b9 i10 i11 x0 (-1 : Int) n0 x240)
              else none
            else none
          else N (TalOf_0b n0 n1 c2 i3 (w64 (i4 + (1 : Int))) i5 i6 i7 i8 b9 i10 i11 x0 (-1 : Int) n14 c15)
        else bif (i13 == (-1 : Int)) then
          bif (decide ((w64 (x0 - x0)) ≥ i7)) then
            bif (decide (x1 ≥ i5)) then
              bif (decide ((n14 = n0) ∧ ((n0 + 1) ≤ big))) then
                bif (decide (((0 : Int) ≤ (w64 (((n0 + 1) : Int) - (1 : Int)))) ∧ ((w64 (((n0 + 1) : Int) - (1 : Int))) < ((n0 + 1) : Int)))) then
                  bif (decide ((n0 + 1) = (n0 + 1))) then
                    bindO (Gv.overO (c15 ++ [(PV.int .i64 (w64 (i10 + (1 : Int)))), (PV.int .i64 x0), (PV.int .i64 (0 : Int))]) (((Int.toNat (w64 (((n0 + 1) : Int) - (1 : Int)))) * 3) + 2) [(PV.int .i64 (w64 (x0 + i8)))]) fun x241 =>
                    N (TalOf_0b (n0 + 1) n1 c2 i3 (w64 (i4 + (1 : Int))) i5 i6 i7 i8 true (w64 (i10 + (1 : Int))) x0 x0 (-1 : Int) (n0 + 1) x241)
                  else none
                else none
              else none
            else N (TalOf_0b n0 n1 c2 i3 (w64 (i4 + (1 : Int))) i5 i6 i7 i8 false i10 (0 : Int) x0 (-1 : Int) n14 c15)
          else bif b9 then
            bif b9 then
              bif (decide ((n14 = n0) ∧ ((n0 + 1) ≤ big))) then
                bif b9 then
                  bif (decide (((0 : Int) ≤ (w64 (((n0 + 1) : Int) - (1 : Int)))) ∧ ((w64 (((n0 + 1) : Int) - (1 : Int))) < ((n0 + 1) : Int)))) then
                    bif (decide ((n0 + 1) = (n0 + 1))) then
                      bindO (Gv.overO (c15 ++ [(PV.int .i64 i10), (PV.int .i64 i11), (PV.int .i64 (0 : Int))]) (((Int.toNat (w64 (((n0 + 1) : Int) - (1 : Int)))) * 3) + 2) [(PV.int .i64 (w64 (x0 + i8)))]) fun x242 =>
                      N (TalOf_0b (n0 + 1) n1 c2 i3 (w64 (i4 + (1 : Int))) i5 i6 i7 i8 b9 i10 i11 x0 x0 (n0 + 1) x242)
                    else none
                  else none
                else N (TalOf_0b (n0 + 1) n1 c2 i3 (w64 (i4 + (1 : Int))) i5 i6 i7 i8 b9 i10 i11 x0 x0 (n0 + 1) (c15 ++ [(PV.int .i64 i10), (PV.int .i64 i11), (PV.int .i64 (0 : Int))]))
              else none
            else bif b9 then
              bif (decide (((0 : Int) ≤ (w64 ((n0 : Int) - (1 : Int)))) ∧ ((w64 ((n0 : Int) - (1 : Int))) < (n0 : Int)))) then
                bif (decide (n14 = n0)) then
                  bindO (Gv.overO c15 (((Int.toNat (w64 ((n0 : Int) - (1 : Int)))) * 3) + 2) [(PV.int .i64 (w64 (x0 + i8)))]) fun x243 =>
                  N (TalOf_0b n0 n1 c2 i3 (w64 (i4 + (1 : Int))) i5 i6 i7 i8 b9 i10 i11 x0 x0 n0 x243)
                else none
              else none
            else N (TalOf_0b n0 n1 c2 i3 (w64 (i4 + (1 : Int))) i5 i6 i7 i8 b9 i10 i11 x0 x0 n14 c15)
          else bif (decide (x1 ≥ i5)) then
            bif (decide ((n14 = n0) ∧ ((n0 + 1) ≤ big))) then
              bif (decide (((0 : Int) ≤ (w64 (((n0 + 1) : Int) - (1 : Int)))) ∧ ((w64 (((n0 + 1) : Int) - (1 : Int))) < ((n0 + 1) : Int)))) then
                bif (decide ((n0 + 1) = (n0 + 1))) then
                  bindO (Gv.overO (c15 ++ [(PV.int .i64 (w64 (i10 + (1 : Int)))), (PV.int .i64 x0), (PV.int .i64 (0 : Int))]) (((Int.toNat (w64 (((n0 + 1) : Int) - (1 : Int)))) * 3) + 2) [(PV.int .i64 (w64 (x0 + i8)))]) fun x244 =>
                  N (TalOf_0b (n0 + 1) n1 c2 i3 (w64 (i4 + (1 : Int))) i5 i6 i7 i8 true (w64 (i10 + (1 : Int))) x0 x0 x0 (n0 + 1) x244)
                else none
              else none
            else none
          else bif b9 then
            bif (decide ((n14 = n0) ∧ ((n0 + 1) ≤ big))) then
              bif b9 then
                bif (decide (((0 : Int) ≤ (w64 (((n0 + 1) : Int) - (1 : Int)))) ∧ ((w64 (((n0 + 1) : Int) - (1 : Int))) < ((n0 + 1) : Int)))) then
                  bif (decide ((n0 + 1) = (n0 + 1))) then
                    bindO (Gv.overO (c15 ++ [(PV.int .i64 i10), (PV.int .i64 i11), (PV.int .i64 (0 : Int))]) (((Int.toNat (w64 (((n0 + 1) : Int) - (1 : Int)))) * 3) + 2) [(PV.int .i64 (w64 (x0 + i8)))]) fun x245 =>
                    N (TalOf_0b (n0 + 1) n1 c2 i3 (w64 (i4 + (1 : Int))) i5 i6 i7 i8 b9 i10 i11 x0 x0 (n0 + 1) x245)
                  else none
                else none
              else N (TalOf_0b (n0 + 1) n1 c2 i3 (w64 (i4 + (1 : Int))) i5 i6 i7 i8 b9 i10 i11 x0 x0 (n0 + 1) (c15 ++ [(PV.int .i64 i10), (PV.int .i64 i11), (PV.int .i64 (0 : Int))]))
            else none
          else bif b9 then
            bif (decide (((0 : Int) ≤ (w64 ((n0 : Int) - (1 : Int)))) ∧ ((w64 ((n0 : Int) - (1 : Int))) < (n0 : Int)))) then
              bif (decide (n14 = n0)) then
                bindO (Gv.overO c15 (((Int.toNat (w64 ((n0 : Int) - (1 : Int)))) * 3) + 2) [(PV.int .i64 (w64 (x0 + i8)))]) fun x246 =>
                N (TalOf_0b n0 n1 c2 i3 (w64 (i4 + (1 : Int))) i5 i6 i7 i8 b9 i10 i11 x0 x0 n0 x246)
              else none
            else none
          else N (TalOf_0b n0 n1 c2 i3 (w64 (i4 + (1 : Int))) i5 i6 i7 i8 b9 i10 i11 x0 x0 n14 c15)
        else bif (decide ((w64 (x0 - i13)) ≥ i7)) then
          bif (decide (x1 ≥ i5)) then
            bif (decide ((n14 = n0) ∧ ((n0 + 1) ≤ big))) then
              bif (decide (((0 : Int) ≤ (w64 (((n0 + 1) : Int) - (1 : Int)))) ∧ ((w64 (((n0 + 1) : Int) - (1 : Int))) < ((n0 + 1) : Int)))) then
                bif (decide ((n0 + 1) = (n0 + 1))) then
                  bindO (Gv.overO (c15 ++ [(PV.int .i64 (w64 (i10 + (1 : Int)))), (PV.int .i64 x0), (PV.int .i64 (0 : Int))]) (((Int.toNat (w64 (((n0 + 1) : Int) - (1 : Int)))) * 3) + 2) [(PV.int .i64 (w64 (x0 + i8)))]) fun x247 =>
                  N (TalOf_0b (n0 + 1) n1 c2 i3 (w64 (i4 + (1 : Int))) i5 i6 i7 i8 true (w64 (i10 + (1 : Int))) x0 x0 (-1 : Int) (n0 + 1) x247)
                else none
              else none
            else none
          else N (TalOf_0b n0 n1 c2 i3 (w64 (i4 + (1 : Int))) i5 i6 i7 i8 false i10 (0 : Int) x0 (-1 : Int) n14 c15)
        else bif b9 then
          bif b9 then
            bif (decide ((n14 = n0) ∧ ((n0 + 1) ≤ big))) then
              bif b9 then
                bif (decide (((0 : Int) ≤ (w64 (((n0 + 1) : Int) - (1 : Int)))) ∧ ((w64 (((n0 + 1) : Int) - (1 : Int))) < ((n0 + 1) : Int)))) then
                  bif (decide ((n0 + 1) = (n0 + 1))) then
                    bindO (Gv.overO (c15 ++ [(PV.int .i64 i10), (PV.int .i64 i11), (PV.int .i64 (0 : Int))]) (((Int.toNat (w64 (((n0 + 1) : Int) - (1 : Int)))) * 3) + 2) [(PV.int .i64 (w64 (x0 + i8)))]) fun x248 =>
                    N (TalOf_0b (n0 + 1) n1 c2 i3 (w64 (i4 + (1 : Int))) i5 i6 i7 i8 b9 i10 i11 x0 i13 (n0 + 1) x248)
                  else none
                else none
              else N (TalOf_0b (n0 + 1) n1 c2 i3 (w64 (i4 + (1 : Int))) i5 i6 i7 i8 b9 i10 i11 x0 i13 (n0 + 1) (c15 ++ [(PV.int .i64 i10), (PV.int .i64 i11), (PV.int .i64 (0 : Int))]))
            else none
          else bif b9 then
            bif (decide (((0 : Int) ≤ (w64 ((n0 : Int) - (1 : Int)))) ∧ ((w64 ((n0 : Int) - (1 : Int))) < (n0 : Int)))) then
              bif (decide (n14 = n0)) then
                bindO (Gv.overO c15 (((Int.toNat (w64 ((n0 : Int) - (1 : Int)))) * 3) + 2) [(PV.int .i64 (w64 (x0 + i8)))]) fun x249 =>
                N (TalOf_0b n0 n1 c2 i3 (w64 (i4 + (1 : Int))) i5 i6 i7 i8 b9 i10 i11 x0 i13 n0 x249)
              else none
            else none
          else N (TalOf_0b n0 n1 c2 i3 (w64 (i4 + (1 : Int))) i5 i6 i7 i8 b9 i10 i11 x0 i13 n14 c15)
        else bif (decide (x1 ≥ i5)) then
          bif (decide ((n14 = n0) ∧ ((n0 + 1) ≤ big))) then
            bif (decide (((0 : Int) ≤ (w64 (((n0 + 1) : Int) - (1 : Int)))) ∧ ((w64 (((n0 + 1) : Int) - (1 : Int))) < ((n0 + 1) : Int)))) then
              bif (decide ((n0 + 1) = (n0 + 1))) then
                bindO (Gv.overO (c15 ++ [(PV.int .i64 (w64 (i10 + (1 : Int)))), (PV.int .i64 x0), (PV.int .i64 (0 : Int))]) (((Int.toNat (w64 (((n0 + 1) : Int) - (1 : Int)))) * 3) + 2) [(PV.int .i64 (w64 (x0 + i8)))]) fun x250 =>
                N (TalOf_0b (n0 + 1) n1 c2 i3 (w64 (i4 + (1 : Int))) i5 i6 i7 i8 true (w64 (i10 + (1 : Int))) x0 x0 i13 (n0 + 1) x250)
              else none
            else none
          else none
        else bif b9 then
          bif (decide ((n14 = n0) ∧ ((n0 + 1) ≤ big))) then
            bif b9 then
              bif (decide (((0 : Int) ≤ (w64 (((n0 + 1) : Int) - (1 : Int)))) ∧ ((w64 (((n0 + 1) : Int) - (1 : Int))) < ((n0 + 1) : Int)))) then
                bif (decide ((n0 + 1) = (n0 + 1))) then
                  bindO (Gv.overO (c15 ++ [(PV.int .i64 i10), (PV.int .i64 i11), (PV.int .i64 (0 : Int))]) (((Int.toNat (w64 (((n0 + 1) : Int) - (1 : Int)))) * 3) + 2) [(PV.int .i64 (w64 (x0 + i8)))]) fun x251 =>
                  N (TalOf_0b (n0 + 1) n1 c2 i3 (w64 (i4 + (1 : Int))) i5 i6 i7 i8 b9 i10 i11 x0 i13 (n0 + 1) x251)
                else none
              else none
            else N (TalOf_0b (n0 + 1) n1 c2 i3 (w64 (i4 + (1 : Int))) i5 i6 i7 i8 b9 i10 i11 x0 i13 (n0 + 1) (c15 ++ [(PV.int .i64 i10), (PV.int .i64 i11), (PV.int .i64 (0 : Int))]))
          else none
        else bif b9 then
          bif (decide (((0 : Int) ≤ (w64 ((n0 : Int) - (1 : Int)))) ∧ ((w64 ((n0 : Int) - (1 : Int))) < (n0 : Int)))) then
            bif (decide (n14 = n0)) then
              bindO (Gv.overO c15 (((Int.toNat (w64 ((n0 : Int) - (1 : Int)))) * 3) + 2) [(PV.int .i64 (w64 (x0 + i8)))]) fun x252 =>
              N (TalOf_0b n0 n1 c2 i3 (w64 (i4 + (1 : Int))) i5 i6 i7 i8 b9 i10 i11 x0 i13 n0 x252)
            else none
          else none
        else N (TalOf_0b n0 n1 c2 i3 (w64 (i4 + (1 : Int))) i5 i6 i7 i8 b9 i10 i11 x0 i13 n14 c15)
      else bif b9 then
        bif b9 then
          bif (decide ((n14 = n0) ∧ ((n0 + 1) ≤ big))) then
            bif b9 then
              bif (decide (((0 : Int) ≤ (w64 (((n0 + 1) : Int) - (1 : Int)))) ∧ ((w64 (((n0 + 1) : Int) - (1 : Int))) < ((n0 + 1) : Int)))) then
                bif (decide ((n0 + 1) = (n0 + 1))) then
                  bindO (Gv.overO (c15 ++ [(PV.int .i64 i10), (PV.int .i64 i11), (PV.int .i64 (0 : Int))]) (((Int.toNat (w64 (((n0 + 1) : Int) - (1 : Int)))) * 3) + 2) [(PV.int .i64 (w64 (x0 + i8)))]) fun x253 =>
                  N (TalOf_0b (n0 + 1) n1 c2 i3 (w64 (i4 + (1 : Int))) i5 i6 i7 i8 b9 i10 i11 x0 i13 (n0 + 1) x253)
                else none
              else none
            else N (TalOf_0b (n0 + 1) n1 c2 i3 (w64 (i4 + (1 : Int))) i5 i6 i7 i8 b9 i10 i11 x0 i13 (n0 + 1) (c15 ++ [(PV.int .i64 i10), (PV.int .i64 i11), (PV.int .i64 (0 : Int))]))
          else none
        else bif b9 then
          bif (decide (((0 : Int) ≤ (w64 ((n0 : Int) - (1 : Int)))) ∧ ((w64 ((n0 : Int) - (1 : Int))) < (n0 : Int)))) then
            bif (decide (n14 = n0)) then
              bindO (Gv.overO c15 (((Int.toNat (w64 ((n0 : Int) - (1 : Int)))) * 3) + 2) [(PV.int .i64 (w64 (x0 + i8)))]) fun x254 =>
              N (TalOf_0b n0 n1 c2 i3 (w64 (i4 + (1 : Int))) i5 i6 i7 i8 b9 i10 i11 x0 i13 n0 x254)
            else none
          else none
        else N (TalOf_0b n0 n1 c2 i3 (w64 (i4 + (1 : Int))) i5 i6 i7 i8 b9 i10 i11 x0 i13 n14 c15)
      else bif (decide (x1 ≥ i5)) then
        bif (decide ((n14 = n0) ∧ ((n0 + 1) ≤ big))) then
          bif (decide (((0 : Int) ≤ (w64 (((n0 + 1) : Int) - (1 : Int)))) ∧ ((w64 (((n0 + 1) : Int) - (1 : Int))) < ((n0 + 1) : Int)))) then
            bif (decide ((n0 + 1) = (n0 + 1))) then
              bindO (Gv.overO (c15 ++ [(PV.int .i64 (w64 (i10 + (1 : Int)))), (PV.int .i64 x0), (PV.int .i64 (0 : Int))]) (((Int.toNat (w64 (((n0 + 1) : Int) - (1 : Int)))) * 3) + 2) [(PV.int .i64 (w64 (x0 + i8)))]) fun x255 =>
              N (TalOf_0b (n0 + 1) n1 c2 i3 (w64 (i4 + (1 : Int))) i5 i6 i7 i8 true (w64 (i10 + (1 : Int))) x0 x0 i13 (n0 + 1) x255)
            else none
          else none
        else none
      else bif b9 then
        bif (decide ((n14 = n0) ∧ ((n0 + 1) ≤ big))) then
          bif b9 then
            bif (decide (((0 : Int) ≤ (w64 (((n0 + 1) : Int) - (1 : Int)))) ∧ ((w64 (((n0 + 1) : Int) - (1 : Int))) < ((n0 + 1) : Int)))) then
              bif (decide ((n0 + 1) = (n0 + 1))) then
                bindO (Gv.overO (c15 ++ [(PV.int .i64 i10), (PV.int .i64 i11), (PV.int .i64 (0 : Int))]) (((Int.toNat (w64 (((n0 + 1) : Int) - (1 : Int)))) * 3) + 2) [(PV.int .i64 (w64 (x0 + i8)))]) fun x256 =>
                N (TalOf_0b (n0 + 1) n1 c2 i3 (w64 (i4 + (1 : Int))) i5 i6 i7 i8 b9 i10 i11 x0 i13 (n0 + 1) x256)
              else none
            else none
          else N (TalOf_0b (n0 + 1) n1 c2 i3 (w64 (i4 + (1 : Int))) i5 i6 i7 i8 b9 i10 i11 x0 i13 (n0 + 1) (c15 ++ [(PV.int .i64 i10), (PV.int .i64 i11), (PV.int .i64 (0 : Int))]))
        else none
      else bif b9 then
        bif (decide (((0 : Int) ≤ (w64 ((n0 : Int) - (1 : Int)))) ∧ ((w64 ((n0 : Int) - (1 : Int))) < (n0 : Int)))) then
          bif (decide (n14 = n0)) then
            bindO (Gv.overO c15 (((Int.toNat (w64 ((n0 : Int) - (1 : Int)))) * 3) + 2) [(PV.int .i64 (w64 (x0 + i8)))]) fun x257 =>
            N (TalOf_0b n0 n1 c2 i3 (w64 (i4 + (1 : Int))) i5 i6 i7 i8 b9 i10 i11 x0 i13 n0 x257)
          else none
        else none
      else N (TalOf_0b n0 n1 c2 i3 (w64 (i4 + (1 : Int))) i5 i6 i7 i8 b9 i10 i11 x0 i13 n14 c15)
    else none
  else E (XalOf_0b (n0, i5, i6, i7, i8, b9, i10, i11, i12, i13, n14, c15))
theorem BalOf_0b_eq (F : FnT) (N : QO) (E : EO) (L0 : Q → Option YalOf_0) (n0 n1 : Nat) (c2 : List PV) (i3 i4 i5 i6 i7 i8 : Int) (b9 : Bool) (i10 i11 i12 i13 : Int) (n14 : Nat) (c15 : List PV) : semB (callP F EalOf 20) s57 (loopT [⟨0, YalOf_0, L0, XLalOf_0⟩]) 400 (blkIn a57.body 0) N E (TalOf_0b n0 n1 c2 i3 i4 i5 i6 i7 i8 b9 i10 i11 i12 i13 n14 c15) = BalOf_0b F N E L0 n0 n1 c2 i3 i4 i5 i6 i7 i8 b9 i10 i11 i12 i13 n14 c15 := by kernel_rfl
theorem RalOf_0b_of  (n0 n1 : Nat) (c2 : List PV) (i3 i4 i5 i6 i7 i8 : Int) (b9 : Bool) (i10 i11 i12 i13 : Int) (n14 : Nat) (c15 : List PV) {r : Ext × S} (h : BalOf_0b (Fn env) RalOf_0 exO LalOf_0 n0 n1 c2 i3 i4 i5 i6 i7 i8 b9 i10 i11 i12 i13 n14 c15 = some r) : RalOf_0 (TalOf_0b n0 n1 c2 i3 i4 i5 i6 i7 i8 b9 i10 i11 i12 i13 n14 c15) = some r :=
  lp_of EalOf_ok (by kernel_rfl) (lo_cons (lpO_ok UalOf) lo_nil) (by kernel_rfl) ((BalOf_0b_eq _ _ _ _ _ _ _ _ _ _ _ _ _ _ _ _ _ _ _ _).trans h)
def BalOf_0c (_F : FnT) (N : QO) (E : EO) (_L0 : Q → Option YalOf_0) (n0 : Nat) (c1 : List PV) (i2 i3 i4 i5 i6 i7 i8 : Int) : Option (Ext × S) :=
  bif (decide (i3 < i2)) then
    bif (decide (((0 : Int) ≤ i3) ∧ (i3 < (n0 : Int)))) then
      bindO (intC .i64 (c1[((Int.toNat i3) * 3)]?)) fun x0 =>
      bindO (intC .i64 (c1[(((Int.toNat i3) * 3) + 1)]?)) fun x1 =>
      bindO (intC .i64 (c1[((((Int.toNat i3) * 3) + 1) + 1)]?)) fun _x2 =>
      bif (decide (x1 ≥ i4)) then
        N (TalOf_0b 1 n0 c1 i2 (w64 (i3 + (1 : Int))) i4 i5 i6 i7 true (1 : Int) x0 x0 (-1 : Int) 1 [(PV.int .i64 (1 : Int)), (PV.int .i64 x0), (PV.int .i64 (w64 (x0 + i7)))])
      else N (TalOf_0c n0 c1 i2 (w64 (i3 + (1 : Int))) i4 i5 i6 i7 x0)
    else none
  else E (XalOf_0a (i4, i5, i6, i7, i8))
theorem BalOf_0c_eq (F : FnT) (N : QO) (E : EO) (L0 : Q → Option YalOf_0) (n0 : Nat) (c1 : List PV) (i2 i3 i4 i5 i6 i7 i8 : Int) : semB (callP F EalOf 20) s57 (loopT [⟨0, YalOf_0, L0, XLalOf_0⟩]) 400 (blkIn a57.body 0) N E (TalOf_0c n0 c1 i2 i3 i4 i5 i6 i7 i8) = BalOf_0c F N E L0 n0 c1 i2 i3 i4 i5 i6 i7 i8 := by kernel_rfl
theorem RalOf_0c_of  (n0 : Nat) (c1 : List PV) (i2 i3 i4 i5 i6 i7 i8 : Int) {r : Ext × S} (h : BalOf_0c (Fn env) RalOf_0 exO LalOf_0 n0 c1 i2 i3 i4 i5 i6 i7 i8 = some r) : RalOf_0 (TalOf_0c n0 c1 i2 i3 i4 i5 i6 i7 i8) = some r :=
  lp_of EalOf_ok (by kernel_rfl) (lo_cons (lpO_ok UalOf) lo_nil) (by kernel_rfl) ((BalOf_0c_eq _ _ _ _ _ _ _ _ _ _ _ _ _).trans h)
def talOf (F : FnT) (L0 : Q → Option YalOf_0) (p0_0 p0_1 p0_2 p0_3 : Int) (p1n : Nat) (p1c : List PV) : Option (((Nat) × (List PV)) × (Int)) :=
  bindO (F 47 (RSh.one (CK.int .i64)) [(PV.agg [(PV.int .i64 p0_0), (PV.int .i64 p0_1), (PV.int .i64 p0_2), (PV.int .i64 p0_3)])]) fun (y0 : (Int)) =>
  bindO (F 105 (RSh.one (CK.int .i64)) [(PV.list p1n p1c)]) fun (y1 : (Int)) =>
  bindO (F 73 (RSh.one (CK.int .i64)) [(PV.list 2 [(PV.int .i64 y0), (PV.int .i64 y1)])]) fun (y2 : (Int)) =>
  bif (y2 != (0 : Int)) then
    some ((0, []), y2)
  else bindO (L0 (TalOf_0a p1n p1c (p1n : Int) p0_0 p0_1 p0_2 p0_3 p0_0 p0_1 p0_2 p0_3)) fun z =>
  Sum.elim (fun _y3 =>
    some ((0, []), (0 : Int))) (fun y4 =>
    bif (decide (y4.2.2.2.2.2.2.2.2.2.2.1 = y4.1)) then
      some ((y4.1, y4.2.2.2.2.2.2.2.2.2.2.2), (0 : Int))
    else none) z
theorem talOf_eq (F : FnT) (L0 : Q → Option YalOf_0) (p0_0 p0_1 p0_2 p0_3 : Int) (p1n : Nat) (p1c : List PV) : semF (callP F EalOf 20) s57 (loopT [⟨0, YalOf_0, L0, XLalOf_0⟩]) 400 a57 [PV.agg [PV.int .i64 p0_0, PV.int .i64 p0_1, PV.int .i64 p0_2, PV.int .i64 p0_3], PV.list p1n p1c] (fun rv => decR (RSh.tup [(Prod.mk false [CK.list]), (Prod.mk false [(CK.int .i64)])]) rv.pv) = talOf F L0 p0_0 p0_1 p0_2 p0_3 p1n p1c := by kernel_rfl
noncomputable abbrev FalOf (args : List PV) := Fn env 57 (RSh.tup [(Prod.mk false [CK.list]), (Prod.mk false [(CK.int .i64)])]) args
theorem FalOf_of  (p0_0 p0_1 p0_2 p0_3 : Int) (p1n : Nat) (p1c : List PV) {res : (((Nat) × (List PV)) × (Int))} (h : talOf (Fn env) LalOf_0 p0_0 p0_1 p0_2 p0_3 p1n p1c = some res) : FalOf [PV.agg [PV.int .i64 p0_0, PV.int .i64 p0_1, PV.int .i64 p0_2, PV.int .i64 p0_3], PV.list p1n p1c] = some res :=
  fn_of EalOf_ok rfl rfl (lo_cons (lpO_ok UalOf) lo_nil) ((talOf_eq _ _ _ _ _ _ _ _).trans h)
end Gv
