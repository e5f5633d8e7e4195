/- What the functions do, round by round: ZL3. -/
import Derived.Test.YtpbpkbckgifhdaaGreatGvEnv
namespace Gv
open Go
set_option maxRecDepth 100000
def Elaw3 : List Entry := [.out 6 (RSh.one CK.bool), .out 7 (RSh.one CK.bool), .out 8 (RSh.one (CK.int .i64)), .out 10 (RSh.one CK.list), .out 9 (RSh.tup [(Prod.mk true [CK.list, CK.list, CK.list]), (Prod.mk false [(CK.int .i64)])]), .out 11 (RSh.tup [(Prod.mk false [CK.list]), (Prod.mk false [(CK.int .i64)]), (Prod.mk false [(CK.int .i64)])]), .out 12 (RSh.tup [(Prod.mk false [CK.list]), (Prod.mk false [(CK.int .i64)])]), .out 14 (RSh.agg [CK.list, CK.list, CK.list]), .out 13 (RSh.tup [(Prod.mk false [(CK.int .i64)]), (Prod.mk false [(CK.int .i64)])]), .out 15 (RSh.one CK.bool), .out 16 (RSh.one CK.list), .out 17 (RSh.one (CK.int .i64)), .out 18 (RSh.one (CK.int .i64)), .out 19 (RSh.one CK.bool)]
theorem Elaw3_ok : ∀ e ∈ Elaw3, EntOK env e := (ent_out (ent_out (ent_out (ent_out (ent_out (ent_out (ent_out (ent_out (ent_out (ent_out (ent_out (ent_out (ent_out (ent_out ent_nil))))))))))))))
def Tlaw3_0a (n0 : Nat) (c1 : List PV) (n2 : Nat) (c3 : List PV) (i4 : Int) (n5 : Nat) (c6 : List PV) (n7 : Nat) (c8 : List PV) (i9 : Int) : Q := ⟨(tm 152 [(0, (AV.p (PV.list n0 c1))), (7, (AV.p (PV.list n2 c3))), (8, (AV.p (PV.int .i64 i4))), (10, (AV.p (PV.list n5 c6))), (14, (AV.p (PV.list n7 c8))), (16, (AV.p (PV.int .i64 i9)))]), (mm 152 [])⟩
def Xlaw3_0a (_y : Unit) : Ext × Q := (Ext.normal, ⟨(tm 152 []), (mm 152 [])⟩)
def Ilaw3_0a (_q : Ext × S) : Unit := ()
def Xlaw3_0b (_y : Unit) : Ext × Q := (Ext.ret, ⟨(tm 152 [(4, (AV.p (PV.bool false)))]), (mm 152 [])⟩)
def Ilaw3_0b (_q : Ext × S) : Unit := ()
abbrev Ylaw3_0 : Type := (Unit) ⊕ ((Unit))
def XLlaw3_0 : XL Ylaw3_0 := .more Xlaw3_0a (.one Xlaw3_0b)
def Ilaw3_0 (q : Ext × S) : Ylaw3_0 := bif (cE q.1 == 0) then (Sum.inl (Ilaw3_0a q)) else (Sum.inr (Ilaw3_0b q))
theorem XIlaw3_0a (y) : Ilaw3_0 (xe (Xlaw3_0a y)) = (Sum.inl y) := by kernel_rfl
theorem XIlaw3_0b (y) : Ilaw3_0 (xe (Xlaw3_0b y)) = (Sum.inr y) := by kernel_rfl
theorem XIlaw3_0 (y) : Ilaw3_0 (xe (XLlaw3_0.fn y)) = y := (match y with | .inl y => XIlaw3_0a y | .inr y => XIlaw3_0b y)
noncomputable abbrev Llaw3_0 : Q → Option Ylaw3_0 := lpO env a3.body 0 XLlaw3_0
noncomputable abbrev Rlaw3_0 : Q → Option (Ext × S) := lpR env a3.body 0
theorem Llaw3_0a_of {s y} (h : Rlaw3_0 s = exO (Xlaw3_0a y)) : Llaw3_0 s = some (Sum.inl y) := lpO_of Ilaw3_0 XIlaw3_0 (y := (Sum.inl y)) h
def Tlaw3_2a (n0 : Nat) (c1 : List PV) (n2 : Nat) (c3 : List PV) (i4 : Int) (n5 : Nat) (c6 : List PV) (n7 : Nat) (c8 : List PV) (i9 : Int) (b10 : Bool) (i11 : Int) : Q := ⟨(tm 152 [(0, (AV.p (PV.list n0 c1))), (7, (AV.p (PV.list n2 c3))), (8, (AV.p (PV.int .i64 i4))), (10, (AV.p (PV.list n5 c6))), (14, (AV.p (PV.list n7 c8))), (16, (AV.p (PV.int .i64 i9))), (17, (AV.p (PV.bool b10))), (18, (AV.p (PV.int .i64 i11)))]), (mm 152 [])⟩
def Xlaw3_2a (y : Nat × List PV × Nat × List PV × Int × Nat × List PV × Nat × List PV × Int × Bool) : Ext × Q := (Ext.normal, ⟨(tm 152 [(0, (AV.p (PV.list y.1 y.2.1))), (7, (AV.p (PV.list y.2.2.1 y.2.2.2.1))), (8, (AV.p (PV.int .i64 y.2.2.2.2.1))), (10, (AV.p (PV.list y.2.2.2.2.2.1 y.2.2.2.2.2.2.1))), (14, (AV.p (PV.list y.2.2.2.2.2.2.2.1 y.2.2.2.2.2.2.2.2.1))), (16, (AV.p (PV.int .i64 y.2.2.2.2.2.2.2.2.2.1))), (17, (AV.p (PV.bool y.2.2.2.2.2.2.2.2.2.2)))]), (mm 152 [])⟩)
def Ilaw3_2a (q : Ext × S) : Nat × List PV × Nat × List PV × Int × Nat × List PV × Nat × List PV × Int × Bool := ((pP_list0 (pA_p (avT q.2 0))), (pP_list1 (pA_p (avT q.2 0))), (pP_list0 (pA_p (avT q.2 7))), (pP_list1 (pA_p (avT q.2 7))), (pP_int1 (pA_p (avT q.2 8))), (pP_list0 (pA_p (avT q.2 10))), (pP_list1 (pA_p (avT q.2 10))), (pP_list0 (pA_p (avT q.2 14))), (pP_list1 (pA_p (avT q.2 14))), (pP_int1 (pA_p (avT q.2 16))), (pP_bool0 (pA_p (avT q.2 17))))
abbrev Ylaw3_2 : Type := Nat × List PV × Nat × List PV × Int × Nat × List PV × Nat × List PV × Int × Bool
def XLlaw3_2 : XL Ylaw3_2 := .one Xlaw3_2a
def Ilaw3_2 (q : Ext × S) : Ylaw3_2 := (Ilaw3_2a q)
theorem XIlaw3_2a (y) : Ilaw3_2 (xe (Xlaw3_2a y)) = y := by kernel_rfl
theorem XIlaw3_2 (y) : Ilaw3_2 (xe (XLlaw3_2.fn y)) = y := XIlaw3_2a y
noncomputable abbrev Llaw3_2 : Q → Option Ylaw3_2 := lpO env a3.body 2 XLlaw3_2
noncomputable abbrev Rlaw3_2 : Q → Option (Ext × S) := lpR env a3.body 2
theorem Llaw3_2a_of {s y} (h : Rlaw3_2 s = exO (Xlaw3_2a y)) : Llaw3_2 s = some y := lpO_of Ilaw3_2 XIlaw3_2 (y := y) h
def Tlaw3_z67a (n0 : Nat) (c1 : List PV) (i2 : Int) : Q := ⟨(tm 152 [(0, (AV.p (PV.list n0 c1))), (1, (AV.p (PV.int .i64 i2)))]), (mm 152 [])⟩
def Xlaw3_z67a (_y : Unit) : Ext × Q := (Ext.ret, ⟨(tm 152 [(4, (AV.p (PV.bool true)))]), (mm 152 [])⟩)
def Ilaw3_z67a (_q : Ext × S) : Unit := ()
def Xlaw3_z67b (y : Nat × List PV × Int) : Ext × Q := (Ext.normal, ⟨(tm 152 [(0, (AV.p (PV.list y.1 y.2.1))), (1, (AV.p (PV.int .i64 y.2.2)))]), (mm 152 [])⟩)
def Ilaw3_z67b (q : Ext × S) : Nat × List PV × Int := ((pP_list0 (pA_p (avT q.2 0))), (pP_list1 (pA_p (avT q.2 0))), (pP_int1 (pA_p (avT q.2 1))))
abbrev Ylaw3_z67 : Type := (Unit) ⊕ ((Nat × List PV × Int))
def XLlaw3_z67 : XL Ylaw3_z67 := .more Xlaw3_z67a (.one Xlaw3_z67b)
def Ilaw3_z67 (q : Ext × S) : Ylaw3_z67 := bif (cE q.1 == 2) then (Sum.inl (Ilaw3_z67a q)) else (Sum.inr (Ilaw3_z67b q))
theorem XIlaw3_z67a (y) : Ilaw3_z67 (xe (Xlaw3_z67a y)) = (Sum.inl y) := by kernel_rfl
theorem XIlaw3_z67b (y) : Ilaw3_z67 (xe (Xlaw3_z67b y)) = (Sum.inr y) := by kernel_rfl
theorem XIlaw3_z67 (y) : Ilaw3_z67 (xe (XLlaw3_z67.fn y)) = y := (match y with | .inl y => XIlaw3_z67a y | .inr y => XIlaw3_z67b y)
noncomputable abbrev Llaw3_z67 : Q → Option Ylaw3_z67 := lpO env a3.body 1000067 XLlaw3_z67
noncomputable abbrev Rlaw3_z67 : Q → Option (Ext × S) := lpR env a3.body 1000067
theorem Llaw3_z67a_of {s y} (h : Rlaw3_z67 s = exO (Xlaw3_z67a y)) : Llaw3_z67 s = some (Sum.inl y) := lpO_of Ilaw3_z67 XIlaw3_z67 (y := (Sum.inl y)) h
theorem Llaw3_z67b_of {s y} (h : Rlaw3_z67 s = exO (Xlaw3_z67b y)) : Llaw3_z67 s = some (Sum.inr y) := lpO_of Ilaw3_z67 XIlaw3_z67 (y := (Sum.inr y)) h
def Tlaw3_z52a (n0 : Nat) (c1 : List PV) (i2 i3 : Int) (n4 : Nat) (c5 : List PV) (i6 i7 : Int) (n8 : Nat) (c9 : List PV) (i10 i11 i12 : Int) (n13 : Nat) (c14 : List PV) (n15 : Nat) (c16 : List PV) (n17 : Nat) (c18 : List PV) : Q := ⟨(tm 152 [(0, (AV.p (PV.list n0 c1))), (1, (AV.p (PV.int .i64 i2))), (5, (AV.loc 5 0)), (6, (AV.p (PV.int .i64 i3))), (7, (AV.p (PV.list n4 c5))), (8, (AV.p (PV.int .i64 i6))), (9, (AV.p (PV.int .i64 i7))), (10, (AV.p (PV.list n8 c9))), (11, (AV.p (PV.int .i64 i10))), (12, (AV.p (PV.int .i64 i11))), (13, (AV.p (PV.int .i64 i12)))]), (mm 152 [(5, (Bk.cells true [(AV.p (PV.list n13 c14)), (AV.p (PV.list n15 c16)), (AV.p (PV.list n17 c18))]))])⟩
def Xlaw3_z52a (_y : Unit) : Ext × Q := (Ext.ret, ⟨(tm 152 [(4, (AV.p (PV.bool false)))]), (mm 152 [])⟩)
def Ilaw3_z52a (_q : Ext × S) : Unit := ()
def Xlaw3_z52b (y : Nat × List PV × Int × Nat × List PV × Int × Nat × List PV) : Ext × Q := (Ext.normal, ⟨(tm 152 [(0, (AV.p (PV.list y.1 y.2.1))), (1, (AV.p (PV.int .i64 y.2.2.1))), (7, (AV.p (PV.list y.2.2.2.1 y.2.2.2.2.1))), (8, (AV.p (PV.int .i64 y.2.2.2.2.2.1))), (10, (AV.p (PV.list y.2.2.2.2.2.2.1 y.2.2.2.2.2.2.2)))]), (mm 152 [])⟩)
def Ilaw3_z52b (q : Ext × S) : Nat × List PV × Int × Nat × List PV × Int × Nat × List PV := ((pP_list0 (pA_p (avT q.2 0))), (pP_list1 (pA_p (avT q.2 0))), (pP_int1 (pA_p (avT q.2 1))), (pP_list0 (pA_p (avT q.2 7))), (pP_list1 (pA_p (avT q.2 7))), (pP_int1 (pA_p (avT q.2 8))), (pP_list0 (pA_p (avT q.2 10))), (pP_list1 (pA_p (avT q.2 10))))
abbrev Ylaw3_z52 : Type := (Unit) ⊕ ((Nat × List PV × Int × Nat × List PV × Int × Nat × List PV))
def XLlaw3_z52 : XL Ylaw3_z52 := .more Xlaw3_z52a (.one Xlaw3_z52b)
def Ilaw3_z52 (q : Ext × S) : Ylaw3_z52 := bif (cE q.1 == 2) then (Sum.inl (Ilaw3_z52a q)) else (Sum.inr (Ilaw3_z52b q))
theorem XIlaw3_z52a (y) : Ilaw3_z52 (xe (Xlaw3_z52a y)) = (Sum.inl y) := by kernel_rfl
theorem XIlaw3_z52b (y) : Ilaw3_z52 (xe (Xlaw3_z52b y)) = (Sum.inr y) := by kernel_rfl
theorem XIlaw3_z52 (y) : Ilaw3_z52 (xe (XLlaw3_z52.fn y)) = y := (match y with | .inl y => XIlaw3_z52a y | .inr y => XIlaw3_z52b y)
noncomputable abbrev Llaw3_z52 : Q → Option Ylaw3_z52 := lpO env a3.body 1000052 XLlaw3_z52
noncomputable abbrev Rlaw3_z52 : Q → Option (Ext × S) := lpR env a3.body 1000052
theorem Llaw3_z52b_of {s y} (h : Rlaw3_z52 s = exO (Xlaw3_z52b y)) : Llaw3_z52 s = some (Sum.inr y) := lpO_of Ilaw3_z52 XIlaw3_z52 (y := (Sum.inr y)) h
def Tlaw3_z41a (n0 : Nat) (c1 : List PV) (n2 : Nat) (c3 : List PV) (i4 : Int) (n5 : Nat) (c6 : List PV) (n7 : Nat) (c8 : List PV) (n9 : Nat) (c10 : List PV) : Q := ⟨(tm 152 [(0, (AV.p (PV.list n0 c1))), (7, (AV.p (PV.list n2 c3))), (8, (AV.p (PV.int .i64 i4))), (10, (AV.p (PV.list n5 c6))), (14, (AV.p (PV.list n7 c8))), (15, (AV.p (PV.list n9 c10)))]), (mm 152 [])⟩
def Xlaw3_z41a (_y : Unit) : Ext × Q := (Ext.ret, ⟨(tm 152 [(4, (AV.p (PV.bool false)))]), (mm 152 [])⟩)
def Ilaw3_z41a (_q : Ext × S) : Unit := ()
def Xlaw3_z41b (y : Nat × List PV × Nat × List PV × Int × Nat × List PV × Nat × List PV) : Ext × Q := (Ext.normal, ⟨(tm 152 [(0, (AV.p (PV.list y.1 y.2.1))), (7, (AV.p (PV.list y.2.2.1 y.2.2.2.1))), (8, (AV.p (PV.int .i64 y.2.2.2.2.1))), (10, (AV.p (PV.list y.2.2.2.2.2.1 y.2.2.2.2.2.2.1))), (14, (AV.p (PV.list y.2.2.2.2.2.2.2.1 y.2.2.2.2.2.2.2.2)))]), (mm 152 [])⟩)
def Ilaw3_z41b (q : Ext × S) : Nat × List PV × Nat × List PV × Int × Nat × List PV × Nat × List PV := ((pP_list0 (pA_p (avT q.2 0))), (pP_list1 (pA_p (avT q.2 0))), (pP_list0 (pA_p (avT q.2 7))), (pP_list1 (pA_p (avT q.2 7))), (pP_int1 (pA_p (avT q.2 8))), (pP_list0 (pA_p (avT q.2 10))), (pP_list1 (pA_p (avT q.2 10))), (pP_list0 (pA_p (avT q.2 14))), (pP_list1 (pA_p (avT q.2 14))))
abbrev Ylaw3_z41 : Type := (Unit) ⊕ ((Nat × List PV × Nat × List PV × Int × Nat × List PV × Nat × List PV))
def XLlaw3_z41 : XL Ylaw3_z41 := .more Xlaw3_z41a (.one Xlaw3_z41b)
def Ilaw3_z41 (q : Ext × S) : Ylaw3_z41 := bif (cE q.1 == 2) then (Sum.inl (Ilaw3_z41a q)) else (Sum.inr (Ilaw3_z41b q))
theorem XIlaw3_z41a (y) : Ilaw3_z41 (xe (Xlaw3_z41a y)) = (Sum.inl y) := by kernel_rfl
theorem XIlaw3_z41b (y) : Ilaw3_z41 (xe (Xlaw3_z41b y)) = (Sum.inr y) := by kernel_rfl
theorem XIlaw3_z41 (y) : Ilaw3_z41 (xe (XLlaw3_z41.fn y)) = y := (match y with | .inl y => XIlaw3_z41a y | .inr y => XIlaw3_z41b y)
noncomputable abbrev Llaw3_z41 : Q → Option Ylaw3_z41 := lpO env a3.body 1000041 XLlaw3_z41
noncomputable abbrev Rlaw3_z41 : Q → Option (Ext × S) := lpR env a3.body 1000041
theorem Llaw3_z41b_of {s y} (h : Rlaw3_z41 s = exO (Xlaw3_z41b y)) : Llaw3_z41 s = some (Sum.inr y) := lpO_of Ilaw3_z41 XIlaw3_z41 (y := (Sum.inr y)) h
theorem Ulaw3 : uniq ((blocksOf a3.body).map (·.1)) = true := by kernel_rfl
def Blaw3_0a (F : FnT) (N : QO) (E : EO) (_L0 : QQ Ylaw3_0) (L2 : QQ Ylaw3_2) (_L1000067 : QQ Ylaw3_z67) (_L1000052 : QQ Ylaw3_z52) (_L1000041 : QQ Ylaw3_z41) (n0 : Nat) (c1 : List PV) (n2 : Nat) (c3 : List PV) (i4 : Int) (n5 : Nat) (c6 : List PV) (n7 : Nat) (c8 : List PV) (i9 : Int) : OX :=
 bif (decide (i9 < (n0 : Int))) then
  bindO (L2 (Tlaw3_2a n0 c1 n2 c3 i4 n5 c6 n7 c8 i9 true (0 : Int))) fun y0 =>
  bindO (F 19 (RSh.one CK.bool) [(PV.list y0.2.2.2.2.2.1 y0.2.2.2.2.2.2.1), (PV.int .i64 y0.2.2.2.2.2.2.2.2.2.1)]) fun (y1 : (Bool)) =>
  bif y1 then
   bif y0.2.2.2.2.2.2.2.2.2.2 then
    N (Tlaw3_0a y0.1 y0.2.1 y0.2.2.1 y0.2.2.2.1 y0.2.2.2.2.1 y0.2.2.2.2.2.1 y0.2.2.2.2.2.2.1 y0.2.2.2.2.2.2.2.1 y0.2.2.2.2.2.2.2.2.1 (w64 (y0.2.2.2.2.2.2.2.2.2.1 + (1 : Int))))
   else E (Xlaw3_0b ())
  else bif y0.2.2.2.2.2.2.2.2.2.2 then
   E (Xlaw3_0b ())
  else N (Tlaw3_0a y0.1 y0.2.1 y0.2.2.1 y0.2.2.2.1 y0.2.2.2.2.1 y0.2.2.2.2.2.1 y0.2.2.2.2.2.2.1 y0.2.2.2.2.2.2.2.1 y0.2.2.2.2.2.2.2.2.1 (w64 (y0.2.2.2.2.2.2.2.2.2.1 + (1 : Int))))
 else E (Xlaw3_0a ())
abbrev qZL3_1 (L0 : QQ Ylaw3_0) (L2 : QQ Ylaw3_2) (Lz67 : QQ Ylaw3_z67) (Lz52 : QQ Ylaw3_z52) (Lz41 : QQ Ylaw3_z41) : List LoopO := [⟨0, Ylaw3_0, L0, XLlaw3_0⟩, ⟨2, Ylaw3_2, L2, XLlaw3_2⟩, ⟨1000067, Ylaw3_z67, Lz67, XLlaw3_z67⟩, ⟨1000052, Ylaw3_z52, Lz52, XLlaw3_z52⟩, ⟨1000041, Ylaw3_z41, Lz41, XLlaw3_z41⟩]
theorem Blaw3_0a_eq (F N E L0 L2 Lz67 Lz52 Lz41 n0 c1 n2 c3 i4 n5 c6 n7 c8 i9) : semB (callP F Elaw3 20) s3 (loopT (qZL3_1 L0 L2 Lz67 Lz52 Lz41)) 400 (blkIn a3.body 0) N E (Tlaw3_0a n0 c1 n2 c3 i4 n5 c6 n7 c8 i9) = Blaw3_0a F N E L0 L2 Lz67 Lz52 Lz41 n0 c1 n2 c3 i4 n5 c6 n7 c8 i9 := by kernel_rfl
theorem oqZL3_1 : ∀ o ∈ qZL3_1 Llaw3_0 Llaw3_2 Llaw3_z67 Llaw3_z52 Llaw3_z41, LoopOOK env a3.body o := lo_cons (lpO_ok Ulaw3) (lo_cons (lpO_ok Ulaw3) (lo_cons (lpO_ok Ulaw3) (lo_cons (lpO_ok Ulaw3) (lo_cons (lpO_ok Ulaw3) lo_nil))))
theorem Rlaw3_0a_of (n0 c1 n2 c3 i4 n5 c6 n7 c8 i9) {r} (h : Blaw3_0a (Fn env) Rlaw3_0 exO Llaw3_0 Llaw3_2 Llaw3_z67 Llaw3_z52 Llaw3_z41 n0 c1 n2 c3 i4 n5 c6 n7 c8 i9 = some r) : Rlaw3_0 (Tlaw3_0a n0 c1 n2 c3 i4 n5 c6 n7 c8 i9) = some r :=
 lp_of Elaw3_ok (by kernel_rfl) oqZL3_1 (by kernel_rfl) ((Blaw3_0a_eq _ _ _ _ _ _ _ _ _ _ _ _ _ _ _ _ _ _).trans h)
def Blaw3_2a (F : FnT) (N : QO) (E : EO) (_L0 : QQ Ylaw3_0) (_L2 : QQ Ylaw3_2) (_L1000067 : QQ Ylaw3_z67) (_L1000052 : QQ Ylaw3_z52) (_L1000041 : QQ Ylaw3_z41) (n0 : Nat) (c1 : List PV) (n2 : Nat) (c3 : List PV) (i4 : Int) (n5 : Nat) (c6 : List PV) (n7 : Nat) (c8 : List PV) (i9 : Int) (b10 : Bool) (i11 : Int) : OX :=
 bif (decide (i11 < (n7 : Int))) then
  bif b10 then
   bif (decide (((0 : Int) ≤ i11) ∧ (i11 < (n7 : Int)))) then
    bindO (listC (c8[((Int.toNat i11) * 1)]?)) fun x0 =>
    bindO (F 18 (RSh.one (CK.int .i64)) [(PV.list n0 c1), (PV.list x0.1 x0.2)]) fun (y1 : (Int)) =>
    bif (decide (y1 > i4)) then
     N (Tlaw3_2a n0 c1 n2 c3 i4 n5 c6 n7 c8 i9 true (w64 (i11 + (1 : Int))))
    else bif (decide (((0 : Int) ≤ i11) ∧ (i11 < (n7 : Int)))) then
     bindO (listC (c8[((Int.toNat i11) * 1)]?)) fun x2 =>
     bif (decide (((0 : Int) ≤ i9) ∧ (i9 < (x2.1 : Int)))) then
      bindO (intC .i64 (x2.2[((Int.toNat i9) * 1)]?)) fun x3 =>
      bif (decide (((0 : Int) ≤ i9) ∧ (i9 < (n2 : Int)))) then
       bindO (intC .i64 (c3[((Int.toNat i9) * 1)]?)) fun x4 =>
       bif (x3 == x4) then
        N (Tlaw3_2a n0 c1 n2 c3 i4 n5 c6 n7 c8 i9 true (w64 (i11 + (1 : Int))))
       else N (Tlaw3_2a n0 c1 n2 c3 i4 n5 c6 n7 c8 i9 false (w64 (i11 + (1 : Int))))
      else none
     else none
    else none
   else none
  else N (Tlaw3_2a n0 c1 n2 c3 i4 n5 c6 n7 c8 i9 false (w64 (i11 + (1 : Int))))
 else E (Xlaw3_2a (n0, c1, n2, c3, i4, n5, c6, n7, c8, i9, b10))
theorem Blaw3_2a_eq (F N E L0 L2 Lz67 Lz52 Lz41 n0 c1 n2 c3 i4 n5 c6 n7 c8 i9 b10 i11) : semB (callP F Elaw3 20) s3 (loopT (qZL3_1 L0 L2 Lz67 Lz52 Lz41)) 400 (blkIn a3.body 2) N E (Tlaw3_2a n0 c1 n2 c3 i4 n5 c6 n7 c8 i9 b10 i11) = Blaw3_2a F N E L0 L2 Lz67 Lz52 Lz41 n0 c1 n2 c3 i4 n5 c6 n7 c8 i9 b10 i11 := by kernel_rfl
theorem Rlaw3_2a_of (n0 c1 n2 c3 i4 n5 c6 n7 c8 i9 b10 i11) {r} (h : Blaw3_2a (Fn env) Rlaw3_2 exO Llaw3_0 Llaw3_2 Llaw3_z67 Llaw3_z52 Llaw3_z41 n0 c1 n2 c3 i4 n5 c6 n7 c8 i9 b10 i11 = some r) : Rlaw3_2 (Tlaw3_2a n0 c1 n2 c3 i4 n5 c6 n7 c8 i9 b10 i11) = some r :=
 lp_of Elaw3_ok (by kernel_rfl) oqZL3_1 (by kernel_rfl) ((Blaw3_2a_eq _ _ _ _ _ _ _ _ _ _ _ _ _ _ _ _ _ _ _ _).trans h)
def Blaw3_z67a (F : FnT) (_N : QO) (E : EO) (_L0 : QQ Ylaw3_0) (_L2 : QQ Ylaw3_2) (_L1000067 : QQ Ylaw3_z67) (_L1000052 : QQ Ylaw3_z52) (_L1000041 : QQ Ylaw3_z41) (n0 : Nat) (c1 : List PV) (i2 : Int) : OX :=
 bindO (F 7 (RSh.one CK.bool) [(PV.list n0 c1)]) fun (y0 : (Bool)) =>
 bif y0 then
  bindO (F 8 (RSh.one (CK.int .i64)) [(PV.list n0 c1)]) fun (y1 : (Int)) =>
  bif (y1 != (0 : Int)) then
   E (Xlaw3_z67a ())
  else E (Xlaw3_z67b (n0, c1, i2))
 else E (Xlaw3_z67a ())
theorem Blaw3_z67a_eq (F N E L0 L2 Lz67 Lz52 Lz41 n0 c1 i2) : semN (callP F Elaw3 20) s3 (loopT (qZL3_1 L0 L2 Lz67 Lz52 Lz41)) 400 (blkIn a3.body 1000067) E (Tlaw3_z67a n0 c1 i2) = Blaw3_z67a F N E L0 L2 Lz67 Lz52 Lz41 n0 c1 i2 := by kernel_rfl
theorem Rlaw3_z67a_of (n0 c1 i2) {r} (h : Blaw3_z67a (Fn env) Rlaw3_z67 exO Llaw3_0 Llaw3_2 Llaw3_z67 Llaw3_z52 Llaw3_z41 n0 c1 i2 = some r) : Rlaw3_z67 (Tlaw3_z67a n0 c1 i2) = some r :=
 nd_of Elaw3_ok (by kernel_rfl) oqZL3_1 (by kernel_rfl) ((Blaw3_z67a_eq _ Rlaw3_z67 _ _ _ _ _ _ _ _ _).trans h)
def Blaw3_z52a (F : FnT) (_N : QO) (E : EO) (_L0 : QQ Ylaw3_0) (_L2 : QQ Ylaw3_2) (_L1000067 : QQ Ylaw3_z67) (_L1000052 : QQ Ylaw3_z52) (_L1000041 : QQ Ylaw3_z41) (n0 : Nat) (c1 : List PV) (i2 i3 : Int) (n4 : Nat) (c5 : List PV) (i6 i7 : Int) (n8 : Nat) (c9 : List PV) (i10 i11 i12 : Int) (n13 : Nat) (c14 : List PV) (_n15 : Nat) (_c16 : List PV) (_n17 : Nat) (_c18 : List PV) : OX :=
 bif (i3 != (0 : Int)) then
  E (Xlaw3_z52a ())
 else bif (i7 != (0 : Int)) then
  E (Xlaw3_z52a ())
 else bif (i10 != (0 : Int)) then
  E (Xlaw3_z52a ())
 else bif (i12 != (0 : Int)) then
  E (Xlaw3_z52a ())
 else bif (i11 != (0 : Int)) then
  E (Xlaw3_z52a ())
 else bindO (F 15 (RSh.one CK.bool) [(PV.list n13 c14), (PV.list n4 c5)]) fun (y0 : (Bool)) =>
 bif y0 then
  bif ((n4 : Int) != (n0 : Int)) then
   E (Xlaw3_z52a ())
  else E (Xlaw3_z52b (n0, c1, i2, n4, c5, i6, n8, c9))
 else E (Xlaw3_z52a ())
theorem Blaw3_z52a_eq (F N E L0 L2 Lz67 Lz52 Lz41 n0 c1 i2 i3 n4 c5 i6 i7 n8 c9 i10 i11 i12 n13 c14 n15 c16 n17 c18) : semN (callP F Elaw3 20) s3 (loopT (qZL3_1 L0 L2 Lz67 Lz52 Lz41)) 400 (blkIn a3.body 1000052) E (Tlaw3_z52a n0 c1 i2 i3 n4 c5 i6 i7 n8 c9 i10 i11 i12 n13 c14 n15 c16 n17 c18) = Blaw3_z52a F N E L0 L2 Lz67 Lz52 Lz41 n0 c1 i2 i3 n4 c5 i6 i7 n8 c9 i10 i11 i12 n13 c14 n15 c16 n17 c18 := by kernel_rfl
theorem Rlaw3_z52a_of (n0 c1 i2 i3 n4 c5 i6 i7 n8 c9 i10 i11 i12 n13 c14 n15 c16 n17 c18) {r} (h : Blaw3_z52a (Fn env) Rlaw3_z52 exO Llaw3_0 Llaw3_2 Llaw3_z67 Llaw3_z52 Llaw3_z41 n0 c1 i2 i3 n4 c5 i6 i7 n8 c9 i10 i11 i12 n13 c14 n15 c16 n17 c18 = some r) : Rlaw3_z52 (Tlaw3_z52a n0 c1 i2 i3 n4 c5 i6 i7 n8 c9 i10 i11 i12 n13 c14 n15 c16 n17 c18) = some r :=
 nd_of Elaw3_ok (by kernel_rfl) oqZL3_1 (by kernel_rfl) ((Blaw3_z52a_eq _ Rlaw3_z52 _ _ _ _ _ _ _ _ _ _ _ _ _ _ _ _ _ _ _ _ _ _ _ _ _).trans h)
def Blaw3_z41a (F : FnT) (_N : QO) (E : EO) (_L0 : QQ Ylaw3_0) (_L2 : QQ Ylaw3_2) (_L1000067 : QQ Ylaw3_z67) (_L1000052 : QQ Ylaw3_z52) (_L1000041 : QQ Ylaw3_z41) (n0 : Nat) (c1 : List PV) (n2 : Nat) (c3 : List PV) (i4 : Int) (n5 : Nat) (c6 : List PV) (n7 : Nat) (c8 : List PV) (n9 : Nat) (c10 : List PV) : OX :=
 bindO (F 18 (RSh.one (CK.int .i64)) [(PV.list n0 c1), (PV.list n2 c3)]) fun (y0 : (Int)) =>
 bif (y0 != i4) then
  E (Xlaw3_z41a ())
 else bindO (F 18 (RSh.one (CK.int .i64)) [(PV.list n0 c1), (PV.list n9 c10)]) fun (y1 : (Int)) =>
 bif (decide (y1 < i4)) then
  E (Xlaw3_z41a ())
 else E (Xlaw3_z41b (n0, c1, n2, c3, i4, n5, c6, n7, c8))
theorem Blaw3_z41a_eq (F N E L0 L2 Lz67 Lz52 Lz41 n0 c1 n2 c3 i4 n5 c6 n7 c8 n9 c10) : semN (callP F Elaw3 20) s3 (loopT (qZL3_1 L0 L2 Lz67 Lz52 Lz41)) 400 (blkIn a3.body 1000041) E (Tlaw3_z41a n0 c1 n2 c3 i4 n5 c6 n7 c8 n9 c10) = Blaw3_z41a F N E L0 L2 Lz67 Lz52 Lz41 n0 c1 n2 c3 i4 n5 c6 n7 c8 n9 c10 := by kernel_rfl
theorem Rlaw3_z41a_of (n0 c1 n2 c3 i4 n5 c6 n7 c8 n9 c10) {r} (h : Blaw3_z41a (Fn env) Rlaw3_z41 exO Llaw3_0 Llaw3_2 Llaw3_z67 Llaw3_z52 Llaw3_z41 n0 c1 n2 c3 i4 n5 c6 n7 c8 n9 c10 = some r) : Rlaw3_z41 (Tlaw3_z41a n0 c1 n2 c3 i4 n5 c6 n7 c8 n9 c10) = some r :=
 nd_of Elaw3_ok (by kernel_rfl) oqZL3_1 (by kernel_rfl) ((Blaw3_z41a_eq _ Rlaw3_z41 _ _ _ _ _ _ _ _ _ _ _ _ _ _ _ _ _).trans h)
def tlaw3 (F : FnT) (L0 : QQ Ylaw3_0) (_L2 : QQ Ylaw3_2) (Lz67 : QQ Ylaw3_z67) (Lz52 : QQ Ylaw3_z52) (Lz41 : QQ Ylaw3_z41) (p0n : Nat) (p0c : List PV) (p1 : Int) : Option (Bool) :=
 bindO (F 6 (RSh.one CK.bool) []) fun (y0 : (Bool)) =>
 bif y0 then
  bindO (Lz67 (Tlaw3_z67a p0n p0c p1)) fun z =>
  Sum.elim (fun _y1 =>
   some true) (fun y2 =>
   bindO (F 10 (RSh.one CK.list) [(PV.list y2.1 y2.2.1)]) fun (y3 : ((Nat) × (List PV))) =>
   bindO (F 9 (RSh.tup [(Prod.mk true [CK.list, CK.list, CK.list]), (Prod.mk false [(CK.int .i64)])]) [(PV.list y3.1 y3.2)]) fun (y4 : (((Nat) × (List PV)) × (((Nat) × (List PV)) × (((Nat) × (List PV)) × (Int))))) =>
   bindO (F 10 (RSh.one CK.list) [(PV.list y2.1 y2.2.1)]) fun (y5 : ((Nat) × (List PV))) =>
   bindO (F 11 (RSh.tup [(Prod.mk false [CK.list]), (Prod.mk false [(CK.int .i64)]), (Prod.mk false [(CK.int .i64)])]) [(PV.list y5.1 y5.2)]) fun (y6 : (((Nat) × (List PV)) × ((Int) × (Int)))) =>
   bindO (F 10 (RSh.one CK.list) [(PV.list y2.1 y2.2.1)]) fun (y7 : ((Nat) × (List PV))) =>
   bindO (F 12 (RSh.tup [(Prod.mk false [CK.list]), (Prod.mk false [(CK.int .i64)])]) [(PV.list y7.1 y7.2)]) fun (y8 : (((Nat) × (List PV)) × (Int))) =>
   bindO (F 10 (RSh.one CK.list) [(PV.list y2.1 y2.2.1)]) fun (y9 : ((Nat) × (List PV))) =>
   bindO (F 14 (RSh.agg [CK.list, CK.list, CK.list]) [(PV.agg [(PV.list y4.1.1 y4.1.2), (PV.list y4.2.1.1 y4.2.1.2), (PV.list y4.2.2.1.1 y4.2.2.1.2)])]) fun (y10 : (((Nat) × (List PV)) × (((Nat) × (List PV)) × ((Nat) × (List PV))))) =>
   bindO (F 13 (RSh.tup [(Prod.mk false [(CK.int .i64)]), (Prod.mk false [(CK.int .i64)])]) [(PV.list y9.1 y9.2), (PV.agg [(PV.list y10.1.1 y10.1.2), (PV.list y10.2.1.1 y10.2.1.2), (PV.list y10.2.2.1 y10.2.2.2)])]) fun (y11 : ((Int) × (Int))) =>
   bindO (Lz52 (Tlaw3_z52a y2.1 y2.2.1 y2.2.2 y4.2.2.2 y6.1.1 y6.1.2 y6.2.1 y6.2.2 y8.1.1 y8.1.2 y8.2 y11.1 y11.2 y4.1.1 y4.1.2 y4.2.1.1 y4.2.1.2 y4.2.2.1.1 y4.2.2.1.2)) fun z =>
   Sum.elim (fun _y12 =>
    some false) (fun y13 =>
    bindO (F 16 (RSh.one CK.list) [(PV.int .i64 (y13.1 : Int))]) fun (y14 : ((Nat) × (List PV))) =>
    bindO (F 17 (RSh.one (CK.int .i64)) [(PV.int .i64 y13.2.2.1), (PV.int .i64 (y14.1 : Int))]) fun (y15 : (Int)) =>
    bif (decide (((0 : Int) ≤ y15) ∧ (y15 < (y14.1 : Int)))) then
     bindO (listC (y14.2[((Int.toNat y15) * 1)]?)) fun x16 =>
     bindO (Lz41 (Tlaw3_z41a y13.1 y13.2.1 y13.2.2.2.1 y13.2.2.2.2.1 y13.2.2.2.2.2.1 y13.2.2.2.2.2.2.1 y13.2.2.2.2.2.2.2 y14.1 y14.2 x16.1 x16.2)) fun z =>
     Sum.elim (fun _y17 =>
      some false) (fun y18 =>
      bindO (L0 (Tlaw3_0a y18.1 y18.2.1 y18.2.2.1 y18.2.2.2.1 y18.2.2.2.2.1 y18.2.2.2.2.2.1 y18.2.2.2.2.2.2.1 y18.2.2.2.2.2.2.2.1 y18.2.2.2.2.2.2.2.2 (0 : Int))) fun z =>
      Sum.elim (fun _y19 =>
       some true) (fun _y20 =>
       some false) z) z
    else none) z) z
 else some false
theorem tlaw3_eq (F L0 L2 Lz67 Lz52 Lz41 p0n p0c p1) : semF (callP F Elaw3 20) s3 (loopT (qZL3_1 L0 L2 Lz67 Lz52 Lz41)) 400 a3 [PV.list p0n p0c, PV.int .i64 p1] (fun rv => decR (RSh.one CK.bool) rv.pv) = tlaw3 F L0 L2 Lz67 Lz52 Lz41 p0n p0c p1 := by kernel_rfl
noncomputable abbrev Flaw3 (args : List PV) := Fn env 3 (RSh.one CK.bool) args
theorem Flaw3_of  (p0n : Nat) (p0c : List PV) (p1 : Int) {res : (Bool)} (h : tlaw3 (Fn env) Llaw3_0 Llaw3_2 Llaw3_z67 Llaw3_z52 Llaw3_z41 p0n p0c p1 = some res) : Flaw3 [PV.list p0n p0c, PV.int .i64 p1] = some res :=
 fn_of Elaw3_ok rfl rfl oqZL3_1 ((tlaw3_eq _ _ _ _ _ _ _ _ _).trans h)
end Gv
