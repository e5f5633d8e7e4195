/- What the functions do, round by round: BL5. -/
import Derived.Test.YtpbpkbckgifhdaaGvEnv
namespace Gv
open Go
set_option maxRecDepth 100000
def Elaw5 : List Entry := [.out 12 (RSh.one CK.bool), .out 25 (RSh.one CK.bool), .out 27 (RSh.one CK.list), .out 35 (RSh.agg [CK.list, CK.list, CK.list]), .out 34 (RSh.tup [(Prod.mk false [(CK.int .i64)]), (Prod.mk false [(CK.int .i64)])]), .out 30 (RSh.tup [(Prod.mk false [(CK.int .i64)]), (Prod.mk false [(CK.int .i64)])]), .out 36 (RSh.tup [(Prod.mk false [(CK.int .i64)]), (Prod.mk false [(CK.int .i64)])])]
theorem Elaw5_ok : ∀ e ∈ Elaw5, EntOK env e := (ent_out (ent_out (ent_out (ent_out (ent_out (ent_out (ent_out ent_nil)))))))
def Tlaw5_1000021a (n0 : Nat) (c1 : List PV) (n2 : Nat) (c3 : List PV) (n4 : Nat) (c5 : List PV) (n6 : Nat) (c7 : List PV) : Q := ⟨(tm 68 [(0, (AV.p (PV.list n0 c1))), (3, (AV.loc 3 0))]), (mm 68 [(3, (Bk.cells true [(AV.p (PV.list n2 c3)), (AV.p (PV.list n4 c5)), (AV.p (PV.list n6 c7))]))])⟩
def Xlaw5_1000021a (y : Unit) : Ext × Q := (Ext.ret, ⟨(tm 68 [(4, (AV.p (PV.bool true)))]), (mm 68 [])⟩)
def Ilaw5_1000021a (q : Ext × S) : Unit := ()
def Xlaw5_1000021b (y : Nat × List PV × Nat × List PV × Nat × List PV × Nat × List PV) : Ext × Q := (Ext.normal, ⟨(tm 68 [(0, (AV.p (PV.list y.1 y.2.1))), (3, (AV.loc 3 0))]), (mm 68 [(3, (Bk.cells true [(AV.p (PV.list y.2.2.1 y.2.2.2.1)), (AV.p (PV.list y.2.2.2.2.1 y.2.2.2.2.2.1)), (AV.p (PV.list y.2.2.2.2.2.2.1 y.2.2.2.2.2.2.2))]))])⟩)
def Ilaw5_1000021b (q : Ext × S) : Nat × List PV × Nat × List PV × Nat × List PV × Nat × List PV := ((pP_list0 (pA_p (avT q.2 0))), (pP_list1 (pA_p (avT q.2 0))), (pP_list0 (pA_p (hdA (pB_cells1 (avM q.2 3))))), (pP_list1 (pA_p (hdA (pB_cells1 (avM q.2 3))))), (pP_list0 (pA_p (hdA (List.tail (pB_cells1 (avM q.2 3)))))), (pP_list1 (pA_p (hdA (List.tail (pB_cells1 (avM q.2 3)))))), (pP_list0 (pA_p (hdA (List.tail (List.tail (pB_cells1 (avM q.2 3))))))), (pP_list1 (pA_p (hdA (List.tail (List.tail (pB_cells1 (avM q.2 3))))))))
abbrev Ylaw5_1000021 : Type := (Unit) ⊕ ((Nat × List PV × Nat × List PV × Nat × List PV × Nat × List PV))
def XLlaw5_1000021 : XL Ylaw5_1000021 := .more Xlaw5_1000021a (.one Xlaw5_1000021b)
def Ilaw5_1000021 (q : Ext × S) : Ylaw5_1000021 := bif (cE q.1 == 2) then (Sum.inl (Ilaw5_1000021a q)) else (Sum.inr (Ilaw5_1000021b q))
theorem XIlaw5_1000021a (y : Unit) : Ilaw5_1000021 (xe (Xlaw5_1000021a y)) = (Sum.inl y) := by kernel_rfl
theorem XIlaw5_1000021b (y : Nat × List PV × Nat × List PV × Nat × List PV × Nat × List PV) : Ilaw5_1000021 (xe (Xlaw5_1000021b y)) = (Sum.inr y) := by kernel_rfl
theorem XIlaw5_1000021 (y : Ylaw5_1000021) : Ilaw5_1000021 (xe (XLlaw5_1000021.fn y)) = y := (match y with | .inl y => XIlaw5_1000021a y | .inr y => XIlaw5_1000021b y)
noncomputable abbrev Llaw5_1000021 : Q → Option Ylaw5_1000021 := lpO env a5.body 1000021 XLlaw5_1000021
noncomputable abbrev Rlaw5_1000021 : Q → Option (Ext × S) := lpR env a5.body 1000021
theorem Llaw5_1000021a_of {s : Q} {y : Unit} (h : Rlaw5_1000021 s = exO (Xlaw5_1000021a y)) : Llaw5_1000021 s = some (Sum.inl y) := lpO_of Ilaw5_1000021 XIlaw5_1000021 (y := (Sum.inl y)) h
theorem Llaw5_1000021b_of {s : Q} {y : Nat × List PV × Nat × List PV × Nat × List PV × Nat × List PV} (h : Rlaw5_1000021 s = exO (Xlaw5_1000021b y)) : Llaw5_1000021 s = some (Sum.inr y) := lpO_of Ilaw5_1000021 XIlaw5_1000021 (y := (Sum.inr y)) h
theorem Ulaw5 : uniq ((blocksOf a5.body).map (·.1)) = true := by kernel_rfl
def Blaw5_1000021a (F : FnT) (N : QO) (E : EO) (L1000021 : Q → Option Ylaw5_1000021) (n0 : Nat) (c1 : List PV) (n2 : Nat) (c3 : List PV) (n4 : Nat) (c5 : List PV) (n6 : Nat) (c7 : List PV) : Option (Ext × S) :=
  bindO (F 25 (RSh.one CK.bool) [(PV.list n0 c1)]) fun (y0 : (Bool)) =>
  bif y0 then
    bif (decide ((n2 : Int) > (8 : Int))) then
      E (Xlaw5_1000021a ())
    else bif (decide ((n4 : Int) > (8 : Int))) then
      E (Xlaw5_1000021a ())
    else bif (decide ((n6 : Int) > (8 : Int))) then
      E (Xlaw5_1000021a ())
    else E (Xlaw5_1000021b (n0, c1, n2, c3, n4, c5, n6, c7))
  else E (Xlaw5_1000021a ())
theorem Blaw5_1000021a_eq (F : FnT) (N : QO) (E : EO) (L1000021 : Q → Option Ylaw5_1000021) (n0 : Nat) (c1 : List PV) (n2 : Nat) (c3 : List PV) (n4 : Nat) (c5 : List PV) (n6 : Nat) (c7 : List PV) : semN (callP F Elaw5 20) s5 (loopT [⟨1000021, Ylaw5_1000021, L1000021, XLlaw5_1000021⟩]) 400 (blkIn a5.body 1000021) E (Tlaw5_1000021a n0 c1 n2 c3 n4 c5 n6 c7) = Blaw5_1000021a F N E L1000021 n0 c1 n2 c3 n4 c5 n6 c7 := by kernel_rfl
theorem Rlaw5_1000021a_of  (n0 : Nat) (c1 : List PV) (n2 : Nat) (c3 : List PV) (n4 : Nat) (c5 : List PV) (n6 : Nat) (c7 : List PV) {r : Ext × S} (h : Blaw5_1000021a (Fn env) Rlaw5_1000021 exO Llaw5_1000021 n0 c1 n2 c3 n4 c5 n6 c7 = some r) : Rlaw5_1000021 (Tlaw5_1000021a n0 c1 n2 c3 n4 c5 n6 c7) = some r :=
  nd_of Elaw5_ok (by kernel_rfl) (lo_cons (lpO_ok Ulaw5) lo_nil) (by kernel_rfl) ((Blaw5_1000021a_eq _ Rlaw5_1000021 _ _ _ _ _ _ _ _ _ _).trans h)
def tlaw5 (F : FnT) (L1000021 : Q → Option Ylaw5_1000021) (p0n : Nat) (p0c : List PV) (p1_0n : Nat) (p1_0c : List PV) (p1_1n : Nat) (p1_1c : List PV) (p1_2n : Nat) (p1_2c : List PV) : Option (Bool) :=
  bindO (F 12 (RSh.one CK.bool) []) fun (y0 : (Bool)) =>
  bif y0 then
    bindO (L1000021 (Tlaw5_1000021a p0n p0c p1_0n p1_0c p1_1n p1_1c p1_2n p1_2c)) fun z =>
    Sum.elim (fun y1 =>
      some true) (fun y2 =>
      bindO (F 27 (RSh.one CK.list) [(PV.list y2.1 y2.2.1)]) fun (y3 : ((Nat) × (List PV))) =>
      bindO (F 35 (RSh.agg [CK.list, CK.list, CK.list]) [(PV.agg [(PV.list y2.2.2.1 y2.2.2.2.1), (PV.list y2.2.2.2.2.1 y2.2.2.2.2.2.1), (PV.list y2.2.2.2.2.2.2.1 y2.2.2.2.2.2.2.2)])]) fun (y4 : (((Nat) × (List PV)) × (((Nat) × (List PV)) × ((Nat) × (List PV))))) =>
      bindO (F 34 (RSh.tup [(Prod.mk false [(CK.int .i64)]), (Prod.mk false [(CK.int .i64)])]) [(PV.list y3.1 y3.2), (PV.agg [(PV.list y4.1.1 y4.1.2), (PV.list y4.2.1.1 y4.2.1.2), (PV.list y4.2.2.1 y4.2.2.2)])]) fun (y5 : ((Int) × (Int))) =>
      bindO (F 30 (RSh.tup [(Prod.mk false [(CK.int .i64)]), (Prod.mk false [(CK.int .i64)])]) [(PV.list y2.1 y2.2.1)]) fun (y6 : ((Int) × (Int))) =>
      bif (y6.2 != (0 : Int)) then
        bif (y5.2 == y6.2) then
          bif (y5.1 == (0 : Int)) then
            some true
          else some false
        else some false
      else bindO (F 36 (RSh.tup [(Prod.mk false [(CK.int .i64)]), (Prod.mk false [(CK.int .i64)])]) [(PV.list y2.1 y2.2.1), (PV.agg [(PV.list y2.2.2.1 y2.2.2.2.1), (PV.list y2.2.2.2.2.1 y2.2.2.2.2.2.1), (PV.list y2.2.2.2.2.2.2.1 y2.2.2.2.2.2.2.2)])]) fun (y7 : ((Int) × (Int))) =>
      bif (y5.2 == y7.2) then
        bif (y5.1 == y7.1) then
          some true
        else some false
      else some false) z
  else some false
theorem tlaw5_eq (F : FnT) (L1000021 : Q → Option Ylaw5_1000021) (p0n : Nat) (p0c : List PV) (p1_0n : Nat) (p1_0c : List PV) (p1_1n : Nat) (p1_1c : List PV) (p1_2n : Nat) (p1_2c : List PV) : semF (callP F Elaw5 20) s5 (loopT [⟨1000021, Ylaw5_1000021, L1000021, XLlaw5_1000021⟩]) 400 a5 [PV.list p0n p0c, PV.agg [PV.list p1_0n p1_0c, PV.list p1_1n p1_1c, PV.list p1_2n p1_2c]] (fun rv => decR (RSh.one CK.bool) rv.pv) = tlaw5 F L1000021 p0n p0c p1_0n p1_0c p1_1n p1_1c p1_2n p1_2c := by kernel_rfl
noncomputable abbrev Flaw5 (args : List PV) := Fn env 5 (RSh.one CK.bool) args
theorem Flaw5_of  (p0n : Nat) (p0c : List PV) (p1_0n : Nat) (p1_0c : List PV) (p1_1n : Nat) (p1_1c : List PV) (p1_2n : Nat) (p1_2c : List PV) {res : (Bool)} (h : tlaw5 (Fn env) Llaw5_1000021 p0n p0c p1_0n p1_0c p1_1n p1_1c p1_2n p1_2c = some res) : Flaw5 [PV.list p0n p0c, PV.agg [PV.list p1_0n p1_0c, PV.list p1_1n p1_1c, PV.list p1_2n p1_2c]] = some res :=
  fn_of Elaw5_ok rfl rfl (lo_cons (lpO_ok Ulaw5) lo_nil) ((tlaw5_eq _ _ _ _ _ _ _ _ _ _).trans h)
end Gv
