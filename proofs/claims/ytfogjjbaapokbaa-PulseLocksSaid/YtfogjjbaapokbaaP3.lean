/- What the functions do, round by round: P3. -/
import Derived.Test.YtfogjjbaapokbaaP1
namespace Gv
open Go
set_option maxRecDepth 100000

/-! ### glidepathlaw01_few -/

def Eglidepathlaw01_few : List Entry := []
theorem Eglidepathlaw01_few_ok : ∀ e ∈ Eglidepathlaw01_few, EntOK env e := ent_nil
theorem Uglidepathlaw01_few : uniq ((blocksOf a16.body).map (·.1)) = true := by kernel_rfl
def tglidepathlaw01_few (F : FnT) (p0_0 : Int) (p0_1 : Int) (p0_2 : Int) (p0_3n : Nat) (p0_3c : List PV) : Option (Bool) :=
  bif (decide ((p0_3n : Int) ≤ (18 : Int))) then
    some true
  else some false
theorem tglidepathlaw01_few_eq (F : FnT) (p0_0 : Int) (p0_1 : Int) (p0_2 : Int) (p0_3n : Nat) (p0_3c : List PV) : semF (callP F Eglidepathlaw01_few 20) s16 (loopT []) 400 a16 [PV.agg [PV.int IntKind.i64 p0_0, PV.int IntKind.i64 p0_1, PV.int IntKind.i64 p0_2, PV.list p0_3n p0_3c]] (fun rv => decR (RSh.one CK.bool) rv.pv) = tglidepathlaw01_few F p0_0 p0_1 p0_2 p0_3n p0_3c := by kernel_rfl
noncomputable abbrev Fglidepathlaw01_few (args : List PV) := Fn env 16 (RSh.one CK.bool) args
theorem Fglidepathlaw01_few_of  (p0_0 : Int) (p0_1 : Int) (p0_2 : Int) (p0_3n : Nat) (p0_3c : List PV) {res : (Bool)} (h : tglidepathlaw01_few (Fn env) p0_0 p0_1 p0_2 p0_3n p0_3c = some res) : Fglidepathlaw01_few [PV.agg [PV.int IntKind.i64 p0_0, PV.int IntKind.i64 p0_1, PV.int IntKind.i64 p0_2, PV.list p0_3n p0_3c]] = some res :=
  fn_of Eglidepathlaw01_few_ok rfl rfl lo_nil ((tglidepathlaw01_few_eq _ _ _ _ _ _).trans h)

/-! ### glidepathref01_Copy -/

def Eglidepathref01_Copy : List Entry := [.out 78 (RSh.one CK.list)]
theorem Eglidepathref01_Copy_ok : ∀ e ∈ Eglidepathref01_Copy, EntOK env e := (ent_out ent_nil)
theorem Uglidepathref01_Copy : uniq ((blocksOf a21.body).map (·.1)) = true := by kernel_rfl
def tglidepathref01_Copy (F : FnT) (p0_0 : Int) (p0_1 : Int) (p0_2 : Int) (p0_3n : Nat) (p0_3c : List PV) : Option ((Int) × ((Int) × ((Int) × ((Nat) × (List PV))))) :=
  bindO (F 78 (RSh.one CK.list) [(PV.list p0_3n p0_3c)]) fun (y0 : ((Nat) × (List PV))) =>
  some (p0_0, (p0_1, (p0_2, (y0.1, y0.2))))
theorem tglidepathref01_Copy_eq (F : FnT) (p0_0 : Int) (p0_1 : Int) (p0_2 : Int) (p0_3n : Nat) (p0_3c : List PV) : semF (callP F Eglidepathref01_Copy 20) s21 (loopT []) 400 a21 [PV.agg [PV.int IntKind.i64 p0_0, PV.int IntKind.i64 p0_1, PV.int IntKind.i64 p0_2, PV.list p0_3n p0_3c]] (fun rv => decR (RSh.agg [(CK.int IntKind.i64), (CK.int IntKind.i64), (CK.int IntKind.i64), CK.list]) rv.pv) = tglidepathref01_Copy F p0_0 p0_1 p0_2 p0_3n p0_3c := by kernel_rfl
noncomputable abbrev Fglidepathref01_Copy (args : List PV) := Fn env 21 (RSh.agg [(CK.int IntKind.i64), (CK.int IntKind.i64), (CK.int IntKind.i64), CK.list]) args
theorem Fglidepathref01_Copy_of  (p0_0 : Int) (p0_1 : Int) (p0_2 : Int) (p0_3n : Nat) (p0_3c : List PV) {res : ((Int) × ((Int) × ((Int) × ((Nat) × (List PV)))))} (h : tglidepathref01_Copy (Fn env) p0_0 p0_1 p0_2 p0_3n p0_3c = some res) : Fglidepathref01_Copy [PV.agg [PV.int IntKind.i64 p0_0, PV.int IntKind.i64 p0_1, PV.int IntKind.i64 p0_2, PV.list p0_3n p0_3c]] = some res :=
  fn_of Eglidepathref01_Copy_ok rfl rfl lo_nil ((tglidepathref01_Copy_eq _ _ _ _ _ _).trans h)

/-! ### pulse_ClippedIn -/

def Epulse_ClippedIn : List Entry := [.out 96 (RSh.one (CK.int IntKind.i64)), .out 92 (RSh.one (CK.int IntKind.i64)), .out 91 (RSh.one (CK.int IntKind.i64))]
theorem Epulse_ClippedIn_ok : ∀ e ∈ Epulse_ClippedIn, EntOK env e := (ent_out (ent_out (ent_out ent_nil)))
def Tpulse_ClippedIn_0a (i0 : Int) (n1 : Nat) (c2 : List PV) (i3 : Int) (i4 : Int) : Q := ⟨(tm 45 [(1,(AV.p (PV.int IntKind.i64 i0))),(7,AV.nilS),(19,(AV.p (PV.list n1 c2))),(20,(AV.p (PV.int IntKind.i64 i3))),(21,(AV.p (PV.int IntKind.i64 i4)))]),(mm 45 [])⟩
def Tpulse_ClippedIn_0b (i0 : Int) (n1 : Nat) (c2 : List PV) (n3 : Nat) (c4 : List PV) (i5 : Int) (i6 : Int) (n7 : Nat) : Q := ⟨(tm 45 [(1,(AV.p (PV.int IntKind.i64 i0))),(7,(AV.app 42 n1 1 c2)),(19,(AV.p (PV.list n3 c4))),(20,(AV.p (PV.int IntKind.i64 i5))),(21,(AV.p (PV.int IntKind.i64 i6)))]),(mm 45 [(42,(Bk.buf n7))])⟩
def Xpulse_ClippedIn_0a (y : Unit) : Ext × Q := (Ext.normal,⟨(tm 45 [(7,AV.nilS)]),(mm 45 [])⟩)
def Ipulse_ClippedIn_0a (q : Ext × S) : Unit := ()
def Xpulse_ClippedIn_0b (y : Nat × List PV × Nat) : Ext × Q := (Ext.normal,⟨(tm 45 [(7,(AV.app 42 y.1 1 y.2.1))]),(mm 45 [(42,(Bk.buf y.2.2))])⟩)
def Ipulse_ClippedIn_0b (q : Ext × S) : Nat × List PV × Nat := ((pA_app1 (avT q.2 7)), (pA_app3 (avT q.2 7)), (pB_buf0 (avM q.2 42)))
abbrev Ypulse_ClippedIn_0 : Type := (Unit) ⊕ ((Nat × List PV × Nat))
def XLpulse_ClippedIn_0 : XL Ypulse_ClippedIn_0 := .more Xpulse_ClippedIn_0a (.one Xpulse_ClippedIn_0b)
def Ipulse_ClippedIn_0 (q : Ext × S) : Ypulse_ClippedIn_0 := bif (cA (avT q.2 7) == 1) then (Sum.inl (Ipulse_ClippedIn_0a q)) else (Sum.inr (Ipulse_ClippedIn_0b q))
theorem XIpulse_ClippedIn_0a (y : Unit) : Ipulse_ClippedIn_0 (xe (Xpulse_ClippedIn_0a y)) = (Sum.inl y) := rfl
theorem XIpulse_ClippedIn_0b (y : Nat × List PV × Nat) : Ipulse_ClippedIn_0 (xe (Xpulse_ClippedIn_0b y)) = (Sum.inr y) := rfl
theorem XIpulse_ClippedIn_0 (y : Ypulse_ClippedIn_0) : Ipulse_ClippedIn_0 (xe (XLpulse_ClippedIn_0.fn y)) = y := (match y with | .inl y => XIpulse_ClippedIn_0a y | .inr y => XIpulse_ClippedIn_0b y)
noncomputable abbrev Lpulse_ClippedIn_0 : Q → Option Ypulse_ClippedIn_0 := lpO env a65.body 0 XLpulse_ClippedIn_0
noncomputable abbrev Rpulse_ClippedIn_0 : Q → Option (Ext × S) := lpR env a65.body 0
theorem Lpulse_ClippedIn_0a_of {s : Q} {y : Unit} (h : Rpulse_ClippedIn_0 s = exO (Xpulse_ClippedIn_0a y)) : Lpulse_ClippedIn_0 s = some (Sum.inl y) := lpO_of Ipulse_ClippedIn_0 XIpulse_ClippedIn_0 (y := (Sum.inl y)) h
theorem Lpulse_ClippedIn_0b_of {s : Q} {y : Nat × List PV × Nat} (h : Rpulse_ClippedIn_0 s = exO (Xpulse_ClippedIn_0b y)) : Lpulse_ClippedIn_0 s = some (Sum.inr y) := lpO_of Ipulse_ClippedIn_0 XIpulse_ClippedIn_0 (y := (Sum.inr y)) h
theorem Upulse_ClippedIn : uniq ((blocksOf a65.body).map (·.1)) = true := by kernel_rfl
def Bpulse_ClippedIn_0a (F : FnT) (N : Q → Option (Ext × S)) (E : Ext × Q → Option (Ext × S)) (L0 : Q → Option Ypulse_ClippedIn_0) (i0 : Int) (n1 : Nat) (c2 : List PV) (i3 : Int) (i4 : Int) : Option (Ext × S) :=
  bif (decide (i4 < i3)) then
    bif (decide (((0 : Int) ≤ i4) ∧ (i4 < (n1 : Int)))) then
      bindO (intC IntKind.i64 (c2[((Int.toNat i4) * 2)]?)) fun x0 =>
      bindO (intC IntKind.i64 (c2[(((Int.toNat i4) * 2) + 1)]?)) fun x1 =>
      bif (decide ((if ((w64 ((0 : Int) - x1)) > (if (x1 > (if ((w64 ((0 : Int) - x0)) > x0) then (w64 ((0 : Int) - x0)) else x0)) then x1 else (if ((w64 ((0 : Int) - x0)) > x0) then (w64 ((0 : Int) - x0)) else x0))) then (w64 ((0 : Int) - x1)) else (if (x1 > (if ((w64 ((0 : Int) - x0)) > x0) then (w64 ((0 : Int) - x0)) else x0)) then x1 else (if ((w64 ((0 : Int) - x0)) > x0) then (w64 ((0 : Int) - x0)) else x0))) ≥ i0)) then
        N (Tpulse_ClippedIn_0b i0 1 [(PV.int IntKind.i64 i4)] n1 c2 i3 (w64 (i4 + (1 : Int))) 1)
      else N (Tpulse_ClippedIn_0a i0 n1 c2 i3 (w64 (i4 + (1 : Int))))
    else none
  else E (Xpulse_ClippedIn_0a ())
theorem Bpulse_ClippedIn_0a_eq (F : FnT) (N : Q → Option (Ext × S)) (E : Ext × Q → Option (Ext × S)) (L0 : Q → Option Ypulse_ClippedIn_0) (i0 : Int) (n1 : Nat) (c2 : List PV) (i3 : Int) (i4 : Int) : semB (callP F Epulse_ClippedIn 20) s65 (loopT [⟨0, Ypulse_ClippedIn_0, L0, XLpulse_ClippedIn_0⟩]) 400 (blkIn a65.body 0) N E (Tpulse_ClippedIn_0a i0 n1 c2 i3 i4) = Bpulse_ClippedIn_0a F N E L0 i0 n1 c2 i3 i4 := by kernel_rfl
theorem Rpulse_ClippedIn_0a_of  (i0 : Int) (n1 : Nat) (c2 : List PV) (i3 : Int) (i4 : Int) {r : Ext × S} (h : Bpulse_ClippedIn_0a (Fn env) Rpulse_ClippedIn_0 exO Lpulse_ClippedIn_0 i0 n1 c2 i3 i4 = some r) : Rpulse_ClippedIn_0 (Tpulse_ClippedIn_0a i0 n1 c2 i3 i4) = some r :=
  lp_of Epulse_ClippedIn_ok (by kernel_rfl) (lo_cons (lpO_ok Upulse_ClippedIn) lo_nil) (by kernel_rfl) ((Bpulse_ClippedIn_0a_eq _ _ _ _ _ _ _ _ _).trans h)
def Bpulse_ClippedIn_0b (F : FnT) (N : Q → Option (Ext × S)) (E : Ext × Q → Option (Ext × S)) (L0 : Q → Option Ypulse_ClippedIn_0) (i0 : Int) (n1 : Nat) (c2 : List PV) (n3 : Nat) (c4 : List PV) (i5 : Int) (i6 : Int) (n7 : Nat) : Option (Ext × S) :=
  bif (decide (i6 < i5)) then
    bif (decide (((0 : Int) ≤ i6) ∧ (i6 < (n3 : Int)))) then
      bindO (intC IntKind.i64 (c4[((Int.toNat i6) * 2)]?)) fun x0 =>
      bindO (intC IntKind.i64 (c4[(((Int.toNat i6) * 2) + 1)]?)) fun x1 =>
      bif (decide ((if ((w64 ((0 : Int) - x1)) > (if (x1 > (if ((w64 ((0 : Int) - x0)) > x0) then (w64 ((0 : Int) - x0)) else x0)) then x1 else (if ((w64 ((0 : Int) - x0)) > x0) then (w64 ((0 : Int) - x0)) else x0))) then (w64 ((0 : Int) - x1)) else (if (x1 > (if ((w64 ((0 : Int) - x0)) > x0) then (w64 ((0 : Int) - x0)) else x0)) then x1 else (if ((w64 ((0 : Int) - x0)) > x0) then (w64 ((0 : Int) - x0)) else x0))) ≥ i0)) then
        bif (decide ((n7 = n1) ∧ ((n1 + 1) ≤ big))) then
          N (Tpulse_ClippedIn_0b i0 (n1 + 1) (c2 ++ [(PV.int IntKind.i64 i6)]) n3 c4 i5 (w64 (i6 + (1 : Int))) (n1 + 1))
        else none
      else N (Tpulse_ClippedIn_0b i0 n1 c2 n3 c4 i5 (w64 (i6 + (1 : Int))) n7)
    else none
  else E (Xpulse_ClippedIn_0b (n1, c2, n7))
theorem Bpulse_ClippedIn_0b_eq (F : FnT) (N : Q → Option (Ext × S)) (E : Ext × Q → Option (Ext × S)) (L0 : Q → Option Ypulse_ClippedIn_0) (i0 : Int) (n1 : Nat) (c2 : List PV) (n3 : Nat) (c4 : List PV) (i5 : Int) (i6 : Int) (n7 : Nat) : semB (callP F Epulse_ClippedIn 20) s65 (loopT [⟨0, Ypulse_ClippedIn_0, L0, XLpulse_ClippedIn_0⟩]) 400 (blkIn a65.body 0) N E (Tpulse_ClippedIn_0b i0 n1 c2 n3 c4 i5 i6 n7) = Bpulse_ClippedIn_0b F N E L0 i0 n1 c2 n3 c4 i5 i6 n7 := by kernel_rfl
theorem Rpulse_ClippedIn_0b_of  (i0 : Int) (n1 : Nat) (c2 : List PV) (n3 : Nat) (c4 : List PV) (i5 : Int) (i6 : Int) (n7 : Nat) {r : Ext × S} (h : Bpulse_ClippedIn_0b (Fn env) Rpulse_ClippedIn_0 exO Lpulse_ClippedIn_0 i0 n1 c2 n3 c4 i5 i6 n7 = some r) : Rpulse_ClippedIn_0 (Tpulse_ClippedIn_0b i0 n1 c2 n3 c4 i5 i6 n7) = some r :=
  lp_of Epulse_ClippedIn_ok (by kernel_rfl) (lo_cons (lpO_ok Upulse_ClippedIn) lo_nil) (by kernel_rfl) ((Bpulse_ClippedIn_0b_eq _ _ _ _ _ _ _ _ _ _ _ _).trans h)
def tpulse_ClippedIn (F : FnT) (L0 : Q → Option Ypulse_ClippedIn_0) (p0n : Nat) (p0c : List PV) (p1 : Int) : Option (((Nat) × (List PV)) × (Int)) :=
  bindO (F 96 (RSh.one (CK.int IntKind.i64)) [(PV.list p0n p0c)]) fun (y0 : (Int)) =>
  bindO (F 92 (RSh.one (CK.int IntKind.i64)) [(PV.int IntKind.i64 p1), (PV.int IntKind.i64 (1 : Int)), (PV.int IntKind.i64 (1000 : Int))]) fun (y1 : (Int)) =>
  bindO (F 91 (RSh.one (CK.int IntKind.i64)) [(PV.list 2 [(PV.int IntKind.i64 y0), (PV.int IntKind.i64 y1)])]) fun (y2 : (Int)) =>
  bif (y2 != (0 : Int)) then
    some ((0, []), y2)
  else bindO (L0 (Tpulse_ClippedIn_0a p1 p0n p0c (p0n : Int) (0 : Int))) fun z =>
  Sum.elim (fun y3 =>
    some ((0, []), (0 : Int))) (fun y4 =>
    some ((y4.1, y4.2.1), (0 : Int))) z
theorem tpulse_ClippedIn_eq (F : FnT) (L0 : Q → Option Ypulse_ClippedIn_0) (p0n : Nat) (p0c : List PV) (p1 : Int) : semF (callP F Epulse_ClippedIn 20) s65 (loopT [⟨0, Ypulse_ClippedIn_0, L0, XLpulse_ClippedIn_0⟩]) 400 a65 [PV.list p0n p0c, PV.int IntKind.i64 p1] (fun rv => decR (RSh.tup [(Prod.mk false [CK.list]), (Prod.mk false [(CK.int IntKind.i64)])]) rv.pv) = tpulse_ClippedIn F L0 p0n p0c p1 := by kernel_rfl
noncomputable abbrev Fpulse_ClippedIn (args : List PV) := Fn env 65 (RSh.tup [(Prod.mk false [CK.list]), (Prod.mk false [(CK.int IntKind.i64)])]) args
theorem Fpulse_ClippedIn_of  (p0n : Nat) (p0c : List PV) (p1 : Int) {res : (((Nat) × (List PV)) × (Int))} (h : tpulse_ClippedIn (Fn env) Lpulse_ClippedIn_0 p0n p0c p1 = some res) : Fpulse_ClippedIn [PV.list p0n p0c, PV.int IntKind.i64 p1] = some res :=
  fn_of Epulse_ClippedIn_ok rfl rfl (lo_cons (lpO_ok Upulse_ClippedIn) lo_nil) ((tpulse_ClippedIn_eq _ _ _ _ _).trans h)

/-! ### pulse_firstError_3 -/

def Epulse_firstError_3 : List Entry := []
theorem Epulse_firstError_3_ok : ∀ e ∈ Epulse_firstError_3, EntOK env e := ent_nil
theorem Upulse_firstError_3 : uniq ((blocksOf a91.body).map (·.1)) = true := by kernel_rfl
def tpulse_firstError_3 (F : FnT)(e0 e1 e2 : Int) : Option (Int) :=
  bif (e0 != (0 : Int)) then
    some e0
  else bif (e1 != (0 : Int)) then
    some e1
  else bif (e2 != (0 : Int)) then
    some e2
  else some (0 : Int)
theorem tpulse_firstError_3_eq (F : FnT)(e0 e1 e2 : Int) : semF (callP F Epulse_firstError_3 20) s91 (loopT []) 400 a91 [.list 3 [.int .i64 e0, .int .i64 e1, .int .i64 e2]] (fun rv => decR (RSh.one (CK.int IntKind.i64)) rv.pv) = tpulse_firstError_3 F e0 e1 e2 := by kernel_rfl
noncomputable abbrev Fpulse_firstError_3 (args : List PV) := Fn env 91 (RSh.one (CK.int IntKind.i64)) args
theorem Fpulse_firstError_3_of (e0 e1 e2 : Int) {res : (Int)} (h : tpulse_firstError_3 (Fn env) e0 e1 e2 = some res) : Fpulse_firstError_3 [.list 3 [.int .i64 e0, .int .i64 e1, .int .i64 e2]] = some res :=
  fn_of Epulse_firstError_3_ok rfl rfl lo_nil ((tpulse_firstError_3_eq _ _ _ _).trans h)

/-! ### pulse_firstError_4 -/

def Epulse_firstError_4 : List Entry := []
theorem Epulse_firstError_4_ok : ∀ e ∈ Epulse_firstError_4, EntOK env e := ent_nil
theorem Upulse_firstError_4 : uniq ((blocksOf a91.body).map (·.1)) = true := by kernel_rfl
def tpulse_firstError_4 (F : FnT)(e0 e1 e2 e3 : Int) : Option (Int) :=
  bif (e0 != (0 : Int)) then
    some e0
  else bif (e1 != (0 : Int)) then
    some e1
  else bif (e2 != (0 : Int)) then
    some e2
  else bif (e3 != (0 : Int)) then
    some e3
  else some (0 : Int)
theorem tpulse_firstError_4_eq (F : FnT)(e0 e1 e2 e3 : Int) : semF (callP F Epulse_firstError_4 20) s91 (loopT []) 400 a91 [.list 4 [.int .i64 e0, .int .i64 e1, .int .i64 e2, .int .i64 e3]] (fun rv => decR (RSh.one (CK.int IntKind.i64)) rv.pv) = tpulse_firstError_4 F e0 e1 e2 e3 := by kernel_rfl
noncomputable abbrev Fpulse_firstError_4 (args : List PV) := Fn env 91 (RSh.one (CK.int IntKind.i64)) args
theorem Fpulse_firstError_4_of (e0 e1 e2 e3 : Int) {res : (Int)} (h : tpulse_firstError_4 (Fn env) e0 e1 e2 e3 = some res) : Fpulse_firstError_4 [.list 4 [.int .i64 e0, .int .i64 e1, .int .i64 e2, .int .i64 e3]] = some res :=
  fn_of Epulse_firstError_4_ok rfl rfl lo_nil ((tpulse_firstError_4_eq _ _ _ _ _).trans h)

/-! ### pulse_numberError_1 -/

def Epulse_numberError_1 : List Entry := [.out 92 (RSh.one (CK.int IntKind.i64))]
theorem Epulse_numberError_1_ok : ∀ e ∈ Epulse_numberError_1, EntOK env e := (ent_out ent_nil)
theorem Upulse_numberError_1 : uniq ((blocksOf a140.body).map (·.1)) = true := by kernel_rfl
def tpulse_numberError_1 (F : FnT)(x lo hi : Int) : Option (Int) :=
  bindO (F 92 (RSh.one (CK.int IntKind.i64)) [(PV.int IntKind.i64 x), (PV.int IntKind.i64 lo), (PV.int IntKind.i64 hi)]) fun (y0 : (Int)) =>
  some y0
theorem tpulse_numberError_1_eq (F : FnT)(x lo hi : Int) : semF (callP F Epulse_numberError_1 20) s140 (loopT []) 400 a140 [.int .i64 x, .imm [.int .i64 lo] 0, .imm [.int .i64 hi] 0] (fun rv => decR (RSh.one (CK.int IntKind.i64)) rv.pv) = tpulse_numberError_1 F x lo hi := by kernel_rfl
noncomputable abbrev Fpulse_numberError_1 (args : List PV) := Fn env 140 (RSh.one (CK.int IntKind.i64)) args
theorem Fpulse_numberError_1_of (x lo hi : Int) {res : (Int)} (h : tpulse_numberError_1 (Fn env) x lo hi = some res) : Fpulse_numberError_1 [.int .i64 x, .imm [.int .i64 lo] 0, .imm [.int .i64 hi] 0] = some res :=
  fn_of Epulse_numberError_1_ok rfl rfl lo_nil ((tpulse_numberError_1_eq _ _ _ _).trans h)

/-! ### pulse_itemError_int_ -/

def Epulse_itemError_int_ : List Entry := [.out 140 (RSh.one (CK.int IntKind.i64))]
theorem Epulse_itemError_int__ok : ∀ e ∈ Epulse_itemError_int_, EntOK env e := (ent_out ent_nil)
def Tpulse_itemError_int__0a (i0 : Int) (i1 : Int) (n2 : Nat) (c3 : List PV) (i4 : Int) (i5 : Int) : Q := ⟨(tm 24 [(1,(AV.p (PV.fn 140 [(PV.imm [(PV.int IntKind.i64 i0)] 0),(PV.imm [(PV.int IntKind.i64 i1)] 0)]))),(9,(AV.p (PV.list n2 c3))),(10,(AV.p (PV.int IntKind.i64 i4))),(11,(AV.p (PV.int IntKind.i64 i5)))]),(mm 24 [])⟩
def Xpulse_itemError_int__0a (y : Int × Int) : Ext × Q := (Ext.ret,⟨(tm 24 [(4,(AV.p (PV.int IntKind.i64 y.1))),(5,(AV.p (PV.int IntKind.i64 y.2)))]),(mm 24 [])⟩)
def Ipulse_itemError_int__0a (q : Ext × S) : Int × Int := ((pP_int1 (pA_p (avT q.2 4))), (pP_int1 (pA_p (avT q.2 5))))
def Xpulse_itemError_int__0b (y : Unit) : Ext × Q := (Ext.normal,⟨(tm 24 []),(mm 24 [])⟩)
def Ipulse_itemError_int__0b (q : Ext × S) : Unit := ()
abbrev Ypulse_itemError_int__0 : Type := (Int × Int) ⊕ ((Unit))
def XLpulse_itemError_int__0 : XL Ypulse_itemError_int__0 := .more Xpulse_itemError_int__0a (.one Xpulse_itemError_int__0b)
def Ipulse_itemError_int__0 (q : Ext × S) : Ypulse_itemError_int__0 := bif (cE q.1 == 2) then (Sum.inl (Ipulse_itemError_int__0a q)) else (Sum.inr (Ipulse_itemError_int__0b q))
theorem XIpulse_itemError_int__0a (y : Int × Int) : Ipulse_itemError_int__0 (xe (Xpulse_itemError_int__0a y)) = (Sum.inl y) := rfl
theorem XIpulse_itemError_int__0b (y : Unit) : Ipulse_itemError_int__0 (xe (Xpulse_itemError_int__0b y)) = (Sum.inr y) := rfl
theorem XIpulse_itemError_int__0 (y : Ypulse_itemError_int__0) : Ipulse_itemError_int__0 (xe (XLpulse_itemError_int__0.fn y)) = y := (match y with | .inl y => XIpulse_itemError_int__0a y | .inr y => XIpulse_itemError_int__0b y)
noncomputable abbrev Lpulse_itemError_int__0 : Q → Option Ypulse_itemError_int__0 := lpO env a139.body 0 XLpulse_itemError_int__0
noncomputable abbrev Rpulse_itemError_int__0 : Q → Option (Ext × S) := lpR env a139.body 0
theorem Lpulse_itemError_int__0a_of {s : Q} {y : Int × Int} (h : Rpulse_itemError_int__0 s = exO (Xpulse_itemError_int__0a y)) : Lpulse_itemError_int__0 s = some (Sum.inl y) := lpO_of Ipulse_itemError_int__0 XIpulse_itemError_int__0 (y := (Sum.inl y)) h
theorem Lpulse_itemError_int__0b_of {s : Q} {y : Unit} (h : Rpulse_itemError_int__0 s = exO (Xpulse_itemError_int__0b y)) : Lpulse_itemError_int__0 s = some (Sum.inr y) := lpO_of Ipulse_itemError_int__0 XIpulse_itemError_int__0 (y := (Sum.inr y)) h
theorem Upulse_itemError_int_ : uniq ((blocksOf a139.body).map (·.1)) = true := by kernel_rfl
def Bpulse_itemError_int__0a (F : FnT) (N : Q → Option (Ext × S)) (E : Ext × Q → Option (Ext × S)) (L0 : Q → Option Ypulse_itemError_int__0) (i0 : Int) (i1 : Int) (n2 : Nat) (c3 : List PV) (i4 : Int) (i5 : Int) : Option (Ext × S) :=
  bif (decide (i5 < i4)) then
    bif (decide (((0 : Int) ≤ i5) ∧ (i5 < (n2 : Int)))) then
      bindO (intC IntKind.i64 (c3[((Int.toNat i5) * 1)]?)) fun x0 =>
      bindO (F 140 (RSh.one (CK.int IntKind.i64)) [(PV.int IntKind.i64 x0), (PV.imm [(PV.int IntKind.i64 i0)] 0), (PV.imm [(PV.int IntKind.i64 i1)] 0)]) fun (y1 : (Int)) =>
      bif (y1 != (0 : Int)) then
        E (Xpulse_itemError_int__0a (i5, y1))
      else N (Tpulse_itemError_int__0a i0 i1 n2 c3 i4 (w64 (i5 + (1 : Int))))
    else none
  else E (Xpulse_itemError_int__0b ())
theorem Bpulse_itemError_int__0a_eq (F : FnT) (N : Q → Option (Ext × S)) (E : Ext × Q → Option (Ext × S)) (L0 : Q → Option Ypulse_itemError_int__0) (i0 : Int) (i1 : Int) (n2 : Nat) (c3 : List PV) (i4 : Int) (i5 : Int) : semB (callP F Epulse_itemError_int_ 20) s139 (loopT [⟨0, Ypulse_itemError_int__0, L0, XLpulse_itemError_int__0⟩]) 400 (blkIn a139.body 0) N E (Tpulse_itemError_int__0a i0 i1 n2 c3 i4 i5) = Bpulse_itemError_int__0a F N E L0 i0 i1 n2 c3 i4 i5 := by kernel_rfl
theorem Rpulse_itemError_int__0a_of  (i0 : Int) (i1 : Int) (n2 : Nat) (c3 : List PV) (i4 : Int) (i5 : Int) {r : Ext × S} (h : Bpulse_itemError_int__0a (Fn env) Rpulse_itemError_int__0 exO Lpulse_itemError_int__0 i0 i1 n2 c3 i4 i5 = some r) : Rpulse_itemError_int__0 (Tpulse_itemError_int__0a i0 i1 n2 c3 i4 i5) = some r :=
  lp_of Epulse_itemError_int__ok (by kernel_rfl) (lo_cons (lpO_ok Upulse_itemError_int_) lo_nil) (by kernel_rfl) ((Bpulse_itemError_int__0a_eq _ _ _ _ _ _ _ _ _ _).trans h)
def tpulse_itemError_int_ (F : FnT) (L0 : Q → Option Ypulse_itemError_int__0)(n : Nat) (cs : List PV) (lo hi : Int) : Option ((Int) × (Int)) :=
  bindO (L0 (Tpulse_itemError_int__0a lo hi n cs (n : Int) (0 : Int))) fun z =>
  Sum.elim (fun y0 =>
    some (y0.1, y0.2)) (fun y1 =>
    some ((0 : Int), (0 : Int))) z
theorem tpulse_itemError_int__eq (F : FnT) (L0 : Q → Option Ypulse_itemError_int__0)(n : Nat) (cs : List PV) (lo hi : Int) : semF (callP F Epulse_itemError_int_ 20) s139 (loopT [⟨0, Ypulse_itemError_int__0, L0, XLpulse_itemError_int__0⟩]) 400 a139 [.list n cs, .fn 140 [.imm [.int .i64 lo] 0, .imm [.int .i64 hi] 0]] (fun rv => decR (RSh.tup [(Prod.mk false [(CK.int IntKind.i64)]), (Prod.mk false [(CK.int IntKind.i64)])]) rv.pv) = tpulse_itemError_int_ F L0 n cs lo hi := by kernel_rfl
noncomputable abbrev Fpulse_itemError_int_ (args : List PV) := Fn env 139 (RSh.tup [(Prod.mk false [(CK.int IntKind.i64)]), (Prod.mk false [(CK.int IntKind.i64)])]) args
theorem Fpulse_itemError_int__of (n : Nat) (cs : List PV) (lo hi : Int) {res : ((Int) × (Int))} (h : tpulse_itemError_int_ (Fn env) Lpulse_itemError_int__0 n cs lo hi = some res) : Fpulse_itemError_int_ [.list n cs, .fn 140 [.imm [.int .i64 lo] 0, .imm [.int .i64 hi] 0]] = some res :=
  fn_of Epulse_itemError_int__ok rfl rfl (lo_cons (lpO_ok Upulse_itemError_int_) lo_nil) ((tpulse_itemError_int__eq _ _ _ _ _ _).trans h)

/-! ### pulse_listError_int_ -/

def Epulse_listError_int_ : List Entry := [.inl 105 a105 s105, .out 91 (RSh.one (CK.int IntKind.i64)), .out 139 (RSh.tup [(Prod.mk false [(CK.int IntKind.i64)]), (Prod.mk false [(CK.int IntKind.i64)])])]
theorem Epulse_listError_int__ok : ∀ e ∈ Epulse_listError_int_, EntOK env e := (ent_inl rfl (ent_out (ent_out ent_nil)))
theorem Upulse_listError_int_ : uniq ((blocksOf a93.body).map (·.1)) = true := by kernel_rfl
def tpulse_listError_int_ (F : FnT)(n : Nat) (cs : List PV) (m lo hi : Int) : Option ((Int) × (Int)) :=
  bif ((n : Int) == (0 : Int)) then
    bif (decide ((n : Int) > m)) then
      bindO (F 91 (RSh.one (CK.int IntKind.i64)) [(PV.list 2 [(PV.int IntKind.i64 (10 : Int)), (PV.int IntKind.i64 (8 : Int))])]) fun (y0 : (Int)) =>
      bif (y0 != (0 : Int)) then
        some ((0 : Int), y0)
      else bindO (F 139 (RSh.tup [(Prod.mk false [(CK.int IntKind.i64)]), (Prod.mk false [(CK.int IntKind.i64)])]) [(PV.list n cs), (PV.fn 140 [(PV.imm [(PV.int IntKind.i64 lo)] 0), (PV.imm [(PV.int IntKind.i64 hi)] 0)])]) fun (y1 : ((Int) × (Int))) =>
      some (y1.1, y1.2)
    else bindO (F 91 (RSh.one (CK.int IntKind.i64)) [(PV.list 2 [(PV.int IntKind.i64 (10 : Int)), (PV.int IntKind.i64 (0 : Int))])]) fun (y2 : (Int)) =>
    bif (y2 != (0 : Int)) then
      some ((0 : Int), y2)
    else bindO (F 139 (RSh.tup [(Prod.mk false [(CK.int IntKind.i64)]), (Prod.mk false [(CK.int IntKind.i64)])]) [(PV.list n cs), (PV.fn 140 [(PV.imm [(PV.int IntKind.i64 lo)] 0), (PV.imm [(PV.int IntKind.i64 hi)] 0)])]) fun (y3 : ((Int) × (Int))) =>
    some (y3.1, y3.2)
  else bif (decide ((n : Int) > m)) then
    bindO (F 91 (RSh.one (CK.int IntKind.i64)) [(PV.list 2 [(PV.int IntKind.i64 (0 : Int)), (PV.int IntKind.i64 (8 : Int))])]) fun (y4 : (Int)) =>
    bif (y4 != (0 : Int)) then
      some ((0 : Int), y4)
    else bindO (F 139 (RSh.tup [(Prod.mk false [(CK.int IntKind.i64)]), (Prod.mk false [(CK.int IntKind.i64)])]) [(PV.list n cs), (PV.fn 140 [(PV.imm [(PV.int IntKind.i64 lo)] 0), (PV.imm [(PV.int IntKind.i64 hi)] 0)])]) fun (y5 : ((Int) × (Int))) =>
    some (y5.1, y5.2)
  else bindO (F 91 (RSh.one (CK.int IntKind.i64)) [(PV.list 2 [(PV.int IntKind.i64 (0 : Int)), (PV.int IntKind.i64 (0 : Int))])]) fun (y6 : (Int)) =>
  bif (y6 != (0 : Int)) then
    some ((0 : Int), y6)
  else bindO (F 139 (RSh.tup [(Prod.mk false [(CK.int IntKind.i64)]), (Prod.mk false [(CK.int IntKind.i64)])]) [(PV.list n cs), (PV.fn 140 [(PV.imm [(PV.int IntKind.i64 lo)] 0), (PV.imm [(PV.int IntKind.i64 hi)] 0)])]) fun (y7 : ((Int) × (Int))) =>
  some (y7.1, y7.2)
theorem tpulse_listError_int__eq (F : FnT)(n : Nat) (cs : List PV) (m lo hi : Int) : semF (callP F Epulse_listError_int_ 20) s93 (loopT []) 400 a93 [.list n cs, .int .i64 m, .fn 140 [.imm [.int .i64 lo] 0, .imm [.int .i64 hi] 0]] (fun rv => decR (RSh.tup [(Prod.mk false [(CK.int IntKind.i64)]), (Prod.mk false [(CK.int IntKind.i64)])]) rv.pv) = tpulse_listError_int_ F n cs m lo hi := by kernel_rfl
noncomputable abbrev Fpulse_listError_int_ (args : List PV) := Fn env 93 (RSh.tup [(Prod.mk false [(CK.int IntKind.i64)]), (Prod.mk false [(CK.int IntKind.i64)])]) args
theorem Fpulse_listError_int__of (n : Nat) (cs : List PV) (m lo hi : Int) {res : ((Int) × (Int))} (h : tpulse_listError_int_ (Fn env) n cs m lo hi = some res) : Fpulse_listError_int_ [.list n cs, .int .i64 m, .fn 140 [.imm [.int .i64 lo] 0, .imm [.int .i64 hi] 0]] = some res :=
  fn_of Epulse_listError_int__ok rfl rfl lo_nil ((tpulse_listError_int__eq _ _ _ _ _ _).trans h)

/-! ### pulse_CheckGates -/

def Epulse_CheckGates : List Entry := [.inl 94 a94 s94, .out 92 (RSh.one (CK.int IntKind.i64)), .out 91 (RSh.one (CK.int IntKind.i64)), .out 93 (RSh.tup [(Prod.mk false [(CK.int IntKind.i64)]), (Prod.mk false [(CK.int IntKind.i64)])])]
theorem Epulse_CheckGates_ok : ∀ e ∈ Epulse_CheckGates, EntOK env e := (ent_inl rfl (ent_out (ent_out (ent_out ent_nil))))
theorem Upulse_CheckGates : uniq ((blocksOf a20.body).map (·.1)) = true := by kernel_rfl
def tpulse_CheckGates (F : FnT) (p0_0 : Int) (p0_1 : Int) (p0_2 : Int) (p0_3n : Nat) (p0_3c : List PV) : Option ((Int) × (Int)) :=
  bindO (F 92 (RSh.one (CK.int IntKind.i64)) [(PV.int IntKind.i64 p0_0), (PV.int IntKind.i64 (0 : Int)), (PV.int IntKind.i64 (48 : Int))]) fun (y0 : (Int)) =>
  bindO (F 92 (RSh.one (CK.int IntKind.i64)) [(PV.int IntKind.i64 p0_1), (PV.int IntKind.i64 (1 : Int)), (PV.int IntKind.i64 (48 : Int))]) fun (y1 : (Int)) =>
  bindO (F 92 (RSh.one (CK.int IntKind.i64)) [(PV.int IntKind.i64 p0_2), (PV.int IntKind.i64 (1 : Int)), (PV.int IntKind.i64 (20 : Int))]) fun (y2 : (Int)) =>
  bindO (F 91 (RSh.one (CK.int IntKind.i64)) [(PV.list 3 [(PV.int IntKind.i64 y0), (PV.int IntKind.i64 y1), (PV.int IntKind.i64 y2)])]) fun (y3 : (Int)) =>
  bif (y3 != (0 : Int)) then
    some ((0 : Int), y3)
  else bindO (F 93 (RSh.tup [(Prod.mk false [(CK.int IntKind.i64)]), (Prod.mk false [(CK.int IntKind.i64)])]) [(PV.list p0_3n p0_3c), (PV.int IntKind.i64 (16 : Int)), (PV.fn 140 [(PV.imm [(PV.int IntKind.i64 (0 : Int))] 0), (PV.imm [(PV.int IntKind.i64 (100 : Int))] 0)])]) fun (y4 : ((Int) × (Int))) =>
  some (y4.1, y4.2)
theorem tpulse_CheckGates_eq (F : FnT) (p0_0 : Int) (p0_1 : Int) (p0_2 : Int) (p0_3n : Nat) (p0_3c : List PV) : semF (callP F Epulse_CheckGates 20) s20 (loopT []) 400 a20 [PV.agg [PV.int IntKind.i64 p0_0, PV.int IntKind.i64 p0_1, PV.int IntKind.i64 p0_2, PV.list p0_3n p0_3c]] (fun rv => decR (RSh.tup [(Prod.mk false [(CK.int IntKind.i64)]), (Prod.mk false [(CK.int IntKind.i64)])]) rv.pv) = tpulse_CheckGates F p0_0 p0_1 p0_2 p0_3n p0_3c := by kernel_rfl
noncomputable abbrev Fpulse_CheckGates (args : List PV) := Fn env 20 (RSh.tup [(Prod.mk false [(CK.int IntKind.i64)]), (Prod.mk false [(CK.int IntKind.i64)])]) args
theorem Fpulse_CheckGates_of  (p0_0 : Int) (p0_1 : Int) (p0_2 : Int) (p0_3n : Nat) (p0_3c : List PV) {res : ((Int) × (Int))} (h : tpulse_CheckGates (Fn env) p0_0 p0_1 p0_2 p0_3n p0_3c = some res) : Fpulse_CheckGates [PV.agg [PV.int IntKind.i64 p0_0, PV.int IntKind.i64 p0_1, PV.int IntKind.i64 p0_2, PV.list p0_3n p0_3c]] = some res :=
  fn_of Epulse_CheckGates_ok rfl rfl lo_nil ((tpulse_CheckGates_eq _ _ _ _ _ _).trans h)

/-! ### pulse_gatesError -/

def Epulse_gatesError : List Entry := [.out 20 (RSh.tup [(Prod.mk false [(CK.int IntKind.i64)]), (Prod.mk false [(CK.int IntKind.i64)])])]
theorem Epulse_gatesError_ok : ∀ e ∈ Epulse_gatesError, EntOK env e := (ent_out ent_nil)
theorem Upulse_gatesError : uniq ((blocksOf a95.body).map (·.1)) = true := by kernel_rfl
def tpulse_gatesError (F : FnT) (p0_0 : Int) (p0_1 : Int) (p0_2 : Int) (p0_3n : Nat) (p0_3c : List PV) : Option (Int) :=
  bindO (F 20 (RSh.tup [(Prod.mk false [(CK.int IntKind.i64)]), (Prod.mk false [(CK.int IntKind.i64)])]) [(PV.agg [(PV.int IntKind.i64 p0_0), (PV.int IntKind.i64 p0_1), (PV.int IntKind.i64 p0_2), (PV.list p0_3n p0_3c)])]) fun (y0 : ((Int) × (Int))) =>
  some y0.2
theorem tpulse_gatesError_eq (F : FnT) (p0_0 : Int) (p0_1 : Int) (p0_2 : Int) (p0_3n : Nat) (p0_3c : List PV) : semF (callP F Epulse_gatesError 20) s95 (loopT []) 400 a95 [PV.agg [PV.int IntKind.i64 p0_0, PV.int IntKind.i64 p0_1, PV.int IntKind.i64 p0_2, PV.list p0_3n p0_3c]] (fun rv => decR (RSh.one (CK.int IntKind.i64)) rv.pv) = tpulse_gatesError F p0_0 p0_1 p0_2 p0_3n p0_3c := by kernel_rfl
noncomputable abbrev Fpulse_gatesError (args : List PV) := Fn env 95 (RSh.one (CK.int IntKind.i64)) args
theorem Fpulse_gatesError_of  (p0_0 : Int) (p0_1 : Int) (p0_2 : Int) (p0_3n : Nat) (p0_3c : List PV) {res : (Int)} (h : tpulse_gatesError (Fn env) p0_0 p0_1 p0_2 p0_3n p0_3c = some res) : Fpulse_gatesError [PV.agg [PV.int IntKind.i64 p0_0, PV.int IntKind.i64 p0_1, PV.int IntKind.i64 p0_2, PV.list p0_3n p0_3c]] = some res :=
  fn_of Epulse_gatesError_ok rfl rfl lo_nil ((tpulse_gatesError_eq _ _ _ _ _ _).trans h)

/-! ### pulse_gateError -/

def Epulse_gateError : List Entry := [.inl 105 a105 s105]
theorem Epulse_gateError_ok : ∀ e ∈ Epulse_gateError, EntOK env e := (ent_inl rfl ent_nil)
theorem Upulse_gateError : uniq ((blocksOf a97.body).map (·.1)) = true := by kernel_rfl
def tpulse_gateError (F : FnT) (p0_0 : Int) (p0_1 : Int) (p0_2 : Int) (p0_3n : Nat) (p0_3c : List PV) (p1 : Int) : Option (Int) :=
  bif (decide (p1 < (0 : Int))) then
    some (6 : Int)
  else bif (decide (p1 ≥ p0_2)) then
    some (6 : Int)
  else some (0 : Int)
theorem tpulse_gateError_eq (F : FnT) (p0_0 : Int) (p0_1 : Int) (p0_2 : Int) (p0_3n : Nat) (p0_3c : List PV) (p1 : Int) : semF (callP F Epulse_gateError 20) s97 (loopT []) 400 a97 [PV.agg [PV.int IntKind.i64 p0_0, PV.int IntKind.i64 p0_1, PV.int IntKind.i64 p0_2, PV.list p0_3n p0_3c], PV.int IntKind.i64 p1] (fun rv => decR (RSh.one (CK.int IntKind.i64)) rv.pv) = tpulse_gateError F p0_0 p0_1 p0_2 p0_3n p0_3c p1 := by kernel_rfl
noncomputable abbrev Fpulse_gateError (args : List PV) := Fn env 97 (RSh.one (CK.int IntKind.i64)) args
theorem Fpulse_gateError_of  (p0_0 : Int) (p0_1 : Int) (p0_2 : Int) (p0_3n : Nat) (p0_3c : List PV) (p1 : Int) {res : (Int)} (h : tpulse_gateError (Fn env) p0_0 p0_1 p0_2 p0_3n p0_3c p1 = some res) : Fpulse_gateError [PV.agg [PV.int IntKind.i64 p0_0, PV.int IntKind.i64 p0_1, PV.int IntKind.i64 p0_2, PV.list p0_3n p0_3c], PV.int IntKind.i64 p1] = some res :=
  fn_of Epulse_gateError_ok rfl rfl lo_nil ((tpulse_gateError_eq _ _ _ _ _ _ _).trans h)

/-! ### pulse_firstIndex -/

def Epulse_firstIndex : List Entry := []
theorem Epulse_firstIndex_ok : ∀ e ∈ Epulse_firstIndex, EntOK env e := ent_nil
theorem Upulse_firstIndex : uniq ((blocksOf a100.body).map (·.1)) = true := by kernel_rfl
def tpulse_firstIndex (F : FnT) (p0_0 : Int) (p0_1 : Int) (p0_2 : Int) (p0_3n : Nat) (p0_3c : List PV) (p1 : Int) : Option (Int) :=
  some (w64 (p0_0 + (w64 (p1 * p0_1))))
theorem tpulse_firstIndex_eq (F : FnT) (p0_0 : Int) (p0_1 : Int) (p0_2 : Int) (p0_3n : Nat) (p0_3c : List PV) (p1 : Int) : semF (callP F Epulse_firstIndex 20) s100 (loopT []) 400 a100 [PV.agg [PV.int IntKind.i64 p0_0, PV.int IntKind.i64 p0_1, PV.int IntKind.i64 p0_2, PV.list p0_3n p0_3c], PV.int IntKind.i64 p1] (fun rv => decR (RSh.one (CK.int IntKind.i64)) rv.pv) = tpulse_firstIndex F p0_0 p0_1 p0_2 p0_3n p0_3c p1 := by kernel_rfl
noncomputable abbrev Fpulse_firstIndex (args : List PV) := Fn env 100 (RSh.one (CK.int IntKind.i64)) args
theorem Fpulse_firstIndex_of  (p0_0 : Int) (p0_1 : Int) (p0_2 : Int) (p0_3n : Nat) (p0_3c : List PV) (p1 : Int) {res : (Int)} (h : tpulse_firstIndex (Fn env) p0_0 p0_1 p0_2 p0_3n p0_3c p1 = some res) : Fpulse_firstIndex [PV.agg [PV.int IntKind.i64 p0_0, PV.int IntKind.i64 p0_1, PV.int IntKind.i64 p0_2, PV.list p0_3n p0_3c], PV.int IntKind.i64 p1] = some res :=
  fn_of Epulse_firstIndex_ok rfl rfl lo_nil ((tpulse_firstIndex_eq _ _ _ _ _ _ _).trans h)

/-! ### pulse_weighted -/

def Epulse_weighted : List Entry := []
theorem Epulse_weighted_ok : ∀ e ∈ Epulse_weighted, EntOK env e := ent_nil
def Tpulse_weighted_0a (n0 : Nat) (c1 : List PV) (i2 : Int) (n3 : Nat) (n4 : Nat) (c5 : List PV) (i6 : Int) (i7 : Int) (c8 : List PV) : Q := ⟨(tm 52 [(0,(AV.p (PV.list n0 c1))),(1,(AV.p (PV.int IntKind.i64 i2))),(7,(AV.msl 13 0 n3 2)),(14,(AV.p (PV.list n4 c5))),(15,(AV.p (PV.int IntKind.i64 i6))),(16,(AV.p (PV.int IntKind.i64 i7)))]),(mm 52 [(13,(Bk.pcs true c8))])⟩
def Xpulse_weighted_0a (y : Nat × List PV) : Ext × Q := (Ext.normal,⟨(tm 52 [(7,(AV.msl 13 0 y.1 2))]),(mm 52 [(13,(Bk.pcs true y.2))])⟩)
def Ipulse_weighted_0a (q : Ext × S) : Nat × List PV := ((pA_msl2 (avT q.2 7)), (pB_pcs1 (avM q.2 13)))
abbrev Ypulse_weighted_0 : Type := Nat × List PV
def XLpulse_weighted_0 : XL Ypulse_weighted_0 := .one Xpulse_weighted_0a
def Ipulse_weighted_0 (q : Ext × S) : Ypulse_weighted_0 := (Ipulse_weighted_0a q)
theorem XIpulse_weighted_0a (y : Nat × List PV) : Ipulse_weighted_0 (xe (Xpulse_weighted_0a y)) = y := (show Ipulse_weighted_0 (xe (Xpulse_weighted_0a y)) = (y.1, ((y.2.map AV.p).map pA_p)) from rfl).trans (by simp only [map_back])
theorem XIpulse_weighted_0 (y : Ypulse_weighted_0) : Ipulse_weighted_0 (xe (XLpulse_weighted_0.fn y)) = y := XIpulse_weighted_0a y
noncomputable abbrev Lpulse_weighted_0 : Q → Option Ypulse_weighted_0 := lpO env a99.body 0 XLpulse_weighted_0
noncomputable abbrev Rpulse_weighted_0 : Q → Option (Ext × S) := lpR env a99.body 0
theorem Lpulse_weighted_0a_of {s : Q} {y : Nat × List PV} (h : Rpulse_weighted_0 s = exO (Xpulse_weighted_0a y)) : Lpulse_weighted_0 s = some y := lpO_of Ipulse_weighted_0 XIpulse_weighted_0 (y := y) h
theorem Upulse_weighted : uniq ((blocksOf a99.body).map (·.1)) = true := by kernel_rfl
def Bpulse_weighted_0a (F : FnT) (N : Q → Option (Ext × S)) (E : Ext × Q → Option (Ext × S)) (L0 : Q → Option Ypulse_weighted_0) (n0 : Nat) (c1 : List PV) (i2 : Int) (n3 : Nat) (n4 : Nat) (c5 : List PV) (i6 : Int) (i7 : Int) (c8 : List PV) : Option (Ext × S) :=
  bif (decide (i7 < i6)) then
    bif (decide (((0 : Int) ≤ i7) ∧ (i7 < (n4 : Int)))) then
      bindO (intC IntKind.i64 (c5[((Int.toNat i7) * 1)]?)) fun x0 =>
      bif (decide ((w64 (i2 + i7)) ≥ (0 : Int))) then
        bif (decide ((w64 (i2 + i7)) < (n0 : Int))) then
          bif (decide (((0 : Int) ≤ (w64 (i2 + i7))) ∧ ((w64 (i2 + i7)) < (n0 : Int)))) then
            bindO (intC IntKind.i64 (c1[(((Int.toNat (w64 (i2 + i7))) * 2) + 0)]?)) fun x1 =>
            bif (decide (((0 : Int) ≤ (w64 (i2 + i7))) ∧ ((w64 (i2 + i7)) < (n0 : Int)))) then
              bindO (intC IntKind.i64 (c1[(((Int.toNat (w64 (i2 + i7))) * 2) + 1)]?)) fun x2 =>
              bif (decide (((0 : Int) ≤ i7) ∧ (i7 < (n3 : Int)))) then
                bif (decide (((0 + ((Int.toNat i7) * 2)) + 2) ≤ (List.length c8))) then
                  N (Tpulse_weighted_0a n0 c1 i2 n3 n4 c5 i6 (w64 (i7 + (1 : Int))) (over c8 (0 + ((Int.toNat i7) * 2)) [(PV.int IntKind.i64 (w64 (x0 * x1))), (PV.int IntKind.i64 (w64 (x0 * x2)))]))
                else none
              else none
            else none
          else none
        else N (Tpulse_weighted_0a n0 c1 i2 n3 n4 c5 i6 (w64 (i7 + (1 : Int))) c8)
      else N (Tpulse_weighted_0a n0 c1 i2 n3 n4 c5 i6 (w64 (i7 + (1 : Int))) c8)
    else none
  else E (Xpulse_weighted_0a (n3, c8))
theorem Bpulse_weighted_0a_eq (F : FnT) (N : Q → Option (Ext × S)) (E : Ext × Q → Option (Ext × S)) (L0 : Q → Option Ypulse_weighted_0) (n0 : Nat) (c1 : List PV) (i2 : Int) (n3 : Nat) (n4 : Nat) (c5 : List PV) (i6 : Int) (i7 : Int) (c8 : List PV) : semB (callP F Epulse_weighted 20) s99 (loopT [⟨0, Ypulse_weighted_0, L0, XLpulse_weighted_0⟩]) 400 (blkIn a99.body 0) N E (Tpulse_weighted_0a n0 c1 i2 n3 n4 c5 i6 i7 c8) = Bpulse_weighted_0a F N E L0 n0 c1 i2 n3 n4 c5 i6 i7 c8 := by kernel_rfl
theorem Rpulse_weighted_0a_of  (n0 : Nat) (c1 : List PV) (i2 : Int) (n3 : Nat) (n4 : Nat) (c5 : List PV) (i6 : Int) (i7 : Int) (c8 : List PV) {r : Ext × S} (h : Bpulse_weighted_0a (Fn env) Rpulse_weighted_0 exO Lpulse_weighted_0 n0 c1 i2 n3 n4 c5 i6 i7 c8 = some r) : Rpulse_weighted_0 (Tpulse_weighted_0a n0 c1 i2 n3 n4 c5 i6 i7 c8) = some r :=
  lp_of Epulse_weighted_ok (by kernel_rfl) (lo_cons (lpO_ok Upulse_weighted) lo_nil) (by kernel_rfl) ((Bpulse_weighted_0a_eq _ _ _ _ _ _ _ _ _ _ _ _ _).trans h)
def tpulse_weighted (F : FnT) (L0 : Q → Option Ypulse_weighted_0) (p0n : Nat) (p0c : List PV) (p1 : Int) (p2n : Nat) (p2c : List PV) : Option ((Nat) × (List PV)) :=
  bif (decide (((p2n : Int) = (p2n : Int)) ∧ (((0 : Int) ≤ (p2n : Int)) ∧ ((p2n : Int) ≤ (big : Int))))) then
    bindO (L0 (Tpulse_weighted_0a p0n p0c p1 (Int.toNat (p2n : Int)) p2n p2c (p2n : Int) (0 : Int) (rep [(PV.int IntKind.i64 (0 : Int)), (PV.int IntKind.i64 (0 : Int))] (Int.toNat (p2n : Int))))) fun y0 =>
    bif (decide ((0 + (y0.1 * 2)) ≤ (List.length y0.2))) then
      some (y0.1, (List.take (y0.1 * 2) (List.drop 0 y0.2)))
    else none
  else none
theorem tpulse_weighted_eq (F : FnT) (L0 : Q → Option Ypulse_weighted_0) (p0n : Nat) (p0c : List PV) (p1 : Int) (p2n : Nat) (p2c : List PV) : semF (callP F Epulse_weighted 20) s99 (loopT [⟨0, Ypulse_weighted_0, L0, XLpulse_weighted_0⟩]) 400 a99 [PV.list p0n p0c, PV.int IntKind.i64 p1, PV.list p2n p2c] (fun rv => decR (RSh.one CK.list) rv.pv) = tpulse_weighted F L0 p0n p0c p1 p2n p2c := by kernel_rfl
noncomputable abbrev Fpulse_weighted (args : List PV) := Fn env 99 (RSh.one CK.list) args
theorem Fpulse_weighted_of  (p0n : Nat) (p0c : List PV) (p1 : Int) (p2n : Nat) (p2c : List PV) {res : ((Nat) × (List PV))} (h : tpulse_weighted (Fn env) Lpulse_weighted_0 p0n p0c p1 p2n p2c = some res) : Fpulse_weighted [PV.list p0n p0c, PV.int IntKind.i64 p1, PV.list p2n p2c] = some res :=
  fn_of Epulse_weighted_ok rfl rfl (lo_cons (lpO_ok Upulse_weighted) lo_nil) ((tpulse_weighted_eq _ _ _ _ _ _ _).trans h)

/-! ### pulse_powerOf -/

def Epulse_powerOf : List Entry := []
theorem Epulse_powerOf_ok : ∀ e ∈ Epulse_powerOf, EntOK env e := ent_nil
theorem Upulse_powerOf : uniq ((blocksOf a143.body).map (·.1)) = true := by kernel_rfl
def tpulse_powerOf (F : FnT) (p0_0 : Int) (p0_1 : Int) : Option (Int) :=
  some (w64 ((w64 (p0_0 * p0_0)) + (w64 (p0_1 * p0_1))))
theorem tpulse_powerOf_eq (F : FnT) (p0_0 : Int) (p0_1 : Int) : semF (callP F Epulse_powerOf 20) s143 (loopT []) 400 a143 [PV.agg [PV.int IntKind.i64 p0_0, PV.int IntKind.i64 p0_1]] (fun rv => decR (RSh.one (CK.int IntKind.i64)) rv.pv) = tpulse_powerOf F p0_0 p0_1 := by kernel_rfl
noncomputable abbrev Fpulse_powerOf (args : List PV) := Fn env 143 (RSh.one (CK.int IntKind.i64)) args
theorem Fpulse_powerOf_of  (p0_0 : Int) (p0_1 : Int) {res : (Int)} (h : tpulse_powerOf (Fn env) p0_0 p0_1 = some res) : Fpulse_powerOf [PV.agg [PV.int IntKind.i64 p0_0, PV.int IntKind.i64 p0_1]] = some res :=
  fn_of Epulse_powerOf_ok rfl rfl lo_nil ((tpulse_powerOf_eq _ _ _).trans h)

/-! ### pulse_energyOf -/

def Epulse_energyOf : List Entry := [.out 143 (RSh.one (CK.int IntKind.i64))]
theorem Epulse_energyOf_ok : ∀ e ∈ Epulse_energyOf, EntOK env e := (ent_out ent_nil)
def Tpulse_energyOf_0a (i0 : Int) (n1 : Nat) (c2 : List PV) (i3 : Int) (i4 : Int) : Q := ⟨(tm 18 [(3,(AV.p (PV.int IntKind.i64 i0))),(6,(AV.p (PV.list n1 c2))),(7,(AV.p (PV.int IntKind.i64 i3))),(8,(AV.p (PV.int IntKind.i64 i4)))]),(mm 18 [])⟩
def Xpulse_energyOf_0a (y : Int) : Ext × Q := (Ext.normal,⟨(tm 18 [(3,(AV.p (PV.int IntKind.i64 y)))]),(mm 18 [])⟩)
def Ipulse_energyOf_0a (q : Ext × S) : Int := (pP_int1 (pA_p (avT q.2 3)))
abbrev Ypulse_energyOf_0 : Type := Int
def XLpulse_energyOf_0 : XL Ypulse_energyOf_0 := .one Xpulse_energyOf_0a
def Ipulse_energyOf_0 (q : Ext × S) : Ypulse_energyOf_0 := (Ipulse_energyOf_0a q)
theorem XIpulse_energyOf_0a (y : Int) : Ipulse_energyOf_0 (xe (Xpulse_energyOf_0a y)) = y := rfl
theorem XIpulse_energyOf_0 (y : Ypulse_energyOf_0) : Ipulse_energyOf_0 (xe (XLpulse_energyOf_0.fn y)) = y := XIpulse_energyOf_0a y
noncomputable abbrev Lpulse_energyOf_0 : Q → Option Ypulse_energyOf_0 := lpO env a120.body 0 XLpulse_energyOf_0
noncomputable abbrev Rpulse_energyOf_0 : Q → Option (Ext × S) := lpR env a120.body 0
theorem Lpulse_energyOf_0a_of {s : Q} {y : Int} (h : Rpulse_energyOf_0 s = exO (Xpulse_energyOf_0a y)) : Lpulse_energyOf_0 s = some y := lpO_of Ipulse_energyOf_0 XIpulse_energyOf_0 (y := y) h
theorem Upulse_energyOf : uniq ((blocksOf a120.body).map (·.1)) = true := by kernel_rfl
def Bpulse_energyOf_0a (F : FnT) (N : Q → Option (Ext × S)) (E : Ext × Q → Option (Ext × S)) (L0 : Q → Option Ypulse_energyOf_0) (i0 : Int) (n1 : Nat) (c2 : List PV) (i3 : Int) (i4 : Int) : Option (Ext × S) :=
  bif (decide (i4 < i3)) then
    bif (decide (((0 : Int) ≤ i4) ∧ (i4 < (n1 : Int)))) then
      bindO (intC IntKind.i64 (c2[((Int.toNat i4) * 2)]?)) fun x0 =>
      bindO (intC IntKind.i64 (c2[(((Int.toNat i4) * 2) + 1)]?)) fun x1 =>
      bindO (F 143 (RSh.one (CK.int IntKind.i64)) [(PV.agg [(PV.int IntKind.i64 x0), (PV.int IntKind.i64 x1)])]) fun (y2 : (Int)) =>
      N (Tpulse_energyOf_0a (w64 (i0 + y2)) n1 c2 i3 (w64 (i4 + (1 : Int))))
    else none
  else E (Xpulse_energyOf_0a i0)
theorem Bpulse_energyOf_0a_eq (F : FnT) (N : Q → Option (Ext × S)) (E : Ext × Q → Option (Ext × S)) (L0 : Q → Option Ypulse_energyOf_0) (i0 : Int) (n1 : Nat) (c2 : List PV) (i3 : Int) (i4 : Int) : semB (callP F Epulse_energyOf 20) s120 (loopT [⟨0, Ypulse_energyOf_0, L0, XLpulse_energyOf_0⟩]) 400 (blkIn a120.body 0) N E (Tpulse_energyOf_0a i0 n1 c2 i3 i4) = Bpulse_energyOf_0a F N E L0 i0 n1 c2 i3 i4 := by kernel_rfl
theorem Rpulse_energyOf_0a_of  (i0 : Int) (n1 : Nat) (c2 : List PV) (i3 : Int) (i4 : Int) {r : Ext × S} (h : Bpulse_energyOf_0a (Fn env) Rpulse_energyOf_0 exO Lpulse_energyOf_0 i0 n1 c2 i3 i4 = some r) : Rpulse_energyOf_0 (Tpulse_energyOf_0a i0 n1 c2 i3 i4) = some r :=
  lp_of Epulse_energyOf_ok (by kernel_rfl) (lo_cons (lpO_ok Upulse_energyOf) lo_nil) (by kernel_rfl) ((Bpulse_energyOf_0a_eq _ _ _ _ _ _ _ _ _).trans h)
def tpulse_energyOf (F : FnT) (L0 : Q → Option Ypulse_energyOf_0) (p0n : Nat) (p0c : List PV) : Option (Int) :=
  bindO (L0 (Tpulse_energyOf_0a (0 : Int) p0n p0c (p0n : Int) (0 : Int))) fun y0 =>
  some y0
theorem tpulse_energyOf_eq (F : FnT) (L0 : Q → Option Ypulse_energyOf_0) (p0n : Nat) (p0c : List PV) : semF (callP F Epulse_energyOf 20) s120 (loopT [⟨0, Ypulse_energyOf_0, L0, XLpulse_energyOf_0⟩]) 400 a120 [PV.list p0n p0c] (fun rv => decR (RSh.one (CK.int IntKind.i64)) rv.pv) = tpulse_energyOf F L0 p0n p0c := by kernel_rfl
noncomputable abbrev Fpulse_energyOf (args : List PV) := Fn env 120 (RSh.one (CK.int IntKind.i64)) args
theorem Fpulse_energyOf_of  (p0n : Nat) (p0c : List PV) {res : (Int)} (h : tpulse_energyOf (Fn env) Lpulse_energyOf_0 p0n p0c = some res) : Fpulse_energyOf [PV.list p0n p0c] = some res :=
  fn_of Epulse_energyOf_ok rfl rfl (lo_cons (lpO_ok Upulse_energyOf) lo_nil) ((tpulse_energyOf_eq _ _ _ _).trans h)

/-! ### pulse_EnergyIn -/

def Epulse_EnergyIn : List Entry := [.out 95 (RSh.one (CK.int IntKind.i64)), .out 96 (RSh.one (CK.int IntKind.i64)), .out 97 (RSh.one (CK.int IntKind.i64)), .out 92 (RSh.one (CK.int IntKind.i64)), .out 91 (RSh.one (CK.int IntKind.i64)), .out 100 (RSh.one (CK.int IntKind.i64)), .out 99 (RSh.one CK.list), .out 120 (RSh.one (CK.int IntKind.i64))]
theorem Epulse_EnergyIn_ok : ∀ e ∈ Epulse_EnergyIn, EntOK env e := (ent_out (ent_out (ent_out (ent_out (ent_out (ent_out (ent_out (ent_out ent_nil))))))))
def Tpulse_EnergyIn_0a (n0 : Nat) (c1 : List PV) (i2 : Int) (i3 : Int) (i4 : Int) (i5 : Int) (i6 : Int) (n7 : Nat) (c8 : List PV) (i9 : Int) (i10 : Int) (i11 : Int) (i12 : Int) : Q := ⟨(tm 71 [(1,(AV.p (PV.list n0 c1))),(3,(AV.loc 3 0)),(5,(AV.loc 5 0)),(6,(AV.loc 6 0)),(9,(AV.p (PV.int IntKind.i64 i2))),(11,(AV.loc 11 0)),(12,(AV.p (PV.int IntKind.i64 i3)))]),(mm 71 [(3,(Bk.cells true [(AV.p (PV.int IntKind.i64 i4)),(AV.p (PV.int IntKind.i64 i5)),(AV.p (PV.int IntKind.i64 i6)),(AV.p (PV.list n7 c8))])),(5,(Bk.pcs true [(PV.int IntKind.i64 i9),(PV.int IntKind.i64 i10)])),(6,(Bk.pcs true [(PV.int IntKind.i64 (0 : Int)),(PV.int IntKind.i64 (0 : Int))])),(11,(Bk.pcs true [(PV.int IntKind.i64 i11),(PV.int IntKind.i64 i12)]))])⟩
def Xpulse_EnergyIn_0a (y : Int × Int × Int × Nat × List PV × Int × Int × Int × Int) : Ext × Q := (Ext.normal,⟨(tm 71 [(6,(AV.loc 6 0)),(11,(AV.loc 11 0))]),(mm 71 [(3,(Bk.cells true [(AV.p (PV.int IntKind.i64 y.1)),(AV.p (PV.int IntKind.i64 y.2.1)),(AV.p (PV.int IntKind.i64 y.2.2.1)),(AV.p (PV.list y.2.2.2.1 y.2.2.2.2.1))])),(5,(Bk.pcs true [(PV.int IntKind.i64 y.2.2.2.2.2.1),(PV.int IntKind.i64 y.2.2.2.2.2.2.1)])),(6,(Bk.pcs true [(PV.int IntKind.i64 (0 : Int)),(PV.int IntKind.i64 (0 : Int))])),(11,(Bk.pcs true [(PV.int IntKind.i64 y.2.2.2.2.2.2.2.1),(PV.int IntKind.i64 y.2.2.2.2.2.2.2.2)]))])⟩)
def Ipulse_EnergyIn_0a (q : Ext × S) : Int × Int × Int × Nat × List PV × Int × Int × Int × Int := ((pP_int1 (pA_p (hdA (pB_cells1 (avM q.2 3))))), (pP_int1 (pA_p (hdA (List.tail (pB_cells1 (avM q.2 3)))))), (pP_int1 (pA_p (hdA (List.tail (List.tail (pB_cells1 (avM q.2 3))))))), (pP_list0 (pA_p (hdA (List.tail (List.tail (List.tail (pB_cells1 (avM q.2 3)))))))), (pP_list1 (pA_p (hdA (List.tail (List.tail (List.tail (pB_cells1 (avM q.2 3)))))))), (pP_int1 (hdP (pB_pcs1 (avM q.2 5)))), (pP_int1 (hdP (List.tail (pB_pcs1 (avM q.2 5))))), (pP_int1 (hdP (pB_pcs1 (avM q.2 11)))), (pP_int1 (hdP (List.tail (pB_pcs1 (avM q.2 11))))))
abbrev Ypulse_EnergyIn_0 : Type := Int × Int × Int × Nat × List PV × Int × Int × Int × Int
def XLpulse_EnergyIn_0 : XL Ypulse_EnergyIn_0 := .one Xpulse_EnergyIn_0a
def Ipulse_EnergyIn_0 (q : Ext × S) : Ypulse_EnergyIn_0 := (Ipulse_EnergyIn_0a q)
theorem XIpulse_EnergyIn_0a (y : Int × Int × Int × Nat × List PV × Int × Int × Int × Int) : Ipulse_EnergyIn_0 (xe (Xpulse_EnergyIn_0a y)) = y := rfl
theorem XIpulse_EnergyIn_0 (y : Ypulse_EnergyIn_0) : Ipulse_EnergyIn_0 (xe (XLpulse_EnergyIn_0.fn y)) = y := XIpulse_EnergyIn_0a y
noncomputable abbrev Lpulse_EnergyIn_0 : Q → Option Ypulse_EnergyIn_0 := lpO env a66.body 0 XLpulse_EnergyIn_0
noncomputable abbrev Rpulse_EnergyIn_0 : Q → Option (Ext × S) := lpR env a66.body 0
theorem Lpulse_EnergyIn_0a_of {s : Q} {y : Int × Int × Int × Nat × List PV × Int × Int × Int × Int} (h : Rpulse_EnergyIn_0 s = exO (Xpulse_EnergyIn_0a y)) : Lpulse_EnergyIn_0 s = some y := lpO_of Ipulse_EnergyIn_0 XIpulse_EnergyIn_0 (y := y) h
theorem Upulse_EnergyIn : uniq ((blocksOf a66.body).map (·.1)) = true := by kernel_rfl
def Bpulse_EnergyIn_0a (F : FnT) (N : Q → Option (Ext × S)) (E : Ext × Q → Option (Ext × S)) (L0 : Q → Option Ypulse_EnergyIn_0) (n0 : Nat) (c1 : List PV) (i2 : Int) (i3 : Int) (i4 : Int) (i5 : Int) (i6 : Int) (n7 : Nat) (c8 : List PV) (i9 : Int) (i10 : Int) (i11 : Int) (i12 : Int) : Option (Ext × S) :=
  bif (decide (i3 ≤ i10)) then
    bindO (F 99 (RSh.one CK.list) [(PV.list n0 c1), (PV.int IntKind.i64 (w64 (i2 + i3))), (PV.list n7 c8)]) fun (y0 : ((Nat) × (List PV))) =>
    bindO (F 120 (RSh.one (CK.int IntKind.i64)) [(PV.list y0.1 y0.2)]) fun (y1 : (Int)) =>
    N (Tpulse_EnergyIn_0a n0 c1 i2 (w64 (i3 + (1 : Int))) i4 i5 i6 n7 c8 i9 i10 (if (y1 < i11) then y1 else i11) (if (y1 > i12) then y1 else i12))
  else E (Xpulse_EnergyIn_0a (i4, i5, i6, n7, c8, i9, i10, i11, i12))
theorem Bpulse_EnergyIn_0a_eq (F : FnT) (N : Q → Option (Ext × S)) (E : Ext × Q → Option (Ext × S)) (L0 : Q → Option Ypulse_EnergyIn_0) (n0 : Nat) (c1 : List PV) (i2 : Int) (i3 : Int) (i4 : Int) (i5 : Int) (i6 : Int) (n7 : Nat) (c8 : List PV) (i9 : Int) (i10 : Int) (i11 : Int) (i12 : Int) : semB (callP F Epulse_EnergyIn 20) s66 (loopT [⟨0, Ypulse_EnergyIn_0, L0, XLpulse_EnergyIn_0⟩]) 400 (blkIn a66.body 0) N E (Tpulse_EnergyIn_0a n0 c1 i2 i3 i4 i5 i6 n7 c8 i9 i10 i11 i12) = Bpulse_EnergyIn_0a F N E L0 n0 c1 i2 i3 i4 i5 i6 n7 c8 i9 i10 i11 i12 := by kernel_rfl
theorem Rpulse_EnergyIn_0a_of  (n0 : Nat) (c1 : List PV) (i2 : Int) (i3 : Int) (i4 : Int) (i5 : Int) (i6 : Int) (n7 : Nat) (c8 : List PV) (i9 : Int) (i10 : Int) (i11 : Int) (i12 : Int) {r : Ext × S} (h : Bpulse_EnergyIn_0a (Fn env) Rpulse_EnergyIn_0 exO Lpulse_EnergyIn_0 n0 c1 i2 i3 i4 i5 i6 n7 c8 i9 i10 i11 i12 = some r) : Rpulse_EnergyIn_0 (Tpulse_EnergyIn_0a n0 c1 i2 i3 i4 i5 i6 n7 c8 i9 i10 i11 i12) = some r :=
  lp_of Epulse_EnergyIn_ok (by kernel_rfl) (lo_cons (lpO_ok Upulse_EnergyIn) lo_nil) (by kernel_rfl) ((Bpulse_EnergyIn_0a_eq _ _ _ _ _ _ _ _ _ _ _ _ _ _ _ _ _).trans h)
def tpulse_EnergyIn (F : FnT) (L0 : Q → Option Ypulse_EnergyIn_0) (p0_0 : Int) (p0_1 : Int) (p0_2 : Int) (p0_3n : Nat) (p0_3c : List PV) (p1n : Nat) (p1c : List PV) (p2_0 : Int) (p2_1 : Int) : Option ((Int) × ((Int) × (Int))) :=
  bindO (F 95 (RSh.one (CK.int IntKind.i64)) [(PV.agg [(PV.int IntKind.i64 p0_0), (PV.int IntKind.i64 p0_1), (PV.int IntKind.i64 p0_2), (PV.list p0_3n p0_3c)])]) fun (y0 : (Int)) =>
  bindO (F 96 (RSh.one (CK.int IntKind.i64)) [(PV.list p1n p1c)]) fun (y1 : (Int)) =>
  bindO (F 97 (RSh.one (CK.int IntKind.i64)) [(PV.agg [(PV.int IntKind.i64 p0_0), (PV.int IntKind.i64 p0_1), (PV.int IntKind.i64 p0_2), (PV.list p0_3n p0_3c)]), (PV.int IntKind.i64 p2_0)]) fun (y2 : (Int)) =>
  bindO (F 92 (RSh.one (CK.int IntKind.i64)) [(PV.int IntKind.i64 p2_1), (PV.int IntKind.i64 (0 : Int)), (PV.int IntKind.i64 (8 : Int))]) fun (y3 : (Int)) =>
  bindO (F 91 (RSh.one (CK.int IntKind.i64)) [(PV.list 4 [(PV.int IntKind.i64 y0), (PV.int IntKind.i64 y1), (PV.int IntKind.i64 y2), (PV.int IntKind.i64 y3)])]) fun (y4 : (Int)) =>
  bif (y4 != (0 : Int)) then
    some ((0 : Int), ((0 : Int), y4))
  else bindO (F 100 (RSh.one (CK.int IntKind.i64)) [(PV.agg [(PV.int IntKind.i64 p0_0), (PV.int IntKind.i64 p0_1), (PV.int IntKind.i64 p0_2), (PV.list p0_3n p0_3c)]), (PV.int IntKind.i64 p2_0)]) fun (y5 : (Int)) =>
  bindO (F 99 (RSh.one CK.list) [(PV.list p1n p1c), (PV.int IntKind.i64 y5), (PV.list p0_3n p0_3c)]) fun (y6 : ((Nat) × (List PV))) =>
  bindO (F 120 (RSh.one (CK.int IntKind.i64)) [(PV.list y6.1 y6.2)]) fun (y7 : (Int)) =>
  bindO (L0 (Tpulse_EnergyIn_0a p1n p1c y5 (w64 ((0 : Int) - p2_1)) p0_0 p0_1 p0_2 p0_3n p0_3c p2_0 p2_1 y7 y7)) fun y8 =>
  some (y8.2.2.2.2.2.2.2.1, (y8.2.2.2.2.2.2.2.2, (0 : Int)))
theorem tpulse_EnergyIn_eq (F : FnT) (L0 : Q → Option Ypulse_EnergyIn_0) (p0_0 : Int) (p0_1 : Int) (p0_2 : Int) (p0_3n : Nat) (p0_3c : List PV) (p1n : Nat) (p1c : List PV) (p2_0 : Int) (p2_1 : Int) : semF (callP F Epulse_EnergyIn 20) s66 (loopT [⟨0, Ypulse_EnergyIn_0, L0, XLpulse_EnergyIn_0⟩]) 400 a66 [PV.agg [PV.int IntKind.i64 p0_0, PV.int IntKind.i64 p0_1, PV.int IntKind.i64 p0_2, PV.list p0_3n p0_3c], PV.list p1n p1c, PV.agg [PV.int IntKind.i64 p2_0, PV.int IntKind.i64 p2_1]] (fun rv => decR (RSh.tup [(Prod.mk true [(CK.int IntKind.i64), (CK.int IntKind.i64)]), (Prod.mk false [(CK.int IntKind.i64)])]) rv.pv) = tpulse_EnergyIn F L0 p0_0 p0_1 p0_2 p0_3n p0_3c p1n p1c p2_0 p2_1 := by kernel_rfl
noncomputable abbrev Fpulse_EnergyIn (args : List PV) := Fn env 66 (RSh.tup [(Prod.mk true [(CK.int IntKind.i64), (CK.int IntKind.i64)]), (Prod.mk false [(CK.int IntKind.i64)])]) args
theorem Fpulse_EnergyIn_of  (p0_0 : Int) (p0_1 : Int) (p0_2 : Int) (p0_3n : Nat) (p0_3c : List PV) (p1n : Nat) (p1c : List PV) (p2_0 : Int) (p2_1 : Int) {res : ((Int) × ((Int) × (Int)))} (h : tpulse_EnergyIn (Fn env) Lpulse_EnergyIn_0 p0_0 p0_1 p0_2 p0_3n p0_3c p1n p1c p2_0 p2_1 = some res) : Fpulse_EnergyIn [PV.agg [PV.int IntKind.i64 p0_0, PV.int IntKind.i64 p0_1, PV.int IntKind.i64 p0_2, PV.list p0_3n p0_3c], PV.list p1n p1c, PV.agg [PV.int IntKind.i64 p2_0, PV.int IntKind.i64 p2_1]] = some res :=
  fn_of Epulse_EnergyIn_ok rfl rfl (lo_cons (lpO_ok Upulse_EnergyIn) lo_nil) ((tpulse_EnergyIn_eq _ _ _ _ _ _ _ _ _ _ _).trans h)

/-! ### glidepathref01_CheckGates -/

def Eglidepathref01_CheckGates : List Entry := [.out 26 (RSh.one CK.bool)]
theorem Eglidepathref01_CheckGates_ok : ∀ e ∈ Eglidepathref01_CheckGates, EntOK env e := (ent_out ent_nil)
def Tglidepathref01_CheckGates_0a (i0 : Int) (i1 : Int) (i2 : Int) (i3 : Int) (n4 : Nat) (c5 : List PV) : Q := ⟨(tm 44 [(1,(AV.loc 1 0)),(4,(AV.p (PV.int IntKind.i64 i0)))]),(mm 44 [(1,(Bk.cells true [(AV.p (PV.int IntKind.i64 i1)),(AV.p (PV.int IntKind.i64 i2)),(AV.p (PV.int IntKind.i64 i3)),(AV.p (PV.list n4 c5))]))])⟩
def Xglidepathref01_CheckGates_0a (y : Int) : Ext × Q := (Ext.ret,⟨(tm 44 [(2,(AV.p (PV.int IntKind.i64 y))),(3,(AV.p (PV.int IntKind.i64 (2 : Int))))]),(mm 44 [])⟩)
def Iglidepathref01_CheckGates_0a (q : Ext × S) : Int := (pP_int1 (pA_p (avT q.2 2)))
def Xglidepathref01_CheckGates_0b (y : Int × Int × Int × Nat × List PV) : Ext × Q := (Ext.normal,⟨(tm 44 []),(mm 44 [(1,(Bk.cells true [(AV.p (PV.int IntKind.i64 y.1)),(AV.p (PV.int IntKind.i64 y.2.1)),(AV.p (PV.int IntKind.i64 y.2.2.1)),(AV.p (PV.list y.2.2.2.1 y.2.2.2.2))]))])⟩)
def Iglidepathref01_CheckGates_0b (q : Ext × S) : Int × Int × Int × Nat × List PV := ((pP_int1 (pA_p (hdA (pB_cells1 (avM q.2 1))))), (pP_int1 (pA_p (hdA (List.tail (pB_cells1 (avM q.2 1)))))), (pP_int1 (pA_p (hdA (List.tail (List.tail (pB_cells1 (avM q.2 1))))))), (pP_list0 (pA_p (hdA (List.tail (List.tail (List.tail (pB_cells1 (avM q.2 1)))))))), (pP_list1 (pA_p (hdA (List.tail (List.tail (List.tail (pB_cells1 (avM q.2 1)))))))))
abbrev Yglidepathref01_CheckGates_0 : Type := (Int) ⊕ ((Int × Int × Int × Nat × List PV))
def XLglidepathref01_CheckGates_0 : XL Yglidepathref01_CheckGates_0 := .more Xglidepathref01_CheckGates_0a (.one Xglidepathref01_CheckGates_0b)
def Iglidepathref01_CheckGates_0 (q : Ext × S) : Yglidepathref01_CheckGates_0 := bif (cE q.1 == 2) then (Sum.inl (Iglidepathref01_CheckGates_0a q)) else (Sum.inr (Iglidepathref01_CheckGates_0b q))
theorem XIglidepathref01_CheckGates_0a (y : Int) : Iglidepathref01_CheckGates_0 (xe (Xglidepathref01_CheckGates_0a y)) = (Sum.inl y) := rfl
theorem XIglidepathref01_CheckGates_0b (y : Int × Int × Int × Nat × List PV) : Iglidepathref01_CheckGates_0 (xe (Xglidepathref01_CheckGates_0b y)) = (Sum.inr y) := rfl
theorem XIglidepathref01_CheckGates_0 (y : Yglidepathref01_CheckGates_0) : Iglidepathref01_CheckGates_0 (xe (XLglidepathref01_CheckGates_0.fn y)) = y := (match y with | .inl y => XIglidepathref01_CheckGates_0a y | .inr y => XIglidepathref01_CheckGates_0b y)
noncomputable abbrev Lglidepathref01_CheckGates_0 : Q → Option Yglidepathref01_CheckGates_0 := lpO env a25.body 0 XLglidepathref01_CheckGates_0
noncomputable abbrev Rglidepathref01_CheckGates_0 : Q → Option (Ext × S) := lpR env a25.body 0
theorem Lglidepathref01_CheckGates_0a_of {s : Q} {y : Int} (h : Rglidepathref01_CheckGates_0 s = exO (Xglidepathref01_CheckGates_0a y)) : Lglidepathref01_CheckGates_0 s = some (Sum.inl y) := lpO_of Iglidepathref01_CheckGates_0 XIglidepathref01_CheckGates_0 (y := (Sum.inl y)) h
theorem Lglidepathref01_CheckGates_0b_of {s : Q} {y : Int × Int × Int × Nat × List PV} (h : Rglidepathref01_CheckGates_0 s = exO (Xglidepathref01_CheckGates_0b y)) : Lglidepathref01_CheckGates_0 s = some (Sum.inr y) := lpO_of Iglidepathref01_CheckGates_0 XIglidepathref01_CheckGates_0 (y := (Sum.inr y)) h
theorem Uglidepathref01_CheckGates : uniq ((blocksOf a25.body).map (·.1)) = true := by kernel_rfl
def Bglidepathref01_CheckGates_0a (F : FnT) (N : Q → Option (Ext × S)) (E : Ext × Q → Option (Ext × S)) (L0 : Q → Option Yglidepathref01_CheckGates_0) (i0 : Int) (i1 : Int) (i2 : Int) (i3 : Int) (n4 : Nat) (c5 : List PV) : Option (Ext × S) :=
  bif (decide (i0 < (n4 : Int))) then
    bif (decide (((0 : Int) ≤ i0) ∧ (i0 < (n4 : Int)))) then
      bindO (intC IntKind.i64 (c5[((Int.toNat i0) * 1)]?)) fun x0 =>
      bindO (F 26 (RSh.one CK.bool) [(PV.int IntKind.i64 x0), (PV.int IntKind.i64 (0 : Int)), (PV.int IntKind.i64 (100 : Int))]) fun (y1 : (Bool)) =>
      bif y1 then
        N (Tglidepathref01_CheckGates_0a (w64 (i0 + (1 : Int))) i1 i2 i3 n4 c5)
      else E (Xglidepathref01_CheckGates_0a i0)
    else none
  else E (Xglidepathref01_CheckGates_0b (i1, i2, i3, n4, c5))
theorem Bglidepathref01_CheckGates_0a_eq (F : FnT) (N : Q → Option (Ext × S)) (E : Ext × Q → Option (Ext × S)) (L0 : Q → Option Yglidepathref01_CheckGates_0) (i0 : Int) (i1 : Int) (i2 : Int) (i3 : Int) (n4 : Nat) (c5 : List PV) : semB (callP F Eglidepathref01_CheckGates 20) s25 (loopT [⟨0, Yglidepathref01_CheckGates_0, L0, XLglidepathref01_CheckGates_0⟩]) 400 (blkIn a25.body 0) N E (Tglidepathref01_CheckGates_0a i0 i1 i2 i3 n4 c5) = Bglidepathref01_CheckGates_0a F N E L0 i0 i1 i2 i3 n4 c5 := by kernel_rfl
theorem Rglidepathref01_CheckGates_0a_of  (i0 : Int) (i1 : Int) (i2 : Int) (i3 : Int) (n4 : Nat) (c5 : List PV) {r : Ext × S} (h : Bglidepathref01_CheckGates_0a (Fn env) Rglidepathref01_CheckGates_0 exO Lglidepathref01_CheckGates_0 i0 i1 i2 i3 n4 c5 = some r) : Rglidepathref01_CheckGates_0 (Tglidepathref01_CheckGates_0a i0 i1 i2 i3 n4 c5) = some r :=
  lp_of Eglidepathref01_CheckGates_ok (by kernel_rfl) (lo_cons (lpO_ok Uglidepathref01_CheckGates) lo_nil) (by kernel_rfl) ((Bglidepathref01_CheckGates_0a_eq _ _ _ _ _ _ _ _ _ _).trans h)
def tglidepathref01_CheckGates (F : FnT) (L0 : Q → Option Yglidepathref01_CheckGates_0) (p0_0 : Int) (p0_1 : Int) (p0_2 : Int) (p0_3n : Nat) (p0_3c : List PV) : Option ((Int) × (Int)) :=
  bindO (F 26 (RSh.one CK.bool) [(PV.int IntKind.i64 p0_0), (PV.int IntKind.i64 (0 : Int)), (PV.int IntKind.i64 (48 : Int))]) fun (y0 : (Bool)) =>
  bif y0 then
    bindO (F 26 (RSh.one CK.bool) [(PV.int IntKind.i64 p0_1), (PV.int IntKind.i64 (1 : Int)), (PV.int IntKind.i64 (48 : Int))]) fun (y1 : (Bool)) =>
    bif y1 then
      bindO (F 26 (RSh.one CK.bool) [(PV.int IntKind.i64 p0_2), (PV.int IntKind.i64 (1 : Int)), (PV.int IntKind.i64 (20 : Int))]) fun (y2 : (Bool)) =>
      bif y2 then
        bif ((p0_3n : Int) == (0 : Int)) then
          some ((0 : Int), (10 : Int))
        else bif (decide ((p0_3n : Int) > (16 : Int))) then
          some ((0 : Int), (8 : Int))
        else bindO (L0 (Tglidepathref01_CheckGates_0a (0 : Int) p0_0 p0_1 p0_2 p0_3n p0_3c)) fun z =>
        Sum.elim (fun y3 =>
          some (y3, (2 : Int))) (fun y4 =>
          some ((0 : Int), (0 : Int))) z
      else some ((0 : Int), (2 : Int))
    else some ((0 : Int), (2 : Int))
  else some ((0 : Int), (2 : Int))
theorem tglidepathref01_CheckGates_eq (F : FnT) (L0 : Q → Option Yglidepathref01_CheckGates_0) (p0_0 : Int) (p0_1 : Int) (p0_2 : Int) (p0_3n : Nat) (p0_3c : List PV) : semF (callP F Eglidepathref01_CheckGates 20) s25 (loopT [⟨0, Yglidepathref01_CheckGates_0, L0, XLglidepathref01_CheckGates_0⟩]) 400 a25 [PV.agg [PV.int IntKind.i64 p0_0, PV.int IntKind.i64 p0_1, PV.int IntKind.i64 p0_2, PV.list p0_3n p0_3c]] (fun rv => decR (RSh.tup [(Prod.mk false [(CK.int IntKind.i64)]), (Prod.mk false [(CK.int IntKind.i64)])]) rv.pv) = tglidepathref01_CheckGates F L0 p0_0 p0_1 p0_2 p0_3n p0_3c := by kernel_rfl
noncomputable abbrev Fglidepathref01_CheckGates (args : List PV) := Fn env 25 (RSh.tup [(Prod.mk false [(CK.int IntKind.i64)]), (Prod.mk false [(CK.int IntKind.i64)])]) args
theorem Fglidepathref01_CheckGates_of  (p0_0 : Int) (p0_1 : Int) (p0_2 : Int) (p0_3n : Nat) (p0_3c : List PV) {res : ((Int) × (Int))} (h : tglidepathref01_CheckGates (Fn env) Lglidepathref01_CheckGates_0 p0_0 p0_1 p0_2 p0_3n p0_3c = some res) : Fglidepathref01_CheckGates [PV.agg [PV.int IntKind.i64 p0_0, PV.int IntKind.i64 p0_1, PV.int IntKind.i64 p0_2, PV.list p0_3n p0_3c]] = some res :=
  fn_of Eglidepathref01_CheckGates_ok rfl rfl (lo_cons (lpO_ok Uglidepathref01_CheckGates) lo_nil) ((tglidepathref01_CheckGates_eq _ _ _ _ _ _ _).trans h)

/-! ### glidepathref01_GatesErr -/

def Eglidepathref01_GatesErr : List Entry := [.out 25 (RSh.tup [(Prod.mk false [(CK.int IntKind.i64)]), (Prod.mk false [(CK.int IntKind.i64)])])]
theorem Eglidepathref01_GatesErr_ok : ∀ e ∈ Eglidepathref01_GatesErr, EntOK env e := (ent_out ent_nil)
theorem Uglidepathref01_GatesErr : uniq ((blocksOf a34.body).map (·.1)) = true := by kernel_rfl
def tglidepathref01_GatesErr (F : FnT) (p0_0 : Int) (p0_1 : Int) (p0_2 : Int) (p0_3n : Nat) (p0_3c : List PV) : Option (Int) :=
  bindO (F 25 (RSh.tup [(Prod.mk false [(CK.int IntKind.i64)]), (Prod.mk false [(CK.int IntKind.i64)])]) [(PV.agg [(PV.int IntKind.i64 p0_0), (PV.int IntKind.i64 p0_1), (PV.int IntKind.i64 p0_2), (PV.list p0_3n p0_3c)])]) fun (y0 : ((Int) × (Int))) =>
  some y0.2
theorem tglidepathref01_GatesErr_eq (F : FnT) (p0_0 : Int) (p0_1 : Int) (p0_2 : Int) (p0_3n : Nat) (p0_3c : List PV) : semF (callP F Eglidepathref01_GatesErr 20) s34 (loopT []) 400 a34 [PV.agg [PV.int IntKind.i64 p0_0, PV.int IntKind.i64 p0_1, PV.int IntKind.i64 p0_2, PV.list p0_3n p0_3c]] (fun rv => decR (RSh.one (CK.int IntKind.i64)) rv.pv) = tglidepathref01_GatesErr F p0_0 p0_1 p0_2 p0_3n p0_3c := by kernel_rfl
noncomputable abbrev Fglidepathref01_GatesErr (args : List PV) := Fn env 34 (RSh.one (CK.int IntKind.i64)) args
theorem Fglidepathref01_GatesErr_of  (p0_0 : Int) (p0_1 : Int) (p0_2 : Int) (p0_3n : Nat) (p0_3c : List PV) {res : (Int)} (h : tglidepathref01_GatesErr (Fn env) p0_0 p0_1 p0_2 p0_3n p0_3c = some res) : Fglidepathref01_GatesErr [PV.agg [PV.int IntKind.i64 p0_0, PV.int IntKind.i64 p0_1, PV.int IntKind.i64 p0_2, PV.list p0_3n p0_3c]] = some res :=
  fn_of Eglidepathref01_GatesErr_ok rfl rfl lo_nil ((tglidepathref01_GatesErr_eq _ _ _ _ _ _).trans h)

/-! ### glidepathref01_GateErr -/

def Eglidepathref01_GateErr : List Entry := [.out 26 (RSh.one CK.bool)]
theorem Eglidepathref01_GateErr_ok : ∀ e ∈ Eglidepathref01_GateErr, EntOK env e := (ent_out ent_nil)
theorem Uglidepathref01_GateErr : uniq ((blocksOf a30.body).map (·.1)) = true := by kernel_rfl
def tglidepathref01_GateErr (F : FnT) (p0_0 : Int) (p0_1 : Int) (p0_2 : Int) (p0_3n : Nat) (p0_3c : List PV) (p1 : Int) : Option (Int) :=
  bindO (F 26 (RSh.one CK.bool) [(PV.int IntKind.i64 p1), (PV.int IntKind.i64 (0 : Int)), (PV.int IntKind.i64 (w64 (p0_2 - (1 : Int))))]) fun (y0 : (Bool)) =>
  bif y0 then
    some (0 : Int)
  else some (6 : Int)
theorem tglidepathref01_GateErr_eq (F : FnT) (p0_0 : Int) (p0_1 : Int) (p0_2 : Int) (p0_3n : Nat) (p0_3c : List PV) (p1 : Int) : semF (callP F Eglidepathref01_GateErr 20) s30 (loopT []) 400 a30 [PV.agg [PV.int IntKind.i64 p0_0, PV.int IntKind.i64 p0_1, PV.int IntKind.i64 p0_2, PV.list p0_3n p0_3c], PV.int IntKind.i64 p1] (fun rv => decR (RSh.one (CK.int IntKind.i64)) rv.pv) = tglidepathref01_GateErr F p0_0 p0_1 p0_2 p0_3n p0_3c p1 := by kernel_rfl
noncomputable abbrev Fglidepathref01_GateErr (args : List PV) := Fn env 30 (RSh.one (CK.int IntKind.i64)) args
theorem Fglidepathref01_GateErr_of  (p0_0 : Int) (p0_1 : Int) (p0_2 : Int) (p0_3n : Nat) (p0_3c : List PV) (p1 : Int) {res : (Int)} (h : tglidepathref01_GateErr (Fn env) p0_0 p0_1 p0_2 p0_3n p0_3c p1 = some res) : Fglidepathref01_GateErr [PV.agg [PV.int IntKind.i64 p0_0, PV.int IntKind.i64 p0_1, PV.int IntKind.i64 p0_2, PV.list p0_3n p0_3c], PV.int IntKind.i64 p1] = some res :=
  fn_of Eglidepathref01_GateErr_ok rfl rfl lo_nil ((tglidepathref01_GateErr_eq _ _ _ _ _ _ _).trans h)

/-! ### glidepathref01_Gate -/

def Eglidepathref01_Gate : List Entry := [.out 26 (RSh.one CK.bool)]
theorem Eglidepathref01_Gate_ok : ∀ e ∈ Eglidepathref01_Gate, EntOK env e := (ent_out ent_nil)
def Tglidepathref01_Gate_0a (n0 : Nat) (c1 : List PV) (i2 : Int) (i3 : Int) (i4 : Int) (i5 : Int) (i6 : Int) (n7 : Nat) (c8 : List PV) : Q := ⟨(tm 65 [(1,(AV.p (PV.list n0 c1))),(2,(AV.p (PV.int IntKind.i64 i2))),(3,(AV.p (PV.int IntKind.i64 i3))),(4,(AV.loc 4 0)),(9,AV.nilS),(10,(AV.p (PV.int IntKind.i64 (0 : Int))))]),(mm 65 [(4,(Bk.cells true [(AV.p (PV.int IntKind.i64 i4)),(AV.p (PV.int IntKind.i64 i5)),(AV.p (PV.int IntKind.i64 i6)),(AV.p (PV.list n7 c8))]))])⟩
def Tglidepathref01_Gate_0b (n0 : Nat) (c1 : List PV) (i2 : Int) (i3 : Int) (n4 : Nat) (c5 : List PV) (i6 : Int) (i7 : Int) (i8 : Int) (i9 : Int) (n10 : Nat) (c11 : List PV) (n12 : Nat) : Q := ⟨(tm 65 [(1,(AV.p (PV.list n0 c1))),(2,(AV.p (PV.int IntKind.i64 i2))),(3,(AV.p (PV.int IntKind.i64 i3))),(4,(AV.loc 4 0)),(9,(AV.app 63 n4 2 c5)),(10,(AV.p (PV.int IntKind.i64 i6)))]),(mm 65 [(4,(Bk.cells true [(AV.p (PV.int IntKind.i64 i7)),(AV.p (PV.int IntKind.i64 i8)),(AV.p (PV.int IntKind.i64 i9)),(AV.p (PV.list n10 c11))])),(63,(Bk.buf n12))])⟩
def Xglidepathref01_Gate_0a (y : Int × Int × Int × Nat × List PV) : Ext × Q := (Ext.normal,⟨(tm 65 [(9,AV.nilS)]),(mm 65 [(4,(Bk.cells true [(AV.p (PV.int IntKind.i64 y.1)),(AV.p (PV.int IntKind.i64 y.2.1)),(AV.p (PV.int IntKind.i64 y.2.2.1)),(AV.p (PV.list y.2.2.2.1 y.2.2.2.2))]))])⟩)
def Iglidepathref01_Gate_0a (q : Ext × S) : Int × Int × Int × Nat × List PV := ((pP_int1 (pA_p (hdA (pB_cells1 (avM q.2 4))))), (pP_int1 (pA_p (hdA (List.tail (pB_cells1 (avM q.2 4)))))), (pP_int1 (pA_p (hdA (List.tail (List.tail (pB_cells1 (avM q.2 4))))))), (pP_list0 (pA_p (hdA (List.tail (List.tail (List.tail (pB_cells1 (avM q.2 4)))))))), (pP_list1 (pA_p (hdA (List.tail (List.tail (List.tail (pB_cells1 (avM q.2 4)))))))))
def Xglidepathref01_Gate_0b (y : Nat × List PV × Int × Int × Int × Nat × List PV × Nat) : Ext × Q := (Ext.normal,⟨(tm 65 [(9,(AV.app 63 y.1 2 y.2.1))]),(mm 65 [(4,(Bk.cells true [(AV.p (PV.int IntKind.i64 y.2.2.1)),(AV.p (PV.int IntKind.i64 y.2.2.2.1)),(AV.p (PV.int IntKind.i64 y.2.2.2.2.1)),(AV.p (PV.list y.2.2.2.2.2.1 y.2.2.2.2.2.2.1))])),(63,(Bk.buf y.2.2.2.2.2.2.2))])⟩)
def Iglidepathref01_Gate_0b (q : Ext × S) : Nat × List PV × Int × Int × Int × Nat × List PV × Nat := ((pA_app1 (avT q.2 9)), (pA_app3 (avT q.2 9)), (pP_int1 (pA_p (hdA (pB_cells1 (avM q.2 4))))), (pP_int1 (pA_p (hdA (List.tail (pB_cells1 (avM q.2 4)))))), (pP_int1 (pA_p (hdA (List.tail (List.tail (pB_cells1 (avM q.2 4))))))), (pP_list0 (pA_p (hdA (List.tail (List.tail (List.tail (pB_cells1 (avM q.2 4)))))))), (pP_list1 (pA_p (hdA (List.tail (List.tail (List.tail (pB_cells1 (avM q.2 4)))))))), (pB_buf0 (avM q.2 63)))
abbrev Yglidepathref01_Gate_0 : Type := (Int × Int × Int × Nat × List PV) ⊕ ((Nat × List PV × Int × Int × Int × Nat × List PV × Nat))
def XLglidepathref01_Gate_0 : XL Yglidepathref01_Gate_0 := .more Xglidepathref01_Gate_0a (.one Xglidepathref01_Gate_0b)
def Iglidepathref01_Gate_0 (q : Ext × S) : Yglidepathref01_Gate_0 := bif (cA (avT q.2 9) == 1) then (Sum.inl (Iglidepathref01_Gate_0a q)) else (Sum.inr (Iglidepathref01_Gate_0b q))
theorem XIglidepathref01_Gate_0a (y : Int × Int × Int × Nat × List PV) : Iglidepathref01_Gate_0 (xe (Xglidepathref01_Gate_0a y)) = (Sum.inl y) := rfl
theorem XIglidepathref01_Gate_0b (y : Nat × List PV × Int × Int × Int × Nat × List PV × Nat) : Iglidepathref01_Gate_0 (xe (Xglidepathref01_Gate_0b y)) = (Sum.inr y) := rfl
theorem XIglidepathref01_Gate_0 (y : Yglidepathref01_Gate_0) : Iglidepathref01_Gate_0 (xe (XLglidepathref01_Gate_0.fn y)) = y := (match y with | .inl y => XIglidepathref01_Gate_0a y | .inr y => XIglidepathref01_Gate_0b y)
noncomputable abbrev Lglidepathref01_Gate_0 : Q → Option Yglidepathref01_Gate_0 := lpO env a33.body 0 XLglidepathref01_Gate_0
noncomputable abbrev Rglidepathref01_Gate_0 : Q → Option (Ext × S) := lpR env a33.body 0
theorem Lglidepathref01_Gate_0a_of {s : Q} {y : Int × Int × Int × Nat × List PV} (h : Rglidepathref01_Gate_0 s = exO (Xglidepathref01_Gate_0a y)) : Lglidepathref01_Gate_0 s = some (Sum.inl y) := lpO_of Iglidepathref01_Gate_0 XIglidepathref01_Gate_0 (y := (Sum.inl y)) h
theorem Lglidepathref01_Gate_0b_of {s : Q} {y : Nat × List PV × Int × Int × Int × Nat × List PV × Nat} (h : Rglidepathref01_Gate_0 s = exO (Xglidepathref01_Gate_0b y)) : Lglidepathref01_Gate_0 s = some (Sum.inr y) := lpO_of Iglidepathref01_Gate_0 XIglidepathref01_Gate_0 (y := (Sum.inr y)) h
theorem Uglidepathref01_Gate : uniq ((blocksOf a33.body).map (·.1)) = true := by kernel_rfl
def Bglidepathref01_Gate_0a (F : FnT) (N : Q → Option (Ext × S)) (E : Ext × Q → Option (Ext × S)) (L0 : Q → Option Yglidepathref01_Gate_0) (n0 : Nat) (c1 : List PV) (i2 : Int) (i3 : Int) (i4 : Int) (i5 : Int) (i6 : Int) (n7 : Nat) (c8 : List PV) : Option (Ext × S) :=
  bif (decide ((0 : Int) < (n7 : Int))) then
    bindO (F 26 (RSh.one CK.bool) [(PV.int IntKind.i64 (w64 ((w64 ((w64 (i4 + (w64 (i2 * i5)))) + (0 : Int))) + i3))), (PV.int IntKind.i64 (0 : Int)), (PV.int IntKind.i64 (w64 ((n0 : Int) - (1 : Int))))]) fun (y0 : (Bool)) =>
    bif y0 then
      bif (decide (((0 : Int) ≤ (0 : Int)) ∧ ((0 : Int) < (n7 : Int)))) then
        bindO (intC IntKind.i64 (c8[0]?)) fun x1 =>
        bif (decide (((0 : Int) ≤ (w64 ((w64 ((w64 (i4 + (w64 (i2 * i5)))) + (0 : Int))) + i3))) ∧ ((w64 ((w64 ((w64 (i4 + (w64 (i2 * i5)))) + (0 : Int))) + i3)) < (n0 : Int)))) then
          bindO (intC IntKind.i64 (c1[(((Int.toNat (w64 ((w64 ((w64 (i4 + (w64 (i2 * i5)))) + (0 : Int))) + i3))) * 2) + 0)]?)) fun x2 =>
          bif (decide (((0 : Int) ≤ (0 : Int)) ∧ ((0 : Int) < (n7 : Int)))) then
            bindO (intC IntKind.i64 (c8[0]?)) fun x3 =>
            bif (decide (((0 : Int) ≤ (w64 ((w64 ((w64 (i4 + (w64 (i2 * i5)))) + (0 : Int))) + i3))) ∧ ((w64 ((w64 ((w64 (i4 + (w64 (i2 * i5)))) + (0 : Int))) + i3)) < (n0 : Int)))) then
              bindO (intC IntKind.i64 (c1[(((Int.toNat (w64 ((w64 ((w64 (i4 + (w64 (i2 * i5)))) + (0 : Int))) + i3))) * 2) + 1)]?)) fun x4 =>
              N (Tglidepathref01_Gate_0b n0 c1 i2 i3 1 [(PV.int IntKind.i64 (w64 (x1 * x2))), (PV.int IntKind.i64 (w64 (x3 * x4)))] (1 : Int) i4 i5 i6 n7 c8 1)
            else none
          else none
        else none
      else none
    else N (Tglidepathref01_Gate_0b n0 c1 i2 i3 1 [(PV.int IntKind.i64 (0 : Int)), (PV.int IntKind.i64 (0 : Int))] (1 : Int) i4 i5 i6 n7 c8 1)
  else E (Xglidepathref01_Gate_0a (i4, i5, i6, n7, c8))
theorem Bglidepathref01_Gate_0a_eq (F : FnT) (N : Q → Option (Ext × S)) (E : Ext × Q → Option (Ext × S)) (L0 : Q → Option Yglidepathref01_Gate_0) (n0 : Nat) (c1 : List PV) (i2 : Int) (i3 : Int) (i4 : Int) (i5 : Int) (i6 : Int) (n7 : Nat) (c8 : List PV) : semB (callP F Eglidepathref01_Gate 20) s33 (loopT [⟨0, Yglidepathref01_Gate_0, L0, XLglidepathref01_Gate_0⟩]) 400 (blkIn a33.body 0) N E (Tglidepathref01_Gate_0a n0 c1 i2 i3 i4 i5 i6 n7 c8) = Bglidepathref01_Gate_0a F N E L0 n0 c1 i2 i3 i4 i5 i6 n7 c8 := by kernel_rfl
theorem Rglidepathref01_Gate_0a_of  (n0 : Nat) (c1 : List PV) (i2 : Int) (i3 : Int) (i4 : Int) (i5 : Int) (i6 : Int) (n7 : Nat) (c8 : List PV) {r : Ext × S} (h : Bglidepathref01_Gate_0a (Fn env) Rglidepathref01_Gate_0 exO Lglidepathref01_Gate_0 n0 c1 i2 i3 i4 i5 i6 n7 c8 = some r) : Rglidepathref01_Gate_0 (Tglidepathref01_Gate_0a n0 c1 i2 i3 i4 i5 i6 n7 c8) = some r :=
  lp_of Eglidepathref01_Gate_ok (by kernel_rfl) (lo_cons (lpO_ok Uglidepathref01_Gate) lo_nil) (by kernel_rfl) ((Bglidepathref01_Gate_0a_eq _ _ _ _ _ _ _ _ _ _ _ _ _).trans h)
def Bglidepathref01_Gate_0b (F : FnT) (N : Q → Option (Ext × S)) (E : Ext × Q → Option (Ext × S)) (L0 : Q → Option Yglidepathref01_Gate_0) (n0 : Nat) (c1 : List PV) (i2 : Int) (i3 : Int) (n4 : Nat) (c5 : List PV) (i6 : Int) (i7 : Int) (i8 : Int) (i9 : Int) (n10 : Nat) (c11 : List PV) (n12 : Nat) : Option (Ext × S) :=
  bif (decide (i6 < (n10 : Int))) then
    bindO (F 26 (RSh.one CK.bool) [(PV.int IntKind.i64 (w64 ((w64 ((w64 (i7 + (w64 (i2 * i8)))) + i6)) + i3))), (PV.int IntKind.i64 (0 : Int)), (PV.int IntKind.i64 (w64 ((n0 : Int) - (1 : Int))))]) fun (y0 : (Bool)) =>
    bif y0 then
      bif (decide (((0 : Int) ≤ i6) ∧ (i6 < (n10 : Int)))) then
        bindO (intC IntKind.i64 (c11[((Int.toNat i6) * 1)]?)) fun x1 =>
        bif (decide (((0 : Int) ≤ (w64 ((w64 ((w64 (i7 + (w64 (i2 * i8)))) + i6)) + i3))) ∧ ((w64 ((w64 ((w64 (i7 + (w64 (i2 * i8)))) + i6)) + i3)) < (n0 : Int)))) then
          bindO (intC IntKind.i64 (c1[(((Int.toNat (w64 ((w64 ((w64 (i7 + (w64 (i2 * i8)))) + i6)) + i3))) * 2) + 0)]?)) fun x2 =>
          bif (decide (((0 : Int) ≤ i6) ∧ (i6 < (n10 : Int)))) then
            bindO (intC IntKind.i64 (c11[((Int.toNat i6) * 1)]?)) fun x3 =>
            bif (decide (((0 : Int) ≤ (w64 ((w64 ((w64 (i7 + (w64 (i2 * i8)))) + i6)) + i3))) ∧ ((w64 ((w64 ((w64 (i7 + (w64 (i2 * i8)))) + i6)) + i3)) < (n0 : Int)))) then
              bindO (intC IntKind.i64 (c1[(((Int.toNat (w64 ((w64 ((w64 (i7 + (w64 (i2 * i8)))) + i6)) + i3))) * 2) + 1)]?)) fun x4 =>
              bif (decide ((n12 = n4) ∧ ((n4 + 1) ≤ big))) then
                N (Tglidepathref01_Gate_0b n0 c1 i2 i3 (n4 + 1) (c5 ++ [(PV.int IntKind.i64 (w64 (x1 * x2))), (PV.int IntKind.i64 (w64 (x3 * x4)))]) (w64 (i6 + (1 : Int))) i7 i8 i9 n10 c11 (n4 + 1))
              else none
            else none
          else none
        else none
      else none
    else bif (decide ((n12 = n4) ∧ ((n4 + 1) ≤ big))) then
      N (Tglidepathref01_Gate_0b n0 c1 i2 i3 (n4 + 1) (c5 ++ [(PV.int IntKind.i64 (0 : Int)), (PV.int IntKind.i64 (0 : Int))]) (w64 (i6 + (1 : Int))) i7 i8 i9 n10 c11 (n4 + 1))
    else none
  else E (Xglidepathref01_Gate_0b (n4, c5, i7, i8, i9, n10, c11, n12))
theorem Bglidepathref01_Gate_0b_eq (F : FnT) (N : Q → Option (Ext × S)) (E : Ext × Q → Option (Ext × S)) (L0 : Q → Option Yglidepathref01_Gate_0) (n0 : Nat) (c1 : List PV) (i2 : Int) (i3 : Int) (n4 : Nat) (c5 : List PV) (i6 : Int) (i7 : Int) (i8 : Int) (i9 : Int) (n10 : Nat) (c11 : List PV) (n12 : Nat) : semB (callP F Eglidepathref01_Gate 20) s33 (loopT [⟨0, Yglidepathref01_Gate_0, L0, XLglidepathref01_Gate_0⟩]) 400 (blkIn a33.body 0) N E (Tglidepathref01_Gate_0b n0 c1 i2 i3 n4 c5 i6 i7 i8 i9 n10 c11 n12) = Bglidepathref01_Gate_0b F N E L0 n0 c1 i2 i3 n4 c5 i6 i7 i8 i9 n10 c11 n12 := by kernel_rfl
theorem Rglidepathref01_Gate_0b_of  (n0 : Nat) (c1 : List PV) (i2 : Int) (i3 : Int) (n4 : Nat) (c5 : List PV) (i6 : Int) (i7 : Int) (i8 : Int) (i9 : Int) (n10 : Nat) (c11 : List PV) (n12 : Nat) {r : Ext × S} (h : Bglidepathref01_Gate_0b (Fn env) Rglidepathref01_Gate_0 exO Lglidepathref01_Gate_0 n0 c1 i2 i3 n4 c5 i6 i7 i8 i9 n10 c11 n12 = some r) : Rglidepathref01_Gate_0 (Tglidepathref01_Gate_0b n0 c1 i2 i3 n4 c5 i6 i7 i8 i9 n10 c11 n12) = some r :=
  lp_of Eglidepathref01_Gate_ok (by kernel_rfl) (lo_cons (lpO_ok Uglidepathref01_Gate) lo_nil) (by kernel_rfl) ((Bglidepathref01_Gate_0b_eq _ _ _ _ _ _ _ _ _ _ _ _ _ _ _ _ _).trans h)
def tglidepathref01_Gate (F : FnT) (L0 : Q → Option Yglidepathref01_Gate_0) (p0_0 : Int) (p0_1 : Int) (p0_2 : Int) (p0_3n : Nat) (p0_3c : List PV) (p1n : Nat) (p1c : List PV) (p2 : Int) (p3 : Int) : Option ((Nat) × (List PV)) :=
  bindO (L0 (Tglidepathref01_Gate_0a p1n p1c p2 p3 p0_0 p0_1 p0_2 p0_3n p0_3c)) fun z =>
  Sum.elim (fun y0 =>
    some (0, [])) (fun y1 =>
    bif (decide (y1.2.2.2.2.2.2.2 = y1.1)) then
      some (y1.1, y1.2.1)
    else none) z
theorem tglidepathref01_Gate_eq (F : FnT) (L0 : Q → Option Yglidepathref01_Gate_0) (p0_0 : Int) (p0_1 : Int) (p0_2 : Int) (p0_3n : Nat) (p0_3c : List PV) (p1n : Nat) (p1c : List PV) (p2 : Int) (p3 : Int) : semF (callP F Eglidepathref01_Gate 20) s33 (loopT [⟨0, Yglidepathref01_Gate_0, L0, XLglidepathref01_Gate_0⟩]) 400 a33 [PV.agg [PV.int IntKind.i64 p0_0, PV.int IntKind.i64 p0_1, PV.int IntKind.i64 p0_2, PV.list p0_3n p0_3c], PV.list p1n p1c, PV.int IntKind.i64 p2, PV.int IntKind.i64 p3] (fun rv => decR (RSh.one CK.list) rv.pv) = tglidepathref01_Gate F L0 p0_0 p0_1 p0_2 p0_3n p0_3c p1n p1c p2 p3 := by kernel_rfl
noncomputable abbrev Fglidepathref01_Gate (args : List PV) := Fn env 33 (RSh.one CK.list) args
theorem Fglidepathref01_Gate_of  (p0_0 : Int) (p0_1 : Int) (p0_2 : Int) (p0_3n : Nat) (p0_3c : List PV) (p1n : Nat) (p1c : List PV) (p2 : Int) (p3 : Int) {res : ((Nat) × (List PV))} (h : tglidepathref01_Gate (Fn env) Lglidepathref01_Gate_0 p0_0 p0_1 p0_2 p0_3n p0_3c p1n p1c p2 p3 = some res) : Fglidepathref01_Gate [PV.agg [PV.int IntKind.i64 p0_0, PV.int IntKind.i64 p0_1, PV.int IntKind.i64 p0_2, PV.list p0_3n p0_3c], PV.list p1n p1c, PV.int IntKind.i64 p2, PV.int IntKind.i64 p3] = some res :=
  fn_of Eglidepathref01_Gate_ok rfl rfl (lo_cons (lpO_ok Uglidepathref01_Gate) lo_nil) ((tglidepathref01_Gate_eq _ _ _ _ _ _ _ _ _ _ _).trans h)

/-! ### glidepathbase_GNorm -/

def Eglidepathbase_GNorm : List Entry := []
theorem Eglidepathbase_GNorm_ok : ∀ e ∈ Eglidepathbase_GNorm, EntOK env e := ent_nil
theorem Uglidepathbase_GNorm : uniq ((blocksOf a64.body).map (·.1)) = true := by kernel_rfl
def tglidepathbase_GNorm (F : FnT) (p0_0 : Int) (p0_1 : Int) : Option (Int) :=
  some (w64 ((w64 (p0_0 * p0_0)) + (w64 (p0_1 * p0_1))))
theorem tglidepathbase_GNorm_eq (F : FnT) (p0_0 : Int) (p0_1 : Int) : semF (callP F Eglidepathbase_GNorm 20) s64 (loopT []) 400 a64 [PV.agg [PV.int IntKind.i64 p0_0, PV.int IntKind.i64 p0_1]] (fun rv => decR (RSh.one (CK.int IntKind.i64)) rv.pv) = tglidepathbase_GNorm F p0_0 p0_1 := by kernel_rfl
noncomputable abbrev Fglidepathbase_GNorm (args : List PV) := Fn env 64 (RSh.one (CK.int IntKind.i64)) args
theorem Fglidepathbase_GNorm_of  (p0_0 : Int) (p0_1 : Int) {res : (Int)} (h : tglidepathbase_GNorm (Fn env) p0_0 p0_1 = some res) : Fglidepathbase_GNorm [PV.agg [PV.int IntKind.i64 p0_0, PV.int IntKind.i64 p0_1]] = some res :=
  fn_of Eglidepathbase_GNorm_ok rfl rfl lo_nil ((tglidepathbase_GNorm_eq _ _ _).trans h)

/-! ### glidepathbase_GPart -/

def Eglidepathbase_GPart : List Entry := [.out 76 (RSh.one (CK.int IntKind.i64))]
theorem Eglidepathbase_GPart_ok : ∀ e ∈ Eglidepathbase_GPart, EntOK env e := (ent_out ent_nil)
theorem Uglidepathbase_GPart : uniq ((blocksOf a121.body).map (·.1)) = true := by kernel_rfl
def tglidepathbase_GPart (F : FnT) (p0_0 : Int) (p0_1 : Int) : Option (Int) :=
  bindO (F 76 (RSh.one (CK.int IntKind.i64)) [(PV.int IntKind.i64 p0_0)]) fun (y0 : (Int)) =>
  bindO (F 76 (RSh.one (CK.int IntKind.i64)) [(PV.int IntKind.i64 p0_1)]) fun (y1 : (Int)) =>
  some (if (y1 > y0) then y1 else y0)
theorem tglidepathbase_GPart_eq (F : FnT) (p0_0 : Int) (p0_1 : Int) : semF (callP F Eglidepathbase_GPart 20) s121 (loopT []) 400 a121 [PV.agg [PV.int IntKind.i64 p0_0, PV.int IntKind.i64 p0_1]] (fun rv => decR (RSh.one (CK.int IntKind.i64)) rv.pv) = tglidepathbase_GPart F p0_0 p0_1 := by kernel_rfl
noncomputable abbrev Fglidepathbase_GPart (args : List PV) := Fn env 121 (RSh.one (CK.int IntKind.i64)) args
theorem Fglidepathbase_GPart_of  (p0_0 : Int) (p0_1 : Int) {res : (Int)} (h : tglidepathbase_GPart (Fn env) p0_0 p0_1 = some res) : Fglidepathbase_GPart [PV.agg [PV.int IntKind.i64 p0_0, PV.int IntKind.i64 p0_1]] = some res :=
  fn_of Eglidepathbase_GPart_ok rfl rfl lo_nil ((tglidepathbase_GPart_eq _ _ _).trans h)

/-! ### glidepathref01_Energy -/

def Eglidepathref01_Energy : List Entry := [.out 64 (RSh.one (CK.int IntKind.i64))]
theorem Eglidepathref01_Energy_ok : ∀ e ∈ Eglidepathref01_Energy, EntOK env e := (ent_out ent_nil)
def Tglidepathref01_Energy_0a (n0 : Nat) (c1 : List PV) (i2 : Int) (i3 : Int) : Q := ⟨(tm 19 [(0,(AV.p (PV.list n0 c1))),(3,(AV.p (PV.int IntKind.i64 i2))),(4,(AV.p (PV.int IntKind.i64 i3)))]),(mm 19 [])⟩
def Xglidepathref01_Energy_0a (y : Int) : Ext × Q := (Ext.normal,⟨(tm 19 [(3,(AV.p (PV.int IntKind.i64 y)))]),(mm 19 [])⟩)
def Iglidepathref01_Energy_0a (q : Ext × S) : Int := (pP_int1 (pA_p (avT q.2 3)))
abbrev Yglidepathref01_Energy_0 : Type := Int
def XLglidepathref01_Energy_0 : XL Yglidepathref01_Energy_0 := .one Xglidepathref01_Energy_0a
def Iglidepathref01_Energy_0 (q : Ext × S) : Yglidepathref01_Energy_0 := (Iglidepathref01_Energy_0a q)
theorem XIglidepathref01_Energy_0a (y : Int) : Iglidepathref01_Energy_0 (xe (Xglidepathref01_Energy_0a y)) = y := rfl
theorem XIglidepathref01_Energy_0 (y : Yglidepathref01_Energy_0) : Iglidepathref01_Energy_0 (xe (XLglidepathref01_Energy_0.fn y)) = y := XIglidepathref01_Energy_0a y
noncomputable abbrev Lglidepathref01_Energy_0 : Q → Option Yglidepathref01_Energy_0 := lpO env a122.body 0 XLglidepathref01_Energy_0
noncomputable abbrev Rglidepathref01_Energy_0 : Q → Option (Ext × S) := lpR env a122.body 0
theorem Lglidepathref01_Energy_0a_of {s : Q} {y : Int} (h : Rglidepathref01_Energy_0 s = exO (Xglidepathref01_Energy_0a y)) : Lglidepathref01_Energy_0 s = some y := lpO_of Iglidepathref01_Energy_0 XIglidepathref01_Energy_0 (y := y) h
theorem Uglidepathref01_Energy : uniq ((blocksOf a122.body).map (·.1)) = true := by kernel_rfl
def Bglidepathref01_Energy_0a (F : FnT) (N : Q → Option (Ext × S)) (E : Ext × Q → Option (Ext × S)) (L0 : Q → Option Yglidepathref01_Energy_0) (n0 : Nat) (c1 : List PV) (i2 : Int) (i3 : Int) : Option (Ext × S) :=
  bif (decide (i3 < (n0 : Int))) then
    bif (decide (((0 : Int) ≤ i3) ∧ (i3 < (n0 : Int)))) then
      bindO (intC IntKind.i64 (c1[((Int.toNat i3) * 2)]?)) fun x0 =>
      bindO (intC IntKind.i64 (c1[(((Int.toNat i3) * 2) + 1)]?)) fun x1 =>
      bindO (F 64 (RSh.one (CK.int IntKind.i64)) [(PV.agg [(PV.int IntKind.i64 x0), (PV.int IntKind.i64 x1)])]) fun (y2 : (Int)) =>
      N (Tglidepathref01_Energy_0a n0 c1 (w64 (i2 + y2)) (w64 (i3 + (1 : Int))))
    else none
  else E (Xglidepathref01_Energy_0a i2)
theorem Bglidepathref01_Energy_0a_eq (F : FnT) (N : Q → Option (Ext × S)) (E : Ext × Q → Option (Ext × S)) (L0 : Q → Option Yglidepathref01_Energy_0) (n0 : Nat) (c1 : List PV) (i2 : Int) (i3 : Int) : semB (callP F Eglidepathref01_Energy 20) s122 (loopT [⟨0, Yglidepathref01_Energy_0, L0, XLglidepathref01_Energy_0⟩]) 400 (blkIn a122.body 0) N E (Tglidepathref01_Energy_0a n0 c1 i2 i3) = Bglidepathref01_Energy_0a F N E L0 n0 c1 i2 i3 := by kernel_rfl
theorem Rglidepathref01_Energy_0a_of  (n0 : Nat) (c1 : List PV) (i2 : Int) (i3 : Int) {r : Ext × S} (h : Bglidepathref01_Energy_0a (Fn env) Rglidepathref01_Energy_0 exO Lglidepathref01_Energy_0 n0 c1 i2 i3 = some r) : Rglidepathref01_Energy_0 (Tglidepathref01_Energy_0a n0 c1 i2 i3) = some r :=
  lp_of Eglidepathref01_Energy_ok (by kernel_rfl) (lo_cons (lpO_ok Uglidepathref01_Energy) lo_nil) (by kernel_rfl) ((Bglidepathref01_Energy_0a_eq _ _ _ _ _ _ _ _).trans h)
def tglidepathref01_Energy (F : FnT) (L0 : Q → Option Yglidepathref01_Energy_0) (p0n : Nat) (p0c : List PV) : Option (Int) :=
  bindO (L0 (Tglidepathref01_Energy_0a p0n p0c (0 : Int) (0 : Int))) fun y0 =>
  some y0
theorem tglidepathref01_Energy_eq (F : FnT) (L0 : Q → Option Yglidepathref01_Energy_0) (p0n : Nat) (p0c : List PV) : semF (callP F Eglidepathref01_Energy 20) s122 (loopT [⟨0, Yglidepathref01_Energy_0, L0, XLglidepathref01_Energy_0⟩]) 400 a122 [PV.list p0n p0c] (fun rv => decR (RSh.one (CK.int IntKind.i64)) rv.pv) = tglidepathref01_Energy F L0 p0n p0c := by kernel_rfl
noncomputable abbrev Fglidepathref01_Energy (args : List PV) := Fn env 122 (RSh.one (CK.int IntKind.i64)) args
theorem Fglidepathref01_Energy_of  (p0n : Nat) (p0c : List PV) {res : (Int)} (h : tglidepathref01_Energy (Fn env) Lglidepathref01_Energy_0 p0n p0c = some res) : Fglidepathref01_Energy [PV.list p0n p0c] = some res :=
  fn_of Eglidepathref01_Energy_ok rfl rfl (lo_cons (lpO_ok Uglidepathref01_Energy) lo_nil) ((tglidepathref01_Energy_eq _ _ _ _).trans h)

/-! ### glidepathref01_Clipped -/

def Eglidepathref01_Clipped : List Entry := [.out 121 (RSh.one (CK.int IntKind.i64))]
theorem Eglidepathref01_Clipped_ok : ∀ e ∈ Eglidepathref01_Clipped, EntOK env e := (ent_out ent_nil)
def Tglidepathref01_Clipped_0a (n0 : Nat) (c1 : List PV) (i2 : Int) (i3 : Int) : Q := ⟨(tm 25 [(0,(AV.p (PV.list n0 c1))),(1,(AV.p (PV.int IntKind.i64 i2))),(5,AV.nilS),(6,(AV.p (PV.int IntKind.i64 i3)))]),(mm 25 [])⟩
def Tglidepathref01_Clipped_0b (n0 : Nat) (c1 : List PV) (i2 : Int) (n3 : Nat) (c4 : List PV) (i5 : Int) (n6 : Nat) : Q := ⟨(tm 25 [(0,(AV.p (PV.list n0 c1))),(1,(AV.p (PV.int IntKind.i64 i2))),(5,(AV.app 23 n3 1 c4)),(6,(AV.p (PV.int IntKind.i64 i5)))]),(mm 25 [(23,(Bk.buf n6))])⟩
def Xglidepathref01_Clipped_0a (y : Unit) : Ext × Q := (Ext.normal,⟨(tm 25 [(5,AV.nilS)]),(mm 25 [])⟩)
def Iglidepathref01_Clipped_0a (q : Ext × S) : Unit := ()
def Xglidepathref01_Clipped_0b (y : Nat × List PV × Nat) : Ext × Q := (Ext.normal,⟨(tm 25 [(5,(AV.app 23 y.1 1 y.2.1))]),(mm 25 [(23,(Bk.buf y.2.2))])⟩)
def Iglidepathref01_Clipped_0b (q : Ext × S) : Nat × List PV × Nat := ((pA_app1 (avT q.2 5)), (pA_app3 (avT q.2 5)), (pB_buf0 (avM q.2 23)))
abbrev Yglidepathref01_Clipped_0 : Type := (Unit) ⊕ ((Nat × List PV × Nat))
def XLglidepathref01_Clipped_0 : XL Yglidepathref01_Clipped_0 := .more Xglidepathref01_Clipped_0a (.one Xglidepathref01_Clipped_0b)
def Iglidepathref01_Clipped_0 (q : Ext × S) : Yglidepathref01_Clipped_0 := bif (cA (avT q.2 5) == 1) then (Sum.inl (Iglidepathref01_Clipped_0a q)) else (Sum.inr (Iglidepathref01_Clipped_0b q))
theorem XIglidepathref01_Clipped_0a (y : Unit) : Iglidepathref01_Clipped_0 (xe (Xglidepathref01_Clipped_0a y)) = (Sum.inl y) := rfl
theorem XIglidepathref01_Clipped_0b (y : Nat × List PV × Nat) : Iglidepathref01_Clipped_0 (xe (Xglidepathref01_Clipped_0b y)) = (Sum.inr y) := rfl
theorem XIglidepathref01_Clipped_0 (y : Yglidepathref01_Clipped_0) : Iglidepathref01_Clipped_0 (xe (XLglidepathref01_Clipped_0.fn y)) = y := (match y with | .inl y => XIglidepathref01_Clipped_0a y | .inr y => XIglidepathref01_Clipped_0b y)
noncomputable abbrev Lglidepathref01_Clipped_0 : Q → Option Yglidepathref01_Clipped_0 := lpO env a67.body 0 XLglidepathref01_Clipped_0
noncomputable abbrev Rglidepathref01_Clipped_0 : Q → Option (Ext × S) := lpR env a67.body 0
theorem Lglidepathref01_Clipped_0a_of {s : Q} {y : Unit} (h : Rglidepathref01_Clipped_0 s = exO (Xglidepathref01_Clipped_0a y)) : Lglidepathref01_Clipped_0 s = some (Sum.inl y) := lpO_of Iglidepathref01_Clipped_0 XIglidepathref01_Clipped_0 (y := (Sum.inl y)) h
theorem Lglidepathref01_Clipped_0b_of {s : Q} {y : Nat × List PV × Nat} (h : Rglidepathref01_Clipped_0 s = exO (Xglidepathref01_Clipped_0b y)) : Lglidepathref01_Clipped_0 s = some (Sum.inr y) := lpO_of Iglidepathref01_Clipped_0 XIglidepathref01_Clipped_0 (y := (Sum.inr y)) h
theorem Uglidepathref01_Clipped : uniq ((blocksOf a67.body).map (·.1)) = true := by kernel_rfl
def Bglidepathref01_Clipped_0a (F : FnT) (N : Q → Option (Ext × S)) (E : Ext × Q → Option (Ext × S)) (L0 : Q → Option Yglidepathref01_Clipped_0) (n0 : Nat) (c1 : List PV) (i2 : Int) (i3 : Int) : Option (Ext × S) :=
  bif (decide (i3 < (n0 : Int))) then
    bif (decide (((0 : Int) ≤ i3) ∧ (i3 < (n0 : Int)))) then
      bindO (intC IntKind.i64 (c1[((Int.toNat i3) * 2)]?)) fun x0 =>
      bindO (intC IntKind.i64 (c1[(((Int.toNat i3) * 2) + 1)]?)) fun x1 =>
      bindO (F 121 (RSh.one (CK.int IntKind.i64)) [(PV.agg [(PV.int IntKind.i64 x0), (PV.int IntKind.i64 x1)])]) fun (y2 : (Int)) =>
      bif (decide (y2 ≥ i2)) then
        N (Tglidepathref01_Clipped_0b n0 c1 i2 1 [(PV.int IntKind.i64 i3)] (w64 (i3 + (1 : Int))) 1)
      else N (Tglidepathref01_Clipped_0a n0 c1 i2 (w64 (i3 + (1 : Int))))
    else none
  else E (Xglidepathref01_Clipped_0a ())
theorem Bglidepathref01_Clipped_0a_eq (F : FnT) (N : Q → Option (Ext × S)) (E : Ext × Q → Option (Ext × S)) (L0 : Q → Option Yglidepathref01_Clipped_0) (n0 : Nat) (c1 : List PV) (i2 : Int) (i3 : Int) : semB (callP F Eglidepathref01_Clipped 20) s67 (loopT [⟨0, Yglidepathref01_Clipped_0, L0, XLglidepathref01_Clipped_0⟩]) 400 (blkIn a67.body 0) N E (Tglidepathref01_Clipped_0a n0 c1 i2 i3) = Bglidepathref01_Clipped_0a F N E L0 n0 c1 i2 i3 := by kernel_rfl
theorem Rglidepathref01_Clipped_0a_of  (n0 : Nat) (c1 : List PV) (i2 : Int) (i3 : Int) {r : Ext × S} (h : Bglidepathref01_Clipped_0a (Fn env) Rglidepathref01_Clipped_0 exO Lglidepathref01_Clipped_0 n0 c1 i2 i3 = some r) : Rglidepathref01_Clipped_0 (Tglidepathref01_Clipped_0a n0 c1 i2 i3) = some r :=
  lp_of Eglidepathref01_Clipped_ok (by kernel_rfl) (lo_cons (lpO_ok Uglidepathref01_Clipped) lo_nil) (by kernel_rfl) ((Bglidepathref01_Clipped_0a_eq _ _ _ _ _ _ _ _).trans h)
def Bglidepathref01_Clipped_0b (F : FnT) (N : Q → Option (Ext × S)) (E : Ext × Q → Option (Ext × S)) (L0 : Q → Option Yglidepathref01_Clipped_0) (n0 : Nat) (c1 : List PV) (i2 : Int) (n3 : Nat) (c4 : List PV) (i5 : Int) (n6 : Nat) : Option (Ext × S) :=
  bif (decide (i5 < (n0 : Int))) then
    bif (decide (((0 : Int) ≤ i5) ∧ (i5 < (n0 : Int)))) then
      bindO (intC IntKind.i64 (c1[((Int.toNat i5) * 2)]?)) fun x0 =>
      bindO (intC IntKind.i64 (c1[(((Int.toNat i5) * 2) + 1)]?)) fun x1 =>
      bindO (F 121 (RSh.one (CK.int IntKind.i64)) [(PV.agg [(PV.int IntKind.i64 x0), (PV.int IntKind.i64 x1)])]) fun (y2 : (Int)) =>
      bif (decide (y2 ≥ i2)) then
        bif (decide ((n6 = n3) ∧ ((n3 + 1) ≤ big))) then
          N (Tglidepathref01_Clipped_0b n0 c1 i2 (n3 + 1) (c4 ++ [(PV.int IntKind.i64 i5)]) (w64 (i5 + (1 : Int))) (n3 + 1))
        else none
      else N (Tglidepathref01_Clipped_0b n0 c1 i2 n3 c4 (w64 (i5 + (1 : Int))) n6)
    else none
  else E (Xglidepathref01_Clipped_0b (n3, c4, n6))
theorem Bglidepathref01_Clipped_0b_eq (F : FnT) (N : Q → Option (Ext × S)) (E : Ext × Q → Option (Ext × S)) (L0 : Q → Option Yglidepathref01_Clipped_0) (n0 : Nat) (c1 : List PV) (i2 : Int) (n3 : Nat) (c4 : List PV) (i5 : Int) (n6 : Nat) : semB (callP F Eglidepathref01_Clipped 20) s67 (loopT [⟨0, Yglidepathref01_Clipped_0, L0, XLglidepathref01_Clipped_0⟩]) 400 (blkIn a67.body 0) N E (Tglidepathref01_Clipped_0b n0 c1 i2 n3 c4 i5 n6) = Bglidepathref01_Clipped_0b F N E L0 n0 c1 i2 n3 c4 i5 n6 := by kernel_rfl
theorem Rglidepathref01_Clipped_0b_of  (n0 : Nat) (c1 : List PV) (i2 : Int) (n3 : Nat) (c4 : List PV) (i5 : Int) (n6 : Nat) {r : Ext × S} (h : Bglidepathref01_Clipped_0b (Fn env) Rglidepathref01_Clipped_0 exO Lglidepathref01_Clipped_0 n0 c1 i2 n3 c4 i5 n6 = some r) : Rglidepathref01_Clipped_0 (Tglidepathref01_Clipped_0b n0 c1 i2 n3 c4 i5 n6) = some r :=
  lp_of Eglidepathref01_Clipped_ok (by kernel_rfl) (lo_cons (lpO_ok Uglidepathref01_Clipped) lo_nil) (by kernel_rfl) ((Bglidepathref01_Clipped_0b_eq _ _ _ _ _ _ _ _ _ _ _).trans h)
def tglidepathref01_Clipped (F : FnT) (L0 : Q → Option Yglidepathref01_Clipped_0) (p0n : Nat) (p0c : List PV) (p1 : Int) : Option ((Nat) × (List PV)) :=
  bindO (L0 (Tglidepathref01_Clipped_0a p0n p0c p1 (0 : Int))) fun z =>
  Sum.elim (fun y0 =>
    some (0, [])) (fun y1 =>
    bif (decide (y1.2.2 = y1.1)) then
      some (y1.1, y1.2.1)
    else none) z
theorem tglidepathref01_Clipped_eq (F : FnT) (L0 : Q → Option Yglidepathref01_Clipped_0) (p0n : Nat) (p0c : List PV) (p1 : Int) : semF (callP F Eglidepathref01_Clipped 20) s67 (loopT [⟨0, Yglidepathref01_Clipped_0, L0, XLglidepathref01_Clipped_0⟩]) 400 a67 [PV.list p0n p0c, PV.int IntKind.i64 p1] (fun rv => decR (RSh.one CK.list) rv.pv) = tglidepathref01_Clipped F L0 p0n p0c p1 := by kernel_rfl
noncomputable abbrev Fglidepathref01_Clipped (args : List PV) := Fn env 67 (RSh.one CK.list) args
theorem Fglidepathref01_Clipped_of  (p0n : Nat) (p0c : List PV) (p1 : Int) {res : ((Nat) × (List PV))} (h : tglidepathref01_Clipped (Fn env) Lglidepathref01_Clipped_0 p0n p0c p1 = some res) : Fglidepathref01_Clipped [PV.list p0n p0c, PV.int IntKind.i64 p1] = some res :=
  fn_of Eglidepathref01_Clipped_ok rfl rfl (lo_cons (lpO_ok Uglidepathref01_Clipped) lo_nil) ((tglidepathref01_Clipped_eq _ _ _ _ _).trans h)

/-! ### glidepathref01_Energies -/

def Eglidepathref01_Energies : List Entry := [.out 33 (RSh.one CK.list), .out 122 (RSh.one (CK.int IntKind.i64))]
theorem Eglidepathref01_Energies_ok : ∀ e ∈ Eglidepathref01_Energies, EntOK env e := (ent_out (ent_out ent_nil))
def Tglidepathref01_Energies_0a (n0 : Nat) (c1 : List PV) (i2 : Int) (i3 : Int) (i4 : Int) (i5 : Int) (n6 : Nat) (c7 : List PV) (i8 : Int) (i9 : Int) (i10 : Int) (i11 : Int) : Q := ⟨(tm 45 [(1,(AV.p (PV.list n0 c1))),(3,(AV.loc 3 0)),(5,(AV.loc 5 0)),(6,(AV.loc 6 0)),(8,(AV.loc 8 0)),(9,(AV.p (PV.int IntKind.i64 i2)))]),(mm 45 [(3,(Bk.cells true [(AV.p (PV.int IntKind.i64 i3)),(AV.p (PV.int IntKind.i64 i4)),(AV.p (PV.int IntKind.i64 i5)),(AV.p (PV.list n6 c7))])),(5,(Bk.pcs true [(PV.int IntKind.i64 i8),(PV.int IntKind.i64 i9)])),(6,(Bk.pcs true [(PV.int IntKind.i64 (0 : Int)),(PV.int IntKind.i64 (0 : Int))])),(8,(Bk.pcs true [(PV.int IntKind.i64 i10),(PV.int IntKind.i64 i11)]))])⟩
def Xglidepathref01_Energies_0a (y : Int × Int × Int × Nat × List PV × Int × Int × Int × Int) : Ext × Q := (Ext.normal,⟨(tm 45 [(6,(AV.loc 6 0)),(8,(AV.loc 8 0))]),(mm 45 [(3,(Bk.cells true [(AV.p (PV.int IntKind.i64 y.1)),(AV.p (PV.int IntKind.i64 y.2.1)),(AV.p (PV.int IntKind.i64 y.2.2.1)),(AV.p (PV.list y.2.2.2.1 y.2.2.2.2.1))])),(5,(Bk.pcs true [(PV.int IntKind.i64 y.2.2.2.2.2.1),(PV.int IntKind.i64 y.2.2.2.2.2.2.1)])),(6,(Bk.pcs true [(PV.int IntKind.i64 (0 : Int)),(PV.int IntKind.i64 (0 : Int))])),(8,(Bk.pcs true [(PV.int IntKind.i64 y.2.2.2.2.2.2.2.1),(PV.int IntKind.i64 y.2.2.2.2.2.2.2.2)]))])⟩)
def Iglidepathref01_Energies_0a (q : Ext × S) : Int × Int × Int × Nat × List PV × Int × Int × Int × Int := ((pP_int1 (pA_p (hdA (pB_cells1 (avM q.2 3))))), (pP_int1 (pA_p (hdA (List.tail (pB_cells1 (avM q.2 3)))))), (pP_int1 (pA_p (hdA (List.tail (List.tail (pB_cells1 (avM q.2 3))))))), (pP_list0 (pA_p (hdA (List.tail (List.tail (List.tail (pB_cells1 (avM q.2 3)))))))), (pP_list1 (pA_p (hdA (List.tail (List.tail (List.tail (pB_cells1 (avM q.2 3)))))))), (pP_int1 (hdP (pB_pcs1 (avM q.2 5)))), (pP_int1 (hdP (List.tail (pB_pcs1 (avM q.2 5))))), (pP_int1 (hdP (pB_pcs1 (avM q.2 8)))), (pP_int1 (hdP (List.tail (pB_pcs1 (avM q.2 8))))))
abbrev Yglidepathref01_Energies_0 : Type := Int × Int × Int × Nat × List PV × Int × Int × Int × Int
def XLglidepathref01_Energies_0 : XL Yglidepathref01_Energies_0 := .one Xglidepathref01_Energies_0a
def Iglidepathref01_Energies_0 (q : Ext × S) : Yglidepathref01_Energies_0 := (Iglidepathref01_Energies_0a q)
theorem XIglidepathref01_Energies_0a (y : Int × Int × Int × Nat × List PV × Int × Int × Int × Int) : Iglidepathref01_Energies_0 (xe (Xglidepathref01_Energies_0a y)) = y := rfl
theorem XIglidepathref01_Energies_0 (y : Yglidepathref01_Energies_0) : Iglidepathref01_Energies_0 (xe (XLglidepathref01_Energies_0.fn y)) = y := XIglidepathref01_Energies_0a y
noncomputable abbrev Lglidepathref01_Energies_0 : Q → Option Yglidepathref01_Energies_0 := lpO env a68.body 0 XLglidepathref01_Energies_0
noncomputable abbrev Rglidepathref01_Energies_0 : Q → Option (Ext × S) := lpR env a68.body 0
theorem Lglidepathref01_Energies_0a_of {s : Q} {y : Int × Int × Int × Nat × List PV × Int × Int × Int × Int} (h : Rglidepathref01_Energies_0 s = exO (Xglidepathref01_Energies_0a y)) : Lglidepathref01_Energies_0 s = some y := lpO_of Iglidepathref01_Energies_0 XIglidepathref01_Energies_0 (y := y) h
theorem Uglidepathref01_Energies : uniq ((blocksOf a68.body).map (·.1)) = true := by kernel_rfl
def Bglidepathref01_Energies_0a (F : FnT) (N : Q → Option (Ext × S)) (E : Ext × Q → Option (Ext × S)) (L0 : Q → Option Yglidepathref01_Energies_0) (n0 : Nat) (c1 : List PV) (i2 : Int) (i3 : Int) (i4 : Int) (i5 : Int) (n6 : Nat) (c7 : List PV) (i8 : Int) (i9 : Int) (i10 : Int) (i11 : Int) : Option (Ext × S) :=
  bif (decide (i2 ≤ i9)) then
    bindO (F 33 (RSh.one CK.list) [(PV.agg [(PV.int IntKind.i64 i3), (PV.int IntKind.i64 i4), (PV.int IntKind.i64 i5), (PV.list n6 c7)]), (PV.list n0 c1), (PV.int IntKind.i64 i8), (PV.int IntKind.i64 i2)]) fun (y0 : ((Nat) × (List PV))) =>
    bindO (F 122 (RSh.one (CK.int IntKind.i64)) [(PV.list y0.1 y0.2)]) fun (y1 : (Int)) =>
    N (Tglidepathref01_Energies_0a n0 c1 (w64 (i2 + (1 : Int))) i3 i4 i5 n6 c7 i8 i9 (if (y1 < i10) then y1 else i10) (if (y1 > i11) then y1 else i11))
  else E (Xglidepathref01_Energies_0a (i3, i4, i5, n6, c7, i8, i9, i10, i11))
theorem Bglidepathref01_Energies_0a_eq (F : FnT) (N : Q → Option (Ext × S)) (E : Ext × Q → Option (Ext × S)) (L0 : Q → Option Yglidepathref01_Energies_0) (n0 : Nat) (c1 : List PV) (i2 : Int) (i3 : Int) (i4 : Int) (i5 : Int) (n6 : Nat) (c7 : List PV) (i8 : Int) (i9 : Int) (i10 : Int) (i11 : Int) : semB (callP F Eglidepathref01_Energies 20) s68 (loopT [⟨0, Yglidepathref01_Energies_0, L0, XLglidepathref01_Energies_0⟩]) 400 (blkIn a68.body 0) N E (Tglidepathref01_Energies_0a n0 c1 i2 i3 i4 i5 n6 c7 i8 i9 i10 i11) = Bglidepathref01_Energies_0a F N E L0 n0 c1 i2 i3 i4 i5 n6 c7 i8 i9 i10 i11 := by kernel_rfl
theorem Rglidepathref01_Energies_0a_of  (n0 : Nat) (c1 : List PV) (i2 : Int) (i3 : Int) (i4 : Int) (i5 : Int) (n6 : Nat) (c7 : List PV) (i8 : Int) (i9 : Int) (i10 : Int) (i11 : Int) {r : Ext × S} (h : Bglidepathref01_Energies_0a (Fn env) Rglidepathref01_Energies_0 exO Lglidepathref01_Energies_0 n0 c1 i2 i3 i4 i5 n6 c7 i8 i9 i10 i11 = some r) : Rglidepathref01_Energies_0 (Tglidepathref01_Energies_0a n0 c1 i2 i3 i4 i5 n6 c7 i8 i9 i10 i11) = some r :=
  lp_of Eglidepathref01_Energies_ok (by kernel_rfl) (lo_cons (lpO_ok Uglidepathref01_Energies) lo_nil) (by kernel_rfl) ((Bglidepathref01_Energies_0a_eq _ _ _ _ _ _ _ _ _ _ _ _ _ _ _ _).trans h)
def tglidepathref01_Energies (F : FnT) (L0 : Q → Option Yglidepathref01_Energies_0) (p0_0 : Int) (p0_1 : Int) (p0_2 : Int) (p0_3n : Nat) (p0_3c : List PV) (p1n : Nat) (p1c : List PV) (p2_0 : Int) (p2_1 : Int) : Option ((Int) × (Int)) :=
  bindO (F 33 (RSh.one CK.list) [(PV.agg [(PV.int IntKind.i64 p0_0), (PV.int IntKind.i64 p0_1), (PV.int IntKind.i64 p0_2), (PV.list p0_3n p0_3c)]), (PV.list p1n p1c), (PV.int IntKind.i64 p2_0), (PV.int IntKind.i64 (0 : Int))]) fun (y0 : ((Nat) × (List PV))) =>
  bindO (F 122 (RSh.one (CK.int IntKind.i64)) [(PV.list y0.1 y0.2)]) fun (y1 : (Int)) =>
  bindO (L0 (Tglidepathref01_Energies_0a p1n p1c (w64 ((0 : Int) - p2_1)) p0_0 p0_1 p0_2 p0_3n p0_3c p2_0 p2_1 y1 y1)) fun y2 =>
  some (y2.2.2.2.2.2.2.2.1, y2.2.2.2.2.2.2.2.2)
theorem tglidepathref01_Energies_eq (F : FnT) (L0 : Q → Option Yglidepathref01_Energies_0) (p0_0 : Int) (p0_1 : Int) (p0_2 : Int) (p0_3n : Nat) (p0_3c : List PV) (p1n : Nat) (p1c : List PV) (p2_0 : Int) (p2_1 : Int) : semF (callP F Eglidepathref01_Energies 20) s68 (loopT [⟨0, Yglidepathref01_Energies_0, L0, XLglidepathref01_Energies_0⟩]) 400 a68 [PV.agg [PV.int IntKind.i64 p0_0, PV.int IntKind.i64 p0_1, PV.int IntKind.i64 p0_2, PV.list p0_3n p0_3c], PV.list p1n p1c, PV.agg [PV.int IntKind.i64 p2_0, PV.int IntKind.i64 p2_1]] (fun rv => decR (RSh.agg [(CK.int IntKind.i64), (CK.int IntKind.i64)]) rv.pv) = tglidepathref01_Energies F L0 p0_0 p0_1 p0_2 p0_3n p0_3c p1n p1c p2_0 p2_1 := by kernel_rfl
noncomputable abbrev Fglidepathref01_Energies (args : List PV) := Fn env 68 (RSh.agg [(CK.int IntKind.i64), (CK.int IntKind.i64)]) args
theorem Fglidepathref01_Energies_of  (p0_0 : Int) (p0_1 : Int) (p0_2 : Int) (p0_3n : Nat) (p0_3c : List PV) (p1n : Nat) (p1c : List PV) (p2_0 : Int) (p2_1 : Int) {res : ((Int) × (Int))} (h : tglidepathref01_Energies (Fn env) Lglidepathref01_Energies_0 p0_0 p0_1 p0_2 p0_3n p0_3c p1n p1c p2_0 p2_1 = some res) : Fglidepathref01_Energies [PV.agg [PV.int IntKind.i64 p0_0, PV.int IntKind.i64 p0_1, PV.int IntKind.i64 p0_2, PV.list p0_3n p0_3c], PV.list p1n p1c, PV.agg [PV.int IntKind.i64 p2_0, PV.int IntKind.i64 p2_1]] = some res :=
  fn_of Eglidepathref01_Energies_ok rfl rfl (lo_cons (lpO_ok Uglidepathref01_Energies) lo_nil) ((tglidepathref01_Energies_eq _ _ _ _ _ _ _ _ _ _ _).trans h)

/-! ### glidepathbase_Ints -/

def Eglidepathbase_Ints : List Entry := []
theorem Eglidepathbase_Ints_ok : ∀ e ∈ Eglidepathbase_Ints, EntOK env e := ent_nil
def Tglidepathbase_Ints_0a (n0 : Nat) (c1 : List PV) (n2 : Nat) (c3 : List PV) (i4 : Int) : Q := ⟨(tm 26 [(0,(AV.p (PV.list n0 c1))),(1,(AV.p (PV.list n2 c3))),(5,(AV.p (PV.int IntKind.i64 i4)))]),(mm 26 [])⟩
def Xglidepathbase_Ints_0a (y : Unit) : Ext × Q := (Ext.ret,⟨(tm 26 [(4,(AV.p (PV.bool false)))]),(mm 26 [])⟩)
def Iglidepathbase_Ints_0a (q : Ext × S) : Unit := ()
def Xglidepathbase_Ints_0b (y : Unit) : Ext × Q := (Ext.normal,⟨(tm 26 []),(mm 26 [])⟩)
def Iglidepathbase_Ints_0b (q : Ext × S) : Unit := ()
abbrev Yglidepathbase_Ints_0 : Type := (Unit) ⊕ ((Unit))
def XLglidepathbase_Ints_0 : XL Yglidepathbase_Ints_0 := .more Xglidepathbase_Ints_0a (.one Xglidepathbase_Ints_0b)
def Iglidepathbase_Ints_0 (q : Ext × S) : Yglidepathbase_Ints_0 := bif (cE q.1 == 2) then (Sum.inl (Iglidepathbase_Ints_0a q)) else (Sum.inr (Iglidepathbase_Ints_0b q))
theorem XIglidepathbase_Ints_0a (y : Unit) : Iglidepathbase_Ints_0 (xe (Xglidepathbase_Ints_0a y)) = (Sum.inl y) := rfl
theorem XIglidepathbase_Ints_0b (y : Unit) : Iglidepathbase_Ints_0 (xe (Xglidepathbase_Ints_0b y)) = (Sum.inr y) := rfl
theorem XIglidepathbase_Ints_0 (y : Yglidepathbase_Ints_0) : Iglidepathbase_Ints_0 (xe (XLglidepathbase_Ints_0.fn y)) = y := (match y with | .inl y => XIglidepathbase_Ints_0a y | .inr y => XIglidepathbase_Ints_0b y)
noncomputable abbrev Lglidepathbase_Ints_0 : Q → Option Yglidepathbase_Ints_0 := lpO env a27.body 0 XLglidepathbase_Ints_0
noncomputable abbrev Rglidepathbase_Ints_0 : Q → Option (Ext × S) := lpR env a27.body 0
theorem Lglidepathbase_Ints_0a_of {s : Q} {y : Unit} (h : Rglidepathbase_Ints_0 s = exO (Xglidepathbase_Ints_0a y)) : Lglidepathbase_Ints_0 s = some (Sum.inl y) := lpO_of Iglidepathbase_Ints_0 XIglidepathbase_Ints_0 (y := (Sum.inl y)) h
theorem Lglidepathbase_Ints_0b_of {s : Q} {y : Unit} (h : Rglidepathbase_Ints_0 s = exO (Xglidepathbase_Ints_0b y)) : Lglidepathbase_Ints_0 s = some (Sum.inr y) := lpO_of Iglidepathbase_Ints_0 XIglidepathbase_Ints_0 (y := (Sum.inr y)) h
theorem Uglidepathbase_Ints : uniq ((blocksOf a27.body).map (·.1)) = true := by kernel_rfl
def Bglidepathbase_Ints_0a (F : FnT) (N : Q → Option (Ext × S)) (E : Ext × Q → Option (Ext × S)) (L0 : Q → Option Yglidepathbase_Ints_0) (n0 : Nat) (c1 : List PV) (n2 : Nat) (c3 : List PV) (i4 : Int) : Option (Ext × S) :=
  bif (decide (i4 < (n0 : Int))) then
    bif (decide (((0 : Int) ≤ i4) ∧ (i4 < (n0 : Int)))) then
      bindO (intC IntKind.i64 (c1[((Int.toNat i4) * 1)]?)) fun x0 =>
      bif (decide (((0 : Int) ≤ i4) ∧ (i4 < (n2 : Int)))) then
        bindO (intC IntKind.i64 (c3[((Int.toNat i4) * 1)]?)) fun x1 =>
        bif (x0 != x1) then
          E (Xglidepathbase_Ints_0a ())
        else N (Tglidepathbase_Ints_0a n0 c1 n2 c3 (w64 (i4 + (1 : Int))))
      else none
    else none
  else E (Xglidepathbase_Ints_0b ())
theorem Bglidepathbase_Ints_0a_eq (F : FnT) (N : Q → Option (Ext × S)) (E : Ext × Q → Option (Ext × S)) (L0 : Q → Option Yglidepathbase_Ints_0) (n0 : Nat) (c1 : List PV) (n2 : Nat) (c3 : List PV) (i4 : Int) : semB (callP F Eglidepathbase_Ints 20) s27 (loopT [⟨0, Yglidepathbase_Ints_0, L0, XLglidepathbase_Ints_0⟩]) 400 (blkIn a27.body 0) N E (Tglidepathbase_Ints_0a n0 c1 n2 c3 i4) = Bglidepathbase_Ints_0a F N E L0 n0 c1 n2 c3 i4 := by kernel_rfl
theorem Rglidepathbase_Ints_0a_of  (n0 : Nat) (c1 : List PV) (n2 : Nat) (c3 : List PV) (i4 : Int) {r : Ext × S} (h : Bglidepathbase_Ints_0a (Fn env) Rglidepathbase_Ints_0 exO Lglidepathbase_Ints_0 n0 c1 n2 c3 i4 = some r) : Rglidepathbase_Ints_0 (Tglidepathbase_Ints_0a n0 c1 n2 c3 i4) = some r :=
  lp_of Eglidepathbase_Ints_ok (by kernel_rfl) (lo_cons (lpO_ok Uglidepathbase_Ints) lo_nil) (by kernel_rfl) ((Bglidepathbase_Ints_0a_eq _ _ _ _ _ _ _ _ _).trans h)
def tglidepathbase_Ints (F : FnT) (L0 : Q → Option Yglidepathbase_Ints_0) (p0n : Nat) (p0c : List PV) (p1n : Nat) (p1c : List PV) : Option (Bool) :=
  bif ((p0n : Int) != (p1n : Int)) then
    some false
  else bindO (L0 (Tglidepathbase_Ints_0a p0n p0c p1n p1c (0 : Int))) fun z =>
  Sum.elim (fun y0 =>
    some false) (fun y1 =>
    some true) z
theorem tglidepathbase_Ints_eq (F : FnT) (L0 : Q → Option Yglidepathbase_Ints_0) (p0n : Nat) (p0c : List PV) (p1n : Nat) (p1c : List PV) : semF (callP F Eglidepathbase_Ints 20) s27 (loopT [⟨0, Yglidepathbase_Ints_0, L0, XLglidepathbase_Ints_0⟩]) 400 a27 [PV.list p0n p0c, PV.list p1n p1c] (fun rv => decR (RSh.one CK.bool) rv.pv) = tglidepathbase_Ints F L0 p0n p0c p1n p1c := by kernel_rfl
noncomputable abbrev Fglidepathbase_Ints (args : List PV) := Fn env 27 (RSh.one CK.bool) args
theorem Fglidepathbase_Ints_of  (p0n : Nat) (p0c : List PV) (p1n : Nat) (p1c : List PV) {res : (Bool)} (h : tglidepathbase_Ints (Fn env) Lglidepathbase_Ints_0 p0n p0c p1n p1c = some res) : Fglidepathbase_Ints [PV.list p0n p0c, PV.list p1n p1c] = some res :=
  fn_of Eglidepathbase_Ints_ok rfl rfl (lo_cons (lpO_ok Uglidepathbase_Ints) lo_nil) ((tglidepathbase_Ints_eq _ _ _ _ _ _).trans h)

/-! ### glidepathlaw01_both -/

def Eglidepathlaw01_both : List Entry := []
theorem Eglidepathlaw01_both_ok : ∀ e ∈ Eglidepathlaw01_both, EntOK env e := ent_nil
theorem Uglidepathlaw01_both : uniq ((blocksOf a29.body).map (·.1)) = true := by kernel_rfl
def tglidepathlaw01_both (F : FnT) (p0 : Int) (p1 : Int) : Option (Int) :=
  bif (p0 != (0 : Int)) then
    some p0
  else some p1
theorem tglidepathlaw01_both_eq (F : FnT) (p0 : Int) (p1 : Int) : semF (callP F Eglidepathlaw01_both 20) s29 (loopT []) 400 a29 [PV.int IntKind.i64 p0, PV.int IntKind.i64 p1] (fun rv => decR (RSh.one (CK.int IntKind.i64)) rv.pv) = tglidepathlaw01_both F p0 p1 := by kernel_rfl
noncomputable abbrev Fglidepathlaw01_both (args : List PV) := Fn env 29 (RSh.one (CK.int IntKind.i64)) args
theorem Fglidepathlaw01_both_of  (p0 : Int) (p1 : Int) {res : (Int)} (h : tglidepathlaw01_both (Fn env) p0 p1 = some res) : Fglidepathlaw01_both [PV.int IntKind.i64 p0, PV.int IntKind.i64 p1] = some res :=
  fn_of Eglidepathlaw01_both_ok rfl rfl lo_nil ((tglidepathlaw01_both_eq _ _ _).trans h)

/-! ### glidepathbase_CopyInts -/

def Eglidepathbase_CopyInts : List Entry := []
theorem Eglidepathbase_CopyInts_ok : ∀ e ∈ Eglidepathbase_CopyInts, EntOK env e := ent_nil
theorem Uglidepathbase_CopyInts : uniq ((blocksOf a78.body).map (·.1)) = true := by kernel_rfl
def tglidepathbase_CopyInts (F : FnT) (p0n : Nat) (p0c : List PV) : Option ((Nat) × (List PV)) :=
  bif (decide (p0n = 0)) then
    some (0, [])
  else bif (decide ((List.length p0c) = (p0n * 1))) then
    bif (decide ((0 + p0n) ≤ big)) then
      bif (decide ((0 + p0n) = (0 + p0n))) then
        some ((0 + p0n), ([] ++ p0c))
      else none
    else none
  else none
theorem tglidepathbase_CopyInts_eq (F : FnT) (p0n : Nat) (p0c : List PV) : semF (callP F Eglidepathbase_CopyInts 20) s78 (loopT []) 400 a78 [PV.list p0n p0c] (fun rv => decR (RSh.one CK.list) rv.pv) = tglidepathbase_CopyInts F p0n p0c := by kernel_rfl
noncomputable abbrev Fglidepathbase_CopyInts (args : List PV) := Fn env 78 (RSh.one CK.list) args
theorem Fglidepathbase_CopyInts_of  (p0n : Nat) (p0c : List PV) {res : ((Nat) × (List PV))} (h : tglidepathbase_CopyInts (Fn env) p0n p0c = some res) : Fglidepathbase_CopyInts [PV.list p0n p0c] = some res :=
  fn_of Eglidepathbase_CopyInts_ok rfl rfl lo_nil ((tglidepathbase_CopyInts_eq _ _ _).trans h)

end Gv
