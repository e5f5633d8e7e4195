/- The model's code, turned into the abstract machine's code: types looked up, sizes resolved. -/
import Derived.Test.YtfhgjanheaocaaaGvB
namespace Gv
open Go Go.RowKit
def ksN (n : Nat) (keep : List Nat) : List Nat := (List.range n).filter fun i => !keep.contains i
def szT (P : Program) (t : TypeId) : Option Nat := match P.info? t with
  | some i => some i.size
  | none => none
def aggT (P : Program) (t : TypeId) : Option Bool := match P.underlying t with
  | some (.struct _) => some true
  | some (.array _ _) => some true
  | some _ => some false
  | none => none
def constA : Value → Option AV
  | .int k n => some (.p (.int k n))
  | .bool b => some (.p (.bool b))
  | .string s => some (.p (.str s))
  | .slice none 0 0 => some .nilS
  | .nilFunc => some (.p .nilF)
  | .pointer none => some .bad
  | _ => none
def constAs : List Value → Option (List AV)
  | [] => some []
  | v :: r => match constA v, constAs r with
    | some x, some xs => some (x :: xs)
    | _, _ => none
def argC (N : Nat) : Operand → Option Arg
  | .tmp t => if t < N then some (.tmp t) else none
  | .const v => match constA v with
    | some x => some (.k x)
    | none => none
  | .func f => some (.k (.p (.fn f [])))
  | .global _ => none
def argsC (N : Nat) : List Operand → Option (List Arg)
  | [] => some []
  | x :: r => match argC N x, argsC N r with
    | some y, some ys => some (y :: ys)
    | _, _ => none
def zeroT (P : Program) (t : TypeId) : Option (List AV) := match P.info? t with
  | some i => match i.zero with
    | some z => constAs z.cells.toList
    | none => none
  | none => none
def zeroP (P : Program) (t : TypeId) : Option (List PV) := match zeroT P t with
  | some z => pureAs z
  | none => none
def placeT (P : Program) (t : TypeId) (i : Nat) : Option (Nat × Nat) := match P.underlying t with
  | some (.struct fs) => match fs[i]? with
    | some f => match szT P f.type with
      | some n => some (f.offset, n)
      | none => none
    | none => none
  | some (.array _ e) => match szT P e with
    | some n => some (i * n, n)
    | none => none
  | _ => none
def partsOK (P : Program) (t : TypeId) : Bool := match P.underlying t with
  | some (.struct fs) => fs.toList.all fun f => (szT P f.type).isSome
  | some (.array _ e) => (szT P e).isSome
  | _ => false
def placesT (P : Program) (t : TypeId) : List Nat → Option (List (Nat × Nat))
  | [] => some []
  | i :: r => match placeT P t i, placesT P t r with
    | some x, some xs => some (x :: xs)
    | _, _ => none
def flatFs (P : Program) (g : TypeId → Option (List Bool)) : Nat → List Field → Option (List Bool)
  | _, [] => some []
  | i, f :: fs => if f.offset = i ∧ f.name ≠ "_" then match g f.type with
      | some ks => if szT P f.type = some ks.length then match flatFs P g (i + ks.length) fs with
        | some l => some (ks ++ l)
        | none => none
        else none
      | none => none
    else none
def flatT (P : Program) : Nat → TypeId → Option (List Bool)
  | 0, _ => none
  | d + 1, t => match P.underlying t with
    | some (.int _) => some [false]
    | some .bool => some [true]
    | some (.struct fs) => match flatFs P (flatT P d) 0 fs.toList with
      | some ks => if P.stoodInHeld t = false ∧ szT P t = some ks.length then some ks else none
      | none => none
    | some (.array n e) => match flatT P d e with
      | some ks => if szT P e = some ks.length ∧ szT P t = some (n * ks.length) then some (rep ks n) else none
      | none => none
    | _ => none
def classT (P : Program) (op : BinOp) (t : TypeId) : Option Nat :=
  match op with
  | .eql | .neq => match P.underlying t with
    | some (.int _) => some 0
    | some .bool => some 1
    | some (.slice _) => some 3
    | some (.struct _) | some (.array _ _) => match flatT P 3 t with
      | some ks => if P.eqGuardType P.depth t then none else some (4 + codeB ks)
      | none => none
    | _ => none
  | _ => some 0
def give : Nat := 1000000
def gives (av : List Nat) : Option Nat → Bool
  | some d => av.contains (d + give)
  | none => false
def yields (av : List Nat) : Option Nat → Bool
  | some d => av.contains (d + 3 * give)
  | none => false
def grows (av : List Nat) : Option Nat → Bool
  | some d => av.contains (d + 5 * give)
  | none => false
def owns (av : List Nat) : Option Nat → Bool
  | some d => av.contains (d + 2 * give)
  | none => false
def ldAv (av : List Nat) (d : Option Nat) : List Nat := match d with
  | some d => av ++ av.filterMap fun x => if x / 1000 = 10000 + d then some (x % 1000) else none
  | none => av
def stAt (av : List Nat) : Operand → Option Nat
  | .tmp t => (av.find? fun x => x / 1000 == 20000 + t).map (· % 1000)
  | _ => none
def storeK (av : List Nat) (a : Operand) (n : Nat) : KS := match stAt av a with
  | some d => .storeB d n
  | none => .store n
def apnK (av : List Nat) (d n : Nat) : KS := if av.contains (d + 7 * give) = true then .appendV d n else if av.contains (d + 4 * give) = true then .appendB d n else .append d n
def vecs (av : List Nat) : Option Nat → Bool
  | some d => av.contains (d + 8 * give)
  | none => false
def lends (av : List Nat) : Option Nat → Bool
  | some d => av.contains (d + 9 * give)
  | none => av.contains (9 * give + 999999)
def kindC (P : Program) (av : List Nat) (o : Oper) : Option (K × List Operand) :=
  match o.op with
  | .move x => some (.l .mv, [x])
  | .assign x => some (.l .mv, [x])
  | .pick c a b => some (.l .pick, [c, a, b])
  | .binOp op t x y _ => match classT P op t with
    | some c => some (.l (.bin op c), [x, y])
    | none => none
  | .unOp op _ x => some (.l (.un op), [x])
  | .extract t i => some (.l (.ext i), [t])
  | .fieldAddr s x f => match P.underlying s with
    | some (.struct fs) => match fs[f]? with
      | some fd => match szT P fd.type with
        | some n => if n = 0 then none else some (.l (.fadr fd.offset), [x])
        | none => none
      | none => none
    | _ => none
  | .nilCheck x => some (.l .nck, [x])
  | .field s x f => match P.underlying s with
    | some (.struct fs) => match fs[f]? with
      | some fd => match szT P fd.type, aggT P fd.type with
        | some n, some ag => some (.l (.fval fd.offset n ag), [x])
        | _, _ => none
      | none => none
    | _ => none
  | .indexAddr t x i => match P.underlying t with
    | some (.array n e) => match szT P e with
      | some k => some (.l (.iadr k (some n)), [x, i])
      | none => none
    | some (.slice e) => match szT P e with
      | some k => some (.l (.iadr k none), [x, i])
      | none => none
    | _ => none
  | .index t x i => match P.underlying t with
    | some (.array n e) => match szT P e, aggT P e with
      | some k, some ag => some (.l (.idx k n ag), [x, i])
      | _, _ => none
    | some .string => some (.l .sidx, [x, i])
    | _ => none
  | .slice t x lo hi mx => if mx.isSome then none else match P.underlying t with
    | some (.array n e) => match szT P e with
      | some k => some (.l (.slc k (some n) lo.isSome hi.isSome), x :: (lo.toList ++ hi.toList))
      | none => none
    | some (.slice e) => match szT P e with
      | some k => some (.l (.slc k none lo.isSome hi.isSome), x :: (lo.toList ++ hi.toList))
      | none => none
    | some .string => some (.l (.sslc lo.isSome hi.isSome), x :: (lo.toList ++ hi.toList))
    | _ => none
  | .build t parts => match zeroT P t, placesT P t (parts.toList.map (·.1)) with
    | some z, some pl => if partsOK P t = true then some (.l (.build z pl), parts.toList.map (·.2)) else none
    | _, _ => none
  | .buildSlice t n parts => match P.underlying t with
    | some (.slice e) => match szT P e, zeroP P e with
      | some k, some z => if z.length = k ∧ k ≠ 0 ∧ n * k ≤ 16777216 then if n = 0 ∧ parts.size = 0 ∧ owns av o.dst = true then (match o.dst with
      | some d => some (.a d (.bslO k), [])
      | none => none) else some (if gives av o.dst = true then .s (.bslF n k z (parts.toList.map fun p => p.1 * k)) else .l (.bsl n k z (parts.toList.map fun p => p.1 * k)), parts.toList.map (·.2)) else none
      | _, _ => none
    | _ => none
  | .makeFunc (.func f) first caps => if first.isEmpty then some (.l (.mkF f), caps.toList) else none
  | .convert src dst x => match P.underlying src, P.underlying dst with
    | some (.int _), some (.int k) => some (.l (.cvt k), [x])
    | _, _ => none
  | .load t a => match aggT P t, szT P t with
    | some ag, some n => some (.ld (ldAv av o.dst) n ag, [a])
    | _, _ => none
  | .store t a v => match szT P t with
    | some n => some (.s (storeK av a n), [a, v])
    | none => none
  | .alloc e => match o.dst, zeroT P e with
    | some d, some z => some (.a d (.alloc z), [])
    | _, _ => none
  | .box _ v => match o.dst with
    | some d => some (.a d .box, [v])
    | none => none
  | .makeSlice t l c => match o.dst, P.underlying t with
    | some d, some (.slice e) => match P.info? e, zeroP P e with
      | some i, some z => if z.length = i.size ∧ i.size ≠ 0 ∧ i.bytes ≤ 4096 then some (.a d (.mkS i.size z), [l, c]) else none
      | _, _ => none
    | _, _ => none
  | .call c => match c.callee with
    | .value f => if yields av o.dst = true then some (.s .yld, f :: c.args.toList) else if lends av o.dst = true then some (.s (.callB (o.dst.getD give)), f :: c.args.toList) else if gives av o.dst = true then some (.s (.callF (if owns av o.dst = true then o.dst.getD 0 else give)), f :: c.args.toList) else if grows av o.dst = true then (match o.dst with
      | some d => some (.a d .callG, f :: c.args.toList)
      | none => none)
      else if vecs av o.dst = true then (match o.dst with
      | some d => some (.a d .callV, f :: c.args.toList)
      | none => none)
      else if owns av o.dst = true then (match o.dst, P.underlying o.type with
      | some d, some (.slice _) => some (.a d .callO, f :: c.args.toList)
      | _, _ => some (.l .call, f :: c.args.toList))
      else some (.l .call, f :: c.args.toList)
    | .builtin .len => match c.argTypes[0]? with
      | some t => match P.underlying t with
        | some .string => some (.l .slen, c.args.toList)
        | some (.slice _) => some (.l .len, c.args.toList)
        | some (.array n _) => some (.l (.lenK n), c.args.toList)
        | _ => none
      | none => none
    | .builtin .min => some (.l .min, c.args.toList)
    | .builtin .max => some (.l .max, c.args.toList)
    | .builtin .append => match o.dst, c.argTypes.toList with
      | some d, [t, t'] => if t = t' then
        match P.underlying t with
        | some (.slice e) => match P.info? e with
          | some i => match i.zero with
            | some z => if z.cells.size = i.size ∧ i.size ≠ 0 ∧ i.bytes ≤ 4096 then some (.s (apnK av d i.size), c.args.toList) else none
            | none => none
          | none => none
        | _ => none
        else none
      | _, _ => none
    | _ => none
  | _ => none
def grdC (N : Nat) (ops : Array Oper) : Option (Nat × Bool) → Option (Option (Nat × Bool))
  | none => some none
  | some (j, want) => match ops[j]? with
    | some o => match o.dst with
      | some d => if d < N then some (some (d, want)) else none
      | none => none
    | none => none
def isPlain : Code → Bool
  | .skip => true
  | .region _ _ _ => true
  | .seq a b => isPlain a && isPlain b
  | _ => false
abbrev Lm := Nat × List Nat × Nat
def dstOK (L : Lm) : Option Nat → Bool
  | some d => decide (d < L.1) && !L.2.1.contains d
  | none => true
def nils (av : List Nat) : Option Nat → Bool
  | some d => av.contains (d + 6 * give)
  | none => false
def nilK : Arg → Arg
  | .k .nilS => .k (.p .nilL)
  | x => x
def argsN (av : List Nat) (dst : Option Nat) (N : Nat) (xs : List Operand) : Option (List Arg) :=
  (argsC N xs).map fun as => if nils av dst = true then as.map nilK else as
def opC (P : Program) (L : Lm) (ops : Array Oper) (av : List Nat) (o : Oper) : Option AOp :=
  match kindC P av o, grdC L.1 ops o.guard with
  | some (k, xs), some gd => match argsN av o.dst L.1 xs with
    | some as => if dstOK L o.dst = true then some { dst := o.dst, grd := gd, args := as, k := k } else none
    | none => none
  | _, _ => none
def opsC (P : Program) (L : Lm) (ops : Array Oper) (av : List Nat) : List Oper → Option (List AOp)
  | [] => some []
  | o :: r => match opC P L ops av o, opsC P L ops av r with
    | some x, some xs => some (x :: xs)
    | _, _ => none
def freshOf (l : List AOp) : List Nat := l.filterMap fun o => match o.k with
  | .a d _ => some d
  | _ => none
def readsOf (o : AOp) : List Nat := (match o.grd with | some (d, _) => [d] | none => []) ++ o.args.filterMap fun | .tmp i => some i | .k _ => none
def kApart : K → K → Bool
  | .l _, _ => true
  | _, .l _ => true
  | .ld _ _ _, .ld _ _ _ => true
  | .ld av _ _, .a d _ => av.contains d
  | .a d _, .ld av _ _ => av.contains d
  | .a d _, .a e _ => d != e
  | .ld av _ _, .s (.storeB d _) => av.contains d
  | .s (.storeB d _), .ld av _ _ => av.contains d
  | .s (.storeB d _), .s (.storeB e _) => d != e
  | .ld _ _ _, .s (.appendB _ _) => true
  | .s (.appendB _ _), .ld _ _ _ => true
  | .a d _, .s (.appendB e _) => d != e
  | .s (.appendB d _), .a e _ => d != e
  | .s (.appendB d _), .s (.appendB e _) => d != e
  | _, _ => false
def dstApart (x y : AOp) : Bool := match x.dst with
  | some d => !(readsOf y).contains d && y.dst != some d
  | none => true
def apart (x y : AOp) : Bool := dstApart x y && dstApart y x && kApart x.k y.k
def edgesOf (o : Oper) : List Nat := (o.after.toList.filter fun e => Region.binds .any e).map (·.on)
def anc (ops : List Oper) : Nat → List Nat → List Nat
  | 0, s => s
  | n + 1, s => anc ops n (s ++ ((s.flatMap fun j => match ops[j]? with
    | some o => edgesOf o
    | none => []).eraseDups.filter fun j => !s.contains j))
def drawOK (ops : List Oper) (l : List AOp) : Bool :=
  (List.range ops.length).all fun i => match ops[i]?, l[i]? with
    | some o, some x => (o.after.all fun e => !Region.binds .any e || decide (e.on < i)) && drawAt l i x (anc ops 12 (edgesOf o))
    | _, _ => false
where
  drawAt (l : List AOp) (i : Nat) (x : AOp) (A : List Nat) : Bool := (List.range i).all fun j => match l[j]? with
    | some y => A.contains j || apart y x
    | none => false
def regC (P : Program) (L : Lm) (fr : List Nat) (ops : Array Oper) (draw : Bool) : Option (List AOp) :=
  match opsC P L ops fr ops.toList with
  | some l => if draw then
      match opsC P L ops (fr ++ freshOf l) ops.toList with
      | some l => if drawOK ops.toList l then some l else none
      | none => none
    else some l
  | none => none
def stuckL : List AOp := [{ dst := none, grd := none, args := [], k := .l .len }]
def wrap (id : Nat) (k k' : List Nat × List Nat) (x : ACode) : ACode := bif k'.2.contains 999999 then x else .node id k.1 k.2 k'.1 k'.2 x
def rowOps (b : Nat) : Nat → List Nat → List (Option Nat) → List AOp
  | off, p :: ps, none :: sh => { dst := some (b + 5), grd := none, args := [.tmp (b + 4)], k := .l (.fadr off) } :: { dst := some p, grd := none, args := [.tmp (b + 5)], k := .ld [] 1 false } :: rowOps b (off + 1) ps sh
  | off, p :: ps, some n :: sh => { dst := some (b + 5), grd := none, args := [.tmp (b + 4)], k := .l (.fadr off) } :: { dst := some p, grd := none, args := [.tmp (b + 5)], k := .ld [] n true } :: rowOps b (off + n) ps sh
  | _, _, _ => []
def startOps (b : Nat) (f : Arg) (sh : List (Option Nat)) : List AOp :=
  [{ dst := some b, grd := none, args := [f, .k (.p (.it sh 0))], k := .l .call }, { dst := some (b + 1), grd := none, args := [.k (.p (.int .i64 0))], k := .l .mv }]
def testOps (b : Nat) : List AOp :=
  [{ dst := some (b + 2), grd := none, args := [.tmp b], k := .l .len }, { dst := some (b + 3), grd := none, args := [.tmp (b + 1), .tmp (b + 2)], k := .l (.bin .lss 0) }]
def nextOps (b : Nat) (ps : List Nat) (sh : List (Option Nat)) : List AOp :=
  { dst := some (b + 4), grd := none, args := [.tmp b, .tmp (b + 1)], k := .l (.iadr (shSize sh) none) } ::
  (rowOps b 0 ps sh ++ [{ dst := some (b + 1), grd := none, args := [.tmp (b + 1), .k (.p (.int .i64 1))], k := .l (.bin .add 0) }])
def shOf1 (n : Nat) : Option Nat := match n with
  | 0 => none
  | n + 1 => some n
def rangeA (b : Nat) (f : Arg) (ps : List Nat) (sh : List (Option Nat)) (ks bs : List Nat) (c : ACode) : ACode :=
  .seq (.ops (startOps b f sh)) (.block (3000000 + b) ks [] (.loop (b :: (b + 1) :: ks) bs (.seq (.ops (testOps b)) (.cond (.tmp (b + 3))
    (.seq (.ops (nextOps b ps sh)) (.rnd (b :: (b + 1) :: ks) [] c)) (.exit (3000000 + b))))))
def hasRange : Code → Bool
  | .rangeFunc _ _ _ _ => true
  | .seq a b | .cond _ a b => hasRange a || hasRange b
  | .block _ c | .loop c => hasRange c
  | _ => false
def gupL (fr : List Nat) (id : Nat) : List Nat := (fr.filter fun m => decide (m / 1000 = 40000 + id)).map (· % 1000)
def gup (fr : List Nat) (N id : Nat) (x : ACode) : ACode := match gupL fr id with
  | [] => x
  | b :: bs => .rnd (List.range (N + 60)) (b :: bs) x
def codeC (P : Program) (L : Lm) (fr : List Nat) : Code → List (List Nat × List Nat) → Option (ACode × List (List Nat × List Nat))
  | .skip, ks => some (.skip, ks)
  | .region id ops draw, ks => match regC P L fr ops draw with
    | some l => some (gup fr L.1 id (.ops l), ks)
    | none => some (.ops stuckL, ks)
  | .seq a b, k :: k' :: ks => match codeC P L fr a ks with
    | some (x, ks1) => match codeC P L fr b ks1 with
      | some (y, ks2) => some (.seq (wrap (1000000 + ks.length) k k' x) y, ks2)
      | none => none
    | none => none
  | .cond c a b, ks => match argC L.1 c with
    | some c => match codeC P L fr a ks with
      | some (x, ks) => match codeC P L fr b ks with
        | some (y, ks) => some (.cond c x y, ks)
        | none => none
      | none => none
    | none => none
  | .block id c, k :: ks => match codeC P L fr c ks with
    | some (x, ks) => some (.block id k.1 k.2 x, ks)
    | none => none
  | .loop c, k :: ks => match codeC P L fr c ks with
    | some (x, ks) => some (.loop k.1 k.2 x, ks)
    | none => none
  | .exit id, ks => if id < 1000000 then some (.exit id, ks) else none
  | .ret, k :: ks => some (.ret k.1 k.2, ks)
  | .rangeFunc f ps as c, k :: ks => match argC L.1 f, k.2 with
    | some fa, b :: r => if isPlain as = true ∧ L.2.2 ≤ b ∧ r.length ≥ ps.size ∧ (k.1.all fun i => decide (i < L.1)) = true ∧ (ps.toList.all fun i => decide (i < L.1) && !k.1.contains i) = true then
      match codeC P (L.1, k.1, b + 6) fr as ks with
      | some (x, ks1) => match codeC P (L.1, k.1, b + 6) fr c ks1 with
        | some (y, ks2) => some (rangeA b fa ps.toList ((r.take ps.size).map shOf1) k.1 (r.drop ps.size) (.seq x y), ks2)
        | none => none
      | none => none
      else none
    | _, _ => none
  | _, _ => none
def resC (P : Program) (N : Nat) : List ResultVar → Option (List RSlot)
  | [] => some []
  | .tmp t :: r => match resC P N r with
    | some xs => if t < N then some (.tmp t :: xs) else none
    | none => none
  | .cell a t :: r => match szT P t, aggT P t, resC P N r with
    | some n, some ag, some xs => if a < N then some (.cell a n ag :: xs) else none
    | _, _, _ => none
def fnC (P : Program) (fr : List Nat) (ks : List (List Nat × List Nat)) (fn : Func) : Option AFn :=
  match fn.body with
  | some c => match codeC P (fn.ntmps, [], fn.ntmps) fr c ks, resC P fn.ntmps fn.results.toList with
    | some (x, _), some rs => if fn.name = "runtime.NumGoroutine" ∨ fn.ntmps < fn.params.size + fn.nfree then none else some { np := fn.params.size + fn.nfree, nt := fn.ntmps + (if hasRange c then 24 else 0), res := rs, body := x, rf := hasRange c }
    | _, _ => none
  | none => none
end Gv
