/- The abstract machine: values whose slices are plain lists, a frame with a fixed row of own blocks, code with sizes resolved, and its evaluator with fuel. -/
import Derived.WalkKit
namespace Gv
open Go
def bytes (l : List Nat) : ByteArray := ⟨(l.map UInt8.ofNat).toArray⟩
inductive PV where
  | int (k : IntKind) (n : Int)
  | bool (b : Bool)
  | str (s : ByteArray)
  | agg (cs : List PV)
  | tup (vs : List PV)
  | list (n : Nat) (cs : List PV)
  | imm (cs : List PV) (off : Nat)
  | fn (f : Nat) (caps : List PV)
  | nilF
  | nilL
  | it (sh : List (Option Nat)) (k : Nat)
  deriving Inhabited
inductive AV where
  | p (v : PV)
  | nilS
  | loc (b off : Nat)
  | msl (b off len sz : Nat)
  | lit (n sz : Nat) (cs : List PV)
  | app (b n sz : Nat) (cs : List PV)
  | agg (cs : List AV)
  | clo (f : Nat) (caps : List AV)
  | undef
  | bad
  | yv
  | vap (b n sz : Nat)
  | vlc (b n o : Nat)
  deriving Inhabited
inductive Blk where
  | none
  | cells (wr : Bool) (cs : List AV)
  | buf (n : Nat)
  | log (sh : List (Option Nat)) (k n : Nat) (cs : List PV)
  | vec (wr : Bool) (n sz : Nat) (cs : List PV)
  deriving Inhabited
structure S where
  t : List AV
  m : List Blk
inductive RV where
  | val (v : PV)
  | own (n sz : Nat) (cs : List PV)
structure CallT where
  fn : Nat → List PV → Option RV
  ln : Nat → List AV → List Blk → Option (AV × List Blk)
instance : CoeFun CallT (fun _ => Nat → List PV → Option RV) := ⟨CallT.fn⟩
def noCall : CallT := ⟨fun _ _ => none, fun _ _ _ => none⟩
inductive Arg where
  | tmp (i : Nat)
  | k (v : AV)
  deriving Inhabited
inductive KL where
  | mv | pick
  | bin (op : BinOp) (c : Nat)
  | un (op : UnOp)
  | len | slen | lenK (n : Nat)
  | min | max
  | ext (i : Nat)
  | fadr (off : Nat)
  | nck
  | fval (off sz : Nat) (ag : Bool)
  | iadr (sz : Nat) (arr : Option Nat)
  | build (z : List AV) (pl : List (Nat × Nat))
  | bsl (n sz : Nat) (z : List PV) (pl : List Nat)
  | mkF (f : Nat)
  | call
  | cvt (k : IntKind)
  | idx (sz n : Nat) (ag : Bool)
  | sidx
  | slc (sz : Nat) (arr : Option Nat) (lo hi : Bool)
  | sslc (lo hi : Bool)
  | prim (g : List PV → Option PV)
  deriving Inhabited
inductive KA where
  | alloc (z : List AV)
  | box
  | mkS (sz : Nat) (z : List PV)
  | callO
  | callG
  | grow (sz : Nat)
  | bslO (sz : Nat)
  | callV
  deriving Inhabited
inductive KS where
  | store (sz : Nat)
  | storeB (d sz : Nat)
  | append (d sz : Nat)
  | appendB (d sz : Nat)
  | bslF (n sz : Nat) (z : List PV) (pl : List Nat)
  | callF (d : Nat)
  | yld
  | told (sh : List (Option Nat)) (g : List PV → Option (Nat × List PV))
  | appendV (d sz : Nat)
  | callB (d : Nat)
  deriving Inhabited
inductive K where
  | l (k : KL)
  | ld (av : List Nat) (sz : Nat) (ag : Bool)
  | a (d : Nat) (k : KA)
  | s (k : KS)
  deriving Inhabited
structure AOp where
  dst : Option Nat
  grd : Option (Nat × Bool)
  args : List Arg
  k : K
  deriving Inhabited
inductive ACode where
  | skip
  | ops (l : List AOp)
  | seq (a b : ACode)
  | cond (c : Arg) (a b : ACode)
  | block (id : Nat) (ks bs : List Nat) (c : ACode)
  | node (id : Nat) (ki bi ks bs : List Nat) (c : ACode)
  | loop (ks bs : List Nat) (c : ACode)
  | rnd (ks bs : List Nat) (c : ACode)
  | exit (id : Nat)
  | ret (ks bs : List Nat)
  deriving Inhabited
inductive Ext where
  | normal
  | exit (id : Nat)
  | ret
inductive RSlot where
  | tmp (i : Nat)
  | cell (i sz : Nat) (ag : Bool)
  deriving Inhabited
structure AFn where
  np : Nat
  nt : Nat
  res : List RSlot
  body : ACode
  rf : Bool
  deriving Inhabited
def ps? : List AV → Option (List PV)
  | [] => some []
  | .p v :: r => match ps? r with
    | some vs => some (v :: vs)
    | Option.none => Option.none
  | _ :: _ => Option.none
def mkAgg (cs : List AV) : AV := match ps? cs with
  | some vs => .p (.agg vs)
  | Option.none => .agg cs
mutual
def pureA : AV → Option PV
  | .p v => some v
  | .nilS => some (.list 0 [])
  | .lit n _ cs => some (.list n cs)
  | .app _ n _ cs => some (.list n cs)
  | .agg cs => match pureAs cs with
    | some vs => some (.agg vs)
    | Option.none => Option.none
  | .clo f caps => match pureAs caps with
    | some vs => some (.fn f vs)
    | Option.none => Option.none
  | _ => Option.none
def pureAs : List AV → Option (List PV)
  | [] => some []
  | v :: r => match pureA v, pureAs r with
    | some x, some xs => some (x :: xs)
    | _, _ => Option.none
end
def cellsOf : AV → List AV
  | .p (.agg cs) => cs.map .p
  | .agg cs => cs
  | v => [v]
def isCell : AV → Bool
  | .p (.agg _) | .p (.tup _) | .agg _ | .undef | .bad | .yv => false
  | _ => true
def isCellP : PV → Bool
  | .agg _ | .tup _ => false
  | _ => true
def pcells : PV → List PV
  | .agg cs => cs
  | v => [v]
def plain : PV → Bool
  | .int _ _ | .bool _ | .str _ => true
  | _ => false
def shapeOK : List (Option Nat) → List PV → Bool
  | [], [] => true
  | Option.none :: s, p :: ps => isCellP p && shapeOK s ps
  | some n :: s, .agg ws :: ps => ws.length == n && ws.all isCellP && shapeOK s ps
  | _, _ => false
def shSize : List (Option Nat) → Nat
  | [] => 0
  | Option.none :: s => 1 + shSize s
  | some n :: s => n + shSize s
def sub {α : Type} (cs : List α) (off n : Nat) : Option (List α) :=
  if off + n ≤ cs.length then some ((cs.drop off).take n) else Option.none
def over {α : Type} (cs : List α) (off : Nat) (vs : List α) : List α := cs.take off ++ (vs ++ cs.drop (off + vs.length))
def asList : AV → Option (Nat × List PV)
  | .p (.list n cs) => some (n, cs)
  | .nilS => some (0, [])
  | .lit n _ cs => some (n, cs)
  | .app _ n _ cs => some (n, cs)
  | _ => Option.none
def iop (op : BinOp) (k : IntKind) (a b : Int) : Option PV :=
  match op with
  | .add => some (.int k (k.wrap (a + b)))
  | .sub => some (.int k (k.wrap (a - b)))
  | .mul => some (.int k (k.wrap (a * b)))
  | .quo => if b = 0 then Option.none else some (.int k (k.wrap (a.tdiv b)))
  | .rem => if b = 0 then Option.none else some (.int k (a.tmod b))
  | .and => some (.int k (k.wrap (BitVec.ofInt k.bits a &&& BitVec.ofInt k.bits b).toNat))
  | .or => some (.int k (k.wrap (BitVec.ofInt k.bits a ||| BitVec.ofInt k.bits b).toNat))
  | .xor => some (.int k (k.wrap (BitVec.ofInt k.bits a ^^^ BitVec.ofInt k.bits b).toNat))
  | .andNot => some (.int k (k.wrap (BitVec.ofInt k.bits a &&& ~~~(BitVec.ofInt k.bits b)).toNat))
  | .eql => some (.bool (a == b))
  | .neq => some (.bool (a != b))
  | .lss => some (.bool (decide (a < b)))
  | .leq => some (.bool (decide (a ≤ b)))
  | .gtr => some (.bool (decide (a > b)))
  | .geq => some (.bool (decide (a ≥ b)))
  | _ => Option.none
def shop (op : BinOp) (k : IntKind) (a b : Int) : Option PV :=
  if b < 0 then Option.none else
  match op with
  | .shl => some (.int k (k.wrap (a * 2 ^ (Nat.min b.toNat k.bits))))
  | .shr => some (.int k (a.fdiv (2 ^ (Nat.min b.toNat k.bits))))
  | _ => Option.none
def eqInts : List PV → List PV → Option Bool
  | [], [] => some true
  | .int k a :: xs, .int k' b :: ys => if k = k' then (match eqInts xs ys with
      | some r => some (a == b && r)
      | Option.none => Option.none) else Option.none
  | .bool a :: xs, .bool b :: ys => (match eqInts xs ys with
      | some r => some (a == b && r)
      | Option.none => Option.none)
  | _, _ => Option.none
def isB : PV → Bool
  | .bool _ => true
  | _ => false
def codeB : List Bool → Nat
  | [] => 1
  | b :: r => 2 * codeB r + cond b 1 0
def eqNil : AV → Option Bool
  | .nilS => some true
  | .p (.list n _) => if n = 0 then Option.none else some false
  | .app _ _ _ _ => some false
  | .lit _ _ _ => some false
  | .vap _ _ _ => some false
  | _ => Option.none
def binA (op : BinOp) (c : Nat) (x y : AV) : Option AV :=
  match x, y with
  | .p (.int k a), .p (.int k' b) =>
    match op with
    | .shl | .shr => (shop op k a b).map .p
    | _ => if k = k' then (iop op k a b).map .p else Option.none
  | .p (.bool a), .p (.bool b) => match op, c with
    | .eql, 1 => some (.p (.bool (a == b)))
    | .neq, 1 => some (.p (.bool (a != b)))
    | _, _ => Option.none
  | .p (.agg xs), .p (.agg ys) => if c = 4 + codeB (xs.map isB) then
    match op with
    | .eql => (eqInts xs ys).map fun r => .p (.bool r)
    | .neq => (eqInts xs ys).map fun r => .p (.bool (!r))
    | _ => Option.none
    else Option.none
  | x, .nilS => match op, c with
    | .eql, 3 => (eqNil x).map fun r => .p (.bool r)
    | .neq, 3 => (eqNil x).map fun r => .p (.bool (!r))
    | _, _ => Option.none
  | _, _ => Option.none
def unA (op : UnOp) (x : AV) : Option AV :=
  match op, x with
  | .not, .p (.bool b) => some (.p (.bool (!b)))
  | .neg, .p (.int k n) => some (.p (.int k (k.wrap (0 - n))))
  | _, _ => Option.none
def min2 (x y : AV) : Option AV := match x, y with
  | .p (.int k a), .p (.int _ b) => some (.p (.int k (if b < a then b else a)))
  | _, _ => Option.none
def max2 (x y : AV) : Option AV := match x, y with
  | .p (.int k a), .p (.int _ b) => some (.p (.int k (if b > a then b else a)))
  | _, _ => Option.none
def fold2 (f : AV → AV → Option AV) : AV → List AV → Option AV
  | x, [] => some x
  | x, y :: r => match f x y with
    | some z => fold2 f z r
    | Option.none => Option.none
def lay : List AV → List (Nat × Nat) → List AV → Option (List AV)
  | z, [], [] => some z
  | z, (off, sz) :: pl, v :: vs => if (cellsOf v).length = sz ∧ off + sz ≤ z.length ∧ (cellsOf v).all isCell = true then lay (over z off (cellsOf v)) pl vs else Option.none
  | _, _, _ => Option.none
def layP (sz : Nat) : List PV → List Nat → List PV → Option (List PV)
  | z, [], [] => some z
  | z, off :: pl, v :: vs => if (pcells v).length = sz ∧ off + sz ≤ z.length ∧ (pcells v).all isCellP = true then layP sz (over z off (pcells v)) pl vs else Option.none
  | _, _, _ => Option.none
def rep {α : Type} (z : List α) : Nat → List α
  | 0 => []
  | n + 1 => z ++ rep z n
def bnds (lo hi : Bool) (bs : List AV) (n : Nat) : Option (Nat × Nat) :=
  match lo, hi, bs with
  | false, false, [] => some (0, n)
  | true, false, [.p (.int _ l)] => if 0 ≤ l ∧ l ≤ n then some (l.toNat, n) else Option.none
  | false, true, [.p (.int _ h)] => if 0 ≤ h ∧ h ≤ n then some (0, h.toNat) else Option.none
  | true, true, [.p (.int _ l), .p (.int _ h)] => if 0 ≤ l ∧ l ≤ h ∧ h ≤ n then some (l.toNat, h.toNat) else Option.none
  | _, _, _ => Option.none
def slcA (sz : Nat) (x : AV) (l h : Nat) : Option AV :=
  if l = h then some (.p (.list 0 [])) else
  match x with
  | .loc b o => some (.msl b (o + l * sz) (h - l) sz)
  | .p (.imm cs o) => (sub cs (o + l * sz) ((h - l) * sz)).map fun ws => .p (.list (h - l) ws)
  | .msl b o _ sz' => if sz' = sz then some (.msl b (o + l * sz) (h - l) sz) else Option.none
  | x => match asList x with
    | some (_, cs) => (sub cs (l * sz) ((h - l) * sz)).map fun ws => .p (.list (h - l) ws)
    | Option.none => Option.none
def lenA (arr : Option Nat) (x : AV) : Option Nat :=
  match arr, x with
  | some n, .loc _ _ => some n
  | some n, .p (.imm _ _) => some n
  | Option.none, .msl _ _ n _ => some n
  | Option.none, x => (asList x).map (·.1)
  | _, _ => Option.none
def big : Nat := 1073741824
section
variable (call : CallT)
def runL (k : KL) (vs : List AV) : Option AV :=
  match k, vs with
  | .mv, [x] => some x
  | .pick, [c, x, y] => match c with
    | .p (.bool b) => some (if b then x else y)
    | _ => Option.none
  | .bin op c, [x, y] => binA op c x y
  | .un op, [x] => unA op x
  | .len, [x] => match x with
    | .msl _ _ n _ => some (.p (.int .i64 n))
    | .vap _ n _ => some (.p (.int .i64 n))
    | x => match asList x with
      | some (n, _) => some (.p (.int .i64 n))
      | Option.none => Option.none
  | .slen, [x] => match x with
    | .p (.str s) => some (.p (.int .i64 s.size))
    | _ => Option.none
  | .lenK n, [_] => some (.p (.int .i64 n))
  | .min, x :: r => fold2 min2 x r
  | .max, x :: r => fold2 max2 x r
  | .ext i, [.p (.tup ws)] => match ws[i]? with
    | some w => some (.p w)
    | Option.none => Option.none
  | .fadr off, [x] => match x with
    | .loc b o => some (.loc b (o + off))
    | .p (.imm cs o) => some (.p (.imm cs (o + off)))
    | .vlc b n o => some (.vlc b n (o + off))
    | _ => Option.none
  | .nck, [x] => match x with
    | .loc b o => some (.loc b o)
    | .p (.imm cs o) => some (.p (.imm cs o))
    | .vlc b n o => some (.vlc b n o)
    | _ => Option.none
  | .fval off sz ag, [x] => match x with
    | .p (.agg cs) => if ag then (match sub cs off sz with
        | some ws => some (.p (.agg ws))
        | Option.none => Option.none) else (match cs[off]? with
        | some w => some (.p w)
        | Option.none => Option.none)
    | _ => Option.none
  | .iadr sz arr, [x, .p (.int _ i)] =>
    if 0 ≤ i then
      match arr, x with
      | some n, .loc b o => if i < n then some (.loc b (o + i.toNat * sz)) else Option.none
      | some n, .p (.imm cs o) => if i < n then some (.p (.imm cs (o + i.toNat * sz))) else Option.none
      | Option.none, .msl b o n sz' => if i < n ∧ sz' = sz then some (.loc b (o + i.toNat * sz)) else Option.none
      | Option.none, .vap b n sz' => if i < n ∧ sz' = sz then some (.vlc b n (i.toNat * sz)) else Option.none
      | Option.none, x => match asList x with
        | some (n, cs) => if i < n then some (.p (.imm cs (i.toNat * sz))) else Option.none
        | Option.none => Option.none
      | _, _ => Option.none
    else Option.none
  | .build z pl, vs => (lay z pl vs).map mkAgg
  | .bsl n sz z pl, vs => match pureAs vs with
    | some ps => (layP sz (rep z n) pl ps).map (.lit n sz)
    | Option.none => Option.none
  | .mkF f, vs => match ps? vs with
    | some ps => some (.p (.fn f ps))
    | Option.none => some (.clo f vs)
  | .call, .p (.fn f caps) :: vs => match pureAs vs with
    | some ps => match call f (ps ++ caps) with
      | some (.val v) => some (.p v)
      | some (.own n _ cs) => some (.p (.list n cs))
      | Option.none => Option.none
    | Option.none => Option.none
  | .cvt k, [.p (.int _ n)] => some (.p (.int k (k.wrap n)))
  | .idx sz n ag, [x, .p (.int _ i)] => if 0 ≤ i ∧ i < n then
      match x with
      | .p (.agg cs) => if ag then (sub cs (i.toNat * sz) sz).map fun ws => .p (.agg ws) else (cs[i.toNat * sz]?).map .p
      | .agg cs => if ag then Option.none else cs[i.toNat * sz]?
      | _ => Option.none
    else Option.none
  | .sidx, [.p (.str s), .p (.int _ i)] => if 0 ≤ i then (s[i.toNat]?).map fun b => .p (.int .u8 b.toNat) else Option.none
  | .slc sz arr lo hi, x :: bs => match lenA arr x with
    | some n => match bnds lo hi bs n with
      | some (l, h) => slcA sz x l h
      | Option.none => Option.none
    | Option.none => Option.none
  | .sslc lo hi, .p (.str s) :: bs => match bnds lo hi bs s.size with
    | some (l, h) => some (.p (.str (s.extract l h)))
    | Option.none => Option.none
  | .prim g, vs => match pureAs vs with
    | some ps => (g ps).map .p
    | Option.none => Option.none
  | _, _ => Option.none
def runD (sz : Nat) (ag : Bool) (vs : List AV) (look : Nat → Option (List AV)) : Option AV :=
  match vs with
  | [.loc b o] => match look b with
    | some cs => if ag then (match sub cs o sz with
        | some ws => some (mkAgg ws)
        | Option.none => Option.none) else cs[o]?
    | Option.none => Option.none
  | [.p (.imm cs o)] => if ag then (match sub cs o sz with
        | some ws => some (.p (.agg ws))
        | Option.none => Option.none) else (match cs[o]? with
        | some w => some (.p w)
        | Option.none => Option.none)
  | _ => Option.none
def runV (sz : Nat) (ag : Bool) (av : List Nat) (m : List Blk) (b n o : Nat) : Option AV :=
  if av.contains b then Option.none else
  match m[b]? with
  | some (.vec _ n' _ cs) => if n' = n then (if ag then (match sub cs o sz with
      | some ws => some (.p (.agg ws))
      | Option.none => Option.none) else (match cs[o]? with
      | some w => some (.p w)
      | Option.none => Option.none)) else Option.none
  | _ => Option.none
def growR (d : Nat) : Option RV → Option (AV × Blk)
  | some (.val .nilL) => some (.nilS, .none)
  | some (.own n sz cs) => some (.app d n sz cs, .buf n)
  | _ => Option.none
def runA (d : Nat) (k : KA) (vs : List AV) : Option (AV × Blk) :=
  match k, vs with
  | .alloc z, [] => some (.loc d 0, .cells true z)
  | .box, [v] => if (cellsOf v).all isCell then some (.loc d 0, .cells true (cellsOf v)) else Option.none
  | .mkS sz z, [.p (.int _ n), .p (.int _ c)] =>
    if n = c ∧ 0 ≤ n ∧ n ≤ big then some (.msl d 0 n.toNat sz, .cells true ((rep z n.toNat).map .p)) else Option.none
  | .callO, .p (.fn f caps) :: vs => match pureAs vs with
    | some ps => match call f (ps ++ caps) with
      | some (.val v) => some (.p v, .none)
      | some (.own n sz cs) => some (.app d n sz cs, .buf n)
      | Option.none => Option.none
    | Option.none => Option.none
  | .callG, [.p (.fn f []), .nilS, .p (.int k n)] => growR d (call f [.nilL, .int k n])
  | .callV, .p (.fn f caps) :: vs => match pureAs vs with
    | some ps => match call f (ps ++ caps) with
      | some (.val v) => some (.p v, .none)
      | some (.own n sz cs) => if cs.all plain then some (.vap d n sz, .vec true n sz cs) else some (.app d n sz cs, .buf n)
      | Option.none => Option.none
    | Option.none => Option.none
  | .bslO sz, [] => some (.app d 0 sz [], .buf 0)
  | .grow sz, [.p .nilL, .p (.int .i64 n)] => if n = 0 then some (.p .nilL, .none) else if 0 < n ∧ n ≤ big then some (.app d 0 sz [], .buf 0) else Option.none
  | _, _ => Option.none
def lookB (av : List Nat) (m : List Blk) (b : Nat) : Option (List AV) :=
  if av.contains b then Option.none else
  match m[b]? with
  | some (.cells _ cs) => some cs
  | _ => Option.none
def runDV (sz : Nat) (ag : Bool) (vs : List AV) (av : List Nat) (m : List Blk) : Option AV :=
  match vs with
  | [.vlc b n o] => runV sz ag av m b n o
  | vs => runD sz ag vs (lookB av m)
def nilA : AV → AV
  | .p .nilL => .nilS
  | x => x
def appendA (d sz : Nat) (x : AV) (m : Nat) (ys : List PV) (mem : List Blk) : Option (AV × List Blk) :=
  if m = 0 then (match asList x with | some _ => some (x, mem) | Option.none => Option.none) else
  if ys.length = m * sz then
  match nilA x with
  | .nilS => match mem[d]? with
    | some .none => if m ≤ big then some (.app d m sz ys, mem.set d (.buf m)) else Option.none
    | _ => Option.none
  | .lit n sz' cs => match mem[d]? with
    | some .none => if sz' = sz ∧ n + m ≤ big then some (.app d (n + m) sz (cs ++ ys), mem.set d (.buf (n + m))) else Option.none
    | _ => Option.none
  | .app b n sz' cs => match mem[b]? with
    | some (.buf n') => if n' = n ∧ sz' = sz ∧ n + m ≤ big then some (.app b (n + m) sz (cs ++ ys), mem.set b (.buf (n + m))) else Option.none
    | _ => Option.none
  | _ => Option.none
  else Option.none
def appendVA (d sz : Nat) (x : AV) (m : Nat) (ys : List PV) (mem : List Blk) : Option (AV × List Blk) :=
  if m = 0 then Option.none else
  if ys.length = m * sz ∧ ys.all isCellP = true then
  match nilA x with
  | .nilS => match mem[d]? with
    | some .none => if m ≤ big then some (.vap d m sz, mem.set d (.vec true m sz ys)) else Option.none
    | _ => Option.none
  | .lit n sz' cs => match mem[d]? with
    | some .none => if sz' = sz ∧ n + m ≤ big then some (.vap d (n + m) sz, mem.set d (.vec true (n + m) sz (cs ++ ys))) else Option.none
    | _ => Option.none
  | .vap b n sz' => match mem[b]? with
    | some (.vec true n' sz'' cs) => if n' = n ∧ sz' = sz ∧ sz'' = sz ∧ n + m ≤ big then some (.vap b (n + m) sz, mem.set b (.vec true (n + m) sz (cs ++ ys))) else Option.none
    | _ => Option.none
  | _ => Option.none
  else Option.none
def lock1 (m : List Blk) (b : Nat) : List Blk := match m[b]? with
  | some (.cells _ cs) => m.set b (.cells false cs)
  | some (.vec _ n sz cs) => m.set b (.vec false n sz cs)
  | _ => m
def lock (m : List Blk) (bs : List Nat) : List Blk := bs.foldl lock1 m
def reachA (m : List Blk) : Nat → AV → List Nat
  | 0, _ => []
  | n + 1, v => match v with
    | .loc b _ => b :: (match m[b]? with
      | some (.cells _ cs) => cs.flatMap (reachA m n)
      | _ => [])
    | .msl b _ _ _ => b :: (match m[b]? with
      | some (.cells _ cs) => cs.flatMap (reachA m n)
      | _ => [])
    | .agg cs => cs.flatMap (reachA m n)
    | .clo _ cs => cs.flatMap (reachA m n)
    | .vap b _ _ => [b]
    | .vlc b _ _ => [b]
    | _ => []
def giveA (m : List Blk) : Nat → AV → Option PV
  | 0, _ => Option.none
  | n + 1, v =>
    let all (l : List AV) : Option (List PV) := l.foldr (fun x r => match giveA m n x, r with
      | some y, some ys => some (y :: ys)
      | _, _ => Option.none) (some [])
    match v with
    | .agg cs => (all cs).map .agg
    | .clo f caps => (all caps).map (.fn f)
    | .loc b o => match m[b]? with
      | some (.cells false cs) => (all cs).map fun ps => .imm ps o
      | _ => Option.none
    | .msl b o len sz => match m[b]? with
      | some (.cells false cs) => match all cs with
        | some ps => (sub ps o (len * sz)).map (.list len)
        | Option.none => Option.none
      | _ => Option.none
    | .vap b n _ => match m[b]? with
      | some (.vec false n' _ cs) => if n' = n then some (.list n cs) else Option.none
      | _ => Option.none
    | .vlc b n o => match m[b]? with
      | some (.vec false n' _ cs) => if n' = n then some (.imm cs o) else Option.none
      | _ => Option.none
    | v => pureA v
def giveAs (m : List Blk) (n : Nat) (l : List AV) : Option (List PV) := l.foldr (fun x r => match giveA m n x, r with
      | some y, some ys => some (y :: ys)
      | _, _ => Option.none) (some [])
def deep : Nat := 8
mutual
def ren (σ : Nat → Option Nat) : AV → Option AV
  | .loc b o => match σ b with | some b' => some (.loc b' o) | Option.none => Option.none
  | .msl b o n sz => match σ b with | some b' => some (.msl b' o n sz) | Option.none => Option.none
  | .app b n sz cs => match σ b with | some b' => some (.app b' n sz cs) | Option.none => some (.p (.list n cs))
  | .vap b n sz => match σ b with | some b' => some (.vap b' n sz) | Option.none => Option.none
  | .vlc b n o => match σ b with | some b' => some (.vlc b' n o) | Option.none => Option.none
  | .agg cs => match rens σ cs with | some ws => some (.agg ws) | Option.none => Option.none
  | .clo f cs => match rens σ cs with | some ws => some (.clo f ws) | Option.none => Option.none
  | .yv => Option.none
  | .p v => some (.p v)
  | .nilS => some .nilS
  | .lit n sz cs => some (.lit n sz cs)
  | .undef => some .undef
  | .bad => some .bad
def rens (σ : Nat → Option Nat) : List AV → Option (List AV)
  | [] => some []
  | v :: vs => match ren σ v, rens σ vs with
    | some w, some ws => some (w :: ws)
    | _, _ => Option.none
end
def renB (σ : Nat → Option Nat) : Blk → Option Blk
  | .cells w cs => match rens σ cs with | some ws => some (.cells w ws) | Option.none => Option.none
  | .log _ _ _ _ => Option.none
  | b => some b
def renBs (σ : Nat → Option Nat) : List Blk → Option (List Blk)
  | [] => some []
  | b :: bs => match renB σ b, renBs σ bs with
    | some x, some xs => some (x :: xs)
    | _, _ => Option.none
def reachL (m : List Blk) : Nat → AV → List Nat
  | 0, _ => []
  | n + 1, v => match v with
    | .loc b _ => b :: (match m[b]? with
      | some (.cells _ cs) => cs.flatMap (reachL m n)
      | _ => [])
    | .msl b _ _ _ => b :: (match m[b]? with
      | some (.cells _ cs) => cs.flatMap (reachL m n)
      | _ => [])
    | .agg cs => cs.flatMap (reachL m n)
    | .clo _ cs => cs.flatMap (reachL m n)
    | .vap b _ _ => [b]
    | .vlc b _ _ => [b]
    | .app b _ _ _ => [b]
    | _ => []
def dedup : List Nat → List Nat
  | [] => []
  | b :: bs => b :: (dedup bs).filter (· != b)
def placeOf (bs : List Nat) (b : Nat) : Option Nat := match bs with
  | [] => Option.none
  | x :: r => if x = b then some 0 else (placeOf r b).map (· + 1)
def getAll (m : List Blk) : List Nat → Option (List Blk)
  | [] => some []
  | b :: bs => match m[b]?, getAll m bs with
    | some x, some xs => some (x :: xs)
    | _, _ => Option.none
def setAll (m : List Blk) : List Nat → List Blk → List Blk
  | b :: bs, x :: xs => setAll (m.set b x) bs xs
  | _, _ => m
def funOf : AV → Option (Nat × List AV)
  | .p (.fn f caps) => some (f, caps.map .p)
  | .clo f caps => some (f, caps)
  | _ => Option.none
def takeBack (d : Nat) (bs : List Nat) (m : List Blk) (v : AV) (ms : List Blk) : Option (AV × List Blk) :=
  if ms.length = bs.length then
    match ren (fun i => bs[i]?) v, renBs (fun i => bs[i]?) ms with
    | some v', some ns => some (v', setAll m bs ns)
    | _, _ => Option.none
  else if ms.length = bs.length + 1 then
    match m[d]? with
    | some .none => if bs.contains d then Option.none else
      match ren (fun i => (bs ++ [d])[i]?) v, renBs (fun i => (bs ++ [d])[i]?) ms with
      | some v', some ns => some (v', setAll m (bs ++ [d]) ns)
      | _, _ => Option.none
    | _ => Option.none
  else Option.none
def lendB (call : CallT) (d : Nat) (vs : List AV) (m : List Blk) : Option (AV × List Blk) :=
  match m[(0 : Nat)]? with
  | some (.log _ _ _ _) => Option.none
  | _ =>
  match vs with
  | fv :: vs => match funOf fv with
    | some (f, caps) =>
      let as := vs ++ caps
      let bs := dedup (as.flatMap (reachL m deep))
      match rens (placeOf bs) as, getAll m bs with
      | some as', some ms0 => match renBs (placeOf bs) ms0 with
        | some ms => match call.ln f as' ms with
          | some (v, ms') => takeBack d bs m v ms'
          | Option.none => Option.none
        | Option.none => Option.none
      | _, _ => Option.none
    | Option.none => Option.none
  | [] => Option.none
def storeA (sz b o : Nat) (v : AV) (m : List Blk) : Option (AV × List Blk) := match m[b]? with
  | some (.cells true cs) => if (cellsOf v).length = sz ∧ o + sz ≤ cs.length ∧ (cellsOf v).all isCell = true then some (.undef, m.set b (.cells true (over cs o (cellsOf v)))) else Option.none
  | _ => Option.none
def storeV (sz b n o : Nat) (v : AV) (m : List Blk) : Option (AV × List Blk) := match m[b]? with
  | some (.vec true n' s cs) => match ps? (cellsOf v) with
    | some ps => if n' = n ∧ ps.length = sz ∧ o + sz ≤ cs.length ∧ ps.all isCellP = true then some (.undef, m.set b (.vec true n s (over cs o ps))) else Option.none
    | Option.none => Option.none
  | _ => Option.none
def atB (d : Nat) : AV → Bool
  | .app b _ _ _ => b == d
  | _ => true
def runS (call : CallT) (k : KS) (vs : List AV) (m : List Blk) : Option (AV × List Blk) :=
  match k, vs with
  | .store sz, [.loc b o, v] => storeA sz b o v m
  | .storeB d sz, [.loc b o, v] => if b = d then storeA sz b o v m else Option.none
  | .store sz, [.vlc b n o, v] => storeV sz b n o v m
  | .storeB d sz, [.vlc b n o, v] => if b = d then storeV sz b n o v m else Option.none
  | .callB d, vs => lendB call d vs m
  | .appendV d sz, [x, y] => match asList y with
    | some (n, ys) => appendVA d sz x n ys m
    | Option.none => Option.none
  | .append d sz, [x, y] => match asList y with
    | some (n, ys) => appendA d sz x n ys m
    | Option.none => Option.none
  | .appendB d sz, [x, y] => if atB d x = true then (match asList y with
    | some (n, ys) => appendA d sz x n ys m
    | Option.none => Option.none) else Option.none
  | .callF d, vs =>
    let m := lock m (vs.flatMap (reachA m deep))
    match giveAs m deep vs with
    | some (.fn f caps :: ps) => match call f (ps ++ caps) with
      | some (.val v) => some (.p v, m)
      | some (.own n sz cs) => match m[d]? with
        | some .none => some (.app d n sz cs, m.set d (.buf n))
        | _ => some (.p (.list n cs), m)
      | Option.none => Option.none
    | _ => Option.none
  | .bslF n sz z pl, vs =>
    let m := lock m (vs.flatMap (reachA m deep))
    match giveAs m deep vs with
    | some ps => (layP sz (rep z n) pl ps).map fun cs => (.lit n sz cs, m)
    | Option.none => Option.none
  | .yld, .yv :: vs => match m[(0 : Nat)]? with
    | some (.log sh k n cs) => match pureAs vs with
      | some ps => if n ≤ k ∧ shapeOK sh ps = true then some (.p (.bool (n != k)), m.set 0 (.log sh k (n + 1) (cs ++ ps.flatMap pcells))) else Option.none
      | Option.none => Option.none
    | _ => Option.none
  | .told sh g, .yv :: vs => match m[(0 : Nat)]? with
    | some (.log sh' k 0 []) => match pureAs vs with
      | some ps => match g ps with
        | some (N, cs) => if sh' = sh ∧ N ≤ big ∧ cs.length = N * shSize sh then some (.undef, m.set 0 (.log sh k (min (k + 1) N) (cs.take (min (k + 1) N * shSize sh)))) else Option.none
        | Option.none => Option.none
      | Option.none => Option.none
    | _ => Option.none
  | _, _ => Option.none
def runK (k : K) (vs : List AV) (m : List Blk) : Option (AV × List Blk) :=
  match k with
  | .l k => (runL call k vs).map fun v => (v, m)
  | .ld av sz ag => (runDV sz ag vs av m).map fun v => (v, m)
  | .a d k => match m[d]? with
    | some .none => (runA call d k vs).map fun r => (r.1, m.set d r.2)
    | _ => Option.none
  | .s k => runS call k vs m
end
def Arg.get (t : List AV) : Arg → AV
  | .tmp i => t.getD i .bad
  | .k v => v
def grd (t : List AV) : Option (Nat × Bool) → Option Bool
  | Option.none => some true
  | some (d, want) => match t[d]? with
    | some (.p (.bool b)) => some (b == want)
    | some .undef => some false
    | _ => Option.none
def put (t : List AV) : Option Nat → AV → List AV
  | Option.none, _ => t
  | some d, v => t.set d v
def exOp (call : CallT) (o : AOp) (s : S) : Option S :=
  match grd s.t o.grd with
  | Option.none => Option.none
  | some false => some ⟨put s.t o.dst .undef, s.m⟩
  | some true => match runK call o.k (o.args.map (Arg.get s.t)) s.m with
    | some (v, m) => some ⟨put s.t o.dst v, m⟩
    | Option.none => Option.none
def exOps (call : CallT) : List AOp → S → Option S
  | [], s => some s
  | o :: l, s => match exOp call o s with
    | some s' => exOps call l s'
    | Option.none => Option.none
mutual
def scrub (bs : List Nat) : AV → AV
  | .loc b o => if bs.contains b then .bad else .loc b o
  | .msl b o n sz => if bs.contains b then .bad else .msl b o n sz
  | .app b n sz cs => if bs.contains b then .p (.list n cs) else .app b n sz cs
  | .vap b n sz => if bs.contains b then .bad else .vap b n sz
  | .vlc b n o => if bs.contains b then .bad else .vlc b n o
  | .agg cs => .agg (scrubs bs cs)
  | .clo f caps => .clo f (scrubs bs caps)
  | v => v
def scrubs (bs : List Nat) : List AV → List AV
  | [] => []
  | v :: r => scrub bs v :: scrubs bs r
end
def keepT (ks : List Nat) : Nat → List AV → List AV
  | _, [] => []
  | i, v :: t => (bif ks.contains i then v else .bad) :: keepT ks (i + 1) t
def kill (ks : List Nat) (t : List AV) : List AV := keepT ks 0 t
def freeB (bs : List Nat) (m : List Blk) : List Blk := bs.foldl (fun m i => m.set i .none) m
def scrubB (bs : List Nat) : Blk → Blk
  | .cells w cs => .cells w (scrubs bs cs)
  | b => b
def norm (ks bs : List Nat) (s : S) : S := ⟨scrubs bs (kill ks s.t), (freeB bs s.m).map (scrubB bs)⟩
def endA (m : List Blk) : Nat → AV → Option PV
  | 0, _ => Option.none
  | n + 1, v =>
    let all (l : List AV) : Option (List PV) := l.foldr (fun x r => match endA m n x, r with
      | some y, some ys => some (y :: ys)
      | _, _ => Option.none) (some [])
    match v with
    | .p v => some v
    | .nilS => some (.list 0 [])
    | .lit n _ cs => some (.list n cs)
    | .app _ n _ cs => some (.list n cs)
    | .agg cs => (all cs).map .agg
    | .clo f caps => (all caps).map (.fn f)
    | .loc b o => match m[b]? with
      | some (.cells _ cs) => (all cs).map fun ps => .imm ps o
      | _ => Option.none
    | .msl b o len sz => match m[b]? with
      | some (.cells _ cs) => match all cs with
        | some ps => (sub ps o (len * sz)).map (.list len)
        | Option.none => Option.none
      | _ => Option.none
    | .vap b n _ => match m[b]? with
      | some (.vec _ n' _ cs) => if n' = n then some (.list n cs) else Option.none
      | _ => Option.none
    | .vlc b n o => match m[b]? with
      | some (.vec _ n' _ cs) => if n' = n then some (.imm cs o) else Option.none
      | _ => Option.none
    | _ => Option.none
def resOf (s : S) : RSlot → Option AV
  | .tmp i => s.t[i]?
  | .cell i sz ag => match s.t[i]? with
    | some v => runD sz ag [v] (lookB [] s.m)
    | Option.none => Option.none
def resAll (s : S) : List RSlot → Option (List PV)
  | [] => some []
  | r :: rs => match resOf s r with
    | some v => match endA s.m 8 v, resAll s rs with
      | some x, some xs => some (x :: xs)
      | _, _ => Option.none
    | Option.none => Option.none
def result (s : S) (rs : List RSlot) : Option RV :=
  match s.m[(0 : Nat)]? with
  | some (.log _ _ n cs) => some (.val (.list n cs))
  | _ =>
  match rs with
  | [r] => match resOf s r with
    | some (.app b n sz cs) => match s.m[b]? with
      | some (.buf n') => some (if n' = n then .own n sz cs else .val (.list n cs))
      | _ => some (.val (.list n cs))
    | some (.vap b n sz) => match s.m[b]? with
      | some (.vec true n' _ cs) => if n' = n then some (.own n sz cs) else Option.none
      | some (.vec false n' _ cs) => if n' = n then some (.val (.list n cs)) else Option.none
      | _ => Option.none
    | some v => match endA s.m 8 v with
      | some x => some (.val x)
      | Option.none => Option.none
    | Option.none => Option.none
  | rs => match resAll s rs with
    | some xs => some (.val (.tup xs))
    | Option.none => Option.none
def start (af : AFn) (args : List PV) : S := match args with
  | .it sh (k + 1) :: r => ⟨.yv :: (r.map .p ++ List.replicate (af.nt - (r.length + 1)) .undef), .log sh k 0 [] :: List.replicate (af.nt - 1) .none⟩
  | args => ⟨args.map .p ++ List.replicate (af.nt - args.length) .undef, List.replicate af.nt .none⟩
def exN (call : CallT) : Nat → ACode → S → Option (Ext × S)
  | 0, _, _ => Option.none
  | n + 1, c, s =>
    match c with
    | .skip => some (.normal, s)
    | .ops l => match exOps call l s with
      | some s' => some (.normal, s')
      | Option.none => Option.none
    | .seq a b => match exN call n a s with
      | some (.normal, s') => exN call n b s'
      | r => r
    | .cond c a b => match c.get s.t with
      | .p (.bool true) => exN call n a s
      | .p (.bool false) => exN call n b s
      | _ => Option.none
    | .block id ks bs c => match exN call n c s with
      | some (.exit i, s') => if i = id then some (.normal, norm ks bs s') else some (.exit i, s')
      | some (.normal, s') => some (.normal, norm ks bs s')
      | r => r
    | .node _ ki bi ks bs c => match exN call n c (norm ki bi s) with
      | some (.normal, s') => some (.normal, norm ks bs s')
      | r => r
    | .loop ks bs c => match exN call n c (norm ks bs s) with
      | some (.normal, s') => exN call n (.loop ks bs c) s'
      | r => r
    | .rnd ks bs c => match exN call n c s with
      | some (e, s') => some (e, norm ks bs s')
      | Option.none => Option.none
    | .exit id => some (.exit id, s)
    | .ret ks bs => some (.ret, norm ks bs s)
def yOK (af : AFn) : List PV → Bool
  | .it _ _ :: _ => !af.rf && decide (0 < af.np) && af.res.isEmpty
  | _ => true
def Full (r : Nat → Option RV) (sh : List (Option Nat)) (N : Nat) (cs : List PV) : Prop :=
  N ≤ big ∧ cs.length = N * shSize sh ∧ ∀ k, k ≤ N → r (k + 1) = some (.val (.list (min (k + 1) N) (cs.take (min (k + 1) N * shSize sh))))
open Classical in
noncomputable def full (r : Nat → Option RV) (sh : List (Option Nat)) : Option RV :=
  if h : ∃ q : Nat × List PV, Full r sh q.1 q.2 then some (.val (.list h.choose.1 h.choose.2)) else Option.none
def okS (n : Nat) (l : List Nat) : Bool := l.all fun i => decide (i < n)
def bsOK (n : Nat) : ACode → Bool
  | .seq a b => bsOK n a && bsOK n b
  | .cond _ a b => bsOK n a && bsOK n b
  | .block _ _ bs c => okS n bs && bsOK n c
  | .node _ _ bi _ bs c => okS n bi && (okS n bs && bsOK n c)
  | .loop _ bs c => okS n bs && bsOK n c
  | .rnd _ bs c => okS n bs && bsOK n c
  | .ret _ bs => okS n bs
  | _ => true
def startB (af : AFn) (as : List AV) (ms : List Blk) : Option S :=
  match rens (fun b => some (b + af.nt)) as, renBs (fun b => some (b + af.nt)) ms with
  | some as', some ms' => some ⟨as' ++ List.replicate (af.nt - as.length) .undef, List.replicate af.nt .none ++ ms'⟩
  | _, _ => Option.none
def adoptOf (nt : Nat) (m : List Blk) (v : AV) : Option Nat := (reachL m deep v).find? (· < nt)
def backOf (nt k : Nat) (ad : Option Nat) (b : Nat) : Option Nat := if nt ≤ b ∧ b < nt + k then some (b - nt) else if ad = some b then some k else Option.none
def adB (m : List Blk) : Option Nat → List Blk
  | some a => [m.getD a .none]
  | Option.none => []
def resRaw (s : S) : List RSlot → Option (List AV)
  | [] => some []
  | r :: rs => match resOf s r, resRaw s rs with
    | some v, some vs => some (v :: vs)
    | _, _ => Option.none
def resultB (nt k : Nat) (s : S) (rs : List RSlot) : Option (AV × List Blk) :=
  if s.m.length = nt + k then
  match rs with
  | [r] => match resOf s r with
    | some v => match renBs (backOf nt k (adoptOf nt s.m v)) (s.m.drop nt ++ adB s.m (adoptOf nt s.m v)), ren (backOf nt k (adoptOf nt s.m v)) v with
      | some ms, some v' => some (v', ms)
      | _, _ => Option.none
    | Option.none => Option.none
  | rs => match (resRaw s rs).bind ps?, renBs (backOf nt k Option.none) (s.m.drop nt) with
    | some ps, some ms => some (.p (.tup ps), ms)
    | _, _ => Option.none
  else Option.none
noncomputable def callN (env : Nat → Option AFn) : Nat → CallT
  | 0 => noCall
  | n + 1 => ⟨fun f args => match args with
      | .it sh 0 :: caps => full (fun k => (callN env n).fn f (.it sh k :: caps)) sh
      | args => match env f with
        | some af => if args.length = af.np ∧ yOK af args = true then
            match exN (callN env n) n af.body (start af args) with
            | some (.normal, s) => result s af.res
            | some (.ret, s) => result s af.res
            | _ => Option.none
          else Option.none
        | Option.none => Option.none,
    fun f as ms => match env f with
      | some af => if as.length = af.np ∧ af.rf = false ∧ bsOK af.nt af.body = true then match startB af as ms with
          | some s0 => match exN (callN env n) n af.body s0 with
            | some (.normal, s) => resultB af.nt ms.length s af.res
            | some (.ret, s) => resultB af.nt ms.length s af.res
            | _ => Option.none
          | Option.none => Option.none
        else Option.none
      | Option.none => Option.none⟩
end Gv
