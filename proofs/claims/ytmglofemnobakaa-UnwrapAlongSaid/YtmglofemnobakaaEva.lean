/- Calls without arguments in memory, reckoned: the reckoning itself (plain definitions). A block of the call's own is known by its number among them; what is not known is 'unk'. -/
import Derived.Test.YtmglofemnobakaaSye
import Derived.OrdersIn
import Derived.RangeFuncIn
import Derived.RangeFuncRecord
import Derived.RangeFuncNested
import Derived.RangeFuncLeaves
import Derived.Laws.Cells
import Derived.Laws.CopyRow
import Derived.Below
namespace Go.Proofs.Ytmglofemnobakaa
open Go.RowKit
noncomputable section

/-- a value as it is known -/
inductive RV where
  | unk
  | pl (v : Value)
  | ptr (b off : Nat)
  | slc (b off len : Nat) (cap : Option Nat)
  | agg (l : List RV)
  | tup (l : List RV)
  | fn (f : Nat) (first captured : List RV)
  | yld (b : Nat)
  /-- a number, a truth that is known by name -/
  | si (k : IntKind) (e : SE)
  | sb (e : SE)
  /-- a slice of row id that was there before, elements of sz numbers; a pointer to the e-th number of it, of an element of n numbers -/
  | fsl (id sz : Nat) (off len : SE)
  | fpt (id n : Nat) (e : SE)
  /-- a slice of a row of the call's own, from its start; a pointer to the e-th number of it, of an element of n numbers, the row having lim -/
  | osl (b sz : Nat) (len : SE)
  | opt (b n : Nat) (lim e : SE)
  /-- a map of the call's own -/
  | mp (b : Nat)

mutual
/-- the value itself, if no address is in it -/
def RV.plain : RV → Option Value
  | .pl v => some v
  | .agg l => match RV.plainL l with | some vs => some (.agg vs.toArray) | none => none
  | .tup l => match RV.plainL l with | some vs => some (.tuple vs.toArray) | none => none
  | .fn k [] [] => some (.func (.func k) #[] #[])
  | _ => none
def RV.plainL : List RV → Option (List Value)
  | [] => some []
  | r :: rs => match RV.plain r with | some v => (match RV.plainL rs with | some vs => some (v :: vs) | none => none) | none => none
end
def RV.flat : RV → Bool
  | .pl _ => true
  | .si _ _ => true
  | .sb _ => true
  | .fsl _ _ _ _ => true
  | .fpt _ _ _ => true
  | _ => false
def RV.flat2 : RV → Bool
  | .pl _ => true
  | .si _ _ => true
  | .sb _ => true
  | .fsl _ _ _ _ => true
  | .fpt _ _ _ => true
  | .agg l => l.all RV.flat
  | .tup l => l.all RV.flat
  | _ => false

/-- its cells -/
def RV.cells : RV → Option (List RV)
  | .unk => none
  | .tup _ => none
  | .agg l => some l
  | .pl v => some (v.cells.toList.map .pl)
  | r => some [r]
def RV.one : RV → Bool
  | .unk => false
  | .agg _ => false
  | .tup _ => false
  | .pl v => v.oneCell'
  | _ => true

def forceNat {α : Type} (n : Nat) (k : Nat → α) : α :=
  match n with
  | 0 => k 0
  | .succ m => k (.succ m)
def forceInt {α : Type} (n : Int) (k : Int → α) : α :=
  match n with
  | .ofNat a => forceNat a fun a => k (.ofNat a)
  | .negSucc a => forceNat a fun a => k (.negSucc a)
def forceV {α : Type} (v : Value) (k : Value → α) : α :=
  match v with
  | .int i n => forceInt n fun n => k (.int i n)
  | .bool b => match b with | true => k (.bool true) | false => k (.bool false)
  | v => k v
def forceRV {α : Type} (r : RV) (k : RV → α) : α :=
  match r with
  | .pl v => forceV v fun v => k (.pl v)
  | .slc b off len c => forceNat off fun off => forceNat len fun len => k (.slc b off len c)
  | .ptr b off => forceNat off fun off => k (.ptr b off)
  | r => k r

/-- a block -/
inductive RO where
  | cells (l : List RV) (elem : TypeId) (grown : Bool)
  | loop (st : LoopState) (pend : Option Code) (tmps : List (List RV)) (sz : Nat) (params : Array Tmp) (assign body : Code) (dfs : Nat)
  | defd (taken : Bool)
  /-- n elements of sz numbers each -/
  | row (ar n : SE) (elem : TypeId) (sz : Nat)
  /-- a map: what it holds, how much was put in -/
  | mpo (es : List MapEntry) (clock : Nat)
def memN (x : Nat) : List Nat → Bool
  | [] => false
  | y :: ys => match Nat.beq x y with | true => true | false => memN x ys
/-- the blocks (the last one first; those that are not there: none), how many, and which of the first ones were written to -/
structure RH where
  bl : List (Option RO)
  n : Nat
  base : Nat
  ch : List Nat
def RH.at? (h : RH) (b : Nat) : Option RO :=
  match Nat.blt b h.n with
  | true => (h.bl[h.n - 1 - b]?).join
  | false => none
def RH.push (h : RH) (o : RO) : RH := { h with bl := some o :: h.bl, n := .succ h.n }
def mark (base b : Nat) (ch : List Nat) : List Nat :=
  match Nat.blt b base with
  | true => match memN b ch with | true => ch | false => b :: ch
  | false => ch
def RH.put (h : RH) (b : Nat) (o : Option RO) : RH := { bl := h.bl.set (h.n - 1 - b) o, n := h.n, base := h.base, ch := mark h.base b h.ch }
def forceH {α : Type} (h : RH) (k : RH → α) : α :=
  match h with
  | ⟨bl, n, base, ch⟩ => forceNat n fun n => forceNat base fun base => k ⟨bl, n, base, ch⟩

def ru : RV := .pl (.tuple #[])
/-- slots, eight to a row -/
abbrev RT := List (List RV)
def rowGet (l : List RV) : Nat → RV :=
  @List.rec RV (fun _ => Nat → RV) (fun _ => ru) (fun r _ ih i => @Nat.rec (fun _ => RV) r (fun i _ => ih i) i) l
def rtGet (l : RT) : Nat → Nat → RV :=
  @List.rec (List RV) (fun _ => Nat → Nat → RV) (fun _ _ => ru) (fun r _ ih i j => @Nat.rec (fun _ => RV) (rowGet r j) (fun i _ => ih i j) i) l
def rowSet (l : List RV) : Nat → RV → List RV :=
  @List.rec RV (fun _ => Nat → RV → List RV) (fun _ _ => []) (fun r rs ih i v => @Nat.rec (fun _ => List RV) (v :: rs) (fun i _ => r :: ih i v) i) l
def rtSet (l : RT) : Nat → Nat → RV → RT :=
  @List.rec (List RV) (fun _ => Nat → Nat → RV → RT) (fun _ _ _ => []) (fun r rs ih i j v => @Nat.rec (fun _ => RT) (rowSet r j v :: rs) (fun i _ => r :: ih i j v) i) l
structure RA where
  tmps : RT
  sz : Nat
  dfs : List Nat
def RA.get (a : RA) (t : Nat) : RV := rtGet a.tmps (Nat.div t 8) (Nat.mod t 8)
def RA.set (a : RA) (d : Nat) (r : RV) : RA :=
  match a with
  | ⟨tmps, sz, dfs⟩ =>
    match Nat.blt d sz with
    | true => ⟨rtSet tmps (Nat.div d 8) (Nat.mod d 8) r, sz, dfs⟩
    | false => ⟨tmps, sz, dfs⟩
def RA.put (a : RA) (dst : Option Tmp) (r : RV) : RA :=
  match dst with
  | some d => a.set d r
  | none => a
def RA.eval (a : RA) : Operand → RV
  | .tmp t => a.get t
  | .const v => .pl v
  | .global _ => .unk
  | .func f => .fn f [] []
def setFrom : Nat → List RV → RA → RA
  | _, [], a => a
  | i, r :: rs, a => setFrom (.succ i) rs (a.set i r)
def row8 : List RV := [ru, ru, ru, ru, ru, ru, ru, ru]
def startA (n : Nat) (args : List RV) : RA := setFrom 0 args { tmps := List.replicate (.succ (Nat.div n 8)) row8, sz := n, dfs := [] }

/-- what a step of the model gives that asks no world -/
def pureOf {α : Type} (P : Program) : Sem α → Option α
  | .pure a => some a
  | .program k => pureOf P (k P)
  | .mark _ k => pureOf P k
  | _ => none

def aggD (P : Program) (t : TypeId) : Option Bool :=
  match P.underlying t with
  | some (.struct _) => some true
  | some (.array _ _) => some true
  | some _ => some false
  | none => none
def sizeD (P : Program) (t : TypeId) : Option Nat :=
  match P.info? t with
  | some i => some i.size
  | none => none
def zeroD (P : Program) (t : TypeId) : Option Value :=
  match P.info? t with
  | some i => i.zero
  | none => none
def elemD (P : Program) (t : TypeId) : Option TypeId :=
  match P.underlying t with
  | some (.slice e) => some e
  | _ => none
def fieldD (P : Program) (t : TypeId) (f : Nat) : Option Field :=
  match P.underlying t with
  | some (.struct fs) => fs[f]?
  | _ => none
def arrayD (P : Program) (t : TypeId) : Option (Nat × TypeId) :=
  match P.underlying t with
  | some (.array n e) => some (n, e)
  | _ => none

def rcell (h : RH) (b : Nat) : Option (List RV) :=
  match h.at? b with
  | some (.cells l _ _) => some l
  | _ => none
def takeN (off n : Nat) (l : List RV) : Option (List RV) :=
  match Nat.ble (off + n) l.length with
  | true => some ((l.drop off).take n)
  | false => none
def rcells (h : RH) (b off n : Nat) : Option (List RV) := (rcell h b).bind (takeN off n)
def layN (off : Nat) (cs l : List RV) : Option (List RV) :=
  match Nat.ble (off + cs.length) l.length with
  | true => some (l.take off ++ cs ++ l.drop (off + cs.length))
  | false => none
def rstore (h : RH) (b off : Nat) (cs : List RV) : Option RH :=
  match cs.all RV.one with
  | true =>
    match h.at? b with
    | some (.cells l t g) => (layN off cs l).map fun l' => h.put b (some (.cells l' t g))
    | _ => none
  | false => none
/-- a part of an aggregate -/
def partD (P : Program) (t : TypeId) (l : List RV) (off : Nat) : Option RV :=
  match aggD P t with
  | some true => (sizeD P t).bind fun n => (takeN off n l).map .agg
  | some false => l[off]?
  | none => none
def loadD (P : Program) (t : TypeId) (h : RH) (b off : Nat) : Option RV := (rcell h b).bind fun l => partD P t l off
def intD : RV → Option Int
  | .pl (.int _ n) => some n
  | _ => none
def natD : RV → Option Nat
  | .pl (.int _ (.ofNat n)) => some n
  | _ => none
/-- parts laid into cells -/
def fillD (place : Nat → Option (Nat × Nat)) : List RV → List (Nat × RV) → Option (List RV)
  | l, [] => some l
  | l, (i, r) :: rest =>
    match place i with
    | some (off, n) =>
      match r.cells with
      | some cs => match Nat.beq cs.length n with | true => (layN off cs l).bind fun l' => fillD place l' rest | false => none
      | none => none
    | none => none
def structPlace (P : Program) (t : TypeId) (i : Nat) : Option (Nat × Nat) :=
  match fieldD P t i with
  | some f => (sizeD P f.type).map fun n => (f.offset, n)
  | none => none
def rowPlace (size i : Nat) : Option (Nat × Nat) := some (i * size, size)
def zerosD (z : List RV) : Nat → List RV
  | 0 => []
  | .succ n => z ++ zerosD z n
def zeroCells (z : Value) : List RV := z.cells.toList.map .pl
def sI : RV → Option (IntKind × SE)
  | .pl (.int k n) => some (k, .lit n)
  | .si k e => some (k, e)
  | _ => none
structure Rec where
  code : Option Nat → Code → RA → RH → Option (Exit × RA × RH)
  call : Nat → List RV → RH → Option (RV × RH)
  dec : SE → Option Bool

abbrev Ans := Option (RV × RH)
def ans (h : RH) (r : Option RV) : Ans := r.map fun r => (r, h)

/-- elements of this type, so many, may be made by append -/
def growOk (P : Program) (elem : TypeId) (n : Nat) : Bool :=
  match P.info? elem with
  | some i =>
    match i.zero with
    | some z => Nat.beq z.cells.size i.size && Nat.blt 0 i.size && Nat.ble n 100000 && Nat.ble i.bytes 100000
    | none => false
  | none => false
/-- append of the cells cs (n elements) -/
def appendNew (P : Program) (h : RH) (elem : TypeId) (len : Nat) (cs : List RV) : Ans :=
  match growOk P elem len with
  | true => some (.slc h.n 0 len none, h.push (.cells cs elem true))
  | false => none
def appendRoom (h : RH) (elem : TypeId) (size : Nat) (b len c : Nat) (cs : List RV) (n : Nat) : Ans :=
  match cs.all RV.one with
  | true =>
    match h.at? b with
    | some (.cells l t g) =>
      match Nat.beq t elem with
      | true => (layN (len * size) cs l).map fun l' => (.slc b 0 (len + n) (some c), h.put b (some (.cells l' t g)))
      | false => none
    | _ => none
  | false => none
def appendIn (P : Program) (h : RH) (elem : TypeId) (size : Nat) (b off len c : Nat) (cs : List RV) (n : Nat) : Ans :=
  match Nat.ble (len + n) c with
  | true => match off with | 0 => appendRoom h elem size b len c cs n | .succ _ => none
  | false => (rcells h b off (len * size)).bind fun old => appendNew P h elem (len + n) (old ++ cs)
def appendOn (P : Program) (h : RH) (elem : TypeId) (size : Nat) (b len : Nat) (cs : List RV) (n : Nat) : Ans :=
  match cs.all RV.one with
  | true =>
    match h.at? b with
    | some (.cells l t true) =>
      match Nat.beq t elem with
      | true => (takeN 0 (len * size) l).bind fun old => appendNew P (h.put b none) elem (len + n) (old ++ cs)
      | false => none
    | _ => none
  | false => none
def appendD (P : Program) (h : RH) (elem : TypeId) (size : Nat) (s : RV) (cs : List RV) (n : Nat) : Ans :=
  match s with
  | .pl (.slice none 0 0) => match n with | 0 => some (s, h) | .succ _ => appendNew P h elem n cs
  | .slc b off len (some c) => appendIn P h elem size b off len c cs n
  | .slc b 0 len none => appendOn P h elem size b len cs n
  | _ => none
def appendNil (s : RV) (h : RH) : Ans :=
  match s with
  | .pl (.slice none 0 0) => some (s, h)
  | .slc _ _ len (some c) => match Nat.ble len c with | true => some (s, h) | false => none
  | .slc _ _ _ none => some (s, h)
  | _ => none

def setParams : List Tmp → List RV → RA → RA
  | p :: ps, r :: rs, a => setParams ps rs (a.set p r)
  | _, _, a => a

/-- a round of a range over a function -/
def roundEnd (b : Nat) (e : Exit) (h : RH) : Ans :=
  match h.at? b with
  | some (.loop _ _ tmps sz ps assign body dfs) =>
    match e with
    | .normal => some (.pl (.bool true), h.put b (some (.loop .ready none tmps sz ps assign body dfs)))
    | .ret => some (.pl (.bool false), h.put b (some (.loop .done (some .ret) tmps sz ps assign body dfs)))
    | .exit id => some (.pl (.bool false), h.put b (some (.loop .done (some (.exit id)) tmps sz ps assign body dfs)))
    | _ => none
  | _ => none
def roundBody (R : Rec) (b : Nat) (bd : Code) (a : RA) (h : RH) : Ans :=
  match h.at? b with
  | some (.loop .ready pe tmps sz ps assign body dfs) =>
    match R.code (some b) bd a (h.put b (some (.loop .busy pe tmps sz ps assign body dfs))) with
    | some (e, _, h2) => roundEnd b e h2
    | none => none
  | _ => none
def roundD (R : Rec) (b : Nat) (args : List RV) (h : RH) : Ans :=
  match h.at? b with
  | some (.loop .ready _ tmps sz ps assign body _) =>
    match Nat.beq args.length ps.size with
    | true =>
      match R.code (some b) assign (setParams ps.toList args { tmps := tmps, sz := sz, dfs := [] }) h with
      | some (.normal, a1, h1) => roundBody R b body a1 h1
      | _ => none
    | false => none
  | _ => none

/-- the operands as plain values; all of them must be -/
def plainAt (ρ : Operand → RV) (x : Operand) : Value := ((ρ x).plain).getD undef
def plainAll (ρ : Operand → RV) : List Operand → Bool
  | [] => true
  | x :: xs => match (ρ x).plain with | some _ => plainAll ρ xs | none => false
def plainOp (P : Program) (o : Oper) (ρ : Operand → RV) (h : RH) : Ans :=
  match plainAll ρ o.op.operands.toList with
  | true =>
    match pureOf P (execOp (plainAt ρ) o) with
    | some (.value v) => some (.pl v, h)
    | _ => none
  | false => none

def markAll (base : Nat) : List Nat → List Nat → List Nat
  | [], ch => ch
  | b :: bs, ch => mark base b (markAll base bs ch)
/-- a call: what it made is forgotten if it wrote to nothing that was there, and returns nothing that it made -/
def tidy (h : RH) (r : RV) (h' : RH) : Ans :=
  match h'.ch with
  | [] => match r.flat2 with | true => some (r, h) | false => some (r, { bl := h'.bl, n := h'.n, base := h.base, ch := h.ch })
  | _ => some (r, { bl := h'.bl, n := h'.n, base := h.base, ch := markAll h.base h'.ch h.ch })
def callD (R : Rec) (k : Nat) (args : List RV) (h : RH) : Ans :=
  match R.call k args { bl := h.bl, n := h.n, base := h.n, ch := [] } with
  | some (r, h') => forceH h' fun h' => tidy h r h'
  | none => none
def enters (P : Program) (k : Nat) : Option Bool :=
  match P.funcs[k]? with
  | some fn => if fn.name == "runtime.NumGoroutine" then none else some fn.body.isSome
  | none => none

def intTy (P : Program) (t : TypeId) : Bool :=
  match P.underlying t with
  | some (.int _) => true
  | _ => false
/-- a row that was there before, copied behind an empty slice -/
def appendF (P : Program) (D : SE → Option Bool) (elem : TypeId) (size id sz : Nat) (off len : SE) (s : RV) (h : RH) : Ans :=
  match s with
  | .slc _ 0 0 (some 0) =>
    match Nat.beq size sz && growOk P elem 1 && decide (off = .lit 0) with
    | true =>
      match askD D (mkLe len (.lit 0)) with
      | some true => some (s, h)
      | some false => match askD D (mkLe len (.lit 100000)) with | some true => some (.osl h.n sz len, h.push (.row (.avar id) len elem sz)) | _ => none
      | none => none
    | false => none
  | _ => none
/-- one number more -/
def appendO (P : Program) (D : SE → Option Bool) (elem : TypeId) (size b sz : Nat) (len : SE) (cs : List RV) (n : Nat) (h : RH) : Ans :=
  match cs with
  | [r] =>
    match sI r with
    | some (.i64, x) =>
      match h.at? b with
      | some (.row ar rn el sz') =>
        match Nat.beq n 1 && Nat.beq size 1 && Nat.beq sz 1 && Nat.beq sz' 1 && Nat.beq el elem && growOk P elem 1 && decide (rn = len) with
        | true => match askD D (mkLe len (.lit 99999)) with | some true => some (.osl h.n 1 (mkAdd len (.lit 1)), (h.put b none).push (.row (.upd ar len x) (mkAdd len (.lit 1)) elem 1)) | _ => none
        | false => none
      | _ => none
    | _ => none
  | _ => none
def appendSame (P : Program) (D : SE → Option Bool) (elem : TypeId) (size : Nat) (s x : RV) (h : RH) : Ans :=
  match x with
  | .pl (.slice none 0 0) => appendNil s h
  | .slc b off n _ => match s with | .osl b1 sz len => (rcells h b off (n * size)).bind fun cs => appendO P D elem size b1 sz len cs n h | s => (rcells h b off (n * size)).bind fun cs => appendD P h elem size s cs n
  | .fsl id sz off len => appendF P D elem size id sz off len s h
  | _ => none
def appendMake (P : Program) (elem u : TypeId) (s x : RV) (h : RH) : Ans :=
  match intTy P u with
  | true =>
    match s with
    | .pl (.slice none 0 0) =>
      match natD x with
      | some (.succ n) => match zeroD P elem with | some z => appendNew P h elem (.succ n) (zerosD (zeroCells z) (.succ n)) | none => none
      | _ => none
    | _ => none
  | false => none
def builtinAppend (P : Program) (D : SE → Option Bool) (t u : TypeId) (s x : RV) (h : RH) : Ans :=
  match elemD P t with
  | some elem =>
    match Nat.beq t u with
    | true => match sizeD P elem with | some size => appendSame P D elem size s x h | none => none
    | false => appendMake P elem u s x h
  | none => none
def builtinLen (P : Program) (t : TypeId) (len : Nat) (h : RH) : Ans :=
  match elemD P t with
  | some _ => some (.pl (.int .i64 (.ofNat len)), h)
  | none => none
def builtinCopy (P : Program) (t : TypeId) (b off len : Nat) (x : RV) (h : RH) : Ans :=
  match elemD P t with
  | some elem =>
    match sizeD P elem with
    | some size =>
      match x with
      | .slc b2 off2 len2 _ =>
        (rcells h b2 off2 (Nat.min len2 len * size)).bind fun cs => (rstore h b off cs).map fun h' => (.pl (.int .i64 (.ofNat (Nat.min len2 len))), h')
      | .pl (.slice none 0 0) => some (.pl (.int .i64 0), h)
      | _ => none
    | none => none
  | none => none
def mkSI (k : IntKind) : SE → RV
  | .lit n => .pl (.int k n)
  | e => .si k e
def mkSB : SE → RV
  | .tt b => .pl (.bool b)
  | e => .sb e
/-- a number that fits -/
def fit (D : SE → Option Bool) (k : IntKind) (e : SE) : Option RV :=
  match e with
  | .lit n => some (.pl (.int k (k.wrap n)))
  | e => match askD D (.inr k e) with | some true => some (.si k e) | _ => none
/-- the least, the greatest of two -/
def evMM (D : SE → Option Bool) (mx : Bool) (x y : RV) (h : RH) : Ans :=
  match sI x with
  | some (k, a) =>
    match sI y with
    | some (k', b) =>
      match decide (k = k') with
      | true => match askD D (mkNot (match mx with | true => mkLe b a | false => mkLe a b)) with | some true => some (y, h) | some false => some (x, h) | none => none
      | false => none
    | none => none
  | none => none
def builtinF (P : Program) (t : TypeId) (len : SE) (h : RH) : Ans :=
  match elemD P t with
  | some _ => some (mkSI .i64 len, h)
  | none => none
def builtinD (P : Program) (D : SE → Option Bool) (o : Oper) (ρ : Operand → RV) (b : Builtin) (args : List RV) (ts : List TypeId) (h : RH) : Ans :=
  match b with
  | .min => match args with | [.si k e, y] => evMM D false (.si k e) y h | [x, .si k e] => evMM D false x (.si k e) h | _ => plainOp P o ρ h
  | .max => match args with | [.si k e, y] => evMM D true (.si k e) y h | [x, .si k e] => evMM D true x (.si k e) h | _ => plainOp P o ρ h
  | .append => match args, ts with | [s, x], [t, u] => builtinAppend P D t u s x h | _, _ => none
  | .len => match args, ts with | [.slc _ _ len _], [t] => builtinLen P t len h | [.fsl _ _ _ len], [t] => builtinF P t len h | [.osl _ _ len], [t] => builtinF P t len h | _, _ => plainOp P o ρ h
  | .copy => match args, ts with | [.slc b off len _, x], t :: _ => builtinCopy P t b off len x h | _, _ => none
  | _ => plainOp P o ρ h

def boundD (n hi : Nat) : Option RV → Option Nat
  | none => some n
  | some r => match natD r with | some i => (match Nat.ble i hi with | true => some i | false => none) | none => none

def evPick (D : SE → Option Bool) (c a b : RV) (h : RH) : Ans :=
  match c with
  | .pl (.bool true) => some (a, h)
  | .pl (.bool false) => some (b, h)
  | .sb e => match askD D e with | some true => some (a, h) | some false => some (b, h) | none => none
  | _ => none
def evAlloc (P : Program) (t : TypeId) (h : RH) : Ans :=
  match zeroD P t with
  | some z => some (.ptr h.n 0, h.push (.cells (zeroCells z) t false))
  | none => none
def evBox (t : TypeId) (r : RV) (h : RH) : Ans :=
  match r.cells with
  | some cs => some (.ptr h.n 0, h.push (.cells cs t false))
  | none => none
def partsD (ρ : Operand → RV) : List (Nat × Operand) → List (Nat × RV)
  | [] => []
  | (i, x) :: rest => (i, ρ x) :: partsD ρ rest
def fieldsOk (P : Program) (t : TypeId) : Bool :=
  match P.underlying t with
  | some (.struct fs) => fs.toList.all fun f => (sizeD P f.type).isSome
  | _ => false
def evBuild (P : Program) (t : TypeId) (ps : List (Nat × RV)) (h : RH) : Ans :=
  match zeroD P t with
  | some z =>
    match aggD P t with
    | some true =>
      match arrayD P t with
      | some (_, elem) => match sizeD P elem with | some size => (fillD (rowPlace size) (zeroCells z) ps).map fun l => (.agg l, h) | none => none
      | none => match fieldsOk P t with | true => (fillD (structPlace P t) (zeroCells z) ps).map fun l => (.agg l, h) | false => none
    | _ => none
  | none => none
def evBuildSlice (P : Program) (t : TypeId) (len : Nat) (ps : List (Nat × RV)) (h : RH) : Ans :=
  match elemD P t with
  | some elem =>
    match sizeD P elem, zeroD P elem with
    | some size, some z =>
      match Nat.beq z.cells.size size && Nat.blt 0 size && Nat.ble (len * size) 10000 with
      | true => (fillD (rowPlace size) (zerosD (zeroCells z) len) ps).map fun l => (.slc h.n 0 len (some len), h.push (.cells l elem false))
      | false => none
    | _, _ => none
  | none => none
def selF (ar : SE) (e : SE) (j : Nat) : RV := .si .i64 (.sel ar (mkAdd e (.lit (.ofNat j))))
def selL (ar : SE) (e : SE) : Nat → Nat → List RV
  | _, 0 => []
  | j, .succ n => selF ar e j :: selL ar e (.succ j) n
def loadF (P : Program) (t : TypeId) (ar : SE) (n : Nat) (e : SE) : Option RV :=
  match aggD P t with
  | some true => (sizeD P t).bind fun s => match Nat.ble s n with | true => some (.agg (selL ar e 0 s)) | false => none
  | some false => match Nat.ble 1 n with | true => some (selF ar e 0) | false => none
  | none => none
def loadO (P : Program) (t : TypeId) (h : RH) (b n : Nat) (lim e : SE) : Option RV :=
  match h.at? b with
  | some (.row ar rn _ sz) => match decide (mkMul rn (.lit (.ofNat sz)) = lim) with | true => loadF P t ar n e | false => none
  | _ => none
def evLoad (P : Program) (t : TypeId) (r : RV) (h : RH) : Ans :=
  match r with
  | .ptr b off => (loadD P t h b off).map fun r => (r, h)
  | .fpt id n e => (loadF P t (.avar id) n e).map fun r => (r, h)
  | .opt b n lim e => (loadO P t h b n lim e).map fun r => (r, h)
  | _ => none
/-- a number stored into a row -/
def storeO (h : RH) (b : Nat) (lim e : SE) (r : RV) : Option RH :=
  match h.at? b with
  | some (.row ar rn el sz) =>
    match decide (mkMul rn (.lit (.ofNat sz)) = lim) with
    | true =>
      match sI r with
      | some (.i64, x) => some (h.put b (some (.row (.upd ar e x) rn el sz)))
      | _ => none
    | false => none
  | _ => none
def evStore (P : Program) (t : TypeId) (p r : RV) (h : RH) : Ans :=
  match p with
  | .ptr b off =>
    match r.cells with
    | some cs =>
      match sizeD P t with
      | some n => match Nat.beq n cs.length with | true => (rstore h b off cs).map fun h' => (ru, h') | false => none
      | none => none
    | none => none
  | .opt b 1 lim e => match sizeD P t with | some 1 => (storeO h b lim e r).map fun h' => (ru, h') | _ => none
  | _ => none
def evNil (r : RV) (h : RH) : Ans :=
  match r with
  | .ptr _ _ => some (r, h)
  | .fn _ _ _ => some (r, h)
  | .yld _ => some (r, h)
  | .fpt _ _ _ => some (r, h)
  | .opt _ _ _ _ => some (r, h)
  | _ => none
def makeOk (P : Program) (elem : TypeId) (z : Value) (l c : Nat) : Bool :=
  match P.info? elem with
  | some i => Nat.ble l c && Nat.ble c 100000 && Nat.ble i.bytes 100000 && Nat.beq z.cells.size i.size && Nat.blt 0 i.size
  | none => false
def evMake (P : Program) (t : TypeId) (l c : RV) (h : RH) : Ans :=
  match elemD P t with
  | some elem =>
    match natD l, natD c, zeroD P elem with
    | some l, some c, some z =>
      match makeOk P elem z l c with
      | true => some (.slc h.n 0 l (some c), h.push (.cells (zerosD (zeroCells z) c) elem false))
      | false => none
    | _, _, _ => none
  | none => none
/-- zeros, so many as a number that is known by name -/
def zeroInts : List RV → Bool
  | [] => true
  | .pl (.int .i64 (.ofNat 0)) :: l => zeroInts l
  | _ => false
def makeNOk (P : Program) (elem : TypeId) (z : Value) : Bool :=
  match P.info? elem with
  | some i => Nat.ble i.bytes 100000 && Nat.beq z.cells.size i.size && Nat.blt 0 i.size && zeroInts (zeroCells z)
  | none => false
def evMakeN (P : Program) (D : SE → Option Bool) (t : TypeId) (l c : RV) (h : RH) : Ans :=
  match l with
  | .si _ e =>
    match c with
    | .si _ e' =>
      match elemD P t with
      | some elem =>
        match zeroD P elem, sizeD P elem with
        | some z, some sz =>
          match makeNOk P elem z && decide (e = e') with
          | true =>
            match askD D (mkLe (.lit 0) e) with
            | some true => match askD D (mkLe e (.lit 100000)) with | some true => some (.osl h.n sz e, h.push (.row .azero e elem sz)) | _ => none
            | _ => none
          | false => none
        | _, _ => none
      | none => none
    | _ => none
  | _ => none
def sliceIn (b off size c l h1 : Nat) : RV :=
  match Nat.beq c l with
  | true => .slc b off (h1 - l) (some (c - l))
  | false => .slc b (off + l * size) (h1 - l) (some (c - l))
def ptrArr (P : Program) (t : TypeId) : Option (Nat × TypeId) :=
  match P.underlying t with
  | some (.pointer arr) => arrayD P arr
  | some (.array n e) => some (n, e)
  | _ => none
def evSlice (P : Program) (o : Oper) (ρ : Operand → RV) (t : TypeId) (x : RV) (lo hi : Option RV) (mx : Option Operand) (h : RH) : Ans :=
  match x with
  | .slc b off len (some c) =>
    match mx with
    | none =>
      match elemD P t with
      | some elem => (sizeD P elem).bind fun size => (boundD len c hi).bind fun h1 => (boundD 0 h1 lo).map fun l1 => (sliceIn b off size c l1 h1, h)
      | none => none
    | some _ => none
  | .slc b off len none =>
    match mx, lo with
    | none, none => match elemD P t with | some elem => (sizeD P elem).bind fun _ => (boundD len len hi).map fun h1 => (.slc b off h1 none, h) | none => none
    | _, _ => none
  | .ptr b off =>
    match mx with
    | none =>
      match ptrArr P t with
      | some (c, elem) => (sizeD P elem).bind fun size => (boundD c c hi).bind fun h1 => (boundD 0 h1 lo).map fun l1 => (sliceIn b off size c l1 h1, h)
      | none => none
    | some _ => none
  | _ => plainOp P o ρ h
def evFieldAddr (P : Program) (t : TypeId) (r : RV) (f : Nat) (h : RH) : Ans :=
  match r with
  | .ptr b off =>
    match fieldD P t f with
    | some fd => match sizeD P fd.type with | some (.succ _) => some (.ptr b (off + fd.offset), h) | _ => none
    | none => none
  | .fpt id n e =>
    match fieldD P t f with
    | some fd => match sizeD P fd.type with | some (.succ s) => (match Nat.ble (fd.offset + .succ s) n with | true => some (.fpt id (.succ s) (mkAdd e (.lit (.ofNat fd.offset))), h) | false => none) | _ => none
    | none => none
  | .opt b n lim e =>
    match fieldD P t f with
    | some fd => match sizeD P fd.type with | some (.succ s) => (match Nat.ble (fd.offset + .succ s) n with | true => some (.opt b (.succ s) lim (mkAdd e (.lit (.ofNat fd.offset))), h) | false => none) | _ => none
    | none => none
  | _ => none
def evField (P : Program) (o : Oper) (ρ : Operand → RV) (t : TypeId) (r : RV) (f : Nat) (h : RH) : Ans :=
  match r with
  | .agg l =>
    match fieldD P t f with
    | some fd => (partD P fd.type l fd.offset).map fun r => (r, h)
    | none => none
  | _ => plainOp P o ρ h
def evIndexF (P : Program) (D : SE → Option Bool) (t : TypeId) (id sz : Nat) (off len : SE) (i : RV) (h : RH) : Ans :=
  match sI i with
  | some (_, e) =>
    match elemD P t with
    | some elem =>
      match sizeD P elem with
      | some size =>
        match Nat.beq size sz with
        | true =>
          match askD D (mkLe (.lit 0) e) with
          | some true => match askD D (mkNot (mkLe len e)) with | some true => some (.fpt id sz (mkMul (mkAdd off e) (.lit (.ofNat sz))), h) | _ => none
          | _ => none
        | false => none
      | none => none
    | none => none
  | none => none
def evIndexO (P : Program) (D : SE → Option Bool) (t : TypeId) (b sz : Nat) (len : SE) (i : RV) (h : RH) : Ans :=
  match sI i with
  | some (_, e) =>
    match elemD P t with
    | some elem =>
      match sizeD P elem with
      | some size =>
        match Nat.beq size sz with
        | true =>
          match askD D (mkLe (.lit 0) e) with
          | some true => match askD D (mkNot (mkLe len e)) with | some true => some (.opt b sz (mkMul len (.lit (.ofNat sz))) (mkMul e (.lit (.ofNat sz))), h) | _ => none
          | _ => none
        | false => none
      | none => none
    | none => none
  | none => none
def evIndexAddr (P : Program) (t : TypeId) (x i : RV) (h : RH) : Ans :=
  match natD i with
  | some i =>
    match x with
    | .slc b off len _ =>
      match elemD P t with
      | some elem => match Nat.blt i len with | true => (sizeD P elem).map fun size => (.ptr b (off + i * size), h) | false => none
      | none => none
    | .ptr b off =>
      match arrayD P t with
      | some (len, elem) => match Nat.blt i len with | true => (sizeD P elem).map fun size => (.ptr b (off + i * size), h) | false => none
      | none => none
    | _ => none
  | none => none
def evIndex (P : Program) (o : Oper) (ρ : Operand → RV) (t : TypeId) (x i : RV) (h : RH) : Ans :=
  match x with
  | .agg l =>
    match natD i with
    | some i =>
      match arrayD P t with
      | some (len, elem) => match Nat.blt i len with | true => (sizeD P elem).bind fun size => (partD P elem l (i * size)).map fun r => (r, h) | false => none
      | none => none
    | none => none
  | _ => plainOp P o ρ h
def evExtract (P : Program) (o : Oper) (ρ : Operand → RV) (x : RV) (i : Nat) (h : RH) : Ans :=
  match x with
  | .tup l => (l[i]?).map fun r => (r, h)
  | _ => plainOp P o ρ h
/-! maps whose keys and values are known -/
def mapGet (P : Program) (t : TypeId) (es : List MapEntry) (k : Value) : Option (Value × Bool) :=
  match P.underlying t with
  | some (.map key elem) =>
    match pureOf P (Instr.checkKey es.isEmpty 10000 key k) with
    | some _ =>
      match pureOf P (Instr.findKey key k es) with
      | some (some p) => some (p.2, true)
      | some none => match zeroD P elem with | some z => some (z, false) | none => none
      | none => none
    | none => none
  | _ => none
def mapPut (P : Program) (t : TypeId) (es : List MapEntry) (clock : Nat) (k v : Value) : Option (List MapEntry × Nat) :=
  match P.underlying t with
  | some (.map key _) =>
    match pureOf P (Instr.checkKey false 10000 key k) with
    | some _ =>
      match pureOf P (Instr.findKey key k es) with
      | some (some p) =>
        match es[p.1]? with
        | some e => match Instr.sameBits 10000 e.key k with | true => some (es.set p.1 { e with key := k, val := v }, clock) | false => none
        | none => none
      | some none => some (es ++ [{ key := k, val := v, born := clock }], .succ clock)
      | none => none
    | none => none
  | _ => none
def evMakeMap (r : Option Operand) (h : RH) : Ans :=
  match r with
  | none => some (.mp h.n, h.push (.mpo [] 0))
  | some _ => none
def evLookup (P : Program) (t : TypeId) (x i : RV) (ok : Bool) (h : RH) : Ans :=
  match x with
  | .mp b =>
    match h.at? b with
    | some (.mpo es _) =>
      match i.plain with
      | some k => match mapGet P t es k with | some (v, f) => (match ok with | true => some (.tup [.pl v, .pl (.bool f)], h) | false => some (.pl v, h)) | none => none
      | none => none
    | _ => none
  | _ => none
def evMapPut (P : Program) (t : TypeId) (x i v : RV) (h : RH) : Ans :=
  match x with
  | .mp b =>
    match h.at? b with
    | some (.mpo es c) =>
      match i.plain with
      | some k =>
        match v.plain with
        | some u => match mapPut P t es c k u with | some (es', c') => some (ru, h.put b (some (.mpo es' c'))) | none => none
        | none => none
      | none => none
    | _ => none
  | _ => none
def evMakeFunc (ρ : Operand → RV) (f : Fn) (first captured : List Operand) (h : RH) : Ans :=
  match f with
  | .func k => some (.fn k (first.map ρ) (captured.map ρ), h)
  | _ => none
def intOp (op : BinOp) (k : IntKind) (x y : Int) : Option Value :=
  match op with
  | .add => some (.int k (k.wrap (x + y)))
  | .sub => some (.int k (k.wrap (x - y)))
  | .mul => some (.int k (k.wrap (x * y)))
  | .eql => some (.bool (x == y))
  | .neq => some (.bool (x != y))
  | .lss => some (.bool (x < y))
  | .leq => some (.bool (x ≤ y))
  | .gtr => some (.bool (x > y))
  | .geq => some (.bool (x ≥ y))
  | _ => none
def symOp (D : SE → Option Bool) (op : BinOp) (k : IntKind) (a b : SE) : Option RV :=
  match op with
  | .add => fit D k (mkAdd a b)
  | .sub => fit D k (mkSub a b)
  | .mul => fit D k (mkMul a b)
  | .quo => match askD D (mkEq b (.lit 0)) with | some false => fit D k (mkQuo a b) | _ => none
  | .rem => match askD D (mkEq b (.lit 0)) with | some false => some (mkSI k (mkRem a b)) | _ => none
  | .eql => some (mkSB (mkEq a b))
  | .neq => some (mkSB (mkNot (mkEq a b)))
  | .lss => some (mkSB (mkNot (mkLe b a)))
  | .leq => some (mkSB (mkLe a b))
  | .gtr => some (mkSB (mkNot (mkLe a b)))
  | .geq => some (mkSB (mkLe b a))
  | _ => none
def evSym (D : SE → Option Bool) (op : BinOp) (x y : RV) (h : RH) : Ans :=
  match sI x with
  | some (k, a) =>
    match sI y with
    | some (k', b) => match decide (k = k') with | true => (symOp D op k a b).map fun r => (r, h) | false => none
    | none => none
  | none => none
def evBin (P : Program) (D : SE → Option Bool) (o : Oper) (ρ : Operand → RV) (op : BinOp) (x y : RV) (h : RH) : Ans :=
  match x with
  | .pl (.int k a) =>
    match y with
    | .pl (.int k' b) =>
      match decide (k = k') with
      | true => match intOp op k a b with | some v => some (.pl v, h) | none => plainOp P o ρ h
      | false => plainOp P o ρ h
    | .si k' b => evSym D op (.pl (.int k a)) (.si k' b) h
    | _ => plainOp P o ρ h
  | .si k a => evSym D op (.si k a) y h
  | _ => plainOp P o ρ h
def evUn (P : Program) (D : SE → Option Bool) (o : Oper) (ρ : Operand → RV) (op : UnOp) (x : RV) (h : RH) : Ans :=
  match op with
  | .not => match x with | .sb e => some (mkSB (mkNot e), h) | _ => plainOp P o ρ h
  | .neg => match x with | .si k e => (fit D k (mkSub (.lit 0) e)).map fun r => (r, h) | _ => plainOp P o ρ h
  | _ => plainOp P o ρ h
def evConv (P : Program) (D : SE → Option Bool) (o : Oper) (ρ : Operand → RV) (src dst : TypeId) (x : RV) (h : RH) : Ans :=
  match x with
  | .si _ e =>
    match intTy P src with
    | true => match P.underlying dst with | some (.int k) => (fit D k e).map fun r => (r, h) | _ => none
    | false => none
  | _ => plainOp P o ρ h
def evCallV (P : Program) (R : Rec) (f : RV) (args : List RV) (h : RH) : Ans :=
  match f with
  | .fn k first cap =>
    match enters P k with
    | some true => callD R k (first ++ args ++ cap) h
    | _ => none
  | .yld b => roundD R b args h
  | _ => none
def evFun (P : Program) (R : Rec) (o : Oper) (ρ : Operand → RV) (f : Operand) (args : List RV) (h : RH) : Ans :=
  match f with
  | .func k =>
    match enters P k with
    | some true => callD R k args h
    | some false => plainOp P o ρ h
    | none => none
  | f => evCallV P R (ρ f) args h
def evCall (P : Program) (R : Rec) (o : Oper) (ρ : Operand → RV) (c : Call) (h : RH) : Ans :=
  match c.callee with
  | .builtin b => builtinD P R.dec o ρ b (c.args.toList.map ρ) c.argTypes.toList h
  | .value f => evFun P R o ρ f (c.args.toList.map ρ) h
  | .invoke _ _ => none

/-- one operation -/
def evOp (P : Program) (R : Rec) (o : Oper) (ρ : Operand → RV) (h : RH) : Ans :=
  match o.op with
  | .move x => some (ρ x, h)
  | .assign x => some (ρ x, h)
  | .pick c a b => evPick R.dec (ρ c) (ρ a) (ρ b) h
  | .alloc t => evAlloc P t h
  | .box t x => evBox t (ρ x) h
  | .build t ps => evBuild P t (partsD ρ ps.toList) h
  | .buildSlice t len ps => evBuildSlice P t len (partsD ρ ps.toList) h
  | .load t a => evLoad P t (ρ a) h
  | .store t a x => evStore P t (ρ a) (ρ x) h
  | .nilCheck x => evNil (ρ x) h
  | .binOp op _ x y _ => evBin P R.dec o ρ op (ρ x) (ρ y) h
  | .makeFunc f first captured => evMakeFunc ρ f first.toList captured.toList h
  | .makeSlice t l c => match ρ l with | .si k e => evMakeN P R.dec t (.si k e) (ρ c) h | l => evMake P t l (ρ c) h
  | .slice t x lo hi mx => evSlice P o ρ t (ρ x) (lo.map ρ) (hi.map ρ) mx h
  | .fieldAddr t x f => evFieldAddr P t (ρ x) f h
  | .field t x f => evField P o ρ t (ρ x) f h
  | .indexAddr t x i => match ρ x with | .fsl id sz off len => evIndexF P R.dec t id sz off len (ρ i) h | .osl b sz len => evIndexO P R.dec t b sz len (ρ i) h | x => evIndexAddr P t x (ρ i) h
  | .index t x i => evIndex P o ρ t (ρ x) (ρ i) h
  | .extract x i => evExtract P o ρ (ρ x) i h
  | .call c => evCall P R o ρ c h
  | .unOp op _ x => evUn P R.dec o ρ op (ρ x) h
  | .makeMap _ r => evMakeMap r h
  | .lookup t x i c => evLookup P t (ρ x) (ρ i) c h
  | .mapUpdate t x i v => evMapPut P t (ρ x) (ρ i) (ρ v) h
  | .insert t x i v => evMapPut P t (ρ x) (ρ i) (ρ v) h
  | .convert src dst x => evConv P R.dec o ρ src dst (ρ x) h
  | _ => none

/-- is it carried out? -/
def yieldD (D : SE → Option Bool) (want : Bool) : RV → Option Bool
  | .pl (.bool true) => some want
  | .pl (.bool false) => some !want
  | .pl _ => some false
  | .sb e => match askD D e with | some true => some want | some false => some !want | none => none
  | _ => none
def wantedG (D : SE → Option Bool) (ops : List Oper) (a : RA) (g : Nat) (want : Bool) : Option Bool :=
  match ops[g]? with
  | some p => match p.dst with | some t => yieldD D want (a.get t) | none => none
  | none => none
def wantedD (D : SE → Option Bool) (ops : List Oper) (o : Oper) (a : RA) : Option Bool :=
  match o.guard with
  | none => some true
  | some (g, want) => wantedG D ops a g want

/-- operations one behind the other -/
def seqD (P : Program) (R : Rec) (ops : List Oper) : List Oper → RA → RH → Option (RA × RH)
  | [], a, h => some (a, h)
  | o :: rest, a, h =>
    match wantedD R.dec ops o a with
    | some true =>
      match evOp P R o a.eval h with
      | some (r, h') => forceRV r fun r => forceH h' fun h' => seqD P R ops rest (a.put o.dst r) h'
      | none => none
    | some false => seqD P R ops rest (a.put o.dst ru) h
    | none => none

/-! a region whose order is drawn -/
def predsL : List Edge → List Nat
  | [] => []
  | e :: es => match Region.binds .any e with | true => e.on :: predsL es | false => predsL es
def preds (o : Oper) : List Nat := predsL o.after.toList
def ancOf (acc : List (List Nat)) : List Nat → List Nat
  | [] => []
  | j :: js => j :: (((acc[j]?).getD []) ++ ancOf acc js)
def ancsL : List Oper → List (List Nat) → List (List Nat)
  | [], acc => acc
  | o :: rest, acc => ancsL rest (acc ++ [ancOf acc (preds o)])
def ancs (ops : List Oper) : List (List Nat) := ancsL ops []
def tmpsL : List Operand → List Tmp
  | [] => []
  | .tmp t :: xs => t :: tmpsL xs
  | _ :: xs => tmpsL xs
def looks (ops : List Oper) (o : Oper) : List Tmp :=
  tmpsL o.op.operands.toList ++ (match o.guard with | some (g, _) => ((ops[g]?).bind (·.dst)).toList | none => [])
/-- operation o (the i-th) beside p (the j-th) -/
def goodPair (lk : List Tmp) (an : List Nat) (i : Nat) (o : Oper) (j : Nat) (p : Oper) (bn : List Nat) : Bool :=
  match p.dst with
  | some d => (Nat.beq i j || (match o.dst with | some e => !Nat.beq d e | none => true)) && (!memN d lk || Nat.beq i j || memN j an || memN i bn)
  | none => true
def goodRow (lk : List Tmp) (an : List Nat) (i : Nat) (o : Oper) : Nat → List Oper → List (List Nat) → Bool
  | _, [], _ => true
  | j, p :: ps, bn :: B => goodPair lk an i o j p bn && goodRow lk an i o (.succ j) ps B
  | _, _, _ => false
def allLt (i : Nat) : List Nat → Bool
  | [] => true
  | j :: js => Nat.blt j i && allLt i js
/-- the region's form is one for which the reckoning is right -/
def goodL (ops : List Oper) (B : List (List Nat)) : Nat → List Oper → List (List Nat) → Bool
  | _, [], _ => true
  | i, o :: rest, an :: A => allLt i (preds o) && goodRow (looks ops o) an i o 0 ops B && goodL ops B (.succ i) rest A
  | _, _, _ => false
/-- an order in which the operations may come: what calls, appends and stores ask for first -/
def firstK : Op → Bool
  | .call _ => true
  | .mapUpdate _ _ _ _ => true
  | .insert _ _ _ _ => true
  | .store _ _ _ => true
  | _ => false
def addAll : List Nat → List Nat → List Nat
  | [], l => l
  | x :: xs, l => match memN x l with | true => addAll xs l | false => addAll xs (l ++ [x])
def upTo (an : List Nat) : Nat → Nat → List Nat
  | _, 0 => []
  | i, .succ k => match memN i an with | true => i :: upTo an (.succ i) k | false => upTo an (.succ i) k
def orderL : Nat → List Oper → List (List Nat) → List Nat → List Nat
  | i, o :: rest, an :: A, l => match firstK o.op with | true => orderL (.succ i) rest A (addAll (upTo an 0 i ++ [i]) l) | false => orderL (.succ i) rest A l
  | _, _, _, l => l
def order (ops : List Oper) (A : List (List Nat)) : List Nat := addAll (upTo (List.range ops.length) 0 ops.length) (orderL 0 ops A [])
/-- it holds each operation once, those that come before it ahead of it -/
def goodOrder (A : List (List Nat)) : List Nat → List Nat → Bool
  | _, [] => true
  | seen, i :: rest => !memN i seen && ((A[i]?).getD []).all (memN · seen) && goodOrder A (i :: seen) rest
def goodRegion (ops : List Oper) (A : List (List Nat)) (l : List Nat) : Bool := goodL ops A 0 ops A && goodOrder A [] l && (List.range ops.length).all (memN · l)

structure RS where
  a : RA
  h : RH
  ow : List (Nat × Nat)
  done : List Nat
def maskD (an : List Nat) (n : Nat) : List (Nat × Nat) → List (Option RO) → List (Option RO)
  | [], bl => bl
  | (b, w) :: ow, bl => match memN w an with | true => maskD an n ow bl | false => maskD an n ow (bl.set (n - 1 - b) none)
def pureB : Builtin → Bool
  | .len => true
  | .cap => true
  | .min => true
  | .max => true
  | .real => true
  | .imag => true
  | .complex => true
  | _ => false
def pureC : Callee → Bool
  | .builtin b => pureB b
  | _ => false
/-- an operation that asks nothing of memory -/
def pureK : Op → Bool
  | .move _ => true
  | .assign _ => true
  | .pick _ _ _ => true
  | .build _ _ => true
  | .nilCheck _ => true
  | .binOp _ _ _ _ _ => true
  | .unOp _ _ _ => true
  | .convert _ _ _ => true
  | .fieldAddr _ _ _ => true
  | .field _ _ _ => true
  | .indexAddr _ _ _ => true
  | .index _ _ _ => true
  | .extract _ _ => true
  | .makeFunc _ _ _ => true
  | .slice _ _ _ _ _ => true
  | .call c => pureC c.callee
  | _ => false
def owners (i : Nat) : Nat → Nat → List (Nat × Nat) → List (Nat × Nat)
  | _, 0, ow => ow
  | k, .succ c, ow => (k, i) :: owners i (.succ k) c ow
def ownAll (i : Nat) : List Nat → List (Nat × Nat) → List (Nat × Nat)
  | [], ow => ow
  | b :: bs, ow => (b, i) :: ownAll i bs ow
def copyAll (h' : RH) (n : Nat) : List Nat → List (Option RO) → List (Option RO)
  | [], bl => bl
  | b :: bs, bl => copyAll h' n bs (bl.set (n - 1 - b) (h'.at? b))
def pureEnd (s : RS) (dst : Option Tmp) (r : RV) (h' : RH) : Option RS :=
  match Nat.beq h'.n s.h.n with
  | true => some { s with a := s.a.put dst r }
  | false => none
def mergeD (s : RS) (i : Nat) (dst : Option Tmp) (r : RV) (h' : RH) : RS :=
  { a := s.a.put dst r,
    h := { bl := h'.bl.take (h'.n - s.h.n) ++ copyAll h' s.h.n h'.ch s.h.bl, n := h'.n, base := s.h.base, ch := markAll s.h.base h'.ch s.h.ch },
    ow := owners i s.h.n (h'.n - s.h.n) (ownAll i h'.ch s.ow), done := i :: s.done }
def mergeOk (s : RS) (h' : RH) : Bool := Nat.beq h'.bl.length h'.n && Nat.ble s.h.n h'.n && allLt s.h.n h'.ch
def mergeIf (s : RS) (i : Nat) (dst : Option Tmp) (r : RV) (h' : RH) : Option RS :=
  match mergeOk s h' with
  | true => some (mergeD s i dst r h')
  | false => none
def nonEnd (s : RS) (an : List Nat) (i : Nat) (dst : Option Tmp) (r : RV) (h' : RH) : Option RS :=
  match h'.ch with
  | [] => match r.flat2 with | true => some { s with a := s.a.put dst r, done := i :: s.done } | false => mergeIf s i dst r h'
  | _ => match s.done.all (memN · an) with | true => mergeIf s i dst r h' | false => none
def stepPure (P : Program) (R : Rec) (o : Oper) (s : RS) : Option RS :=
  match evOp P R o s.a.eval { bl := List.replicate s.h.n none, n := s.h.n, base := s.h.n, ch := [] } with
  | some (r, h') => forceRV r fun r => pureEnd s o.dst r h'
  | none => none
def stepNon (P : Program) (R : Rec) (an : List Nat) (i : Nat) (o : Oper) (s : RS) : Option RS :=
  match evOp P R o s.a.eval { bl := maskD an s.h.n s.ow s.h.bl, n := s.h.n, base := s.h.n, ch := [] } with
  | some (r, h') => forceRV r fun r => forceH h' fun h' => nonEnd s an i o.dst r h'
  | none => none
def stepD (P : Program) (R : Rec) (ops : List Oper) (an : List Nat) (i : Nat) (o : Oper) (s : RS) : Option RS :=
  match wantedD R.dec ops o s.a with
  | none => none
  | some false => some { s with a := s.a.put o.dst ru }
  | some true => match pureK o.op with | true => stepPure P R o s | false => stepNon P R an i o s
def trL (P : Program) (R : Rec) (ops : List Oper) (A : List (List Nat)) : List Nat → RS → Option RS
  | [], s => some s
  | i :: rest, s =>
    match ops[i]? with
    | some o => match stepD P R ops ((A[i]?).getD []) i o s with | some s' => trL P R ops A rest s' | none => none
    | none => none
def drawE (P : Program) (R : Rec) (ops : List Oper) (A : List (List Nat)) (l : List Nat) (a : RA) (h : RH) : Option (RA × RH) :=
  match goodRegion ops A l with
  | true => (trL P R ops A l { a := a, h := h, ow := [], done := [] }).map fun s => (s.a, s.h)
  | false => none
def drawD (P : Program) (R : Rec) (ops : List Oper) (a : RA) (h : RH) : Option (RA × RH) := drawE P R ops (ancs ops) (order ops (ancs ops)) a h

def jumpD (id : Nat) (e : Exit) : Exit :=
  match e with
  | .exit j => match Nat.beq j id with | true => .normal | false => .exit j
  | e => e

/-- a range over a function -/
def rangeEnd (R : Rec) (ro : Option Nat) (l : Nat) (a : RA) (h : RH) : Option (Exit × RA × RH) :=
  match h.at? l with
  | some (.loop .ready none t z p s b d) => some (.normal, a, h.put l (some (.loop .exhausted none t z p s b d)))
  | some (.loop .done (some c) t z p s b d) => R.code ro c a (h.put l (some (.loop .exhausted (some c) t z p s b d)))
  | _ => none
def rangeD (P : Program) (R : Rec) (f : RV) (ps : Array Tmp) (assign body : Code) (a : RA) (h : RH) : Option (Exit × RA × RH) :=
  match f with
  | .fn k first cap =>
    match enters P k with
    | some true =>
      match R.call k (first ++ [.yld (.succ h.n)] ++ cap) ((h.push (.defd false)).push (.loop .ready none a.tmps a.sz ps assign body h.n)) with
      | some (_, h2) => rangeEnd R none (.succ h.n) { a with dfs := h.n :: a.dfs } h2
      | none => none
    | _ => none
  | _ => none

def codeSeq (R : Rec) (ro : Option Nat) (y : Code) (r : Option (Exit × RA × RH)) : Option (Exit × RA × RH) :=
  match r with
  | some (.normal, a, h) => R.code ro y a h
  | r => r
def codeCond (R : Rec) (ro : Option Nat) (c : RV) (t e : Code) (a : RA) (h : RH) : Option (Exit × RA × RH) :=
  match c with
  | .pl (.bool true) => R.code ro t a h
  | .pl (.bool false) => R.code ro e a h
  | .sb b => match askD R.dec b with | some true => R.code ro t a h | some false => R.code ro e a h | none => none
  | _ => none
def codeBlock (id : Nat) (r : Option (Exit × RA × RH)) : Option (Exit × RA × RH) :=
  match r with
  | some (e, a, h) => some (jumpD id e, a, h)
  | none => none
def codeRegion (P : Program) (R : Rec) (draw : Bool) (ops : List Oper) (a : RA) (h : RH) : Option (Exit × RA × RH) :=
  match draw with
  | false => (seqD P R ops ops a h).map fun s => (.normal, s.1, s.2)
  | true => (drawD P R ops a h).map fun s => (.normal, s.1, s.2)
def stepCode (P : Program) (R : Rec) (ro : Option Nat) (c : Code) (a : RA) (h : RH) : Option (Exit × RA × RH) :=
  match c with
  | .skip => some (.normal, a, h)
  | .label _ => some (.normal, a, h)
  | .region _ ops draw => codeRegion P R draw ops.toList a h
  | .seq x y => codeSeq R ro y (R.code ro x a h)
  | .cond x t e => codeCond R ro (a.eval x) t e a h
  | .block id x => codeBlock id (R.code ro x a h)
  | .loop x => codeSeq R ro (.loop x) (R.code ro x a h)
  | .rangeFunc f ps assign body => match ro with | none => rangeD P R (a.eval f) ps assign body a h | some _ => none
  | .exit id => some (.exit id, a, h)
  | .ret => some (.ret, a, h)
  | _ => none

/-- the deferred calls of loops are taken (there are none) -/
def takeD : List Nat → RH → Option RH
  | [], h => some h
  | d :: ds, h =>
    match h.at? d with
    | some (.defd false) => takeD ds (h.put d (some (.defd true)))
    | _ => none
def resultD (P : Program) (a : RA) (h : RH) : ResultVar → Option RV
  | .tmp t => some (a.get t)
  | .cell p t => match a.get p with | .ptr b off => loadD P t h b off | _ => none
def resultsD (P : Program) (a : RA) (h : RH) : List ResultVar → Option (List RV)
  | [] => some []
  | x :: xs => match resultD P a h x with | some r => (match resultsD P a h xs with | some rs => some (r :: rs) | none => none) | none => none
def packD : List RV → RV
  | [r] => r
  | rs => .tup rs
def leaveD (P : Program) (rs : List ResultVar) (a : RA) (h : RH) : Ans :=
  match takeD a.dfs h with
  | some h' => (resultsD P a h' rs).map fun rs => (packD rs, h')
  | none => none
def leaveE (P : Program) (rs : List ResultVar) (r : Option (Exit × RA × RH)) : Ans :=
  match r with
  | some (.normal, a, h) => leaveD P rs a h
  | some (.ret, a, h) => leaveD P rs a h
  | _ => none
def stepCall (P : Program) (R : Rec) (k : Nat) (args : List RV) (h : RH) : Ans :=
  match P.funcs[k]? with
  | some fn =>
    match fn.body with
    | some c => (match Nat.ble args.length fn.ntmps with | true => leaveE P fn.results.toList (R.code none c (startA fn.ntmps args) h) | false => none)
    | none => none
  | none => none

def stepR (P : Program) (R : Rec) : Rec := { code := stepCode P R, call := stepCall P R, dec := R.dec }
def evD (P : Program) (D : SE → Option Bool) : Nat → Rec
  | 0 => { code := fun _ _ _ _ => none, call := fun _ _ _ => none, dec := D }
  | .succ n => stepR P (evD P D n)
def ev (P : Program) (n : Nat) : Rec := evD P noD n
def h0 : RH := { bl := [], n := 0, base := 0, ch := [] }
end
end Go.Proofs.Ytmglofemnobakaa
