/-
  A run without memory's numbers: programs are run on values whose blocks are named by the run itself, in one order; what such a run answers, every run of the model answers.
-/
import GoSem.Dispatch
import GoSem.Machine.Frame
import GoSem.Machine.Return
import Derived.Calls
import Derived.Laws.Sem
import Derived.Deep.AppendSrc
namespace Go.Proofs.YtcjolamfjgdgjaaGreatDoor.Ev
noncomputable section

@[reducible] def fail {α : Type} (_why : String) : Option α := none

/-- Tables by number. -/
inductive Tr (α : Type) where
  | nil
  | nd (l : Tr α) (v : Option α) (r : Tr α)
def Tr.get {α : Type} (t : Tr α) : Nat → Option α :=
  Tr.rec (motive := fun _ => Nat → Option α) (fun _ => none)
    (fun _ v _ gl gr i => Nat.rec (motive := fun _ => Option α) v (fun j _ => Bool.rec (motive := fun _ => Option α) (gr (Nat.div j 2)) (gl (Nat.div j 2)) (Nat.beq (Nat.mod j 2) 0)) i) t
def Tr.set {α : Type} (f : Nat) : Tr α → Nat → Option α → Tr α :=
  Nat.rec (motive := fun _ => Tr α → Nat → Option α → Tr α) (fun t _ _ => t)
    (fun _ ih t i x => Tr.rec (motive := fun _ => Tr α)
      (Nat.rec (motive := fun _ => Tr α) (Tr.nd .nil x .nil) (fun j _ => Bool.rec (motive := fun _ => Tr α) (Tr.nd .nil none (ih .nil (Nat.div j 2) x)) (Tr.nd (ih .nil (Nat.div j 2) x) none .nil) (Nat.beq (Nat.mod j 2) 0)) i)
      (fun l v r _ _ => Nat.rec (motive := fun _ => Tr α) (Tr.nd l x r) (fun j _ => Bool.rec (motive := fun _ => Tr α) (Tr.nd l v (ih r (Nat.div j 2) x)) (Tr.nd (ih l (Nat.div j 2) x) v r) (Nat.beq (Nat.mod j 2) 0)) i) t) f
def Tr.put {α : Type} (t : Tr α) (i : Nat) (x : Option α) : Tr α := Tr.set (i + 1) t i x

/-- A loop over a function: its rounds are run where the function calls yield. -/
structure LpRec where
  state : LoopState
  pending : Option Code
  n : Nat
  tm : Tr Value
  params : List Tmp
  assign : Code
  body : Code
/-- What is no row of cells: a map, a loop. -/
inductive Ob where
  | mp (es : List (Value × Value))
  | lp (r : LpRec)
/-- A block: its cells; may it be written; how many cells has an element. -/
structure Blk where
  cells : List Value
  ro : Bool
  es : Nat
  ob : Option Ob
structure St where
  mem : Tr Blk
  next : Nat
def St.new (σ : St) (B : Blk) : St := ⟨σ.mem.put σ.next (some B), σ.next + 1⟩

/-- The capacity of a slice that append has made. -/
def ucap : Nat := 1152921504606846976

def cellGround : Value → Bool
  | .bool _ | .int _ _ | .string _ | .pointer none | .slice none _ _ | .nilFunc | .nilIface | .map none => true
  | .func (.func _) f c => f.isEmpty && c.isEmpty
  | _ => false
def ground : Value → Bool
  | .agg cs => cs.toList.all cellGround
  | .tuple vs => vs.toList.all cellGround
  | v => cellGround v

/-- A computation that asks for nothing but the program. -/
def pureSem {α : Type} (P : Program) : Sem α → Option α
  | .pure a => some a
  | .program k => pureSem P (k P)
  | .mark _ k => pureSem P k
  | _ => none

def part (P : Program) (t : TypeId) (cs : List Value) (off : Nat) : Option Value :=
  match P.underlying t, P.info? t with
  | some (.struct _), some i | some (.array _ _), some i => some (.agg ((cs.drop off).take i.size).toArray)
  | some _, some _ => cs[off]?
  | _, _ => fail "part"

def cellsAt (σ : St) (l o n : Nat) : Option (List Value) :=
  match σ.mem.get l with
  | some B => bif Nat.ble (o + n) B.cells.length then some ((B.cells.drop o).take n) else fail "cellsAt range"
  | none => fail "cellsAt dead"

def isAggD : TypeDesc → Bool
  | .struct _ | .array _ _ => true
  | _ => false

def loadV (P : Program) (σ : St) (t : TypeId) (l o : Nat) : Option Value :=
  match P.underlying t, P.info? t with
  | some d, some i =>
    match isAggD d with
    | true => (cellsAt σ l o i.size).map fun cs => .agg cs.toArray
    | false => match σ.mem.get l with
      | some B => B.cells[o]?
      | none => fail "load dead"
  | _, _ => fail "load type"

def setCells : List Value → Nat → List Value → List Value
  | cs, _, [] => cs
  | [], _, _ => []
  | _ :: cs, 0, v :: vs => v :: setCells cs 0 vs
  | c :: cs, o + 1, vs => c :: setCells cs o vs

def oneCells (vs : List Value) : Bool := vs.all fun v => v.oneCell'

def storeV (P : Program) (σ : St) (t : TypeId) (l o : Nat) (v : Value) : Option St :=
  match P.info? t, σ.mem.get l with
  | some i, some B =>
    let vs := v.cells.toList
    bif Nat.beq vs.length i.size && Nat.ble (o + i.size) B.cells.length && !B.ro && oneCells vs then some ⟨σ.mem.put l (some ⟨setCells B.cells o vs, false, B.es, none⟩), σ.next⟩ else fail "store range"
  | _, _ => fail "store dead"

abbrev Env := Operand → Option Value

def intArg (e : Env) : Option Operand → Option (Option Nat)
  | none => some none
  | some x => match e x with
    | some (.int _ n) => match n with | .ofNat k => some (some k) | _ => fail "slice bound below 0"
    | _ => fail "slice bound"

/-- A slice of a slice whose elements have k cells. -/
def sliceOf (k l o n c : Nat) (lo hi : Option Nat) : Option Value :=
  let a := lo.getD 0
  let h := hi.getD n
  bif Nat.ble a h && Nat.ble h (bif Nat.beq c ucap then n else c) then
    some (bif Nat.beq c ucap then .slice (some ⟨l, o + a * k, none⟩) (h - a) ucap else .slice (some (bif Nat.beq c a then ⟨l, o, none⟩ else ⟨l, o + a * k, none⟩)) (h - a) (c - a))
  else fail "slice bounds"

def allGround (e : Env) (xs : List Operand) : Bool := xs.all fun x => match e x with | some v => ground v | none => false

def isSel : Op → Bool
  | .select .. => true
  | _ => false
def groundOp (P : Program) (e : Env) (o : Oper) : Option Value :=
  bif allGround e o.op.operands.toList && !isSel o.op then
    match pureSem P (execOp (fun x => (e x).getD undef) o) with
    | some (.value v) => bif ground v then some v else fail "ground result"
    | _ => fail "ground run"
  else fail "ground operands"


def fillParts (places : List (Nat × Nat)) (cells : List Value) : List (Nat × Value) → Option (List Value)
  | [] => some cells
  | (i, v) :: rest =>
    match places[i]? with
    | none => fail "fill place"
    | some (off, size) =>
      let vs := v.cells.toList
      bif Nat.beq vs.length size && Nat.ble (off + size) cells.length then fillParts places (setCells cells off vs) rest else fail "fill size"

def evalParts (e : Env) : List (Nat × Operand) → Option (List (Nat × Value))
  | [] => some []
  | (i, x) :: rest => match e x, evalParts e rest with
    | some v, some l => some ((i, v) :: l)
    | _, _ => fail "parts"

def placesOf (P : Program) : List Field → Option (List (Nat × Nat))
  | [] => some []
  | f :: fs => match P.info? f.type, placesOf P fs with
    | some i, some l => some ((f.offset, i.size) :: l)
    | _, _ => fail "places"

def zeroCells (P : Program) (t : TypeId) : Option (List Value) :=
  match P.info? t with
  | some i => match i.zero with
    | some v => bif ground v then some v.cells.toList else fail "zero ground"
    | none => fail "zero"
  | none => fail "zero type"

def repeatN {α : Type} (n : Nat) (l : List α) : List α :=
  match n with
  | 0 => []
  | n + 1 => l ++ repeatN n l


/-- Are two texts the same? -/
def lEq (a : List UInt8) : List UInt8 → Bool :=
  List.rec (motive := fun _ => List UInt8 → Bool) (fun b => List.rec (motive := fun _ => Bool) true (fun _ _ _ => false) b)
    (fun x _ ih b => List.rec (motive := fun _ => Bool) false (fun y m _ => Bool.rec (motive := fun _ => Bool) false (ih m) (Nat.beq x.toNat y.toNat)) b) a
def fastInt (j : IntKind) (a b : Int) : BinOp → Option Value
  | .add => some (.int j (j.wrap (a + b)))
  | .sub => some (.int j (j.wrap (a - b)))
  | .mul => some (.int j (j.wrap (a * b)))
  | .quo => bif decide (b = 0) then none else some (.int j (j.wrap (a.tdiv b)))
  | .rem => bif decide (b = 0) then none else some (.int j (a.tmod b))
  | .and => some (.int j (j.wrap (BitVec.ofInt j.bits a &&& BitVec.ofInt j.bits b).toNat))
  | .or => some (.int j (j.wrap (BitVec.ofInt j.bits a ||| BitVec.ofInt j.bits b).toNat))
  | .xor => some (.int j (j.wrap (BitVec.ofInt j.bits a ^^^ BitVec.ofInt j.bits b).toNat))
  | .andNot => some (.int j (j.wrap (BitVec.ofInt j.bits a &&& ~~~BitVec.ofInt j.bits b).toNat))
  | .eql => some (.bool (decide (a = b)))
  | .neq => some (.bool (!decide (a = b)))
  | .lss => some (.bool (decide (a < b)))
  | .leq => some (.bool (decide (a ≤ b)))
  | .gtr => some (.bool (decide (b < a)))
  | .geq => some (.bool (decide (b ≤ a)))
  | _ => none
def fastSh (j : IntKind) (a b : Int) : BinOp → Option Value
  | .shl => bif decide (b < 0) then none else some (.int j (j.wrap (a * 2 ^ (min b.toNat j.bits))))
  | .shr => bif decide (b < 0) then none else some (.int j (a.fdiv (2 ^ (min b.toNat j.bits))))
  | _ => none
def fastStr (a b : List UInt8) : BinOp → Option Value
  | .add => bif decide (a.length + b.length ≤ 4611686018427387904) then some (.string ⟨(a ++ b).toArray⟩) else none
  | .eql => some (.bool (lEq a b))
  | .neq => some (.bool (!lEq a b))
  | .lss => some (.bool (Op.bytesLess a b))
  | .leq => some (.bool (Op.bytesLess a b || lEq a b))
  | .gtr => some (.bool (!(Op.bytesLess a b || lEq a b)))
  | .geq => some (.bool (!Op.bytesLess a b))
  | _ => none
def isShift : BinOp → Bool
  | .shl => true
  | .shr => true
  | _ => false
def fastBin (op : BinOp) : Value → Value → Option Value
  | .int j a, .int k b => bif isShift op then fastSh j a b op else bif decide (j = k) then fastInt j a b op else none
  | .string a, .string b => fastStr a.data.toList b.data.toList op
  | _, _ => none


def isSym : Value → Bool
  | .chan (some _) => true
  | _ => false
def scalar : Value → Bool
  | .int _ _ | .string _ => true
  | _ => false
/-- What the run writes for a plain value: itself, or a letter. -/
def At (val : Nat → Option Value) (a c : Value) : Prop := (∃ i, a = .chan (some i) ∧ val i = some c ∧ scalar c = true) ∨ (cellGround a = true ∧ c = a)
/-- An operation's answer, in every program and every world. -/
def BinIs (op : BinOp) (a b c : Value) : Prop := scalar a = true ∧ ∀ (P : Program) (w : World) (t : TypeId), (Go.binOp op t a b).run P w = .ok c w
def UnIs (op : UnOp) (a c : Value) : Prop := ∀ (P : Program) (w : World), (Op.unary op a).run P w = .ok c w
def ConvIs (k : IntKind) (a c : Value) : Prop := ∃ j n, a = .int j n ∧ c = .int k (k.wrap n)
def MmIs (mx : Bool) (a b c : Value) : Prop := ∃ k m n, a = .int k m ∧ b = .int k n ∧ c = .int k (bif mx then (if n > m then n else m) else (if n < m then n else m))
/-- Values that the run does not know, by letters; and what it knows of operations on them. -/
class Syms where
  val : Nat → Option Value
  bin : BinOp → Value → Value → Option Value
  un : UnOp → Value → Option Value
  conv : IntKind → Value → Option Value
  len : Value → Option Value
  mm : Bool → Value → Value → Option Value
  bin_ok : ∀ op a b v, bin op a b = some v → ∀ ca cb, At val a ca → At val b cb → ∃ cv, At val v cv ∧ BinIs op ca cb cv
  un_ok : ∀ op a v, un op a = some v → ∀ ca, At val a ca → ∃ cv, At val v cv ∧ UnIs op ca cv
  conv_ok : ∀ k a v, conv k a = some v → ∀ ca, At val a ca → ∃ cv, At val v cv ∧ ConvIs k ca cv
  len_ok : ∀ a v, len a = some v → ∀ ca, At val a ca → ∃ s, ca = .string s ∧ At val v (.int .i64 s.size)
  mm_ok : ∀ mx a b v, mm mx a b = some v → ∀ ca cb, At val a ca → At val b cb → ∃ cv, At val v cv ∧ MmIs mx ca cb cv
/-- No letters. -/
@[reducible] def noSyms : Syms where
  val := fun _ => none
  bin := fun _ _ _ => none
  un := fun _ _ => none
  conv := fun _ _ => none
  len := fun _ => none
  mm := fun _ _ _ => none
  bin_ok := by intro _ _ _ _ h; cases h
  un_ok := by intro _ _ _ h; cases h
  conv_ok := by intro _ _ _ h; cases h
  len_ok := by intro _ _ h; cases h
  mm_ok := by intro _ _ _ _ h; cases h
variable [Syms]
def atOk (v : Value) : Bool := isSym v || cellGround v
def asVal (r : Option Value) : Option (Value × Option Blk) := match r with
  | some v => some (v, none)
  | none => none
def nePick (e : Env) (a b : Operand) : Option Value → Option (Value × Option Blk)
  | some (.bool true) => asVal (e a)
  | some (.bool false) => asVal (e b)
  | _ => fail "pick"
def neNil : Option Value → Option (Value × Option Blk)
  | some (.pointer (some a)) => some (.pointer (some a), none)
  | some (.func (.func f) a b) => some (.func (.func f) a b, none)
  | _ => fail "nilCheck"
def neField1 (P : Program) (l off : Nat) : Option Field → Option (Value × Option Blk)
  | some fd => match P.info? fd.type with
    | some i => bif Nat.beq i.size 0 then fail "fieldAddr size 0" else some (.pointer (some ⟨l, Nat.add off fd.offset, none⟩), none)
    | none => fail "fieldAddr"
  | none => fail "fieldAddr"
def neFieldAddr (P : Program) (f : Nat) : Option Value → Option TypeDesc → Option (Value × Option Blk)
  | some (.pointer (some ⟨l, off, none⟩)), some (.struct fs) => neField1 P l off fs[f]?
  | _, _ => fail "fieldAddr"
def neIndex1 (l off i n : Nat) : Option TypeInfo → Option (Value × Option Blk)
  | some inf => bif Nat.ble (Nat.succ i) n then some (.pointer (some ⟨l, Nat.add off (Nat.mul i inf.size), none⟩), none) else fail "index out of range"
  | none => fail "indexAddr"
def neIndexAddr (P : Program) : Option Value → Option Value → Option TypeDesc → Option (Value × Option Blk)
  | some (.slice (some ⟨l, off, none⟩) n _), some (.int _ (.ofNat i)), some (.slice el) => neIndex1 l off i n (P.info? el)
  | some (.pointer (some ⟨l, off, none⟩)), some (.int _ (.ofNat i)), some (.array n el) => neIndex1 l off i n (P.info? el)
  | _, _, _ => fail "indexAddr"
def neSlice2 (l off n c : Nat) (a h : Option Nat) : Option TypeInfo → Option Blk → Option (Value × Option Blk)
  | some inf, some B => bif Nat.beq inf.size B.es && Nat.blt c 1152921504606846977 then asVal (sliceOf inf.size l off n c a h) else fail "slice element"
  | _, _ => fail "slice dead"
def neSlice1 (P : Program) (σ : St) (l off n c : Nat) : Option TypeDesc → Option (Option Nat) → Option (Option Nat) → Option (Value × Option Blk)
  | some (.slice el), some a, some h => neSlice2 l off n c a h (P.info? el) (σ.mem.get l)
  | _, _, _ => fail "slice"
def neStr1 (s : ByteArray) (a h : Nat) : Option (Value × Option Blk) :=
  bif Nat.ble a h && Nat.ble h s.size then some (.string ⟨((s.data.toList.drop a).take (Nat.sub h a)).toArray⟩, none) else fail "slice bounds"
def neStr (s : ByteArray) : Option TypeDesc → Option (Option Nat) → Option (Option Nat) → Option (Value × Option Blk)
  | some .string, some a, some h => neStr1 s (a.getD 0) (h.getD s.size)
  | _, _, _ => fail "slice"
def neIdx2 : Option UInt8 → Option (Value × Option Blk)
  | some b => some (.int .u8 b.toNat, none)
  | none => fail "index"
def neIdxA (P : Program) (cs : List Value) (n i : Nat) (el : TypeId) : Option TypeInfo → Option (Value × Option Blk)
  | some inf => bif Nat.ble (Nat.succ i) n then asVal (part P el cs (Nat.mul i inf.size)) else fail "index out of range"
  | none => fail "index"
def neIdx (P : Program) (e : Env) (o : Oper) : Option Value → Option Value → Option TypeDesc → Option (Value × Option Blk)
  | some (.string s), some (.int _ (.ofNat i)), some .string => neIdx2 s.data.toList[i]?
  | some (.agg cs), some (.int _ (.ofNat i)), some (.array n el) => neIdxA P cs.toList n i el (P.info? el)
  | _, _, _ => asVal (groundOp P e o)
def neSliceNil (P : Program) : Option TypeDesc → Option (Option Nat) → Option (Option Nat) → Option (Value × Option Blk)
  | some (.slice el), some a, some h => match P.info? el with
    | some _ => bif Nat.beq (a.getD 0) 0 && Nat.beq (h.getD 0) 0 then some (.slice none 0 0, none) else fail "slice of nil"
    | none => fail "slice of nil"
  | _, _, _ => fail "slice of nil"
def neSlice (P : Program) (e : Env) (σ : St) (o : Oper) (t : TypeId) (lo hi : Option Operand) : Option Value → Option (Value × Option Blk)
  | some (.slice (some ⟨l, off, none⟩) n c) => neSlice1 P σ l off n c (P.underlying t) (intArg e lo) (intArg e hi)
  | some (.string s) => neStr s (P.underlying t) (intArg e lo) (intArg e hi)
  | some (.slice none 0 0) => neSliceNil P (P.underlying t) (intArg e lo) (intArg e hi)
  | _ => asVal (groundOp P e o)
def neFld1 (P : Program) (cs : List Value) : Option Field → Option (Value × Option Blk)
  | some fd => asVal (part P fd.type cs fd.offset)
  | none => fail "field"
def neFld (P : Program) (f : Nat) : Option Value → Option TypeDesc → Option (Value × Option Blk)
  | some (.agg cs), some (.struct fs) => neFld1 P cs.toList fs[f]?
  | _, _ => fail "field"
def neExtract (i : Nat) : Option Value → Option (Value × Option Blk)
  | some (.tuple vs) => asVal (vs.toList[i]?)
  | _ => fail "extract"
def aggOf : Option (List Value) → Option (Value × Option Blk)
  | some cs => some (.agg cs.toArray, none)
  | none => fail "build"
def neBuild2 (z : List Value) (ps : List (Nat × Value)) : Option (List (Nat × Nat)) → Option (Value × Option Blk)
  | some pl => aggOf (fillParts pl z ps)
  | none => fail "build"
def neBuild3 (n : Nat) (z : List Value) (ps : List (Nat × Value)) : Option TypeInfo → Option (Value × Option Blk)
  | some inf => aggOf (fillParts ((List.range n).map fun i => (i * inf.size, inf.size)) z ps)
  | none => fail "build"
def neBuild (P : Program) : Option TypeDesc → Option TypeInfo → Option (List Value) → Option (List (Nat × Value)) → Option (Value × Option Blk)
  | some (.struct fs), some _, some z, some ps => neBuild2 z ps (placesOf P fs.toList)
  | some (.array n el), some _, some z, some ps => neBuild3 n z ps (P.info? el)
  | _, _, _, _ => fail "build"
def neRow2 (nx len es : Nat) : Option (List Value) → Option (Value × Option Blk)
  | some cs => some (.slice (some ⟨nx, 0, none⟩) len len, some ⟨cs, false, es, none⟩)
  | none => fail "buildSlice"
def neRow1 (nx len : Nat) (ps : List (Nat × Value)) : Option TypeInfo → Option (List Value) → Option (Value × Option Blk)
  | some inf, some z => bif Nat.ble 1 inf.size && Nat.ble len 65536 && Nat.ble inf.size 256 && Nat.beq z.length inf.size then
      neRow2 nx len inf.size (fillParts ((List.range len).map fun i => (i * inf.size, inf.size)) (repeatN len z) ps) else fail "buildSlice size"
  | _, _ => fail "buildSlice"
def neRow (P : Program) (nx len : Nat) : Option TypeDesc → Option (List (Nat × Value)) → Option (Value × Option Blk)
  | some (.slice el), some ps => neRow1 nx len ps (P.info? el) (zeroCells P el)
  | _, _ => fail "buildSlice"
def neMake1 (nx l c : Nat) : Option TypeInfo → Option (List Value) → Option (Value × Option Blk)
  | some inf, some z => bif Nat.ble 1 inf.size && Nat.ble l c && (Nat.ble c 65536 && Nat.ble inf.size 256) && (Nat.ble inf.bytes 4096 && Nat.beq z.length inf.size) then
      some (.slice (some ⟨nx, 0, none⟩) l c, some ⟨repeatN c z, false, inf.size, none⟩) else fail "makeSlice size"
  | _, _ => fail "makeSlice"
def neMake (P : Program) (nx : Nat) : Option TypeDesc → Option Value → Option Value → Option (Value × Option Blk)
  | some (.slice el), some (.int _ (.ofNat l)), some (.int _ (.ofNat c)) => neMake1 nx l c (P.info? el) (zeroCells P el)
  | _, _, _ => fail "makeSlice"
def neAlloc (nx : Nat) : Option TypeInfo → Option (List Value) → Option (Value × Option Blk)
  | some i, some z => some (.pointer (some ⟨nx, 0, none⟩), some ⟨z, false, i.size, none⟩)
  | _, _ => fail "alloc"
def neBox (nx : Nat) : Option TypeInfo → Option Value → Option (Value × Option Blk)
  | some i, some v => some (.pointer (some ⟨nx, 0, none⟩), some ⟨v.cells.toList, false, i.size, none⟩)
  | _, _ => fail "box"
def neLoad (P : Program) (σ : St) (t : TypeId) : Option Value → Option (Value × Option Blk)
  | some (.pointer (some ⟨l, off, none⟩)) => asVal (loadV P σ t l off)
  | _ => fail "load"
def neFunc (f : FuncId) : Option (List Value) → Option (List Value) → Option (Value × Option Blk)
  | some a, some b => some (.func (.func f) a.toArray b.toArray, none)
  | _, _ => fail "makeFunc"
def nilCmp : Option TypeDesc → Value → Value → Bool
  | some (.slice _), .slice none _ _, .slice (some _) _ _ => true
  | some (.slice _), .slice (some _) _ _, .slice none _ _ => true
  | some (.pointer _), .pointer (some _), .pointer none => true
  | _, _, _ => false
def boolEq : Option TypeDesc → Value → Value → Option Bool
  | some .bool, .bool a, .bool b => some (a == b)
  | _, _, _ => none
def neEq (P : Program) (e : Env) (o : Oper) (neg : Bool) : Option Bool → Option (Value × Option Blk)
  | some r => some (.bool (bif neg then !r else r), none)
  | none => asVal (groundOp P e o)
def neBin2 (P : Program) (e : Env) (o : Oper) (t : TypeId) (a b : Value) : BinOp → Option (Value × Option Blk)
  | .eql => bif nilCmp (P.underlying t) a b then some (.bool false, none) else neEq P e o false (boolEq (P.underlying t) a b)
  | .neq => bif nilCmp (P.underlying t) a b then some (.bool true, none) else neEq P e o true (boolEq (P.underlying t) a b)
  | _ => asVal (groundOp P e o)
def neBin1 (P : Program) (e : Env) (o : Oper) (op : BinOp) (t : TypeId) (a b : Value) : Option Value → Option (Value × Option Blk)
  | some v => some (v, none)
  | none => neBin2 P e o t a b op
def neBin (P : Program) (e : Env) (o : Oper) (op : BinOp) (t : TypeId) : Option Value → Option Value → Option (Value × Option Blk)
  | some a, some b => bif (isSym a || isSym b) && (atOk a && atOk b) then asVal (Syms.bin op a b) else neBin1 P e o op t a b (fastBin op a b)
  | _, _ => fail "binOp"
def byteOfV : Value → Option UInt8
  | .int .u8 k => some (UInt8.ofNat k.toNat)
  | _ => none
def neConv2 : Option (List UInt8) → Option (Value × Option Blk)
  | some bs => some (.string ⟨bs.toArray⟩, none)
  | none => fail "convert bytes"
def neConv1 : Option TypeDesc → Option (List Value) → Option (Value × Option Blk)
  | some (.int .u8), some cs => neConv2 (cs.mapM byteOfV)
  | _, _ => fail "convert"
def neConv (P : Program) (e : Env) (σ : St) (o : Oper) : Option Value → Option TypeDesc → Option TypeDesc → Option (Value × Option Blk)
  | some (.slice (some ⟨l, off, none⟩) n _), some (.slice b), some .string => neConv1 (P.underlying b) (cellsAt σ l off n)
  | some (.chan (some i)), some (.int _), some (.int k) => asVal (Syms.conv k (.chan (some i)))
  | some (.int _ n), some (.int _), some (.int k) => some (.int k (k.wrap n), none)
  | _, _, _ => asVal (groundOp P e o)
def neLen2 (P : Program) (e : Env) (o : Oper) : Option Value → Option TypeDesc → Option (Value × Option Blk)
  | some (.slice (some _) n _), some (.slice _) => some (.int .i64 n, none)
  | some (.slice none n _), some (.slice _) => some (.int .i64 n, none)
  | some (.string s), some .string => some (.int .i64 s.size, none)
  | some (.chan (some i)), some .string => asVal (Syms.len (.chan (some i)))
  | _, _ => asVal (groundOp P e o)
def neLen1 (P : Program) (e : Env) (o : Oper) : List Operand → List TypeId → Option (Value × Option Blk)
  | [x], [t] => neLen2 P e o (e x) (P.underlying t)
  | _, _ => fail "len"
def fastUn (op : UnOp) : Value → Option Value
  | .bool b => match op with
    | .not => some (.bool (!b))
    | _ => none
  | .int k n => match op with
    | .neg => some (.int k (k.wrap (0 - n)))
    | .xor => some (.int k (k.wrap (BitVec.ofInt k.bits (if k.signed then -1 else k.max) ^^^ BitVec.ofInt k.bits n).toNat))
    | _ => none
  | _ => none
def neUn1 (P : Program) (e : Env) (o : Oper) : Option Value → Option (Value × Option Blk)
  | some v => some (v, none)
  | none => asVal (groundOp P e o)
def neUn (P : Program) (e : Env) (o : Oper) (op : UnOp) : Option Value → Option (Value × Option Blk)
  | some (.chan (some i)) => asVal (Syms.un op (.chan (some i)))
  | some (.bool b) => neUn1 P e o (fastUn op (.bool b))
  | some (.int k n) => neUn1 P e o (fastUn op (.int k n))
  | _ => asVal (groundOp P e o)
/-- A key, found. -/
def keyEq : Value → Value → Option Bool
  | .int j a, .int k b => bif decide (j = k) then some (decide (a = b)) else none
  | .string a, .string b => some (lEq a.data.toList b.data.toList)
  | _, _ => none
def mapFind (k : Value) : List (Value × Value) → Option (Option Value)
  | [] => some none
  | (x, v) :: es => match keyEq k x with
    | some true => some (some v)
    | some false => mapFind k es
    | none => none
def keyKind : TypeDesc → Value → Bool
  | .int _, .int _ _ => true
  | .string, .string _ => true
  | _, _ => false
def loRes (v : Value) (b c : Bool) : Value := bif c then .tuple #[v, .bool b] else v
def loVal (P : Program) (el : TypeId) (c : Bool) : Option (Option Value) → Option (Value × Option Blk)
  | some (some v) => some (loRes v true c, none)
  | some none => match P.info? el with
    | some i => match i.zero with
      | some z => bif cellGround z then some (loRes z false c, none) else fail "lookup zero"
      | none => fail "lookup"
    | none => fail "lookup"
  | none => fail "lookup key"
def loEs : Option Blk → Option (List (Value × Value))
  | some B => match B.ob with
    | some (.mp es) => some es
    | _ => none
  | none => none
def loMap (σ : St) : Value → Option (List (Value × Value))
  | .map none => some []
  | .map (some l) => loEs (σ.mem.get l)
  | _ => none
def loFind (P : Program) (el : TypeId) (k : Value) (c : Bool) : Option (List (Value × Value)) → Option (Value × Option Blk)
  | some es => loVal P el c (mapFind k es)
  | none => fail "lookup map"
def loKind (P : Program) (σ : St) (el : TypeId) (m k : Value) (c : Bool) : Option TypeDesc → Option (Value × Option Blk)
  | some d => bif keyKind d k then loFind P el k c (loMap σ m) else fail "lookup kind"
  | none => fail "lookup kind"
def neLookup (P : Program) (σ : St) (c : Bool) : Option Value → Option Value → Option TypeDesc → Option (Value × Option Blk)
  | some m, some k, some (.map key el) => loKind P σ el m k c (P.underlying key)
  | _, _, _ => fail "lookup"
def neCap : Option Value → Option TypeDesc → Option (Value × Option Blk)
  | some (.slice (some _) _ c), some (.slice _) => bif Nat.beq c ucap then fail "cap" else some (.int .i64 c, none)
  | some (.slice none _ c), some (.slice _) => some (.int .i64 c, none)
  | _, _ => fail "cap"
def neCap1 (P : Program) (e : Env) : List Operand → List TypeId → Option (Value × Option Blk)
  | [x], [t] => neCap (e x) (P.underlying t)
  | _, _ => fail "cap"
def neMm2 (P : Program) (e : Env) (o : Oper) (mx : Bool) : Option Value → Option Value → Option (Value × Option Blk)
  | some (.int k a), some (.int j b) => bif decide (k = j) then some (.int k (bif mx then (if b > a then b else a) else (if b < a then b else a)), none) else fail "max"
  | some a, some b => bif (isSym a || isSym b) && (atOk a && atOk b) then asVal (Syms.mm mx a b) else asVal (groundOp P e o)
  | _, _ => asVal (groundOp P e o)
def mmV (mx : Bool) (a b : Value) : Option Value := match a, b with
  | .int k a, .int j b => bif decide (k = j) then some (.int k (bif mx then (if b > a then b else a) else (if b < a then b else a))) else none
  | a, b => bif (isSym a || isSym b) && (atOk a && atOk b) then Syms.mm mx a b else none
def mmV3 (mx : Bool) (c : Value) : Option Value → Option (Value × Option Blk)
  | some d => asVal (mmV mx d c)
  | none => fail "max of three"
def neMm3 (mx : Bool) : Option Value → Option Value → Option Value → Option (Value × Option Blk)
  | some a, some b, some c => mmV3 mx c (mmV mx a b)
  | _, _, _ => fail "max of three"
def neMm (P : Program) (e : Env) (o : Oper) (mx : Bool) : List Operand → Option (Value × Option Blk)
  | [x, y] => neMm2 P e o mx (e x) (e y)
  | [x, y, z] => neMm3 mx (e x) (e y) (e z)
  | _ => asVal (groundOp P e o)
def neCall (P : Program) (e : Env) (o : Oper) (c : Call) : Callee → Option (Value × Option Blk)
  | .builtin .len => neLen1 P e o c.args.toList c.argTypes.toList
  | .builtin .cap => neCap1 P e c.args.toList c.argTypes.toList
  | .builtin .max => neMm P e o true c.args.toList
  | .builtin .min => neMm P e o false c.args.toList
  | _ => asVal (groundOp P e o)
/-- Operations that turn nothing that was there: their value, and a new block. -/
def evNE (P : Program) (e : Env) (σ : St) (o : Oper) : Option (Value × Option Blk) :=
  match o.op with
  | .move x | .assign x => asVal (e x)
  | .pick c a b => nePick e a b (e c)
  | .nilCheck x => neNil (e x)
  | .fieldAddr s x f => neFieldAddr P f (e x) (P.underlying s)
  | .indexAddr t x ix => neIndexAddr P (e x) (e ix) (P.underlying t)
  | .index t x ix => neIdx P e o (e x) (e ix) (P.underlying t)
  | .slice t x lo hi none => neSlice P e σ o t lo hi (e x)
  | .field t x f => neFld P f (e x) (P.underlying t)
  | .extract x i => neExtract i (e x)
  | .build t parts => neBuild P (P.underlying t) (P.info? t) (zeroCells P t) (evalParts e parts.toList)
  | .buildSlice t len parts => neRow P σ.next len (P.underlying t) (evalParts e parts.toList)
  | .makeSlice t l c => neMake P σ.next (P.underlying t) (e l) (e c)
  | .alloc t => neAlloc σ.next (P.info? t) (zeroCells P t)
  | .box t x => neBox σ.next (P.info? t) (e x)
  | .load t x => neLoad P σ t (e x)
  | .makeFunc (.func f) first captured => neFunc f (first.toList.mapM e) (captured.toList.mapM e)
  | .binOp op t x y _ => neBin P e o op t (e x) (e y)
  | .unOp op _ x => neUn P e o op (e x)
  | .convert s d x => neConv P e σ o (e x) (P.underlying s) (P.underlying d)
  | .call c => neCall P e o c c.callee
  | .lookup t x ix c => neLookup P σ c (e x) (e ix) (P.underlying t)
  | _ => asVal (groundOp P e o)

def isEff (o : Oper) : Bool :=
  match o.op with
  | .store .. | .makeMap .. | .mapUpdate .. => true
  | .call c => match c.callee with
    | .builtin .append => true
    | .builtin _ => false
    | _ => true
  | _ => false

abbrev CallF := FuncId → List Value → St → Option (Value × St)
/-- Calls, and rounds of loops over functions, by the loop's number. -/
structure Run where
  call : CallF
  rnd : CallF

/-- What is appended. -/
def srcCells (n : Nat) : Option (List Value) → Option (Nat × List Value)
  | some cs => bif oneCells cs then some (n, cs) else fail "append cells"
  | none => none
def srcOf (σ : St) (k : Nat) : Value → Option (Nat × List Value)
  | .slice none n _ => bif Nat.beq n 0 then some (0, []) else fail "append nil"
  | .slice (some ⟨l, o, none⟩) n _ => srcCells n (cellsAt σ l o (Nat.mul n k))
  | .string s => bif Nat.beq k 1 then some (s.size, byteCells s) else fail "append string"
  | _ => fail "append source"
def apCap (σ : St) (es m : Nat) (new : List Value) (l o n c : Nat) (old : List Value) (B : Blk) : Bool → Option (Value × St)
  | true => bif Nat.beq m 0 then some (.slice (some ⟨l, o, none⟩) n ucap, σ) else some (.slice (some ⟨σ.next, 0, none⟩) (Nat.add n m) ucap, St.new ⟨σ.mem.put l (some ⟨[], true, B.es, none⟩), σ.next⟩ ⟨old ++ new, false, es, none⟩)
  | false => bif Nat.ble (Nat.add n m) c then
      (bif Nat.ble (Nat.add o (Nat.mul (Nat.add n m) es)) B.cells.length then some (.slice (some ⟨l, o, none⟩) (Nat.add n m) c, ⟨σ.mem.put l (some ⟨setCells B.cells (Nat.add o (Nat.mul n es)) new, false, B.es, none⟩), σ.next⟩) else fail "append in place")
    else some (.slice (some ⟨σ.next, 0, none⟩) (Nat.add n m) ucap, σ.new ⟨old ++ new, false, es, none⟩)
def apBlk (σ : St) (es m : Nat) (new : List Value) (l o n c : Nat) : Option (List Value) → Option Blk → Option (Value × St)
  | some old, some B => bif Nat.beq B.es es && !B.ro && Nat.ble (Nat.add n m) 1000000 && Nat.ble c 1152921504606846976 then apCap σ es m new l o n c old B (Nat.beq c ucap) else fail "append block"
  | _, _ => fail "append dead"
def apGo (σ : St) (es m : Nat) (new : List Value) : Value → Option (Value × St)
  | .slice none n c => bif Nat.beq n 0 && Nat.beq c 0 && Nat.ble m 1000000 then
      (bif Nat.beq m 0 then some (.slice none 0 0, σ) else some (.slice (some ⟨σ.next, 0, none⟩) m ucap, σ.new ⟨new, false, es, none⟩)) else fail "append nil"
  | .slice (some ⟨l, o, none⟩) n c => apBlk σ es m new l o n c (cellsAt σ l o (Nat.mul n es)) (σ.mem.get l)
  | _ => fail "append slice"
def apSrc (σ : St) (es : Nat) (s : Value) : Option (Nat × List Value) → Option (Value × St)
  | some (m, new) => apGo σ es m new s
  | none => fail "append source"
def apInf (σ : St) (s x : Value) : Option TypeInfo → Option (Value × St)
  | some inf => match inf.zero with
    | some z => bif Nat.ble 1 inf.size && Nat.ble inf.size 256 && Nat.ble inf.bytes 4096 && Nat.beq z.cells.size inf.size then apSrc σ inf.size s (srcOf σ inf.size x) else fail "append element"
    | none => fail "append zero"
  | none => fail "append"
def appendV (P : Program) (σ : St) (s x : Value) : Option TypeDesc → Option (Value × St)
  | some (.slice el) => apInf σ s x (P.info? el)
  | _ => fail "append"

def efStore (P : Program) (σ : St) (t : TypeId) : Option Value → Option Value → Option (Value × St)
  | some (.pointer (some ⟨l, off, none⟩)), some v => match storeV P σ t l off v with
    | some σ' => some (undef, σ')
    | none => none
  | _, _ => fail "store"
/-- So many zeros behind nil. -/
def apZero (P : Program) (σ : St) (s x : Value) : Option TypeDesc → Option (Value × St)
  | some (.slice el) => match s, x, P.info? el, zeroCells P el with
    | .slice none 0 0, .int .i64 (.ofNat m), some i, some z => bif Nat.ble 1 m && Nat.ble m 1000000 && (Nat.ble 1 i.size && Nat.ble i.size 256) && (Nat.ble i.bytes 4096 && Nat.beq z.length i.size) then
        some (.slice (some ⟨σ.next, 0, none⟩) m ucap, σ.new ⟨repeatN m z, false, i.size, none⟩) else fail "append zeros"
    | _, _, _, _ => fail "append zeros"
  | _ => fail "append zeros"
def efApp2 (P : Program) (σ : St) (t : TypeId) (s x : Value) : TypeDesc → Option (Value × St)
  | .slice _ => appendV P σ s x (P.underlying t)
  | .string => appendV P σ s x (P.underlying t)
  | .int _ => apZero P σ s x (P.underlying t)
  | _ => fail "append kind"
def efApp1 (P : Program) (σ : St) (t : TypeId) : Option Value → Option Value → Option TypeDesc → Option (Value × St)
  | some s, some x, some d => efApp2 P σ t s x d
  | _, _, _ => fail "append"
def efApp (P : Program) (e : Env) (σ : St) : List Operand → List TypeId → Option (Value × St)
  | [s, x], [t, u] => efApp1 P σ t (e s) (e x) (P.underlying u)
  | _, _ => fail "append arguments"
def efExt1 (σ : St) : Option Next → Option (Value × St)
  | some (.value v) => bif ground v then some (v, σ) else fail "extern result"
  | _ => fail "extern run"
def efExt (P : Program) (σ : St) (g : FuncId) (all : List Value) : Option (Value × St) :=
  bif all.all ground then efExt1 σ (pureSem P (callFunc g all.toArray)) else fail "extern operands"
def efFn1 (P : Program) (call : CallF) (σ : St) (g : FuncId) (all : List Value) : Option Code → Option (Value × St)
  | some _ => call g all σ
  | none => efExt P σ g all
def efFn (P : Program) (call : CallF) (σ : St) (g : FuncId) (all : List Value) : Option Func → Option (Value × St)
  | some fn => efFn1 P call σ g all fn.body
  | none => fail "call no function"
def efVal (P : Program) (call : Run) (σ : St) : Option Value → Option (List Value) → Option (Value × St)
  | some (.func (.func g) first captured), some as => efFn P call.call σ g (first.toList ++ as ++ captured.toList) P.funcs[g]?
  | some (.func (.yield l) ⟨[]⟩ ⟨[]⟩), some as => call.rnd l as σ
  | _, _ => fail "call"
def efCall (P : Program) (call : Run) (e : Env) (σ : St) (c : Call) : Callee → Option (Value × St)
  | .builtin .append => efApp P e σ c.args.toList c.argTypes.toList
  | .value f => efVal P call σ (e f) (c.args.toList.mapM e)
  | _ => fail "call kind"
def mapPut (k v : Value) : List (Value × Value) → Option (List (Value × Value))
  | [] => some [(k, v)]
  | (x, u) :: es => match keyEq k x with
    | some true => some ((k, v) :: es)
    | some false => match mapPut k v es with
      | some r => some ((x, u) :: r)
      | none => none
    | none => none
def muPut (σ : St) (l : Nat) : Option (List (Value × Value)) → Option (Value × St)
  | some es => some (undef, ⟨σ.mem.put l (some ⟨[], true, 0, some (.mp es)⟩), σ.next⟩)
  | none => fail "mapUpdate key"
def muGo (σ : St) (l : Nat) (k v : Value) : Option (List (Value × Value)) → Option (Value × St)
  | some es => muPut σ l (mapPut k v es)
  | none => fail "mapUpdate map"
def muKind (σ : St) (l : Nat) (k v : Value) : Option TypeDesc → Option (Value × St)
  | some d => bif keyKind d k && cellGround k then muGo σ l k v (loEs (σ.mem.get l)) else fail "mapUpdate kind"
  | none => fail "mapUpdate kind"
def efPut (P : Program) (σ : St) : Option Value → Option Value → Option Value → Option TypeDesc → Option (Value × St)
  | some (.map (some l)), some k, some v, some (.map key _) => muKind σ l k v (P.underlying key)
  | _, _, _, _ => fail "mapUpdate"
def efMap (σ : St) : Option Operand → Option (Value × St)
  | none => some (.map (some σ.next), σ.new ⟨[], true, 0, some (.mp [])⟩)
  | some _ => fail "makeMap"
/-- Operations that turn what was there. -/
def evEff (P : Program) (call : Run) (e : Env) (σ : St) (o : Oper) : Option (Value × St) :=
  match o.op with
  | .store t x v => efStore P σ t (e x) (e v)
  | .call c => efCall P call e σ c c.callee
  | .makeMap _ r => efMap σ r
  | .mapUpdate t m k v => efPut P σ (e m) (e k) (e v) (P.underlying t)
  | _ => fail "effect"

def bitOf (m i : Nat) : Bool := Nat.beq (Nat.mod (Nat.shiftRight m i) 2) 1
def glob (gl g : Nat) : Option Value := bif bitOf gl g then some (.pointer (some ⟨g, 0, none⟩)) else fail "global"
def envOf (gl : Nat) (tm : Tr Value) : Env
  | .tmp t => tm.get t
  | .const v => bif ground v then some v else fail "const"
  | .global g => glob gl g
  | .func f => some (.func (.func f) #[] #[])

def putD (tm : Tr Value) (dst : Option Tmp) (v : Value) : Tr Value :=
  match dst with
  | some d => tm.put d (some v)
  | none => tm

/-- Is the operation wanted? -/
def wantedA (ops : Array Oper) (get : Nat → Option Value) (o : Oper) : Option Bool :=
  match o.guard with
  | none => some true
  | some (j, want) => match ops[j]? with
    | some g => match g.dst with
      | some d => match get d with
        | some (.bool b) => some (b == want)
        | some _ => some false
        | none => fail "guard unset"
      | none => fail "guard"
    | none => fail "guard"

def opNE (σ : St) : Option (Value × Option Blk) → Option (Value × St)
  | some (v, none) => some (v, σ)
  | some (v, some B) => some (v, σ.new B)
  | none => fail "op"
/-- One operation. -/
def evOp (P : Program) (call : Run) (e : Env) (σ : St) (o : Oper) : Option (Value × St) :=
  bif isEff o then evEff P call e σ o else opNE σ (evNE P e σ o)

abbrev ListF := Tr Value → St → Option (Tr Value × St)
def liAfter (k : ListF) (tm : Tr Value) (dst : Option Tmp) : Option (Value × St) → Option (Tr Value × St)
  | some (v, σ') => k (putD tm dst v) σ'
  | none => fail "op"
def liStep (P : Program) (gl : Nat) (call : Run) (o : Oper) (k : ListF) (tm : Tr Value) (σ : St) : Option Bool → Option (Tr Value × St)
  | some true => liAfter k tm o.dst (evOp P call (envOf gl tm) σ o)
  | some false => k (putD tm o.dst undef) σ
  | none => fail "guard"
def evList (P : Program) (gl : Nat) (call : Run) (ops : Array Oper) (l : List Oper) : ListF :=
  List.rec (motive := fun _ => ListF) (fun tm σ => some (tm, σ)) (fun o _ ih tm σ => liStep P gl call o ih tm σ (wantedA ops tm.get o)) l

/-- What must come before an operation, as a set of bits, for each operation. -/
def masks : List Oper → List Nat → List Nat
  | [], ms => ms
  | o :: rest, ms =>
    let m := o.after.toList.foldl (fun s e => bif Region.binds .any e then Nat.lor s (Nat.lor (1 <<< e.on) (ms.getD e.on 0)) else s) 0
    masks rest (ms ++ [m])


structure PItem where
  i : Nat
  o : Oper
  mask : Nat
  eff : Bool

/-- The order of a region: what turns nothing as early as it may. -/
def takeNE (items : List PItem) (undone : Nat) : List PItem × List PItem :=
  -- undone: the effects that are not yet done, as bits
  match items with
  | [] => ([], [])
  | it :: rest =>
    let r := takeNE rest undone
    bif !it.eff && Nat.beq (Nat.land it.mask undone) 0 then (it :: r.1, r.2) else (r.1, it :: r.2)
def planGo : Nat → List PItem → Nat → List PItem
  | 0, items, _ => items
  | f + 1, items, undone =>
    let r := takeNE items undone
    match r.2 with
    | [] => r.1
    | it :: rest => r.1 ++ it :: planGo f rest (Nat.xor undone (1 <<< it.i))
def pitems : List Oper → List Nat → Nat → List PItem
  | o :: os, m :: ms, i => ⟨i, o, m, isEff o⟩ :: pitems os ms (i + 1)
  | _, _, _ => []
def planOf (ops : Array Oper) : List PItem :=
  let ms := masks ops.toList []
  let items := pitems ops.toList ms 0
  planGo items.length items (items.foldl (fun s it => bif it.eff then Nat.lor s (1 <<< it.i) else s) 0)


def writerOf : List Oper → Nat → Tmp → Option Nat
  | [], _, _ => none
  | o :: os, i, t => match o.dst with
    | some d => bif Nat.beq d t then some i else writerOf os (i + 1) t
    | none => writerOf os (i + 1) t

/-- What an operation of a region sees: what was there, and what those before it have left. -/
def regEnv (gl : Nat) (tm0 : Tr Value) (ops : Array Oper) (ms : List Nat) (x mask : Nat) (V : Tr Value) : Env
  | .tmp t => match writerOf ops.toList 0 t with
    | some y => bif bitOf mask y then V.get y else bif Nat.beq y x || bitOf (ms.getD y 0) x then tm0.get t else fail "region order of a temporary"
    | none => tm0.get t
  | .const v => bif ground v then some v else fail "const"
  | .global g => glob gl g
  | .func f => some (.func (.func f) #[] #[])

def wantedR (ops : Array Oper) (mask : Nat) (V : Tr Value) (o : Oper) : Option Bool :=
  match o.guard with
  | none => some true
  | some (j, want) => match ops[j]? with
    | some g => match g.dst with
      | some _ => bif bitOf mask j then (match V.get j with
        | some (.bool b) => some (b == want)
        | some _ => some false
        | none => fail "guard unset") else fail "guard"
      | none => fail "guard"
    | none => fail "guard"

def readsMem (o : Oper) : Bool :=
  match o.op with
  | .load .. | .convert .. | .slice .. | .lookup .. => true
  | _ => false

def sameCell : Value → Value → Bool
  | .chan (some a), .chan (some b) => Nat.beq a b
  | .bool a, .bool b => a == b
  | .int j a, .int k b => decide (j = k) && decide (a = b)
  | .string a, .string b => decide (a.data.toList = b.data.toList)
  | .pointer none, .pointer none => true
  | .pointer (some ⟨a, o, none⟩), .pointer (some ⟨b, p, none⟩) => Nat.beq a b && Nat.beq o p
  | .slice none m c, .slice none n d => Nat.beq m n && Nat.beq c d
  | .slice (some ⟨a, o, none⟩) m c, .slice (some ⟨b, p, none⟩) n d => Nat.beq a b && Nat.beq o p && Nat.beq m n && Nat.beq c d
  | .nilFunc, .nilFunc => true
  | .nilIface, .nilIface => true
  | .func (.func f) ⟨[]⟩ ⟨[]⟩, .func (.func g) ⟨[]⟩ ⟨[]⟩ => Nat.beq f g
  | .func (.yield f) ⟨[]⟩ ⟨[]⟩, .func (.yield g) ⟨[]⟩ ⟨[]⟩ => Nat.beq f g
  | .map (some a), .map (some b) => Nat.beq a b
  | .map none, .map none => true
  | _, _ => false
def sameCells : List Value → List Value → Bool
  | [], [] => true
  | a :: l, b :: m => sameCell a b && sameCells l m
  | _, _ => false
def sameV : Value → Value → Bool
  | .agg a, .agg b => sameCells a.toList b.toList
  | a, b => sameCell a b

def reSame (v : Value) : Option (Value × Option Blk) → Bool
  | some (v', none) => sameV v v'
  | _ => false
def recheck (P : Program) (gl : Nat) (tm0 : Tr Value) (ops : Array Oper) (ms : List Nat) (V : Tr Value) (σ : St) : List (PItem × Value) → Bool
  | [] => true
  | (it, v) :: rest => reSame v (evNE P (regEnv gl tm0 ops ms it.i it.mask V) σ it.o) && recheck P gl tm0 ops ms V σ rest
abbrev PlSt := Tr Value × St × List (PItem × Value)
def plEff (P : Program) (gl : Nat) (tm0 : Tr Value) (ops : Array Oper) (ms : List Nat) (it : PItem) (V : Tr Value) (ld : List (PItem × Value)) : Option (Value × St) → Option PlSt
  | some (v, σ') => bif recheck P gl tm0 ops ms (V.put it.i (some v)) σ' (ld.filter fun x => !bitOf it.mask x.1.i) then some (V.put it.i (some v), σ', ld.filter fun x => !bitOf it.mask x.1.i) else fail "a load hangs on the order"
  | none => fail "effect"
def plNE (P : Program) (gl : Nat) (tm0 : Tr Value) (ops : Array Oper) (ms : List Nat) (it : PItem) (V : Tr Value) (σ : St) (ld : List (PItem × Value)) : Option (Value × Option Blk) → Option PlSt
  | some (v, none) => some (V.put it.i (some v), σ, bif readsMem it.o then (it, v) :: ld else ld)
  | some (v, some B) => bif recheck P gl tm0 ops ms (V.put it.i (some v)) (σ.new B) ld then some (V.put it.i (some v), σ.new B, ld) else fail "a load hangs on the order"
  | none => fail "op"
def plStep (P : Program) (gl : Nat) (call : Run) (tm0 : Tr Value) (ops : Array Oper) (ms : List Nat) (it : PItem) (V : Tr Value) (σ : St) (ld : List (PItem × Value)) : Option Bool → Option PlSt
  | none => fail "guard"
  | some false => some (V.put it.i (some undef), σ, ld)
  | some true => bif it.eff then plEff P gl tm0 ops ms it V ld (evEff P call (regEnv gl tm0 ops ms it.i it.mask V) σ it.o) else plNE P gl tm0 ops ms it V σ ld (evNE P (regEnv gl tm0 ops ms it.i it.mask V) σ it.o)
def evPlan (P : Program) (gl : Nat) (call : Run) (tm0 : Tr Value) (ops : Array Oper) (ms : List Nat) : List PItem → Tr Value → St → List (PItem × Value) → Option (Tr Value × St)
  | [], V, σ, _ => some (V, σ)
  | it :: rest, V, σ, ld => match plStep P gl call tm0 ops ms it V σ ld (wantedR ops it.mask V it.o) with
    | some (V', σ', ld') => evPlan P gl call tm0 ops ms rest V' σ' ld'
    | none => none

def chkPlan (n : Nat) : List PItem → Nat → Option Nat → Bool
  | [], seen, _ => Nat.beq (seen + 1) (1 <<< n)
  | it :: rest, seen, le =>
    !bitOf seen it.i && Nat.blt it.i n && Nat.beq (Nat.land it.mask seen) it.mask && (match le with | some k => bitOf it.mask k | none => true) &&
      chkPlan n rest (Nat.lor seen (1 <<< it.i)) (bif it.eff then some it.i else le)

def tmpsOk (items : List PItem) : Bool :=
  items.all fun y => match y.o.dst with
    | none => true
    | some d => items.all fun x => Nat.beq x.i y.i || (match x.o.dst with | some d' => !Nat.beq d d' | none => true)

def itemsOf (ops : Array Oper) : List PItem := pitems ops.toList (masks ops.toList []) 0

def regOk (ops : Array Oper) : Bool := chkPlan ops.size (planOf ops) 0 none && tmpsOk (itemsOf ops)

def finTm : List Oper → Nat → Tr Value → Tr Value → Tr Value
  | [], _, _, tm => tm
  | o :: os, i, V, tm => match V.get i with
    | some v => finTm os (i + 1) V (putD tm o.dst v)
    | none => finTm os (i + 1) V (match o.dst with | some d => tm.put d none | none => tm)

def evRegion (P : Program) (gl : Nat) (call : Run) (ops : Array Oper) (draw : Bool) (tm : Tr Value) (σ : St) : Option (Tr Value × St) :=
  match draw with
  | false => evList P gl call ops ops.toList tm σ
  | true => match regOk ops with
    | true => match evPlan P gl call tm ops (masks ops.toList []) (planOf ops) .nil σ [] with
      | some (V, σ') => some (finTm ops.toList 0 V tm, σ')
      | none => fail "region"
    | false => fail "region order"

inductive Out where
  | normal
  | exit (id : Nat)
  | ret

abbrev CodeF := Tr Value → St → Option (Out × Tr Value × St)

abbrev CodeR := Option (Out × Tr Value × St)
def loNext (k : CodeF) : CodeR → CodeR
  | some (.normal, tm', σ') => k tm' σ'
  | some (.exit id, tm', σ') => some (.exit id, tm', σ')
  | some (.ret, tm', σ') => some (.ret, tm', σ')
  | none => fail "loop"
def evLoop (body : CodeF) (n : Nat) : CodeF :=
  Nat.rec (motive := fun _ => CodeF) (fun _ _ => fail "loop fuel") (fun _ ih tm σ => loNext ih (body tm σ)) n
def coReg : Option (Tr Value × St) → CodeR
  | some (tm', σ') => some (.normal, tm', σ')
  | none => fail "region"
def coCond (a b : CodeF) (tm : Tr Value) (σ : St) : Option Value → CodeR
  | some (.bool true) => a tm σ
  | some (.bool false) => b tm σ
  | _ => fail "cond"
def coBlock (id : Nat) : CodeR → CodeR
  | some (.normal, tm', σ') => some (.normal, tm', σ')
  | some (.exit id', tm', σ') => bif Nat.beq id' id then some (.normal, tm', σ') else some (.exit id', tm', σ')
  | some (.ret, tm', σ') => some (.ret, tm', σ')
  | none => fail "block"
def dstOk (n : Nat) (o : Oper) : Bool :=
  match o.dst with
  | some d => Nat.ble (Nat.succ d) n
  | none => true
def dstsOk (n : Nat) : Code → Bool
  | .region _ ops _ => ops.toList.all (dstOk n)
  | .seq a b => dstsOk n a && dstsOk n b
  | .cond _ a b => dstsOk n a && dstsOk n b
  | .block _ a => dstsOk n a
  | .loop a => dstsOk n a
  | _ => true
def roLp : Option Blk → Option LpRec
  | some B => match B.ob with
    | some (.lp r) => some r
    | _ => none
  | none => none
def setOb (σ : St) (l : Nat) (o : Option Ob) : St := ⟨σ.mem.put l (some ⟨[], true, 0, o⟩), σ.next⟩
def rfEnd (l : Nat) (tm : Tr Value) (σ : St) : Option Code → CodeR
  | none => some (.normal, tm, setOb σ l none)
  | some .ret => some (.ret, tm, setOb σ l none)
  | some (.exit id) => some (.exit id, tm, setOb σ l none)
  | some _ => fail "loop's jump"
def rfState (l : Nat) (tm : Tr Value) (σ : St) : Option LpRec → CodeR
  | some r => match r.state with
    | .busy => fail "loop busy"
    | _ => rfEnd l tm σ r.pending
  | none => fail "loop"
def rfOut (l : Nat) (tm : Tr Value) : Option (Value × St) → CodeR
  | some (_, σ) => rfState l tm σ (roLp (σ.mem.get l))
  | none => fail "range over a function"
def rfFn (call : Run) (σ : St) (g : FuncId) (as : List Value) : Option Func → Option (Value × St)
  | some fn => match fn.body with
    | some _ => call.call g as σ
    | none => fail "range over no body"
  | none => fail "range over no function"
def rfVal (P : Program) (call : Run) (σ : St) (l : Nat) : Option Value → Option (Value × St)
  | some (.func (.func g) first captured) => rfFn call σ g (first.toList ++ [.func (.yield l) #[] #[]] ++ captured.toList) P.funcs[g]?
  | _ => fail "range over no function"
def lpOk (n : Nat) (ps : List Tmp) (assign body : Code) : Bool := dstsOk n assign && dstsOk n body && ps.all fun t => Nat.ble (Nat.succ t) n
def rlOk (σ : St) : Option Nat → Bool
  | none => true
  | some l => (roLp (σ.mem.get l)).isSome
def coRange (P : Program) (gl : Nat) (call : Run) (fi : Option Nat × Nat) (f : Operand) (ps : List Tmp) (assign body : Code) (tm : Tr Value) (σ : St) : CodeR :=
  bif lpOk fi.2 ps assign body && rlOk σ fi.1 then
    rfOut σ.next tm (rfVal P call (σ.new ⟨[], true, 0, some (.lp ⟨.ready, none, fi.2, tm, ps, assign, body⟩)⟩) σ.next (envOf gl tm f))
  else fail "loop's temporaries"
def coNo : CodeF := fun _ _ => fail "code"
def evCode (P : Program) (gl : Nat) (call : Run) (rounds : Nat) (fi : Option Nat × Nat) (c : Code) : CodeF :=
  Code.rec (motive := fun _ => CodeF)
    (fun tm σ => some (.normal, tm, σ))
    (fun _ ops draw tm σ => coReg (evRegion P gl call ops draw tm σ))
    (fun _ _ ha hb tm σ => loNext hb (ha tm σ))
    (fun x _ _ ha hb tm σ => coCond ha hb tm σ (envOf gl tm x))
    (fun id _ ha tm σ => coBlock id (ha tm σ))
    (fun _ ha => evLoop ha rounds)
    (fun f ps a b _ _ tm σ => coRange P gl call fi f ps.toList a b tm σ)
    (fun id tm σ => some (.exit id, tm, σ))
    (fun _ _ => coNo)
    (fun _ => coNo)
    (fun _ => coNo)
    (fun tm σ => some (.ret, tm, σ))
    (fun _ => coNo) c

def tmOf : List Value → Nat → Tr Value → Tr Value
  | [], _, tm => tm
  | v :: vs, i, tm => tmOf vs (i + 1) (tm.put i (some v))

def reCons (v : Option Value) : Option (List Value) → Option (List Value)
  | some vs => match v with
    | some v => some (v :: vs)
    | none => fail "results"
  | none => fail "results"
def reCell (P : Program) (σ : St) (t : TypeId) : Option Value → Option Value
  | some (.pointer (some ⟨l, o, none⟩)) => loadV P σ t l o
  | _ => fail "results"
def evResults (P : Program) (tm : Tr Value) (σ : St) : List ResultVar → Option (List Value)
  | [] => some []
  | .tmp t :: rest => reCons (tm.get t) (evResults P tm σ rest)
  | .cell a t :: rest => reCons (reCell P σ t (tm.get a)) (evResults P tm σ rest)

/-- Calls whose answers are known beforehand. -/
abbrev Oracle := CallF
def caRes (σ : St) : Option (List Value) → Option (Value × St)
  | some [v] => some (v, σ)
  | some vs => some (.tuple vs.toArray, σ)
  | none => fail "results"
def caOut (P : Program) (rs : List ResultVar) : CodeR → Option (Value × St)
  | some (.exit _, _, _) => fail "exit"
  | some (.normal, tm, σ') | some (.ret, tm, σ') => caRes σ' (evResults P tm σ' rs)
  | none => fail "call"
def caFn (P : Program) (gl : Nat) (call : Run) (rounds : Nat) (args : List Value) (σ : St) (n : Nat) (rs : List ResultVar) : Option Code → Option (Value × St)
  | some c => bif dstsOk n c && Nat.ble args.length n then caOut P rs (evCode P gl call rounds (none, n) c (tmOf args 0 .nil) σ) else fail "temporaries"
  | none => fail "no body"
def caBody (P : Program) (gl : Nat) (call : Run) (rounds : Nat) (args : List Value) (σ : St) : Option Func → Option (Value × St)
  | some fn => caFn P gl call rounds args σ fn.ntmps fn.results.toList fn.body
  | none => fail "no function"
def caOrc (P : Program) (gl : Nat) (call : Run) (rounds : Nat) (f : FuncId) (args : List Value) (σ : St) : Option (Value × St) → Option (Value × St)
  | some r => some r
  | none => caBody P gl call rounds args σ P.funcs[f]?
def putPs : List Tmp → List Value → Tr Value → Tr Value
  | p :: ps, v :: vs, tm => putPs ps vs (tm.put p (some v))
  | _, _, tm => tm
def rnEnd (l : Nat) (jump : Option Code) (σ : St) : Option LpRec → Option (Value × St)
  | some r => some (.bool jump.isNone, setOb σ l (some (.lp { r with state := bif jump.isNone then .ready else .done, pending := jump })))
  | none => fail "round"
def rnOut (l : Nat) : CodeR → Option (Value × St)
  | some (.normal, _, σ) => rnEnd l none σ (roLp (σ.mem.get l))
  | some (.ret, _, σ) => rnEnd l (some .ret) σ (roLp (σ.mem.get l))
  | some (.exit id, _, σ) => rnEnd l (some (.exit id)) σ (roLp (σ.mem.get l))
  | none => fail "round"
def rnBody (l : Nat) (body : CodeF) (tm : Tr Value) (σ : St) : Option LpRec → Option (Value × St)
  | some r => match r.state with
    | .ready => rnOut l (body tm (setOb σ l (some (.lp { r with state := .busy }))))
    | _ => fail "round: loop not ready"
  | none => fail "round"
def rnAssign (l : Nat) (body : CodeF) : CodeR → Option (Value × St)
  | some (.normal, tm, σ) => rnBody l body tm σ (roLp (σ.mem.get l))
  | _ => fail "round's assignment"
def rnRec (P : Program) (gl : Nat) (call : Run) (rounds : Nat) (l : Nat) (args : List Value) (σ : St) : Option LpRec → Option (Value × St)
  | some r => bif Nat.beq args.length r.params.length then
      rnAssign l (evCode P gl call rounds (some l, r.n) r.body) (evCode P gl call rounds (some l, r.n) r.assign (putPs r.params args r.tm) σ) else fail "round's arguments"
  | none => fail "round: no loop"
/-- A round. -/
def evRnd (P : Program) (gl : Nat) (call : Run) (rounds : Nat) : CallF := fun l args σ => rnRec P gl call rounds l args σ (roLp (σ.mem.get l))
def evRun (P : Program) (gl : Nat) (orc : Oracle) (rounds n : Nat) : Run :=
  Nat.rec (motive := fun _ => Run) ⟨fun _ _ _ => fail "calls fuel", fun _ _ _ => fail "rounds fuel"⟩
    (fun _ ih => ⟨fun f args σ => caOrc P gl ih rounds f args σ (orc f args σ), evRnd P gl ih rounds⟩) n
def evCall (P : Program) (gl : Nat) (orc : Oracle) (rounds n : Nat) : CallF := (evRun P gl orc rounds n).call

end
end Go.Proofs.YtcjolamfjgdgjaaGreatDoor.Ev
