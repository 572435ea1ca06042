/-
  'fulling/fullinglaw3.ParserNegativeNumbers': what its runs know of the number and its text, and the runs.
-/
import Derived.Test.YtamkoncjkngneaaDoorParserExamplesRun
import Derived.Test.YtamkoncjkngneaaDoorEvLaw
import Derived.Test.YtamkoncjkngneaaDoorNegScan
import Derived.KernelRfl
namespace Go.Proofs.YtamkoncjkngneaaDoor
open Go.RowKit
noncomputable section
def noDig : List UInt8 → Bool
  | [] => true
  | c :: _ => !(Nat.ble 48 c.toNat && Nat.ble c.toNat 57)
def nEq (i : Nat) (s : ByteArray) (r : Bool) : Option Value := bif Nat.beq i 3 && noDig s.data.toList then some (.bool r) else none
def nSame (L i j : Nat) : Option Value := bif Nat.beq i j && (Nat.beq i L || Nat.beq i 10) then some (.bool true) else none
def nLt (neg : Bool) (i : Nat) (n : Int) : Option Value := bif Nat.beq i 0 && decide (n = 0) then some (.bool neg) else none
def nAdd1 (neg : Bool) (i : Nat) (n : Int) : Option Value := bif neg && Nat.beq i 0 && decide (n = 1) then some (.chan (some 1)) else none
def nCat (k i : Nat) (s : ByteArray) : Option Value := bif Nat.beq i 3 then (bif Ev.lEq s.data.toList (preK k) then some (.chan (some 4)) else bif Ev.lEq s.data.toList [45] then some (.chan (some 9)) else none) else none
def nEnd (i : Nat) (s : ByteArray) : Option Value := bif Nat.beq i 4 && Ev.lEq s.data.toList postA then some (.chan (some 5)) else none
def nBin (neg : Bool) (L k : Nat) : BinOp → Value → Value → Option Value
  | .lss, .chan (some i), .int .i64 n => nLt neg i n
  | .add, .chan (some i), .int .i64 n => nAdd1 neg i n
  | .add, .string s, .chan (some i) => nCat k i s
  | .add, .chan (some i), .string s => nEnd i s
  | .eql, .string s, .chan (some i) => nEq i s false
  | .eql, .chan (some i), .string s => nEq i s false
  | .neq, .string s, .chan (some i) => nEq i s true
  | .neq, .chan (some i), .string s => nEq i s true
  | .eql, .chan (some i), .chan (some j) => nSame L i j
  | _, _, _ => none
def nUn (neg : Bool) (L : Nat) : UnOp → Value → Option Value
  | .neg, .chan (some i) => bif neg && Nat.beq i 1 then some (.chan (some 2)) else bif Nat.beq i L then some (.chan (some 10)) else none
  | _, _ => none
def nLen : Value → Option Value
  | .chan (some i) => bif Nat.beq i 5 then some (.chan (some 6)) else none
  | _ => none
def tokC (k : Int) (s : Value) (p : Value) : List Value := [.int .i64 k, s, p]
def dashToks : Nat → Nat → List Value
  | 0, _ => []
  | k + 1, p => tokC 3 (.string ⟨#[45]⟩) (.int .i64 p) ++ dashToks k (p + 2)
def nToks (k : Nat) : List Value :=
  tokC 1 (.string ⟨#[102, 117, 110, 99]⟩) (.int .i64 0) ++ tokC 1 (.string ⟨#[102]⟩) (.int .i64 5) ++ tokC 3 (.string ⟨#[40]⟩) (.int .i64 6) ++ tokC 3 (.string ⟨#[41]⟩) (.int .i64 7) ++ tokC 3 (.string ⟨#[123]⟩) (.int .i64 9) ++
  tokC 1 (.string ⟨#[114, 101, 116, 117, 114, 110]⟩) (.int .i64 11) ++ dashToks k 18 ++ tokC 2 (.chan (some 3)) (.int .i64 (18 + 2 * k : Nat)) ++ tokC 3 (.string ⟨#[59]⟩) (.chan (some 7)) ++ tokC 3 (.string ⟨#[125]⟩) (.chan (some 8))
def nScanA (k : Nat) (σ : Ev.St) : List Value → Option (Value × Ev.St)
  | [.chan (some i)] => bif Nat.beq i 5 then some (.tuple #[.slice (some ⟨σ.next, 0, none⟩) (9 + k) Ev.ucap, .agg #[.int .i64 0, .int .i64 0]], σ.new ⟨nToks k, false, 3⟩) else none
  | _ => none
def nText (L : Nat) : List Value → Option Value
  | [.chan (some i)] => bif Nat.beq i L then some (.chan (some 3)) else none
  | _ => none
def nParse (L : Nat) (b : Bool) : List Value → Option Value
  | [.chan (some i)] => bif Nat.beq i 3 then some (.tuple #[.chan (some L), .bool true]) else bif Nat.beq i 9 then some (.tuple #[.chan (some 10), .bool b]) else none
  | _ => none
def nPick (k : Nat) : List Value → Option Value
  | [.chan (some i), .int .i64 m] => bif Nat.beq i 11 && decide (m = 6) then some (.int .i64 k) else none
  | _ => none
def nEx : List Value → Option Value
  | [] => some (.bool true)
  | _ => none
def nOrc (scanF textF parseF pickF exF : FuncId) (L k : Nat) (b : Bool) : Ev.Oracle := fun f args σ =>
  bif Nat.beq f scanF then nScanA k σ args else
  match (bif Nat.beq f textF then nText L args else bif Nat.beq f parseF then nParse L b args else bif Nat.beq f pickF then nPick k args else bif Nat.beq f exF then nEx args else none) with
  | some v => some (v, σ)
  | none => none
def nStr (l : List UInt8) : Value := .string ⟨l.toArray⟩
def nInt (n : Int) : Value := .int .i64 n
def nVal (n m : Int) (T : List UInt8) (k : Nat) (mi : Int) : Nat → Option Value
  | 0 => some (nInt n)
  | 1 => some (nInt (n + 1))
  | 2 => some (nInt m)
  | 3 => some (nStr T)
  | 4 => some (nStr (preK k ++ T))
  | 5 => some (nStr (preK k ++ T ++ postA))
  | 6 => some (nInt ((21 + 2 * k + T.length : Nat) : Int))
  | 7 => some (nInt ((18 + 2 * k + T.length : Nat) : Int))
  | 8 => some (nInt ((20 + 2 * k + T.length : Nat) : Int))
  | 9 => some (nStr (45 :: T))
  | 10 => some (nInt (-m))
  | 11 => some (nInt mi)
  | _ => none
abbrev NBinOk (val : Nat → Option Value) (neg : Bool) (L k : Nat) : Prop := ∀ op a b v, nBin neg L k op a b = some v → ∀ ca cb, Ev.At val a ca → Ev.At val b cb → ∃ cv, Ev.At val v cv ∧ Ev.BinIs op ca cb cv
abbrev NUnOk (val : Nat → Option Value) (neg : Bool) (L : Nat) : Prop := ∀ op a v, nUn neg L op a = some v → ∀ ca, Ev.At val a ca → ∃ cv, Ev.At val v cv ∧ Ev.UnIs op ca cv
abbrev NLenOk (val : Nat → Option Value) : Prop := ∀ a v, nLen a = some v → ∀ ca, Ev.At val a ca → ∃ s, ca = .string s ∧ Ev.At val v (.int .i64 s.size)
@[reducible] def nSyms (val : Nat → Option Value) (neg : Bool) (L k : Nat) (hb : NBinOk val neg L k) (hu : NUnOk val neg L) (hl : NLenOk val) : Ev.Syms where
  val := val
  bin := nBin neg L k
  un := nUn neg L
  conv := fun _ _ => none
  len := nLen
  bin_ok := hb
  un_ok := hu
  conv_ok := by intro _ _ _ h; cases h
  len_ok := hl
def negOrc (L k : Nat) (b : Bool) : Ev.Oracle := nOrc 12 20 100 17 4 L k b
def negSays (S : Ev.Syms) (L k : Nat) (b : Bool) : Bool := Ev.saysYes (@Ev.evCall S Tryd.prog parserExamplesBits (negOrc L k b) 1000000 1000000 8 [.chan (some 0), .chan (some 11)] ⟨Ev.startMem parserExamplesTabs, parserExamplesNext⟩)
end
end Go.Proofs.YtamkoncjkngneaaDoor
