/-
  The answers of the arithmetic on words as plain functions on integers: no Go in sight.
-/
import Derived.RowKit
import Derived.IntWalk
import Derived.Laws.Bits64
import Derived.OpenShut
namespace Go.Proofs.YtamkoncjkngneaaDoor
open Go.RowKit (wrap32 wrap64)

/-- The answer of a unary operation. -/
def unI (op a : Int) : Int :=
  if op = 20 then wrap64 (-a) else if op = 21 then bits .xor .i64 (-1) a else 0

/-- The quotient and the remainder, total. -/
def quoI (a b : Int) : Int := if b = 0 then 0 else wrap64 (a.tdiv b)
def remI (a b : Int) : Int := if b = 0 then 0 else a.tmod b
/-- The shift count: the lowest six bits. -/
def shcI (b : Int) : Int := b % 64
def tru (p : Bool) : Int := if p then 1 else 0

/-- The answer of a binary operation. -/
def binI (op a b : Int) : Int :=
  if op = 4 then wrap64 (a + b) else
  if op = 5 then wrap64 (a - b) else
  if op = 6 then wrap64 (a * b) else
  if op = 7 then quoI a b else
  if op = 8 then remI a b else
  if op = 9 then bits .and .i64 a b else
  if op = 10 then bits .or .i64 a b else
  if op = 11 then bits .xor .i64 a b else
  if op = 12 then wrap64 (a * 2 ^ (shcI b).toNat) else
  if op = 13 then wrap64 (IntKind.u64.wrap a / 2 ^ (shcI b).toNat) else
  if op = 14 then a / 2 ^ (shcI b).toNat else
  if op = 15 then tru (a == b) else
  if op = 16 then tru (a != b) else
  if op = 17 then tru (decide (a < b)) else
  if op = 18 then tru (decide (a ≤ b)) else
  if op = 19 then tru (decide (IntKind.u64.wrap a < IntKind.u64.wrap b)) else 0

theorem shcI_lo (b : Int) : 0 ≤ shcI b := by unfold shcI; omega
theorem shcI_hi (b : Int) : shcI b ≤ 63 := by unfold shcI; omega
theorem shcI_bits (b : Int) : bits .and .u64 (IntKind.u64.wrap b) 63 = shcI b := by
  show IntKind.u64.wrap ((BitVec.ofInt 64 (IntKind.u64.wrap b) &&& BitVec.ofInt 64 63).toNat : Int) = _
  have h : IntKind.u64.wrap b = b % 18446744073709551616 := IntKind.wrap_u64 b
  have hp : 0 ≤ b % 18446744073709551616 := by omega
  rw [h, BitVec.toNat_and, IntKind.wrap_u64]
  have e1 : (BitVec.ofInt 64 63).toNat = 2 ^ 6 - 1 := by decide
  rw [e1, Nat.and_two_pow_sub_one_eq_mod, BitVec.toNat_ofInt]
  unfold shcI
  omega
theorem min_shc (b : Int) : min (shcI b).toNat 64 = (shcI b).toNat := by
  have := shcI_hi b
  omega
theorem bin4 (a b : Int) : binI 4 a b = wrap64 (a + b) := rfl
theorem bin5 (a b : Int) : binI 5 a b = wrap64 (a - b) := rfl
theorem bin6 (a b : Int) : binI 6 a b = wrap64 (a * b) := rfl
theorem bin7 (a b : Int) : binI 7 a b = quoI a b := rfl
theorem bin8 (a b : Int) : binI 8 a b = remI a b := rfl
theorem bin9 (a b : Int) : binI 9 a b = bits .and .i64 a b := rfl
theorem bin10 (a b : Int) : binI 10 a b = bits .or .i64 a b := rfl
theorem bin11 (a b : Int) : binI 11 a b = bits .xor .i64 a b := rfl
theorem bin12 (a b : Int) : binI 12 a b = wrap64 (a * 2 ^ (shcI b).toNat) := rfl
theorem bin13 (a b : Int) : binI 13 a b = wrap64 (IntKind.u64.wrap a / 2 ^ (shcI b).toNat) := rfl
theorem bin14 (a b : Int) : binI 14 a b = a / 2 ^ (shcI b).toNat := rfl
theorem bin15 (a b : Int) : binI 15 a b = tru (a == b) := rfl
theorem bin16 (a b : Int) : binI 16 a b = tru (a != b) := rfl
theorem bin17 (a b : Int) : binI 17 a b = tru (decide (a < b)) := rfl
theorem bin18 (a b : Int) : binI 18 a b = tru (decide (a ≤ b)) := rfl
theorem bin19 (a b : Int) : binI 19 a b = tru (decide (IntKind.u64.wrap a < IntKind.u64.wrap b)) := rfl
/-- An int64. -/
def W64 (x : Int) : Prop := -9223372036854775808 ≤ x ∧ x ≤ 9223372036854775807
theorem w64_of_wf {x : Int} (h : (Lit.int .i64 x).wf = true) : W64 x := bounds_i64 h
end Go.Proofs.YtamkoncjkngneaaDoor
