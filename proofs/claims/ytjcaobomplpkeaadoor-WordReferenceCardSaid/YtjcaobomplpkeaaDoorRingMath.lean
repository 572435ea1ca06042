/-
  The laws of addition and multiplication on words: no Go in sight.
-/
import Derived.Test.YtjcaobomplpkeaaDoorPure
namespace Go.Proofs.YtjcaobomplpkeaaDoor
open Go.RowKit (wrap32 wrap64)

theorem wrap_ex (x : Int) : ∃ k : Int, wrap64 x = x + k * 18446744073709551616 := by
  unfold wrap64
  exact ⟨-((x + 9223372036854775808) / 18446744073709551616), by omega⟩
theorem wrap_add (x k : Int) : wrap64 (x + k * 18446744073709551616) = wrap64 x := by
  unfold wrap64
  omega
theorem wrap_of {x y k : Int} (h : x = y + k * 18446744073709551616) : wrap64 x = wrap64 y := by rw [h, wrap_add]
theorem wrap_w64 (x : Int) : W64 (wrap64 x) := by unfold W64 wrap64; omega
theorem wrap_id {x : Int} (h : W64 x) : wrap64 x = x := by unfold W64 at h; unfold wrap64; omega

theorem ring_addc (a b : Int) : (binI 4 a b == binI 4 b a) = true := by
  show (wrap64 (a + b) == wrap64 (b + a)) = true
  rw [Int.add_comm]; simp
theorem ring_mulc (a b : Int) : (binI 6 a b == binI 6 b a) = true := by
  show (wrap64 (a * b) == wrap64 (b * a)) = true
  rw [Int.mul_comm]; simp
theorem ring_dist (a b c : Int) : (binI 6 c (binI 4 a b) == binI 4 (binI 6 c a) (binI 6 c b)) = true := by
  show (wrap64 (c * wrap64 (a + b)) == wrap64 (wrap64 (c * a) + wrap64 (c * b))) = true
  rw [beq_iff_eq]
  obtain ⟨k, hk⟩ := wrap_ex (a + b)
  obtain ⟨l, hl⟩ := wrap_ex (c * a)
  obtain ⟨m, hm⟩ := wrap_ex (c * b)
  rw [hk, hl, hm]
  have e1 : c * (a + b + k * 18446744073709551616) = c * a + c * b + c * k * 18446744073709551616 := by
    rw [Int.mul_add, Int.mul_add, Int.mul_assoc]
  rw [e1, wrap_add]
  exact (wrap_of (k := l + m) (by omega)).symm
theorem ring_sub (a b : Int) (h : W64 a) : (binI 5 (binI 4 a b) b == a) = true := by
  show (wrap64 (wrap64 (a + b) - b) == a) = true
  rw [beq_iff_eq]
  obtain ⟨k, hk⟩ := wrap_ex (a + b)
  rw [hk, wrap_of (y := a) (k := k) (by omega), wrap_id h]
theorem ring_neg (a : Int) : (binI 4 a (unI 20 a) == 0) = true := by
  show (wrap64 (a + wrap64 (-a)) == 0) = true
  rw [beq_iff_eq]
  unfold wrap64
  omega
theorem not_eq (a : Int) (h : W64 a) : bits .xor .i64 (-1) a = -1 - a := by
  show IntKind.i64.wrap ((BitVec.ofInt 64 (-1) ^^^ BitVec.ofInt 64 a).toNat : Int) = _
  have e : BitVec.ofInt 64 (-1) = BitVec.allOnes 64 := by decide
  rw [e, BitVec.allOnes_xor, BitVec.toNat_not, IntKind.wrap_i64]
  have h1 : (BitVec.ofInt 64 a).toNat = (a % 18446744073709551616).toNat := by rw [BitVec.toNat_ofInt]; rfl
  rw [h1]
  unfold W64 at h
  omega
theorem ring_not (a : Int) (h : W64 a) : (unI 21 a == binI 5 (-1) a) = true := by
  show (bits .xor .i64 (-1) a == wrap64 (-1 - a)) = true
  rw [beq_iff_eq, not_eq a h]
  unfold W64 at h
  unfold wrap64
  omega
theorem ring_mula (a b c : Int) : (binI 6 (binI 6 a b) c == binI 6 a (binI 6 b c)) = true := by
  show (wrap64 (wrap64 (a * b) * c) == wrap64 (a * wrap64 (b * c))) = true
  rw [beq_iff_eq]
  obtain ⟨k, hk⟩ := wrap_ex (a * b)
  obtain ⟨l, hl⟩ := wrap_ex (b * c)
  rw [hk, hl]
  have e1 : (a * b + k * 18446744073709551616) * c = a * b * c + k * c * 18446744073709551616 := by
    rw [Int.add_mul, Int.mul_assoc k, Int.mul_comm 18446744073709551616, ← Int.mul_assoc k]
  have e2 : a * (b * c + l * 18446744073709551616) = a * b * c + a * l * 18446744073709551616 := by
    rw [Int.mul_add, Int.mul_assoc, Int.mul_assoc]
  rw [e1, e2, wrap_add, wrap_add]
end Go.Proofs.YtjcaobomplpkeaaDoor
