/-
  Comparisons, quotients and remainders of words: no Go in sight.
-/
import Derived.Test.YtjcaobomplpkeaaDoorPure
import Derived.Test.YtjcaobomplpkeaaDoorRingMath
namespace Go.Proofs.YtjcaobomplpkeaaDoor
open Go.RowKit (wrap32 wrap64)

theorem lt_yes {x y : Int} (h : x < y) : binI 17 x y = 1 := by rw [bin17, decide_eq_true h]; rfl
theorem lt_no {x y : Int} (h : ¬ x < y) : binI 17 x y = 0 := by rw [bin17, decide_eq_false h]; rfl
theorem le_yes {x y : Int} (h : x ≤ y) : binI 18 x y = 1 := by rw [bin18, decide_eq_true h]; rfl
theorem le_no {x y : Int} (h : ¬ x ≤ y) : binI 18 x y = 0 := by rw [bin18, decide_eq_false h]; rfl
theorem eq_yes {x y : Int} (h : x = y) : binI 15 x y = 1 := by rw [bin15, beq_iff_eq.2 h]; rfl
theorem eq_no {x y : Int} (h : ¬ x = y) : binI 15 x y = 0 := by rw [bin15, beq_eq_false_iff_ne.2 h]; rfl
theorem ne_yes {x y : Int} (h : ¬ x = y) : binI 16 x y = 1 := by
  have e : (x != y) = true := by simpa using h
  rw [bin16, e]; rfl
theorem ne_no {x y : Int} (h : x = y) : binI 16 x y = 0 := by
  have e : (x != y) = false := by simpa using h
  rw [bin16, e]; rfl
theorem ltu_yes {x y : Int} (h : x % 18446744073709551616 < y % 18446744073709551616) : binI 19 x y = 1 := by
  rw [bin19, IntKind.wrap_u64, IntKind.wrap_u64, decide_eq_true h]; rfl
theorem ltu_no {x y : Int} (h : ¬ x % 18446744073709551616 < y % 18446744073709551616) : binI 19 x y = 0 := by
  rw [bin19, IntKind.wrap_u64, IntKind.wrap_u64, decide_eq_false h]; rfl

/-- Quotient times divisor plus remainder. -/
theorem div_back (x y : Int) (hx : W64 x) (hy : ¬ y = 0) : (binI 4 (binI 6 (binI 7 x y) y) (binI 8 x y) == x) = true := by
  rw [beq_iff_eq, bin4, bin6, bin7, bin8, quoI, remI, if_neg hy, if_neg hy]
  obtain ⟨k, hk⟩ := wrap_ex (x.tdiv y)
  rw [hk]
  have e : (x.tdiv y + k * 18446744073709551616) * y = x.tdiv y * y + k * y * 18446744073709551616 := by
    rw [Int.add_mul, Int.mul_assoc k, Int.mul_comm 18446744073709551616, ← Int.mul_assoc k]
  rw [e, wrap_add]
  obtain ⟨l, hl⟩ := wrap_ex (x.tdiv y * y)
  rw [hl]
  have t := Int.tmod_add_mul_tdiv x y
  rw [Int.mul_comm] at t
  rw [wrap_of (y := x) (k := l) (by omega), wrap_id hx]
theorem rem_eq (x y : Int) (hy : ¬ y = 0) : binI 8 x y = x.tmod y := by rw [bin8, remI, if_neg hy]
theorem rem_bound (x y : Int) : (0 < y → -y < x.tmod y ∧ x.tmod y < y) ∧ (y < 0 → y < x.tmod y ∧ x.tmod y < -y) := by
  constructor
  · intro h
    have h1 := Int.lt_tmod_of_pos x h
    have h2 := Int.tmod_lt_of_pos x h
    omega
  · intro h
    have h1 := Int.lt_tmod_of_pos x (b := -y) (by omega)
    have h2 := Int.tmod_lt_of_pos x (b := -y) (by omega)
    rw [Int.tmod_neg] at h1 h2
    omega
theorem rem_sign (x y : Int) : (0 ≤ x → 0 ≤ x.tmod y) ∧ (x ≤ 0 → x.tmod y ≤ 0) := by
  constructor
  · exact fun h => Int.tmod_nonneg y h
  · intro h
    have := Int.tmod_nonneg (a := -x) y (by omega)
    rw [Int.neg_tmod] at this
    omega
end Go.Proofs.YtjcaobomplpkeaaDoor
