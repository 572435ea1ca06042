/-
  Shifts, quotients and comparisons of words: no Go in sight.
-/
import Derived.Test.YtjcaobomplpkeaaDoorPure
import Derived.Test.YtjcaobomplpkeaaDoorRingMath
namespace Go.Proofs.YtjcaobomplpkeaaDoor
open Go.RowKit (wrap32 wrap64)

theorem shc_small {p : Int} (h0 : 0 ≤ p) (h1 : p < 64) : shcI p = p := by unfold shcI; omega
theorem wrap_mul (x y : Int) : wrap64 (wrap64 x * y) = wrap64 (x * y) := by
  obtain ⟨k, hk⟩ := wrap_ex x
  rw [hk]
  have e : (x + k * 18446744073709551616) * y = x * y + k * y * 18446744073709551616 := by
    rw [Int.add_mul, Int.mul_assoc k, Int.mul_comm 18446744073709551616, ← Int.mul_assoc k]
  rw [e, wrap_add]
theorem wrap_mul' (x y : Int) : wrap64 (y * wrap64 x) = wrap64 (y * x) := by rw [Int.mul_comm, wrap_mul, Int.mul_comm]
theorem shl_twice (a p q : Int) (hp0 : 0 ≤ p) (hp1 : p < 64) (hq0 : 0 ≤ q) (hq1 : q < 64) (h : p + q < 64) : (binI 12 (binI 12 a p) q == binI 12 a (p + q)) = true := by
  rw [beq_iff_eq]
  rw [bin12, bin12, bin12, wrap_mul, shc_small hp0 hp1, shc_small hq0 hq1, shc_small (by omega) h, Int.mul_assoc, ← Int.pow_add]
  congr 3
  omega
theorem shl_out (a p q : Int) (hp0 : 0 ≤ p) (hp1 : p < 64) (hq0 : 0 ≤ q) (hq1 : q < 64) (h : 64 ≤ p + q) : (binI 12 (binI 12 a p) q == 0) = true := by
  rw [beq_iff_eq]
  rw [bin12, bin12, wrap_mul, shc_small hp0 hp1, shc_small hq0 hq1, Int.mul_assoc, ← Int.pow_add]
  have e : p.toNat + q.toNat = (p.toNat + q.toNat - 64) + 64 := by omega
  rw [e, Int.pow_add, ← Int.mul_assoc]
  have e2 : (2 : Int) ^ 64 = 18446744073709551616 := by decide
  rw [e2]
  have := wrap_add 0 (a * 2 ^ (p.toNat + q.toNat - 64))
  rw [Int.zero_add] at this
  rw [this]
  exact wrap_id ⟨by omega, by omega⟩
theorem shl_mul (a p : Int) : (binI 12 a p == binI 6 a (binI 12 1 p)) = true := by
  rw [beq_iff_eq]
  rw [bin6, bin12, bin12, wrap_mul', Int.one_mul]
theorem pow_small (n : Int) (h0 : 0 ≤ n) (h1 : n < 63) : binI 12 1 n = 2 ^ n.toNat ∧ (1 : Int) ≤ 2 ^ n.toNat ∧ (2 : Int) ^ n.toNat ≤ 4611686018427387904 := by
  have hp : (0 : Int) < 2 ^ n.toNat := Int.pow_pos (by decide)
  have hq : (2 : Int) ^ n.toNat ≤ 4611686018427387904 := by
    have h2 : (2 : Nat) ^ n.toNat ≤ 2 ^ 62 := Nat.pow_le_pow_right (by decide) (by omega)
    have h3 : ((2 ^ n.toNat : Nat) : Int) ≤ ((2 ^ 62 : Nat) : Int) := by exact_mod_cast h2
    have e : ((2 ^ n.toNat : Nat) : Int) = 2 ^ n.toNat := by simp
    rw [e] at h3
    exact h3
  refine ⟨?_, by omega, hq⟩
  rw [bin12, shc_small h0 (by omega), Int.one_mul]
  exact wrap_id ⟨by omega, by omega⟩
/-- The arithmetic shift is the quotient rounded down. -/
theorem sar_down (a n : Int) (ha : W64 a) (h0 : 0 ≤ n) (h1 : n < 63) :
    (binI 8 a (binI 12 1 n) < 0 → (binI 14 a n == binI 5 (binI 7 a (binI 12 1 n)) 1) = true) ∧ (¬ binI 8 a (binI 12 1 n) < 0 → (binI 14 a n == binI 7 a (binI 12 1 n)) = true) := by
  obtain ⟨e, hp, hq⟩ := pow_small n h0 h1
  have e1 : binI 14 a n = a / 2 ^ n.toNat := by
    rw [bin14, shc_small h0 (by omega)]
  rw [e, e1]
  generalize (2 : Int) ^ n.toNat = m at *
  rw [bin5, bin7, bin8]
  unfold remI quoI
  rw [if_neg (by omega), if_neg (by omega)]
  unfold W64 at ha
  have t := Int.tmod_add_mul_tdiv a m
  have d := Int.emod_add_mul_ediv a m
  have t1 := Int.lt_tmod_of_pos a (b := m) (by omega)
  have t2 := Int.tmod_lt_of_pos a (b := m) (by omega)
  have d1 := Int.emod_nonneg a (b := m) (by omega)
  have d2 := Int.emod_lt_of_pos a (b := m) (by omega)
  have td := Int.tdiv_eq_ediv (a := a) (b := m)
  have tm := Int.tmod_eq_emod (a := a) (b := m)
  have sg : m.sign = 1 := Int.sign_eq_one_of_pos (by omega)
  rw [sg] at td
  have lo : -9223372036854775808 ≤ a / m := by
    have h2 := Int.ediv_le_ediv (c := m) (by omega) ha.1
    have h3 : (-9223372036854775808 : Int) ≤ -9223372036854775808 / m := by
      apply (Int.le_ediv_iff_mul_le (by omega)).2
      omega
    omega
  have hi : a / m ≤ 9223372036854775807 := by
    by_cases hn : 0 ≤ a
    · have := Int.ediv_le_self m hn
      omega
    · have := Int.ediv_neg_of_neg_of_pos (a := a) (b := m) (by omega) (by omega)
      omega
  constructor
  · intro hr
    rw [beq_iff_eq]
    split at td
    · rename_i hc
      rw [if_pos hc] at tm
      omega
    · rename_i hc
      have hneg := Int.ediv_neg_of_neg_of_pos (a := a) (b := m) (by omega) (by omega)
      rw [wrap_id (x := a.tdiv m) ⟨by omega, by omega⟩, td]
      rw [wrap_id ⟨by omega, by omega⟩]
      omega
  · intro hr
    rw [beq_iff_eq]
    split at td
    · rw [td, Int.add_zero]
      exact (wrap_id ⟨lo, hi⟩).symm
    · rename_i hc
      rw [if_neg hc] at tm
      omega
end Go.Proofs.YtjcaobomplpkeaaDoor
