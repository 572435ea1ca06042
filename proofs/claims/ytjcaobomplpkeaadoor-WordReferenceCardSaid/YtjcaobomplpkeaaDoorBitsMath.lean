/-
  The laws of bitwise operations and shifts on words: no Go in sight.
-/
import Derived.Test.YtjcaobomplpkeaaDoorPure
import Derived.Test.YtjcaobomplpkeaaDoorRingMath
namespace Go.Proofs.YtjcaobomplpkeaaDoor
open Go.RowKit (wrap32 wrap64)

theorem xor_and_sum : ∀ (n a b : Nat), a ≤ n → a + b = (a ^^^ b) + 2 * (a &&& b)
  | 0, a, b, h => by
    obtain rfl : a = 0 := by omega
    simp
  | n + 1, a, b, h => by
    have ih := xor_and_sum n (a / 2) (b / 2) (by omega)
    have h1 : (a ^^^ b) / 2 = a / 2 ^^^ b / 2 := Nat.xor_div_two
    have h2 : (a &&& b) / 2 = a / 2 &&& b / 2 := Nat.and_div_two
    have h3 : (a ^^^ b) % 2 = (a % 2) ^^^ (b % 2) := by have := @Nat.xor_mod_two_pow a b 1; simpa using this
    have h4 : (a &&& b) % 2 = (a % 2) &&& (b % 2) := by have := @Nat.and_mod_two_pow a b 1; simpa using this
    have ha : a % 2 = 0 ∨ a % 2 = 1 := by omega
    have hb : b % 2 = 0 ∨ b % 2 = 1 := by omega
    rcases ha with ha | ha <;> rcases hb with hb | hb <;> rw [ha, hb] at h3 h4
    · have h3' : (a ^^^ b) % 2 = 0 := h3
      have h4' : (a &&& b) % 2 = 0 := h4
      omega
    · have h3' : (a ^^^ b) % 2 = 1 := h3
      have h4' : (a &&& b) % 2 = 0 := h4
      omega
    · have h3' : (a ^^^ b) % 2 = 1 := h3
      have h4' : (a &&& b) % 2 = 0 := h4
      omega
    · have h3' : (a ^^^ b) % 2 = 0 := h3
      have h4' : (a &&& b) % 2 = 1 := h4
      omega
theorem or_sum : ∀ (n a b : Nat), a ≤ n → a ||| b = (a ^^^ b) + (a &&& b)
  | 0, a, b, h => by
    obtain rfl : a = 0 := by omega
    simp
  | n + 1, a, b, h => by
    have ih := or_sum n (a / 2) (b / 2) (by omega)
    have h1 : (a ^^^ b) / 2 = a / 2 ^^^ b / 2 := Nat.xor_div_two
    have h2 : (a &&& b) / 2 = a / 2 &&& b / 2 := Nat.and_div_two
    have h5 : (a ||| b) / 2 = a / 2 ||| b / 2 := Nat.or_div_two
    have h3 : (a ^^^ b) % 2 = (a % 2) ^^^ (b % 2) := by have := @Nat.xor_mod_two_pow a b 1; simpa using this
    have h4 : (a &&& b) % 2 = (a % 2) &&& (b % 2) := by have := @Nat.and_mod_two_pow a b 1; simpa using this
    have h6 : (a ||| b) % 2 = (a % 2) ||| (b % 2) := by have := @Nat.or_mod_two_pow a b 1; simpa using this
    have ha : a % 2 = 0 ∨ a % 2 = 1 := by omega
    have hb : b % 2 = 0 ∨ b % 2 = 1 := by omega
    rcases ha with ha | ha <;> rcases hb with hb | hb <;> rw [ha, hb] at h3 h4 h6
    · have h3' : (a ^^^ b) % 2 = 0 := h3
      have h4' : (a &&& b) % 2 = 0 := h4
      have h6' : (a ||| b) % 2 = 0 := h6
      omega
    · have h3' : (a ^^^ b) % 2 = 1 := h3
      have h4' : (a &&& b) % 2 = 0 := h4
      have h6' : (a ||| b) % 2 = 1 := h6
      omega
    · have h3' : (a ^^^ b) % 2 = 1 := h3
      have h4' : (a &&& b) % 2 = 0 := h4
      have h6' : (a ||| b) % 2 = 1 := h6
      omega
    · have h3' : (a ^^^ b) % 2 = 0 := h3
      have h4' : (a &&& b) % 2 = 1 := h4
      have h6' : (a ||| b) % 2 = 1 := h6
      omega

/-- A word's bits as a natural number. -/
def natOf (a : Int) : Nat := (BitVec.ofInt 64 a).toNat
theorem natOf_eq (a : Int) : (natOf a : Int) = a % 18446744073709551616 := by
  unfold natOf
  rw [BitVec.toNat_ofInt]
  omega
theorem natOf_lt (a : Int) : natOf a < 18446744073709551616 := by
  have := natOf_eq a
  omega
theorem wrap_natOf (a : Int) : wrap64 (natOf a : Int) = wrap64 a := by
  rw [natOf_eq]
  unfold wrap64
  omega
theorem natOf_nat (a : Nat) (h : a < 18446744073709551616) : natOf (a : Int) = a := by
  have := natOf_eq (a : Int)
  omega
theorem natOf_wrap (a : Int) : natOf (wrap64 a) = natOf a := by
  have h1 := natOf_eq (wrap64 a)
  have h2 := natOf_eq a
  unfold wrap64 at h1 ⊢
  omega
theorem and_nat (a b : Int) : binI 9 a b = wrap64 ((natOf a &&& natOf b : Nat) : Int) := by
  show IntKind.i64.wrap ((BitVec.ofInt 64 a &&& BitVec.ofInt 64 b).toNat : Int) = _
  rw [BitVec.toNat_and, IntWalk.i64_left]
  rfl
theorem or_nat (a b : Int) : binI 10 a b = wrap64 ((natOf a ||| natOf b : Nat) : Int) := by
  show IntKind.i64.wrap ((BitVec.ofInt 64 a ||| BitVec.ofInt 64 b).toNat : Int) = _
  rw [BitVec.toNat_or, IntWalk.i64_left]
  rfl
theorem xor_nat (a b : Int) : binI 11 a b = wrap64 ((natOf a ^^^ natOf b : Nat) : Int) := by
  show IntKind.i64.wrap ((BitVec.ofInt 64 a ^^^ BitVec.ofInt 64 b).toNat : Int) = _
  rw [BitVec.toNat_xor, IntWalk.i64_left]
  rfl
theorem bit_sum (a b : Int) : (binI 4 (binI 11 a b) (binI 12 (binI 9 a b) 1) == binI 4 a b) = true := by
  rw [beq_iff_eq]
  show wrap64 (binI 11 a b + wrap64 (binI 9 a b * 2 ^ (1 : Nat))) = wrap64 (a + b)
  rw [xor_nat, and_nat]
  have h := xor_and_sum (natOf a) (natOf a) (natOf b) (Nat.le_refl _)
  obtain ⟨k, hk⟩ := wrap_ex ((natOf a ^^^ natOf b : Nat) : Int)
  obtain ⟨l, hl⟩ := wrap_ex ((natOf a &&& natOf b : Nat) : Int)
  rw [hk, hl]
  generalize (natOf a ^^^ natOf b) = X at *
  generalize (natOf a &&& natOf b) = Y at *
  obtain ⟨m, hm⟩ := wrap_ex (((Y : Int) + l * 18446744073709551616) * 2 ^ (1 : Nat))
  rw [hm]
  have ha := natOf_eq a
  have hb := natOf_eq b
  unfold wrap64
  omega
theorem bit_or (a b : Int) : (binI 10 a b == binI 4 (binI 11 a b) (binI 9 a b)) = true := by
  rw [beq_iff_eq]
  show _ = wrap64 (binI 11 a b + binI 9 a b)
  rw [xor_nat, and_nat, or_nat]
  have h := or_sum (natOf a) (natOf a) (natOf b) (Nat.le_refl _)
  rw [h]
  obtain ⟨k, hk⟩ := wrap_ex ((natOf a ^^^ natOf b : Nat) : Int)
  obtain ⟨l, hl⟩ := wrap_ex ((natOf a &&& natOf b : Nat) : Int)
  rw [hk, hl]
  generalize (natOf a ^^^ natOf b) = X at *
  generalize (natOf a &&& natOf b) = Y at *
  exact (wrap_of (k := k + l) (by omega)).symm
theorem and_low (k : Int) : binI 9 k 63 = k % 64 := by
  rw [and_nat]
  have e1 : natOf 63 = 2 ^ 6 - 1 := by decide
  rw [e1, Nat.and_two_pow_sub_one_eq_mod]
  have h := natOf_eq k
  unfold wrap64
  omega
theorem shc_and (k : Int) : shcI (binI 9 k 63) = shcI k := by
  rw [and_low]
  unfold shcI
  omega
theorem bit_count (a k : Int) : (binI 12 a k == binI 12 a (binI 9 k 63)) = true := by
  rw [beq_iff_eq]
  show wrap64 (a * 2 ^ (shcI k).toNat) = wrap64 (a * 2 ^ (shcI (binI 9 k 63)).toNat)
  rw [shc_and]
theorem u64_wrap (a : Int) : IntKind.u64.wrap a = (natOf a : Int) := by rw [IntKind.wrap_u64, natOf_eq]
theorem div_nat (a s : Nat) : ((a : Int) / 2 ^ s) = ((a / 2 ^ s : Nat) : Int) := by simp
theorem shr_nat (a k : Int) : binI 13 a k = wrap64 ((natOf a / 2 ^ (shcI k).toNat : Nat) : Int) := by
  show wrap64 (IntKind.u64.wrap a / 2 ^ (shcI k).toNat) = _
  rw [u64_wrap, div_nat]
theorem natOf_shl (a : Int) (s : Nat) : natOf (a * 2 ^ s) = natOf a * 2 ^ s % 2 ^ 64 := by
  have h1 := natOf_eq (a * 2 ^ s)
  have h2 := natOf_eq a
  have h3 : ((natOf a * 2 ^ s % 2 ^ 64 : Nat) : Int) = (a * 2 ^ s) % 18446744073709551616 := by
    rw [Int.natCast_emod, Int.natCast_mul, h2]
    have e : ((2 ^ s : Nat) : Int) = 2 ^ s := by simp
    have e2 : ((2 ^ 64 : Nat) : Int) = 18446744073709551616 := by decide
    rw [e, e2, Int.mul_emod, Int.emod_emod, ← Int.mul_emod]
  have h4 : (natOf (a * 2 ^ s) : Int) = ((natOf a * 2 ^ s % 2 ^ 64 : Nat) : Int) := by rw [h1, h3]
  exact Int.ofNat.inj h4
theorem bit_back (a k : Int) : (binI 13 (binI 12 a k) k == binI 9 a (binI 13 (-1) k)) = true := by
  rw [beq_iff_eq, shr_nat, and_nat, shr_nat]
  show wrap64 ((natOf (wrap64 (a * 2 ^ (shcI k).toNat)) / 2 ^ (shcI k).toNat : Nat) : Int) = _
  rw [natOf_wrap, natOf_shl]
  have hs0 := shcI_lo k
  have hs1 := shcI_hi k
  obtain ⟨s, hs⟩ : ∃ s : Nat, (shcI k).toNat = s := ⟨_, rfl⟩
  have hs2 : s ≤ 63 := by omega
  rw [hs]
  have e1 : natOf (-1) = 2 ^ 64 - 1 := by decide
  have ep : (2 : Nat) ^ 64 = 2 ^ (64 - s) * 2 ^ s := by rw [← Nat.pow_add]; congr 1; omega
  have hp : 0 < 2 ^ s := Nat.two_pow_pos s
  have e2 : (2 ^ 64 - 1) / 2 ^ s = 2 ^ (64 - s) - 1 := by
    have hq : 0 < 2 ^ (64 - s) := Nat.two_pow_pos _
    rw [ep]
    generalize 2 ^ s = q at *
    generalize 2 ^ (64 - s) = p at *
    apply Nat.div_eq_of_lt_le
    · rw [Nat.sub_mul]; omega
    · have : (p - 1 + 1) * q = p * q := by rw [Nat.sub_add_cancel hq]
      have h0 : 0 < p * q := Nat.mul_pos hq hp
      omega
  have e3 : natOf a * 2 ^ s % 2 ^ 64 / 2 ^ s = natOf a % 2 ^ (64 - s) := by
    rw [ep, Nat.mul_mod_mul_right, Nat.mul_div_cancel _ hp]
  rw [e1, e2, e3, natOf_wrap]
  have e4 : natOf ((2 ^ (64 - s) - 1 : Nat) : Int) = 2 ^ (64 - s) - 1 := by
    apply natOf_nat
    have : 2 ^ (64 - s) ≤ 2 ^ 64 := Nat.pow_le_pow_right (by decide) (by omega)
    omega
  rw [e4, Nat.and_two_pow_sub_one_eq_mod]
theorem sar_neg (a k : Int) (h : a < 0) : binI 14 a k < 0 := by
  show a / 2 ^ (shcI k).toNat < 0
  exact Int.ediv_neg_of_neg_of_pos h (Int.pow_pos (by decide))
theorem sar_nonneg (a k : Int) (h : 0 ≤ a) : 0 ≤ binI 14 a k := by
  show 0 ≤ a / 2 ^ (shcI k).toNat
  exact Int.ediv_nonneg h (Int.le_of_lt (Int.pow_pos (by decide)))
theorem and_nonneg (a : Int) : 0 ≤ binI 9 a 9223372036854775807 ∧ binI 9 a 9223372036854775807 < 9223372036854775808 := by
  rw [and_nat]
  have e1 : natOf 9223372036854775807 = 2 ^ 63 - 1 := by decide
  rw [e1, Nat.and_two_pow_sub_one_eq_mod]
  have h : natOf a % 2 ^ 63 < 2 ^ 63 := Nat.mod_lt _ (by decide)
  generalize natOf a % 2 ^ 63 = m at *
  unfold wrap64
  omega
theorem shr_sar (x k : Int) (h0 : 0 ≤ x) (h1 : x < 9223372036854775808) : (binI 13 x k == binI 14 x k) = true := by
  rw [beq_iff_eq, shr_nat]
  show _ = x / 2 ^ (shcI k).toNat
  obtain ⟨n, rfl⟩ := Int.eq_ofNat_of_zero_le h0
  rw [natOf_nat n (by omega), div_nat]
  have h2 : n / 2 ^ (shcI k).toNat ≤ n := Nat.div_le_self _ _
  generalize n / 2 ^ (shcI k).toNat = m at *
  unfold wrap64
  omega
theorem bit_low (a k : Int) : (binI 13 (binI 9 a 9223372036854775807) k == binI 14 (binI 9 a 9223372036854775807) k) = true :=
  shr_sar _ k (and_nonneg a).1 (and_nonneg a).2
end Go.Proofs.YtjcaobomplpkeaaDoor
