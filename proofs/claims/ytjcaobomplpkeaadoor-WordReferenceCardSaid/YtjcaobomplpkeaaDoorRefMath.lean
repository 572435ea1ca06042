/-
  What the reference's arithmetic comes to: no Go in sight.
-/
import Derived.Test.YtjcaobomplpkeaaDoorPure
import Derived.Test.YtjcaobomplpkeaaDoorRingMath
import Derived.Test.YtjcaobomplpkeaaDoorBitsMath
namespace Go.Proofs.YtjcaobomplpkeaaDoor
open Go.RowKit (wrap32 wrap64)

theorem quo_neg_one (a : Int) : quoI a (-1) = wrap64 (-a) := by
  rw [quoI, if_neg (by decide), Int.tdiv_neg, Int.tdiv_one]
theorem rem_back (a b : Int) (ha : W64 a) (hb : ¬ b = 0) : wrap64 (a - wrap64 (quoI a b * b)) = remI a b := by
  rw [quoI, remI, if_neg hb, if_neg hb]
  obtain ⟨k, hk⟩ := wrap_ex (a.tdiv b)
  rw [hk]
  have e : (a.tdiv b + k * 18446744073709551616) * b = a.tdiv b * b + k * b * 18446744073709551616 := by
    rw [Int.add_mul, Int.mul_assoc k, Int.mul_comm 18446744073709551616, ← Int.mul_assoc k]
  rw [e, wrap_add]
  obtain ⟨l, hl⟩ := wrap_ex (a.tdiv b * b)
  rw [hl]
  have t := Int.tmod_add_mul_tdiv a b
  rw [Int.mul_comm] at t
  rw [wrap_of (y := a.tmod b) (k := -l) (by omega)]
  apply wrap_id
  unfold W64 at ha ⊢
  have h1 : -(a.natAbs : Int) ≤ a.tmod b ∧ a.tmod b ≤ (a.natAbs : Int) := by
    have h2 := Int.natAbs_tmod a b
    have h3 := Nat.mod_le a.natAbs b.natAbs
    omega
  by_cases hn : 0 ≤ a
  · omega
  · have h2 := Int.tmod_nonneg (a := -a) b (by omega)
    rw [Int.neg_tmod] at h2
    omega
theorem and63 (b : Int) : bits .and .i64 b 63 = shcI b := by
  have := and_low b
  rw [bin9] at this
  rw [this]
  rfl
end Go.Proofs.YtjcaobomplpkeaaDoor
