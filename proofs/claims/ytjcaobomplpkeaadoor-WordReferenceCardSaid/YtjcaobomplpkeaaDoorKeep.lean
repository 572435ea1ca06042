/-
  What fullingkeep.Pick and fullingkeep.Word answer: the walks.
-/
import Derived.Test.YtjcaobomplpkeaaDoorProg
import Derived.Test.YtjcaobomplpkeaaDoorKit
import Derived.Test.YtjcaobomplpkeaaDoorPure
import Derived.WalkKit
import Derived.ProofKit
import Derived.Lib.Hide
import Derived.Outline
namespace Go.Proofs.YtjcaobomplpkeaaDoor
open Go.RowKit (wrap32 wrap64)
open Go.RowKit
set_option maxHeartbeats 400000

theorem tmod_nonneg (n m : Int) (hm : 1 ≤ m) (h : ¬ n.tmod m < 0) : n.tmod m = n % m := by
  have e := Int.tmod_eq_emod (a := n) (b := m)
  have h1 := Int.emod_lt_of_pos n (b := m) (by omega)
  have h2 := Int.emod_nonneg n (b := m) (by omega)
  split at e <;> omega
theorem tmod_neg (n m : Int) (hm : 1 ≤ m) (h : n.tmod m < 0) : n.tmod m + m = n % m := by
  have e := Int.tmod_eq_emod (a := n) (b := m)
  have h1 := Int.emod_lt_of_pos n (b := m) (by omega)
  have h2 := Int.emod_nonneg n (b := m) (by omega)
  split at e <;> omega
theorem pick_any (n m : Int) (w : World) (hm : 1 ≤ m) (hm2 : m ≤ 1000000) : Calls Tryd.prog 17 #[.int .i64 n, .int .i64 m] w fun e w' => e = .returned (.int .i64 (n % m)) ∧ w = w' := by
  have hz : (m == 0) = false := by simp; omega
  have hz' : ¬ m = 0 := by omega
  have h1 : -1000000 ≤ n.tmod m := by have := Int.lt_tmod_of_pos n (b := m) (by omega); omega
  have h2 : n.tmod m ≤ 1000000 := by have := Int.tmod_lt_of_pos n (b := m) (by omega); omega
  by_cases h : n.tmod m < 0
  · have hx := Lib.hid (tmod_neg n m hm h)
    go_enter Tryd.func17, Tryd.ntmps17
    go_wp2
    go_ret
    exact ⟨by rw [← hx.out]; rfl, rfl⟩
  · have hx := Lib.hid (tmod_nonneg n m hm h)
    go_enter Tryd.func17, Tryd.ntmps17
    go_wp2
    go_ret
    exact ⟨by rw [← hx.out]; rfl, rfl⟩
/-- What fullingkeep.Word leaves: some word, and nothing that was there has turned. -/
def WordPost (w : World) (e : Ending) (w' : World) : Prop := ∃ x : Int, e = .returned (.int .i64 x) ∧ W64 x ∧ Bel w w'
def edges : List Int := [0, 1, -1, 2, -9223372036854775808, 9223372036854775807, 4294967296, -2147483648, 63, 64]
theorem word_small (n raw : Int) (w : World) (k : Nat) (hk : k < 10) (HP : Hid (∀ w, Calls Tryd.prog 17 #[.int .i64 n, .int .i64 24] w fun e w' => e = .returned (.int .i64 k) ∧ w = w')) : Calls Tryd.prog 16 #[.int .i64 n, .int .i64 raw] w (WordPost w) := by
  have cs : k = 0 ∨ k = 1 ∨ k = 2 ∨ k = 3 ∨ k = 4 ∨ k = 5 ∨ k = 6 ∨ k = 7 ∨ k = 8 ∨ k = 9 := by omega
  rcases cs with rfl | rfl | rfl | rfl | rfl | rfl | rfl | rfl | rfl | rfl
  all_goals
    clear hk
    go_enter Tryd.func16, Tryd.ntmps16
    go_wp2_with fail
    refine (HP.out _).mono ?_
    rintro e w' ⟨rfl, rfl⟩
    go_wp2_with fail
    go_ret
    exact ⟨_, rfl, by unfold W64; omega, (Bel.refl _).alloc _⟩
theorem word_any (n raw : Int) (w : World) (hr : W64 raw) : Calls Tryd.prog 16 #[.int .i64 n, .int .i64 raw] w (WordPost w) := by
  have hk0 := Int.emod_nonneg n (b := 24) (by omega)
  obtain ⟨k, hkk⟩ : ∃ k : Nat, n % 24 = k := ⟨(n % 24).toNat, by omega⟩
  clear hk0
  have HP : Hid (∀ w, Calls Tryd.prog 17 #[.int .i64 n, .int .i64 24] w fun e w' => e = .returned (.int .i64 k) ∧ w = w') := by
    rw [← hkk]
    exact fun w => pick_any n 24 w (by omega) (by omega)
  clear hkk
  by_cases h : k < 10
  · exact word_small n raw w k h HP
  · have t1 : decide ((k : Int) < 10) = false := by simp; omega
    by_cases h2 : k < 22
    · have t2 : decide ((k : Int) < 22) = true := by simp; omega
      have q0 := Int.emod_nonneg (wrap64 (n.tdiv 24)) (b := 17) (by omega)
      have q1 := Int.emod_lt_of_pos (wrap64 (n.tdiv 24)) (b := 17) (by omega)
      clear hr
      go_enter Tryd.func16, Tryd.ntmps16
      go_wp2_with fail
      refine (HP.out _).mono ?_
      rintro e w' ⟨rfl, rfl⟩
      go_wp2_with fail
      refine (pick_any _ 17 _ (by omega) (by omega)).mono ?_
      rintro e w' ⟨rfl, rfl⟩
      go_wp2_with fail
      go_ret
      exact ⟨_, rfl, by unfold W64; omega, (Bel.refl _).alloc _⟩
    · have t2 : decide ((k : Int) < 22) = false := by simp; omega
      have HR : Hid (W64 raw) := hr
      clear hr
      go_enter Tryd.func16, Tryd.ntmps16
      go_wp2_with fail
      refine (HP.out _).mono ?_
      rintro e w' ⟨rfl, rfl⟩
      go_wp2_with fail
      go_ret
      exact ⟨_, rfl, HR.out, (Bel.refl _).alloc _⟩
end Go.Proofs.YtjcaobomplpkeaaDoor
