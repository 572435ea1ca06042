/-
  What fullingkeep.Pick answers: the walk.
-/
import Derived.Test.YtcjolamfjgdgjaaGreatDoorProg
import Derived.WalkKit
import Derived.ProofKit
import Derived.Lib.Hide
import Derived.Outline
namespace Go.Proofs.YtcjolamfjgdgjaaGreatDoor
open Go.RowKit (wrap32 wrap64)
open Go.RowKit
set_option maxHeartbeats 400000

theorem tmod_nonneg (n m : Int) (hm : 1 ≤ m) (h : ¬ n.tmod m < 0) : n.tmod m = n % m := by
  have e := Int.tmod_eq_emod (a := n) (b := m)
  have h1 := Int.emod_lt_of_pos n (b := m) (by omega)
  have h2 := Int.emod_nonneg n (b := m) (by omega)
  split at e <;> omega
theorem tmod_neg (n m : Int) (hm : 1 ≤ m) (h : n.tmod m < 0) : n.tmod m + m = n % m := by
  have e := Int.tmod_eq_emod (a := n) (b := m)
  have h1 := Int.emod_lt_of_pos n (b := m) (by omega)
  have h2 := Int.emod_nonneg n (b := m) (by omega)
  split at e <;> omega
theorem pick_any (n m : Int) (w : World) (hm : 1 ≤ m) (hm2 : m ≤ 1000000000) : Calls Tryz.prog 10 #[.int .i64 n, .int .i64 m] w fun e w' => e = .returned (.int .i64 (n % m)) ∧ w = w' := by
  have hz : (m == 0) = false := by simp; omega
  have hz' : ¬ m = 0 := by omega
  have h1 : -1000000000 ≤ n.tmod m := by have := Int.lt_tmod_of_pos n (b := m) (by omega); omega
  have h2 : n.tmod m ≤ 1000000000 := by have := Int.tmod_lt_of_pos n (b := m) (by omega); omega
  by_cases h : n.tmod m < 0
  · have hx := Lib.hid (tmod_neg n m hm h)
    go_enter Tryz.func10, Tryz.ntmps10
    go_wp2
    go_ret
    exact ⟨by rw [← hx.out]; rfl, rfl⟩
  · have hx := Lib.hid (tmod_nonneg n m hm h)
    go_enter Tryz.func10, Tryz.ntmps10
    go_wp2
    go_ret
    exact ⟨by rw [← hx.out]; rfl, rfl⟩
end Go.Proofs.YtcjolamfjgdgjaaGreatDoor
