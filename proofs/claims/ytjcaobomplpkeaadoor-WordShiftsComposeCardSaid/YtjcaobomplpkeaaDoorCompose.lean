/-
  WordShiftsCompose: the walk.
-/
import Derived.Test.YtjcaobomplpkeaaDoorKit
import Derived.Test.YtjcaobomplpkeaaDoorBase
import Derived.Test.YtjcaobomplpkeaaDoorEx
import Derived.Test.YtjcaobomplpkeaaDoorKeep
import Derived.Test.YtjcaobomplpkeaaDoorRingMath
import Derived.Test.YtjcaobomplpkeaaDoorBitsMath
import Derived.Test.YtjcaobomplpkeaaDoorShiftMath
import Derived.WalkKit
import Derived.ProofKit
import Derived.BigQuiet
import Derived.Lib.Hide
import Derived.Outline
namespace Go.Proofs.YtjcaobomplpkeaaDoor
open Go.RowKit (wrap32 wrap64)
open Go.RowKit
set_option maxHeartbeats 400000

theorem compose_walk (a : Int) (j : Int) (k : Int) (_wa : (Lit.int .i64 a).wf = true) (_wj : (Lit.int .i64 j).wf = true) (_wk : (Lit.int .i64 k).wf = true) (w : World) (ht : Tab w) :
    Calls Tryd.prog 10 #[.int .i64 a, .int .i64 j, .int .i64 k] w fun e w' => e = .returned (.bool true) ∧ Bel w w' := by
  obtain ⟨p, hp⟩ : ∃ p, j % 64 = p := ⟨_, rfl⟩
  obtain ⟨q, hq⟩ : ∃ q, k % 64 = q := ⟨_, rfl⟩
  have HP : Hid (∀ w, Calls Tryd.prog 17 #[.int .i64 j, .int .i64 64] w fun e w' => e = .returned (.int .i64 p) ∧ w = w') := by
    rw [← hp]
    exact fun w => pick_any j 64 w (by omega) (by omega)
  have HQ : Hid (∀ w, Calls Tryd.prog 17 #[.int .i64 k, .int .i64 64] w fun e w' => e = .returned (.int .i64 q) ∧ w = w') := by
    rw [← hq]
    exact fun w => pick_any k 64 w (by omega) (by omega)
  have p0 : 0 ≤ p := by omega
  have p1 : p < 64 := by omega
  have q0 : 0 ≤ q := by omega
  have q1 : q < 64 := by omega
  have r2 := shl_mul a p
  clear hp hq _wa _wj _wk
  by_cases h : p + q < 64
  · have t1 : decide (p + q < 64) = true := by simpa using h
    have r1 := shl_twice a p q p0 p1 q0 q1 h
    go_enter Tryd.func10, Tryd.ntmps10
    go_wp2_with fail
    refine (HP.out _).mono ?_
    rintro e w' ⟨rfl, rfl⟩
    go_wp2_with fail
    refine (HQ.out _).mono ?_
    rintro e w' ⟨rfl, rfl⟩
    go_wp2_with (first | (go_at_call 14; refine (binary_any _ _ _ _).mono ?_; rintro e w' ⟨rfl, rfl⟩) | (go_at_call 18; refine (unary_any _ _ _).mono ?_; rintro e w' ⟨rfl, rfl⟩) | (go_at_call 3; refine (examples_any _ ht).mono ?_; rintro e w1 ⟨rfl, HB⟩))
    go_ret
    exact ⟨rfl, HB⟩
  · have t1 : decide (p + q < 64) = false := by simpa using h
    have r1 := shl_out a p q p0 p1 q0 q1 (by omega)
    go_enter Tryd.func10, Tryd.ntmps10
    go_wp2_with fail
    refine (HP.out _).mono ?_
    rintro e w' ⟨rfl, rfl⟩
    go_wp2_with fail
    refine (HQ.out _).mono ?_
    rintro e w' ⟨rfl, rfl⟩
    go_wp2_with (first | (go_at_call 14; refine (binary_any _ _ _ _).mono ?_; rintro e w' ⟨rfl, rfl⟩) | (go_at_call 18; refine (unary_any _ _ _).mono ?_; rintro e w' ⟨rfl, rfl⟩) | (go_at_call 3; refine (examples_any _ ht).mono ?_; rintro e w1 ⟨rfl, HB⟩))
    go_ret
    exact ⟨rfl, HB⟩
end Go.Proofs.YtjcaobomplpkeaaDoor
