/-
  What word.Unary, word.Binary and their helpers answer: the walks.
-/
import Derived.Test.YtjcaobomplpkeaaDoorProg
import Derived.Test.YtjcaobomplpkeaaDoorPure
import Derived.WalkKit
import Derived.ProofKit
namespace Go.Proofs.YtjcaobomplpkeaaDoor
open Go.RowKit (wrap32 wrap64)
set_option maxHeartbeats 400000

theorem shiftCount_any (b : Int) (w : World) : Calls Tryd.prog 26 #[.int .i64 b] w fun e w' => e = .returned (.int .u64 (shcI b)) ∧ w = w' := by
  go_enter Tryd.func26, Tryd.ntmps26
  go_wp2
  go_ret
  refine ⟨?_, rfl⟩
  rw [← shcI_bits]
  rfl
theorem truth_any (b : Bool) (w : World) : Calls Tryd.prog 27 #[.bool b] w fun e w' => e = .returned (.int .i64 (tru b)) ∧ w = w' := by
  cases b
  all_goals
    go_enter Tryd.func27, Tryd.ntmps27
    go_wp2
    go_ret
    exact ⟨rfl, rfl⟩
theorem quo_any (a b : Int) (w : World) : Calls Tryd.prog 24 #[.int .i64 a, .int .i64 b] w fun e w' => e = .returned (.int .i64 (quoI a b)) ∧ w = w' := by
  by_cases h : b = 0
  · subst h
    go_enter Tryd.func24, Tryd.ntmps24
    go_wp2
    go_ret
    exact ⟨rfl, rfl⟩
  · go_enter Tryd.func24, Tryd.ntmps24
    go_wp2
    all_goals go_ret
    exact ⟨by rw [quoI, if_neg h]; rfl, rfl⟩
theorem rem_any (a b : Int) (w : World) : Calls Tryd.prog 25 #[.int .i64 a, .int .i64 b] w fun e w' => e = .returned (.int .i64 (remI a b)) ∧ w = w' := by
  by_cases h : b = 0
  · subst h
    go_enter Tryd.func25, Tryd.ntmps25
    go_wp2
    go_ret
    exact ⟨rfl, rfl⟩
  · go_enter Tryd.func25, Tryd.ntmps25
    go_wp2
    all_goals go_ret
    exact ⟨by rw [remI, if_neg h]; rfl, rfl⟩
theorem unary_any (op a : Int) (w : World) : Calls Tryd.prog 18 #[.int .i64 op, .int .i64 a] w fun e w' => e = .returned (.int .i64 (unI op a)) ∧ w = w' := by
  by_cases h : op = 20
  · subst h
    go_enter Tryd.func18, Tryd.ntmps18
    go_wp2
    go_ret
    exact ⟨rfl, rfl⟩
  · by_cases h2 : op = 21
    · subst h2
      go_enter Tryd.func18, Tryd.ntmps18
      go_wp2
      all_goals go_ret
      all_goals first | exact ⟨rfl, rfl⟩ | contradiction
    · go_enter Tryd.func18, Tryd.ntmps18
      go_wp2
      go_ret
      exact ⟨by rw [unI, if_neg h, if_neg h2]; rfl, rfl⟩
theorem binary_any (op a b : Int) (w : World) : Calls Tryd.prog 14 #[.int .i64 op, .int .i64 a, .int .i64 b] w fun e w' => e = .returned (.int .i64 (binI op a b)) ∧ w = w' := by
  have s0 := shcI_lo b
  have s1 := shcI_hi b
  go_enter Tryd.func14, Tryd.ntmps14
  go_wp2_with (first | (go_at_call 24; refine (quo_any _ _ _).mono ?_; rintro e w' ⟨rfl, rfl⟩) | (go_at_call 25; refine (rem_any _ _ _).mono ?_; rintro e w' ⟨rfl, rfl⟩) | (go_at_call 26; refine (shiftCount_any _ _).mono ?_; rintro e w' ⟨rfl, rfl⟩) | (go_at_call 27; refine (truth_any _ _).mono ?_; rintro e w' ⟨rfl, rfl⟩))
  all_goals go_ret
  all_goals refine ⟨?_, rfl⟩
  all_goals clear s0 s1
  all_goals (simp only [beq_iff_eq, beq_eq_false_iff_ne] at *)
  all_goals (simp [binI, *])
end Go.Proofs.YtjcaobomplpkeaaDoor
