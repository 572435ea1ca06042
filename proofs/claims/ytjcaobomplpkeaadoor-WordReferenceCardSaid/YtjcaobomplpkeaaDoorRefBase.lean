/-
  What the reference's Unary, Div and Binary answer: the walks.
-/
import Derived.Test.YtjcaobomplpkeaaDoorProg
import Derived.Test.YtjcaobomplpkeaaDoorPure
import Derived.Test.YtjcaobomplpkeaaDoorRefMath
import Derived.WalkKit
import Derived.ProofKit
import Derived.Lib.Hide
import Derived.Outline
namespace Go.Proofs.YtjcaobomplpkeaaDoor
open Go.RowKit (wrap32 wrap64)
open Go.RowKit
set_option maxHeartbeats 400000

theorem boolWord_any (b : Bool) (w : World) : Calls Tryd.prog 30 #[.bool b] w fun e w' => e = .returned (.int .i64 (tru b)) ∧ w = w' := by
  cases b
  all_goals
    go_enter Tryd.func30, Tryd.ntmps30
    go_wp2
    go_ret
    exact ⟨rfl, rfl⟩
theorem refDiv_any (a b : Int) (w : World) : Calls Tryd.prog 29 #[.int .i64 a, .int .i64 b] w fun e w' => e = .returned (.int .i64 (quoI a b)) ∧ w = w' := by
  by_cases h : b = 0
  · subst h
    go_enter Tryd.func29, Tryd.ntmps29
    go_wp2
    go_ret
    exact ⟨rfl, rfl⟩
  · have h0 : (b == 0) = false := by simpa using h
    by_cases h1 : b = -1
    · subst h1
      have hq := Lib.hid (quo_neg_one a)
      go_enter Tryd.func29, Tryd.ntmps29
      go_wp2
      go_ret
      exact ⟨by rw [hq.out]; rfl, rfl⟩
    · have h2 : (b == -1) = false := by simpa using h1
      have hq : Hid (quoI a b = wrap64 (a.tdiv b)) := Lib.hid (by rw [quoI, if_neg h])
      go_enter Tryd.func29, Tryd.ntmps29
      go_wp2
      go_ret
      exact ⟨by rw [hq.out]; rfl, rfl⟩
theorem refUnary_any (op a : Int) (w : World) : Calls Tryd.prog 19 #[.int .i64 op, .int .i64 a] w fun e w' => e = .returned (.int .i64 (unI op a)) ∧ w = w' := by
  by_cases h : op = 20
  · subst h
    go_enter Tryd.func19, Tryd.ntmps19
    go_wp2
    go_ret
    exact ⟨rfl, rfl⟩
  · by_cases h2 : op = 21
    · subst h2
      go_enter Tryd.func19, Tryd.ntmps19
      go_wp2
      all_goals go_ret
      all_goals first | exact ⟨rfl, rfl⟩ | contradiction
    · go_enter Tryd.func19, Tryd.ntmps19
      go_wp2
      go_ret
      exact ⟨by rw [unI, if_neg h, if_neg h2]; rfl, rfl⟩
set_option maxRecDepth 100000 in
theorem refBinary_any (op a b : Int) (w : World) (ha : W64 a) : Calls Tryd.prog 20 #[.int .i64 op, .int .i64 a, .int .i64 b] w fun e w' => e = .returned (.int .i64 (binI op a b)) ∧ w = w' := by
  have s0 := shcI_lo b
  have s1 := shcI_hi b
  have e1 := and63 b
  have HR : Hid (¬ b = 0 → wrap64 (a - wrap64 (quoI a b * b)) = remI a b) := fun h => rem_back a b ha h
  clear ha
  have HZ : Hid (b = 0 → remI a b = 0) := fun h => by rw [remI, if_pos h]
  go_enter Tryd.func20, Tryd.ntmps20
  go_wp2_with (first | (go_at_call 29; refine (refDiv_any _ _ _).mono ?_; rintro e w' ⟨rfl, rfl⟩) | (go_at_call 30; refine (boolWord_any _ _).mono ?_; rintro e w' ⟨rfl, rfl⟩))
  all_goals go_ret
  all_goals refine ⟨?_, rfl⟩
  all_goals clear s0 s1 e1
  all_goals (simp only [beq_iff_eq, beq_eq_false_iff_ne] at *)
  all_goals (try (simp [binI, *]; done))
  all_goals (obtain rfl : op = 8 := by assumption)
  all_goals rw [bin8]
  all_goals first | (rw [HZ.out (by assumption)]; rfl) | (rw [← HR.out (by assumption)]; rfl)
end Go.Proofs.YtjcaobomplpkeaaDoor
