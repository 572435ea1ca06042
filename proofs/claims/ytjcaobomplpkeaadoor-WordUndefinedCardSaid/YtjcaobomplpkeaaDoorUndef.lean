/-
  WordUndefined: the walk.
-/
import Derived.Test.YtjcaobomplpkeaaDoorKit
import Derived.Test.YtjcaobomplpkeaaDoorBase
import Derived.Test.YtjcaobomplpkeaaDoorEx
import Derived.Test.YtjcaobomplpkeaaDoorKeep
import Derived.Test.YtjcaobomplpkeaaDoorRingMath
import Derived.Test.YtjcaobomplpkeaaDoorBitsMath
import Derived.Test.YtjcaobomplpkeaaDoorShiftMath
import Derived.WalkKit
import Derived.ProofKit
import Derived.BigQuiet
import Derived.Lib.Hide
import Derived.Outline
namespace Go.Proofs.YtjcaobomplpkeaaDoor
open Go.RowKit (wrap32 wrap64)
open Go.RowKit
set_option maxHeartbeats 400000

theorem un_other (op a : Int) (h1 : ¬ op = 20) (h2 : ¬ op = 21) : (unI op a == 0) = true := by
  rw [beq_iff_eq, unI, if_neg h1, if_neg h2]
theorem bin_other (op a b : Int) (h : op < 4 ∨ 19 < op) : (binI op a b == 0) = true := by
  rw [beq_iff_eq, binI]
  repeat rw [if_neg (by omega)]
theorem undef_walk (op : Int) (a : Int) (b : Int) (_wop : (Lit.int .i64 op).wf = true) (_wa : (Lit.int .i64 a).wf = true) (_wb : (Lit.int .i64 b).wf = true) (w : World) (ht : Tab w) :
    Calls Tryd.prog 12 #[.int .i64 op, .int .i64 a, .int .i64 b] w fun e w' => e = .returned (.bool true) ∧ Bel w w' := by
  clear _wop _wa _wb
  by_cases h1 : op = 20
  · subst h1
    have r1 := bin_other 20 a b (by omega)
    go_enter Tryd.func12, Tryd.ntmps12
    go_wp2_with (first | (go_at_call 14; refine (binary_any _ _ _ _).mono ?_; rintro e w' ⟨rfl, rfl⟩) | (go_at_call 18; refine (unary_any _ _ _).mono ?_; rintro e w' ⟨rfl, rfl⟩) | (go_at_call 3; refine (examples_any _ ht).mono ?_; rintro e w1 ⟨rfl, HB⟩))
    go_ret
    exact ⟨rfl, HB⟩
  · by_cases h2 : op = 21
    · subst h2
      have r1 := bin_other 21 a b (by omega)
      go_enter Tryd.func12, Tryd.ntmps12
      go_wp2_with (first | (go_at_call 14; refine (binary_any _ _ _ _).mono ?_; rintro e w' ⟨rfl, rfl⟩) | (go_at_call 18; refine (unary_any _ _ _).mono ?_; rintro e w' ⟨rfl, rfl⟩) | (go_at_call 3; refine (examples_any _ ht).mono ?_; rintro e w1 ⟨rfl, HB⟩))
      go_ret
      exact ⟨rfl, HB⟩
    · have r2 := un_other op a h1 h2
      have t1 : (op == 20) = false := by simpa using h1
      have t2 : (op == 21) = false := by simpa using h2
      by_cases h3 : op < 4
      · have t3 : decide (4 ≤ op) = false := by simp; omega
        have r1 := bin_other op a b (by omega)
        go_enter Tryd.func12, Tryd.ntmps12
        go_wp2_with (first | (go_at_call 14; refine (binary_any _ _ _ _).mono ?_; rintro e w' ⟨rfl, rfl⟩) | (go_at_call 18; refine (unary_any _ _ _).mono ?_; rintro e w' ⟨rfl, rfl⟩) | (go_at_call 3; refine (examples_any _ ht).mono ?_; rintro e w1 ⟨rfl, HB⟩))
        go_ret
        exact ⟨rfl, HB⟩
      · have t3 : decide (4 ≤ op) = true := by simp; omega
        by_cases h4 : 19 < op
        · have t4 : decide (op ≤ 19) = false := by simp; omega
          have r1 := bin_other op a b (by omega)
          go_enter Tryd.func12, Tryd.ntmps12
          go_wp2_with (first | (go_at_call 14; refine (binary_any _ _ _ _).mono ?_; rintro e w' ⟨rfl, rfl⟩) | (go_at_call 18; refine (unary_any _ _ _).mono ?_; rintro e w' ⟨rfl, rfl⟩) | (go_at_call 3; refine (examples_any _ ht).mono ?_; rintro e w1 ⟨rfl, HB⟩))
          go_ret
          exact ⟨rfl, HB⟩
        · have t4 : decide (op ≤ 19) = true := by simp; omega
          go_enter Tryd.func12, Tryd.ntmps12
          go_wp2_with (first | (go_at_call 14; refine (binary_any _ _ _ _).mono ?_; rintro e w' ⟨rfl, rfl⟩) | (go_at_call 18; refine (unary_any _ _ _).mono ?_; rintro e w' ⟨rfl, rfl⟩) | (go_at_call 3; refine (examples_any _ ht).mono ?_; rintro e w1 ⟨rfl, HB⟩))
          go_ret
          exact ⟨rfl, HB⟩
end Go.Proofs.YtjcaobomplpkeaaDoor
