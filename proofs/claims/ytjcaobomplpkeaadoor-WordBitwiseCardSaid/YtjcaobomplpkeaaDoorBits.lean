/-
  WordBitwise: the walk.
-/
import Derived.Test.YtjcaobomplpkeaaDoorKit
import Derived.Test.YtjcaobomplpkeaaDoorBase
import Derived.Test.YtjcaobomplpkeaaDoorEx
import Derived.Test.YtjcaobomplpkeaaDoorKeep
import Derived.Test.YtjcaobomplpkeaaDoorRingMath
import Derived.Test.YtjcaobomplpkeaaDoorBitsMath
import Derived.Test.YtjcaobomplpkeaaDoorShiftMath
import Derived.WalkKit
import Derived.ProofKit
import Derived.BigQuiet
import Derived.Lib.Hide
import Derived.Outline
namespace Go.Proofs.YtjcaobomplpkeaaDoor
open Go.RowKit (wrap32 wrap64)
open Go.RowKit
set_option maxHeartbeats 400000

theorem bitwise_walk (a : Int) (b : Int) (k : Int) (_wa : (Lit.int .i64 a).wf = true) (_wb : (Lit.int .i64 b).wf = true) (_wk : (Lit.int .i64 k).wf = true) (w : World) (ht : Tab w) :
    Calls Tryd.prog 7 #[.int .i64 a, .int .i64 b, .int .i64 k] w fun e w' => e = .returned (.bool true) ∧ Bel w w' := by
  have r1 := bit_sum a b
  have r2 := bit_or a b
  have r3 := bit_count a k
  have r4 := bit_back a k
  have r6 := bit_low a k
  clear _wa _wb _wk
  by_cases h : a < 0
  · have t1 : decide (a < 0) = true := by simpa using h
    have t2 : decide (binI 14 a k < 0) = true := by simpa using sar_neg a k h
    go_enter Tryd.func7, Tryd.ntmps7
    go_wp2_with (first | (go_at_call 14; refine (binary_any _ _ _ _).mono ?_; rintro e w' ⟨rfl, rfl⟩) | (go_at_call 18; refine (unary_any _ _ _).mono ?_; rintro e w' ⟨rfl, rfl⟩) | (go_at_call 3; refine (examples_any _ ht).mono ?_; rintro e w1 ⟨rfl, HB⟩))
    go_ret
    exact ⟨rfl, HB⟩
  · have t1 : decide (a < 0) = false := by simpa using h
    have t2 : decide (binI 14 a k < 0) = false := by have := sar_nonneg a k (by omega); simp; omega
    go_enter Tryd.func7, Tryd.ntmps7
    go_wp2_with (first | (go_at_call 14; refine (binary_any _ _ _ _).mono ?_; rintro e w' ⟨rfl, rfl⟩) | (go_at_call 18; refine (unary_any _ _ _).mono ?_; rintro e w' ⟨rfl, rfl⟩) | (go_at_call 3; refine (examples_any _ ht).mono ?_; rintro e w1 ⟨rfl, HB⟩))
    go_ret
    exact ⟨rfl, HB⟩
end Go.Proofs.YtjcaobomplpkeaaDoor
