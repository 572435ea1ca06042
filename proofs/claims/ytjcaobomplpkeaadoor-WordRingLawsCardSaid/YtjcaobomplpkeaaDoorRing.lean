/-
  WordRingLaws: the walk.
-/
import Derived.Test.YtjcaobomplpkeaaDoorKit
import Derived.Test.YtjcaobomplpkeaaDoorBase
import Derived.Test.YtjcaobomplpkeaaDoorEx
import Derived.Test.YtjcaobomplpkeaaDoorRingMath
import Derived.WalkKit
import Derived.ProofKit
import Derived.BigQuiet
import Derived.Lib.Hide
import Derived.Outline
namespace Go.Proofs.YtjcaobomplpkeaaDoor
open Go.RowKit (wrap32 wrap64)
open Go.RowKit
set_option maxHeartbeats 400000

theorem ring_walk (a b c : Int) (wa : (Lit.int .i64 a).wf = true) (_wb : (Lit.int .i64 b).wf = true) (_wc : (Lit.int .i64 c).wf = true) (w : World) (ht : Tab w) :
    Calls Tryd.prog 5 #[.int .i64 a, .int .i64 b, .int .i64 c] w fun e w' => e = .returned (.bool true) ∧ Bel w w' := by
  have ha := w64_of_wf wa
  have r1 := ring_addc a b
  have r2 := ring_mulc a b
  have r3 := ring_dist a b c
  have r4 := ring_sub a b ha
  have r5 := ring_neg a
  have r6 := ring_not a ha
  have r7 := ring_mula a b c
  clear ha wa _wb _wc
  go_enter Tryd.func5, Tryd.ntmps5
  go_wp2_with (first | (go_at_call 14; refine (binary_any _ _ _ _).mono ?_; rintro e w' ⟨rfl, rfl⟩) | (go_at_call 18; refine (unary_any _ _ _).mono ?_; rintro e w' ⟨rfl, rfl⟩) | (go_at_call 3; refine (examples_any _ ht).mono ?_; rintro e w1 ⟨rfl, HB⟩))
  go_ret
  exact ⟨rfl, HB⟩
end Go.Proofs.YtjcaobomplpkeaaDoor
