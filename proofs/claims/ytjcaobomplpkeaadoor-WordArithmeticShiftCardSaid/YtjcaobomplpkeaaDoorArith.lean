/-
  WordArithmeticShift: the walk.
-/
import Derived.Test.YtjcaobomplpkeaaDoorKit
import Derived.Test.YtjcaobomplpkeaaDoorBase
import Derived.Test.YtjcaobomplpkeaaDoorEx
import Derived.Test.YtjcaobomplpkeaaDoorKeep
import Derived.Test.YtjcaobomplpkeaaDoorRingMath
import Derived.Test.YtjcaobomplpkeaaDoorBitsMath
import Derived.Test.YtjcaobomplpkeaaDoorShiftMath
import Derived.WalkKit
import Derived.ProofKit
import Derived.BigQuiet
import Derived.Lib.Hide
import Derived.Outline
namespace Go.Proofs.YtjcaobomplpkeaaDoor
open Go.RowKit (wrap32 wrap64)
open Go.RowKit
set_option maxHeartbeats 400000

theorem arith_walk (a : Int) (k : Int) (_wa : (Lit.int .i64 a).wf = true) (_wk : (Lit.int .i64 k).wf = true) (w : World) (ht : Tab w) :
    Calls Tryd.prog 11 #[.int .i64 a, .int .i64 k] w fun e w' => e = .returned (.bool true) ∧ Bel w w' := by
  have ha := w64_of_wf _wa
  obtain ⟨p, hp⟩ : ∃ p, k % 63 = p := ⟨_, rfl⟩
  have HP : Hid (∀ w, Calls Tryd.prog 17 #[.int .i64 k, .int .i64 63] w fun e w' => e = .returned (.int .i64 p) ∧ w = w') := by
    rw [← hp]
    exact fun w => pick_any k 63 w (by omega) (by omega)
  have p0 : 0 ≤ p := by omega
  have p1 : p < 63 := by omega
  have r := sar_down a p ha p0 p1
  clear hp _wa _wk ha
  by_cases h : binI 8 a (binI 12 1 p) < 0
  · have t1 : decide (binI 8 a (binI 12 1 p) < 0) = true := by simpa using h
    have r1 := r.1 h
    clear r h
    go_enter Tryd.func11, Tryd.ntmps11
    go_wp2_with fail
    refine (HP.out _).mono ?_
    rintro e w' ⟨rfl, rfl⟩
    go_wp2_with (first | (go_at_call 14; refine (binary_any _ _ _ _).mono ?_; rintro e w' ⟨rfl, rfl⟩) | (go_at_call 18; refine (unary_any _ _ _).mono ?_; rintro e w' ⟨rfl, rfl⟩) | (go_at_call 3; refine (examples_any _ ht).mono ?_; rintro e w1 ⟨rfl, HB⟩))
    go_ret
    exact ⟨rfl, HB⟩
  · have t1 : decide (binI 8 a (binI 12 1 p) < 0) = false := by simpa using h
    have r1 := r.2 h
    clear r h
    go_enter Tryd.func11, Tryd.ntmps11
    go_wp2_with fail
    refine (HP.out _).mono ?_
    rintro e w' ⟨rfl, rfl⟩
    go_wp2_with (first | (go_at_call 14; refine (binary_any _ _ _ _).mono ?_; rintro e w' ⟨rfl, rfl⟩) | (go_at_call 18; refine (unary_any _ _ _).mono ?_; rintro e w' ⟨rfl, rfl⟩) | (go_at_call 3; refine (examples_any _ ht).mono ?_; rintro e w1 ⟨rfl, HB⟩))
    go_ret
    exact ⟨rfl, HB⟩
end Go.Proofs.YtjcaobomplpkeaaDoor
