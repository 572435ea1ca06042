/-
  WordExamples: the walk. Condition: the table of powers of ten is laid.
-/
import Derived.Test.YtjcaobomplpkeaaDoorKit
import Derived.Test.YtjcaobomplpkeaaDoorBase
import Derived.Test.YtjcaobomplpkeaaDoorText
import Derived.Test.YtjcaobomplpkeaaDoorShelf
import Derived.WalkKit
import Derived.ProofKit
import Derived.BigQuiet
import Derived.Lib.Hide
import Derived.Outline
namespace Go.Proofs.YtjcaobomplpkeaaDoor
open Go.RowKit (wrap32 wrap64)
open Go.RowKit
set_option maxHeartbeats 400000

theorem text_any (n : Int) (w : World) (h0 : -9223372036854775808 ≤ n) (h1 : n ≤ 9223372036854775807) (ht : Tab w) :
    Calls Tryd.prog 15 #[.int .i64 n] w fun e w' => e = .returned (.string ⟨(Lib.itoa n).toArray⟩) ∧ Bel w w' := by
  go_enter Tryd.func15, Tryd.ntmps15
  go_wp2_with (go_at_call 28; refine (Tryd.strconv_FormatInt_10 n h0 h1 _ ht).mono ?_; rintro e w1 ⟨rfl, k, os, rfl⟩)
  go_ret
  exact ⟨rfl, (Bel.refl _).grow k os⟩
theorem examples_any (w : World) (ht : Tab w) :
    Calls Tryd.prog 3 #[] w fun e w' => e = .returned (.bool true) ∧ Bel w w' := by
  have t1 : (binI 7 (-7) 2 == -3) = true := by decide +kernel
  have t2 : (binI 8 (-7) 2 == -1) = true := by decide +kernel
  have t3 : (binI 12 1 64 == 1) = true := by decide +kernel
  have t4 : (binI 7 (-9223372036854775808) (-1) == -9223372036854775808) = true := by decide +kernel
  have t6 : parOk [45, 57, 50, 50, 51, 51, 55, 50, 48, 51, 54, 56, 53, 52, 55, 55, 53, 56, 48, 56] = true := by decide +kernel
  have t7 : parV [45, 57, 50, 50, 51, 51, 55, 50, 48, 51, 54, 56, 53, 52, 55, 55, 53, 56, 48, 56] = -9223372036854775808 := by decide +kernel
  have t8 : parOk [45, 48] = false := by decide +kernel
  have t9 : (Lib.itoa (-9223372036854775808) == [45, 57, 50, 50, 51, 51, 55, 50, 48, 51, 54, 56, 53, 52, 55, 55, 53, 56, 48, 56]) = true := by decide +kernel
  have t5 : (binI 8 5 0 == 0) = true := by decide +kernel
  go_enter Tryd.func3, Tryd.ntmps3
  go_wp2_with (first | (go_at_call 13; refine (par_any _ _ (by decide)).mono ?_; rintro e w' ⟨rfl, rfl⟩) | (go_at_call 14; refine (binary_any _ _ _ _).mono ?_; rintro e w' ⟨rfl, rfl⟩) | (go_at_call 15; refine (text_any _ _ (by omega) (by omega) ht).mono ?_; rintro e w1 ⟨rfl, HB⟩))
  go_ret
  exact ⟨rfl, HB⟩
end Go.Proofs.YtjcaobomplpkeaaDoor
