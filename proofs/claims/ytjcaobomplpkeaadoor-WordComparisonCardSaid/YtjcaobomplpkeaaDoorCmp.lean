/-
  WordComparison: the walk.
-/
import Derived.Test.YtjcaobomplpkeaaDoorKit
import Derived.Test.YtjcaobomplpkeaaDoorBase
import Derived.Test.YtjcaobomplpkeaaDoorEx
import Derived.Test.YtjcaobomplpkeaaDoorKeep
import Derived.Test.YtjcaobomplpkeaaDoorRingMath
import Derived.Test.YtjcaobomplpkeaaDoorCmpMath
import Derived.WalkKit
import Derived.ProofKit
import Derived.BigQuiet
import Derived.Lib.Hide
import Derived.Outline
namespace Go.Proofs.YtjcaobomplpkeaaDoor
open Go.RowKit (wrap32 wrap64)
open Go.RowKit
set_option maxHeartbeats 400000

theorem cmp_walk (a b p q : Int) (_wa : (Lit.int .i64 a).wf = true) (_wb : (Lit.int .i64 b).wf = true) (wp : (Lit.int .i64 p).wf = true) (wq : (Lit.int .i64 q).wf = true) (w : World) (ht : Tab w) :
    Calls Tryd.prog 8 #[.int .i64 a, .int .i64 b, .int .i64 p, .int .i64 q] w fun e w' => e = .returned (.bool true) ∧ Bel w w' := by
  have HP := Lib.hid (w64_of_wf wp)
  have HQ := Lib.hid (w64_of_wf wq)
  have HT0 := Lib.hid ht
  clear _wa _wb wp wq ht
  go_enter Tryd.func8, Tryd.ntmps8
  go_wp2_with fail
  refine (word_any a p _ HP.out).mono ?_
  rintro e w1 ⟨x, rfl, hx, hb1⟩
  have HB1 := Lib.hid hb1
  clear hb1
  go_wp2_with fail
  refine (word_any b q _ HQ.out).mono ?_
  rintro e w2 ⟨y, rfl, hy, hb2⟩
  have HB2 := Lib.hid (HB1.out.trans hb2)
  have HTH := Lib.hid (HT0.out.keep HB2.out)
  have HT := HTH.out
  clear hb2
  unfold W64 at hx hy
  by_cases hxn : x < 0
  · by_cases hyn : y < 0
    · rcases Int.lt_trichotomy x y with h | h | h
      · skip
        have c0 := lt_yes (x := x) (y := y) (by omega)
        have c1 := lt_no (x := y) (y := x) (by omega)
        have c2 := eq_no (x := x) (y := y) (by omega)
        have c3 := ne_yes (x := x) (y := y) (by omega)
        have c4 := le_yes (x := x) (y := y) (by omega)
        have c5 := ltu_yes (x := x) (y := y) (by omega)
        have c6 := (by simpa using (show ¬ x = y by omega) : (x == y) = false)
        go_wp2_with (first | (go_at_call 14; refine (binary_any _ _ _ _).mono ?_; rintro e w' ⟨rfl, rfl⟩) | (go_at_call 3; refine (examples_any _ HT).mono ?_; rintro e w3 ⟨rfl, HB⟩))
        go_ret
        exact ⟨rfl, HB2.out.trans HB⟩
      · skip
        subst h
        have c0 := lt_no (x := x) (y := x) (by omega)
        have c1 := lt_no (x := x) (y := x) (by omega)
        have c2 := eq_yes (x := x) (y := x) (by omega)
        have c3 := ne_no (x := x) (y := x) (by omega)
        have c4 := le_yes (x := x) (y := x) (by omega)
        have c5 := ltu_no (x := x) (y := x) (by omega)
        have c6 := (by simp : (x == x) = true)
        go_wp2_with (first | (go_at_call 14; refine (binary_any _ _ _ _).mono ?_; rintro e w' ⟨rfl, rfl⟩) | (go_at_call 3; refine (examples_any _ HT).mono ?_; rintro e w3 ⟨rfl, HB⟩))
        go_ret
        exact ⟨rfl, HB2.out.trans HB⟩
      · skip
        have c0 := lt_no (x := x) (y := y) (by omega)
        have c1 := lt_yes (x := y) (y := x) (by omega)
        have c2 := eq_no (x := x) (y := y) (by omega)
        have c3 := ne_yes (x := x) (y := y) (by omega)
        have c4 := le_no (x := x) (y := y) (by omega)
        have c5 := ltu_no (x := x) (y := y) (by omega)
        have c6 := (by simpa using (show ¬ x = y by omega) : (x == y) = false)
        go_wp2_with (first | (go_at_call 14; refine (binary_any _ _ _ _).mono ?_; rintro e w' ⟨rfl, rfl⟩) | (go_at_call 3; refine (examples_any _ HT).mono ?_; rintro e w3 ⟨rfl, HB⟩))
        go_ret
        exact ⟨rfl, HB2.out.trans HB⟩
    · skip
      have c0 := lt_yes (x := x) (y := y) (by omega)
      have c1 := lt_no (x := y) (y := x) (by omega)
      have c2 := eq_no (x := x) (y := y) (by omega)
      have c3 := ne_yes (x := x) (y := y) (by omega)
      have c4 := le_yes (x := x) (y := y) (by omega)
      have c5 := ltu_no (x := x) (y := y) (by omega)
      have c6 := (by simpa using (show ¬ x = y by omega) : (x == y) = false)
      go_wp2_with (first | (go_at_call 14; refine (binary_any _ _ _ _).mono ?_; rintro e w' ⟨rfl, rfl⟩) | (go_at_call 3; refine (examples_any _ HT).mono ?_; rintro e w3 ⟨rfl, HB⟩))
      go_ret
      exact ⟨rfl, HB2.out.trans HB⟩
  · by_cases hyn : y < 0
    · skip
      have c0 := lt_no (x := x) (y := y) (by omega)
      have c1 := lt_yes (x := y) (y := x) (by omega)
      have c2 := eq_no (x := x) (y := y) (by omega)
      have c3 := ne_yes (x := x) (y := y) (by omega)
      have c4 := le_no (x := x) (y := y) (by omega)
      have c5 := ltu_yes (x := x) (y := y) (by omega)
      have c6 := (by simpa using (show ¬ x = y by omega) : (x == y) = false)
      go_wp2_with (first | (go_at_call 14; refine (binary_any _ _ _ _).mono ?_; rintro e w' ⟨rfl, rfl⟩) | (go_at_call 3; refine (examples_any _ HT).mono ?_; rintro e w3 ⟨rfl, HB⟩))
      go_ret
      exact ⟨rfl, HB2.out.trans HB⟩
    · rcases Int.lt_trichotomy x y with h | h | h
      · skip
        have c0 := lt_yes (x := x) (y := y) (by omega)
        have c1 := lt_no (x := y) (y := x) (by omega)
        have c2 := eq_no (x := x) (y := y) (by omega)
        have c3 := ne_yes (x := x) (y := y) (by omega)
        have c4 := le_yes (x := x) (y := y) (by omega)
        have c5 := ltu_yes (x := x) (y := y) (by omega)
        have c6 := (by simpa using (show ¬ x = y by omega) : (x == y) = false)
        go_wp2_with (first | (go_at_call 14; refine (binary_any _ _ _ _).mono ?_; rintro e w' ⟨rfl, rfl⟩) | (go_at_call 3; refine (examples_any _ HT).mono ?_; rintro e w3 ⟨rfl, HB⟩))
        go_ret
        exact ⟨rfl, HB2.out.trans HB⟩
      · skip
        subst h
        have c0 := lt_no (x := x) (y := x) (by omega)
        have c1 := lt_no (x := x) (y := x) (by omega)
        have c2 := eq_yes (x := x) (y := x) (by omega)
        have c3 := ne_no (x := x) (y := x) (by omega)
        have c4 := le_yes (x := x) (y := x) (by omega)
        have c5 := ltu_no (x := x) (y := x) (by omega)
        have c6 := (by simp : (x == x) = true)
        go_wp2_with (first | (go_at_call 14; refine (binary_any _ _ _ _).mono ?_; rintro e w' ⟨rfl, rfl⟩) | (go_at_call 3; refine (examples_any _ HT).mono ?_; rintro e w3 ⟨rfl, HB⟩))
        go_ret
        exact ⟨rfl, HB2.out.trans HB⟩
      · skip
        have c0 := lt_no (x := x) (y := y) (by omega)
        have c1 := lt_yes (x := y) (y := x) (by omega)
        have c2 := eq_no (x := x) (y := y) (by omega)
        have c3 := ne_yes (x := x) (y := y) (by omega)
        have c4 := le_no (x := x) (y := y) (by omega)
        have c5 := ltu_no (x := x) (y := y) (by omega)
        have c6 := (by simpa using (show ¬ x = y by omega) : (x == y) = false)
        go_wp2_with (first | (go_at_call 14; refine (binary_any _ _ _ _).mono ?_; rintro e w' ⟨rfl, rfl⟩) | (go_at_call 3; refine (examples_any _ HT).mono ?_; rintro e w3 ⟨rfl, HB⟩))
        go_ret
        exact ⟨rfl, HB2.out.trans HB⟩
end Go.Proofs.YtjcaobomplpkeaaDoor
