/-
  WordDivision: the walk.
-/
import Derived.Test.YtjcaobomplpkeaaDoorKit
import Derived.Test.YtjcaobomplpkeaaDoorBase
import Derived.Test.YtjcaobomplpkeaaDoorEx
import Derived.Test.YtjcaobomplpkeaaDoorKeep
import Derived.Test.YtjcaobomplpkeaaDoorRingMath
import Derived.Test.YtjcaobomplpkeaaDoorCmpMath
import Derived.WalkKit
import Derived.ProofKit
import Derived.BigQuiet
import Derived.Lib.Hide
import Derived.Outline
namespace Go.Proofs.YtjcaobomplpkeaaDoor
open Go.RowKit (wrap32 wrap64)
open Go.RowKit
set_option maxHeartbeats 400000

theorem div_walk (a b p q : Int) (_wa : (Lit.int .i64 a).wf = true) (_wb : (Lit.int .i64 b).wf = true) (wp : (Lit.int .i64 p).wf = true) (wq : (Lit.int .i64 q).wf = true) (w : World) (ht : Tab w) :
    Calls Tryd.prog 6 #[.int .i64 a, .int .i64 b, .int .i64 p, .int .i64 q] w fun e w' => e = .returned (.bool true) ∧ Bel w w' := by
  have HP := Lib.hid (w64_of_wf wp)
  have HQ := Lib.hid (w64_of_wf wq)
  have HT0 := Lib.hid ht
  clear _wa _wb wp wq ht
  go_enter Tryd.func6, Tryd.ntmps6
  go_wp2_with fail
  refine (word_any a p _ HP.out).mono ?_
  rintro e w1 ⟨x, rfl, hx, hb1⟩
  have HB1 := Lib.hid hb1
  clear hb1
  go_wp2_with fail
  refine (word_any b q _ HQ.out).mono ?_
  rintro e w2 ⟨y, rfl, hy, hb2⟩
  have HB2 := Lib.hid (HB1.out.trans hb2)
  have HTH := Lib.hid (HT0.out.keep HB2.out)
  have HT := HTH.out
  clear hb2
  by_cases hz : y = 0
  · subst hz
    have d0 : binI 7 x 0 = 0 := by rw [bin7, quoI, if_pos rfl]
    have r0 : binI 8 x 0 = 0 := by rw [bin8, remI, if_pos rfl]
    go_wp2_with (first | (go_at_call 14; refine (binary_any _ _ _ _).mono ?_; rintro e w' ⟨rfl, rfl⟩) | (go_at_call 3; refine (examples_any _ HT).mono ?_; rintro e w3 ⟨rfl, HB⟩))
    go_ret
    exact ⟨rfl, HB2.out.trans HB⟩
  · have t0 : (y == 0) = false := by simpa using hz
    have t1 := div_back x y hx hz
    have re := rem_eq x y hz
    obtain ⟨bp, bn⟩ := rem_bound x y
    obtain ⟨sp, sn⟩ := rem_sign x y
    rw [← re] at bp bn sp sn
    clear re
    unfold W64 at hx hy
    by_cases hm : y = -9223372036854775808
    · have hm' : (y == -9223372036854775808) = true := by simpa using hm
      have hy0 : y < 0 := by omega
      have nb : -9223372036854775808 ≤ binI 8 x y ∧ binI 8 x y ≤ 9223372036854775807 := by omega
      rcases Int.lt_trichotomy (binI 8 x y) 0 with hr | hr | hr
      · skip
        have c1 : (binI 8 x y == 0) = false := by simp; omega
        have c2 : x < 0 := by omega
        clear bp bn sp sn hz hm
        go_wp2_with (first | (go_at_call 14; refine (binary_any _ _ _ _).mono ?_; rintro e w' ⟨rfl, rfl⟩) | (go_at_call 3; refine (examples_any _ HT).mono ?_; rintro e w3 ⟨rfl, HB⟩))
        go_ret
        exact ⟨rfl, HB2.out.trans HB⟩
      · skip
        have c1 : (binI 8 x y == 0) = true := by simpa using hr
        clear bp bn sp sn hz hm
        have HR := Lib.hid hr
        clear hr
        go_wp2_with (first | (go_at_call 14; refine (binary_any _ _ _ _).mono ?_; rintro e w' ⟨rfl, rfl⟩) | (go_at_call 3; refine (examples_any _ HT).mono ?_; rintro e w3 ⟨rfl, HB⟩))
        go_ret
        exact ⟨rfl, HB2.out.trans HB⟩
      · skip
        have c1 : (binI 8 x y == 0) = false := by simp; omega
        have c2 : ¬ x < 0 := by omega
        clear bp bn sp sn hz hm
        go_wp2_with (first | (go_at_call 14; refine (binary_any _ _ _ _).mono ?_; rintro e w' ⟨rfl, rfl⟩) | (go_at_call 3; refine (examples_any _ HT).mono ?_; rintro e w3 ⟨rfl, HB⟩))
        go_ret
        exact ⟨rfl, HB2.out.trans HB⟩
    · have hm' : (y == -9223372036854775808) = false := by simpa using hm
      by_cases hy0 : y < 0
      · have e1 : y < binI 8 x y := by omega
        have e2 : binI 8 x y < -y := by omega
        have e3 : -9223372036854775807 ≤ y := by omega
        rcases Int.lt_trichotomy (binI 8 x y) 0 with hr | hr | hr
        · skip
          have c1 : (binI 8 x y == 0) = false := by simp; omega
          have c2 : x < 0 := by omega
          clear bp bn sp sn hz hm
          go_wp2_with (first | (go_at_call 14; refine (binary_any _ _ _ _).mono ?_; rintro e w' ⟨rfl, rfl⟩) | (go_at_call 3; refine (examples_any _ HT).mono ?_; rintro e w3 ⟨rfl, HB⟩))
          go_ret
          exact ⟨rfl, HB2.out.trans HB⟩
        · skip
          have c1 : (binI 8 x y == 0) = true := by simpa using hr
          clear bp bn sp sn hz hm
          have HR := Lib.hid hr
          clear hr
          go_wp2_with (first | (go_at_call 14; refine (binary_any _ _ _ _).mono ?_; rintro e w' ⟨rfl, rfl⟩) | (go_at_call 3; refine (examples_any _ HT).mono ?_; rintro e w3 ⟨rfl, HB⟩))
          go_ret
          exact ⟨rfl, HB2.out.trans HB⟩
        · skip
          have c1 : (binI 8 x y == 0) = false := by simp; omega
          have c2 : ¬ x < 0 := by omega
          clear bp bn sp sn hz hm
          go_wp2_with (first | (go_at_call 14; refine (binary_any _ _ _ _).mono ?_; rintro e w' ⟨rfl, rfl⟩) | (go_at_call 3; refine (examples_any _ HT).mono ?_; rintro e w3 ⟨rfl, HB⟩))
          go_ret
          exact ⟨rfl, HB2.out.trans HB⟩
      · have e1 : -y < binI 8 x y := by omega
        have e2 : binI 8 x y < y := by omega
        have e3 : 0 < y := by omega
        rcases Int.lt_trichotomy (binI 8 x y) 0 with hr | hr | hr
        · skip
          have c1 : (binI 8 x y == 0) = false := by simp; omega
          have c2 : x < 0 := by omega
          clear bp bn sp sn hz hm
          go_wp2_with (first | (go_at_call 14; refine (binary_any _ _ _ _).mono ?_; rintro e w' ⟨rfl, rfl⟩) | (go_at_call 3; refine (examples_any _ HT).mono ?_; rintro e w3 ⟨rfl, HB⟩))
          go_ret
          exact ⟨rfl, HB2.out.trans HB⟩
        · skip
          have c1 : (binI 8 x y == 0) = true := by simpa using hr
          clear bp bn sp sn hz hm
          have HR := Lib.hid hr
          clear hr
          go_wp2_with (first | (go_at_call 14; refine (binary_any _ _ _ _).mono ?_; rintro e w' ⟨rfl, rfl⟩) | (go_at_call 3; refine (examples_any _ HT).mono ?_; rintro e w3 ⟨rfl, HB⟩))
          go_ret
          exact ⟨rfl, HB2.out.trans HB⟩
        · skip
          have c1 : (binI 8 x y == 0) = false := by simp; omega
          have c2 : ¬ x < 0 := by omega
          clear bp bn sp sn hz hm
          go_wp2_with (first | (go_at_call 14; refine (binary_any _ _ _ _).mono ?_; rintro e w' ⟨rfl, rfl⟩) | (go_at_call 3; refine (examples_any _ HT).mono ?_; rintro e w3 ⟨rfl, HB⟩))
          go_ret
          exact ⟨rfl, HB2.out.trans HB⟩
end Go.Proofs.YtjcaobomplpkeaaDoor
