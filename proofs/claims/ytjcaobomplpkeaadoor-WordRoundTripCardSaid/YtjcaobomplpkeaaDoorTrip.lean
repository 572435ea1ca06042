/-
  WordRoundTrip: the walk.
-/
import Derived.Test.YtjcaobomplpkeaaDoorKit
import Derived.Test.YtjcaobomplpkeaaDoorBase
import Derived.Test.YtjcaobomplpkeaaDoorEx
import Derived.Test.YtjcaobomplpkeaaDoorKeep
import Derived.Test.YtjcaobomplpkeaaDoorRingMath
import Derived.Test.YtjcaobomplpkeaaDoorText
import Derived.Test.YtjcaobomplpkeaaDoorItoaMath
import Derived.WalkKit
import Derived.ProofKit
import Derived.BigQuiet
import Derived.Lib.Hide
import Derived.Outline
namespace Go.Proofs.YtjcaobomplpkeaaDoor
open Go.RowKit (wrap32 wrap64)
open Go.RowKit
set_option maxHeartbeats 400000

theorem data_list (l : List UInt8) : (⟨l.toArray⟩ : ByteArray).data.toList = l := by simp
theorem size_list (l : List UInt8) : (⟨l.toArray⟩ : ByteArray).size = l.length := by rw [← size_len, data_list]
theorem parse_text (x : Int) (w : World) (hx : W64 x) : Calls Tryd.prog 13 #[.string ⟨(Lib.itoa x).toArray⟩] w fun e w' => e = .returned (.tuple #[.int .i64 x, .bool true]) ∧ w = w' := by
  have h := par_any ⟨(Lib.itoa x).toArray⟩ w (by rw [size_list]; have := itoa_len x hx; unfold maxLen; omega)
  rw [data_list, (itoa_par x hx).1, (itoa_par x hx).2] at h
  exact h
theorem trip_walk (a b p q : Int) (_wa : (Lit.int .i64 a).wf = true) (_wb : (Lit.int .i64 b).wf = true) (wp : (Lit.int .i64 p).wf = true) (wq : (Lit.int .i64 q).wf = true) (w : World) (ht : Tab w) :
    Calls Tryd.prog 9 #[.int .i64 a, .int .i64 b, .int .i64 p, .int .i64 q] w fun e w' => e = .returned (.bool true) ∧ Bel w w' := by
  have HP := Lib.hid (w64_of_wf wp)
  have HQ := Lib.hid (w64_of_wf wq)
  have HT0 := Lib.hid ht
  clear _wa _wb wp wq ht
  go_enter Tryd.func9, Tryd.ntmps9
  go_wp2_with fail
  refine (word_any a p _ HP.out).mono ?_
  rintro e w1 ⟨x, rfl, hx, hb1⟩
  have HB1 := Lib.hid hb1
  clear hb1
  go_wp2_with fail
  refine (word_any b q _ HQ.out).mono ?_
  rintro e w2 ⟨y, rfl, hy, hb2⟩
  have HB2 := Lib.hid (HB1.out.trans hb2)
  have HTH := Lib.hid (HT0.out.keep HB2.out)
  have HT2 := HTH.out
  clear hb2
  have HX := Lib.hid hx
  have HY := Lib.hid hy
  have c0 := itoa_same x y hx hy
  clear hx hy
  by_cases h : x = y
  · subst h
    have c1 : (x == x) = true := by simp
    go_wp2_with fail
    refine (text_any x _ HX.out.1 HX.out.2 HT2).mono ?_
    rintro e w3 ⟨rfl, hb⟩
    have HB3 := Lib.hid (HB2.out.trans hb)
    have HTH3 := Lib.hid (HT0.out.keep HB3.out)
    have HT3 := HTH3.out
    clear hb
    go_wp2_with fail
    refine (parse_text x _ HX.out).mono ?_
    rintro e w' ⟨rfl, rfl⟩
    go_wp2_with fail
    refine (text_any x _ HX.out.1 HX.out.2 HT3).mono ?_
    rintro e w4 ⟨rfl, hb⟩
    have HB4 := Lib.hid (HB3.out.trans hb)
    have HTH4 := Lib.hid (HT0.out.keep HB4.out)
    have HT4 := HTH4.out
    clear hb
    go_wp2_with fail
    refine (text_any x _ HX.out.1 HX.out.2 HT4).mono ?_
    rintro e w5 ⟨rfl, hb⟩
    have HB5 := Lib.hid (HB4.out.trans hb)
    have HTH5 := Lib.hid (HT0.out.keep HB5.out)
    have HT5 := HTH5.out
    clear hb
    go_wp2_with fail
    refine (examples_any _ HT5).mono ?_
    rintro e w6 ⟨rfl, HB⟩
    go_wp2_with fail
    go_ret
    exact ⟨rfl, HB5.out.trans HB⟩
  · have c1 : (x == y) = false := by simpa using h
    rw [c1] at c0
    clear h
    go_wp2_with fail
    refine (text_any x _ HX.out.1 HX.out.2 HT2).mono ?_
    rintro e w3 ⟨rfl, hb⟩
    have HB3 := Lib.hid (HB2.out.trans hb)
    have HTH3 := Lib.hid (HT0.out.keep HB3.out)
    have HT3 := HTH3.out
    clear hb
    go_wp2_with fail
    refine (parse_text x _ HX.out).mono ?_
    rintro e w' ⟨rfl, rfl⟩
    go_wp2_with fail
    refine (text_any x _ HX.out.1 HX.out.2 HT3).mono ?_
    rintro e w4 ⟨rfl, hb⟩
    have HB4 := Lib.hid (HB3.out.trans hb)
    have HTH4 := Lib.hid (HT0.out.keep HB4.out)
    have HT4 := HTH4.out
    clear hb
    go_wp2_with fail
    refine (text_any y _ HY.out.1 HY.out.2 HT4).mono ?_
    rintro e w5 ⟨rfl, hb⟩
    have HB5 := Lib.hid (HB4.out.trans hb)
    have HTH5 := Lib.hid (HT0.out.keep HB5.out)
    have HT5 := HTH5.out
    clear hb
    go_wp2_with fail
    refine (examples_any _ HT5).mono ?_
    rintro e w6 ⟨rfl, HB⟩
    go_wp2_with fail
    go_ret
    exact ⟨rfl, HB5.out.trans HB⟩
end Go.Proofs.YtjcaobomplpkeaaDoor
