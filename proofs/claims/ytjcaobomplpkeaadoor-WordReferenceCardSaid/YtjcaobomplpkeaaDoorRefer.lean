/-
  WordReference: the walk.
-/
import Derived.Test.YtjcaobomplpkeaaDoorKit
import Derived.Test.YtjcaobomplpkeaaDoorBase
import Derived.Test.YtjcaobomplpkeaaDoorEx
import Derived.Test.YtjcaobomplpkeaaDoorKeep
import Derived.Test.YtjcaobomplpkeaaDoorRingMath
import Derived.Test.YtjcaobomplpkeaaDoorText
import Derived.Test.YtjcaobomplpkeaaDoorItoaMath
import Derived.Test.YtjcaobomplpkeaaDoorRefBase
import Derived.Test.YtjcaobomplpkeaaDoorRefNum
import Derived.Test.YtjcaobomplpkeaaDoorRefText
import Derived.WalkKit
import Derived.ProofKit
import Derived.BigQuiet
import Derived.LoopTactic
import Derived.Laws.IdiomStrings
import Derived.Lib.Hide
import Derived.Outline
namespace Go.Proofs.YtjcaobomplpkeaaDoor
open Go.RowKit (wrap32 wrap64)
open Go.RowKit
set_option maxHeartbeats 400000

/-- A sum of two short texts, under one name. -/
theorem add_named (a b : ByteArray) (ha : a.size ≤ 1000) (hb : b.size ≤ 1000) : ∃ s : ByteArray, (∀ W, (Op.stringOp .add a b).run Tryd.prog W = .ok (.string s) W) ∧ s.size ≤ maxLen :=
  ⟨a ++ b, fun W => run_string_add_sum W a b (by omega), by rw [ByteArray.size_append]; unfold maxLen; omega⟩
theorem size_toArray (l : List UInt8) : (⟨l.toArray⟩ : ByteArray).size = l.length := by rw [← size_len]
theorem reference_walk (op a b p q : Int) (raw : ByteArray) (_wo : (Lit.int .i64 op).wf = true) (_wa : (Lit.int .i64 a).wf = true) (_wb : (Lit.int .i64 b).wf = true) (wp : (Lit.int .i64 p).wf = true) (wq : (Lit.int .i64 q).wf = true) (wr : raw.size ≤ maxLen) (w : World) (ht : Tab w) :
    Calls Tryd.prog 4 #[.int .i64 op, .int .i64 a, .int .i64 b, .int .i64 p, .int .i64 q, .string raw] w fun e w' => e = .returned (.bool true) ∧ Bel w w' := by
  have HP := Lib.hid (w64_of_wf wp)
  have HQ := Lib.hid (w64_of_wf wq)
  have HT0 := Lib.hid ht
  have HR := Lib.hid wr
  obtain ⟨o1, ho1⟩ : ∃ o1, op % 36 = o1 := ⟨_, rfl⟩
  obtain ⟨o2, ho2⟩ : ∃ o2, op % 18 = o2 := ⟨_, rfl⟩
  have H1 : Hid (∀ w, Calls Tryd.prog 17 #[.int .i64 op, .int .i64 36] w fun e w' => e = .returned (.int .i64 o1) ∧ w = w') := by
    rw [← ho1]
    exact fun w => pick_any op 36 w (by omega) (by omega)
  have H2 : Hid (∀ w, Calls Tryd.prog 17 #[.int .i64 op, .int .i64 18] w fun e w' => e = .returned (.int .i64 o2) ∧ w = w') := by
    rw [← ho2]
    exact fun w => pick_any op 18 w (by omega) (by omega)
  have q0 : 0 ≤ o2 := by omega
  have q1 : o2 < 18 := by omega
  clear _wo _wa _wb wp wq ht wr ho1 ho2
  go_enter Tryd.func4, Tryd.ntmps4
  go_wp2_with fail
  refine (word_any a p _ HP.out).mono ?_
  rintro e w1 ⟨x, rfl, hx, hb1⟩
  have HX := Lib.hid hx
  have HB1 := Lib.hid hb1
  clear hb1 hx
  go_wp2_with fail
  refine (word_any b q _ HQ.out).mono ?_
  rintro e w2 ⟨y, rfl, hy, hb2⟩
  have HY := Lib.hid hy
  have HB2 := Lib.hid (HB1.out.trans hb2)
  clear hb2 hy
  go_wp2_with fail
  refine (H1.out _).mono ?_
  rintro e w' ⟨rfl, rfl⟩
  go_wp2_with fail
  refine (H2.out _).mono ?_
  rintro e w' ⟨rfl, rfl⟩
  go_wp2_with fail
  go_loop [37] (fun i => ∃ k : Nat, k ≤ 3 ∧ i = .int .i64 k) (fun i => 3 - (intOf i).toNat)
  case atStart => exact ⟨0, by omega, rfl⟩
  case round =>
    obtain ⟨k, hk, rfl⟩ := hrel
    have cs : k = 0 ∨ k = 1 ∨ k = 2 ∨ k = 3 := by omega
    clear hk
    rcases cs with rfl | rfl | rfl | rfl
    · go_wp2_with (first | (go_at_call 18; refine (unary_any _ _ _).mono ?_; rintro e w' ⟨rfl, rfl⟩) | (go_at_call 19; refine (refUnary_any _ _ _).mono ?_; rintro e w' ⟨rfl, rfl⟩) | (go_at_call 14; refine (binary_any _ _ _ _).mono ?_; rintro e w' ⟨rfl, rfl⟩) | (go_at_call 20; refine (refBinary_any _ _ _ _ HX.out).mono ?_; rintro e w' ⟨rfl, rfl⟩))
      exact ⟨⟨1, by omega, rfl⟩, by simp [intOf]⟩
    · go_wp2_with (first | (go_at_call 18; refine (unary_any _ _ _).mono ?_; rintro e w' ⟨rfl, rfl⟩) | (go_at_call 19; refine (refUnary_any _ _ _).mono ?_; rintro e w' ⟨rfl, rfl⟩) | (go_at_call 14; refine (binary_any _ _ _ _).mono ?_; rintro e w' ⟨rfl, rfl⟩) | (go_at_call 20; refine (refBinary_any _ _ _ _ HX.out).mono ?_; rintro e w' ⟨rfl, rfl⟩))
      exact ⟨⟨2, by omega, rfl⟩, by simp [intOf]⟩
    · go_wp2_with (first | (go_at_call 18; refine (unary_any _ _ _).mono ?_; rintro e w' ⟨rfl, rfl⟩) | (go_at_call 19; refine (refUnary_any _ _ _).mono ?_; rintro e w' ⟨rfl, rfl⟩) | (go_at_call 14; refine (binary_any _ _ _ _).mono ?_; rintro e w' ⟨rfl, rfl⟩) | (go_at_call 20; refine (refBinary_any _ _ _ _ HX.out).mono ?_; rintro e w' ⟨rfl, rfl⟩))
      exact ⟨⟨3, by omega, rfl⟩, by simp [intOf]⟩
    · have lx := itoa_len x HX.out
      have ly := itoa_len y HY.out
      obtain ⟨tx, htx⟩ : ∃ tx : ByteArray, tx = ⟨(Lib.itoa x).toArray⟩ := ⟨_, rfl⟩
      have HTX : Hid ((⟨(Lib.itoa x).toArray⟩ : ByteArray).size ≤ maxLen) := Lib.hid (by rw [size_toArray]; unfold maxLen; omega)
      obtain ⟨s2, add2, z2⟩ := add_named ⟨#[48]⟩ ⟨(Lib.itoa x).toArray⟩ (by decide) (by rw [size_toArray]; omega)
      obtain ⟨s3, add3, z3⟩ := add_named ⟨#[45]⟩ ⟨(Lib.itoa x).toArray⟩ (by decide) (by rw [size_toArray]; omega)
      obtain ⟨s4, add4, z4⟩ := add_named ⟨(Lib.itoa x).toArray⟩ ⟨#[48]⟩ (by rw [size_toArray]; omega) (by decide)
      obtain ⟨s5, add5, z5⟩ := add_named ⟨#[43]⟩ ⟨(Lib.itoa y).toArray⟩ (by decide) (by rw [size_toArray]; omega)
      have Z2 := Lib.hid z2
      have Z3 := Lib.hid z3
      have Z4 := Lib.hid z4
      have Z5 := Lib.hid z5
      clear z2 z3 z4 z5 lx ly htx
      have HB3 := Lib.hid (HB2.out.alloc (Obj.cells #[Value.int IntKind.i64 op, Value.int IntKind.i64 o1, Value.int IntKind.i64 (4 + o2)] 3))
      go_wp2_with fail
      refine (refText_any x _ HX.out).mono ?_
      rintro e w4 ⟨rfl, hb⟩
      have HB4 := Lib.hid (HB3.out.trans hb)
      clear hb
      go_wp2_with fail
      refine (refText_any x _ HX.out).mono ?_
      rintro e w5 ⟨rfl, hb⟩
      have HB5 := Lib.hid (HB4.out.trans hb)
      clear hb
      go_wp2_with fail
      refine (refText_any x _ HX.out).mono ?_
      rintro e w6 ⟨rfl, hb⟩
      have HB6 := Lib.hid (HB5.out.trans hb)
      clear hb
      go_wp2_with fail
      refine (refText_any x _ HX.out).mono ?_
      rintro e w7 ⟨rfl, hb⟩
      have HB7 := Lib.hid (HB6.out.trans hb)
      clear hb
      go_wp2_with fail
      refine (refText_any y _ HY.out).mono ?_
      rintro e w8 ⟨rfl, hb⟩
      have HB8 := Lib.hid (HB7.out.trans hb)
      clear hb
      go_wp2_with fail
      have HB9 := Lib.hid (HB8.out.alloc (Obj.cells #[Value.string raw, Value.string ⟨(Lib.itoa x).toArray⟩, Value.string s2, Value.string s3, Value.string s4, Value.string s5] 9))
      have HT9 := Lib.hid (HT0.out.keep HB9.out)
      go_loop [77] (fun i => ∃ k : Nat, k ≤ 6 ∧ i = .int .i64 k) (fun i => 6 - (intOf i).toNat)
      case atStart => exact ⟨0, by omega, rfl⟩
      case round =>
        obtain ⟨k, hk, rfl⟩ := hrel
        have cs : k = 0 ∨ k = 1 ∨ k = 2 ∨ k = 3 ∨ k = 4 ∨ k = 5 ∨ k = 6 := by omega
        clear hk
        rcases cs with rfl | rfl | rfl | rfl | rfl | rfl | rfl
        · go_wp2_with fail
          refine (par_any raw _ HR.out).mono ?_
          rintro e w' ⟨rfl, rfl⟩
          go_wp2_with fail
          refine (refParse_any raw _ HR.out).mono ?_
          rintro e w' ⟨rfl, rfl⟩
          go_wp2_with fail
          exact ⟨⟨1, by omega, rfl⟩, by simp [intOf]⟩
        · go_wp2_with fail
          refine (par_any ⟨(Lib.itoa x).toArray⟩ _ HTX.out).mono ?_
          rintro e w' ⟨rfl, rfl⟩
          go_wp2_with fail
          refine (refParse_any ⟨(Lib.itoa x).toArray⟩ _ HTX.out).mono ?_
          rintro e w' ⟨rfl, rfl⟩
          go_wp2_with fail
          exact ⟨⟨2, by omega, rfl⟩, by simp [intOf]⟩
        · go_wp2_with fail
          refine (par_any s2 _ Z2.out).mono ?_
          rintro e w' ⟨rfl, rfl⟩
          go_wp2_with fail
          refine (refParse_any s2 _ Z2.out).mono ?_
          rintro e w' ⟨rfl, rfl⟩
          go_wp2_with fail
          exact ⟨⟨3, by omega, rfl⟩, by simp [intOf]⟩
        · go_wp2_with fail
          refine (par_any s3 _ Z3.out).mono ?_
          rintro e w' ⟨rfl, rfl⟩
          go_wp2_with fail
          refine (refParse_any s3 _ Z3.out).mono ?_
          rintro e w' ⟨rfl, rfl⟩
          go_wp2_with fail
          exact ⟨⟨4, by omega, rfl⟩, by simp [intOf]⟩
        · go_wp2_with fail
          refine (par_any s4 _ Z4.out).mono ?_
          rintro e w' ⟨rfl, rfl⟩
          go_wp2_with fail
          refine (refParse_any s4 _ Z4.out).mono ?_
          rintro e w' ⟨rfl, rfl⟩
          go_wp2_with fail
          exact ⟨⟨5, by omega, rfl⟩, by simp [intOf]⟩
        · go_wp2_with fail
          refine (par_any s5 _ Z5.out).mono ?_
          rintro e w' ⟨rfl, rfl⟩
          go_wp2_with fail
          refine (refParse_any s5 _ Z5.out).mono ?_
          rintro e w' ⟨rfl, rfl⟩
          go_wp2_with fail
          exact ⟨⟨6, by omega, rfl⟩, by simp [intOf]⟩
        · have HT := HT9.out
          go_wp2_with fail
          refine (text_any x _ HX.out.1 HX.out.2 HT).mono ?_
          rintro e w10 ⟨rfl, hb⟩
          have HB10 := Lib.hid (HB9.out.trans hb)
          clear hb
          go_wp2_with fail
          refine (refText_any x _ HX.out).mono ?_
          rintro e w11 ⟨rfl, hb⟩
          have HB11 := Lib.hid (HB10.out.trans hb)
          clear hb
          go_wp2_with fail
          refine (examples_any _ (HT0.out.keep HB11.out)).mono ?_
          rintro e w12 ⟨rfl, HB⟩
          go_wp2_with fail
          go_ret
          exact ⟨rfl, HB11.out.trans HB⟩
end Go.Proofs.YtjcaobomplpkeaaDoor
