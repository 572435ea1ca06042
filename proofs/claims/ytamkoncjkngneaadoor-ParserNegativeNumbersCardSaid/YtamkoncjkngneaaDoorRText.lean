/-
  What the reference's Text answers: the walks.
-/
import Derived.Test.YtamkoncjkngneaaDoorProg
import Derived.Test.YtamkoncjkngneaaDoorBel
import Derived.Test.YtamkoncjkngneaaDoorPure
import Derived.Test.YtamkoncjkngneaaDoorNum
import Derived.Test.YtamkoncjkngneaaDoorItoaMath
import Derived.WalkKit
import Derived.ProofKit
import Derived.BigQuiet
import Derived.Outline
import Derived.Lib.Hide
import Derived.Deep.RegionWith
import Derived.Laws.IdiomStrings
namespace Go.Proofs.YtamkoncjkngneaaDoor
open Go.RowKit (wrap32 wrap64)
open Go.RowKit
set_option maxHeartbeats 400000

/-- The byte of a decimal digit. -/
def digB (d : Nat) : UInt8 := UInt8.ofNat (48 + d)
theorem conv_one (d : Nat) (hd : d < 10) (W : World) (b : Nat) (h : W.cell? ⟨b, 0, none⟩ = some (.int .u8 (48 + (d : Int)))) :
    (convert 100 9 (.slice (some ⟨b, 0, none⟩) 1 1)).run Tryd.prog W = .ok (.string ⟨[digB d].toArray⟩) W := by
  refine run_convert_bytes_back W 100 9 5 ⟨b, 0, none⟩ 1 [digB d] Tryd.underlying100 Tryd.underlying5 Tryd.underlying9 ?_
  intro j hj
  obtain rfl : j = 0 := by simpa using hj
  have e : (⟨b, 0, none⟩ : Addr).add 0 = ⟨b, 0, none⟩ := rfl
  rw [e, h]
  show some (Value.int .u8 (48 + (d : Int))) = some (Value.int .u8 ((digB d).toNat : Int))
  rw [show (digB d).toNat = 48 + d from dig_toNat d hd]
  rfl
theorem fmt_small (n : Nat) (w : World) (h : n < 10) : Calls Tryd.prog 38 #[.int .u64 n] w fun e w' => e = .returned (.string ⟨(Lib.decDigits n).toArray⟩) ∧ Bel w w' := by
  have t1 : decide ((n : Int) < 10) = true := by simp; omega
  have hcv := conv_one n h
  have HD : Hid (Lib.decDigits n = [digB n]) := Lib.hid (dec_small h)
  go_enter Tryd.func38, Tryd.ntmps38
  go_wp2
  go_ret
  exact ⟨by rw [HD.out]; rfl, (Bel.refl _).alloc _⟩
theorem bcell {W w1 : World} (hb : Bel W w1) : ∀ b o, b < W.heap.size → w1.cell? ⟨b, o, none⟩ = W.cell? ⟨b, o, none⟩ :=
  fun b o h => Below.cell hb (p := ⟨b, o, none⟩) h
theorem fmt_any (k : Nat) : ∀ (n : Nat) (w : World), n < 10 ^ (k + 1) → n ≤ 18446744073709551615 → Calls Tryd.prog 38 #[.int .u64 n] w fun e w' => e = .returned (.string ⟨(Lib.decDigits n).toArray⟩) ∧ Bel w w' := by
  induction k with
  | zero => exact fun n w h _ => fmt_small n w (by simpa using h)
  | succ k ih =>
    intro n w hn hm
    by_cases h : n < 10
    · exact fmt_small n w h
    · have IH := Lib.hid (fun w => ih (n / 10) w (by rw [Nat.pow_succ] at hn; omega) (by omega))
      clear ih hn
      have t1 : decide ((n : Int) < 10) = false := by simp; omega
      have hcv := conv_one (n % 10) (by omega)
      have HD : Hid (Lib.decDigits n = Lib.decDigits (n / 10) ++ [digB (n % 10)]) := Lib.hid (dec_big h)
      go_enter Tryd.func38, Tryd.ntmps38
      go_wp2_with fail
      have f1 : IntKind.u64.wrap ((n : Int) / 10) = (n : Int) / 10 := IntWalk.u64_in _ (by omega)
      have hl : (Lib.decDigits (n / 10)).length ≤ 20 := dec_len 20 (n / 10) (by decide) (by omega)
      have hadd : ∀ W, (Op.stringOp .add ⟨(Lib.decDigits (n / 10)).toArray⟩ ⟨#[digB (n % 10)]⟩).run Tryd.prog W = .ok (.string ⟨(Lib.decDigits (n / 10) ++ [digB (n % 10)]).toArray⟩) W := fun W => by
        rw [run_string_add_sum W _ _ (by show (Lib.decDigits (n / 10)).toArray.size + 1 ≤ _; rw [List.size_toArray]; omega)]
        exact congrArg (fun x => Result.ok (Value.string x) W) (ByteArray.mk_append_mk _ [digB (n % 10)])
      clear hl
      have f2 : (n : Int).tmod 10 = (n : Int) % 10 := Int.tmod_eq_emod_of_nonneg (by omega)
      have f3 : IntKind.u64.wrap (48 + (n : Int) % 10) = 48 + (n : Int) % 10 := IntWalk.u64_in _ (by omega)
      have f4 : IntKind.u8.wrap (48 + (n : Int) % 10) = 48 + (n : Int) % 10 := IntWalk.u8_in _ (by omega)
      go_region_with (go_at_call 38; refine (IH.out _).mono ?_; rintro e w1 ⟨rfl, hb⟩; have hc := bcell hb; have HB := Lib.hid hb; clear hb)
      all_goals
        go_wp2
        go_ret
        refine ⟨by rw [HD.out]; rfl, ?_⟩
        first
          | exact ((Bel.refl w).drew.trans HB.out).alloc _
          | exact ((Bel.refl w).drew.alloc _).trans HB.out
theorem refText_pos (n : Int) (w : World) (h0 : 0 ≤ n) (h1 : n ≤ 9223372036854775807) : Calls Tryd.prog 20 #[.int .i64 n] w fun e w' => e = .returned (.string ⟨(Lib.itoa n).toArray⟩) ∧ Bel w w' := by
  obtain ⟨m, rfl⟩ := Int.eq_ofNat_of_zero_le h0
  have HI : Hid (Lib.itoa (m : Int) = Lib.decDigits m) := Lib.hid (by rw [Lib.itoa, if_neg (by omega), Int.toNat_natCast])
  have t1 : decide ((m : Int) < 0) = false := by simp
  go_enter Tryd.func20, Tryd.ntmps20
  go_wp2_with fail
  refine (fmt_any 19 m _ (by omega) (by omega)).mono ?_
  rintro e w1 ⟨rfl, hb⟩
  have HB := Lib.hid hb
  clear hb
  go_wp2_with fail
  go_ret
  exact ⟨by rw [HI.out]; rfl, HB.out⟩
theorem refText_neg (n : Int) (w : World) (h0 : n < 0) (h1 : -9223372036854775808 ≤ n) : Calls Tryd.prog 20 #[.int .i64 n] w fun e w' => e = .returned (.string ⟨(Lib.itoa n).toArray⟩) ∧ Bel w w' := by
  have HI : Hid (Lib.itoa n = 45 :: Lib.decDigits n.natAbs) := Lib.hid (by rw [Lib.itoa, if_pos h0])
  have hl : (Lib.decDigits n.natAbs).length ≤ 20 := dec_len 20 n.natAbs (by decide) (by omega)
  have hadd : ∀ W, (Op.stringOp .add ⟨#[45]⟩ ⟨(Lib.decDigits n.natAbs).toArray⟩).run Tryd.prog W = .ok (.string ⟨(45 :: Lib.decDigits n.natAbs).toArray⟩) W := fun W => by
    rw [run_string_add_sum W _ _ (by show 1 + (Lib.decDigits n.natAbs).toArray.size ≤ _; rw [List.size_toArray]; omega)]
    exact congrArg (fun x => Result.ok (Value.string x) W) (ByteArray.mk_append_mk [45] _)
  clear hl
  have HF : Hid (∀ w, Calls Tryd.prog 38 #[.int .u64 (-(n + 1) + 1)] w fun e w' => e = .returned (.string ⟨(Lib.decDigits n.natAbs).toArray⟩) ∧ Bel w w') := by
    have e : (-(n + 1) + 1) = (n.natAbs : Int) := by omega
    rw [e]
    exact fun w => fmt_any 19 n.natAbs w (by omega) (by omega)
  have t1 : decide (n < 0) = true := by simpa using h0
  go_enter Tryd.func20, Tryd.ntmps20
  go_wp2_with fail
  refine (HF.out _).mono ?_
  rintro e w1 ⟨rfl, hb⟩
  have HB := Lib.hid hb
  clear hb
  go_wp2_with fail
  go_ret
  exact ⟨by rw [HI.out]; rfl, HB.out⟩
theorem refText_any (n : Int) (w : World) (h : W64 n) : Calls Tryd.prog 20 #[.int .i64 n] w fun e w' => e = .returned (.string ⟨(Lib.itoa n).toArray⟩) ∧ Bel w w' := by
  by_cases h0 : n < 0
  · exact refText_neg n w h0 h.1
  · exact refText_pos n w (by omega) h.2
end Go.Proofs.YtamkoncjkngneaaDoor
