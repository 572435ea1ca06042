/-
  What the reference's Number answers: the walk (over the lexer's texts).
-/
import Derived.Test.YtcjolamfjgdgjaaGreatDoorLexNum
import Derived.WalkKit
import Derived.ProofKit
import Derived.BigQuiet
import Derived.LoopTactic
import Derived.Outline
import Derived.Lib.Hide
import Derived.Lib.IndexBytes
namespace Go.Proofs.YtcjolamfjgdgjaaGreatDoor
open Go.RowKit (wrap32 wrap64)
open Go.RowKit
set_option maxHeartbeats 400000

theorem toList_nil (s : ByteArray) (h : s.toList = []) : s = ⟨#[]⟩ := by
  rw [ByteArray.toList_eq] at h
  exact Go.WideShapes.bytes_inj h
/-- Is the text a number that is at most this, and its value. -/
def numOk (l : List UInt8) (most : Int) : Bool := okMag l && decide ((decV l : Int) ≤ most)
def numV (l : List UInt8) (most : Int) : Int := if numOk l most then decV l else 0
def NumPost (s : ByteArray) (most : Int) (w : World) (e : Ending) (w' : World) : Prop :=
  e = .returned (.tuple #[.int .u64 (numV s.data.toList most), .bool (numOk s.data.toList most)]) ∧ w = w'
theorem num_no {s : ByteArray} {most : Int} {w : World} (h : okMag s.data.toList = false) : NumPost s most w (.returned (.tuple #[.int .u64 0, .bool false])) w := by
  have e : numOk s.data.toList most = false := by rw [numOk, h]; rfl
  unfold NumPost
  rw [numV, e]
  exact ⟨rfl, rfl⟩
theorem okMag_bad (l : List UInt8) (h : l.all isDig = false) : okMag l = false := by unfold okMag; rw [h]; simp
theorem okMag_long (s : ByteArray) (h : 19 < s.size) : okMag s.data.toList = false := by
  unfold okMag
  have h2 : decide (s.data.toList.length ≤ 19) = false := by rw [size_len]; simp; omega
  rw [h2]
  simp
theorem okMag_zero (s : ByteArray) (hp : 0 < s.size) (h : 1 < s.size) (hz : s[0] = 48) : okMag s.data.toList = false := by
  unfold okMag
  have h2 : (s.data.toList.getD 0 0 != 48 || s.data.toList == [48]) = false := by
    rw [head_eq s hp, hz]
    have : s.data.toList ≠ [48] := by
      intro hc
      have := congrArg List.length hc
      rw [size_len] at this
      simp at this
      omega
    simpa using this
  rw [h2]
  simp
theorem okMag_good (s : ByteArray) (hp : 0 < s.size) (h19 : s.size ≤ 19) (ha : s.data.toList.all isDig = true) (hz : 2 ≤ s.size → ¬ s[0] = 48) : okMag s.data.toList = true := by
  unfold okMag
  have e1 : s.data.toList.isEmpty = false := by
    rw [List.isEmpty_eq_false_iff]
    intro hc
    have := size_len s
    rw [hc] at this
    simp at this
    omega
  have e2 : decide (s.data.toList.length ≤ 19) = true := by rw [size_len]; simp; omega
  have e3 : (s.data.toList.getD 0 0 != 48 || s.data.toList == [48]) = true := by
    rw [head_eq s hp]
    by_cases h2 : 2 ≤ s.size
    · rw [Bool.or_eq_true]
      exact Or.inl (bne_iff_ne.2 (hz h2))
    · by_cases h48 : s[0] = 48
      · have hl : s.data.toList.length = 1 := by rw [size_len]; omega
        obtain ⟨c, hc⟩ := List.length_eq_one_iff.1 hl
        have h0 := head_eq s hp
        rw [hc] at h0 ⊢
        have : c = 48 := by rw [← h48, ← h0]; rfl
        rw [this]
        simp
      · rw [Bool.or_eq_true]
        exact Or.inl (bne_iff_ne.2 h48)
  rw [e1, e2, e3, ha]
  rfl
theorem byte_eq (c : UInt8) (k : Nat) (hk : k < 256) (h : c.toNat = k) : c = UInt8.ofNat k := by
  apply UInt8.toNat.inj
  show _ = k % 256
  omega

set_option maxRecDepth 100000 in
theorem refNumber_any (s : ByteArray) (most : Int) (w : World) (hs : s.size ≤ maxLen) : Calls Tryz.prog 52 #[.string s, .int .u64 most] w (NumPost s most w) := by
  unfold maxLen at hs
  go_enter Tryz.func52, Tryz.ntmps52
  go_wp2
  go_loop [6, 7] (fun n i => ∃ k : Nat, k ≤ s.size ∧ k ≤ 19 ∧ i = .int .i64 k ∧ n = .int .u64 (decV (s.data.toList.take k)) ∧ (s.data.toList.take k).all isDig = true ∧ (∀ h : 0 < s.size, 2 ≤ k → ¬ s[0] = 48)) (fun _ i => s.size - (intOf i).toNat)
  case atStart => exact ⟨0, Nat.zero_le _, by omega, rfl, rfl, rfl, fun _ h => by omega⟩
  case round =>
    obtain ⟨k, hk, hk19, rfl, rfl, ha, hz⟩ := hrel
    have HA := Lib.hid ha
    have HZ := Lib.hid hz
    clear ha hz
    by_cases hlt : k < s.size
    · have h0 : 0 < s.size := by omega
      by_cases c1 : s[k].toNat < 48
      · have HN : Hid (isDig s[k] = false) := Lib.hid (by unfold isDig; simp; omega)
        have t1 : decide ((s[k].toNat : Int) < 48) = true := by simp; omega
        go_wp2
        go_ret2
        exact num_no (okMag_bad _ (all_not s k hlt HN.out))
      · have t1 : decide ((s[k].toNat : Int) < 48) = false := by simp; omega
        by_cases c2 : 57 < s[k].toNat
        · have HN : Hid (isDig s[k] = false) := Lib.hid (by unfold isDig; simp; omega)
          have t2 : decide (57 < (s[k].toNat : Int)) = true := by simp; omega
          go_wp2
          go_ret2
          exact num_no (okMag_bad _ (all_not s k hlt HN.out))
        · have HN : Hid (isDig s[k] = true) := Lib.hid (by unfold isDig; simp; omega)
          have t2 : decide (57 < (s[k].toNat : Int)) = false := by simp; omega
          by_cases hk1 : k = 1
          · subst hk1
            by_cases hz : s[0] = 48
            · have HZ1 := Lib.hid hz
              have t3 : ((s[0].toNat : Int) == 48) = true := by rw [hz]; rfl
              clear hz
              go_wp2
              go_ret2
              exact num_no (okMag_zero s h0 hlt HZ1.out)
            · have t3 : ((s[0].toNat : Int) == 48) = false := by
                rw [beq_eq_false_iff_ne]
                intro hc
                exact hz (byte_eq _ 48 (by decide) (by omega))
              have hv := decV_small (s.data.toList.take 1) HA.out (by rw [List.length_take]; omega)
              have HZ1 := Lib.hid hz
              clear hz
              go_wp2
              go_round
              case rel =>
                refine ⟨2, by omega, by omega, by go_num, ?_, by rw [all_snoc s 1 hlt, HA.out, HN.out]; rfl, fun _ _ => HZ1.out⟩
                rw [take_snoc s 1 hlt, decV_snoc]
                exact congrArg (Value.int .u64) (by omega)
              case measure => simp [intOf]; omega
          · have t3 : ((k : Int) == 1) = false := by rw [beq_eq_false_iff_ne]; omega
            have HK1 := Lib.hid hk1
            clear hk1
            by_cases h18 : 18 < k
            · have t4 : decide (18 < (k : Int)) = true := by simp; omega
              go_wp2
              go_ret2
              exact num_no (okMag_long s (by omega))
            · have t4 : decide (18 < (k : Int)) = false := by simp; omega
              have hv := decV_small (s.data.toList.take k) HA.out (by rw [List.length_take]; omega)
              go_wp2
              go_round
              case rel =>
                refine ⟨k + 1, by omega, by omega, by go_num, ?_, by rw [all_snoc s k hlt, HA.out, HN.out]; rfl, fun h h2 => HZ.out h (by have := HK1.out; omega)⟩
                rw [take_snoc s k hlt, decV_snoc]
                exact congrArg (Value.int .u64) (by omega)
              case measure => simp [intOf]; omega
    · obtain rfl : k = s.size := by omega
      have e : s.data.toList.take s.size = s.data.toList := List.take_of_length_le (by simp)
      rw [e] at HA
      have hdv : decV (s.data.toList.take s.size) = decV s.data.toList := by rw [e]
      have HD := Lib.hid hdv
      clear hdv e
      by_cases hp : 0 < s.size
      · have HG := Lib.hid (okMag_good s hp hk19 HA.out (fun h2 => HZ.out hp h2))
        have u1 : s.toList.isEmpty = false := by
          rw [ByteArray.toList_eq, List.isEmpty_eq_false_iff]
          intro hc
          have := size_len s
          rw [hc] at this
          simp at this
          omega
        by_cases hb : most < (decV (s.data.toList.take s.size) : Int)
        · have u2 : decide (most < (decV (s.data.toList.take s.size) : Int)) = true := by simpa using hb
          have HB := Lib.hid hb
          clear hb
          go_wp2
          go_ret2
          have hno : numOk s.data.toList most = false := by
            have hb := HB.out
            rw [HD.out] at hb
            rw [numOk, decide_eq_false (by omega), Bool.and_false]
          unfold NumPost
          rw [numV, hno]
          exact ⟨rfl, rfl⟩
        · have u2 : decide (most < (decV (s.data.toList.take s.size) : Int)) = false := by simpa using hb
          have HB := Lib.hid hb
          clear hb
          go_wp2
          go_ret2
          have hyes : numOk s.data.toList most = true := by
            have hb := HB.out
            rw [HD.out] at hb
            rw [numOk, HG.out, decide_eq_true (by omega)]
            rfl
          unfold NumPost
          rw [numV, hyes, HD.out]
          exact ⟨rfl, rfl⟩
      · have hn : s.toList = [] := by
          rw [ByteArray.toList_eq]
          apply List.length_eq_zero_iff.1
          rw [size_len]
          omega
        obtain rfl := toList_nil s hn
        go_wp2
        go_ret2
        exact num_no (by decide)
theorem num_is (s : ByteArray) (most n : Int) (ok : Bool) (w : World) (hs : s.size ≤ maxLen) (hn : Hid (numV s.data.toList most = n)) (ho : Hid (numOk s.data.toList most = ok)) : Calls Tryz.prog 52 #[.string s, .int .u64 most] w fun e w' => e = .returned (.tuple #[.int .u64 n, .bool ok]) ∧ w = w' := by
  have := refNumber_any s most w hs
  unfold NumPost at this
  rw [hn.out, ho.out] at this
  exact this
theorem numV_bound (l : List UInt8) (most : Int) (h : 0 ≤ most) : 0 ≤ numV l most ∧ numV l most ≤ most := by
  unfold numV
  split
  · rename_i hk
    unfold numOk at hk
    rw [Bool.and_eq_true, decide_eq_true_eq] at hk
    omega
  · omega
end Go.Proofs.YtcjolamfjgdgjaaGreatDoor
