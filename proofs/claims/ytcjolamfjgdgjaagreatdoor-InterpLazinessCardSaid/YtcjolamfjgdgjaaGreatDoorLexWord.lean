/-
  lexer.wordAt and lexer.skipSeparators: the walks.
-/
import Derived.Test.YtcjolamfjgdgjaaGreatDoorLexByte
import Derived.Test.YtcjolamfjgdgjaaGreatDoorLexLaws
namespace Go.Proofs.YtcjolamfjgdgjaaGreatDoor
open Go.RowKit (wrap32 wrap64)
open Go.RowKit
set_option maxHeartbeats 400000

theorem drop_cons (s : ByteArray) (k : Nat) (h : k < s.size) : s.data.toList.drop k = s[k] :: s.data.toList.drop (k + 1) := by
  rw [List.drop_eq_getElem_cons (by simpa using h)]
  rfl
theorem drop_end (s : ByteArray) : s.data.toList.drop s.size = [] := List.drop_of_length_le (by simp)
theorem bytes_ext (s : ByteArray) (l : List UInt8) (h : s.data.toList = l) : s = ⟨l.toArray⟩ := by
  rw [← h]
/-- The word that stands at k. -/
def wrdAt (s : ByteArray) (k : Nat) : List UInt8 := (s.data.toList.drop k).takeWhile isWrd
set_option maxRecDepth 100000 in
theorem wordAt_any (s : ByteArray) (k : Nat) (w : World) (hk : k ≤ s.size) (hs : s.size ≤ maxLen) : Calls Tryz.prog 144 #[.string s, .int .i64 k] w fun e w' => e = .returned (.string ⟨(wrdAt s k).toArray⟩) ∧ w = w' := by
  unfold maxLen at hs
  go_enter Tryz.func144, Tryz.ntmps144
  go_wp2_with fail
  go_loop [5] (fun i => ∃ j : Nat, k ≤ j ∧ j ≤ s.size ∧ i = .int .i64 j ∧ Hid (wrdAt s k = (s.data.toList.drop k).take (j - k) ++ (s.data.toList.drop j).takeWhile isWrd)) (fun i => s.size - (intOf i).toNat)
  case atStart => exact ⟨k, Nat.le_refl _, hk, rfl, Lib.hid (by rw [Nat.sub_self]; rfl)⟩
  case round =>
    obtain ⟨j, hkj, hj, rfl, H⟩ := hrel
    by_cases hlt : j < s.size
    · obtain ⟨b, hb⟩ : ∃ b, isWrd s[j] = b := ⟨_, rfl⟩
      have HP : Hid (∀ w, Calls Tryz.prog 131 #[.int .u8 s[j].toNat] w fun e w' => e = .returned (.bool b) ∧ w = w') := by
        rw [← hb]
        exact isWordByte_any _
      have HB := Lib.hid hb
      clear hb
      cases b
      · go_wp2_with (go_at_call 131; refine (HP.out _).mono ?_; rintro e w' ⟨rfl, rfl⟩)
        go_ret
        refine ⟨?_, rfl⟩
        have e : s.extract k j = ⟨(wrdAt s k).toArray⟩ := by
          apply bytes_ext
          rw [Lib.extract_data, H.out, drop_cons s j hlt, List.takeWhile_cons, HB.out]
          simp
        rw [← e]
        rfl
      · go_wp2_with (go_at_call 131; refine (HP.out _).mono ?_; rintro e w' ⟨rfl, rfl⟩)
        refine ⟨⟨j + 1, by omega, by omega, by go_num, Lib.hid ?_⟩, by simp [intOf]; omega⟩
        rw [H.out, drop_cons s j hlt, List.takeWhile_cons, HB.out, if_pos rfl]
        rw [show j + 1 - k = (j - k) + 1 by omega, List.take_succ_eq_append_getElem (by simp; omega), List.append_assoc]
        congr 1
        show _ = [_] ++ _
        congr 1
        simp [Nat.add_sub_cancel' hkj]
        rfl
    · obtain rfl : j = s.size := by omega
      go_wp2_with fail
      go_ret
      refine ⟨?_, rfl⟩
      have e : s.extract k s.size = ⟨(wrdAt s k).toArray⟩ := by
        apply bytes_ext
        rw [Lib.extract_data, H.out, drop_end]
        simp
      rw [← e]
      rfl
/-- lexer.skipSeparators: what follows the spaces and comments. -/
def SkipPost (s : ByteArray) (k : Nat) (w : World) (e : Ending) (w' : World) : Prop :=
  ∃ r : Nat, e = .returned (.int .i64 r) ∧ k ≤ r ∧ r ≤ s.size ∧ rest false (s.data.toList.drop k) = s.data.toList.drop r ∧ w = w'
set_option maxRecDepth 100000 in
theorem skip_any (s : ByteArray) (k : Nat) (w : World) (hk : k ≤ s.size) (hs : s.size ≤ maxLen) : Calls Tryz.prog 121 #[.string s, .int .i64 k] w (SkipPost s k w) := by
  have HS := Lib.hid hs
  unfold maxLen at hs
  go_enter Tryz.func121, Tryz.ntmps121
  go_wp2_with fail
  go_loop [1] (fun i => ∃ j : Nat, k ≤ j ∧ j ≤ s.size ∧ i = .int .i64 j ∧ Hid (rest false (s.data.toList.drop k) = rest false (s.data.toList.drop j))) (fun i => s.size - (intOf i).toNat)
  case atStart => exact ⟨k, Nat.le_refl _, hk, rfl, Lib.hid rfl⟩
  case round =>
    obtain ⟨j, hkj, hj, rfl, H⟩ := hrel
    by_cases hlt : j < s.size
    · have HD := Lib.hid (drop_cons s j hlt)
      obtain ⟨c, hc⟩ : ∃ c, s[j] = c := ⟨_, rfl⟩
      by_cases h1 : isSp c = true
      · have HR : Hid (rest false (s.data.toList.drop k) = rest false (s.data.toList.drop (j + 1))) := Lib.hid (by rw [H.out, HD.out, rest, hc, if_pos h1])
        have hcs : ((s[j].toNat : Int) == 32) = true ∨ (((s[j].toNat : Int) == 32) = false ∧ ((s[j].toNat : Int) == 9) = true) ∨ (((s[j].toNat : Int) == 32) = false ∧ ((s[j].toNat : Int) == 9) = false ∧ ((s[j].toNat : Int) == 10) = true) ∨ (((s[j].toNat : Int) == 32) = false ∧ ((s[j].toNat : Int) == 9) = false ∧ ((s[j].toNat : Int) == 10) = false ∧ ((s[j].toNat : Int) == 13) = true) := by
          rw [hc]
          unfold isSp at h1
          simp only [Bool.or_eq_true, beq_iff_eq] at h1
          simp only [beq_iff_eq, beq_eq_false_iff_ne]
          omega
        clear h1 hc
        rcases hcs with t1 | ⟨t1, t2⟩ | ⟨t1, t2, t3⟩ | ⟨t1, t2, t3, t4⟩
        all_goals
          go_wp2_with fail
          exact ⟨⟨j + 1, by omega, by omega, by go_num, HR⟩, by simp [intOf]; omega⟩
      · have hnn : ((s[j].toNat : Int) == 32) = false ∧ ((s[j].toNat : Int) == 9) = false ∧ ((s[j].toNat : Int) == 10) = false ∧ ((s[j].toNat : Int) == 13) = false := by
          rw [hc]
          unfold isSp at h1
          simp only [Bool.or_eq_true, beq_iff_eq] at h1
          simp only [beq_eq_false_iff_ne]
          omega
        obtain ⟨t1, t2, t3, t4⟩ := hnn
        by_cases h2 : c.toNat = 35
        · have t5 : ((s[j].toNat : Int) == 35) = true := by rw [hc]; simp; omega
          have hr0 : rest false (s.data.toList.drop j) = rest true (s.data.toList.drop j) := by
            rw [HD.out, rest, rest, hc, if_neg h1, if_pos h2, if_neg (by omega)]
          have HR0 := Lib.hid hr0
          have H10 : Hid (s[j].toNat ≠ 10) := Lib.hid (by rw [hc]; omega)
          clear hr0 h1 h2 hc
          go_wp2_with fail
          refine (endOfLine_any s j _ hj HS.out).mono ?_
          rintro e w1 ⟨r, rfl, q1, q2, q3, q4, rfl⟩
          have Q3 := Lib.hid q3
          have q5 := q4 hlt H10.out
          clear q3 q4
          go_wp2_with fail
          exact ⟨⟨r, by omega, by omega, rfl, Lib.hid (by rw [H.out, HR0.out, Q3.out])⟩, by simp [intOf]; omega⟩
        · have t5 : ((s[j].toNat : Int) == 35) = false := by rw [hc]; simp; omega
          have HR : Hid (rest false (s.data.toList.drop k) = s.data.toList.drop j) := Lib.hid (by rw [H.out, HD.out, rest, hc, if_neg h1, if_neg h2])
          clear h1 h2 hc
          go_wp2_with fail
          go_ret
          exact ⟨j, rfl, hkj, hj, HR.out, rfl⟩
    · obtain rfl : j = s.size := by omega
      go_wp2_with fail
      go_ret
      exact ⟨s.size, rfl, hkj, hj, by rw [H.out, drop_end]; rfl, rfl⟩
end Go.Proofs.YtcjolamfjgdgjaaGreatDoor
