/-
  fullinglaw2.blank and fullinglaw2.line: the walks.
-/
import Derived.Test.YtcfjolmeenneeaaDoorLexEx
namespace Go.Proofs.YtcfjolmeenneeaaDoor
open Go.RowKit (wrap32 wrap64)
open Go.RowKit
set_option maxHeartbeats 400000

set_option maxRecDepth 100000 in
theorem blank_any (s : ByteArray) (w : World) (hs : s.size ≤ maxLen) : Calls Tryd.prog 14 #[.string s] w fun e w' => e = .returned (.bool (blankV false s.data.toList)) ∧ w = w' := by
  unfold maxLen at hs
  go_enter Tryd.func14, Tryd.ntmps14
  go_wp2_with fail
  go_loop [3, 4] (fun m i => ∃ (k : Nat) (b : Bool), k ≤ s.size ∧ i = .int .i64 k ∧ m = .bool b ∧ Hid (blankV false s.data.toList = blankV b (s.data.toList.drop k))) (fun _ i => s.size - (intOf i).toNat)
  case atStart => exact ⟨0, false, Nat.zero_le _, rfl, rfl, Lib.hid rfl⟩
  case round =>
    obtain ⟨k, b, hk, rfl, rfl, H⟩ := hrel
    by_cases hlt : k < s.size
    · have HD := Lib.hid (drop_cons s k hlt)
      by_cases h1 : s[k].toNat = 10
      · have t1 : ((s[k].toNat : Int) == 10) = true := by rw [beq_iff_eq]; omega
        have HN : Hid (blankV false s.data.toList = blankV false (s.data.toList.drop (k + 1))) := Lib.hid (by rw [H.out, HD.out, blankV, if_pos h1])
        clear h1
        go_wp2_with fail
        exact ⟨⟨k + 1, false, by omega, by go_num, rfl, HN⟩, by simp [intOf]; omega⟩
      · have t1 : ((s[k].toNat : Int) == 10) = false := by rw [beq_eq_false_iff_ne]; omega
        by_cases h2 : s[k].toNat = 35
        · have t2 : ((s[k].toNat : Int) == 35) = true := by rw [beq_iff_eq]; omega
          have HN : Hid (blankV false s.data.toList = blankV true (s.data.toList.drop (k + 1))) := Lib.hid (by rw [H.out, HD.out, blankV, if_neg h1, if_pos h2])
          clear h1 h2
          go_wp2_with fail
          exact ⟨⟨k + 1, true, by omega, by go_num, rfl, HN⟩, by simp [intOf]; omega⟩
        · have t2 : ((s[k].toNat : Int) == 35) = false := by rw [beq_eq_false_iff_ne]; omega
          cases b
          · by_cases h3 : s[k].toNat ≠ 32 ∧ s[k].toNat ≠ 9 ∧ s[k].toNat ≠ 13
            · have t3 : ((s[k].toNat : Int) == 32) = false := by rw [beq_eq_false_iff_ne]; omega
              have t4 : ((s[k].toNat : Int) == 9) = false := by rw [beq_eq_false_iff_ne]; omega
              have t5 : ((s[k].toNat : Int) == 13) = false := by rw [beq_eq_false_iff_ne]; omega
              have b3 : ((s[k].toNat : Int) != 32) = true := by rw [bne, t3]; rfl
              have b4 : ((s[k].toNat : Int) != 9) = true := by rw [bne, t4]; rfl
              have b5 : ((s[k].toNat : Int) != 13) = true := by rw [bne, t5]; rfl
              have HN : Hid (blankV false s.data.toList = false) := Lib.hid (by rw [H.out, HD.out, blankV, if_neg h1, if_neg h2, if_pos ⟨rfl, h3⟩])
              clear h1 h2 h3
              go_wp2_with fail
              go_ret
              exact ⟨by rw [HN.out]; rfl, rfl⟩
            · have hcs : ((s[k].toNat : Int) != 32) = false ∨ (((s[k].toNat : Int) != 32) = true ∧ ((s[k].toNat : Int) != 9) = false) ∨ (((s[k].toNat : Int) != 32) = true ∧ ((s[k].toNat : Int) != 9) = true ∧ ((s[k].toNat : Int) != 13) = false) := by
                simp only [bne_eq_false_iff_eq, bne_iff_ne]
                omega
              have HN : Hid (blankV false s.data.toList = blankV false (s.data.toList.drop (k + 1))) := Lib.hid (by rw [H.out, HD.out, blankV, if_neg h1, if_neg h2, if_neg (fun h => h3 h.2)])
              clear h1 h2 h3
              rcases hcs with t3 | ⟨t3, t4⟩ | ⟨t3, t4, t5⟩
              all_goals
                go_wp2_with fail
                exact ⟨⟨k + 1, false, by omega, by go_num, rfl, HN⟩, by simp [intOf]; omega⟩
          · have HN : Hid (blankV false s.data.toList = blankV true (s.data.toList.drop (k + 1))) := Lib.hid (by rw [H.out, HD.out, blankV, if_neg h1, if_neg h2, if_neg (fun h => by cases h.1)])
            clear h1 h2
            go_wp2_with fail
            exact ⟨⟨k + 1, true, by omega, by go_num, rfl, HN⟩, by simp [intOf]; omega⟩
    · obtain rfl : k = s.size := by omega
      have HN : Hid (blankV false s.data.toList = true) := Lib.hid (by rw [H.out, drop_end]; cases b <;> rfl)
      go_wp2_with fail
      go_ret
      exact ⟨by rw [HN.out]; rfl, rfl⟩
/-- fullinglaw2.line: a short text without a line feed. -/
def LinePost (w : World) (e : Ending) (w' : World) : Prop := ∃ t : ByteArray, e = .returned (.string t) ∧ t.size ≤ 102 ∧ (∀ c ∈ t.data.toList, c.toNat ≠ 10) ∧ w = w'
theorem mem_snoc (s : ByteArray) (k : Nat) (hlt : k < s.size) (h : ∀ c ∈ s.data.toList.take k, c.toNat ≠ 10) (h1 : s[k].toNat ≠ 10) : ∀ c ∈ s.data.toList.take (k + 1), c.toNat ≠ 10 := by
  intro c hc
  rw [take_snoc s k hlt, List.mem_append] at hc
  rcases hc with hc | hc
  · exact h c hc
  · obtain rfl : c = s[k] := by simpa using hc
    exact h1
theorem take_extract (s : ByteArray) (k : Nat) : (s.extract 0 k).data.toList = s.data.toList.take k := by
  rw [Lib.extract_data]
  simp
set_option maxRecDepth 100000 in
theorem line_any (s : ByteArray) (w : World) (hs : s.size ≤ maxLen) : Calls Tryd.prog 15 #[.string s] w (LinePost w) := by
  unfold maxLen at hs
  go_enter Tryd.func15, Tryd.ntmps15
  go_wp2_with fail
  go_loop [3] (fun i => ∃ k : Nat, k ≤ s.size ∧ k ≤ 101 ∧ i = .int .i64 k ∧ Hid (∀ c ∈ s.data.toList.take k, c.toNat ≠ 10)) (fun i => s.size - (intOf i).toNat)
  case atStart => exact ⟨0, Nat.zero_le _, by omega, rfl, Lib.hid (fun c hc => by simp at hc)⟩
  case round =>
    obtain ⟨k, hk, hk2, rfl, H⟩ := hrel
    by_cases hlt : k < s.size
    · have HX : Hid ((s.extract 0 k).size ≤ 102) := Lib.hid (by rw [← size_len, take_extract, List.length_take]; omega)
      by_cases h1 : s[k].toNat = 10
      · have t1 : ((s[k].toNat : Int) == 10) = true := by rw [beq_iff_eq]; omega
        clear h1
        go_wp2_with fail
        go_ret
        exact ⟨s.extract 0 k, rfl, HX.out, by rw [take_extract]; exact H.out, rfl⟩
      · have t1 : ((s[k].toNat : Int) == 10) = false := by rw [beq_eq_false_iff_ne]; omega
        by_cases h2 : 100 < k
        · have t2 : decide (100 < (k : Int)) = true := by simp; omega
          clear h1 h2
          go_wp2_with fail
          go_ret
          exact ⟨s.extract 0 k, rfl, HX.out, by rw [take_extract]; exact H.out, rfl⟩
        · have t2 : decide (100 < (k : Int)) = false := by simp; omega
          have HN := Lib.hid (mem_snoc s k hlt H.out h1)
          clear h1
          go_wp2_with fail
          exact ⟨⟨k + 1, by omega, by omega, by go_num, HN⟩, by simp [intOf]; omega⟩
    · obtain rfl : k = s.size := by omega
      have e : s.data.toList.take s.size = s.data.toList := List.take_of_length_le (by simp)
      rw [e] at H
      go_wp2_with fail
      go_ret
      exact ⟨s, rfl, by omega, H.out, rfl⟩
end Go.Proofs.YtcfjolmeenneeaaDoor
