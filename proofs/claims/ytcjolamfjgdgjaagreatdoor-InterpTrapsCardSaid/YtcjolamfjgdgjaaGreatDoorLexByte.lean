/-
  The lexer's small functions on bytes, and the library's IndexByte and HasPrefix: the walks.
-/
import Derived.Test.YtcjolamfjgdgjaaGreatDoorProg
import Derived.Test.YtcjolamfjgdgjaaGreatDoorLexMath
import Derived.Test.YtcjolamfjgdgjaaGreatDoorSymTab
import Derived.WalkKit
import Derived.ProofKit
import Derived.BigQuiet
import Derived.LoopTactic
import Derived.Outline
import Derived.Lib.Hide
import Derived.Lib.Strings
import Derived.Lib.Bytealg
import Derived.Lib.IndexBytes
import Derived.Laws.Strings3
namespace Go.Proofs.YtcjolamfjgdgjaaGreatDoor
open Go.RowKit (wrap32 wrap64)
open Go.RowKit
set_option maxHeartbeats 400000

theorem isDigit_any (c : UInt8) (w : World) : Calls Tryz.prog 129 #[.int .u8 c.toNat] w fun e w' => e = .returned (.bool (isDig c)) ∧ w = w' := by
  have HD : Hid (isDig c = (decide (48 ≤ (c.toNat : Int)) && decide ((c.toNat : Int) ≤ 57))) := Lib.hid (by unfold isDig; congr 1 <;> (rw [decide_eq_decide]; omega))
  go_enter Tryz.func129, Tryz.ntmps129
  go_wp2
  all_goals go_ret
  all_goals refine ⟨?_, rfl⟩
  all_goals rw [HD.out]
  all_goals simp [*]
  all_goals omega
theorem isWordByte_any (c : UInt8) (w : World) : Calls Tryz.prog 131 #[.int .u8 c.toNat] w fun e w' => e = .returned (.bool (isWrd c)) ∧ w = w' := by
  obtain ⟨d, hd⟩ : ∃ d, isDig c = d := ⟨_, rfl⟩
  have HD : Hid (∀ w, Calls Tryz.prog 129 #[.int .u8 c.toNat] w fun e w' => e = .returned (.bool d) ∧ w = w') := by
    rw [← hd]
    exact isDigit_any c
  have HE : Hid (isWrd c = (d || ((c.toNat : Int) == 95) || (decide (97 ≤ (c.toNat : Int)) && decide ((c.toNat : Int) ≤ 122)) || (decide (65 ≤ (c.toNat : Int)) && decide ((c.toNat : Int) ≤ 90)))) := Lib.hid (by
    unfold isWrd isLet
    rw [hd]
    have e1 : ((c.toNat : Int) == 95) = (c.toNat == 95) := by rw [Bool.eq_iff_iff, beq_iff_eq, beq_iff_eq]; omega
    have e2 : decide (97 ≤ (c.toNat : Int)) = decide (97 ≤ c.toNat) := by rw [decide_eq_decide]; omega
    have e3 : decide ((c.toNat : Int) ≤ 122) = decide (c.toNat ≤ 122) := by rw [decide_eq_decide]; omega
    have e4 : decide (65 ≤ (c.toNat : Int)) = decide (65 ≤ c.toNat) := by rw [decide_eq_decide]; omega
    have e5 : decide ((c.toNat : Int) ≤ 90) = decide (c.toNat ≤ 90) := by rw [decide_eq_decide]; omega
    rw [e1, e2, e3, e4, e5]
    cases d <;> cases (c.toNat == 95) <;> cases (decide (97 ≤ c.toNat) && decide (c.toNat ≤ 122)) <;> cases (decide (65 ≤ c.toNat) && decide (c.toNat ≤ 90)) <;> rfl)
  clear hd
  have HF : ∀ b, isWrd c = b → Hid (isWrd c = b) := fun b h => h
  cases d
  · rcases Bool.eq_false_or_eq_true ((c.toNat : Int) == 95) with t1 | t1 <;> rcases Bool.eq_false_or_eq_true (decide (97 ≤ (c.toNat : Int))) with t2 | t2 <;> rcases Bool.eq_false_or_eq_true (decide ((c.toNat : Int) ≤ 122)) with t3 | t3 <;> rcases Bool.eq_false_or_eq_true (decide (65 ≤ (c.toNat : Int))) with t4 | t4 <;> rcases Bool.eq_false_or_eq_true (decide ((c.toNat : Int) ≤ 90)) with t5 | t5
    all_goals
      have HX := HE.out
      rw [t1, t2, t3, t4, t5] at HX
      have HY := Lib.hid HX
      clear HX HF HE
      go_enter Tryz.func131, Tryz.ntmps131
      go_wp2_with (go_at_call 129; refine (HD.out _).mono ?_; rintro e w' ⟨rfl, rfl⟩)
      go_ret
      exact ⟨by rw [HY.out]; rfl, rfl⟩
  · have HX := HE.out
    rw [Bool.true_or, Bool.true_or, Bool.true_or] at HX
    have HY := Lib.hid HX
    clear HX HF HE
    go_enter Tryz.func131, Tryz.ntmps131
    go_wp2_with (go_at_call 129; refine (HD.out _).mono ?_; rintro e w' ⟨rfl, rfl⟩)
    go_ret
    exact ⟨by rw [HY.out]; rfl, rfl⟩
set_option maxRecDepth 100000 in
theorem indexByteIn_any (s : ByteArray) (c : Int) (w : World) : Calls Tryz.prog 152 #[.string s, .int .u8 c] w fun e w' => e = .returned (.int .i64 (Lib.indexByte s.data.toList c.toNat.toUInt8)) ∧ w = w' := by
  go_enter Tryz.func152, Tryz.ntmps152
  go_wp2
  rw [run_callFunc_extern Tryz.func163 (by kernel_rfl) (by kernel_rfl) (by kernel_rfl) (e := Extern.BytealgIndexByte.indexByte) (by kernel_rfl), Lib.run_indexByteString]
  simp only [Result.andThen]
  rw [Oper.upon_value]
  go_wp2
  go_ret
  exact ⟨rfl, rfl⟩
theorem indexByte_any (s : ByteArray) (c : Int) (w : World) : Calls Tryz.prog 143 #[.string s, .int .u8 c] w fun e w' => e = .returned (.int .i64 (Lib.indexByte s.data.toList c.toNat.toUInt8)) ∧ w = w' := by
  go_enter Tryz.func143, Tryz.ntmps143
  go_wp2_with (go_at_call 152; refine (indexByteIn_any _ _ _).mono ?_; rintro e w' ⟨rfl, rfl⟩)
  go_ret
  exact ⟨rfl, rfl⟩
theorem hasPrefixIn_any (s p : ByteArray) (w : World) : Calls Tryz.prog 164 #[.string s, .string p] w fun e w' => e = .returned (.bool (p.data.toList.isPrefixOf s.data.toList)) ∧ w = w' := by
  have HX : Hid (p.data.toList.isPrefixOf s.data.toList = Lib.hasPrefix s.data.toList p.data.toList) := Lib.hid rfl
  rw [HX.out, ← Lib.hasPrefix_of_take, ← Lib.size_eq, ← Lib.size_eq]
  go_enter Tryz.func164, Tryz.ntmps164
  go_wp2
  · rename_i h
    go_ret
    refine ⟨?_, rfl⟩
    show Ending.returned (Value.bool ((s.extract 0 p.size).toList == p.toList)) = _
    rw [Lib.extract_toList, Lib.toList_data]
    simp [h]
  · rename_i h
    go_ret
    refine ⟨?_, rfl⟩
    show Ending.returned (Value.bool false) = _
    simp [h]
theorem hasPrefix_any (s p : ByteArray) (w : World) : Calls Tryz.prog 153 #[.string s, .string p] w fun e w' => e = .returned (.bool (p.data.toList.isPrefixOf s.data.toList)) ∧ w = w' := by
  obtain ⟨b, hb⟩ : ∃ b, p.data.toList.isPrefixOf s.data.toList = b := ⟨_, rfl⟩
  have HP : Hid (∀ w, Calls Tryz.prog 164 #[.string s, .string p] w fun e w' => e = .returned (.bool b) ∧ w = w') := by
    rw [← hb]
    exact hasPrefixIn_any s p
  rw [hb]
  clear hb
  go_enter Tryz.func153, Tryz.ntmps153
  go_wp2_with (go_at_call 164; refine (HP.out _).mono ?_; rintro e w' ⟨rfl, rfl⟩)
  go_ret
  exact ⟨rfl, rfl⟩
theorem rest_index : ∀ (l : List UInt8), (Lib.indexByte l 10 = -1 → rest true l = []) ∧ (∀ o : Nat, Lib.indexByte l 10 = o → rest true l = rest false (l.drop o))
  | [] => ⟨fun _ => rfl, fun o h => by simp [Lib.indexByte] at h⟩
  | c :: l => by
    have ih := rest_index l
    have hge := Lib.indexByte_ge l 10
    unfold Lib.indexByte
    rw [rest]
    by_cases hc : c = 10
    · subst hc
      simp only [BEq.rfl, if_true]
      refine ⟨fun h => by simp at h, fun o h => ?_⟩
      obtain rfl : o = 0 := by omega
      rw [if_pos (by decide)]
      show rest false l = rest false (10 :: l)
      rw [rest, if_pos (by decide)]
    · have hb : (c == 10) = false := by simpa using hc
      have hn : ¬ c.toNat = 10 := fun h => hc (UInt8.toNat.inj h)
      rw [hb, if_neg hn]
      simp only [Bool.false_eq_true, if_false]
      by_cases hl : Lib.indexByte l 10 = -1
      · rw [hl]
        simp only [BEq.rfl, if_true]
        exact ⟨fun _ => ih.1 hl, fun o h => by omega⟩
      · have hb2 : (Lib.indexByte l 10 == -1) = false := by simpa using hl
        rw [hb2]
        simp only [Bool.false_eq_true, if_false]
        refine ⟨fun h => by omega, fun o h => ?_⟩
        cases o with
        | zero => omega
        | succ o =>
          rw [List.drop_succ_cons]
          exact ih.2 o (by omega)
/-- lexer.endOfLine: behind the comment that starts there. -/
def EolPost (s : ByteArray) (k : Nat) (w : World) (e : Ending) (w' : World) : Prop :=
  ∃ r : Nat, e = .returned (.int .i64 r) ∧ k ≤ r ∧ r ≤ s.size ∧ rest true (s.data.toList.drop k) = rest false (s.data.toList.drop r) ∧ (∀ h : k < s.size, s[k].toNat ≠ 10 → k < r) ∧ w = w'
theorem endOfLine_any (s : ByteArray) (k : Nat) (w : World) (hk : k ≤ s.size) (hs : s.size ≤ maxLen) : Calls Tryz.prog 128 #[.string s, .int .i64 k] w (EolPost s k w) := by
  obtain ⟨x, hx⟩ : ∃ x, Lib.indexByte (s.extract k s.size).data.toList 10 = x := ⟨_, rfl⟩
  have HP : Hid (∀ w, Calls Tryz.prog 143 #[.string (s.extract k s.size), .int .u8 10] w fun e w' => e = .returned (.int .i64 x) ∧ w = w') := by
    rw [← hx]
    exact indexByte_any _ 10
  have hge : -1 ≤ x := by rw [← hx]; exact Lib.indexByte_ge _ _
  have R := rest_index (s.data.toList.drop k)
  rw [Lib.extract_to_end] at hx
  rw [hx] at R
  by_cases hneg : x = -1
  · subst hneg
    have HR := Lib.hid (R.1 rfl)
    clear R hx
    unfold maxLen at hs
    go_enter Tryz.func128, Tryz.ntmps128
    go_wp2_with (go_at_call 143; refine (HP.out _).mono ?_; rintro e w' ⟨rfl, rfl⟩)
    go_ret
    refine ⟨s.size, rfl, hk, Nat.le_refl _, ?_, fun h _ => h, rfl⟩
    rw [HR.out, List.drop_of_length_le (by simp)]
    rfl
  · obtain ⟨o, rfl⟩ : ∃ o : Nat, x = o := ⟨x.toNat, by omega⟩
    have HR := Lib.hid (R.2 o rfl)
    have hso := Lib.indexByte_some hx
    have hlt : k + o < s.size := by
      have h1 := hso.1
      rw [List.getElem?_drop] at h1
      have := (List.getElem?_eq_some_iff.1 h1).1
      simpa using this
    have HO : Hid (∀ h : k < s.size, s[k].toNat ≠ 10 → k < k + o) := Lib.hid (fun h hn => by
      cases o with
      | zero =>
        exfalso
        apply hn
        have h1 := hso.1
        rw [List.getElem?_drop, Nat.add_zero, Lib.data_getElem? s k h] at h1
        injection h1 with h1
        rw [h1]
        rfl
      | succ o => omega)
    clear R hx hso hge
    have t1 : decide ((o : Int) < 0) = false := by simp
    unfold maxLen at hs
    clear hneg
    go_enter Tryz.func128, Tryz.ntmps128
    go_wp2_with (go_at_call 143; refine (HP.out _).mono ?_; rintro e w' ⟨rfl, rfl⟩)
    go_ret
    refine ⟨k + o, by go_num, by omega, by omega, ?_, HO.out, rfl⟩
    rw [HR.out, List.drop_drop]
end Go.Proofs.YtcjolamfjgdgjaaGreatDoor
