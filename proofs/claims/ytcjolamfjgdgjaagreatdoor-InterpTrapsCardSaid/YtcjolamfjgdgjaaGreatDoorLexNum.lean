/-
  lexer.isMagnitude: the order of texts of digits is that of their numbers; the walk.
-/
import Derived.Test.YtcjolamfjgdgjaaGreatDoorLexWord
import Derived.Laws.Cover1
namespace Go.Proofs.YtcjolamfjgdgjaaGreatDoor
open Go.RowKit (wrap32 wrap64)
open Go.RowKit
set_option maxHeartbeats 400000

def valM (m : Nat) (l : List UInt8) : Nat := l.foldl (fun m c => m * 10 + (c.toNat - 48)) m
theorem valM_low : ∀ (l : List UInt8) (m : Nat), m * 10 ^ l.length ≤ valM m l
  | [], m => by simp [valM]
  | c :: l, m => by
    have h := valM_low l (m * 10 + (c.toNat - 48))
    show _ ≤ valM (m * 10 + (c.toNat - 48)) l
    refine Nat.le_trans ?_ h
    rw [List.length_cons, Nat.pow_succ, Nat.mul_comm (10 ^ l.length) 10, ← Nat.mul_assoc]
    exact Nat.mul_le_mul_right _ (by omega)
theorem less_iff : ∀ (a b : List UInt8) (m : Nat), a.length = b.length → a.all isDig = true → b.all isDig = true → (Op.bytesLess a b = true ↔ valM m a < valM m b)
  | [], [], m, _, _, _ => by simp [Op.bytesLess, valM]
  | [], _ :: _, _, h, _, _ => by simp at h
  | _ :: _, [], _, h, _, _ => by simp at h
  | x :: a, y :: b, m, h, ha, hb => by
    rw [List.all_cons, Bool.and_eq_true] at ha hb
    have hl : a.length = b.length := by simpa using h
    have dx : 48 ≤ x.toNat ∧ x.toNat ≤ 57 := by have := ha.1; unfold isDig at this; simpa using this
    have dy : 48 ≤ y.toNat ∧ y.toNat ≤ 57 := by have := hb.1; unfold isDig at this; simpa using this
    have e : Op.bytesLess (x :: a) (y :: b) = (decide (x < y) || (x == y && Op.bytesLess a b)) := rfl
    rw [e]
    show _ ↔ valM (m * 10 + (x.toNat - 48)) a < valM (m * 10 + (y.toNat - 48)) b
    have ua := decV_lt_aux a (m * 10 + (x.toNat - 48)) ha.2
    have ub := decV_lt_aux b (m * 10 + (y.toNat - 48)) hb.2
    have la := valM_low a (m * 10 + (x.toNat - 48))
    have lb := valM_low b (m * 10 + (y.toNat - 48))
    change valM _ a < _ at ua
    change valM _ b < _ at ub
    have hxy : x < y ↔ x.toNat < y.toNat := UInt8.lt_iff_toNat_lt
    by_cases h1 : x.toNat < y.toNat
    · have h2 : decide (x < y) = true := by simpa [hxy] using h1
      rw [h2, Bool.true_or]
      refine ⟨fun _ => ?_, fun _ => rfl⟩
      have : (m * 10 + (x.toNat - 48) + 1) * 10 ^ a.length ≤ (m * 10 + (y.toNat - 48)) * 10 ^ a.length := Nat.mul_le_mul_right _ (by omega)
      rw [← hl] at lb
      omega
    · have h2 : decide (x < y) = false := by simpa [hxy] using h1
      rw [h2, Bool.false_or]
      by_cases h3 : x = y
      · subst h3
        rw [BEq.rfl, Bool.true_and]
        exact less_iff a b _ hl ha.2 hb.2
      · have h4 : (x == y) = false := by simpa using h3
        rw [h4, Bool.false_and]
        refine ⟨fun h => (by cases h), fun hlt => ?_⟩
        have hne : x.toNat ≠ y.toNat := fun h => h3 (UInt8.toNat.inj h)
        have : (m * 10 + (y.toNat - 48) + 1) * 10 ^ b.length ≤ (m * 10 + (x.toNat - 48)) * 10 ^ b.length := Nat.mul_le_mul_right _ (by omega)
        rw [hl] at la
        omega
def bigT : List UInt8 := [57, 50, 50, 51, 51, 55, 50, 48, 51, 54, 56, 53, 52, 55, 55, 53, 56, 48, 56]
theorem le_iff (a : List UInt8) (h : a.length = 19) (ha : a.all isDig = true) : (Op.bytesLess a bigT || a == bigT) = decide (decV a ≤ 9223372036854775808) := by
  have hb : decV bigT = 9223372036854775808 := by decide +kernel
  have h1 := less_iff a bigT 0 (by rw [h]; rfl) ha (by decide)
  have h2 := less_iff bigT a 0 (by rw [h]; rfl) (by decide) ha
  change _ ↔ decV a < decV bigT at h1
  change _ ↔ decV bigT < decV a at h2
  have tri : ∀ a b : List UInt8, a.length = b.length → Op.bytesLess a b = false → Op.bytesLess b a = false → a = b := by
    intro a
    induction a with
    | nil => intro b hl _ _; cases b with
      | nil => rfl
      | cons => simp at hl
    | cons x a ih =>
      intro b hl h1 h2
      cases b with
      | nil => simp at hl
      | cons y b =>
        have e1 : Op.bytesLess (x :: a) (y :: b) = (decide (x < y) || (x == y && Op.bytesLess a b)) := rfl
        have e2 : Op.bytesLess (y :: b) (x :: a) = (decide (y < x) || (y == x && Op.bytesLess b a)) := rfl
        rw [e1, Bool.or_eq_false_iff] at h1
        rw [e2, Bool.or_eq_false_iff] at h2
        have g1 : ¬ x < y := by simpa using h1.1
        have g2 : ¬ y < x := by simpa using h2.1
        rw [UInt8.lt_iff_toNat_lt] at g1 g2
        have hxy : x = y := UInt8.toNat.inj (by omega)
        subst hxy
        rw [BEq.rfl, Bool.true_and] at h1 h2
        rw [ih b (by simpa using hl) h1.2 h2.2]
  rw [Bool.eq_iff_iff, Bool.or_eq_true, decide_eq_true_eq, beq_iff_eq, h1, ← hb]
  constructor
  · rintro (h | h)
    · omega
    · rw [h]; exact Nat.le_refl _
  · intro hle
    by_cases hlt : decV a < decV bigT
    · exact Or.inl hlt
    · right
      apply tri a bigT (by rw [h]; rfl)
      · rw [Bool.eq_false_iff, Ne, h1]; exact hlt
      · rw [Bool.eq_false_iff, Ne, h2]; omega
theorem numT_zero (l : List UInt8) (h : l.getD 0 0 = 48) (h0 : l.isEmpty = false) : numT l = (l == [48]) := by
  by_cases h1 : l = [48]
  · subst h1; decide +kernel
  · have h2 : (l == [48]) = false := by simpa using h1
    unfold numT okMag
    rw [h2, h]
    simp
theorem numT_digits (l : List UInt8) (h : l.getD 0 0 ≠ 48) (h0 : l.isEmpty = false) (ha : l.all isDig = true) :
    numT l = (decide (l.length < 19) || (l.length == 19 && (Op.bytesLess l bigT || l == bigT))) := by
  have e : okMag l = decide (l.length ≤ 19) := by
    unfold okMag
    have h2 : (l.getD 0 0 != 48) = true := by simpa using h
    rw [h2, h0, ha]
    simp
  unfold numT
  rw [e]
  by_cases h1 : l.length < 19
  · have := decV_small l ha (by omega)
    have h2 : decide (decV l ≤ 9223372036854775808) = true := by simp; omega
    have h3 : decide (l.length ≤ 19) = true := by simp; omega
    rw [h2, h3]
    simp [h1]
  · have h3 : decide (l.length < 19) = false := by simpa using h1
    rw [h3]
    by_cases h2 : l.length = 19
    · rw [le_iff l h2 ha, h2]
      rfl
    · have h4 : (l.length == 19) = false := by simpa using h2
      have h5 : decide (l.length ≤ 19) = false := by simp; omega
      rw [h4, h5]
      rfl
theorem numT_not (l : List UInt8) (h : l.all isDig = false) : numT l = false := by
  unfold numT okMag
  rw [h]
  simp
theorem all_snoc (s : ByteArray) (k : Nat) (h : k < s.size) : (s.data.toList.take (k + 1)).all isDig = ((s.data.toList.take k).all isDig && isDig s[k]) := by
  rw [take_snoc s k h, List.all_append]
  simp
theorem all_not (s : ByteArray) (k : Nat) (h : k < s.size) (hn : isDig s[k] = false) : s.data.toList.all isDig = false := by
  rw [Bool.eq_false_iff]
  intro hall
  rw [List.all_eq_true] at hall
  have hm : s[k] ∈ s.data.toList := by
    show s.data[k] ∈ s.data.toList
    simp
  rw [hall _ hm] at hn
  cases hn
theorem size_len (s : ByteArray) : s.data.toList.length = s.size := by simp
theorem head_eq (s : ByteArray) (h : 0 < s.size) : s.data.toList.getD 0 0 = s[0] := by
  rw [List.getD_eq_getElem?_getD, List.getElem?_eq_getElem (by simpa using h)]
  rfl
theorem not_empty (s : ByteArray) (h : 0 < s.size) : s.data.toList.isEmpty = false := by
  cases e : s.data.toList with
  | nil => rw [← size_len, e] at h; simp at h
  | cons => rfl
set_option maxRecDepth 100000 in
theorem isMagnitude_zero (s : ByteArray) (w : World) (hp : 0 < s.size) (hz : ((s[0].toNat : Int) == 48) = true) (H : Hid (numT s.data.toList = (s.data.toList == [48]))) : Calls Tryz.prog 145 #[.string s] w fun e w' => e = .returned (.bool (numT s.data.toList)) ∧ w = w' := by
  rw [H.out, ← Lib.toList_data]
  go_enter Tryz.func145, Tryz.ntmps145
  go_wp2_with fail
  go_ret
  exact ⟨rfl, rfl⟩
set_option maxRecDepth 100000 in
theorem isMagnitude_loop (s : ByteArray) (w : World) (hp : 0 < s.size) (hs : s.size ≤ maxLen) (hz : ((s[0].toNat : Int) == 48) = false) (H : Hid (s.data.toList.all isDig = true → numT s.data.toList = (decide (s.size < 19) || (s.size == 19 && (Op.bytesLess s.toList bigT || s.toList == bigT))))) :
    Calls Tryz.prog 145 #[.string s] w fun e w' => e = .returned (.bool (numT s.data.toList)) ∧ w = w' := by
  unfold maxLen at hs
  go_enter Tryz.func145, Tryz.ntmps145
  go_wp2_with fail
  go_loop [11] (fun i => ∃ k : Nat, k ≤ s.size ∧ i = .int .i64 k ∧ Hid ((s.data.toList.take k).all isDig = true)) (fun i => s.size - (intOf i).toNat)
  case atStart => exact ⟨0, Nat.zero_le _, rfl, Lib.hid rfl⟩
  case round =>
    obtain ⟨k, hk, rfl, HA⟩ := hrel
    by_cases hlt : k < s.size
    · obtain ⟨b, hb⟩ : ∃ b, isDig s[k] = b := ⟨_, rfl⟩
      have HP : Hid (∀ w, Calls Tryz.prog 129 #[.int .u8 s[k].toNat] w fun e w' => e = .returned (.bool b) ∧ w = w') := by
        rw [← hb]
        exact isDigit_any _
      have HB := Lib.hid hb
      clear hb
      cases b
      · go_wp2_with (go_at_call 129; refine (HP.out _).mono ?_; rintro e w' ⟨rfl, rfl⟩)
        go_ret
        rw [numT_not _ (all_not s k hlt HB.out)]
        exact ⟨rfl, rfl⟩
      · go_wp2_with (go_at_call 129; refine (HP.out _).mono ?_; rintro e w' ⟨rfl, rfl⟩)
        exact ⟨⟨k + 1, by omega, by go_num, Lib.hid (by rw [all_snoc s k hlt, HA.out, HB.out]; rfl)⟩, by simp [intOf]; omega⟩
    · obtain rfl : k = s.size := by omega
      have e : s.data.toList.take s.size = s.data.toList := List.take_of_length_le (by simp)
      rw [e] at HA
      have HN := Lib.hid (H.out HA.out)
      rcases Nat.lt_trichotomy s.size 19 with h1 | h1 | h1
      · have t1 : decide ((s.size : Int) < 19) = true := by simp; omega
        go_wp2_with fail
        go_ret
        rw [HN.out]
        exact ⟨by simp [h1], rfl⟩
      · have t1 : decide ((s.size : Int) < 19) = false := by simp; omega
        have t2 : ((s.size : Int) == 19) = true := by rw [beq_iff_eq]; omega
        have H1 := Lib.hid h1
        clear h1
        go_wp2_with fail
        go_ret
        have e3 : numT s.data.toList = (Op.bytesLess s.toList bigT || s.toList == bigT) := by
          have h2 : decide (s.size < 19) = false := by have := H1.out; simp; omega
          have h3 : (s.size == 19) = true := by have := H1.out; simp; omega
          rw [HN.out, h2, h3]
          rfl
        rw [e3]
        exact ⟨rfl, rfl⟩
      · have t1 : decide ((s.size : Int) < 19) = false := by simp; omega
        have t2 : ((s.size : Int) == 19) = false := by rw [beq_eq_false_iff_ne]; omega
        go_wp2_with fail
        go_ret
        rw [HN.out]
        have h2 : decide (s.size < 19) = false := by simp; omega
        have h3 : (s.size == 19) = false := by simp; omega
        rw [h2, h3]
        exact ⟨rfl, rfl⟩
theorem isMagnitude_any (s : ByteArray) (w : World) (hp : 0 < s.size) (hs : s.size ≤ maxLen) : Calls Tryz.prog 145 #[.string s] w fun e w' => e = .returned (.bool (numT s.data.toList)) ∧ w = w' := by
  by_cases h : s[0].toNat = 48
  · refine isMagnitude_zero s w hp (by rw [beq_iff_eq]; omega) (Lib.hid (numT_zero _ ?_ (not_empty s hp)))
    rw [head_eq s hp]
    exact UInt8.toNat.inj h
  · refine isMagnitude_loop s w hp hs (by rw [beq_eq_false_iff_ne]; omega) (Lib.hid fun ha => ?_)
    rw [numT_digits _ ?_ (not_empty s hp) ha, size_len, Lib.toList_data]
    rw [head_eq s hp]
    intro hc
    apply h
    rw [hc]
    rfl
end Go.Proofs.YtcjolamfjgdgjaaGreatDoor
