/-
  What word.Parse and word.Text answer: the walks.
-/
import Derived.Test.YtamkoncjkngneaaDoorProg
import Derived.Test.YtamkoncjkngneaaDoorPure
import Derived.Test.YtamkoncjkngneaaDoorNum
import Derived.WalkKit
import Derived.ProofKit
import Derived.BigQuiet
import Derived.LoopTactic
import Derived.Outline
import Derived.Lib.Hide
import Derived.Lib.IndexBytes
namespace Go.Proofs.YtamkoncjkngneaaDoor
open Go.RowKit (wrap32 wrap64)
open Go.RowKit
set_option maxHeartbeats 400000

theorem mag_empty (w : World) : Calls Tryd.prog 112 #[.string ⟨#[]⟩] w fun e w' => e = .returned (.tuple #[.int .u64 0, .bool false]) ∧ w = w' := by
  go_enter Tryd.func112, Tryd.ntmps112
  go_wp2
  go_ret2
  exact ⟨rfl, rfl⟩
theorem mag_long (s : ByteArray) (w : World) (h : 19 < s.size) (hs : s.size ≤ maxLen) : Calls Tryd.prog 112 #[.string s] w fun e w' => e = .returned (.tuple #[.int .u64 0, .bool false]) ∧ w = w' := by
  unfold maxLen at hs
  have g : decide (19 < (s.size : Int)) = true := by simp; omega
  go_enter Tryd.func112, Tryd.ntmps112
  go_wp2
  all_goals go_ret2
  all_goals exact ⟨rfl, rfl⟩
theorem mag_lead (s : ByteArray) (w : World) (h0 : ¬ s.toList = []) (hp : 0 < s.size) (h : s.size ≤ 19) (hz : s[0] = 48) (hn : (!s.toList == [48]) = true) : Calls Tryd.prog 112 #[.string s] w fun e w' => e = .returned (.tuple #[.int .u64 0, .bool false]) ∧ w = w' := by
  have g : decide (19 < (s.size : Int)) = false := by simp; omega
  go_enter Tryd.func112, Tryd.ntmps112
  go_wp2
  go_ret2
  exact ⟨rfl, rfl⟩
/-- What a text that passes the first look comes to, by its digits. -/
def MagPost (s : ByteArray) (w : World) (e : Ending) (w' : World) : Prop :=
  e = .returned (.tuple #[.int .u64 (if s.data.toList.all isDig then (decV s.data.toList : Int) else 0), .bool (s.data.toList.all isDig)]) ∧ w = w'
theorem all_snoc (s : ByteArray) (k : Nat) (h : k < s.size) : (s.data.toList.take (k + 1)).all isDig = ((s.data.toList.take k).all isDig && isDig s[k]) := by
  rw [take_snoc s k h, List.all_append]
  simp
theorem all_not (s : ByteArray) (k : Nat) (h : k < s.size) (hn : isDig s[k] = false) : s.data.toList.all isDig = false := by
  rw [Bool.eq_false_iff]
  intro hall
  rw [List.all_eq_true] at hall
  have hm : s[k] ∈ s.data.toList := by
    show s.data[k] ∈ s.data.toList
    simp
  rw [hall _ hm] at hn
  cases hn
set_option maxRecDepth 100000 in
theorem mag_loop (s : ByteArray) (w : World) (_h0 : ¬ s.toList = []) (h0' : s.toList.isEmpty = false) (hp : 0 < s.size) (h : s.size ≤ 19) (hz : (((s[0].toNat : Int) == 48) = true ∧ (!s.toList == [48]) = false) ∨ ((s[0].toNat : Int) == 48) = false) : Calls Tryd.prog 112 #[.string s] w (MagPost s w) := by
  have g : decide (19 < (s.size : Int)) = false := by simp; omega
  rcases hz with ⟨hz, hn⟩ | hz
  all_goals
    go_enter Tryd.func112, Tryd.ntmps112
    go_wp2
    go_loop [4, 25] (fun m i => ∃ k : Nat, k ≤ s.size ∧ i = .int .i64 k ∧ m = .int .u64 (decV (s.data.toList.take k)) ∧ (s.data.toList.take k).all isDig = true) (fun _ i => s.size - (intOf i).toNat)
    case atStart => exact ⟨0, Nat.zero_le _, rfl, rfl, rfl⟩
    case round =>
      obtain ⟨k, hk, rfl, rfl, ha⟩ := hrel
      have HA := Lib.hid ha
      clear ha
      by_cases hlt : k < s.size
      · have hv := decV_small (s.data.toList.take k) HA.out (by rw [List.length_take]; omega)
        by_cases c1 : s[k].toNat < 48
        · have HN : Hid (isDig s[k] = false) := Lib.hid (by unfold isDig; simp; omega)
          have t1 : decide ((s[k].toNat : Int) < 48) = true := by simp; omega
          go_wp2
          go_ret2
          unfold MagPost
          rw [all_not s k hlt HN.out]
          exact ⟨rfl, rfl⟩
        · by_cases c2 : 57 < s[k].toNat
          · have HN : Hid (isDig s[k] = false) := Lib.hid (by unfold isDig; simp; omega)
            have t1 : decide ((s[k].toNat : Int) < 48) = false := by simp; omega
            have t2 : decide (57 < (s[k].toNat : Int)) = true := by simp; omega
            go_wp2
            go_ret2
            unfold MagPost
            rw [all_not s k hlt HN.out]
            exact ⟨rfl, rfl⟩
          · have HN : Hid (isDig s[k] = true) := Lib.hid (by unfold isDig; simp; omega)
            have t1 : decide ((s[k].toNat : Int) < 48) = false := by simp; omega
            have t2 : decide (57 < (s[k].toNat : Int)) = false := by simp; omega
            go_wp2
            go_round
            case rel => 
              refine ⟨k + 1, by omega, by go_num, ?_, by rw [all_snoc s k hlt, HA.out, HN.out]; rfl⟩
              rw [take_snoc s k hlt, decV_snoc]
              exact congrArg (Value.int .u64) (by omega)
            case measure => simp [intOf]; omega
      · obtain rfl : k = s.size := by omega
        go_wp2
        go_ret2
        unfold MagPost
        have e : s.data.toList.take s.size = s.data.toList := List.take_of_length_le (by simp)
        rw [e] at HA
        rw [HA.out, e]
        exact ⟨rfl, rfl⟩
theorem toList_nil (s : ByteArray) (h : s.toList = []) : s = ⟨#[]⟩ := by
  rw [ByteArray.toList_eq] at h
  exact Go.WideShapes.bytes_inj h
theorem size_len (s : ByteArray) : s.data.toList.length = s.size := by simp
theorem head_eq (s : ByteArray) (h : 0 < s.size) : s.data.toList.getD 0 0 = s[0] := by
  rw [List.getD_eq_getElem?_getD, List.getElem?_eq_getElem (by simpa using h)]
  rfl
theorem mag_any (s : ByteArray) (w : World) (hs : s.size ≤ maxLen) : Calls Tryd.prog 112 #[.string s] w fun e w' => e = .returned (.tuple #[.int .u64 (magV s.data.toList), .bool (okMag s.data.toList)]) ∧ w = w' := by
  by_cases h0 : s.toList = []
  · obtain rfl := toList_nil s h0
    exact mag_empty w
  · have h0' : s.toList.isEmpty = false := by simpa using h0
    have h0d : s.data.toList.isEmpty = false := by rw [← ByteArray.toList_eq]; exact h0'
    have hp : 0 < s.size := by
      rw [ByteArray.toList_eq] at h0
      rw [← size_len]
      exact List.length_pos_iff.2 h0
    by_cases hl : 19 < s.size
    · refine (mag_long s w hl hs).mono ?_
      rintro e w' ⟨rfl, rfl⟩
      have : okMag s.data.toList = false := by
        unfold okMag
        have h2 : decide (s.data.toList.length ≤ 19) = false := by rw [size_len]; simp; omega
        rw [h2]
        simp
      exact ⟨by unfold magV; rw [this]; rfl, rfl⟩
    · have hl' : decide (s.data.toList.length ≤ 19) = true := by rw [size_len]; simp; omega
      by_cases hz : s[0] = 48
      · by_cases hn : s.toList = [48]
        · have hn' : (!s.toList == [48]) = false := by rw [hn]; rfl
          refine (mag_loop s w h0 h0' hp (by omega) (Or.inl ⟨by rw [hz]; rfl, hn'⟩)).mono ?_
          rintro e w' ⟨rfl, rfl⟩
          have e1 : okMag s.data.toList = s.data.toList.all isDig := by
            rw [ByteArray.toList_eq] at hn
            rw [hn]
            rfl
          unfold magV
          rw [e1]
          refine ⟨?_, rfl⟩
          cases s.data.toList.all isDig <;> rfl
        · have hn' : (!s.toList == [48]) = true := by
            have : (s.toList == [48]) = false := by simpa using hn
            rw [this]
            rfl
          refine (mag_lead s w h0 hp (by omega) hz hn').mono ?_
          rintro e w' ⟨rfl, rfl⟩
          have : okMag s.data.toList = false := by
            unfold okMag
            have h2 : (s.data.toList.getD 0 0 != 48 || s.data.toList == [48]) = false := by
              rw [head_eq s hp, hz]
              rw [ByteArray.toList_eq] at hn
              simpa using hn
            rw [h2]
            simp
          exact ⟨by unfold magV; rw [this]; rfl, rfl⟩
      · have hz' : ((s[0].toNat : Int) == 48) = false := by
          rw [beq_eq_false_iff_ne]
          intro hc
          apply hz
          apply UInt8.toNat.inj
          show _ = 48
          omega
        refine (mag_loop s w h0 h0' hp (by omega) (Or.inr hz')).mono ?_
        rintro e w' ⟨rfl, rfl⟩
        have e1 : okMag s.data.toList = s.data.toList.all isDig := by
          unfold okMag
          have h2 : (s.data.toList.getD 0 0 != 48) = true := by
            rw [head_eq s hp]
            simpa using hz
          rw [h2, hl', h0d]
          simp
        unfold magV
        rw [e1]
        refine ⟨?_, rfl⟩
        cases s.data.toList.all isDig <;> rfl
theorem mag_is (s : ByteArray) (m : Nat) (ok : Bool) (w : World) (hs : s.size ≤ maxLen) (hm : Hid (magV s.data.toList = m)) (ho : Hid (okMag s.data.toList = ok)) : Calls Tryd.prog 112 #[.string s] w fun e w' => e = .returned (.tuple #[.int .u64 m, .bool ok]) ∧ w = w' := by
  have := mag_any s w hs
  rw [hm.out, ho.out] at this
  exact this
/-- Is the text a number with a sign. -/
def negTx (l : List UInt8) : Bool := !l.isEmpty && l.getD 0 0 == 45
/-- What word.Parse answers. -/
def parV (l : List UInt8) : Int :=
  if negTx l then (if okMag (l.drop 1) ∧ magV (l.drop 1) ≠ 0 ∧ magV (l.drop 1) ≤ 9223372036854775808 then -(magV (l.drop 1) : Int) else 0)
  else (if okMag l ∧ magV l < 9223372036854775808 then magV l else 0)
def parOk (l : List UInt8) : Bool :=
  if negTx l then (okMag (l.drop 1) && magV (l.drop 1) != 0 && decide (magV (l.drop 1) ≤ 9223372036854775808))
  else (okMag l && decide (magV l < 9223372036854775808))
theorem par_empty (w : World) : Calls Tryd.prog 100 #[.string ⟨#[]⟩] w fun e w' => e = .returned (.tuple #[.int .i64 0, .bool false]) ∧ w = w' := by
  go_enter Tryd.func100, Tryd.ntmps100
  go_wp2_with (go_at_call 112; refine (mag_empty _).mono ?_; rintro e w' ⟨rfl, rfl⟩)
  go_ret2
  exact ⟨rfl, rfl⟩
set_option maxRecDepth 100000 in
theorem par_pos_no (s : ByteArray) (w : World) (hs : s.size ≤ maxLen) (m : Nat) (hm : Hid (magV s.data.toList = m)) (ho : Hid (okMag s.data.toList = false)) (h0 : 0 < s.size) (hn : (!s.toList.isEmpty) = true) (h45 : ((s[0].toNat : Int) == 45) = false) :
    Calls Tryd.prog 100 #[.string s] w fun e w' => e = .returned (.tuple #[.int .i64 0, .bool false]) ∧ w = w' := by
  unfold maxLen at hs
  go_enter Tryd.func100, Tryd.ntmps100
  go_wp2_with (go_at_call 112; refine (mag_is _ m false _ (by unfold maxLen; omega) hm ho).mono ?_; rintro e w' ⟨rfl, rfl⟩)
  go_ret2
  exact ⟨rfl, rfl⟩
set_option maxRecDepth 100000 in
theorem par_pos_big (s : ByteArray) (w : World) (hs : s.size ≤ maxLen) (m : Nat) (hm : Hid (magV s.data.toList = m)) (ho : Hid (okMag s.data.toList = true)) (h0 : 0 < s.size) (hn : (!s.toList.isEmpty) = true) (h45 : ((s[0].toNat : Int) == 45) = false) (hbig : decide (9223372036854775808 ≤ (m : Int)) = true) :
    Calls Tryd.prog 100 #[.string s] w fun e w' => e = .returned (.tuple #[.int .i64 0, .bool false]) ∧ w = w' := by
  unfold maxLen at hs
  go_enter Tryd.func100, Tryd.ntmps100
  go_wp2_with (go_at_call 112; refine (mag_is _ m true _ (by unfold maxLen; omega) hm ho).mono ?_; rintro e w' ⟨rfl, rfl⟩)
  go_ret2
  exact ⟨rfl, rfl⟩
set_option maxRecDepth 100000 in
theorem par_pos_fit (s : ByteArray) (w : World) (hs : s.size ≤ maxLen) (m : Nat) (hm : Hid (magV s.data.toList = m)) (ho : Hid (okMag s.data.toList = true)) (h0 : 0 < s.size) (hn : (!s.toList.isEmpty) = true) (h45 : ((s[0].toNat : Int) == 45) = false) (hfit : decide (9223372036854775808 ≤ (m : Int)) = false) (hf : (m : Int) ≤ 9223372036854775807) :
    Calls Tryd.prog 100 #[.string s] w fun e w' => e = .returned (.tuple #[.int .i64 m, .bool true]) ∧ w = w' := by
  unfold maxLen at hs
  go_enter Tryd.func100, Tryd.ntmps100
  go_wp2_with (go_at_call 112; refine (mag_is _ m true _ (by unfold maxLen; omega) hm ho).mono ?_; rintro e w' ⟨rfl, rfl⟩)
  go_ret2
  exact ⟨rfl, rfl⟩
set_option maxRecDepth 100000 in
theorem par_neg_no (s : ByteArray) (w : World) (hs : s.size ≤ maxLen) (m : Nat) (hm : Hid (magV (s.extract 1 s.size).data.toList = m)) (ho : Hid (okMag (s.extract 1 s.size).data.toList = false)) (h0 : 0 < s.size) (hn : (!s.toList.isEmpty) = true) (h45 : ((s[0].toNat : Int) == 45) = true) :
    Calls Tryd.prog 100 #[.string s] w fun e w' => e = .returned (.tuple #[.int .i64 0, .bool false]) ∧ w = w' := by
  unfold maxLen at hs
  have hz : (s.extract 1 s.size).size ≤ maxLen := by rw [← size_len, Lib.extract_to_end, List.length_drop, size_len]; unfold maxLen; omega
  have HZ := Lib.hid hz
  clear hz
  go_enter Tryd.func100, Tryd.ntmps100
  go_wp2_with (go_at_call 112; refine (mag_is _ m false _ HZ.out hm ho).mono ?_; rintro e w' ⟨rfl, rfl⟩)
  go_ret2
  exact ⟨rfl, rfl⟩
set_option maxRecDepth 100000 in
theorem par_neg_zero (s : ByteArray) (w : World) (hs : s.size ≤ maxLen) (m : Nat) (hm : Hid (magV (s.extract 1 s.size).data.toList = m)) (ho : Hid (okMag (s.extract 1 s.size).data.toList = true)) (h0 : 0 < s.size) (hn : (!s.toList.isEmpty) = true) (h45 : ((s[0].toNat : Int) == 45) = true) (hz : ((m : Int) == 0) = true) :
    Calls Tryd.prog 100 #[.string s] w fun e w' => e = .returned (.tuple #[.int .i64 0, .bool false]) ∧ w = w' := by
  unfold maxLen at hs
  have hz : (s.extract 1 s.size).size ≤ maxLen := by rw [← size_len, Lib.extract_to_end, List.length_drop, size_len]; unfold maxLen; omega
  have HZ := Lib.hid hz
  clear hz
  go_enter Tryd.func100, Tryd.ntmps100
  go_wp2_with (go_at_call 112; refine (mag_is _ m true _ HZ.out hm ho).mono ?_; rintro e w' ⟨rfl, rfl⟩)
  go_ret2
  exact ⟨rfl, rfl⟩
set_option maxRecDepth 100000 in
theorem par_neg_big (s : ByteArray) (w : World) (hs : s.size ≤ maxLen) (m : Nat) (hm : Hid (magV (s.extract 1 s.size).data.toList = m)) (ho : Hid (okMag (s.extract 1 s.size).data.toList = true)) (h0 : 0 < s.size) (hn : (!s.toList.isEmpty) = true) (h45 : ((s[0].toNat : Int) == 45) = true) (hz : ((m : Int) == 0) = false) (hb : decide (9223372036854775808 < (m : Int)) = true) :
    Calls Tryd.prog 100 #[.string s] w fun e w' => e = .returned (.tuple #[.int .i64 0, .bool false]) ∧ w = w' := by
  unfold maxLen at hs
  have hz : (s.extract 1 s.size).size ≤ maxLen := by rw [← size_len, Lib.extract_to_end, List.length_drop, size_len]; unfold maxLen; omega
  have HZ := Lib.hid hz
  clear hz
  go_enter Tryd.func100, Tryd.ntmps100
  go_wp2_with (go_at_call 112; refine (mag_is _ m true _ HZ.out hm ho).mono ?_; rintro e w' ⟨rfl, rfl⟩)
  go_ret2
  exact ⟨rfl, rfl⟩
set_option maxRecDepth 100000 in
theorem par_neg_fit (s : ByteArray) (w : World) (hs : s.size ≤ maxLen) (m : Nat) (hm : Hid (magV (s.extract 1 s.size).data.toList = m)) (ho : Hid (okMag (s.extract 1 s.size).data.toList = true)) (h0 : 0 < s.size) (hn : (!s.toList.isEmpty) = true) (h45 : ((s[0].toNat : Int) == 45) = true) (hz : ((m : Int) == 0) = false) (hb : decide (9223372036854775808 < (m : Int)) = false) :
    Calls Tryd.prog 100 #[.string s] w fun e w' => e = .returned (.tuple #[.int .i64 (wrap64 (-(wrap64 (m : Int)))), .bool true]) ∧ w = w' := by
  unfold maxLen at hs
  have hz : (s.extract 1 s.size).size ≤ maxLen := by rw [← size_len, Lib.extract_to_end, List.length_drop, size_len]; unfold maxLen; omega
  have HZ := Lib.hid hz
  clear hz
  go_enter Tryd.func100, Tryd.ntmps100
  go_wp2_with (go_at_call 112; refine (mag_is _ m true _ HZ.out hm ho).mono ?_; rintro e w' ⟨rfl, rfl⟩)
  go_ret2
  exact ⟨rfl, rfl⟩
theorem neg_mag (m : Nat) (h : m ≤ 9223372036854775808) : wrap64 (-(wrap64 (m : Int))) = -(m : Int) ∨ m = 0 := by
  unfold wrap64
  omega
theorem par_any (s : ByteArray) (w : World) (hs : s.size ≤ maxLen) : Calls Tryd.prog 100 #[.string s] w fun e w' => e = .returned (.tuple #[.int .i64 (parV s.data.toList), .bool (parOk s.data.toList)]) ∧ w = w' := by
  by_cases h0 : s.toList = []
  · obtain rfl := toList_nil s h0
    exact par_empty w
  · have hn : (!s.toList.isEmpty) = true := by simpa using h0
    have hd0 : s.data.toList.isEmpty = false := by rw [← ByteArray.toList_eq]; simpa using h0
    have hp : 0 < s.size := by
      rw [ByteArray.toList_eq] at h0
      rw [← size_len]
      exact List.length_pos_iff.2 h0
    have hd := Lib.extract_to_end s 1
    by_cases h45 : s[0] = 45
    · have hneg : negTx s.data.toList = true := by
        unfold negTx
        rw [head_eq s hp, h45, hd0]
        rfl
      have e1 : parV s.data.toList = if okMag (s.data.toList.drop 1) ∧ magV (s.data.toList.drop 1) ≠ 0 ∧ magV (s.data.toList.drop 1) ≤ 9223372036854775808 then -(magV (s.data.toList.drop 1) : Int) else 0 := by
        unfold parV
        rw [if_pos hneg]
      have e2 : parOk s.data.toList = (okMag (s.data.toList.drop 1) && magV (s.data.toList.drop 1) != 0 && decide (magV (s.data.toList.drop 1) ≤ 9223372036854775808)) := by
        unfold parOk
        rw [if_pos hneg]
      rw [e1, e2, ← hd]
      have h45' : ((s[0].toNat : Int) == 45) = true := by rw [h45]; rfl
      generalize hm : magV (s.extract 1 s.size).data.toList = m
      cases ho : okMag (s.extract 1 s.size).data.toList with
      | false =>
        refine (par_neg_no s w hs m (Lib.hid hm) (Lib.hid ho) hp hn h45').mono ?_
        rintro e w' ⟨rfl, rfl⟩
        exact ⟨by simp, rfl⟩
      | true =>
        by_cases hz : m = 0
        · refine (par_neg_zero s w hs m (Lib.hid hm) (Lib.hid ho) hp hn h45' (by simpa using hz)).mono ?_
          rintro e w' ⟨rfl, rfl⟩
          exact ⟨by simp [hz], rfl⟩
        · by_cases hb : 9223372036854775808 < m
          · refine (par_neg_big s w hs m (Lib.hid hm) (Lib.hid ho) hp hn h45' (by simpa using hz) (by simp; omega)).mono ?_
            rintro e w' ⟨rfl, rfl⟩
            exact ⟨by simp [hz, Nat.not_le.2 hb], rfl⟩
          · refine (par_neg_fit s w hs m (Lib.hid hm) (Lib.hid ho) hp hn h45' (by simpa using hz) (by simp; omega)).mono ?_
            rintro e w' ⟨rfl, rfl⟩
            rcases neg_mag m (by omega) with h | h
            · rw [h]
              exact ⟨by simp [hz, Nat.not_lt.1 hb], rfl⟩
            · contradiction
    · have hneg : negTx s.data.toList = false := by
        unfold negTx
        rw [head_eq s hp, hd0]
        simpa using h45
      have e1 : parV s.data.toList = if okMag s.data.toList ∧ magV s.data.toList < 9223372036854775808 then (magV s.data.toList : Int) else 0 := by
        unfold parV
        rw [hneg]
        rfl
      have e2 : parOk s.data.toList = (okMag s.data.toList && decide (magV s.data.toList < 9223372036854775808)) := by
        unfold parOk
        rw [hneg]
        rfl
      rw [e1, e2]
      have h45' : ((s[0].toNat : Int) == 45) = false := by
        rw [beq_eq_false_iff_ne]
        intro hc
        apply h45
        apply UInt8.toNat.inj
        show _ = 45
        omega
      generalize hm : magV s.data.toList = m
      cases ho : okMag s.data.toList with
      | false =>
        refine (par_pos_no s w hs m (Lib.hid hm) (Lib.hid ho) hp hn h45').mono ?_
        rintro e w' ⟨rfl, rfl⟩
        exact ⟨by simp, rfl⟩
      | true =>
        by_cases hb : 9223372036854775808 ≤ m
        · refine (par_pos_big s w hs m (Lib.hid hm) (Lib.hid ho) hp hn h45' (by simp; omega)).mono ?_
          rintro e w' ⟨rfl, rfl⟩
          exact ⟨by simp [Nat.not_lt.2 hb], rfl⟩
        · refine (par_pos_fit s w hs m (Lib.hid hm) (Lib.hid ho) hp hn h45' (by simp; omega) (by omega)).mono ?_
          rintro e w' ⟨rfl, rfl⟩
          exact ⟨by simp [Nat.not_le.1 hb], rfl⟩
end Go.Proofs.YtamkoncjkngneaaDoor
