/-
  lexer.symbolLength, scanNumber, scanName, scanSymbol, scanToken: the walks.
-/
import Derived.Test.YtcjolamfjgdgjaaGreatDoorLexNum
import Derived.Laws.ResultCell
namespace Go.Proofs.YtcjolamfjgdgjaaGreatDoor
open Go.RowKit (wrap32 wrap64)
open Go.RowKit
set_option maxHeartbeats 400000

/-- What the reading of a token leaves: the token, or an empty one and the reason. -/
def tokVal (l : List UInt8) (k : Nat) : Value :=
  if tokWhy l = 0 then .agg #[.int .i64 (headKind l), .string ⟨(tokText l).toArray⟩, .int .i64 k] else .agg #[.int .i64 0, .string ⟨#[]⟩, .int .i64 0]
def TokPost (s : ByteArray) (k : Nat) (w : World) (e : Ending) (w' : World) : Prop :=
  e = .returned (.tuple #[tokVal (s.data.toList.drop k) k, .int .i64 (tokWhy (s.data.toList.drop k))]) ∧ Bel w w'
theorem wrdAt_pos (s : ByteArray) (k : Nat) (h : k < s.size) (hw : isWrd s[k] = true) : 0 < (⟨(wrdAt s k).toArray⟩ : ByteArray).size := by
  rw [← size_len]
  show 0 < (wrdAt s k).length
  unfold wrdAt
  rw [drop_cons s k h, List.takeWhile_cons, hw, if_pos rfl]
  simp
theorem wrdAt_len (s : ByteArray) (k : Nat) (h : k ≤ s.size) : (⟨(wrdAt s k).toArray⟩ : ByteArray).size ≤ s.size := by
  rw [← size_len]
  show (wrdAt s k).length ≤ _
  unfold wrdAt
  have := (List.takeWhile_prefix (p := isWrd) (l := s.data.toList.drop k)).length_le
  rw [List.length_drop, size_len] at this
  omega
theorem tokText_wrd (s : ByteArray) (k : Nat) (h : k < s.size) (hw : isWrd s[k] = true) : tokText (s.data.toList.drop k) = wrdAt s k := by
  unfold wrdAt
  rw [drop_cons s k h, List.takeWhile_cons, hw, if_pos rfl]
  unfold tokText
  simp [hw]
theorem headKind_at (s : ByteArray) (k : Nat) (h : k < s.size) : headKind (s.data.toList.drop k) = if isDig s[k] then 2 else if isLet s[k] then 1 else 3 := by
  rw [drop_cons s k h]
  rfl
set_option maxRecDepth 100000 in
theorem scanNumber_any (s : ByteArray) (k : Nat) (w : World) (hk : k < s.size) (hs : s.size ≤ maxLen) (hd : isDig s[k] = true) : Calls Tryz.prog 130 #[.string s, .int .i64 k] w (TokPost s k w) := by
  have hw : isWrd s[k] = true := by unfold isWrd; rw [hd, Bool.or_true]
  have hp := wrdAt_pos s k hk hw
  have hle := wrdAt_len s k (by omega)
  have hT := tokText_wrd s k hk hw
  have hK : headKind (s.data.toList.drop k) = 2 := by rw [headKind_at s k hk, hd, if_pos rfl]
  obtain ⟨b, hb⟩ : ∃ b, numT (wrdAt s k) = b := ⟨_, rfl⟩
  have hW : tokWhy (s.data.toList.drop k) = if b then 0 else 2 := by
    unfold tokWhy textWhy
    rw [hK, if_pos rfl, hT, hb]
  have HP : Hid (∀ w, Calls Tryz.prog 144 #[.string s, .int .i64 k] w fun e w' => e = .returned (.string ⟨(wrdAt s k).toArray⟩) ∧ w = w') := fun w => wordAt_any s k w (by omega) hs
  have HM : Hid (∀ w, Calls Tryz.prog 145 #[.string ⟨(wrdAt s k).toArray⟩] w fun e w' => e = .returned (.bool b) ∧ w = w') := by
    rw [← hb]
    exact fun w => isMagnitude_any _ w hp (by omega)
  have HT := Lib.hid hT
  have HK := Lib.hid hK
  have HW := Lib.hid hW
  clear hT hK hW hp hle hb hs hw hd
  cases b
  · go_enter Tryz.func130, Tryz.ntmps130
    go_wp2_with (first | (go_at_call 144; refine (HP.out _).mono ?_; rintro e w' ⟨rfl, rfl⟩) | (go_at_call 145; refine (HM.out _).mono ?_; rintro e w' ⟨rfl, rfl⟩))
    (try simp only [Exit.inBlock, Exit.then])
    refine bodyPost_ret (v := .tuple #[.agg #[.int .i64 0, .string ⟨#[]⟩, .int .i64 0], .int .i64 2]) ?_ rfl ⟨?_, ?_⟩
    · rw [results_cell_tmp rfl]
      go_simp
    · unfold tokVal
      rw [HW.out]
      rfl
    · exact ((Bel.refl _).alloc _)
  · go_enter Tryz.func130, Tryz.ntmps130
    go_wp2_with (first | (go_at_call 144; refine (HP.out _).mono ?_; rintro e w' ⟨rfl, rfl⟩) | (go_at_call 145; refine (HM.out _).mono ?_; rintro e w' ⟨rfl, rfl⟩))
    (try simp only [Exit.inBlock, Exit.then])
    refine bodyPost_ret (v := .tuple #[.agg #[.int .i64 2, .string ⟨(wrdAt s k).toArray⟩, .int .i64 k], .int .i64 0]) ?_ rfl ⟨?_, ?_⟩
    · rw [results_cell_tmp rfl]
      go_simp
    · unfold tokVal
      rw [HW.out, HT.out, HK.out]
      rfl
    · exact ((Bel.refl _).alloc _)
set_option maxRecDepth 100000 in
theorem scanName_any (s : ByteArray) (k : Nat) (w : World) (hk : k < s.size) (hs : s.size ≤ maxLen) (hd : isDig s[k] = false) (hl : isLet s[k] = true) : Calls Tryz.prog 132 #[.string s, .int .i64 k] w (TokPost s k w) := by
  have hw : isWrd s[k] = true := by unfold isWrd; rw [hl, Bool.true_or]
  have hT := tokText_wrd s k hk hw
  have hK : headKind (s.data.toList.drop k) = 1 := by rw [headKind_at s k hk, hd, hl]; rfl
  have hle := wrdAt_len s k (by omega)
  obtain ⟨t, ht⟩ : ∃ t : ByteArray, t = ⟨(wrdAt s k).toArray⟩ := ⟨_, rfl⟩
  have hsz : t.size = (wrdAt s k).length := by rw [ht, ← size_len]
  have hW : tokWhy (s.data.toList.drop k) = if t.size ≤ 16 then 0 else 6 := by
    unfold tokWhy textWhy
    rw [hK, if_neg (by decide), if_pos rfl, hT, hsz]
  have HP : Hid (∀ w, Calls Tryz.prog 144 #[.string s, .int .i64 k] w fun e w' => e = .returned (.string t) ∧ w = w') := by
    rw [ht]
    exact fun w => wordAt_any s k w (by omega) hs
  rw [← ht] at hle
  have HT : Hid (tokText (s.data.toList.drop k) = wrdAt s k) := Lib.hid hT
  have HK := Lib.hid hK
  have HW := Lib.hid hW
  have HTT := Lib.hid ht
  clear hT hK hW hw hd hl ht
  unfold maxLen at hs
  by_cases h16 : t.size ≤ 16
  · have t1 : decide (16 < (t.size : Int)) = false := by simp; omega
    have HZ := Lib.hid h16
    clear h16 hsz
    go_enter Tryz.func132, Tryz.ntmps132
    go_wp2_with (go_at_call 144; refine (HP.out _).mono ?_; rintro e w' ⟨rfl, rfl⟩)
    (try simp only [Exit.inBlock, Exit.then])
    refine bodyPost_ret (v := .tuple #[.agg #[.int .i64 1, .string t, .int .i64 k], .int .i64 0]) ?_ rfl ⟨?_, ?_⟩
    · rw [results_cell_tmp rfl]
      go_simp
    · have e : tokWhy (s.data.toList.drop k) = 0 := by rw [HW.out, if_pos HZ.out]
      unfold tokVal
      rw [e, HT.out, HK.out, HTT.out]
      rfl
    · exact ((Bel.refl _).alloc _)
  · have t1 : decide (16 < (t.size : Int)) = true := by simp; omega
    have HZ := Lib.hid h16
    clear h16 hsz
    go_enter Tryz.func132, Tryz.ntmps132
    go_wp2_with (go_at_call 144; refine (HP.out _).mono ?_; rintro e w' ⟨rfl, rfl⟩)
    (try simp only [Exit.inBlock, Exit.then])
    refine bodyPost_ret (v := .tuple #[.agg #[.int .i64 0, .string ⟨#[]⟩, .int .i64 0], .int .i64 6]) ?_ rfl ⟨?_, ?_⟩
    · rw [results_cell_tmp rfl]
      go_simp
    · have e : tokWhy (s.data.toList.drop k) = 6 := by rw [HW.out, if_neg HZ.out]
      unfold tokVal
      rw [e]
      rfl
    · exact ((Bel.refl _).alloc _)
theorem find_at (l : List UInt8) (k : Nat) (hk : k < longs.length) (hno : ∀ p ∈ longs.take k, p.isPrefixOf l = false) (h : longs[k].isPrefixOf l = true) : sym l = longs[k] := by
  apply sym_some
  rw [List.find?_eq_some_iff_append]
  refine ⟨h, longs.take k, longs.drop (k + 1), ?_, ?_⟩
  · rw [← List.drop_eq_getElem_cons hk, List.take_append_drop]
  · intro a ha
    rw [hno a ha]
    rfl
theorem find_no (l : List UInt8) (hno : ∀ p ∈ longs.take 7, p.isPrefixOf l = false) : longs.find? (fun p => p.isPrefixOf l) = none := by
  rw [List.find?_eq_none]
  intro p hp
  rw [hno p hp]
  simp
theorem index_contains (l : List UInt8) (c : UInt8) : decide (0 ≤ Lib.indexByte l c) = l.contains c := by
  have hge := Lib.indexByte_ge l c
  by_cases h : Lib.indexByte l c = -1
  · have hn := Lib.indexByte_none h
    have e : l.contains c = false := by
      rw [Bool.eq_false_iff]
      intro hc
      have hm := List.contains_iff_mem.1 hc
      obtain ⟨i, hi⟩ := List.getElem?_of_mem hm
      exact hn i hi
    rw [h, e]
    rfl
  · obtain ⟨o, ho⟩ : ∃ o : Nat, Lib.indexByte l c = o := ⟨(Lib.indexByte l c).toNat, by omega⟩
    have e : l.contains c = true := by
      rw [List.contains_iff_mem]
      exact List.mem_of_getElem? (Lib.indexByte_some ho).1
    rw [e, ho]
    simp
def NoneYet (s : ByteArray) (k : Nat) : Prop := ∀ p ∈ longs.take k, p.isPrefixOf s.data.toList = false
theorem noneYet_succ (s : ByteArray) (k : Nat) (hk : k < longs.length) (h : NoneYet s k) (hb : longs[k].isPrefixOf s.data.toList = false) : NoneYet s (k + 1) := by
  intro p hp
  rw [List.take_succ_eq_append_getElem hk, List.mem_append] at hp
  rcases hp with hp | hp
  · exact h p hp
  · obtain rfl : p = longs[k] := by simpa using hp
    exact hb
set_option maxRecDepth 100000 in
theorem symbolLength_any (s : ByteArray) (w : World) (hp : 0 < s.size) (ht : Tab w) : Calls Tryz.prog 146 #[.string s] w fun e w' => e = .returned (.int .i64 (sym s.data.toList).length) ∧ w = w' := by
  have h0 := ht 0 (by decide)
  have h1 := ht 1 (by decide)
  have h2 := ht 2 (by decide)
  have h3 := ht 3 (by decide)
  have h4 := ht 4 (by decide)
  have h5 := ht 5 (by decide)
  have h6 := ht 6 (by decide)
  change _ = some (Value.string ⟨#[62, 62, 62]⟩) at h0
  change _ = some (Value.string ⟨#[60, 60]⟩) at h1
  change _ = some (Value.string ⟨#[62, 62]⟩) at h2
  change _ = some (Value.string ⟨#[60, 61]⟩) at h3
  change _ = some (Value.string ⟨#[62, 61]⟩) at h4
  change _ = some (Value.string ⟨#[61, 61]⟩) at h5
  change _ = some (Value.string ⟨#[33, 61]⟩) at h6
  clear ht
  obtain ⟨x, hx⟩ : ∃ x, Lib.indexByte ones s[0] = x := ⟨_, rfl⟩
  have HI : Hid (∀ w, Calls Tryz.prog 143 #[.string ⟨#[43, 45, 42, 47, 37, 38, 124, 94, 126, 33, 60, 62, 61, 63, 58, 59, 44, 40, 41, 123, 125, 91, 93]⟩, .int .u8 s[0].toNat] w fun e w' => e = .returned (.int .i64 x) ∧ w = w') := by
    rw [← hx]
    intro w
    have := indexByte_any ⟨#[43, 45, 42, 47, 37, 38, 124, 94, 126, 33, 60, 62, 61, 63, 58, 59, 44, 40, 41, 123, 125, 91, 93]⟩ (s[0].toNat : Int) w
    rw [Lib.byte_back] at this
    exact this
  have HX := Lib.hid hx
  clear hx
  have HY : Hid (∀ b, decide (0 ≤ x) = b → NoneYet s 7 → (sym s.data.toList).length = if b then 1 else 0) := Lib.hid (by
    intro b hb hno
    have hf := find_no _ hno
    have e := drop_cons s 0 hp
    rw [List.drop_zero] at e
    rw [e] at hf ⊢
    rw [sym_none _ _ hf, ← index_contains, HX.out, hb]
    cases b <;> rfl)
  clear HX
  have i0 : ∀ w, (Instr.index 165 (.agg #[.string ⟨#[62, 62, 62]⟩, .string ⟨#[60, 60]⟩, .string ⟨#[62, 62]⟩, .string ⟨#[60, 61]⟩, .string ⟨#[62, 61]⟩, .string ⟨#[61, 61]⟩, .string ⟨#[33, 61]⟩]) (.int .i64 0)).run Tryz.prog w = .ok (.string ⟨#[62, 62, 62]⟩) w := fun _ => by kernel_rfl
  have i1 : ∀ w, (Instr.index 165 (.agg #[.string ⟨#[62, 62, 62]⟩, .string ⟨#[60, 60]⟩, .string ⟨#[62, 62]⟩, .string ⟨#[60, 61]⟩, .string ⟨#[62, 61]⟩, .string ⟨#[61, 61]⟩, .string ⟨#[33, 61]⟩]) (.int .i64 1)).run Tryz.prog w = .ok (.string ⟨#[60, 60]⟩) w := fun _ => by kernel_rfl
  have i2 : ∀ w, (Instr.index 165 (.agg #[.string ⟨#[62, 62, 62]⟩, .string ⟨#[60, 60]⟩, .string ⟨#[62, 62]⟩, .string ⟨#[60, 61]⟩, .string ⟨#[62, 61]⟩, .string ⟨#[61, 61]⟩, .string ⟨#[33, 61]⟩]) (.int .i64 2)).run Tryz.prog w = .ok (.string ⟨#[62, 62]⟩) w := fun _ => by kernel_rfl
  have i3 : ∀ w, (Instr.index 165 (.agg #[.string ⟨#[62, 62, 62]⟩, .string ⟨#[60, 60]⟩, .string ⟨#[62, 62]⟩, .string ⟨#[60, 61]⟩, .string ⟨#[62, 61]⟩, .string ⟨#[61, 61]⟩, .string ⟨#[33, 61]⟩]) (.int .i64 3)).run Tryz.prog w = .ok (.string ⟨#[60, 61]⟩) w := fun _ => by kernel_rfl
  have i4 : ∀ w, (Instr.index 165 (.agg #[.string ⟨#[62, 62, 62]⟩, .string ⟨#[60, 60]⟩, .string ⟨#[62, 62]⟩, .string ⟨#[60, 61]⟩, .string ⟨#[62, 61]⟩, .string ⟨#[61, 61]⟩, .string ⟨#[33, 61]⟩]) (.int .i64 4)).run Tryz.prog w = .ok (.string ⟨#[62, 61]⟩) w := fun _ => by kernel_rfl
  have i5 : ∀ w, (Instr.index 165 (.agg #[.string ⟨#[62, 62, 62]⟩, .string ⟨#[60, 60]⟩, .string ⟨#[62, 62]⟩, .string ⟨#[60, 61]⟩, .string ⟨#[62, 61]⟩, .string ⟨#[61, 61]⟩, .string ⟨#[33, 61]⟩]) (.int .i64 5)).run Tryz.prog w = .ok (.string ⟨#[61, 61]⟩) w := fun _ => by kernel_rfl
  have i6 : ∀ w, (Instr.index 165 (.agg #[.string ⟨#[62, 62, 62]⟩, .string ⟨#[60, 60]⟩, .string ⟨#[62, 62]⟩, .string ⟨#[60, 61]⟩, .string ⟨#[62, 61]⟩, .string ⟨#[61, 61]⟩, .string ⟨#[33, 61]⟩]) (.int .i64 6)).run Tryz.prog w = .ok (.string ⟨#[33, 61]⟩) w := fun _ => by kernel_rfl
  go_enter Tryz.func146, Tryz.ntmps146
  go_wp2_with fail
  go_loop [6] (fun i => ∃ k : Nat, k ≤ 7 ∧ i = .int .i64 k ∧ Hid (NoneYet s k)) (fun i => 7 - (intOf i).toNat)
  case atStart => exact ⟨0, by omega, rfl, Lib.hid (fun p hp => by cases hp)⟩
  case round =>
    obtain ⟨k, hk, rfl, HN⟩ := hrel
    have cs : k = 0 ∨ k = 1 ∨ k = 2 ∨ k = 3 ∨ k = 4 ∨ k = 5 ∨ k = 6 ∨ k = 7 := by omega
    clear hk
    rcases cs with rfl | rfl | rfl | rfl | rfl | rfl | rfl | rfl
    · obtain ⟨b, hb⟩ : ∃ b, longs[0].isPrefixOf s.data.toList = b := ⟨_, rfl⟩
      have HB := Lib.hid hb
      have HP : Hid (∀ w, Calls Tryz.prog 153 #[.string s, .string ⟨#[62, 62, 62]⟩] w fun e w' => e = .returned (.bool b) ∧ w = w') := by
        rw [← hb]
        exact fun w => hasPrefix_any s ⟨#[62, 62, 62]⟩ w
      clear hb
      cases b
      · go_wp2_with (go_at_call 153; refine (HP.out _).mono ?_; rintro e w' ⟨rfl, rfl⟩)
        exact ⟨⟨0 + 1, by omega, rfl, Lib.hid (noneYet_succ s 0 (by decide) HN.out HB.out)⟩, by simp [intOf]⟩
      · have HL := Lib.hid (find_at s.data.toList 0 (by decide) HN.out HB.out)
        go_wp2_with (go_at_call 153; refine (HP.out _).mono ?_; rintro e w' ⟨rfl, rfl⟩)
        go_ret
        exact ⟨by rw [HL.out]; rfl, rfl⟩
    · obtain ⟨b, hb⟩ : ∃ b, longs[1].isPrefixOf s.data.toList = b := ⟨_, rfl⟩
      have HB := Lib.hid hb
      have HP : Hid (∀ w, Calls Tryz.prog 153 #[.string s, .string ⟨#[60, 60]⟩] w fun e w' => e = .returned (.bool b) ∧ w = w') := by
        rw [← hb]
        exact fun w => hasPrefix_any s ⟨#[60, 60]⟩ w
      clear hb
      cases b
      · go_wp2_with (go_at_call 153; refine (HP.out _).mono ?_; rintro e w' ⟨rfl, rfl⟩)
        exact ⟨⟨1 + 1, by omega, rfl, Lib.hid (noneYet_succ s 1 (by decide) HN.out HB.out)⟩, by simp [intOf]⟩
      · have HL := Lib.hid (find_at s.data.toList 1 (by decide) HN.out HB.out)
        go_wp2_with (go_at_call 153; refine (HP.out _).mono ?_; rintro e w' ⟨rfl, rfl⟩)
        go_ret
        exact ⟨by rw [HL.out]; rfl, rfl⟩
    · obtain ⟨b, hb⟩ : ∃ b, longs[2].isPrefixOf s.data.toList = b := ⟨_, rfl⟩
      have HB := Lib.hid hb
      have HP : Hid (∀ w, Calls Tryz.prog 153 #[.string s, .string ⟨#[62, 62]⟩] w fun e w' => e = .returned (.bool b) ∧ w = w') := by
        rw [← hb]
        exact fun w => hasPrefix_any s ⟨#[62, 62]⟩ w
      clear hb
      cases b
      · go_wp2_with (go_at_call 153; refine (HP.out _).mono ?_; rintro e w' ⟨rfl, rfl⟩)
        exact ⟨⟨2 + 1, by omega, rfl, Lib.hid (noneYet_succ s 2 (by decide) HN.out HB.out)⟩, by simp [intOf]⟩
      · have HL := Lib.hid (find_at s.data.toList 2 (by decide) HN.out HB.out)
        go_wp2_with (go_at_call 153; refine (HP.out _).mono ?_; rintro e w' ⟨rfl, rfl⟩)
        go_ret
        exact ⟨by rw [HL.out]; rfl, rfl⟩
    · obtain ⟨b, hb⟩ : ∃ b, longs[3].isPrefixOf s.data.toList = b := ⟨_, rfl⟩
      have HB := Lib.hid hb
      have HP : Hid (∀ w, Calls Tryz.prog 153 #[.string s, .string ⟨#[60, 61]⟩] w fun e w' => e = .returned (.bool b) ∧ w = w') := by
        rw [← hb]
        exact fun w => hasPrefix_any s ⟨#[60, 61]⟩ w
      clear hb
      cases b
      · go_wp2_with (go_at_call 153; refine (HP.out _).mono ?_; rintro e w' ⟨rfl, rfl⟩)
        exact ⟨⟨3 + 1, by omega, rfl, Lib.hid (noneYet_succ s 3 (by decide) HN.out HB.out)⟩, by simp [intOf]⟩
      · have HL := Lib.hid (find_at s.data.toList 3 (by decide) HN.out HB.out)
        go_wp2_with (go_at_call 153; refine (HP.out _).mono ?_; rintro e w' ⟨rfl, rfl⟩)
        go_ret
        exact ⟨by rw [HL.out]; rfl, rfl⟩
    · obtain ⟨b, hb⟩ : ∃ b, longs[4].isPrefixOf s.data.toList = b := ⟨_, rfl⟩
      have HB := Lib.hid hb
      have HP : Hid (∀ w, Calls Tryz.prog 153 #[.string s, .string ⟨#[62, 61]⟩] w fun e w' => e = .returned (.bool b) ∧ w = w') := by
        rw [← hb]
        exact fun w => hasPrefix_any s ⟨#[62, 61]⟩ w
      clear hb
      cases b
      · go_wp2_with (go_at_call 153; refine (HP.out _).mono ?_; rintro e w' ⟨rfl, rfl⟩)
        exact ⟨⟨4 + 1, by omega, rfl, Lib.hid (noneYet_succ s 4 (by decide) HN.out HB.out)⟩, by simp [intOf]⟩
      · have HL := Lib.hid (find_at s.data.toList 4 (by decide) HN.out HB.out)
        go_wp2_with (go_at_call 153; refine (HP.out _).mono ?_; rintro e w' ⟨rfl, rfl⟩)
        go_ret
        exact ⟨by rw [HL.out]; rfl, rfl⟩
    · obtain ⟨b, hb⟩ : ∃ b, longs[5].isPrefixOf s.data.toList = b := ⟨_, rfl⟩
      have HB := Lib.hid hb
      have HP : Hid (∀ w, Calls Tryz.prog 153 #[.string s, .string ⟨#[61, 61]⟩] w fun e w' => e = .returned (.bool b) ∧ w = w') := by
        rw [← hb]
        exact fun w => hasPrefix_any s ⟨#[61, 61]⟩ w
      clear hb
      cases b
      · go_wp2_with (go_at_call 153; refine (HP.out _).mono ?_; rintro e w' ⟨rfl, rfl⟩)
        exact ⟨⟨5 + 1, by omega, rfl, Lib.hid (noneYet_succ s 5 (by decide) HN.out HB.out)⟩, by simp [intOf]⟩
      · have HL := Lib.hid (find_at s.data.toList 5 (by decide) HN.out HB.out)
        go_wp2_with (go_at_call 153; refine (HP.out _).mono ?_; rintro e w' ⟨rfl, rfl⟩)
        go_ret
        exact ⟨by rw [HL.out]; rfl, rfl⟩
    · obtain ⟨b, hb⟩ : ∃ b, longs[6].isPrefixOf s.data.toList = b := ⟨_, rfl⟩
      have HB := Lib.hid hb
      have HP : Hid (∀ w, Calls Tryz.prog 153 #[.string s, .string ⟨#[33, 61]⟩] w fun e w' => e = .returned (.bool b) ∧ w = w') := by
        rw [← hb]
        exact fun w => hasPrefix_any s ⟨#[33, 61]⟩ w
      clear hb
      cases b
      · go_wp2_with (go_at_call 153; refine (HP.out _).mono ?_; rintro e w' ⟨rfl, rfl⟩)
        exact ⟨⟨6 + 1, by omega, rfl, Lib.hid (noneYet_succ s 6 (by decide) HN.out HB.out)⟩, by simp [intOf]⟩
      · have HL := Lib.hid (find_at s.data.toList 6 (by decide) HN.out HB.out)
        go_wp2_with (go_at_call 153; refine (HP.out _).mono ?_; rintro e w' ⟨rfl, rfl⟩)
        go_ret
        exact ⟨by rw [HL.out]; rfl, rfl⟩
    · obtain ⟨b, hb⟩ : ∃ b, decide (0 ≤ x) = b := ⟨_, rfl⟩
      have HL := Lib.hid (HY.out b hb HN.out)
      cases b
      · go_wp2_with (go_at_call 143; refine (HI.out _).mono ?_; rintro e w' ⟨rfl, rfl⟩)
        go_ret
        exact ⟨by rw [HL.out]; rfl, rfl⟩
      · go_wp2_with (go_at_call 143; refine (HI.out _).mono ?_; rintro e w' ⟨rfl, rfl⟩)
        go_ret
        exact ⟨by rw [HL.out]; rfl, rfl⟩
end Go.Proofs.YtcjolamfjgdgjaaGreatDoor
