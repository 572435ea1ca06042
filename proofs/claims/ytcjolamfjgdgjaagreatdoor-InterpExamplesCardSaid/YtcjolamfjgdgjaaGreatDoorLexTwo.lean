/-
  lexer.scanSymbol and lexer.scanToken: the walks.
-/
import Derived.Test.YtcjolamfjgdgjaaGreatDoorLexTok
namespace Go.Proofs.YtcjolamfjgdgjaaGreatDoor
open Go.RowKit (wrap32 wrap64)
open Go.RowKit
set_option maxHeartbeats 400000

theorem sym_prefix (l : List UInt8) : sym l <+: l := by
  unfold sym
  split
  · rename_i p hp
    have := List.find?_some hp
    exact List.isPrefixOf_iff_prefix.1 this
  · split
    · exact List.nil_prefix
    · rename_i c r _
      show (if ones.contains c then [c] else []) <+: c :: r
      split
      · exact ⟨r, rfl⟩
      · exact List.nil_prefix
theorem tokText_sym (s : ByteArray) (k : Nat) (h : k < s.size) (hw : isWrd s[k] = false) : tokText (s.data.toList.drop k) = sym (s.data.toList.drop k) := by
  rw [drop_cons s k h]
  unfold tokText
  simp [hw]
set_option maxRecDepth 100000 in
theorem scanSymbol_any (s : ByteArray) (k : Nat) (w : World) (hk : k < s.size) (hs : s.size ≤ maxLen) (hw : isWrd s[k] = false) (ht : Tab w) : Calls Tryz.prog 133 #[.string s, .int .i64 k] w (TokPost s k w) := by
  have hd : isDig s[k] = false := by unfold isWrd at hw; rw [Bool.or_eq_false_iff] at hw; exact hw.2
  have hl : isLet s[k] = false := by unfold isWrd at hw; rw [Bool.or_eq_false_iff] at hw; exact hw.1
  have hT := tokText_sym s k hk hw
  have hK : headKind (s.data.toList.drop k) = 3 := by rw [headKind_at s k hk, hd, hl]; rfl
  obtain ⟨n, hn⟩ : ∃ n, (sym (s.data.toList.drop k)).length = n := ⟨_, rfl⟩
  have hle : k + n ≤ s.size := by
    have := (sym_prefix (s.data.toList.drop k)).length_le
    rw [List.length_drop, size_len] at this
    omega
  have hW : tokWhy (s.data.toList.drop k) = if n = 0 then 2 else 0 := by
    unfold tokWhy textWhy
    rw [hK, if_neg (by decide), if_neg (by decide), hT, ← hn]
    cases sym (s.data.toList.drop k) <;> simp
  have hP : Hid (∀ w, Tab w → Calls Tryz.prog 146 #[.string (s.extract k s.size)] w fun e w' => e = .returned (.int .i64 n) ∧ w = w') := by
    intro w ht
    have hp : 0 < (s.extract k s.size).size := by rw [← size_len, Lib.extract_to_end, List.length_drop, size_len]; omega
    have := symbolLength_any (s.extract k s.size) w hp ht
    rw [Lib.extract_to_end, hn] at this
    exact this
  have hX : s.extract k (k + n) = ⟨(tokText (s.data.toList.drop k)).toArray⟩ := by
    apply bytes_ext
    rw [Lib.extract_data, hT, Nat.add_sub_cancel_left, ← hn]
    exact (List.prefix_iff_eq_take.1 (sym_prefix _)).symm
  have HK := Lib.hid hK
  have HW := Lib.hid hW
  have HX := Lib.hid hX
  have HT := Lib.hid ht
  clear hT hK hW hX hn hd hl hw ht
  have HTA : Hid (∀ o, Tab (w.alloc o)) := fun o => HT.out.keep ((Bel.refl _).alloc o)
  unfold maxLen at hs
  by_cases h0 : n = 0
  · subst h0
    go_enter Tryz.func133, Tryz.ntmps133
    go_wp2_with (go_at_call 146; refine (hP.out _ (HTA.out _)).mono ?_; rintro e w' ⟨rfl, rfl⟩)
    (try simp only [Exit.inBlock, Exit.then])
    refine bodyPost_ret (v := .tuple #[.agg #[.int .i64 0, .string ⟨#[]⟩, .int .i64 0], .int .i64 2]) ?_ rfl ⟨?_, ?_⟩
    · rw [results_cell_tmp rfl]
      go_simp
    · have e : tokWhy (s.data.toList.drop k) = 2 := by rw [HW.out]; simp
      unfold tokVal
      rw [e]
      rfl
    · exact ((Bel.refl _).alloc _)
  · have t1 : ((n : Int) == 0) = false := by rw [beq_eq_false_iff_ne]; omega
    have H0 := Lib.hid h0
    obtain ⟨m, hm⟩ : ∃ m, k + n = m := ⟨_, rfl⟩
    have hkm : (k : Int) + (n : Int) = (m : Int) := by omega
    have hk1 : k ≤ m := by omega
    have hk2 : m ≤ s.size := by omega
    rw [hm] at HX
    clear h0 hm hle
    go_enter Tryz.func133, Tryz.ntmps133
    go_wp2_with (go_at_call 146; refine (hP.out _ (HTA.out _)).mono ?_; rintro e w' ⟨rfl, rfl⟩)
    (try simp only [Exit.inBlock, Exit.then])
    refine bodyPost_ret (v := .tuple #[.agg #[.int .i64 3, .string (s.extract k m), .int .i64 k], .int .i64 0]) ?_ rfl ⟨?_, ?_⟩
    · rw [results_cell_tmp rfl]
      go_simp
    · have e : tokWhy (s.data.toList.drop k) = 0 := by rw [HW.out, if_neg H0.out]
      unfold tokVal
      rw [e, HX.out, HK.out]
      rfl
    · exact ((Bel.refl _).alloc _)
/-- The three cells of a block that was made last ahead of a quiet call stand as they were laid. -/
theorem token_cell {w w1 : World} {a b c : Value} {t : TypeId} (hb : Bel (w.alloc (.cells #[a, b, c] t)) w1) :
    w1.cell? ⟨w.heap.size, 0, none⟩ = some a ∧ w1.cell? ⟨w.heap.size, 1, none⟩ = some b ∧ w1.cell? ⟨w.heap.size, 2, none⟩ = some c ∧
    w1.frozen? ⟨w.heap.size, 0, none⟩ = false ∧ w1.frozen? ⟨w.heap.size, 1, none⟩ = false ∧ w1.frozen? ⟨w.heap.size, 2, none⟩ = false := by
  have hlt : w.heap.size < (w.alloc (.cells #[a, b, c] t)).heap.size := by simp
  refine ⟨?_, ?_, ?_, ?_, ?_, ?_⟩
  · rw [Below.cell hb (p := ⟨w.heap.size, 0, none⟩) hlt]; simp
  · rw [Below.cell hb (p := ⟨w.heap.size, 1, none⟩) hlt]; simp
  · rw [Below.cell hb (p := ⟨w.heap.size, 2, none⟩) hlt]; simp
  · rw [Below.frozen hb (p := ⟨w.heap.size, 0, none⟩) hlt]; simp
  · rw [Below.frozen hb (p := ⟨w.heap.size, 1, none⟩) hlt]; simp
  · rw [Below.frozen hb (p := ⟨w.heap.size, 2, none⟩) hlt]; simp
theorem token_end {w w1 : World} {o : Obj} (hb : Bel (w.alloc o) w1) (a b c : Value) :
    Bel w (((w1.setCell ⟨w.heap.size, 0, none⟩ a).setCell ⟨w.heap.size, 1, none⟩ b).setCell ⟨w.heap.size, 2, none⟩ c) :=
  Below.setCell (Below.setCell (Below.setCell (((Bel.refl w).alloc o).trans hb) (p := ⟨w.heap.size, 0, none⟩) (Nat.le_refl _) a) (p := ⟨w.heap.size, 1, none⟩) (Nat.le_refl _) b) (p := ⟨w.heap.size, 2, none⟩) (Nat.le_refl _) c
set_option maxRecDepth 100000 in
theorem scanToken_any (s : ByteArray) (k : Nat) (w : World) (hk : k < s.size) (hs : s.size ≤ maxLen) (ht : Tab w) : Calls Tryz.prog 122 #[.string s, .int .i64 k] w (TokPost s k w) := by
  obtain ⟨d, hd⟩ : ∃ d, isDig s[k] = d := ⟨_, rfl⟩
  obtain ⟨x, hx⟩ : ∃ x, isWrd s[k] = x := ⟨_, rfl⟩
  have HD : Hid (∀ w, Calls Tryz.prog 129 #[.int .u8 s[k].toNat] w fun e w' => e = .returned (.bool d) ∧ w = w') := by
    rw [← hd]
    exact isDigit_any _
  have HX : Hid (∀ w, Calls Tryz.prog 131 #[.int .u8 s[k].toNat] w fun e w' => e = .returned (.bool x) ∧ w = w') := by
    rw [← hx]
    exact isWordByte_any _
  have HTA : Hid (∀ o, Tab (w.alloc o)) := fun o => ht.keep ((Bel.refl _).alloc o)
  obtain ⟨v, hv⟩ : ∃ v, tokVal (s.data.toList.drop k) k = v := ⟨_, rfl⟩
  obtain ⟨y, hy⟩ : ∃ y, tokWhy (s.data.toList.drop k) = y := ⟨_, rfl⟩
  obtain ⟨x0, x1, x2, hagg⟩ : ∃ x0 x1 x2, v = .agg #[.int .i64 x0, .string x1, .int .i64 x2] := by
    rw [← hv]
    unfold tokVal
    split <;> exact ⟨_, _, _, rfl⟩
  subst hagg
  have e : TokPost s k = fun w e w' => e = .returned (.tuple #[.agg #[.int .i64 x0, .string x1, .int .i64 x2], .int .i64 y]) ∧ Bel w w' := by
    funext w e w'
    unfold TokPost
    rw [hv, hy]
  have HN : d = true → Hid (∀ w, Calls Tryz.prog 130 #[.string s, .int .i64 k] w (TokPost s k w)) := fun h w => scanNumber_any s k w hk hs (by rw [hd, h])
  have HM : d = false → x = true → Hid (∀ w, Calls Tryz.prog 132 #[.string s, .int .i64 k] w (TokPost s k w)) := fun h h2 w => scanName_any s k w hk hs (by rw [hd, h]) (by
    have h3 : isWrd s[k] = true := by rw [hx, h2]
    unfold isWrd at h3
    rw [hd, h, Bool.or_false] at h3
    exact h3)
  have HS : x = false → Hid (∀ w, Tab w → Calls Tryz.prog 133 #[.string s, .int .i64 k] w (TokPost s k w)) := fun h w ht => scanSymbol_any s k w hk hs (by rw [hx, h]) ht
  rw [e] at HN HM HS ⊢
  clear hd hx hv hy e ht
  unfold maxLen at hs
  cases d
  · cases x
    · have HC := HS rfl
      clear HN HM HS
      go_enter Tryz.func122, Tryz.ntmps122
      go_wp2_with (first | (go_at_call 129; refine (HD.out _).mono ?_; rintro e w' ⟨rfl, rfl⟩) | (go_at_call 131; refine (HX.out _).mono ?_; rintro e w' ⟨rfl, rfl⟩) | fail)
      refine (HC.out _ (HTA.out _)).mono ?_
      rintro e w1 ⟨rfl, hb⟩
      have hc := token_cell hb
      have HB := Lib.hid hb
      clear hb
      obtain ⟨c0, c1, c2, f0, f1, f2⟩ := hc
      go_wp2_with fail
      (try simp only [Exit.inBlock, Exit.then])
      refine bodyPost_ret (v := .tuple #[.agg #[.int .i64 x0, .string x1, .int .i64 x2], .int .i64 y]) ?_ rfl ⟨rfl, token_end HB.out _ _ _⟩
      rw [results_cell_tmp rfl]
      go_simp
    · have HC := HM rfl rfl
      clear HN HM HS
      go_enter Tryz.func122, Tryz.ntmps122
      go_wp2_with (first | (go_at_call 129; refine (HD.out _).mono ?_; rintro e w' ⟨rfl, rfl⟩) | (go_at_call 131; refine (HX.out _).mono ?_; rintro e w' ⟨rfl, rfl⟩) | fail)
      refine (HC.out _).mono ?_
      rintro e w1 ⟨rfl, hb⟩
      have hc := token_cell hb
      have HB := Lib.hid hb
      clear hb
      obtain ⟨c0, c1, c2, f0, f1, f2⟩ := hc
      go_wp2_with fail
      (try simp only [Exit.inBlock, Exit.then])
      refine bodyPost_ret (v := .tuple #[.agg #[.int .i64 x0, .string x1, .int .i64 x2], .int .i64 y]) ?_ rfl ⟨rfl, token_end HB.out _ _ _⟩
      rw [results_cell_tmp rfl]
      go_simp
  · have HC := HN rfl
    clear HN HM HS
    go_enter Tryz.func122, Tryz.ntmps122
    go_wp2_with (first | (go_at_call 129; refine (HD.out _).mono ?_; rintro e w' ⟨rfl, rfl⟩) | fail)
    refine (HC.out _).mono ?_
    rintro e w1 ⟨rfl, hb⟩
    have hc := token_cell hb
    have HB := Lib.hid hb
    clear hb
    obtain ⟨c0, c1, c2, f0, f1, f2⟩ := hc
    go_wp2_with fail
    (try simp only [Exit.inBlock, Exit.then])
    refine bodyPost_ret (v := .tuple #[.agg #[.int .i64 x0, .string x1, .int .i64 x2], .int .i64 y]) ?_ rfl ⟨rfl, token_end HB.out _ _ _⟩
    rw [results_cell_tmp rfl]
    go_simp
end Go.Proofs.YtcjolamfjgdgjaaGreatDoor
