/-
  The reference's Scan: the walk. It answers as the plain scanner does.
-/
import Derived.Test.YtcjolamfjgdgjaaGreatDoorRSym
namespace Go.Proofs.YtcjolamfjgdgjaaGreatDoor
open Go.RowKit (wrap32 wrap64)
open Go.RowKit
set_option maxHeartbeats 1000000

theorem news2 (W : World) (a b c : Value) (t : TypeId) : ∀ (j : Nat) (u : Value), [a, b, c][j]? = some u → (W.alloc (.cells #[a, b, c] t)).cell? ((⟨W.heap.size, 0, none⟩ : Addr).add j) = some u := by
  intro j u hj
  refine World.news_of_block (B := W.heap.size) (cs := #[a, b, c]) (t := t) (fr := (0, 0)) ?_ j u hj
  show (W.heap.push _)[W.heap.size]? = _
  rw [Array.getElem?_push_size]
theorem news2' (W : World) (n : Nat) (hn : n = W.heap.size) (a b c : Value) (t : TypeId) : ∀ (j : Nat) (u : Value), [a, b, c][j]? = some u → (W.alloc (.cells #[a, b, c] t)).cell? ((⟨n, 0, none⟩ : Addr).add j) = some u := by
  subst hn
  exact news2 W a b c t
theorem own_set_ne {w : World} {b e sz n : Nat} {v : Value} {xs : List Value} (h : w.ownsRow b e sz v n xs) (p : Addr) (u : Value) (hp : some p.block ≠ v.ownBlock) : (w.setCell p u).ownsRow b e sz v n xs := by
  obtain ⟨h1, h2⟩ := h
  refine ⟨h1, ?_⟩
  rcases h2 with h2 | ⟨g, cap, cur, hv, hg, hh, h3⟩
  · exact Or.inl h2
  · refine Or.inr ⟨g, cap, cur, hv, hg, ?_, h3⟩
    have hne : g ≠ p.block := by
      intro he
      apply hp
      rw [hv, ← he]
      rfl
    rw [Below.heap_setCell _ _ _ _ hne]
    exact hh
theorem far_cell {w : World} {p a : Addr} (u : Value) (h : p.block ≠ a.block) : (w.setCell p u).cell? a = w.cell? a := World.cell?_of_block (w := w) (Below.heap_setCell w p u a.block (fun e => h e.symm))
theorem tok_behind2 {W w1 w2 : World} {v : Value} {b e sz n T : Nat} {xs : List Value} {y : Value} {o : Obj} (h : w1.ownsRow b e sz v n xs) (hT : w1.heap.size ≤ T) (hTW : T < W.heap.size) (hc : W.cell? ⟨T, 1, none⟩ = some y) (hg : (W.alloc o).grownBy w2 v.ownBlock) : w2.cell? ⟨T, 1, none⟩ = some y := by
  rw [hg.cell_far ⟨T, 1, none⟩ (by simp; omega) (own_ne h _ (Or.inr hT))]
  rw [← hc]
  exact Below.cell ((Bel.refl W).alloc o) hTW
theorem bel_behind2 {w0 W w2 : World} {v : Value} {b e sz n : Nat} {xs : List Value} {o' : Obj} (hb : Bel w0 W) (h : W.ownsRow b e sz v n xs) (hB : w0.heap.size ≤ b) (hg : (W.alloc o').grownBy w2 v.ownBlock) : Bel w0 w2 := by
  refine Below.grown (hb.alloc o') hg ?_ ?_
  · have := hb.size
    simp
    omega
  · intro g he
    have := own_block h g he
    omega
theorem numOk_numT (l : List UInt8) : numOk l 9223372036854775808 = numT l := by
  unfold numOk numT
  congr 1
  rw [decide_eq_decide]
  omega
theorem rest_sp {s : ByteArray} {k : Nat} (h : k < s.size) (hs : isSp s[k] = true) : rest false (s.data.toList.drop k) = rest false (s.data.toList.drop (k + 1)) := by
  rw [drop_cons s k h, rest, if_pos hs]
theorem scan_skip {n k j : Nat} {L : List UInt8} {ts : List Tok} (hR : scanAt n L = Out.pre ts (scanAt n (L.drop k))) (h : rest false (L.drop k) = rest false (L.drop j)) : scanAt n L = Out.pre ts (scanAt n (L.drop j)) := by
  rw [hR, scanAt_rest n (L.drop k), h, ← scanAt_rest n (L.drop j)]
theorem fresh_at {s : ByteArray} {k : Nat} (h : k < s.size) (hs : isSp s[k] = false) (h35 : s[k].toNat ≠ 35) : rest false (s.data.toList.drop k) = s.data.toList.drop k := by
  rw [drop_cons s k h]
  exact fresh_of _ hs h35
theorem rest_eol {s : ByteArray} {k : Nat} (h : k < s.size) (h10 : s[k].toNat ≠ 10) : rest true (s.data.toList.drop k) = rest true (s.data.toList.drop (k + 1)) := by
  rw [drop_cons s k h, rest, if_neg h10]
theorem rest_lf {s : ByteArray} {k : Nat} (h : k < s.size) (h10 : s[k].toNat = 10) : rest true (s.data.toList.drop k) = rest false (s.data.toList.drop k) := by
  rw [drop_cons s k h, rest, if_pos h10, rest, if_pos (by unfold isSp; simp [h10])]
theorem scan_step2 {n k m : Nat} {L : List UInt8} {ts : List Tok} (hn : L.length = n) (hk : k ≤ n) (hne : L.drop k ≠ []) (hw : tokWhy (L.drop k) = 0) (hF : rest false (L.drop k) = L.drop k) (hR : scanAt n L = Out.pre ts (scanAt n (L.drop k)))
    (hm : k + (tokText (L.drop k)).length = m) : scanAt n L = Out.pre (ts ++ [⟨headKind (L.drop k), tokText (L.drop k), k⟩]) (scanAt n (L.drop m)) := by
  rw [hR, scanAt_ok hF hne hw, Out.pre_cons, List.drop_drop, hm]
  have : n - (L.drop k).length = k := by rw [List.length_drop]; omega
  rw [this]
theorem scan_stop {n k : Nat} {L : List UInt8} {ts : List Tok} (hn : L.length = n) (hk : k ≤ n) (hne : L.drop k ≠ []) (hw : tokWhy (L.drop k) ≠ 0) (hF : rest false (L.drop k) = L.drop k) (hR : scanAt n L = Out.pre ts (scanAt n (L.drop k))) : scanAt n L = .err (tokWhy (L.drop k)) k := by
  rw [hR, scanAt_err hF hne hw]
  have : n - (L.drop k).length = k := by rw [List.length_drop]; omega
  rw [this]
  rfl
theorem let_not_dig {c : UInt8} (h : isLet c = true) : isDig c = false := by
  unfold isLet at h
  unfold isDig
  simp only [Bool.or_eq_true, Bool.and_eq_true, decide_eq_true_eq, beq_iff_eq] at h
  rw [Bool.and_eq_false_iff]
  simp only [decide_eq_false_iff_not]
  omega
theorem word_more {s : ByteArray} {k j : Nat} (hkj : k ≤ j) (hlt : j < s.size) (H : wrdAt s k = (s.data.toList.drop k).take (j - k) ++ (s.data.toList.drop j).takeWhile isWrd) (hw : isWrd s[j] = true) :
    wrdAt s k = (s.data.toList.drop k).take (j + 1 - k) ++ (s.data.toList.drop (j + 1)).takeWhile isWrd := by
  rw [H, drop_cons s j hlt, List.takeWhile_cons, hw, if_pos rfl]
  rw [show j + 1 - k = (j - k) + 1 by omega, List.take_succ_eq_append_getElem (by simp; omega), List.append_assoc]
  congr 1
  show _ = [_] ++ _
  congr 1
  simp [Nat.add_sub_cancel' hkj]
  rfl
theorem word_end {s : ByteArray} {k j : Nat} (_hkj : k ≤ j) (_hj : j ≤ s.size) (H : wrdAt s k = (s.data.toList.drop k).take (j - k) ++ (s.data.toList.drop j).takeWhile isWrd)
    (hend : (∃ h : j < s.size, isLet s[j] = false ∧ isDig s[j] = false) ∨ j = s.size) : s.extract k j = ⟨(wrdAt s k).toArray⟩ := by
  apply bytes_ext
  rw [Lib.extract_data, H]
  rcases hend with ⟨h, h1, h2⟩ | rfl
  · rw [drop_cons s j h, List.takeWhile_cons]
    have : isWrd s[j] = false := by unfold isWrd; rw [h1, h2]; rfl
    rw [this]
    simp
  · rw [drop_end]
    simp
theorem word_pos {s : ByteArray} {k j : Nat} (hlt : k < s.size) (hkj : k ≤ j) (hw : isWrd s[k] = true) (hend : (∃ h : j < s.size, isLet s[j] = false ∧ isDig s[j] = false) ∨ j = s.size) : k < j := by
  rcases hend with ⟨h, h1, h2⟩ | rfl
  · rcases Nat.lt_or_ge k j with h3 | h3
    · exact h3
    · obtain rfl : k = j := by omega
      unfold isWrd at hw
      rw [h1, h2] at hw
      cases hw
  · exact hlt
set_option maxRecDepth 100000 in
theorem refScan_long (s : ByteArray) (w : World) (_hs : s.size ≤ maxLen) (h : 20000 < s.size) : Calls Tryz.prog 22 #[.string s] w (ScanPost s w) := by
  have HE : Hid (scanL s.data.toList = .err 6 20000) := Lib.hid (by unfold scanL; rw [if_pos (by rw [size_len]; exact h)])
  rw [scanPost_err HE.out]
  have t1 : decide (20000 < (s.size : Int)) = true := by simp; omega
  unfold maxLen at _hs
  go_enter Tryz.func22, Tryz.ntmps22
  go_wp2_with fail
  (try simp only [Exit.inBlock, Exit.then])
  refine bodyPost_ret (v := .tuple #[.slice none 0 0, .agg #[.int .i64 6, .int .i64 20000]]) ?_ rfl ⟨rfl, ?_⟩
  · rw [results_tmp_cell rfl]
    go_simp
  · exact (Bel.refl w).alloc _
set_option maxRecDepth 100000 in
theorem refScan_short (s : ByteArray) (w : World) (h : s.size ≤ 20000) : Calls Tryz.prog 22 #[.string s] w (ScanPost s w) := by
  have HE : Hid (scanL s.data.toList = scanAt s.size s.data.toList) := Lib.hid (by unfold scanL; rw [if_neg (by rw [size_len]; omega), size_len])
  have t1 : decide (20000 < (s.size : Int)) = false := by simp; omega
  have HS : Hid (s.size ≤ maxLen) := Lib.hid (by unfold maxLen; omega)
  obtain ⟨i0, hi, hz0, hz1, hz2⟩ := info_parts info_tok
  have hbel0 := (Bel.refl w).alloc (Obj.cells #[Value.int .i64 0, Value.int .i64 0] 42)
  go_enter Tryz.func22, Tryz.ntmps22
  go_wp2_with fail
  go_loopw [4, 5] (fun v i wr => ∃ (k : Nat) (ts : List Tok), k ≤ s.size ∧ i = .int .i64 k ∧ Hid (scanAt s.size s.data.toList = Out.pre ts (scanAt s.size (s.data.toList.drop k))) ∧
      Hid (ts.length ≤ k) ∧ Hid (wr.ownsRow (w.heap.size + 1) 96 3 v ts.length (tokCells ts)) ∧ Hid (Bel (w.alloc (Obj.cells #[Value.int .i64 0, Value.int .i64 0] 42)) wr))
    (fun _ i _ => s.size - (intOf i).toNat)
  case atStart => exact ⟨0, [], Nat.zero_le _, rfl, Lib.hid (by rw [Out.pre_nil]; rfl), Nat.zero_le _, World.ownsRow_nil _ _ _ _, Lib.hid (Bel.refl _)⟩
  case round =>
    obtain ⟨k, ts, hk, rfl, HR, HL, HO, HB⟩ := hrel
    by_cases hlt : k < s.size
    · by_cases hsp : isSp s[k] = true
      · have HR2 := Lib.hid (scan_skip HR.out (rest_sp hlt hsp))
        have hcs : ((s[k].toNat : Int) == 32) = true ∨ (((s[k].toNat : Int) == 32) = false ∧ ((s[k].toNat : Int) == 9) = true) ∨ (((s[k].toNat : Int) == 32) = false ∧ ((s[k].toNat : Int) == 9) = false ∧ ((s[k].toNat : Int) == 10) = true) ∨ (((s[k].toNat : Int) == 32) = false ∧ ((s[k].toNat : Int) == 9) = false ∧ ((s[k].toNat : Int) == 10) = false ∧ ((s[k].toNat : Int) == 13) = true) := by
          unfold isSp at hsp
          simp only [Bool.or_eq_true, beq_iff_eq] at hsp
          simp only [beq_iff_eq, beq_eq_false_iff_ne]
          omega
        clear hsp
        rcases hcs with t1 | ⟨t1, t2⟩ | ⟨t1, t2, t3⟩ | ⟨t1, t2, t3, t4⟩
        all_goals
          go_wp2_with fail
          go_roundw
          case rel => exact ⟨k + 1, ts, by omega, by go_num, HR2, Lib.hid (Nat.le_succ_of_le HL.out), HO, HB⟩
          case measure => simp [intOf]; omega
      · have hsp' : isSp s[k] = false := by simpa using hsp
        have hnn : ((s[k].toNat : Int) == 32) = false ∧ ((s[k].toNat : Int) == 9) = false ∧ ((s[k].toNat : Int) == 10) = false ∧ ((s[k].toNat : Int) == 13) = false := by
          unfold isSp at hsp
          simp only [Bool.or_eq_true, beq_iff_eq] at hsp
          simp only [beq_eq_false_iff_ne]
          omega
        obtain ⟨t1, t2, t3, t4⟩ := hnn
        by_cases h35 : s[k].toNat = 35
        · have t5 : ((s[k].toNat : Int) == 35) = true := by rw [beq_iff_eq]; omega
          have hr0 : rest false (s.data.toList.drop k) = rest true (s.data.toList.drop k) := by
            rw [drop_cons s k hlt, rest, rest, if_neg hsp, if_pos h35, if_neg (by omega)]
          have HR0 := Lib.hid hr0
          have H10 : Hid (s[k].toNat ≠ 10) := Lib.hid (by omega)
          clear hr0 hsp hsp' h35
          go_wp2_with fail
          go_loop [5] (fun i => ∃ j : Nat, k ≤ j ∧ j ≤ s.size ∧ i = .int .i64 j ∧ Hid (rest true (s.data.toList.drop k) = rest true (s.data.toList.drop j))) (fun i => s.size - (intOf i).toNat)
          case atStart => exact ⟨k, Nat.le_refl _, hk, rfl, Lib.hid rfl⟩
          case round =>
            obtain ⟨j, hkj, hj, rfl, HJ⟩ := hrel
            by_cases hjl : j < s.size
            · by_cases hj10 : s[j].toNat = 10
              · have b10 : ((s[j].toNat : Int) != 10) = false := by rw [bne_eq_false_iff_eq]; omega
                have b11 : ((s[j].toNat : Int) == 10) = true := by rw [beq_iff_eq]; omega
                have HR2 := Lib.hid (scan_skip HR.out (HR0.out.trans (HJ.out.trans (rest_lf hjl hj10))))
                have hgt : k < j := by
                  rcases Nat.lt_or_ge k j with h | h
                  · exact h
                  · obtain rfl : k = j := by omega
                    exact absurd hj10 H10.out
                clear hj10
                go_wp2_with fail
                go_roundw
                case rel => exact ⟨j, ts, by omega, rfl, HR2, Lib.hid (by have := HL.out; omega), HO, HB⟩
                case measure => simp [intOf]; omega
              · have b10 : ((s[j].toNat : Int) != 10) = true := by rw [bne_iff_ne]; omega
                have b11 : ((s[j].toNat : Int) == 10) = false := by rw [beq_eq_false_iff_ne]; omega
                have HJ2 := Lib.hid (HJ.out.trans (rest_eol hjl hj10))
                clear hj10
                go_wp2_with fail
                exact ⟨⟨j + 1, by omega, by omega, by go_num, HJ2⟩, by simp [intOf]; omega⟩
            · obtain rfl : j = s.size := by omega
              have HR2 := Lib.hid (scan_skip HR.out (HR0.out.trans (HJ.out.trans (show rest true (s.data.toList.drop s.size) = rest false (s.data.toList.drop s.size) by rw [drop_end]; rfl))))
              go_wp2_with fail
              go_roundw
              case rel => exact ⟨s.size, ts, Nat.le_refl _, rfl, HR2, Lib.hid (by have := HL.out; omega), HO, HB⟩
              case measure => simp [intOf]; omega
        · have t5 : ((s[k].toNat : Int) == 35) = false := by rw [beq_eq_false_iff_ne]; omega
          have HF := Lib.hid (fresh_at hlt hsp' h35)
          have HNE : Hid (s.data.toList.drop k ≠ []) := Lib.hid (by rw [drop_cons s k hlt]; simp)
          obtain ⟨x, hx⟩ : ∃ x, isLet s[k] = x := ⟨_, rfl⟩
          obtain ⟨d, hd⟩ : ∃ d, isDig s[k] = d := ⟨_, rfl⟩
          have HPL : Hid (∀ w, Calls Tryz.prog 50 #[.int .u8 s[k].toNat] w fun e w' => e = .returned (.bool x) ∧ w = w') := by
            rw [← hx]
            exact refIsLetter_any _
          have HPD : Hid (∀ w, Calls Tryz.prog 51 #[.int .u8 s[k].toNat] w fun e w' => e = .returned (.bool d) ∧ w = w') := by
            rw [← hd]
            exact refIsDigit_any _
          have HX := Lib.hid hx
          have HD := Lib.hid hd
          have hkind := headKind_at s k hlt
          rw [hx, hd] at hkind
          have HK := Lib.hid hkind
          clear hsp hsp' h35 hx hd hkind
          by_cases hw : x = true ∨ d = true
          · have HWRD : Hid (isWrd s[k] = true) := Lib.hid (by unfold isWrd; rw [HX.out, HD.out]; rcases hw with rfl | rfl <;> simp)
            have HTX := Lib.hid (tokText_wrd s k hlt HWRD.out)
            have hsplit : (x = true ∧ d = false) ∨ (x = false ∧ d = true) := by
              have h := HX.out
              have h2 := HD.out
              cases x
              · exact Or.inr ⟨rfl, by simpa using hw⟩
              · refine Or.inl ⟨rfl, ?_⟩
                rw [← h2]
                exact let_not_dig h
            clear hw
            rcases hsplit with ⟨rfl, rfl⟩ | ⟨rfl, rfl⟩
            · have HK1 := HK
              go_wp2_with (first | (go_at_call 50; refine (HPL.out _).mono ?_; rintro e w' ⟨rfl, rfl⟩) | (go_at_call 51; refine (HPD.out _).mono ?_; rintro e w' ⟨rfl, rfl⟩))
              go_loop [8] (fun i => ∃ j : Nat, k ≤ j ∧ j ≤ s.size ∧ i = .int .i64 j ∧ Hid (wrdAt s k = (s.data.toList.drop k).take (j - k) ++ (s.data.toList.drop j).takeWhile isWrd)) (fun i => s.size - (intOf i).toNat)
              case atStart => exact ⟨k, Nat.le_refl _, hk, rfl, Lib.hid (by rw [Nat.sub_self]; rfl)⟩
              case round =>
                obtain ⟨j, hkj, hj, rfl, HJ⟩ := hrel
                have hcase : (∃ h : j < s.size, isLet s[j] = true) ∨ (∃ h : j < s.size, isLet s[j] = false ∧ isDig s[j] = true) ∨ ((∃ h : j < s.size, isLet s[j] = false ∧ isDig s[j] = false) ∨ j = s.size) := by
                  by_cases h : j < s.size
                  · cases h1 : isLet s[j]
                    · cases h2 : isDig s[j]
                      · exact Or.inr (Or.inr (Or.inl ⟨h, h1, h2⟩))
                      · exact Or.inr (Or.inl ⟨h, h1, h2⟩)
                    · exact Or.inl ⟨h, h1⟩
                  · exact Or.inr (Or.inr (Or.inr (by omega)))
                rcases hcase with ⟨hjl, h1⟩ | ⟨hjl, h1, h2⟩ | hend
                · have HP1 : Hid (∀ w, Calls Tryz.prog 50 #[.int .u8 s[j].toNat] w fun e w' => e = .returned (.bool true) ∧ w = w') := by
                    rw [← h1]
                    exact refIsLetter_any _
                  have HN := Lib.hid (word_more hkj hjl HJ.out (by unfold isWrd; rw [h1]; rfl))
                  clear h1
                  go_wp2_with (go_at_call 50; refine (HP1.out _).mono ?_; rintro e w' ⟨rfl, rfl⟩)
                  exact ⟨⟨j + 1, by omega, by omega, by go_num, HN⟩, by simp [intOf]; omega⟩
                · have HP1 : Hid (∀ w, Calls Tryz.prog 50 #[.int .u8 s[j].toNat] w fun e w' => e = .returned (.bool false) ∧ w = w') := by
                    rw [← h1]
                    exact refIsLetter_any _
                  have HP2 : Hid (∀ w, Calls Tryz.prog 51 #[.int .u8 s[j].toNat] w fun e w' => e = .returned (.bool true) ∧ w = w') := by
                    rw [← h2]
                    exact refIsDigit_any _
                  have HN := Lib.hid (word_more hkj hjl HJ.out (by unfold isWrd; rw [h2, Bool.or_true]))
                  clear h1 h2
                  go_wp2_with (first | (go_at_call 50; refine (HP1.out _).mono ?_; rintro e w' ⟨rfl, rfl⟩) | (go_at_call 51; refine (HP2.out _).mono ?_; rintro e w' ⟨rfl, rfl⟩))
                  exact ⟨⟨j + 1, by omega, by omega, by go_num, HN⟩, by simp [intOf]; omega⟩
                · have HYW := Lib.hid (word_end hkj hj HJ.out hend)
                  have hgt : k < j := word_pos hlt hkj HWRD.out hend
                  obtain ⟨y, hy⟩ : ∃ y, s.extract k j = y := ⟨_, rfl⟩
                  rw [hy] at HYW
                  have HYT : Hid (y = ⟨(tokText (s.data.toList.drop k)).toArray⟩) := Lib.hid (by rw [HTX.out]; exact HYW.out)
                  have hys : y.size = j - k := by rw [← hy, ← size_len, Lib.extract_data, List.length_take, List.length_drop, size_len]; omega
                  have hkm : (k : Int) + (y.size : Int) = (j : Int) := by omega
                  have hsub : (j : Int) - (k : Int) = (y.size : Int) := by omega
                  have hne : y.toList.isEmpty = false := by
                    cases h : y.toList with
                    | nil => rw [Lib.toList_data] at h; rw [← size_len, h] at hys; simp at hys; omega
                    | cons => rfl
                  have HM : Hid (k + (tokText (s.data.toList.drop k)).length = j) := Lib.hid (by
                    have : (tokText (s.data.toList.drop k)).length = y.size := by rw [HYT.out, ← size_len]
                    omega)
                  rcases hend with ⟨hjl, h1, h2⟩ | hjz
                  case' inl =>
                    have HP1 : Hid (∀ w, Calls Tryz.prog 50 #[.int .u8 s[j].toNat] w fun e w' => e = .returned (.bool false) ∧ w = w') := by
                      rw [← h1]
                      exact refIsLetter_any _
                    have HP2 : Hid (∀ w, Calls Tryz.prog 51 #[.int .u8 s[j].toNat] w fun e w' => e = .returned (.bool false) ∧ w = w') := by
                      rw [← h2]
                      exact refIsDigit_any _
                    have l1 : decide ((j : Int) < (s.size : Int)) = true := by simp; omega
                    have l2 : decide (j < s.size) = true := by simp; omega
                    clear h1 h2
                  case' inr =>
                    have l1 : decide ((j : Int) < (s.size : Int)) = false := by simp; omega
                    have l2 : decide (j < s.size) = false := by simp; omega
                    have hjl : ¬ j < s.size := by omega
                    clear hjz
                  all_goals
                    obtain ⟨c0, c1, f0, f1, hlt1⟩ := err_cell HB.out
                    by_cases h16 : y.size ≤ 16
                    · have l3 : decide (16 < (y.size : Int)) = false := by simp; omega
                      have HWHY : Hid (tokWhy (s.data.toList.drop k) = 0) := Lib.hid (by
                        unfold tokWhy textWhy
                        rw [HK.out]
                        have : (tokText (s.data.toList.drop k)).length = y.size := by rw [HYT.out, ← size_len]
                        simp [this, h16])
                      clear hys h16
                      go_wp2_with (first | (go_at_call 50; with_reducible refine (HP1.out _).mono ?_; rintro e w' ⟨rfl, rfl⟩) | (go_at_call 51; with_reducible refine (HP2.out _).mono ?_; rintro e w' ⟨rfl, rfl⟩))
                      refine (HPD.out _).mono ?_
                      rintro e w' ⟨rfl, rfl⟩
                      go_wp2_with (at_builtin; refine wpList_append_lies _ (by rfl) _ _ 56 (by rfl) (w.heap.size + 1) 96 i0 (.agg #[.int .i64 0, .string ⟨#[]⟩, .int .i64 0]) 3 32 Tryz.underlying56 hi hz0 hz1 hz2 (by rfl) (by omega) _ ts.length (tokCells ts) (by rfl) ((HO.out.alloc _).alloc _) ⟨wr.heap.size + 1, 0, none⟩ 1 1 [.int .i64 1, .string y, .int .i64 k] (by rfl) (by rfl) (news3 _ _ _ _ _ _) (by simp [Value.oneCell']) (by omega) (by have := HL.out; unfold maxLen; omega) (by have := HL.out; omega) (by have := (hbel0.trans HB.out).size; have := HB.out.size; simp at this ⊢; omega) _ rfl ?_; intro g cap w2 hown hgrow hat hlt2; have hcell := tok_behind HO.out hgrow; have HOW := Lib.hid hown; have HGR := Lib.hid hgrow; clear hown hgrow hat)
                      go_roundw
                      case rel =>
                        refine ⟨j, ts ++ [⟨1, tokText (s.data.toList.drop k), k⟩], hj, by go_num, Lib.hid ?_, Lib.hid ?_, Lib.hid ?_, Lib.hid (bel_behind HB.out HO.out (by simp) HGR.out)⟩
                        · have := scan_step2 (size_len s) hk HNE.out HWHY.out HF.out HR.out HM.out
                          rw [HK.out] at this
                          exact this
                        · have := HL.out
                          simp
                          omega
                        · have := HOW.out
                          rw [List.length_append, tokCells_snoc, ← HYT.out]
                          exact this
                      case measure => simp [intOf]; omega
                    · have l3 : decide (16 < (y.size : Int)) = true := by simp; omega
                      have HRES : Hid (scanL s.data.toList = .err 6 k) := Lib.hid (by
                        have hwhy : tokWhy (s.data.toList.drop k) = 6 := by
                          unfold tokWhy textWhy
                          rw [HK.out]
                          have : (tokText (s.data.toList.drop k)).length = y.size := by rw [HYT.out, ← size_len]
                          simp [this, h16]
                        have := scan_stop (size_len s) hk HNE.out (by rw [hwhy]; decide) HF.out HR.out
                        rw [HE.out, this, hwhy])
                      clear hys h16
                      go_wp2_with (first | (go_at_call 50; with_reducible refine (HP1.out _).mono ?_; rintro e w' ⟨rfl, rfl⟩) | (go_at_call 51; with_reducible refine (HP2.out _).mono ?_; rintro e w' ⟨rfl, rfl⟩))
                      refine (HPD.out _).mono ?_
                      rintro e w' ⟨rfl, rfl⟩
                      go_wp2_with fail
                      (try simp only [Exit.inBlock, Exit.then])
                      refine bodyPost_ret (v := .tuple #[.slice none 0 0, .agg #[.int .i64 6, .int .i64 k]]) ?_ rfl ?_
                      rotate_left
                      · show ScanPost s w _ _
                        rw [scanPost_err HRES.out]
                        exact ⟨rfl, (err_end HB.out _ _).alloc _⟩
                      · rw [results_tmp_cell rfl]
                        go_simp
            · have HK1 := HK
              go_wp2_with (first | (go_at_call 50; refine (HPL.out _).mono ?_; rintro e w' ⟨rfl, rfl⟩) | (go_at_call 51; refine (HPD.out _).mono ?_; rintro e w' ⟨rfl, rfl⟩))
              go_loop [8] (fun i => ∃ j : Nat, k ≤ j ∧ j ≤ s.size ∧ i = .int .i64 j ∧ Hid (wrdAt s k = (s.data.toList.drop k).take (j - k) ++ (s.data.toList.drop j).takeWhile isWrd)) (fun i => s.size - (intOf i).toNat)
              case atStart => exact ⟨k, Nat.le_refl _, hk, rfl, Lib.hid (by rw [Nat.sub_self]; rfl)⟩
              case round =>
                obtain ⟨j, hkj, hj, rfl, HJ⟩ := hrel
                have hcase : (∃ h : j < s.size, isLet s[j] = true) ∨ (∃ h : j < s.size, isLet s[j] = false ∧ isDig s[j] = true) ∨ ((∃ h : j < s.size, isLet s[j] = false ∧ isDig s[j] = false) ∨ j = s.size) := by
                  by_cases h : j < s.size
                  · cases h1 : isLet s[j]
                    · cases h2 : isDig s[j]
                      · exact Or.inr (Or.inr (Or.inl ⟨h, h1, h2⟩))
                      · exact Or.inr (Or.inl ⟨h, h1, h2⟩)
                    · exact Or.inl ⟨h, h1⟩
                  · exact Or.inr (Or.inr (Or.inr (by omega)))
                rcases hcase with ⟨hjl, h1⟩ | ⟨hjl, h1, h2⟩ | hend
                · have HP1 : Hid (∀ w, Calls Tryz.prog 50 #[.int .u8 s[j].toNat] w fun e w' => e = .returned (.bool true) ∧ w = w') := by
                    rw [← h1]
                    exact refIsLetter_any _
                  have HN := Lib.hid (word_more hkj hjl HJ.out (by unfold isWrd; rw [h1]; rfl))
                  clear h1
                  go_wp2_with (go_at_call 50; refine (HP1.out _).mono ?_; rintro e w' ⟨rfl, rfl⟩)
                  exact ⟨⟨j + 1, by omega, by omega, by go_num, HN⟩, by simp [intOf]; omega⟩
                · have HP1 : Hid (∀ w, Calls Tryz.prog 50 #[.int .u8 s[j].toNat] w fun e w' => e = .returned (.bool false) ∧ w = w') := by
                    rw [← h1]
                    exact refIsLetter_any _
                  have HP2 : Hid (∀ w, Calls Tryz.prog 51 #[.int .u8 s[j].toNat] w fun e w' => e = .returned (.bool true) ∧ w = w') := by
                    rw [← h2]
                    exact refIsDigit_any _
                  have HN := Lib.hid (word_more hkj hjl HJ.out (by unfold isWrd; rw [h2, Bool.or_true]))
                  clear h1 h2
                  go_wp2_with (first | (go_at_call 50; refine (HP1.out _).mono ?_; rintro e w' ⟨rfl, rfl⟩) | (go_at_call 51; refine (HP2.out _).mono ?_; rintro e w' ⟨rfl, rfl⟩))
                  exact ⟨⟨j + 1, by omega, by omega, by go_num, HN⟩, by simp [intOf]; omega⟩
                · have HYW := Lib.hid (word_end hkj hj HJ.out hend)
                  have hgt : k < j := word_pos hlt hkj HWRD.out hend
                  obtain ⟨y, hy⟩ : ∃ y, s.extract k j = y := ⟨_, rfl⟩
                  rw [hy] at HYW
                  have HYT : Hid (y = ⟨(tokText (s.data.toList.drop k)).toArray⟩) := Lib.hid (by rw [HTX.out]; exact HYW.out)
                  have hys : y.size = j - k := by rw [← hy, ← size_len, Lib.extract_data, List.length_take, List.length_drop, size_len]; omega
                  have hkm : (k : Int) + (y.size : Int) = (j : Int) := by omega
                  have hsub : (j : Int) - (k : Int) = (y.size : Int) := by omega
                  have hne : y.toList.isEmpty = false := by
                    cases h : y.toList with
                    | nil => rw [Lib.toList_data] at h; rw [← size_len, h] at hys; simp at hys; omega
                    | cons => rfl
                  have HM : Hid (k + (tokText (s.data.toList.drop k)).length = j) := Lib.hid (by
                    have : (tokText (s.data.toList.drop k)).length = y.size := by rw [HYT.out, ← size_len]
                    omega)
                  rcases hend with ⟨hjl, h1, h2⟩ | hjz
                  case' inl =>
                    have HP1 : Hid (∀ w, Calls Tryz.prog 50 #[.int .u8 s[j].toNat] w fun e w' => e = .returned (.bool false) ∧ w = w') := by
                      rw [← h1]
                      exact refIsLetter_any _
                    have HP2 : Hid (∀ w, Calls Tryz.prog 51 #[.int .u8 s[j].toNat] w fun e w' => e = .returned (.bool false) ∧ w = w') := by
                      rw [← h2]
                      exact refIsDigit_any _
                    have l1 : decide ((j : Int) < (s.size : Int)) = true := by simp; omega
                    have l2 : decide (j < s.size) = true := by simp; omega
                    clear h1 h2
                  case' inr =>
                    have l1 : decide ((j : Int) < (s.size : Int)) = false := by simp; omega
                    have l2 : decide (j < s.size) = false := by simp; omega
                    have hjl : ¬ j < s.size := by omega
                    clear hjz
                  all_goals
                    obtain ⟨c0, c1, f0, f1, hlt1⟩ := err_cell HB.out
                    have hysz : y.size ≤ maxLen := by have := HS.out; omega
                    obtain ⟨nv, hnv⟩ : ∃ nv, numV y.data.toList 9223372036854775808 = nv := ⟨_, rfl⟩
                    obtain ⟨ok, hok⟩ : ∃ ok, numOk y.data.toList 9223372036854775808 = ok := ⟨_, rfl⟩
                    have HNUM : Hid (∀ w, Calls Tryz.prog 52 #[.string y, .int .u64 9223372036854775808] w fun e w' => e = .returned (.tuple #[.int .u64 nv, .bool ok]) ∧ w = w') := fun w => num_is y 9223372036854775808 nv ok w hysz (Lib.hid hnv) (Lib.hid hok)
                    have HWT : Hid (tokWhy (s.data.toList.drop k) = if ok then 0 else 2) := Lib.hid (by
                      unfold tokWhy textWhy
                      rw [HK.out, ← hok, numOk_numT]
                      have : y.data.toList = tokText (s.data.toList.drop k) := by rw [HYT.out]
                      rw [this]
                      simp)
                    clear hnv hok hysz hys
                    cases ok
                    · have HRES : Hid (scanL s.data.toList = .err 2 k) := Lib.hid (by
                        have hwhy : tokWhy (s.data.toList.drop k) = 2 := HWT.out
                        have := scan_stop (size_len s) hk HNE.out (by rw [hwhy]; decide) HF.out HR.out
                        rw [HE.out, this, hwhy])
                      go_wp2_with (first | (go_at_call 50; with_reducible refine (HP1.out _).mono ?_; rintro e w' ⟨rfl, rfl⟩) | (go_at_call 51; with_reducible refine (HP2.out _).mono ?_; rintro e w' ⟨rfl, rfl⟩))
                      refine (HPD.out _).mono ?_
                      rintro e w' ⟨rfl, rfl⟩
                      go_wp2_with fail
                      refine (HNUM.out _).mono ?_
                      rintro e w' ⟨rfl, rfl⟩
                      go_wp2_with fail
                      (try simp only [Exit.inBlock, Exit.then])
                      refine bodyPost_ret (v := .tuple #[.slice none 0 0, .agg #[.int .i64 2, .int .i64 k]]) ?_ rfl ?_
                      rotate_left
                      · show ScanPost s w _ _
                        rw [scanPost_err HRES.out]
                        exact ⟨rfl, (err_end HB.out _ _).alloc _⟩
                      · rw [results_tmp_cell rfl]
                        go_simp
                    · have HWHY : Hid (tokWhy (s.data.toList.drop k) = 0) := HWT
                      go_wp2_with (first | (go_at_call 50; with_reducible refine (HP1.out _).mono ?_; rintro e w' ⟨rfl, rfl⟩) | (go_at_call 51; with_reducible refine (HP2.out _).mono ?_; rintro e w' ⟨rfl, rfl⟩))
                      refine (HPD.out _).mono ?_
                      rintro e w' ⟨rfl, rfl⟩
                      go_wp2_with fail
                      refine (HNUM.out _).mono ?_
                      rintro e w' ⟨rfl, rfl⟩
                      go_wp2_with (at_builtin; refine wpList_append_lies _ (by rfl) _ _ 56 (by rfl) (w.heap.size + 1) 96 i0 (.agg #[.int .i64 0, .string ⟨#[]⟩, .int .i64 0]) 3 32 Tryz.underlying56 hi hz0 hz1 hz2 (by rfl) (by omega) _ ts.length (tokCells ts) (by rfl) ((HO.out.alloc _).alloc _) ⟨wr.heap.size + 1, 0, none⟩ 1 1 [.int .i64 2, .string y, .int .i64 k] (by rfl) (by rfl) (news3 _ _ _ _ _ _) (by simp [Value.oneCell']) (by omega) (by have := HL.out; unfold maxLen; omega) (by have := HL.out; omega) (by have := (hbel0.trans HB.out).size; have := HB.out.size; simp at this ⊢; omega) _ rfl ?_; intro g cap w2 hown hgrow hat hlt2; have hcell := tok_behind HO.out hgrow; have HOW := Lib.hid hown; have HGR := Lib.hid hgrow; clear hown hgrow hat)
                      go_roundw
                      case rel =>
                        refine ⟨j, ts ++ [⟨2, tokText (s.data.toList.drop k), k⟩], hj, by go_num, Lib.hid ?_, Lib.hid ?_, Lib.hid ?_, Lib.hid (bel_behind HB.out HO.out (by simp) HGR.out)⟩
                        · have := scan_step2 (size_len s) hk HNE.out HWHY.out HF.out HR.out HM.out
                          rw [HK.out] at this
                          exact this
                        · have := HL.out
                          simp
                          omega
                        · have := HOW.out
                          rw [List.length_append, tokCells_snoc, ← HYT.out]
                          exact this
                      case measure => simp [intOf]; omega
          · have hx0 : x = false := by cases x <;> simp_all
            have hd0 : d = false := by cases d <;> simp_all
            subst hx0 hd0
            have HNW : Hid (isWrd s[k] = false) := Lib.hid (by unfold isWrd; rw [HX.out, HD.out]; rfl)
            have HTX := Lib.hid (tokText_sym s k hlt HNW.out)
            obtain ⟨y, hy⟩ : ∃ y : ByteArray, y = ⟨(tokText (s.data.toList.drop k)).toArray⟩ := ⟨_, rfl⟩
            have HSYM : Hid (∀ w, Calls Tryz.prog 53 #[.string (s.extract k s.size)] w fun e w' => e = .returned (.string y) ∧ Bel w w') := by
              intro w
              have hp : 0 < (s.extract k s.size).size := by rw [← size_len, Lib.extract_to_end, List.length_drop, size_len]; omega
              have hz : (s.extract k s.size).size ≤ maxLen := by
                rw [← size_len, Lib.extract_to_end, List.length_drop, size_len]
                have := HS.out
                omega
              have := refSymbol_any (s.extract k s.size) w hp hz
              rw [Lib.extract_to_end, ← HTX.out, ← hy] at this
              exact this
            have hys : y.size = (tokText (s.data.toList.drop k)).length := by rw [hy, ← size_len]
            have hle := tokText_len (s.data.toList.drop k)
            rw [List.length_drop, size_len, ← hys] at hle
            obtain ⟨j, hj⟩ : ∃ j, k + y.size = j := ⟨_, rfl⟩
            have hkm : (k : Int) + (y.size : Int) = (j : Int) := by omega
            have hj2 : j ≤ s.size := by omega
            have HM : Hid (k + (tokText (s.data.toList.drop k)).length = j) := Lib.hid (by omega)
            have HYT := Lib.hid hy
            have hyd : y.toList = tokText (s.data.toList.drop k) := by rw [Lib.toList_data, hy]
            have hWT : tokWhy (s.data.toList.drop k) = if y.toList.isEmpty then 2 else 0 := by
              unfold tokWhy textWhy
              rw [HK.out, hyd]
              simp
            have hjk : y.toList.isEmpty = false → k < j := by
              intro h
              rw [hyd] at h
              cases h3 : tokText (s.data.toList.drop k) with
              | nil => rw [h3] at h; cases h
              | cons a l => rw [h3] at hys; simp at hys; omega
            obtain ⟨b, hb⟩ : ∃ b, y.toList.isEmpty = b := ⟨_, rfl⟩
            rw [hb] at hWT hjk
            have HWT := Lib.hid hWT
            clear hy hle hj hyd hWT hys
            go_wp2_with (first | (go_at_call 50; refine (HPL.out _).mono ?_; rintro e w' ⟨rfl, rfl⟩) | (go_at_call 51; refine (HPD.out _).mono ?_; rintro e w' ⟨rfl, rfl⟩))
            refine (HSYM.out _).mono ?_
            rintro e w1 ⟨rfl, hb1⟩
            obtain ⟨a0, a1, a2, b0, b1, b2⟩ := token_cell hb1
            obtain ⟨c0, c1, f0, f1, hlt1⟩ := err_cell ((HB.out.alloc _).trans hb1)
            have hltr : w.heap.size < wr.heap.size := by have := HB.out.size; simp at this; omega
            have hne : wr.heap.size ≠ w.heap.size := by omega
            have hltT : wr.heap.size < w1.heap.size := by have := hb1.size; simp at this; omega
            have e0 : ∀ u, (w1.setCell ⟨wr.heap.size, 1, none⟩ u).cell? ⟨w.heap.size, 0, none⟩ = some (.int .i64 0) := fun u => (far_cell u hne).trans c0
            have e1 : ∀ u, (w1.setCell ⟨wr.heap.size, 1, none⟩ u).cell? ⟨w.heap.size, 1, none⟩ = some (.int .i64 0) := fun u => (far_cell u hne).trans c1
            have HBW : Hid (∀ u, Bel (w.alloc (Obj.cells #[Value.int .i64 0, Value.int .i64 0] 42)) (w1.setCell ⟨wr.heap.size, 1, none⟩ u)) := fun u => Below.setCell ((HB.out.alloc _).trans hb1) (p := ⟨wr.heap.size, 1, none⟩) HB.out.size u
            have HOB : Hid (∀ u, (w1.setCell ⟨wr.heap.size, 1, none⟩ u).ownsRow (w.heap.size + 1) 96 3 u4 ts.length (tokCells ts)) := fun u => own_set_ne (own_bel (HO.out.alloc _) hb1) ⟨wr.heap.size, 1, none⟩ u (own_ne HO.out _ (Or.inr (Nat.le_refl _)))
            clear hb1
            cases b
            · have hkj := hjk rfl
              have HWHY : Hid (tokWhy (s.data.toList.drop k) = 0) := HWT
              go_wp2_with (at_builtin; refine wpList_append_lies _ (by rfl) _ _ 56 (by rfl) (w.heap.size + 1) 96 i0 (.agg #[.int .i64 0, .string ⟨#[]⟩, .int .i64 0]) 3 32 Tryz.underlying56 hi hz0 hz1 hz2 (by rfl) (by omega) _ ts.length (tokCells ts) (by rfl) ((HOB.out _).alloc _) ⟨w1.heap.size, 0, none⟩ 1 1 [.int .i64 3, .string y, .int .i64 k] (by rfl) (by rfl) (news2' _ _ (by simp [World.setCell]) _ _ _ _) (by simp [Value.oneCell']) (by omega) (by have := HL.out; unfold maxLen; omega) (by have := HL.out; omega) (by simp [World.setCell]; omega) _ rfl ?_; intro g cap w2 hown hgrow hat hlt2; have hcell := tok_behind2 HO.out (Nat.le_refl _) (by simp [World.setCell]; omega) (World.cell?_setCell_same' w1 ⟨wr.heap.size, 1, none⟩ _ (by rw [a1]; rfl)) hgrow; have HOW := Lib.hid hown; have HGR := Lib.hid hgrow; clear hown hgrow hat)
              go_roundw
              case rel =>
                refine ⟨j, ts ++ [⟨3, tokText (s.data.toList.drop k), k⟩], hj2, by go_num, Lib.hid ?_, Lib.hid ?_, Lib.hid ?_, Lib.hid (bel_behind2 (HBW.out _) (HOB.out _) (by simp) HGR.out)⟩
                · have := scan_step2 (size_len s) hk HNE.out HWHY.out HF.out HR.out HM.out
                  rw [HK.out] at this
                  exact this
                · have := HL.out
                  simp
                  omega
                · have := HOW.out
                  rw [List.length_append, tokCells_snoc, ← HYT.out]
                  exact this
              case measure => simp [intOf]; omega
            · have HRES : Hid (scanL s.data.toList = .err 2 k) := Lib.hid (by
                have hwhy : tokWhy (s.data.toList.drop k) = 2 := HWT.out
                have := scan_stop (size_len s) hk HNE.out (by rw [hwhy]; decide) HF.out HR.out
                rw [HE.out, this, hwhy])
              go_wp2_with fail
              (try simp only [Exit.inBlock, Exit.then])
              refine bodyPost_ret (v := .tuple #[.slice none 0 0, .agg #[.int .i64 2, .int .i64 k]]) ?_ rfl ?_
              rotate_left
              · show ScanPost s w _ _
                rw [scanPost_err HRES.out]
                exact ⟨rfl, err_end (HBW.out _) _ _⟩
              · rw [results_tmp_cell rfl]
                go_simp
    · obtain rfl : k = s.size := by omega
      have HRES : Hid (scanL s.data.toList = .ok ts) := Lib.hid (by
        rw [HE.out, HR.out, drop_end, scanAt_nil rfl]
        show Out.ok (ts ++ []) = _
        rw [List.append_nil])
      obtain ⟨c0, c1, f0, f1, hlt1⟩ := err_cell HB.out
      go_wp2_with fail
      (try simp only [Exit.inBlock, Exit.then])
      refine bodyPost_ret (v := .tuple #[u4, .agg #[.int .i64 0, .int .i64 0]]) ?_ rfl ?_
      rotate_left
      · show ScanPost s w _ _
        rw [scanPost_ok HRES.out]
        exact ⟨u4, rfl, own_base (own_set (own_set HO.out ⟨w.heap.size, 0, none⟩ _ (Nat.lt_succ_self _)) ⟨w.heap.size, 1, none⟩ _ (Nat.lt_succ_self _)) (Nat.le_succ _), err_end HB.out _ _⟩
      · rw [results_tmp_cell rfl]
        go_simp
theorem refScan_any (s : ByteArray) (w : World) (hs : s.size ≤ maxLen) : Calls Tryz.prog 22 #[.string s] w (ScanPost s w) := by
  by_cases h : 20000 < s.size
  · exact refScan_long s w hs h
  · exact refScan_short s w (by omega)
end Go.Proofs.YtcjolamfjgdgjaaGreatDoor
