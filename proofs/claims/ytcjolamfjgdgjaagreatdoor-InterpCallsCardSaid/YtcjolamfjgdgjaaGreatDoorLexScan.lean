/-
  lexer.Scan: the walk.
-/
import Derived.Test.YtcjolamfjgdgjaaGreatDoorLexOwn
namespace Go.Proofs.YtcjolamfjgdgjaaGreatDoor
open Go.RowKit (wrap32 wrap64)
open Go.RowKit
set_option maxHeartbeats 400000

theorem results_tmp_cell {fn : Func} {p u : Tmp} {ty : TypeId} (h : fn.results = #[.tmp u, .cell p ty]) (tmps : Array Value) (P : Program) (w : World) :
    (results fn tmps).run P w =
      ((asAddr (tmps.getD p undef)).run P w).andThen fun a w₁ => ((loadVar ty a).run P w₁).andThen fun v w₂ => .ok (.tuple #[tmps.getD u undef, v]) w₂ := by
  simp only [results, h]
  simp [Sem.run_bind, Result.andThen]
set_option maxRecDepth 100000 in
theorem scan_long (s : ByteArray) (w : World) (_hs : s.size ≤ maxLen) (h : 20000 < s.size) : Calls Tryz.prog 113 #[.string s] w (ScanPost s w) := by
  have HE : Hid (scanL s.data.toList = .err 6 20000) := Lib.hid (by unfold scanL; rw [if_pos (by rw [size_len]; exact h)])
  have e : ScanPost s w = fun e w' => e = .returned (.tuple #[.slice none 0 0, .agg #[.int .i64 6, .int .i64 20000]]) ∧ Bel w w' := by
    funext e w'
    unfold ScanPost
    rw [HE.out]
    rfl
  rw [e]
  have t1 : decide (20000 < (s.size : Int)) = true := by simp; omega
  unfold maxLen at _hs
  go_enter Tryz.func113, Tryz.ntmps113
  go_wp2_with fail
  (try simp only [Exit.inBlock, Exit.then])
  refine bodyPost_ret (v := .tuple #[.slice none 0 0, .agg #[.int .i64 6, .int .i64 20000]]) ?_ rfl ⟨rfl, ?_⟩
  · rw [results_tmp_cell rfl]
    go_simp
  · exact (Bel.refl w).alloc _
theorem info_tok : (Tryz.prog.info? 96).map (fun i => (i.zero, i.size, i.bytes)) = some (some (.agg #[.int .i64 0, .string ⟨#[]⟩, .int .i64 0]), 3, 32) := by kernel_rfl
set_option maxRecDepth 100000 in
theorem scan_short (s : ByteArray) (w : World) (h : s.size ≤ 20000) (ht : Tab w) : Calls Tryz.prog 113 #[.string s] w (ScanPost s w) := by
  have HE : Hid (scanL s.data.toList = scanAt s.size s.data.toList) := Lib.hid (by unfold scanL; rw [if_neg (by rw [size_len]; omega), size_len])
  have t1 : decide (20000 < (s.size : Int)) = false := by simp; omega
  have HS : Hid (s.size ≤ maxLen) := Lib.hid (by unfold maxLen; omega)
  have HT0 := Lib.hid ht
  clear ht
  go_enter Tryz.func113, Tryz.ntmps113
  go_wp2_with fail
  refine (skip_any s 0 _ (Nat.zero_le _) HS.out).mono ?_
  rintro e w1 ⟨r0, rfl, -, hr0, hsk, rfl⟩
  have HSK := Lib.hid hsk
  clear hsk
  obtain ⟨i0, hi, hz0, hz1, hz2⟩ := info_parts info_tok
  have hbel0 := (Bel.refl w).alloc (Obj.cells #[Value.int .i64 0, Value.int .i64 0] 42)
  have HR0 : Hid (scanAt s.size s.data.toList = Out.pre [] (scanAt s.size (s.data.toList.drop r0))) := Lib.hid (by
    rw [Out.pre_nil, ← HSK.out, List.drop_zero]
    exact scanAt_rest _ _)
  have HF0 : Hid (rest false (s.data.toList.drop r0) = s.data.toList.drop r0) := Lib.hid (by rw [← HSK.out, rest_idem])
  clear HSK
  go_wp2_with fail
  go_loopw [4, 5] (fun v i wr => ∃ (k : Nat) (ts : List Tok), k ≤ s.size ∧ i = .int .i64 k ∧ Hid (rest false (s.data.toList.drop k) = s.data.toList.drop k) ∧ Hid (scanAt s.size s.data.toList = Out.pre ts (scanAt s.size (s.data.toList.drop k))) ∧
      Hid (ts.length ≤ k) ∧ Hid (wr.ownsRow (w.heap.size + 1) 96 3 v ts.length (tokCells ts)) ∧ Hid (Bel (w.alloc (Obj.cells #[Value.int .i64 0, Value.int .i64 0] 42)) wr))
    (fun _ i _ => s.size - (intOf i).toNat)
  case atStart => exact ⟨r0, [], hr0, rfl, HF0, HR0, Nat.zero_le _, World.ownsRow_nil _ _ _ _, Lib.hid (Bel.refl _)⟩
  case round =>
    obtain ⟨k, ts, hk, rfl, HF, HR, HL, HO, HB⟩ := hrel
    by_cases hlt : k < s.size
    · have HX := Lib.hid (HT0.out.keep (hbel0.trans HB.out))
      have hne : s.data.toList.drop k ≠ [] := by
        rw [drop_cons s k hlt]
        simp
      by_cases hw : tokWhy (s.data.toList.drop k) = 0
      · have HC : Hid (∀ w, Tab w → Calls Tryz.prog 122 #[.string s, .int .i64 k] w fun e w' => e = .returned (.tuple #[.agg #[.int .i64 (headKind (s.data.toList.drop k)), .string ⟨(tokText (s.data.toList.drop k)).toArray⟩, .int .i64 k], .int .i64 0]) ∧ Bel w w') := by
          intro w ht
          have := scanToken_any s k w hlt HS.out ht
          unfold TokPost tokVal at this
          rw [hw, if_pos rfl] at this
          exact this
        obtain ⟨y, hy⟩ : ∃ y : ByteArray, y = ⟨(tokText (s.data.toList.drop k)).toArray⟩ := ⟨_, rfl⟩
        obtain ⟨z, hz⟩ : ∃ z, headKind (s.data.toList.drop k) = z := ⟨_, rfl⟩
        rw [← hy, hz] at HC
        have hsz : y.size = (tokText (s.data.toList.drop k)).length := by rw [hy, ← size_len]
        have hpos := tokText_pos _ hw hne
        have hle := tokText_len (s.data.toList.drop k)
        rw [List.length_drop, size_len, ← hsz] at hle
        rw [← hsz] at hpos
        obtain ⟨m, hm⟩ : ∃ m, k + y.size = m := ⟨_, rfl⟩
        have hkm : (k : Int) + (y.size : Int) = (m : Int) := by omega
        have hm1 : k < m := by omega
        have hm2 : m ≤ s.size := by omega
        have HM := Lib.hid hm
        clear hm
        have HZ := Lib.hid hz
        have HY := Lib.hid hy
        have HW := Lib.hid hw
        have HSZ := Lib.hid hsz
        have HN := Lib.hid hne
        clear hz hy hw hle hsz hne
        go_wp2_with fail
        refine (HC.out _ HX.out).mono ?_
        rintro e w1 ⟨rfl, hb1⟩
        have HB1 := Lib.hid hb1
        have HO1 := Lib.hid (own_bel HO.out hb1)
        clear hb1
        go_wp2_with (at_builtin; refine wpList_append_lies _ (by rfl) _ _ 56 (by rfl) (w.heap.size + 1) 96 i0 (.agg #[.int .i64 0, .string ⟨#[]⟩, .int .i64 0]) 3 32 Tryz.underlying56 hi hz0 hz1 hz2 (by rfl) (by omega) _ ts.length (tokCells ts) (by rfl) ((HO1.out.alloc _).alloc _) ⟨w1.heap.size + 1, 0, none⟩ 1 1 [.int .i64 z, .string y, .int .i64 k] (by rfl) (by rfl) (news3 _ _ _ _ _ _) (by simp [Value.oneCell']) (by omega) (by have := HL.out; unfold maxLen; omega) (by have := HL.out; omega) (by have := (hbel0.trans (HB.out.trans HB1.out)).size; have := (HB.out.trans HB1.out).size; simp at this ⊢; omega) _ rfl ?_; intro g cap w2 hown hgrow hat hlt2; have hcell := tok_behind HO1.out hgrow; have HOW := Lib.hid hown; have HGR := Lib.hid hgrow; clear hown hgrow hat)
        refine (skip_any s m _ hm2 HS.out).mono ?_
        rintro e w3 ⟨r, rfl, q1, q2, q3, rfl⟩
        have Q3 := Lib.hid q3
        clear q3
        go_wp2_with fail
        go_roundw
        case rel =>
          refine ⟨r, ts ++ [⟨z, tokText (s.data.toList.drop k), k⟩], q2, rfl, Lib.hid (by rw [← Q3.out, rest_idem]), Lib.hid ?_, Lib.hid ?_, Lib.hid ?_, Lib.hid (bel_behind (HB.out.trans HB1.out) HO1.out (by simp) HGR.out)⟩
          · rw [← HZ.out]
            exact scan_step (size_len s) hk HN.out HW.out HF.out HR.out (by rw [← HSZ.out]; exact HM.out) Q3.out
          · have := HL.out
            simp
            omega
          · have := HOW.out
            rw [List.length_append, tokCells_snoc, ← HY.out]
            exact this
        case measure => simp [intOf]; omega
      · obtain ⟨y, hy⟩ : ∃ y, tokWhy (s.data.toList.drop k) = y := ⟨_, rfl⟩
        have HC : Hid (∀ w, Tab w → Calls Tryz.prog 122 #[.string s, .int .i64 k] w fun e w' => e = .returned (.tuple #[.agg #[.int .i64 0, .string ⟨#[]⟩, .int .i64 0], .int .i64 y]) ∧ Bel w w') := by
          intro w ht
          have := scanToken_any s k w hlt HS.out ht
          unfold TokPost tokVal at this
          rw [if_neg hw, hy] at this
          exact this
        have t2 : (y == 0) = false := by rw [beq_eq_false_iff_ne, ← hy]; exact hw
        have HRES : Hid (scanL s.data.toList = .err y k) := Lib.hid (by
          rw [HE.out, HR.out, scanAt_err HF.out hne hw, hy]
          have : s.size - (s.data.toList.drop k).length = k := by rw [List.length_drop, size_len]; omega
          rw [this]
          rfl)
        rw [scanPost_err HRES.out]
        clear hy hw hne
        go_wp2_with fail
        refine (HC.out _ HX.out).mono ?_
        rintro e w1 ⟨rfl, hb1⟩
        have HB1 := Lib.hid (HB.out.trans hb1)
        clear hb1
        obtain ⟨c0, c1, f0, f1, hlt1⟩ := err_cell HB1.out
        go_wp2_with fail
        (try simp only [Exit.inBlock, Exit.then])
        refine bodyPost_ret (v := .tuple #[.slice none 0 0, .agg #[.int .i64 y, .int .i64 k]]) ?_ rfl ⟨rfl, (err_end HB1.out _ _).alloc _⟩
        rw [results_tmp_cell rfl]
        go_simp
    · obtain rfl : k = s.size := by omega
      have HRES : Hid (scanL s.data.toList = .ok ts) := Lib.hid (by
        rw [HE.out, HR.out, drop_end, scanAt_nil rfl]
        show Out.ok (ts ++ []) = _
        rw [List.append_nil])
      obtain ⟨c0, c1, f0, f1, hlt1⟩ := err_cell HB.out
      go_wp2_with fail
      (try simp only [Exit.inBlock, Exit.then])
      refine bodyPost_ret (v := .tuple #[u4, .agg #[.int .i64 0, .int .i64 0]]) ?_ rfl ?_
      rotate_left
      · show ScanPost s w _ _
        rw [scanPost_ok HRES.out]
        exact ⟨u4, rfl, own_base (own_set (own_set HO.out ⟨w.heap.size, 0, none⟩ _ (Nat.lt_succ_self _)) ⟨w.heap.size, 1, none⟩ _ (Nat.lt_succ_self _)) (Nat.le_succ _), err_end HB.out _ _⟩
      · rw [results_tmp_cell rfl]
        go_simp
theorem scan_any (s : ByteArray) (w : World) (hs : s.size ≤ maxLen) (ht : Tab w) : Calls Tryz.prog 113 #[.string s] w (ScanPost s w) := by
  by_cases h : 20000 < s.size
  · exact scan_long s w hs h
  · exact scan_short s w (by omega) ht
end Go.Proofs.YtcjolamfjgdgjaaGreatDoor
