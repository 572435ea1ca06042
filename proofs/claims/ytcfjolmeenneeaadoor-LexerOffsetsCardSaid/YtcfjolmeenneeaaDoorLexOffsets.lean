/-
  LexerOffsets: the walk.
-/
import Derived.Test.YtcfjolmeenneeaaDoorLexBlank
namespace Go.Proofs.YtcfjolmeenneeaaDoor
open Go.RowKit (wrap32 wrap64)
open Go.RowKit
set_option maxHeartbeats 400000

theorem piece_size (xs : List Int) : (⟨(pieceL xs).toArray⟩ : ByteArray).size = (pieceL xs).length := by rw [← size_len]
theorem scanL_short (l : List UInt8) (h : l.length ≤ 20000) : scanL l = scanAt l.length l := by
  unfold scanL
  rw [if_neg (by omega)]
theorem ext_take (s : ByteArray) (a m : Nat) (y : ByteArray) (h : (s.data.toList.drop a).take (m - a) = y.data.toList) : s.extract a m = y := by
  have := bytes_ext (s.extract a m) _ (Lib.extract_data s a m)
  rw [this, h]
set_option maxRecDepth 100000 in
theorem offsets_walk (v : Value) (xs : List Int) (w : World) (hx : IntsIs w v xs) (ht : Tab w) : Calls Tryd.prog 5 #[v] w fun e w' => e = .returned (.bool true) ∧ Bel w w' := by
  have HT := Lib.hid ht
  have HX := Lib.hid hx
  obtain ⟨P, hP⟩ : ∃ P : ByteArray, P = ⟨(pieceL xs).toArray⟩ := ⟨_, rfl⟩
  have hPl : P.size ≤ 570 := by rw [hP, piece_size]; exact piece_len xs
  have hsc : scanL P.data.toList = scanAt P.size P.data.toList := by rw [scanL_short _ (by rw [size_len]; omega), size_len]
  have HC : Hid (∀ w, IntsIs w v xs → Calls Tryd.prog 11 #[v] w fun e w' => e = .returned (.string P) ∧ Bel w w') := by
    rw [hP]
    exact fun w h => pieces_any v xs w h
  have HM : Hid (P.size ≤ maxLen) := Lib.hid (by unfold maxLen; omega)
  clear hx ht hP
  cases hres : scanAt P.size P.data.toList with
  | err a p =>
    have HS : Hid (scanL P.data.toList = .err a p) := Lib.hid (hsc.trans hres)
    obtain ⟨hp, ha⟩ := scan_err_pos P.size P.data.toList (by rw [size_len]; exact Nat.le_refl _) a p hres
    have t1 : (a == 0) = false := by rw [beq_eq_false_iff_ne]; omega
    have t2 : decide ((p : Int) < (P.size : Int)) = true := by simp; omega
    have t3 : decide ((0 : Int) ≤ (p : Int)) = true := by simp
    clear hres hsc ha
    go_enter Tryd.func5, Tryd.ntmps5
    go_wp2_with fail
    refine (HC.out _ HX.out).mono ?_
    rintro e w1 ⟨rfl, hb1⟩
    have HB1 := Lib.hid hb1
    clear hb1
    go_wp2_with fail
    refine (scan_err_any HS.out _ HM.out (HT.out.keep HB1.out)).mono ?_
    rintro e w2 ⟨rfl, hb2⟩
    have HB2 := Lib.hid (HB1.out.trans hb2)
    clear hb2
    go_wp2_with fail
    refine (ex_any _ (HT.out.keep (HB2.out.alloc _))).mono ?_
    rintro e w3 ⟨rfl, hb3⟩
    have HB3 := Lib.hid ((HB2.out.alloc _).trans hb3)
    clear hb3
    go_wp2_with fail
    go_ret
    exact ⟨rfl, HB3.out⟩
  | ok ts =>
    have HS : Hid (scanL P.data.toList = .ok ts) := Lib.hid (hsc.trans hres)
    have hgood := scan_offsets P.data.toList P.data.toList 0 ts rfl (Nat.zero_le _) (by rw [size_len]; exact hres)
    have HG := Lib.hid hgood
    have hcount := scan_count _ _ ts hres
    rw [size_len] at hcount
    clear hres hsc hgood
    go_enter Tryd.func5, Tryd.ntmps5
    go_wp2_with fail
    refine (HC.out _ HX.out).mono ?_
    rintro e w1 ⟨rfl, hb1⟩
    have HB1 := Lib.hid hb1
    clear hb1
    go_wp2_with fail
    refine (scan_ok_any HS.out _ HM.out (HT.out.keep HB1.out)).mono ?_
    rintro e w2 ⟨u, rfl, ho, hb2⟩
    have HB2 := Lib.hid (HB1.out.trans hb2)
    have HO := Lib.hid ho
    obtain ⟨q, c, hu⟩ : ∃ q c, u = .slice q ts.length c := by
      rcases ho with ⟨⟨q, c, rfl⟩, rfl⟩ | ⟨g, c, rfl, _⟩
      · exact ⟨q, c, rfl⟩
      · exact ⟨_, c, rfl⟩
    subst hu
    clear hb2 ho
    go_wp2_with fail
    go_loopw [6, 39] (fun m i wr => ∃ (k p : Nat), k ≤ ts.length ∧ p ≤ P.size ∧ i = .int .i64 k ∧ m = .int .i64 p ∧ Hid (goodFrom P.data.toList p (ts.drop k)) ∧ Hid (Bel (w2.alloc (Obj.cells #[Value.int .i64 0, Value.int .i64 0] 25)) wr)) (fun _ i _ => ts.length - (intOf i).toNat)
    case atStart => exact ⟨0, 0, Nat.zero_le _, Nat.zero_le _, rfl, rfl, HG, Lib.hid (Bel.refl _)⟩
    case round =>
      obtain ⟨k, p, hk, hp, rfl, rfl, HG2, HB⟩ := hrel
      by_cases hlt : k < ts.length
      · have hd : ts.drop k = ts[k] :: ts.drop (k + 1) := List.drop_eq_getElem_cons hlt
        obtain ⟨t, htk⟩ : ∃ t, ts[k] = t := ⟨_, rfl⟩
        have hti : ts[k]? = some t := by rw [List.getElem?_eq_getElem hlt, htk]
        rw [htk] at hd
        have hgd := HG2.out
        rw [hd] at hgd
        obtain ⟨g1, g2, g3, g4, g5, g6⟩ := hgd
        have hw2 := (HO.out.keep ((Bel.refl _).alloc (Obj.cells #[Value.int .i64 0, Value.int .i64 0] 25))).keep HB.out
        rcases hw2 with ⟨_, h0⟩ | ⟨g, cc, hvv, _, _, hcell⟩
        · rw [h0] at hlt; simp at hlt
        obtain ⟨rfl, rfl⟩ : q = some ⟨g, 0, none⟩ ∧ c = cc := by simpa using hvv
        obtain ⟨a1, a2, a3⟩ := hcell k t hti
        obtain ⟨y, hy⟩ : ∃ y : ByteArray, y = ⟨t.text.toArray⟩ := ⟨_, rfl⟩
        rw [← hy] at a2
        have hys : y.size = t.text.length := by rw [hy, ← size_len]
        have hyd : y.data.toList = t.text := by rw [hy]
        obtain ⟨a, ha⟩ : ∃ a, t.pos = a := ⟨_, rfl⟩
        rw [ha] at g1 g3 g4 g5 g6 a3
        obtain ⟨m, hm⟩ : ∃ m, a + y.size = m := ⟨_, rfl⟩
        rw [← hys] at g3 g4 g6
        rw [size_len] at g3
        rw [hm] at g3 g6
        have hkm : (a : Int) + (y.size : Int) = (m : Int) := by omega
        have e1 : P.extract a m = y := ext_take P a m y (by rw [hyd, ← g4, ← hm, Nat.add_sub_cancel_left])
        have hbl : blankV false (P.extract p a).data.toList = true := by rw [Lib.extract_data]; exact g5
        have hpsz : (P.extract p a).size ≤ maxLen := by
          rw [← size_len, Lib.extract_data, List.length_take, List.length_drop, size_len]
          have := HM.out
          omega
        have HBL : Hid (∀ w, Calls Tryd.prog 14 #[.string (P.extract p a)] w fun e w' => e = .returned (.bool true) ∧ w' = w) := by
          rw [← hbl]
          exact fun w => (blank_any (P.extract p a) w hpsz).mono (fun e w' h => ⟨h.1, h.2.symm⟩)
        have hne : y.toList.isEmpty = false := by
          rw [Lib.toList_data, hyd]
          cases h : t.text with
          | nil => exact absurd h g2
          | cons => rfl
        have hne2 : (y.toList == []) = false := by
          cases h : y.toList with
          | nil => rw [h] at hne; cases hne
          | cons => rfl
        have t1 : decide ((a : Int) < (p : Int)) = false := by simp; omega
        have t2 : decide ((P.size : Int) < (m : Int)) = false := by simp; omega
        have hwm : IntKind.i64.wrap (m : Int) = (m : Int) := IntWalk.i64_in _ (by omega)
        have n1 : decide (a < p) = false := by simp; omega
        have n2 : decide (P.size < m) = false := by simp; omega
        have i1 : (0 : Int) ≤ (p : Int) := by omega
        have i2 : (p : Int) ≤ (a : Int) := by omega
        have i3 : (a : Int) ≤ (m : Int) := by omega
        have i4 : (m : Int) ≤ (P.size : Int) := by omega
        have i5 : (a : Int) ≤ (P.size : Int) := by omega
        have HG3 := Lib.hid g6
        have hee : (y.toList == y.toList) = true := by simp
        have c1 : ∀ q, ((wr.alloc (Obj.cells #[Value.int .i64 t.kind, Value.string y, Value.int .i64 a] 30)).drewN q).cell? ⟨wr.heap.size, 1, none⟩ = some (.string y) := fun q => by simp
        have c2 : ∀ q, ((wr.alloc (Obj.cells #[Value.int .i64 t.kind, Value.string y, Value.int .i64 a] 30)).drewN q).cell? ⟨wr.heap.size, 2, none⟩ = some (.int .i64 a) := fun q => by simp
        clear hd htk hti g2 g4 g5 g6 hvv hcell hy hyd hys ha hm hbl hpsz
        go_wp2_with fail
        go_quiet (first | (go_at_call 14; refine Calls.quiet_of_same (HBL.out _)))
        go_wp2_with fail
        exact ⟨⟨k + 1, m, by omega, by omega, by go_num, rfl, HG3, Lib.hid (bel_drewN (HB.out.alloc _) _)⟩, by simp [intOf]; omega⟩
      · obtain rfl : k = ts.length := by omega
        have hgd := HG2.out
        rw [List.drop_of_length_le (Nat.le_refl _)] at hgd
        have hbl : blankV false (P.extract p P.size).data.toList = true := by rw [Lib.extract_to_end]; exact hgd.2
        have hpsz : (P.extract p P.size).size ≤ maxLen := by
          rw [← size_len, Lib.extract_to_end, List.length_drop, size_len]
          have := HM.out
          omega
        have HBL : Hid (∀ w, Calls Tryd.prog 14 #[.string (P.extract p P.size)] w fun e w' => e = .returned (.bool true) ∧ w = w') := by
          rw [← hbl]
          exact fun w => blank_any (P.extract p P.size) w hpsz
        clear hgd hbl hpsz
        go_wp2_with fail
        refine (HBL.out _).mono ?_
        rintro e w' ⟨rfl, rfl⟩
        go_wp2_with fail
        refine (ex_any _ (HT.out.keep ((HB2.out.alloc _).trans HB.out))).mono ?_
        rintro e w3 ⟨rfl, hb3⟩
        have HB3 := Lib.hid (((HB2.out.alloc _).trans HB.out).trans hb3)
        clear hb3
        go_wp2_with fail
        go_ret
        exact ⟨rfl, HB3.out⟩
end Go.Proofs.YtcfjolmeenneeaaDoor
