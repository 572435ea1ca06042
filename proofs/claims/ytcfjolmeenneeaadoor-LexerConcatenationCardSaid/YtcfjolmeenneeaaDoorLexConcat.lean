/-
  LexerConcatenation: the walk.
-/
import Derived.Test.YtcfjolmeenneeaaDoorLexBlank
namespace Go.Proofs.YtcfjolmeenneeaaDoor
open Go.RowKit (wrap32 wrap64)
open Go.RowKit
set_option maxHeartbeats 400000

theorem piece_size (xs : List Int) : (⟨(pieceL xs).toArray⟩ : ByteArray).size = (pieceL xs).length := by rw [← size_len]
theorem scanL_short (l : List UInt8) (h : l.length ≤ 20000) : scanL l = scanAt l.length l := by
  unfold scanL
  rw [if_neg (by omega)]
theorem bytes_add (a b : ByteArray) (la lb : List UInt8) (ha : a = ⟨la.toArray⟩) (hb : b = ⟨lb.toArray⟩) (hl : la.length + lb.length ≤ 100000) :
    ∃ y, y = (⟨(la ++ lb).toArray⟩ : ByteArray) ∧ ∀ W, (Op.stringOp .add a b).run Tryd.prog W = .ok (.string y) W := by
  refine ⟨a ++ b, ?_, fun W => run_string_add_sum W a b ?_⟩
  · rw [ha, hb]
    exact ByteArray.mk_append_mk _ _
  · rw [ha, hb]
    show (⟨la.toArray⟩ : ByteArray).size + (⟨lb.toArray⟩ : ByteArray).size ≤ _
    rw [← size_len, ← size_len]
    show la.length + lb.length ≤ _
    omega
/-- Scan, when its answer does not matter. -/
theorem scan_some {s : ByteArray} (w : World) (hs : s.size ≤ maxLen) (ht : Tab w) : Calls Tryd.prog 9 #[.string s] w fun e w' => ∃ v a p, e = .returned (.tuple #[v, .agg #[.int .i64 a, .int .i64 p]]) ∧ Bel w w' := by
  cases h : scanL s.data.toList with
  | ok ts => exact (scan_ok_any h w hs ht).mono (fun e w' ⟨v, he, _, hb⟩ => ⟨v, 0, 0, he, hb⟩)
  | err a p => exact (scan_err_any h w hs ht).mono (fun e w' ⟨he, hb⟩ => ⟨_, a, p, he, hb⟩)
theorem scan_pos (n : Nat) (l : List UInt8) : ∀ ts, scanAt n l = .ok ts → ∀ t ∈ ts, t.pos ≤ n := by
  refine scan_induct (P := fun l => ∀ ts, scanAt n l = .ok ts → ∀ t ∈ ts, t.pos ≤ n) ?_ ?_ ?_ l
  · intro l h ts e t ht
    rw [scanAt_nil h] at e
    cases e
    cases ht
  · intro l r h hr hw ts e
    rw [scanAt_err h hr hw] at e
    cases e
  · intro l r h hr hw ih ts e t ht
    rw [scanAt_ok h hr hw] at e
    cases hs : scanAt n (r.drop (tokText r).length) with
    | err a p => rw [hs] at e; cases e
    | ok us =>
      rw [hs] at e
      cases e
      rcases List.mem_cons.1 ht with rfl | ht
      · exact Nat.sub_le _ _
      · exact ih us hs t ht
theorem slice_of {w : World} {v : Value} {ts : List Tok} (h : ToksIs w v ts) : ∃ q c, v = .slice q ts.length c := by
  rcases h with ⟨⟨q, c, rfl⟩, rfl⟩ | ⟨g, c, rfl, _⟩
  · exact ⟨q, c, rfl⟩
  · exact ⟨_, c, rfl⟩
set_option maxRecDepth 100000 in
theorem concat_walk (v1 : Value) (xs : List Int) (v2 : Value) (ys : List Int) (w : World) (hx : IntsIs w v1 xs) (hy : IntsIs w v2 ys) (ht : Tab w) : Calls Tryd.prog 7 #[v1, v2] w fun e w' => e = .returned (.bool true) ∧ Bel w w' := by
  have HT := Lib.hid ht
  have HX := Lib.hid hx
  have HY := Lib.hid hy
  obtain ⟨S, hS⟩ : ∃ P : ByteArray, P = ⟨(pieceL xs).toArray⟩ := ⟨_, rfl⟩
  obtain ⟨T, hT⟩ : ∃ P : ByteArray, P = ⟨(pieceL ys).toArray⟩ := ⟨_, rfl⟩
  have hSl : S.size ≤ 570 := by rw [hS, piece_size]; exact piece_len xs
  have hTl : T.size ≤ 570 := by rw [hT, piece_size]; exact piece_len ys
  have HC1 : Hid (∀ w, IntsIs w v1 xs → Calls Tryd.prog 11 #[v1] w fun e w' => e = .returned (.string S) ∧ Bel w w') := by
    rw [hS]
    exact fun w h => pieces_any v1 xs w h
  have HC2 : Hid (∀ w, IntsIs w v2 ys → Calls Tryd.prog 11 #[v2] w fun e w' => e = .returned (.string T) ∧ Bel w w') := by
    rw [hT]
    exact fun w h => pieces_any v2 ys w h
  have hsS : scanL S.data.toList = scanAt S.size S.data.toList := by rw [scanL_short _ (by rw [size_len]; omega), size_len]
  have hsT : scanL T.data.toList = scanAt T.size T.data.toList := by rw [scanL_short _ (by rw [size_len]; omega), size_len]
  obtain ⟨y1, hy1, hadd1⟩ := bytes_add S ⟨#[10]⟩ _ [10] (bytes_ext S _ rfl) rfl (by rw [size_len]; simp only [List.length_cons, List.length_nil]; omega)
  obtain ⟨Y, hY, hadd2⟩ := bytes_add y1 T _ _ hy1 (bytes_ext T _ rfl) (by rw [size_len]; simp only [List.length_append, List.length_cons, List.length_nil, size_len]; omega)
  have hYd : Y.data.toList = S.data.toList ++ 10 :: T.data.toList := by rw [hY]; simp
  have hYs : Y.size = S.size + (T.size + 1) := by rw [← size_len, hYd, List.length_append, List.length_cons, size_len, size_len]
  have hsY : scanL Y.data.toList = (scanAt S.size S.data.toList).app ((scanAt T.size T.data.toList).shift (S.size + 1)) := by
    rw [scanL_short _ (by rw [size_len]; omega), hYd, List.length_append, List.length_cons, size_len, size_len]
    have := scan_concat T.data.toList S.size S.data.toList (by rw [size_len]; exact Nat.le_refl _)
    rw [size_len] at this
    exact this
  have HMS : Hid (S.size ≤ maxLen) := Lib.hid (by unfold maxLen; omega)
  have HMT : Hid (T.size ≤ maxLen) := Lib.hid (by unfold maxLen; omega)
  have HMY : Hid (Y.size ≤ maxLen) := Lib.hid (by unfold maxLen; omega)
  clear hx hy ht hS hT hy1 hY hYd hYs
  cases hrS : scanAt S.size S.data.toList with
  | err a p =>
    have HS : Hid (scanL S.data.toList = .err a p) := Lib.hid (hsS.trans hrS)
    obtain ⟨hp, ha⟩ := scan_err_pos S.size S.data.toList (by rw [size_len]; exact Nat.le_refl _) a p hrS
    have HYR : Hid (scanL Y.data.toList = .err a p) := Lib.hid (by
      rw [hsY, hrS]
      cases (scanAt T.size T.data.toList).shift (S.size + 1) <;> rfl)
    have t1 : (a == 0) = false := by rw [beq_eq_false_iff_ne]; omega
    have heq := err_eql a p a p
    rw [show ((a : Int) == a && ((p : Int) == (p : Int))) = true by simp] at heq
    have hg := err_guard
    clear hrS hsS hsT hsY ha
    go_enter Tryd.func7, Tryd.ntmps7
    go_wp2_with fail
    refine (HC1.out _ HX.out).mono ?_
    rintro e w0 ⟨rfl, hb0⟩
    have HB0 := Lib.hid hb0
    clear hb0
    go_wp2_with fail
    refine (HC2.out _ (HY.out.keep HB0.out)).mono ?_
    rintro e w1 ⟨rfl, hb1⟩
    have HB1 := Lib.hid (HB0.out.trans hb1)
    clear hb1
    go_wp2_with fail
    refine (scan_err_any HS.out _ HMS.out (HT.out.keep HB1.out)).mono ?_
    rintro e w2 ⟨rfl, hb2⟩
    have HB2 := Lib.hid (HB1.out.trans hb2)
    clear hb2
    go_wp2_with fail
    refine (scan_some _ HMT.out (HT.out.keep (HB2.out.alloc _))).mono ?_
    rintro e w3 ⟨u3, b3, p3, rfl, hb3⟩
    have HB3 := Lib.hid hb3
    clear hb3
    go_wp2_with fail
    refine (scan_err_any HYR.out _ HMY.out (HT.out.keep (((HB2.out.alloc _).trans HB3.out).alloc _))).mono ?_
    rintro e w4 ⟨rfl, hb4⟩
    have HB4 := Lib.hid (((HB2.out.alloc _).trans HB3.out |>.alloc _).trans hb4)
    obtain ⟨c0, c1, f0, f1, hlt1⟩ := err_cell ((HB3.out.alloc _).trans hb4)
    clear hb4
    go_wp2_with fail
    refine (ex_any _ (HT.out.keep (HB4.out.alloc _))).mono ?_
    rintro e w5 ⟨rfl, hb5⟩
    have HB5 := Lib.hid ((HB4.out.alloc _).trans hb5)
    clear hb5
    go_wp2_with fail
    go_ret
    exact ⟨rfl, HB5.out⟩
  | ok ts =>
    have HS : Hid (scanL S.data.toList = .ok ts) := Lib.hid (hsS.trans hrS)
    have hn1 := scan_count _ _ ts hrS
    rw [size_len] at hn1
    cases hrT : scanAt T.size T.data.toList with
    | err b q =>
      have HTR : Hid (scanL T.data.toList = .err b q) := Lib.hid (hsT.trans hrT)
      obtain ⟨hp, ha⟩ := scan_err_pos T.size T.data.toList (by rw [size_len]; exact Nat.le_refl _) b q hrT
      have t1 : (b == 0) = false := by rw [beq_eq_false_iff_ne]; omega
      obtain ⟨m1, hm1⟩ : ∃ m, q + S.size = m := ⟨_, rfl⟩
      have e1 : (q : Int) + (S.size : Int) = (m1 : Int) := by omega
      have HYR : Hid (scanL Y.data.toList = .err b (m1 + 1)) := Lib.hid (by
        rw [hsY, hrS, hrT, ← hm1]
        rfl)
      obtain ⟨m2, hm2⟩ : ∃ m, m1 + 1 = m := ⟨_, rfl⟩
      have e2 : (m1 : Int) + 1 = (m2 : Int) := by omega
      rw [hm2] at HYR
      have hmm : m2 ≤ 2000 := by omega
      clear hrS hrT hsS hsT hsY ha hm1 hm2
      go_enter Tryd.func7, Tryd.ntmps7
      go_wp2_with fail
      refine (HC1.out _ HX.out).mono ?_
      rintro e w0 ⟨rfl, hb0⟩
      have HB0 := Lib.hid hb0
      clear hb0
      go_wp2_with fail
      refine (HC2.out _ (HY.out.keep HB0.out)).mono ?_
      rintro e w1 ⟨rfl, hb1⟩
      have HB1 := Lib.hid (HB0.out.trans hb1)
      clear hb1
      go_wp2_with fail
      refine (scan_ok_any HS.out _ HMS.out (HT.out.keep HB1.out)).mono ?_
      rintro e w2 ⟨u, rfl, ho, hb2⟩
      have HB2 := Lib.hid (HB1.out.trans hb2)
      clear hb2 ho
      go_wp2_with fail
      refine (scan_err_any HTR.out _ HMT.out (HT.out.keep (HB2.out.alloc _))).mono ?_
      rintro e w3 ⟨rfl, hb3⟩
      have HB3 := Lib.hid hb3
      clear hb3
      go_wp2_with fail
      refine (scan_err_any HYR.out _ HMY.out (HT.out.keep (((HB2.out.alloc _).trans HB3.out).alloc _))).mono ?_
      rintro e w4 ⟨rfl, hb4⟩
      have HB4 := Lib.hid (((HB2.out.alloc _).trans HB3.out |>.alloc _).trans hb4)
      obtain ⟨c0, c1, f0, f1, hlt1⟩ := err_cell ((HB3.out.alloc _).trans hb4)
      obtain ⟨d0, d1, g0, g1, hlt2⟩ := err_cell hb4
      clear hb4
      go_wp2_with fail
      refine (ex_any _ (HT.out.keep (HB4.out.alloc _))).mono ?_
      rintro e w5 ⟨rfl, hb5⟩
      have HB5 := Lib.hid ((HB4.out.alloc _).trans hb5)
      clear hb5
      go_wp2_with fail
      go_ret
      exact ⟨rfl, HB5.out⟩
    | ok us =>
      have HTR : Hid (scanL T.data.toList = .ok us) := Lib.hid (hsT.trans hrT)
      have hn2 := scan_count _ _ us hrT
      rw [size_len] at hn2
      have HPOS := Lib.hid (scan_pos _ _ us hrT)
      have HYR : Hid (scanL Y.data.toList = .ok (ts ++ us.map (shiftTok (S.size + 1)))) := Lib.hid (by
        rw [hsY, hrS, hrT]
        rfl)
      obtain ⟨n1, hN1⟩ : ∃ n, ts.length = n := ⟨_, rfl⟩
      obtain ⟨n2, hN2⟩ : ∃ n, us.length = n := ⟨_, rfl⟩
      obtain ⟨n3, hN3⟩ : ∃ n, (ts ++ us.map (shiftTok (S.size + 1))).length = n := ⟨_, rfl⟩
      have hsum : n1 + n2 = n3 := by rw [← hN1, ← hN2, ← hN3]; simp
      have e12 : (n1 : Int) + (n2 : Int) = (n3 : Int) := by omega
      have hne : ((n3 : Int) == (n3 : Int)) = true := by simp
      rw [hN1] at hn1
      rw [hN2] at hn2
      have HN1 := Lib.hid hN1
      have HN2 := Lib.hid hN2
      have HN3 := Lib.hid hN3
      have HSUM := Lib.hid hsum
      clear hrS hrT hsS hsT hsY hN1 hN2 hN3 hsum
      go_enter Tryd.func7, Tryd.ntmps7
      go_wp2_with fail
      refine (HC1.out _ HX.out).mono ?_
      rintro e w0 ⟨rfl, hb0⟩
      have HB0 := Lib.hid hb0
      clear hb0
      go_wp2_with fail
      refine (HC2.out _ (HY.out.keep HB0.out)).mono ?_
      rintro e w1 ⟨rfl, hb1⟩
      have HB1 := Lib.hid (HB0.out.trans hb1)
      clear hb1
      go_wp2_with fail
      refine (scan_ok_any HS.out _ HMS.out (HT.out.keep HB1.out)).mono ?_
      rintro e w2 ⟨u1, rfl, ho1, hb2⟩
      have HB2 := Lib.hid (HB1.out.trans hb2)
      have HO1 := Lib.hid ho1
      obtain ⟨q1, k1, rfl⟩ := slice_of ho1
      rw [HN1.out] at HO1
      rw [HN1.out]
      clear hb2 ho1
      go_wp2_with fail
      refine (scan_ok_any HTR.out _ HMT.out (HT.out.keep (HB2.out.alloc _))).mono ?_
      rintro e w3 ⟨u2, rfl, ho2, hb3⟩
      have HB3 := Lib.hid hb3
      have HO2 := Lib.hid ho2
      obtain ⟨q2, k2, rfl⟩ := slice_of ho2
      rw [HN2.out] at HO2
      rw [HN2.out]
      clear hb3 ho2
      go_wp2_with fail
      refine (scan_ok_any HYR.out _ HMY.out (HT.out.keep (((HB2.out.alloc _).trans HB3.out).alloc _))).mono ?_
      rintro e w4 ⟨u3, rfl, ho3, hb4⟩
      have HB4 := Lib.hid (((HB2.out.alloc _).trans HB3.out |>.alloc _).trans hb4)
      obtain ⟨c0, c1, f0, f1, hlt1⟩ := err_cell ((HB3.out.alloc _).trans hb4)
      obtain ⟨d0, d1, g0, g1, hlt2⟩ := err_cell hb4
      have HO3 := Lib.hid ho3
      have HO1b := Lib.hid (((HO1.out.keep ((Bel.refl _).alloc (Obj.cells #[Value.int .i64 0, Value.int .i64 0] 25))).keep HB3.out |>.keep ((Bel.refl _).alloc (Obj.cells #[Value.int .i64 0, Value.int .i64 0] 25))).keep hb4)
      have HO2b := Lib.hid ((HO2.out.keep ((Bel.refl _).alloc (Obj.cells #[Value.int .i64 0, Value.int .i64 0] 25))).keep hb4)
      obtain ⟨q3, k3, rfl⟩ := slice_of ho3
      rw [HN3.out] at HO3
      rw [HN3.out]
      clear hb4 ho3
      go_wp2_with fail
      go_loopw [93] (fun i wr => ∃ k : Nat, k ≤ n3 ∧ i = .int .i64 k ∧ Hid (Bel (w4.alloc (Obj.cells #[Value.int .i64 0, Value.int .i64 0] 25)) wr)) (fun i _ => n3 - (intOf i).toNat)
      case atStart => exact ⟨0, Nat.zero_le _, rfl, Lib.hid (Bel.refl _)⟩
      case round =>
        obtain ⟨k, hk, rfl, HBB⟩ := hrel
        by_cases hlt : k < n3
        · obtain ⟨z, hzk⟩ : ∃ z, (ts ++ us.map (shiftTok (S.size + 1)))[k]? = some z := ⟨_, List.getElem?_eq_getElem (by rw [HN3.out]; exact hlt)⟩
          have hwc := (HO3.out.keep ((Bel.refl _).alloc (Obj.cells #[Value.int .i64 0, Value.int .i64 0] 25))).keep HBB.out
          rcases hwc with ⟨_, h0⟩ | ⟨g3, cc3, hvv3, _, _, hcell3⟩
          · have := HN3.out; rw [h0] at this; simp at this; omega
          rw [HN3.out] at hvv3
          obtain ⟨rfl, rfl⟩ : q3 = some ⟨g3, 0, none⟩ ∧ k3 = cc3 := by simpa using hvv3
          obtain ⟨a1, a2, a3⟩ := hcell3 k z hzk
          obtain ⟨y, hy⟩ : ∃ y : ByteArray, y = ⟨z.text.toArray⟩ := ⟨_, rfl⟩
          rw [← hy] at a2
          obtain ⟨o, ho⟩ : ∃ o, z.kind = o := ⟨_, rfl⟩
          rw [ho] at a1
          obtain ⟨p, hp⟩ : ∃ p, z.pos = p := ⟨_, rfl⟩
          rw [hp] at a3
          have c1 : ∀ q, (wr.drewN q).cell? ⟨g3, k * 3, none⟩ = some (.int .i64 o) := fun q => a1
          have c2 : ∀ q, (wr.drewN q).cell? ⟨g3, k * 3 + 1, none⟩ = some (.string y) := fun q => a2
          have c3 : ∀ q, (wr.drewN q).cell? ⟨g3, k * 3 + 2, none⟩ = some (.int .i64 p) := fun q => a3
          have k0 : (0 : Int) ≤ (k : Int) := by omega
          have k1' : (k : Int) < (n3 : Int) := by omega
          by_cases hin : k < n1
          · have hxk : ts[k]? = some z := by
              rw [← hzk, List.getElem?_append_left (by rw [HN1.out]; exact hin)]
            have hwa := (HO1b.out.keep ((Bel.refl _).alloc (Obj.cells #[Value.int .i64 0, Value.int .i64 0] 25))).keep HBB.out
            rcases hwa with ⟨_, h0⟩ | ⟨g, cc, hvv, _, _, hcell⟩
            · have := HN1.out; rw [h0] at this; simp at this; omega
            rw [HN1.out] at hvv
            obtain ⟨rfl, rfl⟩ : q1 = some ⟨g, 0, none⟩ ∧ k1 = cc := by simpa using hvv
            obtain ⟨b1, b2, b3⟩ := hcell k z hxk
            rw [← hy] at b2
            rw [ho] at b1
            rw [hp] at b3
            have x1 : ∀ q, (wr.drewN q).cell? ⟨g, k * 3, none⟩ = some (.int .i64 o) := fun q => b1
            have x2 : ∀ q, (wr.drewN q).cell? ⟨g, k * 3 + 1, none⟩ = some (.string y) := fun q => b2
            have x3 : ∀ q, (wr.drewN q).cell? ⟨g, k * 3 + 2, none⟩ = some (.int .i64 p) := fun q => b3
            have hcmp := tok_neq o o y y p p
            rw [show (!(o == o && (y.toList == y.toList && ((p : Int) == (p : Int))))) = false by simp] at hcmp
            have hg := (show Tryd.prog.eqGuardType Tryd.prog.depth 30 = false by kernel_rfl)
            have l1 : decide ((k : Int) < (n1 : Int)) = true := by simp; omega
            have l2 : decide (k < n1) = true := by simp; omega
            have l3 : decide ((n1 : Int) ≤ (k : Int)) = false := by simp; omega
            have l4 : decide (n1 ≤ k) = false := by simp; omega
            clear hzk hxk hvv hvv3 hcell hcell3 a1 a2 a3 b1 b2 b3 hy ho hp
            go_wp2_with fail
            go_quiet (fail)
            go_wp2_with fail
            exact ⟨⟨k + 1, by omega, by go_num, Lib.hid (bel_drewN HBB.out _)⟩, by simp [intOf]; omega⟩
          · obtain ⟨j, hj⟩ : ∃ j, k - n1 = j := ⟨_, rfl⟩
            have hj2 : (k : Int) - (n1 : Int) = (j : Int) := by omega
            have hjl : j < n2 := by have := HSUM.out; omega
            obtain ⟨x, hxj⟩ : ∃ x, us[j]? = some x := ⟨_, List.getElem?_eq_getElem (by rw [HN2.out]; exact hjl)⟩
            have hzx : z = shiftTok (S.size + 1) x := by
              rw [List.getElem?_append_right (by rw [HN1.out]; omega), HN1.out, hj, List.getElem?_map, hxj] at hzk
              exact (Option.some.inj hzk).symm
            have hxp := HPOS.out x (List.mem_of_getElem? hxj)
            have hwb := (HO2b.out.keep ((Bel.refl _).alloc (Obj.cells #[Value.int .i64 0, Value.int .i64 0] 25))).keep HBB.out
            rcases hwb with ⟨_, h0⟩ | ⟨g, cc, hvv, _, _, hcell⟩
            · have := HN2.out; rw [h0] at this; simp at this; omega
            rw [HN2.out] at hvv
            obtain ⟨rfl, rfl⟩ : q2 = some ⟨g, 0, none⟩ ∧ k2 = cc := by simpa using hvv
            obtain ⟨b1, b2, b3⟩ := hcell j x hxj
            rw [show x.text = z.text by rw [hzx]; rfl, ← hy] at b2
            rw [show x.kind = z.kind by rw [hzx]; rfl, ho] at b1
            obtain ⟨p2, hp2⟩ : ∃ p, x.pos = p := ⟨_, rfl⟩
            rw [hp2] at b3 hxp
            obtain ⟨m1, hm1⟩ : ∃ m, p2 + S.size = m := ⟨_, rfl⟩
            have hpm : p = m1 + 1 := by rw [← hp, hzx, ← hm1, ← hp2]; rfl
            have s1 : (p2 : Int) + (S.size : Int) = (m1 : Int) := by omega
            have s2 : (m1 : Int) + 1 = (p : Int) := by omega
            have r1 : IntKind.i64.wrap (m1 : Int) = (m1 : Int) := IntWalk.i64_in _ (by omega)
            have r2 : IntKind.i64.wrap (p : Int) = (p : Int) := IntWalk.i64_in _ (by omega)
            have x1 : ∀ q, ((wr.drewN q)).cell? ⟨g, j * 3, none⟩ = some (.int .i64 o) := fun q => b1
            have x2 : ∀ q, ((wr.drewN q)).cell? ⟨g, j * 3 + 1, none⟩ = some (.string y) := fun q => b2
            have x3 : ∀ q, ((wr.drewN q)).cell? ⟨g, j * 3 + 2, none⟩ = some (.int .i64 p2) := fun q => b3
            have l1 : decide ((k : Int) < (n1 : Int)) = false := by simp; omega
            have l2 : decide (k < n1) = false := by simp; omega
            have l3 : decide ((n1 : Int) ≤ (k : Int)) = true := by simp; omega
            have l4 : decide (n1 ≤ k) = true := by simp; omega
            have j0 : (0 : Int) ≤ (j : Int) := by omega
            have j1 : (j : Int) < (n2 : Int) := by omega
            have v1 : (o != o) = false := by simp
            have v2 : (y.toList == y.toList) = true := by simp
            have v3 : ((p : Int) != (p : Int)) = false := by simp
            clear hzk hxj hvv hvv3 hcell hcell3 a1 a2 a3 b1 b2 b3 hy ho hp hp2 hm1 hpm hzx hj
            go_wp2_with fail
            go_quiet (fail)
            obtain ⟨wq, hwq⟩ : ∃ w', w' = wr.drewN nq := ⟨_, rfl⟩
            rw [← hwq]
            have HBQ := Lib.hid (show Bel (w4.alloc (Obj.cells #[Value.int .i64 0, Value.int .i64 0] 25)) wq from by rw [hwq]; exact bel_drewN HBB.out nq)
            have y1 : wq.cell? ⟨g, j * 3, none⟩ = some (.int .i64 o) := by rw [hwq]; exact x1 nq
            have y2 : wq.cell? ⟨g, j * 3 + 1, none⟩ = some (.string y) := by rw [hwq]; exact x2 nq
            have y3 : wq.cell? ⟨g, j * 3 + 2, none⟩ = some (.int .i64 p2) := by rw [hwq]; exact x3 nq
            have hbo := (Bel.refl wq).alloc (Obj.cells #[Value.int .i64 o, Value.string y, Value.int .i64 p2] 30)
            have z1 : ∀ q, ((wq.alloc (Obj.cells #[Value.int .i64 o, Value.string y, Value.int .i64 p2] 30)).drewN q).cell? ⟨g3, k * 3, none⟩ = some (.int .i64 o) := fun q => by
              have h := c1 nq
              rw [← hwq] at h
              exact (Below.cell (bel_drewN hbo q) (World.block_lt_of_cell? wq _ h)).trans h
            have z2 : ∀ q, ((wq.alloc (Obj.cells #[Value.int .i64 o, Value.string y, Value.int .i64 p2] 30)).drewN q).cell? ⟨g3, k * 3 + 1, none⟩ = some (.string y) := fun q => by
              have h := c2 nq
              rw [← hwq] at h
              exact (Below.cell (bel_drewN hbo q) (World.block_lt_of_cell? wq _ h)).trans h
            have z3 : ∀ q, ((wq.alloc (Obj.cells #[Value.int .i64 o, Value.string y, Value.int .i64 p2] 30)).drewN q).cell? ⟨g3, k * 3 + 2, none⟩ = some (.int .i64 p) := fun q => by
              have h := c3 nq
              rw [← hwq] at h
              exact (Below.cell (bel_drewN hbo q) (World.block_lt_of_cell? wq _ h)).trans h
            have d1 : ∀ q, ((wq.alloc (Obj.cells #[Value.int .i64 o, Value.string y, Value.int .i64 p2] 30)).drewN q).cell? ⟨wq.heap.size, 0, none⟩ = some (.int .i64 o) := fun q => by simp
            have d2 : ∀ q, ((wq.alloc (Obj.cells #[Value.int .i64 o, Value.string y, Value.int .i64 p2] 30)).drewN q).cell? ⟨wq.heap.size, 1, none⟩ = some (.string y) := fun q => by simp
            have d3 : ∀ q, ((wq.alloc (Obj.cells #[Value.int .i64 o, Value.string y, Value.int .i64 p2] 30)).drewN q).cell? ⟨wq.heap.size, 2, none⟩ = some (.int .i64 p2) := fun q => by simp
            clear c1 c2 c3 x1 x2 x3 hwq hbo
            go_wp2_with fail
            go_quiet (fail)
            go_wp2_with fail
            exact ⟨⟨k + 1, by omega, by go_num, Lib.hid (bel_drewN (HBQ.out.alloc _) _)⟩, by simp [intOf]; omega⟩
        · obtain rfl : k = n3 := by omega
          go_wp2_with fail
          refine (ex_any _ (HT.out.keep ((HB4.out.alloc _).trans HBB.out))).mono ?_
          rintro e w5 ⟨rfl, hb5⟩
          have HB5 := Lib.hid (((HB4.out.alloc _).trans HBB.out).trans hb5)
          clear hb5
          go_wp2_with fail
          go_ret
          exact ⟨rfl, HB5.out⟩
end Go.Proofs.YtcfjolmeenneeaaDoor
