/-
  LexerRespaced: the walk.
-/
import Derived.Test.YtcfjolmeenneeaaDoorLexBlank
namespace Go.Proofs.YtcfjolmeenneeaaDoor
open Go.RowKit (wrap32 wrap64)
open Go.RowKit
set_option maxHeartbeats 400000

theorem piece_size (xs : List Int) : (⟨(pieceL xs).toArray⟩ : ByteArray).size = (pieceL xs).length := by rw [← size_len]
theorem scanL_short (l : List UInt8) (h : l.length ≤ 20000) : scanL l = scanAt l.length l := by
  unfold scanL
  rw [if_neg (by omega)]
theorem bytes_add (a b : ByteArray) (la lb : List UInt8) (ha : a = ⟨la.toArray⟩) (hb : b = ⟨lb.toArray⟩) (hl : la.length + lb.length ≤ 100000) :
    ∃ y, y = (⟨(la ++ lb).toArray⟩ : ByteArray) ∧ ∀ W, (Op.stringOp .add a b).run Tryd.prog W = .ok (.string y) W := by
  refine ⟨a ++ b, ?_, fun W => run_string_add_sum W a b ?_⟩
  · rw [ha, hb]
    exact ByteArray.mk_append_mk _ _
  · rw [ha, hb]
    show (⟨la.toArray⟩ : ByteArray).size + (⟨lb.toArray⟩ : ByteArray).size ≤ _
    rw [← size_len, ← size_len]
    show la.length + lb.length ≤ _
    omega
theorem spaced_snoc : ∀ (ts : List Tok) (t : Tok), spaced (ts ++ [t]) = spaced ts ++ (32 :: t.text)
  | [], t => by simp [spaced]
  | x :: ts, t => by
    rw [List.cons_append, spaced, spaced, spaced_snoc ts t]
    simp
theorem spaced_take_len : ∀ (ts : List Tok) (k : Nat), (spaced (ts.take k)).length ≤ (spaced ts).length
  | [], k => by simp [spaced]
  | x :: ts, 0 => by simp [spaced]
  | x :: ts, k + 1 => by
    have := spaced_take_len ts k
    rw [List.take_succ_cons, spaced, spaced, List.length_append, List.length_append]
    omega
theorem take_snoc_tok (ts : List Tok) (k : Nat) (h : k < ts.length) : ts.take (k + 1) = ts.take k ++ [ts[k]] := by
  rw [List.take_succ_eq_append_getElem h]
/-- The rescanned text's tokens. -/
theorem respaced_scan (ts : List Tok) (L line : List UInt8) (n : Nat) (hs : scanAt n L = .ok ts) (hL : L.length ≤ 570) (hl : line.length ≤ 102) (h10 : ∀ c ∈ line, c.toNat ≠ 10) :
    ∃ us, scanL (spaced ts ++ (32 :: 35 :: 32 :: line)) = .ok us ∧ us.map (fun t => (t.kind, t.text)) = ts.map (fun t => (t.kind, t.text)) := by
  have hlen := spaced_len n L ts hs
  have h1 : rest false (32 :: 35 :: 32 :: line) = [] := by
    rw [rest, if_pos (by decide), rest, if_neg (by decide), if_pos (by decide), rest, if_neg (by decide)]
    exact rest_comment line h10
  rw [scanL_short _ (by simp only [List.length_append, List.length_cons]; omega)]
  exact respaced _ (35 :: 32 :: line) h1 ts (scan_good n L ts hs)
set_option maxRecDepth 100000 in
theorem respaced_walk (v : Value) (xs : List Int) (note : ByteArray) (w : World) (hx : IntsIs w v xs) (hnote : note.size ≤ maxLen) (ht : Tab w) : Calls Tryd.prog 6 #[v, .string note] w fun e w' => e = .returned (.bool true) ∧ Bel w w' := by
  have HT := Lib.hid ht
  have HX := Lib.hid hx
  have HNO := Lib.hid hnote
  obtain ⟨P, hP⟩ : ∃ P : ByteArray, P = ⟨(pieceL xs).toArray⟩ := ⟨_, rfl⟩
  have hPl : P.size ≤ 570 := by rw [hP, piece_size]; exact piece_len xs
  have hsc : scanL P.data.toList = scanAt P.size P.data.toList := by rw [scanL_short _ (by rw [size_len]; omega), size_len]
  have HC : Hid (∀ w, IntsIs w v xs → Calls Tryd.prog 11 #[v] w fun e w' => e = .returned (.string P) ∧ Bel w w') := by
    rw [hP]
    exact fun w h => pieces_any v xs w h
  have HM : Hid (P.size ≤ maxLen) := Lib.hid (by unfold maxLen; omega)
  have HP570 := Lib.hid hPl
  clear hx ht hP hnote
  cases hres : scanAt P.size P.data.toList with
  | err a p =>
    have HS : Hid (scanL P.data.toList = .err a p) := Lib.hid (hsc.trans hres)
    obtain ⟨hp, ha⟩ := scan_err_pos P.size P.data.toList (by rw [size_len]; exact Nat.le_refl _) a p hres
    have t1 : (a == 0) = false := by rw [beq_eq_false_iff_ne]; omega
    clear hres hsc ha
    go_enter Tryd.func6, Tryd.ntmps6
    go_wp2_with fail
    refine (HC.out _ HX.out).mono ?_
    rintro e w1 ⟨rfl, hb1⟩
    have HB1 := Lib.hid hb1
    clear hb1
    go_wp2_with fail
    refine (scan_err_any HS.out _ HM.out (HT.out.keep HB1.out)).mono ?_
    rintro e w2 ⟨rfl, hb2⟩
    have HB2 := Lib.hid (HB1.out.trans hb2)
    clear hb2
    go_wp2_with fail
    refine (ex_any _ (HT.out.keep (HB2.out.alloc _))).mono ?_
    rintro e w3 ⟨rfl, hb3⟩
    have HB3 := Lib.hid ((HB2.out.alloc _).trans hb3)
    clear hb3
    go_wp2_with fail
    go_ret
    exact ⟨rfl, HB3.out⟩
  | ok ts =>
    have HS : Hid (scanL P.data.toList = .ok ts) := Lib.hid (hsc.trans hres)
    have HRES := Lib.hid hres
    have hcount := scan_count _ _ ts hres
    have hsl := spaced_len _ _ ts hres
    rw [size_len] at hcount hsl
    clear hres hsc
    go_enter Tryd.func6, Tryd.ntmps6
    go_wp2_with fail
    refine (HC.out _ HX.out).mono ?_
    rintro e w1 ⟨rfl, hb1⟩
    have HB1 := Lib.hid hb1
    clear hb1
    go_wp2_with fail
    refine (scan_ok_any HS.out _ HM.out (HT.out.keep HB1.out)).mono ?_
    rintro e w2 ⟨u, rfl, ho, hb2⟩
    have HB2 := Lib.hid (HB1.out.trans hb2)
    have HO := Lib.hid ho
    obtain ⟨q, c, hu⟩ : ∃ q c, u = .slice q ts.length c := by
      rcases ho with ⟨⟨q, c, rfl⟩, rfl⟩ | ⟨g, c, rfl, _⟩
      · exact ⟨q, c, rfl⟩
      · exact ⟨_, c, rfl⟩
    subst hu
    clear hb2 ho
    go_wp2_with fail
    go_loopw [7, 25] (fun m i wr => ∃ (k : Nat) (t : ByteArray), k ≤ ts.length ∧ i = .int .i64 k ∧ m = .string t ∧ Hid (t = ⟨(spaced (ts.take k)).toArray⟩) ∧ Hid (Bel (w2.alloc (Obj.cells #[Value.int .i64 0, Value.int .i64 0] 25)) wr)) (fun _ i _ => ts.length - (intOf i).toNat)
    case atStart => exact ⟨0, ⟨#[]⟩, Nat.zero_le _, rfl, rfl, Lib.hid rfl, Lib.hid (Bel.refl _)⟩
    case round =>
      obtain ⟨k, t, hk, rfl, rfl, HTT, HB⟩ := hrel
      by_cases hlt : k < ts.length
      · obtain ⟨x, hxk⟩ : ∃ x, ts[k] = x := ⟨_, rfl⟩
        have hti : ts[k]? = some x := by rw [List.getElem?_eq_getElem hlt, hxk]
        have hw2 := (HO.out.keep ((Bel.refl _).alloc (Obj.cells #[Value.int .i64 0, Value.int .i64 0] 25))).keep HB.out
        rcases hw2 with ⟨_, h0⟩ | ⟨g, cc, hvv, _, _, hcell⟩
        · rw [h0] at hlt; simp at hlt
        obtain ⟨rfl, rfl⟩ : q = some ⟨g, 0, none⟩ ∧ c = cc := by simpa using hvv
        obtain ⟨a1, a2, a3⟩ := hcell k x hti
        obtain ⟨y, hy⟩ : ∃ y : ByteArray, y = ⟨x.text.toArray⟩ := ⟨_, rfl⟩
        rw [← hy] at a2
        have hsn := spaced_snoc (ts.take k) x
        rw [← hxk, ← take_snoc_tok ts k hlt, hxk] at hsn
        have hln := spaced_take_len ts (k + 1)
        rw [hsn, List.length_append, List.length_cons] at hln
        obtain ⟨y1, hy1, hadd1⟩ := bytes_add t ⟨#[32]⟩ _ [32] HTT.out rfl (by simp only [List.length_cons, List.length_nil]; omega)
        obtain ⟨y2, hy2, hadd2⟩ := bytes_add y1 y _ _ hy1 hy (by simp only [List.length_append, List.length_cons, List.length_nil]; omega)
        have HY2 : Hid (y2 = ⟨(spaced (ts.take (k + 1))).toArray⟩) := Lib.hid (by
          rw [hy2, hsn]
          simp)
        clear hxk hti hvv hcell hy hsn hln hy1 hy2
        go_wp2_with fail
        exact ⟨⟨k + 1, y2, by omega, by go_num, rfl, HY2, Lib.hid (HB.out.alloc _)⟩, by simp [intOf]; omega⟩
      · obtain rfl : k = ts.length := by omega
        rw [List.take_of_length_le (Nat.le_refl _)] at HTT
        obtain ⟨y1, hy1, hadd1⟩ := bytes_add t ⟨#[32, 35, 32]⟩ _ [32, 35, 32] HTT.out rfl (by simp only [List.length_cons, List.length_nil]; omega)
        have HY1 := Lib.hid hy1
        clear hy1
        go_wp2_with fail
        refine (line_any note _ HNO.out).mono ?_
        rintro e w3 ⟨ln, rfl, hln, h10, rfl⟩
        obtain ⟨y2, hy2, hadd2⟩ := bytes_add y1 ln _ _ HY1.out (bytes_ext ln _ rfl) (by rw [size_len]; simp only [List.length_append, List.length_cons, List.length_nil]; omega)
        obtain ⟨us, hus, hmap⟩ := respaced_scan ts P.data.toList ln.data.toList P.size HRES.out (by rw [size_len]; exact HP570.out) (by rw [size_len]; exact hln) h10
        have hy2d : y2.data.toList = spaced ts ++ (32 :: 35 :: 32 :: ln.data.toList) := by rw [hy2]; simp
        rw [← hy2d] at hus
        have hy2s : y2.size ≤ maxLen := by
          rw [← size_len, hy2d]
          simp only [List.length_append, List.length_cons, size_len]
          unfold maxLen
          omega
        have HY2S := Lib.hid hy2s
        have HUS := Lib.hid hus
        have HMAP := Lib.hid hmap
        have hlen : us.length = ts.length := by have := congrArg List.length hmap; simpa using this
        clear hus hmap hy2d hy2s hy2 h10 hln
        go_wp2_with fail
        refine (scan_ok_any HUS.out _ HY2S.out (HT.out.keep ((HB2.out.alloc _).trans HB.out))).mono ?_
        rintro e w4 ⟨u2, rfl, ho2, hb4⟩
        have HB4 := Lib.hid (((HB2.out.alloc _).trans HB.out).trans hb4)
        have HO2 := Lib.hid ho2
        have HOA := Lib.hid (((HO.out.keep ((Bel.refl _).alloc (Obj.cells #[Value.int .i64 0, Value.int .i64 0] 25))).keep HB.out).keep hb4)
        obtain ⟨q2, c2, hu2⟩ : ∃ q c, u2 = .slice q ts.length c := by
          rw [← hlen]
          rcases ho2 with ⟨⟨q, c, rfl⟩, h0⟩ | ⟨g, c, rfl, _⟩
          · exact ⟨q, c, by rw [h0]; rfl⟩
          · exact ⟨_, c, rfl⟩
        subst hu2
        clear hb4 ho2
        have t5 : ((ts.length : Int) == (ts.length : Int)) = true := by simp
        have HLEN := Lib.hid hlen
        clear hlen
        go_wp2_with fail
        go_loopw [56] (fun i wr => ∃ k : Nat, k ≤ ts.length ∧ i = .int .i64 k ∧ Hid (Bel (w4.alloc (Obj.cells #[Value.int .i64 0, Value.int .i64 0] 25)) wr)) (fun i _ => ts.length - (intOf i).toNat)
        case atStart => exact ⟨0, Nat.zero_le _, rfl, Lib.hid (Bel.refl _)⟩
        case round =>
          obtain ⟨k, hk, rfl, HBB⟩ := hrel
          by_cases hlt : k < ts.length
          · obtain ⟨x, hxk⟩ : ∃ x, ts[k]? = some x := ⟨_, List.getElem?_eq_getElem hlt⟩
            obtain ⟨z, hzk⟩ : ∃ z, us[k]? = some z := ⟨_, List.getElem?_eq_getElem (by rw [HLEN.out]; exact hlt)⟩
            have hxz : z.kind = x.kind ∧ z.text = x.text := by
              have h1 := congrArg (fun l => l[k]?) HMAP.out
              simp only [List.getElem?_map, hxk, hzk, Option.map_some, Option.some.injEq, Prod.mk.injEq] at h1
              exact h1
            have hwa := (HOA.out.keep ((Bel.refl _).alloc (Obj.cells #[Value.int .i64 0, Value.int .i64 0] 25))).keep HBB.out
            have hwb := (HO2.out.keep ((Bel.refl _).alloc (Obj.cells #[Value.int .i64 0, Value.int .i64 0] 25))).keep HBB.out
            rcases hwa with ⟨_, h0⟩ | ⟨g, cc, hvv, _, _, hcell⟩
            · rw [h0] at hlt; simp at hlt
            rcases hwb with ⟨_, h0⟩ | ⟨g', cc', hvv', _, _, hcell'⟩
            · have := HLEN.out; rw [h0] at this; simp at this; omega
            obtain ⟨rfl, rfl⟩ : q = some ⟨g, 0, none⟩ ∧ c = cc := by simpa using hvv
            obtain ⟨rfl, _, rfl⟩ : q2 = some ⟨g', 0, none⟩ ∧ ts.length = us.length ∧ c2 = cc' := by simpa using hvv'
            obtain ⟨a1, a2, _⟩ := hcell k x hxk
            obtain ⟨b1, b2, _⟩ := hcell' k z hzk
            rw [hxz.1] at b1
            rw [hxz.2] at b2
            obtain ⟨y, hy⟩ : ∃ y : ByteArray, y = ⟨x.text.toArray⟩ := ⟨_, rfl⟩
            rw [← hy] at a2 b2
            obtain ⟨o, ho⟩ : ∃ o, x.kind = o := ⟨_, rfl⟩
            rw [ho] at a1 b1
            have c1 : ∀ q, (wr.drewN q).cell? ⟨g, k * 3, none⟩ = some (.int .i64 o) := fun q => a1
            have c2 : ∀ q, (wr.drewN q).cell? ⟨g, k * 3 + 1, none⟩ = some (.string y) := fun q => a2
            have c3 : ∀ q, (wr.drewN q).cell? ⟨g', k * 3, none⟩ = some (.int .i64 o) := fun q => b1
            have c4 : ∀ q, (wr.drewN q).cell? ⟨g', k * 3 + 1, none⟩ = some (.string y) := fun q => b2
            have hoo : (o != o) = false := by simp
            have hyy : (y.toList == y.toList) = true := by simp
            have k0 : (0 : Int) ≤ (k : Int) := by omega
            have k1 : (k : Int) < (ts.length : Int) := by omega
            clear hxk hzk hxz hvv hvv' hcell hcell' a1 a2 b1 b2 hy ho
            go_wp2_with fail
            go_quiet (fail)
            go_wp2_with fail
            exact ⟨⟨k + 1, by omega, by go_num, Lib.hid (bel_drewN HBB.out _)⟩, by simp [intOf]; omega⟩
          · obtain rfl : k = ts.length := by omega
            go_wp2_with fail
            refine (ex_any _ (HT.out.keep ((HB4.out.alloc _).trans HBB.out))).mono ?_
            rintro e w5 ⟨rfl, hb5⟩
            have HB5 := Lib.hid (((HB4.out.alloc _).trans HBB.out).trans hb5)
            clear hb5
            go_wp2_with fail
            go_ret
            exact ⟨rfl, HB5.out⟩
end Go.Proofs.YtcfjolmeenneeaaDoor
