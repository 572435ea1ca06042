/-
  LexerNames: the walk.
-/
import Derived.Test.YtcfjolmeenneeaaDoorLexEx
namespace Go.Proofs.YtcfjolmeenneeaaDoor
open Go.RowKit (wrap32 wrap64)
open Go.RowKit
set_option maxHeartbeats 400000

def nameP : List UInt8 := [97, 90, 95, 48, 57]
def nameL (xs : List Int) : List UInt8 := (xs.take 20).map (fun x => nameP.getD (x % 5).toNat 97)
theorem nameL_wrd (xs : List Int) : (nameL xs).all isWrd = true := by
  unfold nameL
  rw [List.all_map, List.all_eq_true]
  intro x _
  have h : ∀ j, isWrd (nameP.getD j 97) = true := by
    intro j
    by_cases hj : j < 5
    · have cs : j = 0 ∨ j = 1 ∨ j = 2 ∨ j = 3 ∨ j = 4 := by omega
      rcases cs with rfl | rfl | rfl | rfl | rfl <;> decide
    · rw [List.getD_eq_getElem?_getD, List.getElem?_eq_none (by show nameP.length ≤ j; have : nameP.length = 5 := rfl; omega)]
      decide
  exact h _
theorem nameL_len (xs : List Int) : (nameL xs).length ≤ 20 := by
  unfold nameL
  rw [List.length_map, List.length_take]
  omega
theorem nameL_take (xs : List Int) (k : Nat) (hk : k < xs.length) (h : k < 20) : nameL (xs.take (k + 1)) = nameL (xs.take k) ++ [nameP.getD (xs.getD k 0 % 5).toNat 97] := by
  unfold nameL
  rw [List.take_take, List.take_take, Nat.min_eq_right (by omega), Nat.min_eq_right (by omega), List.take_succ_eq_append_getElem hk, List.map_append]
  congr 1
  have e : xs.getD k 0 = xs[k] := by rw [List.getD_eq_getElem?_getD, List.getElem?_eq_getElem hk]; rfl
  rw [e]
  rfl
theorem nameL_all (xs : List Int) (k : Nat) (h : xs.length ≤ k ∨ 20 ≤ k) : nameL (xs.take k) = nameL xs := by
  unfold nameL
  rw [List.take_take]
  rcases h with h | h
  · by_cases h2 : k ≤ 20
    · rw [Nat.min_eq_right h2, List.take_of_length_le h, List.take_of_length_le (by omega)]
    · rw [Nat.min_eq_left (by omega)]
  · rw [Nat.min_eq_left h]
theorem scanL_names (v : List UInt8) (h : v.all isWrd = true) (hl : v.length ≤ 20) : scanL (43 :: 110 :: v) = if v.length + 1 ≤ 16 then .ok [⟨3, [43], 0⟩, ⟨1, 110 :: v, 1⟩] else .err 6 1 := by
  unfold scanL
  rw [if_neg (by simp only [List.length_cons]; omega)]
  exact scan_names v h
theorem tok_eql (a b : Int) (x y : ByteArray) (p q : Int) (W : World) : (binOp .eql 30 (.agg #[.int .i64 a, .string x, .int .i64 p]) (.agg #[.int .i64 b, .string y, .int .i64 q])).run Tryd.prog W = .ok (.bool (a == b && (x.toList == y.toList && p == q))) W := by
  rw [run_eql_struct, tok_equal]
  rfl
theorem tok_guard : Tryd.prog.eqGuardType Tryd.prog.depth 30 = false := by kernel_rfl
theorem bytes_add (a b : ByteArray) (la lb : List UInt8) (ha : a = ⟨la.toArray⟩) (hb : b = ⟨lb.toArray⟩) (hl : la.length + lb.length ≤ 100000) :
    ∃ y, y = (⟨(la ++ lb).toArray⟩ : ByteArray) ∧ ∀ W, (Op.stringOp .add a b).run Tryd.prog W = .ok (.string y) W := by
  refine ⟨a ++ b, ?_, fun W => run_string_add_sum W a b ?_⟩
  · rw [ha, hb]
    exact ByteArray.mk_append_mk _ _
  · rw [ha, hb]
    show (⟨la.toArray⟩ : ByteArray).size + (⟨lb.toArray⟩ : ByteArray).size ≤ _
    rw [← size_len, ← size_len]
    show la.length + lb.length ≤ _
    omega
set_option maxRecDepth 100000 in
theorem names_end (t : ByteArray) (v : List UInt8) (ht : t = ⟨(110 :: v).toArray⟩) : t.size = v.length + 1 := by
  rw [ht, ← size_len]
  rfl
set_option maxRecDepth 100000 in
theorem names_walk (v : Value) (xs : List Int) (w : World) (hx : IntsIs w v xs) (ht : Tab w) : Calls Tryd.prog 8 #[v] w fun e w' => e = .returned (.bool true) ∧ Bel w w' := by
  have HT := Lib.hid ht
  have HX := Lib.hid hx
  have hv : ∃ p cap, v = .slice p xs.length cap := by
    rcases hx with ⟨⟨p, cap, rfl⟩, rfl⟩ | ⟨b, off, cap, rfl, _⟩
    · exact ⟨p, cap, rfl⟩
    · exact ⟨_, cap, rfl⟩
  have hm : xs.length ≤ maxLen := by
    rcases hx with ⟨_, rfl⟩ | ⟨b, off, cap, rfl, _, h, _⟩
    · exact Nat.zero_le _
    · exact h
  obtain ⟨p, cap, rfl⟩ := hv
  unfold maxLen at hm
  clear hx ht
  go_enter Tryd.func8, Tryd.ntmps8
  go_wp2_with fail
  go_loopw [3, 4] (fun m i wr => ∃ (k : Nat) (t : ByteArray), k ≤ xs.length ∧ k ≤ 20 ∧ i = .int .i64 k ∧ m = .string t ∧ Hid (t = ⟨(110 :: nameL (xs.take k)).toArray⟩) ∧ Hid (Bel w wr)) (fun _ i _ => 20 - (intOf i).toNat)
  case atStart => exact ⟨0, ⟨#[110]⟩, by omega, by omega, rfl, rfl, Lib.hid rfl, Lib.hid (Bel.refl _)⟩
  case round =>
    obtain ⟨k, t, hk, hk2, rfl, rfl, HS, HB⟩ := hrel
    by_cases hgo : k < xs.length ∧ k < 20
    · obtain ⟨hlt, h20⟩ := hgo
      rcases HX.out with ⟨_, h0⟩ | ⟨b, off, cap', hvv, _, _, hc⟩
      · rw [h0] at hlt; simp at hlt
      · obtain ⟨rfl, rfl⟩ : p = some ⟨b, off, none⟩ ∧ cap = cap' := by simpa using hvv
        obtain ⟨x, hxx⟩ : ∃ x, xs.getD k 0 = x := ⟨_, rfl⟩
        obtain ⟨j, hj⟩ : ∃ j : Nat, x % 5 = j := ⟨(x % 5).toNat, by omega⟩
        have hj5 : j < 5 := by omega
        have hcell : ∀ o, (wr.alloc o).cell? ⟨b, off + k, none⟩ = some (.int .i64 x) := fun o => by
          have h2 := hc k hlt
          rw [← hxx, ← h2]
          exact Below.cell (HB.out.alloc o) (World.block_lt_of_cell? w _ h2)
        have HP : Hid (∀ w, Calls Tryd.prog 16 #[.int .i64 x, .int .i64 5] w fun e w' => e = .returned (.int .i64 j) ∧ w = w') := by
          rw [← hj]
          exact fun w => pick_any x 5 w (by omega) (by omega)
        have HN := Lib.hid (nameL_take xs k hlt h20)
        rw [hxx, hj, Int.toNat_natCast] at HN
        have hn20 := nameL_len (xs.take k)
        clear hvv hc hj hxx
        have cs : j = 0 ∨ j = 1 ∨ j = 2 ∨ j = 3 ∨ j = 4 := by omega
        rcases cs with rfl | rfl | rfl | rfl | rfl
        · obtain ⟨y, hy, hadd⟩ := bytes_add t ⟨#[97]⟩ _ [97] HS.out rfl (by simp only [List.length_cons, List.length_nil]; omega)
          have HY := Lib.hid hy
          clear hy hn20 hj5
          go_wp2_with fail
          refine (HP.out _).mono ?_
          rintro e w' ⟨rfl, rfl⟩
          go_wp2_with fail
          exact ⟨⟨k + 1, y, by omega, by omega, by go_num, rfl, Lib.hid (by rw [HN.out, HY.out]; rfl), Lib.hid (HB.out.alloc _)⟩, by simp [intOf]; omega⟩
        · obtain ⟨y, hy, hadd⟩ := bytes_add t ⟨#[90]⟩ _ [90] HS.out rfl (by simp only [List.length_cons, List.length_nil]; omega)
          have HY := Lib.hid hy
          clear hy hn20 hj5
          go_wp2_with fail
          refine (HP.out _).mono ?_
          rintro e w' ⟨rfl, rfl⟩
          go_wp2_with fail
          exact ⟨⟨k + 1, y, by omega, by omega, by go_num, rfl, Lib.hid (by rw [HN.out, HY.out]; rfl), Lib.hid (HB.out.alloc _)⟩, by simp [intOf]; omega⟩
        · obtain ⟨y, hy, hadd⟩ := bytes_add t ⟨#[95]⟩ _ [95] HS.out rfl (by simp only [List.length_cons, List.length_nil]; omega)
          have HY := Lib.hid hy
          clear hy hn20 hj5
          go_wp2_with fail
          refine (HP.out _).mono ?_
          rintro e w' ⟨rfl, rfl⟩
          go_wp2_with fail
          exact ⟨⟨k + 1, y, by omega, by omega, by go_num, rfl, Lib.hid (by rw [HN.out, HY.out]; rfl), Lib.hid (HB.out.alloc _)⟩, by simp [intOf]; omega⟩
        · obtain ⟨y, hy, hadd⟩ := bytes_add t ⟨#[48]⟩ _ [48] HS.out rfl (by simp only [List.length_cons, List.length_nil]; omega)
          have HY := Lib.hid hy
          clear hy hn20 hj5
          go_wp2_with fail
          refine (HP.out _).mono ?_
          rintro e w' ⟨rfl, rfl⟩
          go_wp2_with fail
          exact ⟨⟨k + 1, y, by omega, by omega, by go_num, rfl, Lib.hid (by rw [HN.out, HY.out]; rfl), Lib.hid (HB.out.alloc _)⟩, by simp [intOf]; omega⟩
        · obtain ⟨y, hy, hadd⟩ := bytes_add t ⟨#[57]⟩ _ [57] HS.out rfl (by simp only [List.length_cons, List.length_nil]; omega)
          have HY := Lib.hid hy
          clear hy hn20 hj5
          go_wp2_with fail
          refine (HP.out _).mono ?_
          rintro e w' ⟨rfl, rfl⟩
          go_wp2_with fail
          exact ⟨⟨k + 1, y, by omega, by omega, by go_num, rfl, Lib.hid (by rw [HN.out, HY.out]; rfl), Lib.hid (HB.out.alloc _)⟩, by simp [intOf]; omega⟩
    · have HE : Hid (t = ⟨(110 :: nameL xs).toArray⟩) := by
        rw [← nameL_all xs k (by omega)]
        exact HS
      have hl := nameL_len xs
      have hts := names_end t (nameL xs) HE.out
      obtain ⟨y, hy, hadd⟩ := bytes_add ⟨#[43]⟩ t [43] _ rfl HE.out (by simp only [List.length_cons, List.length_nil]; omega)
      have hsc := scanL_names (nameL xs) (nameL_wrd xs) hl
      have hyd : y.data.toList = 43 :: 110 :: nameL xs := by rw [hy]; rfl
      rw [← hyd] at hsc
      have hys : y.size ≤ maxLen := by rw [← size_len, hyd]; simp only [List.length_cons]; unfold maxLen; omega
      have HYS := Lib.hid hys
      have HT1 := Lib.hid (HT.out.keep HB.out)
      have hor : (¬ k < xs.length) ∨ (k < xs.length ∧ k = 20) := by omega
      have e61 := err_eql 6 1 6 1
      have e00 := err_eql 0 0 0 0
      have hg := err_guard
      have hg2 := tok_guard
      clear hyd hys hy
      by_cases hlong : (nameL xs).length + 1 ≤ 16
      · rw [if_pos hlong] at hsc
        have HSC := Lib.hid hsc
        have t1 : decide (16 < (t.size : Int)) = false := by simp; omega
        clear hsc hl hts hlong hgo
        rcases hor with hor | ⟨hor, rfl⟩
        all_goals
          go_wp2_with fail
          refine (scan_ok_any HSC.out _ HYS.out HT1.out).mono ?_
          rintro e w1 ⟨v, rfl, ho, hb1⟩
          have HB1 := Lib.hid (HB.out.trans hb1)
          rcases ho with ⟨_, h0⟩ | ⟨g, c, rfl, _, _, hc⟩
          · cases h0
          obtain ⟨c0, c1, c2⟩ := hc 1 ⟨1, 110 :: nameL xs, 1⟩ rfl
          have k0 : ∀ o, (w1.alloc o).cell? ⟨g, 3, none⟩ = some (.int .i64 1) := fun o => (Below.cell ((Bel.refl _).alloc o) (World.block_lt_of_cell? w1 _ c0)).trans c0
          have k1 : ∀ o, (w1.alloc o).cell? ⟨g, 4, none⟩ = some (.string t) := fun o => (Below.cell ((Bel.refl _).alloc o) (World.block_lt_of_cell? w1 _ c1)).trans (by rw [HE.out]; exact c1)
          have k2 : ∀ o, (w1.alloc o).cell? ⟨g, 5, none⟩ = some (.int .i64 1) := fun o => (Below.cell ((Bel.refl _).alloc o) (World.block_lt_of_cell? w1 _ c2)).trans c2
          have htt := tok_eql 1 1 t t 1 1
          rw [show ((1 : Int) == 1 && (t.toList == t.toList && (1 : Int) == 1)) = true by simp] at htt
          clear c0 c1 c2 hc hb1
          go_wp2_with fail
          refine (ex_any _ (HT.out.keep (HB1.out.alloc _))).mono ?_
          rintro e w2 ⟨rfl, hb2⟩
          have HB2 := Lib.hid hb2
          clear hb2
          go_wp2_with fail
          go_ret
          exact ⟨rfl, (HB1.out.alloc _).trans HB2.out⟩
      · rw [if_neg hlong] at hsc
        have HSC := Lib.hid hsc
        have t1 : decide (16 < (t.size : Int)) = true := by simp; omega
        clear hsc hl hts hlong hgo
        rcases hor with hor | ⟨hor, rfl⟩
        all_goals
          go_wp2_with fail
          refine (scan_err_any HSC.out _ HYS.out HT1.out).mono ?_
          rintro e w1 ⟨rfl, hb1⟩
          have HB1 := Lib.hid (HB.out.trans hb1)
          clear hb1
          go_wp2_with fail
          refine (ex_any _ (HT.out.keep (HB1.out.alloc _))).mono ?_
          rintro e w2 ⟨rfl, hb2⟩
          have HB2 := Lib.hid hb2
          clear hb2
          go_wp2_with fail
          go_ret
          exact ⟨rfl, (HB1.out.alloc _).trans HB2.out⟩
end Go.Proofs.YtcfjolmeenneeaaDoor
