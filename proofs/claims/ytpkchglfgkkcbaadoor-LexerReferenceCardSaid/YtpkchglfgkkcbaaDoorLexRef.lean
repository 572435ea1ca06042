/-
  LexerReference: the walk.
-/
import Derived.Test.YtpkchglfgkkcbaaDoorLexEx
import Derived.Test.YtpkchglfgkkcbaaDoorRScan
namespace Go.Proofs.YtpkchglfgkkcbaaDoor
open Go.RowKit (wrap32 wrap64)
open Go.RowKit
set_option maxHeartbeats 400000
theorem scanPost_cases (s : ByteArray) : (∃ ts, scanL s.data.toList = .ok ts) ∨ ∃ a p, scanL s.data.toList = .err a p := by
  cases h : scanL s.data.toList with
  | ok ts => exact .inl ⟨ts, rfl⟩
  | err a p => exact .inr ⟨a, p, rfl⟩
theorem ref_ok_any {s : ByteArray} {ts : List Tok} (h : scanL s.data.toList = .ok ts) (w : World) (hs : s.size ≤ maxLen) : Calls Tryd.prog 10 #[.string s] w fun e w' => ∃ v, e = .returned (.tuple #[v, .agg #[.int .i64 0, .int .i64 0]]) ∧ ToksIs w' v ts ∧ Bel w w' := by
  have := refScan_any s w hs
  rw [scanPost_ok h] at this
  refine this.mono ?_
  rintro e w' ⟨v, rfl, ho, hb⟩
  exact ⟨v, rfl, toks_of_own ho, hb⟩
theorem ref_err_any {s : ByteArray} {a : Int} {p : Nat} (h : scanL s.data.toList = .err a p) (w : World) (hs : s.size ≤ maxLen) : Calls Tryd.prog 10 #[.string s] w fun e w' => e = .returned (.tuple #[.slice none 0 0, .agg #[.int .i64 a, .int .i64 p]]) ∧ Bel w w' := by
  have := refScan_any s w hs
  rw [scanPost_err h] at this
  exact this
theorem err_neq (a b c d : Int) (W : World) : (binOp .neq 30 (.agg #[.int .i64 a, .int .i64 b]) (.agg #[.int .i64 c, .int .i64 d])).run Tryd.prog W = .ok (.bool (!(a == c && b == d))) W := by
  rw [run_neq_struct, err_equal]
  rfl
theorem err_neq_same (a b : Int) (W : World) : (binOp .neq 30 (.agg #[.int .i64 a, .int .i64 b]) (.agg #[.int .i64 a, .int .i64 b])).run Tryd.prog W = .ok (.bool false) W := by
  rw [err_neq]
  simp
/-- What keep.Text gives. -/
def TextIs (w : World) (v : Value) (how at_ : Int) : Prop := ∀ w', Bel w w' → Calls Tryd.prog 8 #[v, .int .i64 how, .int .i64 at_] w' fun e w'' => ∃ s : ByteArray, e = .returned (.string s) ∧ s.size ≤ maxLen ∧ Bel w' w''
set_option maxRecDepth 100000 in
theorem lexref_walk (raw : ByteArray) (v : Value) (xs : List Int) (how at_ : Int) (w : World) (_hraw : raw.size ≤ maxLen) (hx : IntsIs w v xs) (ht : Tab w) (htx : TextIs w v how at_) : Calls Tryd.prog 3 #[.string raw, v, .int .i64 how, .int .i64 at_] w fun e w' => e = .returned (.bool true) ∧ Bel w w' := by
  have HT := Lib.hid ht
  have HX := Lib.hid hx
  have HTX := Lib.hid htx
  have hg := err_guard
  obtain ⟨P, hP⟩ : ∃ P : ByteArray, P = ⟨(pieceL xs).toArray⟩ := ⟨_, rfl⟩
  have hPl : P.size ≤ 570 := by rw [hP, ← size_len]; exact piece_len xs
  have HC : Hid (∀ w, IntsIs w v xs → Calls Tryd.prog 7 #[v] w fun e w' => e = .returned (.string P) ∧ Bel w w') := by
    rw [hP]
    exact fun w h => pieces_any v xs w h
  clear hx ht htx hP
  by_cases hr : 300 < raw.size
  · have hri : (300 : Int) < (raw.size : Int) := by omega
    have hrb : decide ((300 : Int) < (raw.size : Int)) = true := by simpa using hri
    clear hr
    go_enter Tryd.func3, Tryd.ntmps3
    go_wp2_with fail
    refine (ex_any _ HT.out).mono ?_
    rintro e w1 ⟨rfl, hb1⟩
    have HB1 := Lib.hid hb1
    clear hb1
    go_wp2_with fail
    go_ret
    exact ⟨rfl, HB1.out⟩
  · have hrb : decide ((300 : Int) < (raw.size : Int)) = false := by simp; omega
    obtain ⟨y, hy⟩ : ∃ y, P ++ raw = y := ⟨_, rfl⟩
    have hys : y.size = P.size + raw.size := by rw [← hy, ByteArray.size_append]
    have hadd : ∀ W, (Op.stringOp .add P raw).run Tryd.prog W = .ok (.string y) W := fun W => by
      rw [run_string_add_sum W _ _ (by omega), hy]
    have HS : Hid (P.size ≤ maxLen ∧ raw.size ≤ maxLen ∧ y.size ≤ maxLen) := Lib.hid (by unfold maxLen; omega)
    clear hr hPl hy hys _hraw
    go_enter Tryd.func3, Tryd.ntmps3
    go_wp2_with fail
    refine (HC.out _ HX.out).mono ?_
    rintro e w1 ⟨rfl, hb1⟩
    have HB1 := Lib.hid hb1
    clear hb1
    go_wp2_with fail
    refine (HC.out _ (HX.out.keep HB1.out)).mono ?_
    rintro e w2 ⟨rfl, hb2⟩
    have HB2 := Lib.hid (HB1.out.trans hb2)
    clear hb2
    go_wp2_with fail
    refine (HTX.out _ HB2.out).mono ?_
    rintro e w3 ⟨z, rfl, hz, hb3⟩
    have HB3 := Lib.hid (HB2.out.trans hb3)
    have HZ := Lib.hid hz
    clear hb3 hz
    go_wp2_with fail
    have HW4 := Lib.hid (show ∀ (k : Nat) (x : Value), (#[Value.string raw, Value.string P, Value.string y, Value.string z] : Array Value)[k]? = some x → (w3.alloc (.cells #[Value.string raw, Value.string P, Value.string y, Value.string z] 9)).cell? ⟨w3.heap.size, k, none⟩ = some x from fun k x h => by
      have hk : k < 4 := by
        have := (Array.getElem?_eq_some_iff.1 h).1
        simpa using this
      have : k = 0 ∨ k = 1 ∨ k = 2 ∨ k = 3 := by omega
      rcases this with rfl | rfl | rfl | rfl <;> simp at h <;> subst h <;> simp)
    go_loopw [32] (fun i wr => ∃ k : Nat, k ≤ 4 ∧ i = .int .i64 k ∧ Hid (Bel (w3.alloc (.cells #[Value.string raw, Value.string P, Value.string y, Value.string z] 9)) wr)) (fun i _ => 4 - (intOf i).toNat)
    case atStart => exact ⟨0, by omega, rfl, Lib.hid (Bel.refl _)⟩
    case round =>
      obtain ⟨k, hk, rfl, HB⟩ := hrel
      by_cases hlt : k < 4
      · obtain ⟨s, hs1, hs2⟩ : ∃ s : ByteArray, (#[Value.string raw, Value.string P, Value.string y, Value.string z] : Array Value)[k]? = some (.string s) ∧ s.size ≤ maxLen := by
          have : k = 0 ∨ k = 1 ∨ k = 2 ∨ k = 3 := by omega
          rcases this with rfl | rfl | rfl | rfl
          · exact ⟨raw, rfl, HS.out.2.1⟩
          · exact ⟨P, rfl, HS.out.1⟩
          · exact ⟨y, rfl, HS.out.2.2⟩
          · exact ⟨z, rfl, HZ.out⟩
        have hcell : wr.cell? ⟨w3.heap.size, k, none⟩ = some (.string s) := by
          have h0 := HW4.out k _ hs1
          rw [← h0]
          exact Below.cell HB.out (World.block_lt_of_cell? _ _ h0)
        have HM := Lib.hid hs2
        have k0 : (0 : Int) ≤ (k : Int) := by omega
        have k1 : decide ((k : Int) < 4) = true := by simp; omega
        have k2 : (k : Int) < 4 := by omega
        clear hs1 hs2
        have HBW := Lib.hid ((HB3.out.alloc (.cells #[Value.string raw, Value.string P, Value.string y, Value.string z] 9)).trans HB.out)
        rcases scanPost_cases s with ⟨ts, hts⟩ | ⟨a, p, hap⟩
        · have HS1 := Lib.hid hts
          have en := err_neq_same 0 0
          clear hts
          go_wp2_with fail
          refine (scan_ok_any HS1.out _ HM.out (HT.out.keep HBW.out)).mono ?_
          rintro e w5 ⟨u, rfl, ho5, hb5⟩
          have HB5 := Lib.hid hb5
          have HO5 := Lib.hid ho5
          clear hb5 ho5
          go_wp2_with fail
          refine (ref_ok_any HS1.out _ HM.out).mono ?_
          rintro e w6 ⟨u', rfl, ho6, hb6⟩
          have HB6 := Lib.hid hb6
          have HO6 := Lib.hid ho6
          obtain ⟨c0, c1, f0, f1, hlt1⟩ := err_cell hb6
          clear hb6 ho6
          go_wp2_with fail
          refine (same_any u u' ts ts _ (((HO5.out.keep ((Bel.refl _).alloc _)).keep HB6.out).keep ((Bel.refl _).alloc _)) (HO6.out.keep ((Bel.refl _).alloc _))).mono ?_
          rintro e w7 ⟨he7, hb7⟩
          rw [decide_eq_true rfl] at he7
          subst he7
          have HB7 := Lib.hid hb7
          clear hb7
          go_wp2_with fail
          refine ⟨⟨k + 1, by omega, by go_num, Lib.hid ?_⟩, by simp [intOf]; omega⟩
          exact HB.out.trans (((HB5.out.alloc _).trans HB6.out).alloc _ |>.trans HB7.out)
        · have HS1 := Lib.hid hap
          have en := err_neq_same a p
          clear hap
          go_wp2_with fail
          refine (scan_err_any HS1.out _ HM.out (HT.out.keep HBW.out)).mono ?_
          rintro e w5 ⟨rfl, hb5⟩
          have HB5 := Lib.hid hb5
          clear hb5
          go_wp2_with fail
          refine (ref_err_any HS1.out _ HM.out).mono ?_
          rintro e w6 ⟨rfl, hb6⟩
          have HB6 := Lib.hid hb6
          obtain ⟨c0, c1, f0, f1, hlt1⟩ := err_cell hb6
          clear hb6
          go_wp2_with fail
          refine (same_any _ _ [] [] _ (.inl ⟨⟨_, _, rfl⟩, rfl⟩) (.inl ⟨⟨_, _, rfl⟩, rfl⟩)).mono ?_
          rintro e w7 ⟨he7, hb7⟩
          rw [decide_eq_true rfl] at he7
          subst he7
          have HB7 := Lib.hid hb7
          clear hb7
          go_wp2_with fail
          refine ⟨⟨k + 1, by omega, by go_num, Lib.hid ?_⟩, by simp [intOf]; omega⟩
          exact HB.out.trans (((HB5.out.alloc _).trans HB6.out).alloc _ |>.trans HB7.out)
      · obtain rfl : k = 4 := by omega
        go_wp2_with fail
        refine (ex_any _ (HT.out.keep ((HB3.out.alloc _).trans HB.out))).mono ?_
        rintro e w5 ⟨rfl, hb5⟩
        have HB5 := Lib.hid hb5
        clear hb5
        go_wp2_with fail
        go_ret
        exact ⟨rfl, ((HB3.out.alloc _).trans HB.out).trans HB5.out⟩
end Go.Proofs.YtpkchglfgkkcbaaDoor
