/-
  Scan in the forms that the laws use; LexerExamples: the walk.
-/
import Derived.Test.YtpkchglfgkkcbaaDoorLexSame
namespace Go.Proofs.YtpkchglfgkkcbaaDoor
open Go.RowKit (wrap32 wrap64)
open Go.RowKit
set_option maxHeartbeats 400000

theorem scan_ok_any {s : ByteArray} {ts : List Tok} (h : scanL s.data.toList = .ok ts) (w : World) (hs : s.size ≤ maxLen) (ht : Tab w) : Calls Tryd.prog 9 #[.string s] w fun e w' => ∃ v, e = .returned (.tuple #[v, .agg #[.int .i64 0, .int .i64 0]]) ∧ ToksIs w' v ts ∧ Bel w w' := by
  have := scan_any s w hs ht
  rw [scanPost_ok h] at this
  refine this.mono ?_
  rintro e w' ⟨v, rfl, ho, hb⟩
  exact ⟨v, rfl, toks_of_own ho, hb⟩
theorem scan_err_any {s : ByteArray} {a : Int} {p : Nat} (h : scanL s.data.toList = .err a p) (w : World) (hs : s.size ≤ maxLen) (ht : Tab w) : Calls Tryd.prog 9 #[.string s] w fun e w' => e = .returned (.tuple #[.slice none 0 0, .agg #[.int .i64 a, .int .i64 p]]) ∧ Bel w w' := by
  have := scan_any s w hs ht
  rw [scanPost_err h] at this
  exact this
theorem err_equal (a b c d : Int) (W : World) : (Op.equalIn 10000 30 (.agg #[.int .i64 a, .int .i64 b]) (.agg #[.int .i64 c, .int .i64 d])).run Tryd.prog W = .ok (a == c && b == d) W := by
  have hf : (Tryd.prog.fieldsOf 30).toList.map (fun f => (f.name == "_", f.type, f.offset)) = [(false, 28, 0), (false, 3, 1)] := by kernel_rfl
  have u1 := Tryd.underlying3
  have u2 := Tryd.underlying28
  rw [run_equalIn_agg W 9999 _ _ _ (by kernel_rfl) (by kernel_rfl)]
  generalize (Tryd.prog.fieldsOf 30).toList = l at hf ⊢
  rcases l with _ | ⟨f0, _ | ⟨f1, _ | ⟨f2, l⟩⟩⟩ <;> simp at hf
  obtain ⟨⟨n0, t0, o0⟩, n1, t1, o1⟩ := hf
  have p0 : ∀ (v0 v1 : Value) (W : World), (part 28 #[v0, v1] 0).run Tryd.prog W = .ok v0 W := fun _ _ _ => by kernel_rfl
  have p1 : ∀ (v0 v1 : Value) (W : World), (part 3 #[v0, v1] 1).run Tryd.prog W = .ok v1 W := fun _ _ _ => by kernel_rfl
  have q1 : ∀ (a b : Int) (W : World), (Op.equalIn 9999 3 (.int .i64 a) (.int .i64 b)).run Tryd.prog W = .ok (a == b) W := fun a b W => run_equalIn_int W 9998 _ _ _ _ _ u1
  have q2 : ∀ (a b : Int) (W : World), (Op.equalIn 9999 28 (.int .i64 a) (.int .i64 b)).run Tryd.prog W = .ok (a == b) W := fun a b W => run_equalIn_int W 9998 _ _ _ _ _ u2
  obtain ⟨c0, hc0⟩ : ∃ x, (a == c) = x := ⟨_, rfl⟩
  obtain ⟨c1, hc1⟩ : ∃ x, (b == d) = x := ⟨_, rfl⟩
  rw [hc0, hc1]
  have q3 := fun W => q2 a c W
  have q4 := fun W => q1 b d W
  rw [hc0] at q3
  rw [hc1] at q4
  clear hc0 hc1 q1 q2
  cases c0 <;> cases c1 <;> simp [Op.eqFields, n0, n1, t0, t1, o0, o1, Sem.run_bind, p0, p1, q3, q4, Result.andThen_ok]
theorem err_eql (a b c d : Int) (W : World) : (binOp .eql 30 (.agg #[.int .i64 a, .int .i64 b]) (.agg #[.int .i64 c, .int .i64 d])).run Tryd.prog W = .ok (.bool (a == c && b == d)) W := by
  rw [run_eql_struct, err_equal]
  rfl
theorem err_guard : Tryd.prog.eqGuardType Tryd.prog.depth 30 = false := by kernel_rfl
def exToks : List Tok := [⟨1, [97], 0⟩, ⟨3, [62, 62, 62], 1⟩, ⟨2, [49], 4⟩, ⟨3, [33, 61], 10⟩]
theorem exToks_lie (w : World) (n : Nat) (hn : n = w.heap.size) : ToksIs (w.alloc (.cells #[.int .i64 1, .string ⟨#[97]⟩, .int .i64 0, .int .i64 3, .string ⟨#[62, 62, 62]⟩, .int .i64 1, .int .i64 2, .string ⟨#[49]⟩, .int .i64 4, .int .i64 3, .string ⟨#[33, 61]⟩, .int .i64 10] 46)) (.slice (some ⟨n, 0, none⟩) 4 4) exToks := by
  subst hn
  refine Or.inr ⟨w.heap.size, 4, rfl, by decide, by unfold maxLen; decide, fun i t hi => ?_⟩
  have hlt : i < 4 := (List.getElem?_eq_some_iff.1 hi).1
  have cs : i = 0 ∨ i = 1 ∨ i = 2 ∨ i = 3 := by omega
  rcases cs with rfl | rfl | rfl | rfl
  all_goals
    obtain rfl := Option.some.inj hi
    refine ⟨?_, ?_, ?_⟩ <;> simp
set_option maxRecDepth 100000 in
theorem ex_any (w : World) (ht : Tab w) : Calls Tryd.prog 6 #[] w fun e w' => e = .returned (.bool true) ∧ Bel w w' := by
  have h1 : scanL (⟨#[97, 62, 62, 62, 49, 32, 35, 32, 120, 10, 33, 61]⟩ : ByteArray).data.toList = .ok exToks := by decide +kernel
  have h2 : scanL (⟨#[32, 48, 55]⟩ : ByteArray).data.toList = .err 2 1 := by decide +kernel
  have e0 := err_eql 0 0 0 0
  have e1 := err_eql 2 1 2 1
  have hg := err_guard
  have HT := Lib.hid ht
  have H1 := Lib.hid h1
  have H2 := Lib.hid h2
  clear ht h1 h2
  go_enter Tryd.func6, Tryd.ntmps6
  go_wp2_with fail
  refine (scan_ok_any H1.out _ (by unfold maxLen; decide) HT.out).mono ?_
  rintro e w1 ⟨v, rfl, ho, hb1⟩
  have HB1 := Lib.hid hb1
  have HO := Lib.hid ho
  clear hb1 ho
  go_wp2_with fail
  refine (scan_err_any H2.out _ (by unfold maxLen; decide) (HT.out.keep (HB1.out.alloc _))).mono ?_
  rintro e w2 ⟨rfl, hb2⟩
  have HB2 := Lib.hid hb2
  obtain ⟨c0, c1, f0, f1, hlt1⟩ := err_cell hb2
  clear hb2
  have hb3 := ((HB1.out.alloc _).trans HB2.out).alloc (.cells #[.int .i64 2, .int .i64 1] 30)
  have HB3 := Lib.hid hb3
  have HO3 := Lib.hid (((HO.out.keep ((Bel.refl _).alloc _)).keep HB2.out).keep ((Bel.refl _).alloc (.cells #[.int .i64 2, .int .i64 1] 30)))
  clear hb3
  go_wp2_with fail
  refine (same_any v _ exToks exToks _ (HO3.out.keep ((Bel.refl _).alloc _)) (exToks_lie _ _ (by simp))).mono ?_
  rintro e w4 ⟨rfl, hb4⟩
  have HB4 := Lib.hid hb4
  have d0 : w4.cell? ⟨w2.heap.size, 0, none⟩ = some (.int .i64 2) := by
    rw [Below.cell hb4 (p := ⟨w2.heap.size, 0, none⟩) (by simp; omega)]; simp
  have d1 : w4.cell? ⟨w2.heap.size, 1, none⟩ = some (.int .i64 1) := by
    rw [Below.cell hb4 (p := ⟨w2.heap.size, 1, none⟩) (by simp; omega)]; simp
  clear hb4
  go_wp2_with fail
  go_ret
  exact ⟨rfl, (HB3.out.alloc _).trans HB4.out⟩
end Go.Proofs.YtpkchglfgkkcbaaDoor
