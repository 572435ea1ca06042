/-
  'fulling/fullinglaw6.InterpTicks' answers true, whatever it is given.
-/
import Derived.Test.YtcjolamfjgdgjaaGreatDoorInterpTicksRun0
import Derived.Test.YtcjolamfjgdgjaaGreatDoorInterpTicksRun1
import Derived.Test.YtcjolamfjgdgjaaGreatDoorInterpTicksRun2
import Derived.Test.YtcjolamfjgdgjaaGreatDoorInterpTicksRun3
import Derived.Test.YtcjolamfjgdgjaaGreatDoorInterpExamplesAny
import Derived.ProofKit
namespace Go.Proofs.YtcjolamfjgdgjaaGreatDoor
open Go.RowKit
theorem interpTicks_tabs : Ev.laidCells Tryz.prog Rows.interpTicksRow.laid = some ckTabs := by kernel_rfl
theorem interpTicks_rng {a b c d x y : Int} (h1 : a ≤ x) (h2 : x ≤ b) (h3 : c ≤ y) (h4 : y ≤ d) : Ev.Rng.ok ⟨a, b, c, d⟩ x y := ⟨h1, h2, h3, h4⟩
theorem interpTicks_check (S : Ev.Syms) : interpTicksCheck S = true := by kernel_rfl
theorem interpTicks_by (a0 a1 a2 x y : Int) (r : Ev.Rng) (hr : r.ok x y) {w : World} (hg : Ev.GlobIs ckTabs w) (tab : List (Nat × Int × Value)) (ht : ∀ q ∈ tab, 1 ≤ q.2.1 ∧ q.2.1 ≤ 1000000000 ∧ ∃ n, Ev.linVal [a0, a1, a2] x y q.1 = some (.int .i64 n) ∧ Ev.At (Ev.linVal [a0, a1, a2] x y) q.2.2 (.int .i64 (n % q.2.1))) (h : interpTicksSays (Ev.linSyms [a0, a1, a2] r x y hr) (Ev.quiet (Ev.vOrcOf 10 4 tab)) [.chan (some 0), .chan (some 1), .chan (some 2)] = true) : Calls Tryz.prog 5 #[.int .i64 a0, .int .i64 a1, .int .i64 a2] w fun e w' => e = .returned (.bool true) ∧ Bel w w' := by
  letI : Ev.Syms := Ev.linSyms [a0, a1, a2] r x y hr
  exact interpTicks_go (Ev.linSyms [a0, a1, a2] r x y hr) (interpTicks_check _) hg (@Ev.vOrc_ok (Ev.linSyms [a0, a1, a2] r x y hr) _ _ _ _ _ _ _ hg (fun n m w h1 h2 => pick_any n m w h1 h2) (fun w hg => interpExamples_glob w hg) ht) (fun ρ => .cons (.sym rfl rfl) (.cons (.sym rfl rfl) (.cons (.sym rfl rfl) .nil))) h
theorem interpTicks_x (a0 a1 a2 x y : Int) (hx : -9223372036854775808 ≤ x ∧ x ≤ 9223372036854775807) : Ev.At (Ev.linVal [a0, a1, a2] x y) (.chan (some 272)) (.int .i64 x) :=
  Ev.sym_at (congrArg (fun n => some (Value.int .i64 n)) ((congrArg IntKind.i64.wrap (by show (1 : Int) * x + 0 * y + 0 = x; omega)).trans (Ev.wrap_eq hx.1 hx.2))) rfl
theorem interpTicks_y (a0 a1 a2 x y : Int) (hy : -9223372036854775808 ≤ y ∧ y ≤ 9223372036854775807) : Ev.At (Ev.linVal [a0, a1, a2] x y) (.chan (some 18)) (.int .i64 y) :=
  Ev.sym_at (congrArg (fun n => some (Value.int .i64 n)) ((congrArg IntKind.i64.wrap (by show (0 : Int) * x + 1 * y + 0 = y; omega)).trans (Ev.wrap_eq hy.1 hy.2))) rfl
theorem interpTicks_any (a0 a1 a2 : Int) (w : World) (_w0 : (Lit.int .i64 a0).wf = true) (_w1 : (Lit.int .i64 a1).wf = true) (_w2 : (Lit.int .i64 a2).wf = true) (hL : laidMetH Tryz.prog Rows.interpTicksRow.laid w) : Calls Tryz.prog 5 #[.int .i64 a0, .int .i64 a1, .int .i64 a2] w fun e w' => e = .returned (.bool true) ∧ Bel w w' := by
  have hg : Ev.GlobIs ckTabs w := Ev.glob_of_laid hL (by kernel_rfl) interpTicks_tabs
  obtain ⟨e0, h0, l0, u0⟩ : ∃ e : Int, a0 % 12 = e ∧ 0 ≤ e ∧ e < 12 := ⟨a0 % 12, rfl, by omega, by omega⟩
  obtain ⟨e1, h1, l1, u1⟩ : ∃ e : Int, a1 % 16 = e ∧ 0 ≤ e ∧ e < 16 := ⟨a1 % 16, rfl, by omega, by omega⟩
  obtain ⟨e2, h2, l2, u2⟩ : ∃ e : Int, a2 % 5 = e ∧ 0 ≤ e ∧ e < 5 := ⟨a2 % 5, rfl, by omega, by omega⟩
  rcases (by omega : e0 < e1 ∨ e1 = e0 ∨ e1 < e0) with c | c | c
  · have cc : e0 = 0 ∨ e0 = 1 ∨ e0 = 2 ∨ e0 = 3 ∨ e0 = 4 ∨ e0 = 5 ∨ e0 = 6 ∨ e0 = 7 ∨ e0 = 8 ∨ e0 = 9 ∨ e0 = 10 ∨ e0 = 11 := by omega
    rcases cc with rfl | rfl | rfl | rfl | rfl | rfl | rfl | rfl | rfl | rfl | rfl | rfl
    · exact interpTicks_by a0 a1 a2 e1 e2 ⟨1, 15, 0, 4⟩ (interpTicks_rng (by omega) (by omega) (by omega) (by omega)) hg [(0, 12, .int .i64 0), (1, 16, .chan (some 272)), (2, 5, .chan (some 18))] (by
      intro q hq
      simp only [List.mem_cons, List.not_mem_nil, or_false] at hq
      rcases hq with rfl | rfl | rfl
      · exact ⟨by simp, by simp, a0, rfl, by rw [h0]; exact Ev.ground_at rfl⟩
      · exact ⟨by simp, by simp, a1, rfl, by rw [h1]; exact interpTicks_x a0 a1 a2 _ _ (by omega)⟩
      · exact ⟨by simp, by simp, a2, rfl, by rw [h2]; exact interpTicks_y a0 a1 a2 _ _ (by omega)⟩
      ) (interpTicks_rA0 a0 a1 a2 e1 e2 _)
    · exact interpTicks_by a0 a1 a2 e1 e2 ⟨2, 15, 0, 4⟩ (interpTicks_rng (by omega) (by omega) (by omega) (by omega)) hg [(0, 12, .int .i64 1), (1, 16, .chan (some 272)), (2, 5, .chan (some 18))] (by
      intro q hq
      simp only [List.mem_cons, List.not_mem_nil, or_false] at hq
      rcases hq with rfl | rfl | rfl
      · exact ⟨by simp, by simp, a0, rfl, by rw [h0]; exact Ev.ground_at rfl⟩
      · exact ⟨by simp, by simp, a1, rfl, by rw [h1]; exact interpTicks_x a0 a1 a2 _ _ (by omega)⟩
      · exact ⟨by simp, by simp, a2, rfl, by rw [h2]; exact interpTicks_y a0 a1 a2 _ _ (by omega)⟩
      ) (interpTicks_rA1 a0 a1 a2 e1 e2 _)
    · exact interpTicks_by a0 a1 a2 e1 e2 ⟨3, 15, 0, 4⟩ (interpTicks_rng (by omega) (by omega) (by omega) (by omega)) hg [(0, 12, .int .i64 2), (1, 16, .chan (some 272)), (2, 5, .chan (some 18))] (by
      intro q hq
      simp only [List.mem_cons, List.not_mem_nil, or_false] at hq
      rcases hq with rfl | rfl | rfl
      · exact ⟨by simp, by simp, a0, rfl, by rw [h0]; exact Ev.ground_at rfl⟩
      · exact ⟨by simp, by simp, a1, rfl, by rw [h1]; exact interpTicks_x a0 a1 a2 _ _ (by omega)⟩
      · exact ⟨by simp, by simp, a2, rfl, by rw [h2]; exact interpTicks_y a0 a1 a2 _ _ (by omega)⟩
      ) (interpTicks_rA2 a0 a1 a2 e1 e2 _)
    · exact interpTicks_by a0 a1 a2 e1 e2 ⟨4, 15, 0, 4⟩ (interpTicks_rng (by omega) (by omega) (by omega) (by omega)) hg [(0, 12, .int .i64 3), (1, 16, .chan (some 272)), (2, 5, .chan (some 18))] (by
      intro q hq
      simp only [List.mem_cons, List.not_mem_nil, or_false] at hq
      rcases hq with rfl | rfl | rfl
      · exact ⟨by simp, by simp, a0, rfl, by rw [h0]; exact Ev.ground_at rfl⟩
      · exact ⟨by simp, by simp, a1, rfl, by rw [h1]; exact interpTicks_x a0 a1 a2 _ _ (by omega)⟩
      · exact ⟨by simp, by simp, a2, rfl, by rw [h2]; exact interpTicks_y a0 a1 a2 _ _ (by omega)⟩
      ) (interpTicks_rA3 a0 a1 a2 e1 e2 _)
    · exact interpTicks_by a0 a1 a2 e1 e2 ⟨5, 15, 0, 4⟩ (interpTicks_rng (by omega) (by omega) (by omega) (by omega)) hg [(0, 12, .int .i64 4), (1, 16, .chan (some 272)), (2, 5, .chan (some 18))] (by
      intro q hq
      simp only [List.mem_cons, List.not_mem_nil, or_false] at hq
      rcases hq with rfl | rfl | rfl
      · exact ⟨by simp, by simp, a0, rfl, by rw [h0]; exact Ev.ground_at rfl⟩
      · exact ⟨by simp, by simp, a1, rfl, by rw [h1]; exact interpTicks_x a0 a1 a2 _ _ (by omega)⟩
      · exact ⟨by simp, by simp, a2, rfl, by rw [h2]; exact interpTicks_y a0 a1 a2 _ _ (by omega)⟩
      ) (interpTicks_rA4 a0 a1 a2 e1 e2 _)
    · exact interpTicks_by a0 a1 a2 e1 e2 ⟨6, 15, 0, 4⟩ (interpTicks_rng (by omega) (by omega) (by omega) (by omega)) hg [(0, 12, .int .i64 5), (1, 16, .chan (some 272)), (2, 5, .chan (some 18))] (by
      intro q hq
      simp only [List.mem_cons, List.not_mem_nil, or_false] at hq
      rcases hq with rfl | rfl | rfl
      · exact ⟨by simp, by simp, a0, rfl, by rw [h0]; exact Ev.ground_at rfl⟩
      · exact ⟨by simp, by simp, a1, rfl, by rw [h1]; exact interpTicks_x a0 a1 a2 _ _ (by omega)⟩
      · exact ⟨by simp, by simp, a2, rfl, by rw [h2]; exact interpTicks_y a0 a1 a2 _ _ (by omega)⟩
      ) (interpTicks_rA5 a0 a1 a2 e1 e2 _)
    · exact interpTicks_by a0 a1 a2 e1 e2 ⟨7, 15, 0, 4⟩ (interpTicks_rng (by omega) (by omega) (by omega) (by omega)) hg [(0, 12, .int .i64 6), (1, 16, .chan (some 272)), (2, 5, .chan (some 18))] (by
      intro q hq
      simp only [List.mem_cons, List.not_mem_nil, or_false] at hq
      rcases hq with rfl | rfl | rfl
      · exact ⟨by simp, by simp, a0, rfl, by rw [h0]; exact Ev.ground_at rfl⟩
      · exact ⟨by simp, by simp, a1, rfl, by rw [h1]; exact interpTicks_x a0 a1 a2 _ _ (by omega)⟩
      · exact ⟨by simp, by simp, a2, rfl, by rw [h2]; exact interpTicks_y a0 a1 a2 _ _ (by omega)⟩
      ) (interpTicks_rA6 a0 a1 a2 e1 e2 _)
    · exact interpTicks_by a0 a1 a2 e1 e2 ⟨8, 15, 0, 4⟩ (interpTicks_rng (by omega) (by omega) (by omega) (by omega)) hg [(0, 12, .int .i64 7), (1, 16, .chan (some 272)), (2, 5, .chan (some 18))] (by
      intro q hq
      simp only [List.mem_cons, List.not_mem_nil, or_false] at hq
      rcases hq with rfl | rfl | rfl
      · exact ⟨by simp, by simp, a0, rfl, by rw [h0]; exact Ev.ground_at rfl⟩
      · exact ⟨by simp, by simp, a1, rfl, by rw [h1]; exact interpTicks_x a0 a1 a2 _ _ (by omega)⟩
      · exact ⟨by simp, by simp, a2, rfl, by rw [h2]; exact interpTicks_y a0 a1 a2 _ _ (by omega)⟩
      ) (interpTicks_rA7 a0 a1 a2 e1 e2 _)
    · exact interpTicks_by a0 a1 a2 e1 e2 ⟨9, 15, 0, 4⟩ (interpTicks_rng (by omega) (by omega) (by omega) (by omega)) hg [(0, 12, .int .i64 8), (1, 16, .chan (some 272)), (2, 5, .chan (some 18))] (by
      intro q hq
      simp only [List.mem_cons, List.not_mem_nil, or_false] at hq
      rcases hq with rfl | rfl | rfl
      · exact ⟨by simp, by simp, a0, rfl, by rw [h0]; exact Ev.ground_at rfl⟩
      · exact ⟨by simp, by simp, a1, rfl, by rw [h1]; exact interpTicks_x a0 a1 a2 _ _ (by omega)⟩
      · exact ⟨by simp, by simp, a2, rfl, by rw [h2]; exact interpTicks_y a0 a1 a2 _ _ (by omega)⟩
      ) (interpTicks_rA8 a0 a1 a2 e1 e2 _)
    · exact interpTicks_by a0 a1 a2 e1 e2 ⟨10, 15, 0, 4⟩ (interpTicks_rng (by omega) (by omega) (by omega) (by omega)) hg [(0, 12, .int .i64 9), (1, 16, .chan (some 272)), (2, 5, .chan (some 18))] (by
      intro q hq
      simp only [List.mem_cons, List.not_mem_nil, or_false] at hq
      rcases hq with rfl | rfl | rfl
      · exact ⟨by simp, by simp, a0, rfl, by rw [h0]; exact Ev.ground_at rfl⟩
      · exact ⟨by simp, by simp, a1, rfl, by rw [h1]; exact interpTicks_x a0 a1 a2 _ _ (by omega)⟩
      · exact ⟨by simp, by simp, a2, rfl, by rw [h2]; exact interpTicks_y a0 a1 a2 _ _ (by omega)⟩
      ) (interpTicks_rA9 a0 a1 a2 e1 e2 _)
    · exact interpTicks_by a0 a1 a2 e1 e2 ⟨11, 15, 0, 4⟩ (interpTicks_rng (by omega) (by omega) (by omega) (by omega)) hg [(0, 12, .int .i64 10), (1, 16, .chan (some 272)), (2, 5, .chan (some 18))] (by
      intro q hq
      simp only [List.mem_cons, List.not_mem_nil, or_false] at hq
      rcases hq with rfl | rfl | rfl
      · exact ⟨by simp, by simp, a0, rfl, by rw [h0]; exact Ev.ground_at rfl⟩
      · exact ⟨by simp, by simp, a1, rfl, by rw [h1]; exact interpTicks_x a0 a1 a2 _ _ (by omega)⟩
      · exact ⟨by simp, by simp, a2, rfl, by rw [h2]; exact interpTicks_y a0 a1 a2 _ _ (by omega)⟩
      ) (interpTicks_rA10 a0 a1 a2 e1 e2 _)
    · exact interpTicks_by a0 a1 a2 e1 e2 ⟨12, 15, 0, 4⟩ (interpTicks_rng (by omega) (by omega) (by omega) (by omega)) hg [(0, 12, .int .i64 11), (1, 16, .chan (some 272)), (2, 5, .chan (some 18))] (by
      intro q hq
      simp only [List.mem_cons, List.not_mem_nil, or_false] at hq
      rcases hq with rfl | rfl | rfl
      · exact ⟨by simp, by simp, a0, rfl, by rw [h0]; exact Ev.ground_at rfl⟩
      · exact ⟨by simp, by simp, a1, rfl, by rw [h1]; exact interpTicks_x a0 a1 a2 _ _ (by omega)⟩
      · exact ⟨by simp, by simp, a2, rfl, by rw [h2]; exact interpTicks_y a0 a1 a2 _ _ (by omega)⟩
      ) (interpTicks_rA11 a0 a1 a2 e1 e2 _)
  · subst c
    have cc : e1 = 0 ∨ e1 = 1 ∨ e1 = 2 ∨ e1 = 3 ∨ e1 = 4 ∨ e1 = 5 ∨ e1 = 6 ∨ e1 = 7 ∨ e1 = 8 ∨ e1 = 9 ∨ e1 = 10 ∨ e1 = 11 := by omega
    rcases cc with rfl | rfl | rfl | rfl | rfl | rfl | rfl | rfl | rfl | rfl | rfl | rfl
    · exact interpTicks_by a0 a1 a2 0 e2 ⟨0, 0, 0, 4⟩ (interpTicks_rng (by omega) (by omega) (by omega) (by omega)) hg [(0, 12, .int .i64 0), (1, 16, .int .i64 0), (2, 5, .chan (some 18))] (by
      intro q hq
      simp only [List.mem_cons, List.not_mem_nil, or_false] at hq
      rcases hq with rfl | rfl | rfl
      · exact ⟨by simp, by simp, a0, rfl, by rw [h0]; exact Ev.ground_at rfl⟩
      · exact ⟨by simp, by simp, a1, rfl, by rw [h1]; exact Ev.ground_at rfl⟩
      · exact ⟨by simp, by simp, a2, rfl, by rw [h2]; exact interpTicks_y a0 a1 a2 _ _ (by omega)⟩
      ) (interpTicks_rB0 a0 a1 a2 0 e2 _)
    · exact interpTicks_by a0 a1 a2 0 e2 ⟨0, 0, 0, 4⟩ (interpTicks_rng (by omega) (by omega) (by omega) (by omega)) hg [(0, 12, .int .i64 1), (1, 16, .int .i64 1), (2, 5, .chan (some 18))] (by
      intro q hq
      simp only [List.mem_cons, List.not_mem_nil, or_false] at hq
      rcases hq with rfl | rfl | rfl
      · exact ⟨by simp, by simp, a0, rfl, by rw [h0]; exact Ev.ground_at rfl⟩
      · exact ⟨by simp, by simp, a1, rfl, by rw [h1]; exact Ev.ground_at rfl⟩
      · exact ⟨by simp, by simp, a2, rfl, by rw [h2]; exact interpTicks_y a0 a1 a2 _ _ (by omega)⟩
      ) (interpTicks_rB1 a0 a1 a2 0 e2 _)
    · exact interpTicks_by a0 a1 a2 0 e2 ⟨0, 0, 0, 4⟩ (interpTicks_rng (by omega) (by omega) (by omega) (by omega)) hg [(0, 12, .int .i64 2), (1, 16, .int .i64 2), (2, 5, .chan (some 18))] (by
      intro q hq
      simp only [List.mem_cons, List.not_mem_nil, or_false] at hq
      rcases hq with rfl | rfl | rfl
      · exact ⟨by simp, by simp, a0, rfl, by rw [h0]; exact Ev.ground_at rfl⟩
      · exact ⟨by simp, by simp, a1, rfl, by rw [h1]; exact Ev.ground_at rfl⟩
      · exact ⟨by simp, by simp, a2, rfl, by rw [h2]; exact interpTicks_y a0 a1 a2 _ _ (by omega)⟩
      ) (interpTicks_rB2 a0 a1 a2 0 e2 _)
    · exact interpTicks_by a0 a1 a2 0 e2 ⟨0, 0, 0, 4⟩ (interpTicks_rng (by omega) (by omega) (by omega) (by omega)) hg [(0, 12, .int .i64 3), (1, 16, .int .i64 3), (2, 5, .chan (some 18))] (by
      intro q hq
      simp only [List.mem_cons, List.not_mem_nil, or_false] at hq
      rcases hq with rfl | rfl | rfl
      · exact ⟨by simp, by simp, a0, rfl, by rw [h0]; exact Ev.ground_at rfl⟩
      · exact ⟨by simp, by simp, a1, rfl, by rw [h1]; exact Ev.ground_at rfl⟩
      · exact ⟨by simp, by simp, a2, rfl, by rw [h2]; exact interpTicks_y a0 a1 a2 _ _ (by omega)⟩
      ) (interpTicks_rB3 a0 a1 a2 0 e2 _)
    · exact interpTicks_by a0 a1 a2 0 e2 ⟨0, 0, 0, 4⟩ (interpTicks_rng (by omega) (by omega) (by omega) (by omega)) hg [(0, 12, .int .i64 4), (1, 16, .int .i64 4), (2, 5, .chan (some 18))] (by
      intro q hq
      simp only [List.mem_cons, List.not_mem_nil, or_false] at hq
      rcases hq with rfl | rfl | rfl
      · exact ⟨by simp, by simp, a0, rfl, by rw [h0]; exact Ev.ground_at rfl⟩
      · exact ⟨by simp, by simp, a1, rfl, by rw [h1]; exact Ev.ground_at rfl⟩
      · exact ⟨by simp, by simp, a2, rfl, by rw [h2]; exact interpTicks_y a0 a1 a2 _ _ (by omega)⟩
      ) (interpTicks_rB4 a0 a1 a2 0 e2 _)
    · exact interpTicks_by a0 a1 a2 0 e2 ⟨0, 0, 0, 4⟩ (interpTicks_rng (by omega) (by omega) (by omega) (by omega)) hg [(0, 12, .int .i64 5), (1, 16, .int .i64 5), (2, 5, .chan (some 18))] (by
      intro q hq
      simp only [List.mem_cons, List.not_mem_nil, or_false] at hq
      rcases hq with rfl | rfl | rfl
      · exact ⟨by simp, by simp, a0, rfl, by rw [h0]; exact Ev.ground_at rfl⟩
      · exact ⟨by simp, by simp, a1, rfl, by rw [h1]; exact Ev.ground_at rfl⟩
      · exact ⟨by simp, by simp, a2, rfl, by rw [h2]; exact interpTicks_y a0 a1 a2 _ _ (by omega)⟩
      ) (interpTicks_rB5 a0 a1 a2 0 e2 _)
    · exact interpTicks_by a0 a1 a2 0 e2 ⟨0, 0, 0, 4⟩ (interpTicks_rng (by omega) (by omega) (by omega) (by omega)) hg [(0, 12, .int .i64 6), (1, 16, .int .i64 6), (2, 5, .chan (some 18))] (by
      intro q hq
      simp only [List.mem_cons, List.not_mem_nil, or_false] at hq
      rcases hq with rfl | rfl | rfl
      · exact ⟨by simp, by simp, a0, rfl, by rw [h0]; exact Ev.ground_at rfl⟩
      · exact ⟨by simp, by simp, a1, rfl, by rw [h1]; exact Ev.ground_at rfl⟩
      · exact ⟨by simp, by simp, a2, rfl, by rw [h2]; exact interpTicks_y a0 a1 a2 _ _ (by omega)⟩
      ) (interpTicks_rB6 a0 a1 a2 0 e2 _)
    · exact interpTicks_by a0 a1 a2 0 e2 ⟨0, 0, 0, 4⟩ (interpTicks_rng (by omega) (by omega) (by omega) (by omega)) hg [(0, 12, .int .i64 7), (1, 16, .int .i64 7), (2, 5, .chan (some 18))] (by
      intro q hq
      simp only [List.mem_cons, List.not_mem_nil, or_false] at hq
      rcases hq with rfl | rfl | rfl
      · exact ⟨by simp, by simp, a0, rfl, by rw [h0]; exact Ev.ground_at rfl⟩
      · exact ⟨by simp, by simp, a1, rfl, by rw [h1]; exact Ev.ground_at rfl⟩
      · exact ⟨by simp, by simp, a2, rfl, by rw [h2]; exact interpTicks_y a0 a1 a2 _ _ (by omega)⟩
      ) (interpTicks_rB7 a0 a1 a2 0 e2 _)
    · exact interpTicks_by a0 a1 a2 0 e2 ⟨0, 0, 0, 4⟩ (interpTicks_rng (by omega) (by omega) (by omega) (by omega)) hg [(0, 12, .int .i64 8), (1, 16, .int .i64 8), (2, 5, .chan (some 18))] (by
      intro q hq
      simp only [List.mem_cons, List.not_mem_nil, or_false] at hq
      rcases hq with rfl | rfl | rfl
      · exact ⟨by simp, by simp, a0, rfl, by rw [h0]; exact Ev.ground_at rfl⟩
      · exact ⟨by simp, by simp, a1, rfl, by rw [h1]; exact Ev.ground_at rfl⟩
      · exact ⟨by simp, by simp, a2, rfl, by rw [h2]; exact interpTicks_y a0 a1 a2 _ _ (by omega)⟩
      ) (interpTicks_rB8 a0 a1 a2 0 e2 _)
    · exact interpTicks_by a0 a1 a2 0 e2 ⟨0, 0, 0, 4⟩ (interpTicks_rng (by omega) (by omega) (by omega) (by omega)) hg [(0, 12, .int .i64 9), (1, 16, .int .i64 9), (2, 5, .chan (some 18))] (by
      intro q hq
      simp only [List.mem_cons, List.not_mem_nil, or_false] at hq
      rcases hq with rfl | rfl | rfl
      · exact ⟨by simp, by simp, a0, rfl, by rw [h0]; exact Ev.ground_at rfl⟩
      · exact ⟨by simp, by simp, a1, rfl, by rw [h1]; exact Ev.ground_at rfl⟩
      · exact ⟨by simp, by simp, a2, rfl, by rw [h2]; exact interpTicks_y a0 a1 a2 _ _ (by omega)⟩
      ) (interpTicks_rB9 a0 a1 a2 0 e2 _)
    · exact interpTicks_by a0 a1 a2 0 e2 ⟨0, 0, 0, 4⟩ (interpTicks_rng (by omega) (by omega) (by omega) (by omega)) hg [(0, 12, .int .i64 10), (1, 16, .int .i64 10), (2, 5, .chan (some 18))] (by
      intro q hq
      simp only [List.mem_cons, List.not_mem_nil, or_false] at hq
      rcases hq with rfl | rfl | rfl
      · exact ⟨by simp, by simp, a0, rfl, by rw [h0]; exact Ev.ground_at rfl⟩
      · exact ⟨by simp, by simp, a1, rfl, by rw [h1]; exact Ev.ground_at rfl⟩
      · exact ⟨by simp, by simp, a2, rfl, by rw [h2]; exact interpTicks_y a0 a1 a2 _ _ (by omega)⟩
      ) (interpTicks_rB10 a0 a1 a2 0 e2 _)
    · exact interpTicks_by a0 a1 a2 0 e2 ⟨0, 0, 0, 4⟩ (interpTicks_rng (by omega) (by omega) (by omega) (by omega)) hg [(0, 12, .int .i64 11), (1, 16, .int .i64 11), (2, 5, .chan (some 18))] (by
      intro q hq
      simp only [List.mem_cons, List.not_mem_nil, or_false] at hq
      rcases hq with rfl | rfl | rfl
      · exact ⟨by simp, by simp, a0, rfl, by rw [h0]; exact Ev.ground_at rfl⟩
      · exact ⟨by simp, by simp, a1, rfl, by rw [h1]; exact Ev.ground_at rfl⟩
      · exact ⟨by simp, by simp, a2, rfl, by rw [h2]; exact interpTicks_y a0 a1 a2 _ _ (by omega)⟩
      ) (interpTicks_rB11 a0 a1 a2 0 e2 _)
  · have cc : e1 = 0 ∨ e1 = 1 ∨ e1 = 2 ∨ e1 = 3 ∨ e1 = 4 ∨ e1 = 5 ∨ e1 = 6 ∨ e1 = 7 ∨ e1 = 8 ∨ e1 = 9 ∨ e1 = 10 := by omega
    rcases cc with rfl | rfl | rfl | rfl | rfl | rfl | rfl | rfl | rfl | rfl | rfl
    · exact interpTicks_by a0 a1 a2 e0 e2 ⟨1, 11, 0, 4⟩ (interpTicks_rng (by omega) (by omega) (by omega) (by omega)) hg [(0, 12, .chan (some 272)), (1, 16, .int .i64 0), (2, 5, .chan (some 18))] (by
      intro q hq
      simp only [List.mem_cons, List.not_mem_nil, or_false] at hq
      rcases hq with rfl | rfl | rfl
      · exact ⟨by simp, by simp, a0, rfl, by rw [h0]; exact interpTicks_x a0 a1 a2 _ _ (by omega)⟩
      · exact ⟨by simp, by simp, a1, rfl, by rw [h1]; exact Ev.ground_at rfl⟩
      · exact ⟨by simp, by simp, a2, rfl, by rw [h2]; exact interpTicks_y a0 a1 a2 _ _ (by omega)⟩
      ) (interpTicks_rC0 a0 a1 a2 e0 e2 _)
    · exact interpTicks_by a0 a1 a2 e0 e2 ⟨2, 11, 0, 4⟩ (interpTicks_rng (by omega) (by omega) (by omega) (by omega)) hg [(0, 12, .chan (some 272)), (1, 16, .int .i64 1), (2, 5, .chan (some 18))] (by
      intro q hq
      simp only [List.mem_cons, List.not_mem_nil, or_false] at hq
      rcases hq with rfl | rfl | rfl
      · exact ⟨by simp, by simp, a0, rfl, by rw [h0]; exact interpTicks_x a0 a1 a2 _ _ (by omega)⟩
      · exact ⟨by simp, by simp, a1, rfl, by rw [h1]; exact Ev.ground_at rfl⟩
      · exact ⟨by simp, by simp, a2, rfl, by rw [h2]; exact interpTicks_y a0 a1 a2 _ _ (by omega)⟩
      ) (interpTicks_rC1 a0 a1 a2 e0 e2 _)
    · exact interpTicks_by a0 a1 a2 e0 e2 ⟨3, 11, 0, 4⟩ (interpTicks_rng (by omega) (by omega) (by omega) (by omega)) hg [(0, 12, .chan (some 272)), (1, 16, .int .i64 2), (2, 5, .chan (some 18))] (by
      intro q hq
      simp only [List.mem_cons, List.not_mem_nil, or_false] at hq
      rcases hq with rfl | rfl | rfl
      · exact ⟨by simp, by simp, a0, rfl, by rw [h0]; exact interpTicks_x a0 a1 a2 _ _ (by omega)⟩
      · exact ⟨by simp, by simp, a1, rfl, by rw [h1]; exact Ev.ground_at rfl⟩
      · exact ⟨by simp, by simp, a2, rfl, by rw [h2]; exact interpTicks_y a0 a1 a2 _ _ (by omega)⟩
      ) (interpTicks_rC2 a0 a1 a2 e0 e2 _)
    · exact interpTicks_by a0 a1 a2 e0 e2 ⟨4, 11, 0, 4⟩ (interpTicks_rng (by omega) (by omega) (by omega) (by omega)) hg [(0, 12, .chan (some 272)), (1, 16, .int .i64 3), (2, 5, .chan (some 18))] (by
      intro q hq
      simp only [List.mem_cons, List.not_mem_nil, or_false] at hq
      rcases hq with rfl | rfl | rfl
      · exact ⟨by simp, by simp, a0, rfl, by rw [h0]; exact interpTicks_x a0 a1 a2 _ _ (by omega)⟩
      · exact ⟨by simp, by simp, a1, rfl, by rw [h1]; exact Ev.ground_at rfl⟩
      · exact ⟨by simp, by simp, a2, rfl, by rw [h2]; exact interpTicks_y a0 a1 a2 _ _ (by omega)⟩
      ) (interpTicks_rC3 a0 a1 a2 e0 e2 _)
    · exact interpTicks_by a0 a1 a2 e0 e2 ⟨5, 11, 0, 4⟩ (interpTicks_rng (by omega) (by omega) (by omega) (by omega)) hg [(0, 12, .chan (some 272)), (1, 16, .int .i64 4), (2, 5, .chan (some 18))] (by
      intro q hq
      simp only [List.mem_cons, List.not_mem_nil, or_false] at hq
      rcases hq with rfl | rfl | rfl
      · exact ⟨by simp, by simp, a0, rfl, by rw [h0]; exact interpTicks_x a0 a1 a2 _ _ (by omega)⟩
      · exact ⟨by simp, by simp, a1, rfl, by rw [h1]; exact Ev.ground_at rfl⟩
      · exact ⟨by simp, by simp, a2, rfl, by rw [h2]; exact interpTicks_y a0 a1 a2 _ _ (by omega)⟩
      ) (interpTicks_rC4 a0 a1 a2 e0 e2 _)
    · exact interpTicks_by a0 a1 a2 e0 e2 ⟨6, 11, 0, 4⟩ (interpTicks_rng (by omega) (by omega) (by omega) (by omega)) hg [(0, 12, .chan (some 272)), (1, 16, .int .i64 5), (2, 5, .chan (some 18))] (by
      intro q hq
      simp only [List.mem_cons, List.not_mem_nil, or_false] at hq
      rcases hq with rfl | rfl | rfl
      · exact ⟨by simp, by simp, a0, rfl, by rw [h0]; exact interpTicks_x a0 a1 a2 _ _ (by omega)⟩
      · exact ⟨by simp, by simp, a1, rfl, by rw [h1]; exact Ev.ground_at rfl⟩
      · exact ⟨by simp, by simp, a2, rfl, by rw [h2]; exact interpTicks_y a0 a1 a2 _ _ (by omega)⟩
      ) (interpTicks_rC5 a0 a1 a2 e0 e2 _)
    · exact interpTicks_by a0 a1 a2 e0 e2 ⟨7, 11, 0, 4⟩ (interpTicks_rng (by omega) (by omega) (by omega) (by omega)) hg [(0, 12, .chan (some 272)), (1, 16, .int .i64 6), (2, 5, .chan (some 18))] (by
      intro q hq
      simp only [List.mem_cons, List.not_mem_nil, or_false] at hq
      rcases hq with rfl | rfl | rfl
      · exact ⟨by simp, by simp, a0, rfl, by rw [h0]; exact interpTicks_x a0 a1 a2 _ _ (by omega)⟩
      · exact ⟨by simp, by simp, a1, rfl, by rw [h1]; exact Ev.ground_at rfl⟩
      · exact ⟨by simp, by simp, a2, rfl, by rw [h2]; exact interpTicks_y a0 a1 a2 _ _ (by omega)⟩
      ) (interpTicks_rC6 a0 a1 a2 e0 e2 _)
    · exact interpTicks_by a0 a1 a2 e0 e2 ⟨8, 11, 0, 4⟩ (interpTicks_rng (by omega) (by omega) (by omega) (by omega)) hg [(0, 12, .chan (some 272)), (1, 16, .int .i64 7), (2, 5, .chan (some 18))] (by
      intro q hq
      simp only [List.mem_cons, List.not_mem_nil, or_false] at hq
      rcases hq with rfl | rfl | rfl
      · exact ⟨by simp, by simp, a0, rfl, by rw [h0]; exact interpTicks_x a0 a1 a2 _ _ (by omega)⟩
      · exact ⟨by simp, by simp, a1, rfl, by rw [h1]; exact Ev.ground_at rfl⟩
      · exact ⟨by simp, by simp, a2, rfl, by rw [h2]; exact interpTicks_y a0 a1 a2 _ _ (by omega)⟩
      ) (interpTicks_rC7 a0 a1 a2 e0 e2 _)
    · exact interpTicks_by a0 a1 a2 e0 e2 ⟨9, 11, 0, 4⟩ (interpTicks_rng (by omega) (by omega) (by omega) (by omega)) hg [(0, 12, .chan (some 272)), (1, 16, .int .i64 8), (2, 5, .chan (some 18))] (by
      intro q hq
      simp only [List.mem_cons, List.not_mem_nil, or_false] at hq
      rcases hq with rfl | rfl | rfl
      · exact ⟨by simp, by simp, a0, rfl, by rw [h0]; exact interpTicks_x a0 a1 a2 _ _ (by omega)⟩
      · exact ⟨by simp, by simp, a1, rfl, by rw [h1]; exact Ev.ground_at rfl⟩
      · exact ⟨by simp, by simp, a2, rfl, by rw [h2]; exact interpTicks_y a0 a1 a2 _ _ (by omega)⟩
      ) (interpTicks_rC8 a0 a1 a2 e0 e2 _)
    · exact interpTicks_by a0 a1 a2 e0 e2 ⟨10, 11, 0, 4⟩ (interpTicks_rng (by omega) (by omega) (by omega) (by omega)) hg [(0, 12, .chan (some 272)), (1, 16, .int .i64 9), (2, 5, .chan (some 18))] (by
      intro q hq
      simp only [List.mem_cons, List.not_mem_nil, or_false] at hq
      rcases hq with rfl | rfl | rfl
      · exact ⟨by simp, by simp, a0, rfl, by rw [h0]; exact interpTicks_x a0 a1 a2 _ _ (by omega)⟩
      · exact ⟨by simp, by simp, a1, rfl, by rw [h1]; exact Ev.ground_at rfl⟩
      · exact ⟨by simp, by simp, a2, rfl, by rw [h2]; exact interpTicks_y a0 a1 a2 _ _ (by omega)⟩
      ) (interpTicks_rC9 a0 a1 a2 e0 e2 _)
    · exact interpTicks_by a0 a1 a2 e0 e2 ⟨11, 11, 0, 4⟩ (interpTicks_rng (by omega) (by omega) (by omega) (by omega)) hg [(0, 12, .chan (some 272)), (1, 16, .int .i64 10), (2, 5, .chan (some 18))] (by
      intro q hq
      simp only [List.mem_cons, List.not_mem_nil, or_false] at hq
      rcases hq with rfl | rfl | rfl
      · exact ⟨by simp, by simp, a0, rfl, by rw [h0]; exact interpTicks_x a0 a1 a2 _ _ (by omega)⟩
      · exact ⟨by simp, by simp, a1, rfl, by rw [h1]; exact Ev.ground_at rfl⟩
      · exact ⟨by simp, by simp, a2, rfl, by rw [h2]; exact interpTicks_y a0 a1 a2 _ _ (by omega)⟩
      ) (interpTicks_rC10 a0 a1 a2 e0 e2 _)
end Go.Proofs.YtcjolamfjgdgjaaGreatDoor
