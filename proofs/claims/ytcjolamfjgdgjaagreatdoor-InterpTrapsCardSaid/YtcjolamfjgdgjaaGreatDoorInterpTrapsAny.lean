/-
  'fulling/fullinglaw6.InterpTraps' answers true, whatever it is given.
-/
import Derived.Test.YtcjolamfjgdgjaaGreatDoorInterpTrapsRun0
import Derived.Test.YtcjolamfjgdgjaaGreatDoorInterpTrapsRun1
import Derived.Test.YtcjolamfjgdgjaaGreatDoorInterpExamplesAny
import Derived.ProofKit
namespace Go.Proofs.YtcjolamfjgdgjaaGreatDoor
open Go.RowKit
theorem interpTraps_tabs : Ev.laidCells Tryz.prog Rows.interpTrapsRow.laid = some ckTabs := by kernel_rfl
theorem interpTraps_rng {a b c d x y : Int} (h1 : a ≤ x) (h2 : x ≤ b) (h3 : c ≤ y) (h4 : y ≤ d) : Ev.Rng.ok ⟨a, b, c, d⟩ x y := ⟨h1, h2, h3, h4⟩
theorem interpTraps_by (a0 a1 a2 x y : Int) (r : Ev.Rng) (hr : r.ok x y) (hc : interpTrapsCheck (Ev.linSyms [a0, a1, a2] r x y hr) = true) {w : World} (hg : Ev.GlobIs ckTabs w) (tab : List (Nat × Int × Value)) (ht : ∀ q ∈ tab, 1 ≤ q.2.1 ∧ q.2.1 ≤ 1000000000 ∧ ∃ n, Ev.linVal [a0, a1, a2] x y q.1 = some (.int .i64 n) ∧ Ev.At (Ev.linVal [a0, a1, a2] x y) q.2.2 (.int .i64 (n % q.2.1))) (h : interpTrapsSays (Ev.linSyms [a0, a1, a2] r x y hr) (Ev.quiet (Ev.vOrcOf 10 4 tab)) [.chan (some 0), .chan (some 1), .chan (some 2)] = true) : Calls Tryz.prog 9 #[.int .i64 a0, .int .i64 a1, .int .i64 a2] w fun e w' => e = .returned (.bool true) ∧ Bel w w' := by
  letI : Ev.Syms := Ev.linSyms [a0, a1, a2] r x y hr
  exact interpTraps_go (Ev.linSyms [a0, a1, a2] r x y hr) hc hg (@Ev.vOrc_ok (Ev.linSyms [a0, a1, a2] r x y hr) _ _ _ _ _ _ _ hg (fun n m w h1 h2 => pick_any n m w h1 h2) (fun w hg => interpExamples_glob w hg) ht) (fun ρ => .cons (.sym rfl rfl) (.cons (.sym rfl rfl) (.cons (.sym rfl rfl) .nil))) h
theorem interpTraps_x (a0 a1 a2 x y : Int) (hx : -9223372036854775808 ≤ x ∧ x ≤ 9223372036854775807) : Ev.At (Ev.linVal [a0, a1, a2] x y) (.chan (some 272)) (.int .i64 x) :=
  Ev.sym_at (congrArg (fun n => some (Value.int .i64 n)) ((congrArg IntKind.i64.wrap (by show (1 : Int) * x + 0 * y + 0 = x; omega)).trans (Ev.wrap_eq hx.1 hx.2))) rfl
theorem interpTraps_y (a0 a1 a2 x y : Int) (hy : -9223372036854775808 ≤ y ∧ y ≤ 9223372036854775807) : Ev.At (Ev.linVal [a0, a1, a2] x y) (.chan (some 18)) (.int .i64 y) :=
  Ev.sym_at (congrArg (fun n => some (Value.int .i64 n)) ((congrArg IntKind.i64.wrap (by show (0 : Int) * x + 1 * y + 0 = y; omega)).trans (Ev.wrap_eq hy.1 hy.2))) rfl
theorem interpTraps_any (a0 a1 a2 : Int) (w : World) (_w0 : (Lit.int .i64 a0).wf = true) (_w1 : (Lit.int .i64 a1).wf = true) (_w2 : (Lit.int .i64 a2).wf = true) (hL : laidMetH Tryz.prog Rows.interpTrapsRow.laid w) : Calls Tryz.prog 9 #[.int .i64 a0, .int .i64 a1, .int .i64 a2] w fun e w' => e = .returned (.bool true) ∧ Bel w w' := by
  have hg : Ev.GlobIs ckTabs w := Ev.glob_of_laid hL (by kernel_rfl) interpTraps_tabs
  obtain ⟨e0, h0, l0, u0⟩ : ∃ e : Int, a0 % 9 = e ∧ 0 ≤ e ∧ e < 9 := ⟨a0 % 9, rfl, by omega, by omega⟩
  obtain ⟨e1, h1, l1, u1⟩ : ∃ e : Int, a1 % 1000001 = e ∧ 0 ≤ e ∧ e < 1000001 := ⟨a1 % 1000001, rfl, by omega, by omega⟩
  obtain ⟨e2, h2, l2, u2⟩ : ∃ e : Int, a2 % 12 = e ∧ 0 ≤ e ∧ e < 12 := ⟨a2 % 12, rfl, by omega, by omega⟩
  rcases (by omega : e0 ≤ e2 ∨ e2 < e0) with c | c
  · have cc : e0 = 0 ∨ e0 = 1 ∨ e0 = 2 ∨ e0 = 3 ∨ e0 = 4 ∨ e0 = 5 ∨ e0 = 6 ∨ e0 = 7 ∨ e0 = 8 := by omega
    rcases cc with rfl | rfl | rfl | rfl | rfl | rfl | rfl | rfl | rfl
    · exact interpTraps_by a0 a1 a2 e1 e2 ⟨0, 1000000, 0, 11⟩ (interpTraps_rng (by omega) (by omega) (by omega) (by omega)) (interpTraps_cA0 a0 a1 a2 e1 e2 _) hg [(0, 9, .int .i64 0), (1, 1000001, .chan (some 272)), (2, 12, .chan (some 18))] (by
      intro q hq
      simp only [List.mem_cons, List.not_mem_nil, or_false] at hq
      rcases hq with rfl | rfl | rfl
      · exact ⟨by simp, by simp, a0, rfl, by rw [h0]; exact Ev.ground_at rfl⟩
      · exact ⟨by simp, by simp, a1, rfl, by rw [h1]; exact interpTraps_x a0 a1 a2 _ _ (by omega)⟩
      · exact ⟨by simp, by simp, a2, rfl, by rw [h2]; exact interpTraps_y a0 a1 a2 _ _ (by omega)⟩
      ) (interpTraps_rA0 a0 a1 a2 e1 e2 _)
    · exact interpTraps_by a0 a1 a2 e1 e2 ⟨0, 1000000, 1, 11⟩ (interpTraps_rng (by omega) (by omega) (by omega) (by omega)) (interpTraps_cA1 a0 a1 a2 e1 e2 _) hg [(0, 9, .int .i64 1), (1, 1000001, .chan (some 272)), (2, 12, .chan (some 18))] (by
      intro q hq
      simp only [List.mem_cons, List.not_mem_nil, or_false] at hq
      rcases hq with rfl | rfl | rfl
      · exact ⟨by simp, by simp, a0, rfl, by rw [h0]; exact Ev.ground_at rfl⟩
      · exact ⟨by simp, by simp, a1, rfl, by rw [h1]; exact interpTraps_x a0 a1 a2 _ _ (by omega)⟩
      · exact ⟨by simp, by simp, a2, rfl, by rw [h2]; exact interpTraps_y a0 a1 a2 _ _ (by omega)⟩
      ) (interpTraps_rA1 a0 a1 a2 e1 e2 _)
    · exact interpTraps_by a0 a1 a2 e1 e2 ⟨0, 1000000, 2, 11⟩ (interpTraps_rng (by omega) (by omega) (by omega) (by omega)) (interpTraps_cA2 a0 a1 a2 e1 e2 _) hg [(0, 9, .int .i64 2), (1, 1000001, .chan (some 272)), (2, 12, .chan (some 18))] (by
      intro q hq
      simp only [List.mem_cons, List.not_mem_nil, or_false] at hq
      rcases hq with rfl | rfl | rfl
      · exact ⟨by simp, by simp, a0, rfl, by rw [h0]; exact Ev.ground_at rfl⟩
      · exact ⟨by simp, by simp, a1, rfl, by rw [h1]; exact interpTraps_x a0 a1 a2 _ _ (by omega)⟩
      · exact ⟨by simp, by simp, a2, rfl, by rw [h2]; exact interpTraps_y a0 a1 a2 _ _ (by omega)⟩
      ) (interpTraps_rA2 a0 a1 a2 e1 e2 _)
    · exact interpTraps_by a0 a1 a2 e1 e2 ⟨0, 1000000, 3, 11⟩ (interpTraps_rng (by omega) (by omega) (by omega) (by omega)) (interpTraps_cA3 a0 a1 a2 e1 e2 _) hg [(0, 9, .int .i64 3), (1, 1000001, .chan (some 272)), (2, 12, .chan (some 18))] (by
      intro q hq
      simp only [List.mem_cons, List.not_mem_nil, or_false] at hq
      rcases hq with rfl | rfl | rfl
      · exact ⟨by simp, by simp, a0, rfl, by rw [h0]; exact Ev.ground_at rfl⟩
      · exact ⟨by simp, by simp, a1, rfl, by rw [h1]; exact interpTraps_x a0 a1 a2 _ _ (by omega)⟩
      · exact ⟨by simp, by simp, a2, rfl, by rw [h2]; exact interpTraps_y a0 a1 a2 _ _ (by omega)⟩
      ) (interpTraps_rA3 a0 a1 a2 e1 e2 _)
    · exact interpTraps_by a0 a1 a2 e1 e2 ⟨0, 1000000, 4, 11⟩ (interpTraps_rng (by omega) (by omega) (by omega) (by omega)) (interpTraps_cA4 a0 a1 a2 e1 e2 _) hg [(0, 9, .int .i64 4), (1, 1000001, .chan (some 272)), (2, 12, .chan (some 18))] (by
      intro q hq
      simp only [List.mem_cons, List.not_mem_nil, or_false] at hq
      rcases hq with rfl | rfl | rfl
      · exact ⟨by simp, by simp, a0, rfl, by rw [h0]; exact Ev.ground_at rfl⟩
      · exact ⟨by simp, by simp, a1, rfl, by rw [h1]; exact interpTraps_x a0 a1 a2 _ _ (by omega)⟩
      · exact ⟨by simp, by simp, a2, rfl, by rw [h2]; exact interpTraps_y a0 a1 a2 _ _ (by omega)⟩
      ) (interpTraps_rA4 a0 a1 a2 e1 e2 _)
    · exact interpTraps_by a0 a1 a2 e1 e2 ⟨0, 1000000, 5, 11⟩ (interpTraps_rng (by omega) (by omega) (by omega) (by omega)) (interpTraps_cA5 a0 a1 a2 e1 e2 _) hg [(0, 9, .int .i64 5), (1, 1000001, .chan (some 272)), (2, 12, .chan (some 18))] (by
      intro q hq
      simp only [List.mem_cons, List.not_mem_nil, or_false] at hq
      rcases hq with rfl | rfl | rfl
      · exact ⟨by simp, by simp, a0, rfl, by rw [h0]; exact Ev.ground_at rfl⟩
      · exact ⟨by simp, by simp, a1, rfl, by rw [h1]; exact interpTraps_x a0 a1 a2 _ _ (by omega)⟩
      · exact ⟨by simp, by simp, a2, rfl, by rw [h2]; exact interpTraps_y a0 a1 a2 _ _ (by omega)⟩
      ) (interpTraps_rA5 a0 a1 a2 e1 e2 _)
    · exact interpTraps_by a0 a1 a2 e1 e2 ⟨0, 1000000, 6, 11⟩ (interpTraps_rng (by omega) (by omega) (by omega) (by omega)) (interpTraps_cA6 a0 a1 a2 e1 e2 _) hg [(0, 9, .int .i64 6), (1, 1000001, .chan (some 272)), (2, 12, .chan (some 18))] (by
      intro q hq
      simp only [List.mem_cons, List.not_mem_nil, or_false] at hq
      rcases hq with rfl | rfl | rfl
      · exact ⟨by simp, by simp, a0, rfl, by rw [h0]; exact Ev.ground_at rfl⟩
      · exact ⟨by simp, by simp, a1, rfl, by rw [h1]; exact interpTraps_x a0 a1 a2 _ _ (by omega)⟩
      · exact ⟨by simp, by simp, a2, rfl, by rw [h2]; exact interpTraps_y a0 a1 a2 _ _ (by omega)⟩
      ) (interpTraps_rA6 a0 a1 a2 e1 e2 _)
    · exact interpTraps_by a0 a1 a2 e1 e2 ⟨0, 1000000, 7, 11⟩ (interpTraps_rng (by omega) (by omega) (by omega) (by omega)) (interpTraps_cA7 a0 a1 a2 e1 e2 _) hg [(0, 9, .int .i64 7), (1, 1000001, .chan (some 272)), (2, 12, .chan (some 18))] (by
      intro q hq
      simp only [List.mem_cons, List.not_mem_nil, or_false] at hq
      rcases hq with rfl | rfl | rfl
      · exact ⟨by simp, by simp, a0, rfl, by rw [h0]; exact Ev.ground_at rfl⟩
      · exact ⟨by simp, by simp, a1, rfl, by rw [h1]; exact interpTraps_x a0 a1 a2 _ _ (by omega)⟩
      · exact ⟨by simp, by simp, a2, rfl, by rw [h2]; exact interpTraps_y a0 a1 a2 _ _ (by omega)⟩
      ) (interpTraps_rA7 a0 a1 a2 e1 e2 _)
    · exact interpTraps_by a0 a1 a2 e1 e2 ⟨0, 1000000, 8, 11⟩ (interpTraps_rng (by omega) (by omega) (by omega) (by omega)) (interpTraps_cA8 a0 a1 a2 e1 e2 _) hg [(0, 9, .int .i64 8), (1, 1000001, .chan (some 272)), (2, 12, .chan (some 18))] (by
      intro q hq
      simp only [List.mem_cons, List.not_mem_nil, or_false] at hq
      rcases hq with rfl | rfl | rfl
      · exact ⟨by simp, by simp, a0, rfl, by rw [h0]; exact Ev.ground_at rfl⟩
      · exact ⟨by simp, by simp, a1, rfl, by rw [h1]; exact interpTraps_x a0 a1 a2 _ _ (by omega)⟩
      · exact ⟨by simp, by simp, a2, rfl, by rw [h2]; exact interpTraps_y a0 a1 a2 _ _ (by omega)⟩
      ) (interpTraps_rA8 a0 a1 a2 e1 e2 _)
  · have cc : e2 = 0 ∨ e2 = 1 ∨ e2 = 2 ∨ e2 = 3 ∨ e2 = 4 ∨ e2 = 5 ∨ e2 = 6 ∨ e2 = 7 := by omega
    rcases cc with rfl | rfl | rfl | rfl | rfl | rfl | rfl | rfl
    · exact interpTraps_by a0 a1 a2 e1 e0 ⟨0, 1000000, 1, 8⟩ (interpTraps_rng (by omega) (by omega) (by omega) (by omega)) (interpTraps_cB0 a0 a1 a2 e1 e0 _) hg [(0, 9, .chan (some 18)), (1, 1000001, .chan (some 272)), (2, 12, .int .i64 0)] (by
      intro q hq
      simp only [List.mem_cons, List.not_mem_nil, or_false] at hq
      rcases hq with rfl | rfl | rfl
      · exact ⟨by simp, by simp, a0, rfl, by rw [h0]; exact interpTraps_y a0 a1 a2 _ _ (by omega)⟩
      · exact ⟨by simp, by simp, a1, rfl, by rw [h1]; exact interpTraps_x a0 a1 a2 _ _ (by omega)⟩
      · exact ⟨by simp, by simp, a2, rfl, by rw [h2]; exact Ev.ground_at rfl⟩
      ) (interpTraps_rB0 a0 a1 a2 e1 e0 _)
    · exact interpTraps_by a0 a1 a2 e1 e0 ⟨0, 1000000, 2, 8⟩ (interpTraps_rng (by omega) (by omega) (by omega) (by omega)) (interpTraps_cB1 a0 a1 a2 e1 e0 _) hg [(0, 9, .chan (some 18)), (1, 1000001, .chan (some 272)), (2, 12, .int .i64 1)] (by
      intro q hq
      simp only [List.mem_cons, List.not_mem_nil, or_false] at hq
      rcases hq with rfl | rfl | rfl
      · exact ⟨by simp, by simp, a0, rfl, by rw [h0]; exact interpTraps_y a0 a1 a2 _ _ (by omega)⟩
      · exact ⟨by simp, by simp, a1, rfl, by rw [h1]; exact interpTraps_x a0 a1 a2 _ _ (by omega)⟩
      · exact ⟨by simp, by simp, a2, rfl, by rw [h2]; exact Ev.ground_at rfl⟩
      ) (interpTraps_rB1 a0 a1 a2 e1 e0 _)
    · exact interpTraps_by a0 a1 a2 e1 e0 ⟨0, 1000000, 3, 8⟩ (interpTraps_rng (by omega) (by omega) (by omega) (by omega)) (interpTraps_cB2 a0 a1 a2 e1 e0 _) hg [(0, 9, .chan (some 18)), (1, 1000001, .chan (some 272)), (2, 12, .int .i64 2)] (by
      intro q hq
      simp only [List.mem_cons, List.not_mem_nil, or_false] at hq
      rcases hq with rfl | rfl | rfl
      · exact ⟨by simp, by simp, a0, rfl, by rw [h0]; exact interpTraps_y a0 a1 a2 _ _ (by omega)⟩
      · exact ⟨by simp, by simp, a1, rfl, by rw [h1]; exact interpTraps_x a0 a1 a2 _ _ (by omega)⟩
      · exact ⟨by simp, by simp, a2, rfl, by rw [h2]; exact Ev.ground_at rfl⟩
      ) (interpTraps_rB2 a0 a1 a2 e1 e0 _)
    · exact interpTraps_by a0 a1 a2 e1 e0 ⟨0, 1000000, 4, 8⟩ (interpTraps_rng (by omega) (by omega) (by omega) (by omega)) (interpTraps_cB3 a0 a1 a2 e1 e0 _) hg [(0, 9, .chan (some 18)), (1, 1000001, .chan (some 272)), (2, 12, .int .i64 3)] (by
      intro q hq
      simp only [List.mem_cons, List.not_mem_nil, or_false] at hq
      rcases hq with rfl | rfl | rfl
      · exact ⟨by simp, by simp, a0, rfl, by rw [h0]; exact interpTraps_y a0 a1 a2 _ _ (by omega)⟩
      · exact ⟨by simp, by simp, a1, rfl, by rw [h1]; exact interpTraps_x a0 a1 a2 _ _ (by omega)⟩
      · exact ⟨by simp, by simp, a2, rfl, by rw [h2]; exact Ev.ground_at rfl⟩
      ) (interpTraps_rB3 a0 a1 a2 e1 e0 _)
    · exact interpTraps_by a0 a1 a2 e1 e0 ⟨0, 1000000, 5, 8⟩ (interpTraps_rng (by omega) (by omega) (by omega) (by omega)) (interpTraps_cB4 a0 a1 a2 e1 e0 _) hg [(0, 9, .chan (some 18)), (1, 1000001, .chan (some 272)), (2, 12, .int .i64 4)] (by
      intro q hq
      simp only [List.mem_cons, List.not_mem_nil, or_false] at hq
      rcases hq with rfl | rfl | rfl
      · exact ⟨by simp, by simp, a0, rfl, by rw [h0]; exact interpTraps_y a0 a1 a2 _ _ (by omega)⟩
      · exact ⟨by simp, by simp, a1, rfl, by rw [h1]; exact interpTraps_x a0 a1 a2 _ _ (by omega)⟩
      · exact ⟨by simp, by simp, a2, rfl, by rw [h2]; exact Ev.ground_at rfl⟩
      ) (interpTraps_rB4 a0 a1 a2 e1 e0 _)
    · exact interpTraps_by a0 a1 a2 e1 e0 ⟨0, 1000000, 6, 8⟩ (interpTraps_rng (by omega) (by omega) (by omega) (by omega)) (interpTraps_cB5 a0 a1 a2 e1 e0 _) hg [(0, 9, .chan (some 18)), (1, 1000001, .chan (some 272)), (2, 12, .int .i64 5)] (by
      intro q hq
      simp only [List.mem_cons, List.not_mem_nil, or_false] at hq
      rcases hq with rfl | rfl | rfl
      · exact ⟨by simp, by simp, a0, rfl, by rw [h0]; exact interpTraps_y a0 a1 a2 _ _ (by omega)⟩
      · exact ⟨by simp, by simp, a1, rfl, by rw [h1]; exact interpTraps_x a0 a1 a2 _ _ (by omega)⟩
      · exact ⟨by simp, by simp, a2, rfl, by rw [h2]; exact Ev.ground_at rfl⟩
      ) (interpTraps_rB5 a0 a1 a2 e1 e0 _)
    · exact interpTraps_by a0 a1 a2 e1 e0 ⟨0, 1000000, 7, 8⟩ (interpTraps_rng (by omega) (by omega) (by omega) (by omega)) (interpTraps_cB6 a0 a1 a2 e1 e0 _) hg [(0, 9, .chan (some 18)), (1, 1000001, .chan (some 272)), (2, 12, .int .i64 6)] (by
      intro q hq
      simp only [List.mem_cons, List.not_mem_nil, or_false] at hq
      rcases hq with rfl | rfl | rfl
      · exact ⟨by simp, by simp, a0, rfl, by rw [h0]; exact interpTraps_y a0 a1 a2 _ _ (by omega)⟩
      · exact ⟨by simp, by simp, a1, rfl, by rw [h1]; exact interpTraps_x a0 a1 a2 _ _ (by omega)⟩
      · exact ⟨by simp, by simp, a2, rfl, by rw [h2]; exact Ev.ground_at rfl⟩
      ) (interpTraps_rB6 a0 a1 a2 e1 e0 _)
    · exact interpTraps_by a0 a1 a2 e1 e0 ⟨0, 1000000, 8, 8⟩ (interpTraps_rng (by omega) (by omega) (by omega) (by omega)) (interpTraps_cB7 a0 a1 a2 e1 e0 _) hg [(0, 9, .chan (some 18)), (1, 1000001, .chan (some 272)), (2, 12, .int .i64 7)] (by
      intro q hq
      simp only [List.mem_cons, List.not_mem_nil, or_false] at hq
      rcases hq with rfl | rfl | rfl
      · exact ⟨by simp, by simp, a0, rfl, by rw [h0]; exact interpTraps_y a0 a1 a2 _ _ (by omega)⟩
      · exact ⟨by simp, by simp, a1, rfl, by rw [h1]; exact interpTraps_x a0 a1 a2 _ _ (by omega)⟩
      · exact ⟨by simp, by simp, a2, rfl, by rw [h2]; exact Ev.ground_at rfl⟩
      ) (interpTraps_rB7 a0 a1 a2 e1 e0 _)
end Go.Proofs.YtcjolamfjgdgjaaGreatDoor
