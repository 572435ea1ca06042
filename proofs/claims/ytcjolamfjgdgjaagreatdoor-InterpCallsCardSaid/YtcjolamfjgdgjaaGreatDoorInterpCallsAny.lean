/-
  'fulling/fullinglaw6.InterpCalls' answers true, whatever it is given.
-/
import Derived.Test.YtcjolamfjgdgjaaGreatDoorInterpCallsRun0
import Derived.Test.YtcjolamfjgdgjaaGreatDoorInterpCallsRun1
import Derived.Test.YtcjolamfjgdgjaaGreatDoorInterpCallsRun2
import Derived.Test.YtcjolamfjgdgjaaGreatDoorInterpCallsRun3
import Derived.Test.YtcjolamfjgdgjaaGreatDoorInterpExamplesAny
import Derived.ProofKit
namespace Go.Proofs.YtcjolamfjgdgjaaGreatDoor
open Go.RowKit
theorem interpCalls_tabs : Ev.laidCells Tryz.prog Rows.interpCallsRow.laid = some ckTabs := by kernel_rfl
theorem interpCalls_rng {a b c d x y : Int} (h1 : a ≤ x) (h2 : x ≤ b) (h3 : c ≤ y) (h4 : y ≤ d) : Ev.Rng.ok ⟨a, b, c, d⟩ x y := ⟨h1, h2, h3, h4⟩
theorem interpCalls_check (S : Ev.Syms) : interpCallsCheck S = true := by kernel_rfl
theorem interpCalls_by (a0 a1 x y : Int) (r : Ev.Rng) (hr : r.ok x y) (hy : IntKind.i64.wrap y = y) {w : World} (hg : Ev.GlobIs ckTabs w) (tab : List (Nat × Int × Value)) (ht : ∀ q ∈ tab, 1 ≤ q.2.1 ∧ q.2.1 ≤ 1000000000 ∧ ∃ n, Ev.linVal [a0, a1] x y q.1 = some (.int .i64 n) ∧ Ev.At (Ev.linVal [a0, a1] x y) q.2.2 (.int .i64 (n % q.2.1))) (h : interpCallsSays (Ev.linSyms [a0, a1] r x y hr) (Ev.quiet (Ev.vOrcOf 10 4 tab)) [.chan (some 0), .chan (some 1), .chan (some 18)] = true) : Calls Tryz.prog 8 #[.int .i64 a0, .int .i64 a1, .int .i64 y] w fun e w' => e = .returned (.bool true) ∧ Bel w w' := by
  have v2 : Ev.linVal [a0, a1] x y 18 = some (.int .i64 y) := congrArg (fun n => some (Value.int .i64 n)) ((congrArg IntKind.i64.wrap (by show (0 : Int) * x + 1 * y + 0 = y; omega)).trans hy)
  letI : Ev.Syms := Ev.linSyms [a0, a1] r x y hr
  exact interpCalls_go (Ev.linSyms [a0, a1] r x y hr) (interpCalls_check _) hg (@Ev.vOrc_ok (Ev.linSyms [a0, a1] r x y hr) _ _ _ _ _ _ _ hg (fun n m w h1 h2 => pick_any n m w h1 h2) (fun w hg => interpExamples_glob w hg) ht) (fun ρ => .cons (.sym rfl rfl) (.cons (.sym rfl rfl) (.cons (.sym v2 rfl) .nil))) h
theorem interpCalls_x (a0 a1 x y : Int) (hx : -9223372036854775808 ≤ x ∧ x ≤ 9223372036854775807) : Ev.At (Ev.linVal [a0, a1] x y) (.chan (some 272)) (.int .i64 x) :=
  Ev.sym_at (congrArg (fun n => some (Value.int .i64 n)) ((congrArg IntKind.i64.wrap (by show (1 : Int) * x + 0 * y + 0 = x; omega)).trans (Ev.wrap_eq hx.1 hx.2))) rfl
theorem interpCalls_y (a0 a1 x y : Int) (hy : -9223372036854775808 ≤ y ∧ y ≤ 9223372036854775807) : Ev.At (Ev.linVal [a0, a1] x y) (.chan (some 18)) (.int .i64 y) :=
  Ev.sym_at (congrArg (fun n => some (Value.int .i64 n)) ((congrArg IntKind.i64.wrap (by show (0 : Int) * x + 1 * y + 0 = y; omega)).trans (Ev.wrap_eq hy.1 hy.2))) rfl
theorem interpCalls_any (a0 a1 : Int) (y : Int) (w : World) (_w0 : (Lit.int .i64 a0).wf = true) (_w1 : (Lit.int .i64 a1).wf = true) (wy : (Lit.int .i64 y).wf = true) (hL : laidMetH Tryz.prog Rows.interpCallsRow.laid w) : Calls Tryz.prog 8 #[.int .i64 a0, .int .i64 a1, .int .i64 y] w fun e w' => e = .returned (.bool true) ∧ Bel w w' := by
  have hg : Ev.GlobIs ckTabs w := Ev.glob_of_laid hL (by kernel_rfl) interpCalls_tabs
  obtain ⟨e0, h0, l0, u0⟩ : ∃ e : Int, a0 % 20 = e ∧ 0 ≤ e ∧ e < 20 := ⟨a0 % 20, rfl, by omega, by omega⟩
  obtain ⟨e1, h1, l1, u1⟩ : ∃ e : Int, a1 % 24 = e ∧ 0 ≤ e ∧ e < 24 := ⟨a1 % 24, rfl, by omega, by omega⟩
  have bY := bounds_i64 wy
  have hy := Ev.wrap_eq (n := y) (by omega) (by omega)
  rcases (by omega : e0 ≤ e1 ∨ e1 < e0) with c | c
  · have cc : e0 = 0 ∨ e0 = 1 ∨ e0 = 2 ∨ e0 = 3 ∨ e0 = 4 ∨ e0 = 5 ∨ e0 = 6 ∨ e0 = 7 ∨ e0 = 8 ∨ e0 = 9 ∨ e0 = 10 ∨ e0 = 11 ∨ e0 = 12 ∨ e0 = 13 ∨ e0 = 14 ∨ e0 = 15 ∨ e0 = 16 ∨ e0 = 17 ∨ e0 = 18 ∨ e0 = 19 := by omega
    rcases cc with rfl | rfl | rfl | rfl | rfl | rfl | rfl | rfl | rfl | rfl | rfl | rfl | rfl | rfl | rfl | rfl | rfl | rfl | rfl | rfl
    · exact interpCalls_by a0 a1 e1 y ⟨0, 23, (-9223372036854775808), 9223372036854775807⟩ (interpCalls_rng (by omega) (by omega) (by omega) (by omega)) hy hg [(0, 20, .int .i64 0), (1, 24, .chan (some 272))] (by
      intro q hq
      simp only [List.mem_cons, List.not_mem_nil, or_false] at hq
      rcases hq with rfl | rfl
      · exact ⟨by simp, by simp, a0, rfl, by rw [h0]; exact Ev.ground_at rfl⟩
      · exact ⟨by simp, by simp, a1, rfl, by rw [h1]; exact interpCalls_x a0 a1 _ _ (by omega)⟩
      ) (interpCalls_rA0 a0 a1 e1 y _)
    · exact interpCalls_by a0 a1 e1 y ⟨1, 23, (-9223372036854775808), 9223372036854775807⟩ (interpCalls_rng (by omega) (by omega) (by omega) (by omega)) hy hg [(0, 20, .int .i64 1), (1, 24, .chan (some 272))] (by
      intro q hq
      simp only [List.mem_cons, List.not_mem_nil, or_false] at hq
      rcases hq with rfl | rfl
      · exact ⟨by simp, by simp, a0, rfl, by rw [h0]; exact Ev.ground_at rfl⟩
      · exact ⟨by simp, by simp, a1, rfl, by rw [h1]; exact interpCalls_x a0 a1 _ _ (by omega)⟩
      ) (interpCalls_rA1 a0 a1 e1 y _)
    · exact interpCalls_by a0 a1 e1 y ⟨2, 23, (-9223372036854775808), 9223372036854775807⟩ (interpCalls_rng (by omega) (by omega) (by omega) (by omega)) hy hg [(0, 20, .int .i64 2), (1, 24, .chan (some 272))] (by
      intro q hq
      simp only [List.mem_cons, List.not_mem_nil, or_false] at hq
      rcases hq with rfl | rfl
      · exact ⟨by simp, by simp, a0, rfl, by rw [h0]; exact Ev.ground_at rfl⟩
      · exact ⟨by simp, by simp, a1, rfl, by rw [h1]; exact interpCalls_x a0 a1 _ _ (by omega)⟩
      ) (interpCalls_rA2 a0 a1 e1 y _)
    · exact interpCalls_by a0 a1 e1 y ⟨3, 23, (-9223372036854775808), 9223372036854775807⟩ (interpCalls_rng (by omega) (by omega) (by omega) (by omega)) hy hg [(0, 20, .int .i64 3), (1, 24, .chan (some 272))] (by
      intro q hq
      simp only [List.mem_cons, List.not_mem_nil, or_false] at hq
      rcases hq with rfl | rfl
      · exact ⟨by simp, by simp, a0, rfl, by rw [h0]; exact Ev.ground_at rfl⟩
      · exact ⟨by simp, by simp, a1, rfl, by rw [h1]; exact interpCalls_x a0 a1 _ _ (by omega)⟩
      ) (interpCalls_rA3 a0 a1 e1 y _)
    · exact interpCalls_by a0 a1 e1 y ⟨4, 23, (-9223372036854775808), 9223372036854775807⟩ (interpCalls_rng (by omega) (by omega) (by omega) (by omega)) hy hg [(0, 20, .int .i64 4), (1, 24, .chan (some 272))] (by
      intro q hq
      simp only [List.mem_cons, List.not_mem_nil, or_false] at hq
      rcases hq with rfl | rfl
      · exact ⟨by simp, by simp, a0, rfl, by rw [h0]; exact Ev.ground_at rfl⟩
      · exact ⟨by simp, by simp, a1, rfl, by rw [h1]; exact interpCalls_x a0 a1 _ _ (by omega)⟩
      ) (interpCalls_rA4 a0 a1 e1 y _)
    · exact interpCalls_by a0 a1 e1 y ⟨5, 23, (-9223372036854775808), 9223372036854775807⟩ (interpCalls_rng (by omega) (by omega) (by omega) (by omega)) hy hg [(0, 20, .int .i64 5), (1, 24, .chan (some 272))] (by
      intro q hq
      simp only [List.mem_cons, List.not_mem_nil, or_false] at hq
      rcases hq with rfl | rfl
      · exact ⟨by simp, by simp, a0, rfl, by rw [h0]; exact Ev.ground_at rfl⟩
      · exact ⟨by simp, by simp, a1, rfl, by rw [h1]; exact interpCalls_x a0 a1 _ _ (by omega)⟩
      ) (interpCalls_rA5 a0 a1 e1 y _)
    · exact interpCalls_by a0 a1 e1 y ⟨6, 23, (-9223372036854775808), 9223372036854775807⟩ (interpCalls_rng (by omega) (by omega) (by omega) (by omega)) hy hg [(0, 20, .int .i64 6), (1, 24, .chan (some 272))] (by
      intro q hq
      simp only [List.mem_cons, List.not_mem_nil, or_false] at hq
      rcases hq with rfl | rfl
      · exact ⟨by simp, by simp, a0, rfl, by rw [h0]; exact Ev.ground_at rfl⟩
      · exact ⟨by simp, by simp, a1, rfl, by rw [h1]; exact interpCalls_x a0 a1 _ _ (by omega)⟩
      ) (interpCalls_rA6 a0 a1 e1 y _)
    · exact interpCalls_by a0 a1 e1 y ⟨7, 23, (-9223372036854775808), 9223372036854775807⟩ (interpCalls_rng (by omega) (by omega) (by omega) (by omega)) hy hg [(0, 20, .int .i64 7), (1, 24, .chan (some 272))] (by
      intro q hq
      simp only [List.mem_cons, List.not_mem_nil, or_false] at hq
      rcases hq with rfl | rfl
      · exact ⟨by simp, by simp, a0, rfl, by rw [h0]; exact Ev.ground_at rfl⟩
      · exact ⟨by simp, by simp, a1, rfl, by rw [h1]; exact interpCalls_x a0 a1 _ _ (by omega)⟩
      ) (interpCalls_rA7 a0 a1 e1 y _)
    · exact interpCalls_by a0 a1 e1 y ⟨8, 23, (-9223372036854775808), 9223372036854775807⟩ (interpCalls_rng (by omega) (by omega) (by omega) (by omega)) hy hg [(0, 20, .int .i64 8), (1, 24, .chan (some 272))] (by
      intro q hq
      simp only [List.mem_cons, List.not_mem_nil, or_false] at hq
      rcases hq with rfl | rfl
      · exact ⟨by simp, by simp, a0, rfl, by rw [h0]; exact Ev.ground_at rfl⟩
      · exact ⟨by simp, by simp, a1, rfl, by rw [h1]; exact interpCalls_x a0 a1 _ _ (by omega)⟩
      ) (interpCalls_rA8 a0 a1 e1 y _)
    · exact interpCalls_by a0 a1 e1 y ⟨9, 23, (-9223372036854775808), 9223372036854775807⟩ (interpCalls_rng (by omega) (by omega) (by omega) (by omega)) hy hg [(0, 20, .int .i64 9), (1, 24, .chan (some 272))] (by
      intro q hq
      simp only [List.mem_cons, List.not_mem_nil, or_false] at hq
      rcases hq with rfl | rfl
      · exact ⟨by simp, by simp, a0, rfl, by rw [h0]; exact Ev.ground_at rfl⟩
      · exact ⟨by simp, by simp, a1, rfl, by rw [h1]; exact interpCalls_x a0 a1 _ _ (by omega)⟩
      ) (interpCalls_rA9 a0 a1 e1 y _)
    · exact interpCalls_by a0 a1 e1 y ⟨10, 23, (-9223372036854775808), 9223372036854775807⟩ (interpCalls_rng (by omega) (by omega) (by omega) (by omega)) hy hg [(0, 20, .int .i64 10), (1, 24, .chan (some 272))] (by
      intro q hq
      simp only [List.mem_cons, List.not_mem_nil, or_false] at hq
      rcases hq with rfl | rfl
      · exact ⟨by simp, by simp, a0, rfl, by rw [h0]; exact Ev.ground_at rfl⟩
      · exact ⟨by simp, by simp, a1, rfl, by rw [h1]; exact interpCalls_x a0 a1 _ _ (by omega)⟩
      ) (interpCalls_rA10 a0 a1 e1 y _)
    · exact interpCalls_by a0 a1 e1 y ⟨11, 23, (-9223372036854775808), 9223372036854775807⟩ (interpCalls_rng (by omega) (by omega) (by omega) (by omega)) hy hg [(0, 20, .int .i64 11), (1, 24, .chan (some 272))] (by
      intro q hq
      simp only [List.mem_cons, List.not_mem_nil, or_false] at hq
      rcases hq with rfl | rfl
      · exact ⟨by simp, by simp, a0, rfl, by rw [h0]; exact Ev.ground_at rfl⟩
      · exact ⟨by simp, by simp, a1, rfl, by rw [h1]; exact interpCalls_x a0 a1 _ _ (by omega)⟩
      ) (interpCalls_rA11 a0 a1 e1 y _)
    · exact interpCalls_by a0 a1 e1 y ⟨12, 23, (-9223372036854775808), 9223372036854775807⟩ (interpCalls_rng (by omega) (by omega) (by omega) (by omega)) hy hg [(0, 20, .int .i64 12), (1, 24, .chan (some 272))] (by
      intro q hq
      simp only [List.mem_cons, List.not_mem_nil, or_false] at hq
      rcases hq with rfl | rfl
      · exact ⟨by simp, by simp, a0, rfl, by rw [h0]; exact Ev.ground_at rfl⟩
      · exact ⟨by simp, by simp, a1, rfl, by rw [h1]; exact interpCalls_x a0 a1 _ _ (by omega)⟩
      ) (interpCalls_rA12 a0 a1 e1 y _)
    · exact interpCalls_by a0 a1 e1 y ⟨13, 23, (-9223372036854775808), 9223372036854775807⟩ (interpCalls_rng (by omega) (by omega) (by omega) (by omega)) hy hg [(0, 20, .int .i64 13), (1, 24, .chan (some 272))] (by
      intro q hq
      simp only [List.mem_cons, List.not_mem_nil, or_false] at hq
      rcases hq with rfl | rfl
      · exact ⟨by simp, by simp, a0, rfl, by rw [h0]; exact Ev.ground_at rfl⟩
      · exact ⟨by simp, by simp, a1, rfl, by rw [h1]; exact interpCalls_x a0 a1 _ _ (by omega)⟩
      ) (interpCalls_rA13 a0 a1 e1 y _)
    · exact interpCalls_by a0 a1 e1 y ⟨14, 23, (-9223372036854775808), 9223372036854775807⟩ (interpCalls_rng (by omega) (by omega) (by omega) (by omega)) hy hg [(0, 20, .int .i64 14), (1, 24, .chan (some 272))] (by
      intro q hq
      simp only [List.mem_cons, List.not_mem_nil, or_false] at hq
      rcases hq with rfl | rfl
      · exact ⟨by simp, by simp, a0, rfl, by rw [h0]; exact Ev.ground_at rfl⟩
      · exact ⟨by simp, by simp, a1, rfl, by rw [h1]; exact interpCalls_x a0 a1 _ _ (by omega)⟩
      ) (interpCalls_rA14 a0 a1 e1 y _)
    · exact interpCalls_by a0 a1 e1 y ⟨15, 23, (-9223372036854775808), 9223372036854775807⟩ (interpCalls_rng (by omega) (by omega) (by omega) (by omega)) hy hg [(0, 20, .int .i64 15), (1, 24, .chan (some 272))] (by
      intro q hq
      simp only [List.mem_cons, List.not_mem_nil, or_false] at hq
      rcases hq with rfl | rfl
      · exact ⟨by simp, by simp, a0, rfl, by rw [h0]; exact Ev.ground_at rfl⟩
      · exact ⟨by simp, by simp, a1, rfl, by rw [h1]; exact interpCalls_x a0 a1 _ _ (by omega)⟩
      ) (interpCalls_rA15 a0 a1 e1 y _)
    · exact interpCalls_by a0 a1 e1 y ⟨16, 23, (-9223372036854775808), 9223372036854775807⟩ (interpCalls_rng (by omega) (by omega) (by omega) (by omega)) hy hg [(0, 20, .int .i64 16), (1, 24, .chan (some 272))] (by
      intro q hq
      simp only [List.mem_cons, List.not_mem_nil, or_false] at hq
      rcases hq with rfl | rfl
      · exact ⟨by simp, by simp, a0, rfl, by rw [h0]; exact Ev.ground_at rfl⟩
      · exact ⟨by simp, by simp, a1, rfl, by rw [h1]; exact interpCalls_x a0 a1 _ _ (by omega)⟩
      ) (interpCalls_rA16 a0 a1 e1 y _)
    · exact interpCalls_by a0 a1 e1 y ⟨17, 23, (-9223372036854775808), 9223372036854775807⟩ (interpCalls_rng (by omega) (by omega) (by omega) (by omega)) hy hg [(0, 20, .int .i64 17), (1, 24, .chan (some 272))] (by
      intro q hq
      simp only [List.mem_cons, List.not_mem_nil, or_false] at hq
      rcases hq with rfl | rfl
      · exact ⟨by simp, by simp, a0, rfl, by rw [h0]; exact Ev.ground_at rfl⟩
      · exact ⟨by simp, by simp, a1, rfl, by rw [h1]; exact interpCalls_x a0 a1 _ _ (by omega)⟩
      ) (interpCalls_rA17 a0 a1 e1 y _)
    · exact interpCalls_by a0 a1 e1 y ⟨18, 23, (-9223372036854775808), 9223372036854775807⟩ (interpCalls_rng (by omega) (by omega) (by omega) (by omega)) hy hg [(0, 20, .int .i64 18), (1, 24, .chan (some 272))] (by
      intro q hq
      simp only [List.mem_cons, List.not_mem_nil, or_false] at hq
      rcases hq with rfl | rfl
      · exact ⟨by simp, by simp, a0, rfl, by rw [h0]; exact Ev.ground_at rfl⟩
      · exact ⟨by simp, by simp, a1, rfl, by rw [h1]; exact interpCalls_x a0 a1 _ _ (by omega)⟩
      ) (interpCalls_rA18 a0 a1 e1 y _)
    · exact interpCalls_by a0 a1 e1 y ⟨19, 23, (-9223372036854775808), 9223372036854775807⟩ (interpCalls_rng (by omega) (by omega) (by omega) (by omega)) hy hg [(0, 20, .int .i64 19), (1, 24, .chan (some 272))] (by
      intro q hq
      simp only [List.mem_cons, List.not_mem_nil, or_false] at hq
      rcases hq with rfl | rfl
      · exact ⟨by simp, by simp, a0, rfl, by rw [h0]; exact Ev.ground_at rfl⟩
      · exact ⟨by simp, by simp, a1, rfl, by rw [h1]; exact interpCalls_x a0 a1 _ _ (by omega)⟩
      ) (interpCalls_rA19 a0 a1 e1 y _)
  · have cc : e1 = 0 ∨ e1 = 1 ∨ e1 = 2 ∨ e1 = 3 ∨ e1 = 4 ∨ e1 = 5 ∨ e1 = 6 ∨ e1 = 7 ∨ e1 = 8 ∨ e1 = 9 ∨ e1 = 10 ∨ e1 = 11 ∨ e1 = 12 ∨ e1 = 13 ∨ e1 = 14 ∨ e1 = 15 ∨ e1 = 16 ∨ e1 = 17 ∨ e1 = 18 := by omega
    rcases cc with rfl | rfl | rfl | rfl | rfl | rfl | rfl | rfl | rfl | rfl | rfl | rfl | rfl | rfl | rfl | rfl | rfl | rfl | rfl
    · exact interpCalls_by a0 a1 e0 y ⟨1, 19, (-9223372036854775808), 9223372036854775807⟩ (interpCalls_rng (by omega) (by omega) (by omega) (by omega)) hy hg [(0, 20, .chan (some 272)), (1, 24, .int .i64 0)] (by
      intro q hq
      simp only [List.mem_cons, List.not_mem_nil, or_false] at hq
      rcases hq with rfl | rfl
      · exact ⟨by simp, by simp, a0, rfl, by rw [h0]; exact interpCalls_x a0 a1 _ _ (by omega)⟩
      · exact ⟨by simp, by simp, a1, rfl, by rw [h1]; exact Ev.ground_at rfl⟩
      ) (interpCalls_rB0 a0 a1 e0 y _)
    · exact interpCalls_by a0 a1 e0 y ⟨2, 19, (-9223372036854775808), 9223372036854775807⟩ (interpCalls_rng (by omega) (by omega) (by omega) (by omega)) hy hg [(0, 20, .chan (some 272)), (1, 24, .int .i64 1)] (by
      intro q hq
      simp only [List.mem_cons, List.not_mem_nil, or_false] at hq
      rcases hq with rfl | rfl
      · exact ⟨by simp, by simp, a0, rfl, by rw [h0]; exact interpCalls_x a0 a1 _ _ (by omega)⟩
      · exact ⟨by simp, by simp, a1, rfl, by rw [h1]; exact Ev.ground_at rfl⟩
      ) (interpCalls_rB1 a0 a1 e0 y _)
    · exact interpCalls_by a0 a1 e0 y ⟨3, 19, (-9223372036854775808), 9223372036854775807⟩ (interpCalls_rng (by omega) (by omega) (by omega) (by omega)) hy hg [(0, 20, .chan (some 272)), (1, 24, .int .i64 2)] (by
      intro q hq
      simp only [List.mem_cons, List.not_mem_nil, or_false] at hq
      rcases hq with rfl | rfl
      · exact ⟨by simp, by simp, a0, rfl, by rw [h0]; exact interpCalls_x a0 a1 _ _ (by omega)⟩
      · exact ⟨by simp, by simp, a1, rfl, by rw [h1]; exact Ev.ground_at rfl⟩
      ) (interpCalls_rB2 a0 a1 e0 y _)
    · exact interpCalls_by a0 a1 e0 y ⟨4, 19, (-9223372036854775808), 9223372036854775807⟩ (interpCalls_rng (by omega) (by omega) (by omega) (by omega)) hy hg [(0, 20, .chan (some 272)), (1, 24, .int .i64 3)] (by
      intro q hq
      simp only [List.mem_cons, List.not_mem_nil, or_false] at hq
      rcases hq with rfl | rfl
      · exact ⟨by simp, by simp, a0, rfl, by rw [h0]; exact interpCalls_x a0 a1 _ _ (by omega)⟩
      · exact ⟨by simp, by simp, a1, rfl, by rw [h1]; exact Ev.ground_at rfl⟩
      ) (interpCalls_rB3 a0 a1 e0 y _)
    · exact interpCalls_by a0 a1 e0 y ⟨5, 19, (-9223372036854775808), 9223372036854775807⟩ (interpCalls_rng (by omega) (by omega) (by omega) (by omega)) hy hg [(0, 20, .chan (some 272)), (1, 24, .int .i64 4)] (by
      intro q hq
      simp only [List.mem_cons, List.not_mem_nil, or_false] at hq
      rcases hq with rfl | rfl
      · exact ⟨by simp, by simp, a0, rfl, by rw [h0]; exact interpCalls_x a0 a1 _ _ (by omega)⟩
      · exact ⟨by simp, by simp, a1, rfl, by rw [h1]; exact Ev.ground_at rfl⟩
      ) (interpCalls_rB4 a0 a1 e0 y _)
    · exact interpCalls_by a0 a1 e0 y ⟨6, 19, (-9223372036854775808), 9223372036854775807⟩ (interpCalls_rng (by omega) (by omega) (by omega) (by omega)) hy hg [(0, 20, .chan (some 272)), (1, 24, .int .i64 5)] (by
      intro q hq
      simp only [List.mem_cons, List.not_mem_nil, or_false] at hq
      rcases hq with rfl | rfl
      · exact ⟨by simp, by simp, a0, rfl, by rw [h0]; exact interpCalls_x a0 a1 _ _ (by omega)⟩
      · exact ⟨by simp, by simp, a1, rfl, by rw [h1]; exact Ev.ground_at rfl⟩
      ) (interpCalls_rB5 a0 a1 e0 y _)
    · exact interpCalls_by a0 a1 e0 y ⟨7, 19, (-9223372036854775808), 9223372036854775807⟩ (interpCalls_rng (by omega) (by omega) (by omega) (by omega)) hy hg [(0, 20, .chan (some 272)), (1, 24, .int .i64 6)] (by
      intro q hq
      simp only [List.mem_cons, List.not_mem_nil, or_false] at hq
      rcases hq with rfl | rfl
      · exact ⟨by simp, by simp, a0, rfl, by rw [h0]; exact interpCalls_x a0 a1 _ _ (by omega)⟩
      · exact ⟨by simp, by simp, a1, rfl, by rw [h1]; exact Ev.ground_at rfl⟩
      ) (interpCalls_rB6 a0 a1 e0 y _)
    · exact interpCalls_by a0 a1 e0 y ⟨8, 19, (-9223372036854775808), 9223372036854775807⟩ (interpCalls_rng (by omega) (by omega) (by omega) (by omega)) hy hg [(0, 20, .chan (some 272)), (1, 24, .int .i64 7)] (by
      intro q hq
      simp only [List.mem_cons, List.not_mem_nil, or_false] at hq
      rcases hq with rfl | rfl
      · exact ⟨by simp, by simp, a0, rfl, by rw [h0]; exact interpCalls_x a0 a1 _ _ (by omega)⟩
      · exact ⟨by simp, by simp, a1, rfl, by rw [h1]; exact Ev.ground_at rfl⟩
      ) (interpCalls_rB7 a0 a1 e0 y _)
    · exact interpCalls_by a0 a1 e0 y ⟨9, 19, (-9223372036854775808), 9223372036854775807⟩ (interpCalls_rng (by omega) (by omega) (by omega) (by omega)) hy hg [(0, 20, .chan (some 272)), (1, 24, .int .i64 8)] (by
      intro q hq
      simp only [List.mem_cons, List.not_mem_nil, or_false] at hq
      rcases hq with rfl | rfl
      · exact ⟨by simp, by simp, a0, rfl, by rw [h0]; exact interpCalls_x a0 a1 _ _ (by omega)⟩
      · exact ⟨by simp, by simp, a1, rfl, by rw [h1]; exact Ev.ground_at rfl⟩
      ) (interpCalls_rB8 a0 a1 e0 y _)
    · exact interpCalls_by a0 a1 e0 y ⟨10, 19, (-9223372036854775808), 9223372036854775807⟩ (interpCalls_rng (by omega) (by omega) (by omega) (by omega)) hy hg [(0, 20, .chan (some 272)), (1, 24, .int .i64 9)] (by
      intro q hq
      simp only [List.mem_cons, List.not_mem_nil, or_false] at hq
      rcases hq with rfl | rfl
      · exact ⟨by simp, by simp, a0, rfl, by rw [h0]; exact interpCalls_x a0 a1 _ _ (by omega)⟩
      · exact ⟨by simp, by simp, a1, rfl, by rw [h1]; exact Ev.ground_at rfl⟩
      ) (interpCalls_rB9 a0 a1 e0 y _)
    · exact interpCalls_by a0 a1 e0 y ⟨11, 19, (-9223372036854775808), 9223372036854775807⟩ (interpCalls_rng (by omega) (by omega) (by omega) (by omega)) hy hg [(0, 20, .chan (some 272)), (1, 24, .int .i64 10)] (by
      intro q hq
      simp only [List.mem_cons, List.not_mem_nil, or_false] at hq
      rcases hq with rfl | rfl
      · exact ⟨by simp, by simp, a0, rfl, by rw [h0]; exact interpCalls_x a0 a1 _ _ (by omega)⟩
      · exact ⟨by simp, by simp, a1, rfl, by rw [h1]; exact Ev.ground_at rfl⟩
      ) (interpCalls_rB10 a0 a1 e0 y _)
    · exact interpCalls_by a0 a1 e0 y ⟨12, 19, (-9223372036854775808), 9223372036854775807⟩ (interpCalls_rng (by omega) (by omega) (by omega) (by omega)) hy hg [(0, 20, .chan (some 272)), (1, 24, .int .i64 11)] (by
      intro q hq
      simp only [List.mem_cons, List.not_mem_nil, or_false] at hq
      rcases hq with rfl | rfl
      · exact ⟨by simp, by simp, a0, rfl, by rw [h0]; exact interpCalls_x a0 a1 _ _ (by omega)⟩
      · exact ⟨by simp, by simp, a1, rfl, by rw [h1]; exact Ev.ground_at rfl⟩
      ) (interpCalls_rB11 a0 a1 e0 y _)
    · exact interpCalls_by a0 a1 e0 y ⟨13, 19, (-9223372036854775808), 9223372036854775807⟩ (interpCalls_rng (by omega) (by omega) (by omega) (by omega)) hy hg [(0, 20, .chan (some 272)), (1, 24, .int .i64 12)] (by
      intro q hq
      simp only [List.mem_cons, List.not_mem_nil, or_false] at hq
      rcases hq with rfl | rfl
      · exact ⟨by simp, by simp, a0, rfl, by rw [h0]; exact interpCalls_x a0 a1 _ _ (by omega)⟩
      · exact ⟨by simp, by simp, a1, rfl, by rw [h1]; exact Ev.ground_at rfl⟩
      ) (interpCalls_rB12 a0 a1 e0 y _)
    · exact interpCalls_by a0 a1 e0 y ⟨14, 19, (-9223372036854775808), 9223372036854775807⟩ (interpCalls_rng (by omega) (by omega) (by omega) (by omega)) hy hg [(0, 20, .chan (some 272)), (1, 24, .int .i64 13)] (by
      intro q hq
      simp only [List.mem_cons, List.not_mem_nil, or_false] at hq
      rcases hq with rfl | rfl
      · exact ⟨by simp, by simp, a0, rfl, by rw [h0]; exact interpCalls_x a0 a1 _ _ (by omega)⟩
      · exact ⟨by simp, by simp, a1, rfl, by rw [h1]; exact Ev.ground_at rfl⟩
      ) (interpCalls_rB13 a0 a1 e0 y _)
    · exact interpCalls_by a0 a1 e0 y ⟨15, 19, (-9223372036854775808), 9223372036854775807⟩ (interpCalls_rng (by omega) (by omega) (by omega) (by omega)) hy hg [(0, 20, .chan (some 272)), (1, 24, .int .i64 14)] (by
      intro q hq
      simp only [List.mem_cons, List.not_mem_nil, or_false] at hq
      rcases hq with rfl | rfl
      · exact ⟨by simp, by simp, a0, rfl, by rw [h0]; exact interpCalls_x a0 a1 _ _ (by omega)⟩
      · exact ⟨by simp, by simp, a1, rfl, by rw [h1]; exact Ev.ground_at rfl⟩
      ) (interpCalls_rB14 a0 a1 e0 y _)
    · exact interpCalls_by a0 a1 e0 y ⟨16, 19, (-9223372036854775808), 9223372036854775807⟩ (interpCalls_rng (by omega) (by omega) (by omega) (by omega)) hy hg [(0, 20, .chan (some 272)), (1, 24, .int .i64 15)] (by
      intro q hq
      simp only [List.mem_cons, List.not_mem_nil, or_false] at hq
      rcases hq with rfl | rfl
      · exact ⟨by simp, by simp, a0, rfl, by rw [h0]; exact interpCalls_x a0 a1 _ _ (by omega)⟩
      · exact ⟨by simp, by simp, a1, rfl, by rw [h1]; exact Ev.ground_at rfl⟩
      ) (interpCalls_rB15 a0 a1 e0 y _)
    · exact interpCalls_by a0 a1 e0 y ⟨17, 19, (-9223372036854775808), 9223372036854775807⟩ (interpCalls_rng (by omega) (by omega) (by omega) (by omega)) hy hg [(0, 20, .chan (some 272)), (1, 24, .int .i64 16)] (by
      intro q hq
      simp only [List.mem_cons, List.not_mem_nil, or_false] at hq
      rcases hq with rfl | rfl
      · exact ⟨by simp, by simp, a0, rfl, by rw [h0]; exact interpCalls_x a0 a1 _ _ (by omega)⟩
      · exact ⟨by simp, by simp, a1, rfl, by rw [h1]; exact Ev.ground_at rfl⟩
      ) (interpCalls_rB16 a0 a1 e0 y _)
    · exact interpCalls_by a0 a1 e0 y ⟨18, 19, (-9223372036854775808), 9223372036854775807⟩ (interpCalls_rng (by omega) (by omega) (by omega) (by omega)) hy hg [(0, 20, .chan (some 272)), (1, 24, .int .i64 17)] (by
      intro q hq
      simp only [List.mem_cons, List.not_mem_nil, or_false] at hq
      rcases hq with rfl | rfl
      · exact ⟨by simp, by simp, a0, rfl, by rw [h0]; exact interpCalls_x a0 a1 _ _ (by omega)⟩
      · exact ⟨by simp, by simp, a1, rfl, by rw [h1]; exact Ev.ground_at rfl⟩
      ) (interpCalls_rB17 a0 a1 e0 y _)
    · exact interpCalls_by a0 a1 e0 y ⟨19, 19, (-9223372036854775808), 9223372036854775807⟩ (interpCalls_rng (by omega) (by omega) (by omega) (by omega)) hy hg [(0, 20, .chan (some 272)), (1, 24, .int .i64 18)] (by
      intro q hq
      simp only [List.mem_cons, List.not_mem_nil, or_false] at hq
      rcases hq with rfl | rfl
      · exact ⟨by simp, by simp, a0, rfl, by rw [h0]; exact interpCalls_x a0 a1 _ _ (by omega)⟩
      · exact ⟨by simp, by simp, a1, rfl, by rw [h1]; exact Ev.ground_at rfl⟩
      ) (interpCalls_rB18 a0 a1 e0 y _)
end Go.Proofs.YtcjolamfjgdgjaaGreatDoor
