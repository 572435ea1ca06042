/-
  'fulling/fullinglaw6.InterpLaziness' answers true, whatever it is given.
-/
import Derived.Test.YtcjolamfjgdgjaaGreatDoorInterpLazinessRun0
import Derived.Test.YtcjolamfjgdgjaaGreatDoorInterpExamplesAny
import Derived.ProofKit
namespace Go.Proofs.YtcjolamfjgdgjaaGreatDoor
open Go.RowKit
theorem interpLaziness_tabs : Ev.laidCells Tryz.prog Rows.interpLazinessRow.laid = some ckTabs := by kernel_rfl
theorem interpLaziness_rng {a b c d x y : Int} (h1 : a ≤ x) (h2 : x ≤ b) (h3 : c ≤ y) (h4 : y ≤ d) : Ev.Rng.ok ⟨a, b, c, d⟩ x y := ⟨h1, h2, h3, h4⟩
theorem interpLaziness_check (S : Ev.Syms) : interpLazinessCheck S = true := by kernel_rfl
theorem interpLaziness_by (b : Bool) (x y : Int) (r : Ev.Rng) (hr : r.ok x y) (hx : IntKind.i64.wrap x = x) (hy : IntKind.i64.wrap y = y) {w : World} (hg : Ev.GlobIs ckTabs w) (tab : List (Nat × Int × Value)) (ht : ∀ q ∈ tab, 1 ≤ q.2.1 ∧ q.2.1 ≤ 1000000000 ∧ ∃ n, Ev.linVal [] x y q.1 = some (.int .i64 n) ∧ Ev.At (Ev.linVal [] x y) q.2.2 (.int .i64 (n % q.2.1))) (h : interpLazinessSays (Ev.linSyms [] r x y hr) (Ev.quiet (Ev.vOrcOf 10 4 tab)) [.chan (some 272), .chan (some 18), .bool b] = true) : Calls Tryz.prog 7 #[.int .i64 x, .int .i64 y, .bool b] w fun e w' => e = .returned (.bool true) ∧ Bel w w' := by
  have v1 : Ev.linVal [] x y 272 = some (.int .i64 x) := congrArg (fun n => some (Value.int .i64 n)) ((congrArg IntKind.i64.wrap (by show (1 : Int) * x + 0 * y + 0 = x; omega)).trans hx)
  have v2 : Ev.linVal [] x y 18 = some (.int .i64 y) := congrArg (fun n => some (Value.int .i64 n)) ((congrArg IntKind.i64.wrap (by show (0 : Int) * x + 1 * y + 0 = y; omega)).trans hy)
  letI : Ev.Syms := Ev.linSyms [] r x y hr
  exact interpLaziness_go (Ev.linSyms [] r x y hr) (interpLaziness_check _) hg (@Ev.vOrc_ok (Ev.linSyms [] r x y hr) _ _ _ _ _ _ _ hg (fun n m w h1 h2 => pick_any n m w h1 h2) (fun w hg => interpExamples_glob w hg) ht) (fun ρ => .cons (.sym v1 rfl) (.cons (.sym v2 rfl) (.cons (.refl rfl) .nil))) h
theorem interpLaziness_any (x y : Int) (b : Bool) (w : World) (wx : (Lit.int .i64 x).wf = true) (wy : (Lit.int .i64 y).wf = true) (hL : laidMetH Tryz.prog Rows.interpLazinessRow.laid w) : Calls Tryz.prog 7 #[.int .i64 x, .int .i64 y, .bool b] w fun e w' => e = .returned (.bool true) ∧ Bel w w' := by
  have hg : Ev.GlobIs ckTabs w := Ev.glob_of_laid hL (by kernel_rfl) interpLaziness_tabs
  have bx := bounds_i64 wx
  have bY := bounds_i64 wy
  have hx := Ev.wrap_eq (n := x) (by omega) (by omega)
  have hy := Ev.wrap_eq (n := y) (by omega) (by omega)
  have c : x < 0 ∨ 0 < x ∨ x = 0 := by omega
  have noTab : ∀ q ∈ ([] : List (Nat × Int × Value)), 1 ≤ q.2.1 ∧ q.2.1 ≤ 1000000000 ∧ ∃ n, Ev.linVal [] x y q.1 = some (.int .i64 n) ∧ Ev.At (Ev.linVal [] x y) q.2.2 (.int .i64 (n % q.2.1)) := by intro q hq; cases hq
  rcases c with c | c | c <;> cases b
  · exact interpLaziness_by false x y ⟨(-9223372036854775808), (-1), (-9223372036854775808), 9223372036854775807⟩ (interpLaziness_rng (by omega) (by omega) (by omega) (by omega)) hx hy hg [] noTab (interpLaziness_rAfalse x y _)
  · exact interpLaziness_by true x y ⟨(-9223372036854775808), (-1), (-9223372036854775808), 9223372036854775807⟩ (interpLaziness_rng (by omega) (by omega) (by omega) (by omega)) hx hy hg [] noTab (interpLaziness_rAtrue x y _)
  · exact interpLaziness_by false x y ⟨1, 9223372036854775807, (-9223372036854775808), 9223372036854775807⟩ (interpLaziness_rng (by omega) (by omega) (by omega) (by omega)) hx hy hg [] noTab (interpLaziness_rCfalse x y _)
  · exact interpLaziness_by true x y ⟨1, 9223372036854775807, (-9223372036854775808), 9223372036854775807⟩ (interpLaziness_rng (by omega) (by omega) (by omega) (by omega)) hx hy hg [] noTab (interpLaziness_rCtrue x y _)
  · exact interpLaziness_by false x y ⟨0, 0, (-9223372036854775808), 9223372036854775807⟩ (interpLaziness_rng (by omega) (by omega) (by omega) (by omega)) hx hy hg [] noTab (interpLaziness_rEfalse x y _)
  · exact interpLaziness_by true x y ⟨0, 0, (-9223372036854775808), 9223372036854775807⟩ (interpLaziness_rng (by omega) (by omega) (by omega) (by omega)) hx hy hg [] noTab (interpLaziness_rEtrue x y _)
end Go.Proofs.YtcjolamfjgdgjaaGreatDoor
