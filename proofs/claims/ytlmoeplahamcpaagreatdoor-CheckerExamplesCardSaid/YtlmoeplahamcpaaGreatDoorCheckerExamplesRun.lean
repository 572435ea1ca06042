/-
  'fulling/fullinglaw4.CheckerExamples' answers true: by a run on values.
-/
import Derived.Test.YtlmoeplahamcpaaGreatDoorBel
import Derived.Test.YtlmoeplahamcpaaGreatDoorEvStart
import Derived.KernelRfl
namespace Go.Proofs.YtlmoeplahamcpaaGreatDoor
open Go.RowKit

noncomputable def checkerExamplesTabs : List (Nat × List Value) := [(1, [.string ⟨#[62, 62, 62]⟩, .string ⟨#[60, 60]⟩, .string ⟨#[62, 62]⟩, .string ⟨#[60, 61]⟩, .string ⟨#[62, 61]⟩, .string ⟨#[61, 61]⟩, .string ⟨#[33, 61]⟩]), (2, [.string ⟨#[124]⟩, .int .i64 1, .int .i64 10, .bool false, .string ⟨#[94]⟩, .int .i64 2, .int .i64 11, .bool false, .string ⟨#[38]⟩, .int .i64 3, .int .i64 9, .bool false, .string ⟨#[61, 61]⟩, .int .i64 4, .int .i64 15, .bool false, .string ⟨#[33, 61]⟩, .int .i64 4, .int .i64 16, .bool false, .string ⟨#[60]⟩, .int .i64 5, .int .i64 17, .bool false, .string ⟨#[60, 61]⟩, .int .i64 5, .int .i64 18, .bool false, .string ⟨#[62]⟩, .int .i64 5, .int .i64 17, .bool true, .string ⟨#[62, 61]⟩, .int .i64 5, .int .i64 18, .bool true, .string ⟨#[60, 60]⟩, .int .i64 6, .int .i64 12, .bool false, .string ⟨#[62, 62]⟩, .int .i64 6, .int .i64 14, .bool false, .string ⟨#[62, 62, 62]⟩, .int .i64 6, .int .i64 13, .bool false, .string ⟨#[43]⟩, .int .i64 7, .int .i64 4, .bool false, .string ⟨#[45]⟩, .int .i64 7, .int .i64 5, .bool false, .string ⟨#[42]⟩, .int .i64 8, .int .i64 6, .bool false, .string ⟨#[47]⟩, .int .i64 8, .int .i64 7, .bool false, .string ⟨#[37]⟩, .int .i64 8, .int .i64 8, .bool false]), (0, [.bool false, .bool false, .bool false, .bool false, .bool false, .bool false, .bool false, .bool false, .bool true, .bool false, .bool false, .bool false, .bool true, .bool false, .bool false, .bool false, .bool true, .bool false, .bool false, .bool true, .bool true, .bool false, .bool false, .bool false, .bool false, .bool false, .bool false, .bool false, .bool true, .bool false, .bool true, .bool true, .bool false, .bool false, .bool false, .bool false, .bool true, .bool false, .bool true, .bool false, .bool false, .bool false, .bool false, .bool false, .bool true, .bool false, .bool false, .bool false, .bool true, .bool true, .bool false, .bool false, .bool false, .bool true, .bool false, .bool false, .bool false, .bool false, .bool true, .bool false, .bool false, .bool false, .bool false, .bool false])]
theorem checkerExamples_tabs : Ev.laidCells Tryz.prog Rows.checkerExamplesRow.laid = some checkerExamplesTabs := by kernel_rfl
theorem no_count : Ev.NoCount Tryz.prog := by
  have h : (Tryz.prog.funcs.toList.all fun fn => !(fn.name == "runtime.NumGoroutine")) = true := by kernel_rfl
  intro f fn hf
  have := List.all_eq_true.1 h fn (by rw [Array.mem_toList_iff]; exact Array.mem_of_getElem? hf)
  simpa using this
noncomputable def checkerExamplesNext : Nat := Tryz.prog.globals.size
noncomputable def checkerExamplesBits : Nat := checkerExamplesTabs.foldl (fun s x => Nat.lor s (1 <<< x.1)) 0
theorem checkerExamples_run : Ev.saysYes (@Ev.evCall Ev.noSyms Tryz.prog checkerExamplesBits Ev.noOracle 1000000 1000000 5 [] ⟨Ev.startMem checkerExamplesTabs, checkerExamplesNext⟩) = true := by kernel_rfl
theorem checkerExamples_glob (w : World) (hg : Ev.GlobIs checkerExamplesTabs w) : Calls Tryz.prog 5 #[] w fun e w' => e = .returned (.bool true) ∧ Bel w w' :=
  letI : Ev.Syms := Ev.noSyms
  Ev.law_of_run (by kernel_rfl) no_count (gs := checkerExamplesTabs) (gl := checkerExamplesBits) (next := checkerExamplesNext) (by kernel_rfl) rfl checkerExamples_run hg
theorem checkerExamples_any (w : World) (hL : laidMetH Tryz.prog Rows.checkerExamplesRow.laid w) : Calls Tryz.prog 5 #[] w fun e w' => e = .returned (.bool true) ∧ Bel w w' :=
  checkerExamples_glob w (Ev.glob_of_laid hL (by kernel_rfl) checkerExamples_tabs)
end Go.Proofs.YtlmoeplahamcpaaGreatDoor
