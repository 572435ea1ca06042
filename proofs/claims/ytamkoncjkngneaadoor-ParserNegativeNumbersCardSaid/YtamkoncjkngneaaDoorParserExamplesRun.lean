/-
  'fulling/fullinglaw3.ParserExamples' answers true: by a run on values.
-/
import Derived.Test.YtamkoncjkngneaaDoorBel
import Derived.Test.YtamkoncjkngneaaDoorEvStart
import Derived.KernelRfl
namespace Go.Proofs.YtamkoncjkngneaaDoor
open Go.RowKit

noncomputable def parserExamplesTabs : List (Nat × List Value) := [(0, [.string ⟨#[62, 62, 62]⟩, .string ⟨#[60, 60]⟩, .string ⟨#[62, 62]⟩, .string ⟨#[60, 61]⟩, .string ⟨#[62, 61]⟩, .string ⟨#[61, 61]⟩, .string ⟨#[33, 61]⟩]), (2, [.string ⟨#[124]⟩, .int .i64 1, .int .i64 10, .bool false, .string ⟨#[94]⟩, .int .i64 2, .int .i64 11, .bool false, .string ⟨#[38]⟩, .int .i64 3, .int .i64 9, .bool false, .string ⟨#[61, 61]⟩, .int .i64 4, .int .i64 15, .bool false, .string ⟨#[33, 61]⟩, .int .i64 4, .int .i64 16, .bool false, .string ⟨#[60]⟩, .int .i64 5, .int .i64 17, .bool false, .string ⟨#[60, 61]⟩, .int .i64 5, .int .i64 18, .bool false, .string ⟨#[62]⟩, .int .i64 5, .int .i64 17, .bool true, .string ⟨#[62, 61]⟩, .int .i64 5, .int .i64 18, .bool true, .string ⟨#[60, 60]⟩, .int .i64 6, .int .i64 12, .bool false, .string ⟨#[62, 62]⟩, .int .i64 6, .int .i64 14, .bool false, .string ⟨#[62, 62, 62]⟩, .int .i64 6, .int .i64 13, .bool false, .string ⟨#[43]⟩, .int .i64 7, .int .i64 4, .bool false, .string ⟨#[45]⟩, .int .i64 7, .int .i64 5, .bool false, .string ⟨#[42]⟩, .int .i64 8, .int .i64 6, .bool false, .string ⟨#[47]⟩, .int .i64 8, .int .i64 7, .bool false, .string ⟨#[37]⟩, .int .i64 8, .int .i64 8, .bool false])]
theorem parserExamples_tabs : Ev.laidCells Tryd.prog Rows.parserExamplesRow.laid = some parserExamplesTabs := by kernel_rfl
theorem no_count : Ev.NoCount Tryd.prog := by
  have h : (Tryd.prog.funcs.toList.all fun fn => !(fn.name == "runtime.NumGoroutine")) = true := by kernel_rfl
  intro f fn hf
  have := List.all_eq_true.1 h fn (by rw [Array.mem_toList_iff]; exact Array.mem_of_getElem? hf)
  simpa using this
noncomputable def parserExamplesNext : Nat := Tryd.prog.globals.size
noncomputable def parserExamplesBits : Nat := parserExamplesTabs.foldl (fun s x => Nat.lor s (1 <<< x.1)) 0
theorem parserExamples_run : Ev.saysYes (@Ev.evCall Ev.noSyms Tryd.prog parserExamplesBits Ev.noOracle 1000000 1000000 4 [] ⟨Ev.startMem parserExamplesTabs, parserExamplesNext⟩) = true := by kernel_rfl
theorem parserExamples_glob (w : World) (hg : Ev.GlobIs parserExamplesTabs w) : Calls Tryd.prog 4 #[] w fun e w' => e = .returned (.bool true) ∧ Bel w w' :=
  letI : Ev.Syms := Ev.noSyms
  Ev.law_of_run (by kernel_rfl) no_count (gs := parserExamplesTabs) (gl := parserExamplesBits) (next := parserExamplesNext) (by kernel_rfl) rfl parserExamples_run hg
theorem parserExamples_any (w : World) (hL : laidMetH Tryd.prog Rows.parserExamplesRow.laid w) : Calls Tryd.prog 4 #[] w fun e w' => e = .returned (.bool true) ∧ Bel w w' :=
  parserExamples_glob w (Ev.glob_of_laid hL (by kernel_rfl) parserExamples_tabs)
end Go.Proofs.YtamkoncjkngneaaDoor
