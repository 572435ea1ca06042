/-
  'fulling/fullinglaw6.InterpExamples' answers true, whatever it is given.
-/
import Derived.Test.YtcjolamfjgdgjaaGreatDoorInterpExamplesLit
import Derived.ProofKit
namespace Go.Proofs.YtcjolamfjgdgjaaGreatDoor
open Go.RowKit
theorem interpExamples_tabs : Ev.laidCells Tryz.prog Rows.interpExamplesRow.laid = some ckTabs := by kernel_rfl
theorem interpExamples_run : interpExamplesSays Ev.noSyms Ev.noOracle [] = true := by kernel_rfl
theorem interpExamples_check : interpExamplesCheck Ev.noSyms = true := by kernel_rfl
theorem interpExamples_glob (w : World) (hg : Ev.GlobIs ckTabs w) : Calls Tryz.prog 4 #[] w fun e w' => e = .returned (.bool true) ∧ Bel w w' :=
  letI : Ev.Syms := Ev.noSyms
  interpExamples_go Ev.noSyms interpExamples_check hg (@Ev.no_orc Ev.noSyms _ _ _) (fun _ => .nil) interpExamples_run
theorem interpExamples_any (w : World) (hL : laidMetH Tryz.prog Rows.interpExamplesRow.laid w) : Calls Tryz.prog 4 #[] w fun e w' => e = .returned (.bool true) ∧ Bel w w' :=
  interpExamples_glob w (Ev.glob_of_laid hL (by kernel_rfl) interpExamples_tabs)
end Go.Proofs.YtcjolamfjgdgjaaGreatDoor
