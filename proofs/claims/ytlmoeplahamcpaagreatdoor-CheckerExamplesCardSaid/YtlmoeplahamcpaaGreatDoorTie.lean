/-
  DERIVED. GIVEN WITH THE SEED: THE PROGRAM's TIES (one call each: nine closed facts by the kernel) AND EACH ROW's TIE, after the 31st guide's Derived/Test/Toyas{Tie, Card}.lean. No idea stands in it: it is a product of the set-up. Laid BY PROGRAM, IN A SANDBOX (cutbox-door.mjs). By AI agents, Wed Nov 11 2026. No macro, syntax, notation, axiom, sorry.
-/
import Derived.Test.YtlmoeplahamcpaaGreatDoorRows
import Derived.LaidByTextLater
import Derived.SevenTiedAt
import Derived.LaidSub
import Derived.LaidOnce
namespace Go.Proofs.YtlmoeplahamcpaaGreatDoor
open Go
set_option maxRecDepth 100000
theorem seatTie1 : Tryz.prog.laidByTextLater [("fulling/lexer.longSymbols", Rows.laid_fulling_lexer_longSymbols), ("fulling/parser.binaryOperators", Rows.laid_fulling_parser_binaryOperators), ("fulling/checker.statementFields", Rows.laid_fulling_checker_statementFields)] [.data, .data, .data] true :=
  Program.laidByTextLater_by_one 48 8 69 (by kernel_rfl) (by kernel_rfl) (by kernel_rfl) (by kernel_rfl) (by kernel_rfl) (by kernel_rfl) (fun _ _ => by kernel_rfl)
theorem noOwnUnsafe : Tryz.pinned.checked.prog.headLifts.contains "ownunsafe" = false := by kernel_rfl
theorem tie : Tryz.prog.laidByTextLater [("fulling/lexer.longSymbols", Rows.laid_fulling_lexer_longSymbols), ("fulling/parser.binaryOperators", Rows.laid_fulling_parser_binaryOperators)] [.data, .data] true :=
  Program.laidByTextLater.sub seatTie1 ["fulling/lexer.longSymbols", "fulling/parser.binaryOperators"] (by kernel_rfl) (by kernel_rfl)
theorem parserReference_row_tie : Rows.parserReferenceRow.laidByTextAt .later Tryz.pinned [.data, .data] true :=
  OpenClaim.laidByTextAt_later rfl rfl tie noOwnUnsafe
theorem parserSequence_row_tie : Rows.parserSequenceRow.laidByTextAt .later Tryz.pinned [.data, .data] true :=
  OpenClaim.laidByTextAt_later rfl rfl tie noOwnUnsafe
theorem tie2 : Tryz.prog.laidByTextLater [("fulling/lexer.longSymbols", Rows.laid_fulling_lexer_longSymbols), ("fulling/parser.binaryOperators", Rows.laid_fulling_parser_binaryOperators), ("fulling/checker.statementFields", Rows.laid_fulling_checker_statementFields)] [.data, .data, .data] true :=
  Program.laidByTextLater.sub seatTie1 ["fulling/lexer.longSymbols", "fulling/parser.binaryOperators", "fulling/checker.statementFields"] (by kernel_rfl) (by kernel_rfl)
theorem checkerExamples_row_tie : Rows.checkerExamplesRow.laidByTextAt .later Tryz.pinned [.data, .data, .data] true :=
  OpenClaim.laidByTextAt_later rfl rfl tie2 noOwnUnsafe
theorem checkerReference_row_tie : Rows.checkerReferenceRow.laidByTextAt .later Tryz.pinned [.data, .data, .data] true :=
  OpenClaim.laidByTextAt_later rfl rfl tie2 noOwnUnsafe
theorem checkerSingleError_row_tie : Rows.checkerSingleErrorRow.laidByTextAt .later Tryz.pinned [.data, .data, .data] true :=
  OpenClaim.laidByTextAt_later rfl rfl tie2 noOwnUnsafe
theorem checkerOrder_row_tie : Rows.checkerOrderRow.laidByTextAt .later Tryz.pinned [.data, .data, .data] true :=
  OpenClaim.laidByTextAt_later rfl rfl tie2 noOwnUnsafe
theorem checkerLimits_row_tie : Rows.checkerLimitsRow.laidByTextAt .later Tryz.pinned [.data, .data, .data] true :=
  OpenClaim.laidByTextAt_later rfl rfl tie2 noOwnUnsafe
theorem parserReferenceUpto_row_tie : Rows.parserReferenceUptoRow.laidByTextAt .later Tryz.pinned [.data, .data] true :=
  OpenClaim.laidByTextAt_later rfl rfl tie noOwnUnsafe
theorem parserSequenceUpto_row_tie : Rows.parserSequenceUptoRow.laidByTextAt .later Tryz.pinned [.data, .data] true :=
  OpenClaim.laidByTextAt_later rfl rfl tie noOwnUnsafe
theorem checkerExamplesUpto_row_tie : Rows.checkerExamplesUptoRow.laidByTextAt .later Tryz.pinned [.data, .data, .data] true :=
  OpenClaim.laidByTextAt_later rfl rfl tie2 noOwnUnsafe
theorem checkerReferenceUpto_row_tie : Rows.checkerReferenceUptoRow.laidByTextAt .later Tryz.pinned [.data, .data, .data] true :=
  OpenClaim.laidByTextAt_later rfl rfl tie2 noOwnUnsafe
theorem checkerSingleErrorUpto_row_tie : Rows.checkerSingleErrorUptoRow.laidByTextAt .later Tryz.pinned [.data, .data, .data] true :=
  OpenClaim.laidByTextAt_later rfl rfl tie2 noOwnUnsafe
theorem checkerOrderUpto_row_tie : Rows.checkerOrderUptoRow.laidByTextAt .later Tryz.pinned [.data, .data, .data] true :=
  OpenClaim.laidByTextAt_later rfl rfl tie2 noOwnUnsafe
theorem checkerLimitsUpto_row_tie : Rows.checkerLimitsUptoRow.laidByTextAt .later Tryz.pinned [.data, .data, .data] true :=
  OpenClaim.laidByTextAt_later rfl rfl tie2 noOwnUnsafe
end Go.Proofs.YtlmoeplahamcpaaGreatDoor
