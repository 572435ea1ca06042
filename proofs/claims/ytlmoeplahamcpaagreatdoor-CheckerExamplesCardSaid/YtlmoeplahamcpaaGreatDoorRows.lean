/-
  NARROWER THAN 'FOR EVERY INPUT', by the rows' own cells (each row's printed sentence says how): ParserReference: laid · ParserSequence: laid · CheckerExamples: laid · CheckerReference: loops, laid · CheckerSingleError: laid · CheckerOrder: laid · CheckerLimits: laid.
  DERIVED. THE GIVEN ROWS OF THIS SEAT. 7 by the template 'for every input the law returns true; each argument reads behind the call as it read before'; 0 by the template 'total and deterministic' (their statements: YtlmoeplahamcpaaGreatDoorTotals.lean).
  GIVEN WITH THE SEED: the statements are not yours to turn. If you find one false, say at which input.
  Laid BY PROGRAM, IN A SANDBOX (cutbox-rows.mjs): the forced cells as the released guide's own fill.sh prints them over the translation ef464307536ce0ba… (all of the seat's roots in one cut). By AI agents, Wed Nov 11 2026. No macro, syntax, notation, axiom, sorry.
-/
import Derived.Test.YtlmoeplahamcpaaGreatDoorChecked
import GoSem.Claim
import GoSem.ClaimJoined
import GoSem.ClaimMapViews
import Derived.JoinedTies
import Derived.KernelRfl
namespace Go.Proofs.YtlmoeplahamcpaaGreatDoor
/- THE CELL 'sum', in the pinned program and in every row, IS THE sha256 OF THE DUMP (.gsa) THAT YtlmoeplahamcpaaGreatDoorProg.lean LOADS. Nothing in Lean hashes anything: it is a label: what it is worth is what the hold of that sum in a sandbox is worth. -/
noncomputable def Tryz.pinned : Pinned := { name := "ytlmoeplahamcpaagreatdoor", sum := "ef464307536ce0baf0821522201e56629b69a47eef3e71c55db3ebfde7c85003", checked := Tryz.checked }
namespace Rows
def none {H : Type} : Left H := { results := [], args := [] }

/- WHAT THE LISTED PACKAGE-LEVEL VARIABLES READ AS WHEN THE CALL BEGINS. Each datum BY PROGRAM (the guide's laid-datum.mjs) off the statement by which the dump's own 'gosem.cut.vars' lays the variable. In a bare row this is a premise. The card (YtlmoeplahamcpaaGreatDoorCards.lean) ties it to the program's text. -/
def laid_fulling_lexer_longSymbols {H : Type} : DataW H := .agg [.lit (.string [62, 62, 62]), .lit (.string [60, 60]), .lit (.string [62, 62]), .lit (.string [60, 61]), .lit (.string [62, 61]), .lit (.string [61, 61]), .lit (.string [33, 61])]
def laid_fulling_parser_binaryOperators {H : Type} : DataW H := .agg [.agg [.lit (.string [124]), .lit (.int .i64 1), .lit (.int .i64 10), .lit (.bool false)], .agg [.lit (.string [94]), .lit (.int .i64 2), .lit (.int .i64 11), .lit (.bool false)], .agg [.lit (.string [38]), .lit (.int .i64 3), .lit (.int .i64 9), .lit (.bool false)], .agg [.lit (.string [61, 61]), .lit (.int .i64 4), .lit (.int .i64 15), .lit (.bool false)], .agg [.lit (.string [33, 61]), .lit (.int .i64 4), .lit (.int .i64 16), .lit (.bool false)], .agg [.lit (.string [60]), .lit (.int .i64 5), .lit (.int .i64 17), .lit (.bool false)], .agg [.lit (.string [60, 61]), .lit (.int .i64 5), .lit (.int .i64 18), .lit (.bool false)], .agg [.lit (.string [62]), .lit (.int .i64 5), .lit (.int .i64 17), .lit (.bool true)], .agg [.lit (.string [62, 61]), .lit (.int .i64 5), .lit (.int .i64 18), .lit (.bool true)], .agg [.lit (.string [60, 60]), .lit (.int .i64 6), .lit (.int .i64 12), .lit (.bool false)], .agg [.lit (.string [62, 62]), .lit (.int .i64 6), .lit (.int .i64 14), .lit (.bool false)], .agg [.lit (.string [62, 62, 62]), .lit (.int .i64 6), .lit (.int .i64 13), .lit (.bool false)], .agg [.lit (.string [43]), .lit (.int .i64 7), .lit (.int .i64 4), .lit (.bool false)], .agg [.lit (.string [45]), .lit (.int .i64 7), .lit (.int .i64 5), .lit (.bool false)], .agg [.lit (.string [42]), .lit (.int .i64 8), .lit (.int .i64 6), .lit (.bool false)], .agg [.lit (.string [47]), .lit (.int .i64 8), .lit (.int .i64 7), .lit (.bool false)], .agg [.lit (.string [37]), .lit (.int .i64 8), .lit (.int .i64 8), .lit (.bool false)]]
def laid_fulling_checker_statementFields {H : Type} : DataW H := .agg [.agg [.lit (.bool false), .lit (.bool false), .lit (.bool false), .lit (.bool false), .lit (.bool false), .lit (.bool false), .lit (.bool false), .lit (.bool false)], .agg [.lit (.bool true), .lit (.bool false), .lit (.bool false), .lit (.bool false), .lit (.bool true), .lit (.bool false), .lit (.bool false), .lit (.bool false)], .agg [.lit (.bool true), .lit (.bool false), .lit (.bool false), .lit (.bool true), .lit (.bool true), .lit (.bool false), .lit (.bool false), .lit (.bool false)], .agg [.lit (.bool false), .lit (.bool false), .lit (.bool false), .lit (.bool false), .lit (.bool true), .lit (.bool false), .lit (.bool true), .lit (.bool true)], .agg [.lit (.bool false), .lit (.bool false), .lit (.bool false), .lit (.bool false), .lit (.bool true), .lit (.bool false), .lit (.bool true), .lit (.bool false)], .agg [.lit (.bool false), .lit (.bool false), .lit (.bool false), .lit (.bool false), .lit (.bool true), .lit (.bool false), .lit (.bool false), .lit (.bool false)], .agg [.lit (.bool true), .lit (.bool true), .lit (.bool false), .lit (.bool false), .lit (.bool false), .lit (.bool true), .lit (.bool false), .lit (.bool false)], .agg [.lit (.bool false), .lit (.bool false), .lit (.bool true), .lit (.bool false), .lit (.bool false), .lit (.bool false), .lit (.bool false), .lit (.bool false)]]

/-- 'fullinglaw3.ParserReference': WHATEVER THE INPUT: true; the input reads as it did. -/
def parserReferenceSpec : ChangeSpec := { name := "parserReference", fn := fun _ => fun
  | [d1, d2, d3, d4] => { results := [.lit (.bool true)], args := [d1, d2, d3, d4] }
  | _ => none }
def parserReferenceRow : OpenClaim := { program := "ytlmoeplahamcpaagreatdoor", sum := "ef464307536ce0baf0821522201e56629b69a47eef3e71c55db3ebfde7c85003", func := "fulling/fullinglaw3.ParserReference", spec := "parserReference", inPlace := ["internal/bytealg.IndexByteString"], unfollowed := true, recurses := true, named := ["fulling/lexer.longSymbols", "fulling/parser.binaryOperators"], apart := false, laid := [("fulling/lexer.longSymbols", laid_fulling_lexer_longSymbols), ("fulling/parser.binaryOperators", laid_fulling_parser_binaryOperators)] }
def ParserReferenceSaid : Prop := parserReferenceRow.holds Tryz.pinned (OpenSpec.ofChange parserReferenceSpec)

/-- ITS FALSE NEIGHBOUR: 'it returns false'. Refute it at one input. -/
def parserReferenceWrong : ChangeSpec := { name := "parserReference", fn := fun _ => fun
  | [d1, d2, d3, d4] => { results := [.lit (.bool false)], args := [d1, d2, d3, d4] }
  | _ => none }
def ParserReferenceWrongFalsely : Prop := parserReferenceRow.holds Tryz.pinned (OpenSpec.ofChange parserReferenceWrong)

/-- 'fullinglaw3.ParserSequence': WHATEVER THE INPUT: true; the input reads as it did. -/
def parserSequenceSpec : ChangeSpec := { name := "parserSequence", fn := fun _ => fun
  | [d1, d2] => { results := [.lit (.bool true)], args := [d1, d2] }
  | _ => none }
def parserSequenceRow : OpenClaim := { program := "ytlmoeplahamcpaagreatdoor", sum := "ef464307536ce0baf0821522201e56629b69a47eef3e71c55db3ebfde7c85003", func := "fulling/fullinglaw3.ParserSequence", spec := "parserSequence", inPlace := ["internal/bytealg.IndexByteString"], unfollowed := true, recurses := true, named := ["fulling/lexer.longSymbols", "fulling/parser.binaryOperators"], apart := false, laid := [("fulling/lexer.longSymbols", laid_fulling_lexer_longSymbols), ("fulling/parser.binaryOperators", laid_fulling_parser_binaryOperators)] }
def ParserSequenceSaid : Prop := parserSequenceRow.holds Tryz.pinned (OpenSpec.ofChange parserSequenceSpec)

/-- ITS FALSE NEIGHBOUR: 'it returns false'. Refute it at one input. -/
def parserSequenceWrong : ChangeSpec := { name := "parserSequence", fn := fun _ => fun
  | [d1, d2] => { results := [.lit (.bool false)], args := [d1, d2] }
  | _ => none }
def ParserSequenceWrongFalsely : Prop := parserSequenceRow.holds Tryz.pinned (OpenSpec.ofChange parserSequenceWrong)

/-- 'fullinglaw4.CheckerExamples': WHATEVER THE INPUT: true; the input reads as it did. -/
def checkerExamplesSpec : ChangeSpec := { name := "checkerExamples", fn := fun _ => fun
  | [] => { results := [.lit (.bool true)], args := [] }
  | _ => none }
def checkerExamplesRow : OpenClaim := { program := "ytlmoeplahamcpaagreatdoor", sum := "ef464307536ce0baf0821522201e56629b69a47eef3e71c55db3ebfde7c85003", func := "fulling/fullinglaw4.CheckerExamples", spec := "checkerExamples", inPlace := ["internal/bytealg.IndexByteString"], unfollowed := true, recurses := true, named := ["fulling/lexer.longSymbols", "fulling/parser.binaryOperators", "fulling/checker.statementFields"], apart := false, laid := [("fulling/lexer.longSymbols", laid_fulling_lexer_longSymbols), ("fulling/parser.binaryOperators", laid_fulling_parser_binaryOperators), ("fulling/checker.statementFields", laid_fulling_checker_statementFields)] }
def CheckerExamplesSaid : Prop := checkerExamplesRow.holds Tryz.pinned (OpenSpec.ofChange checkerExamplesSpec)

/-- ITS FALSE NEIGHBOUR: 'it returns false'. Refute it at one input. -/
def checkerExamplesWrong : ChangeSpec := { name := "checkerExamples", fn := fun _ => fun
  | [] => { results := [.lit (.bool false)], args := [] }
  | _ => none }
def CheckerExamplesWrongFalsely : Prop := checkerExamplesRow.holds Tryz.pinned (OpenSpec.ofChange checkerExamplesWrong)

/-- 'fullinglaw4.CheckerReference': WHATEVER THE INPUT: true; the input reads as it did. -/
def checkerReferenceSpec : ChangeSpec := { name := "checkerReference", fn := fun _ => fun
  | [d1, d2, d3, d4] => { results := [.lit (.bool true)], args := [d1, d2, d3, d4] }
  | _ => none }
def checkerReferenceRow : OpenClaim := { program := "ytlmoeplahamcpaagreatdoor", sum := "ef464307536ce0baf0821522201e56629b69a47eef3e71c55db3ebfde7c85003", func := "fulling/fullinglaw4.CheckerReference", spec := "checkerReference", inPlace := ["internal/bytealg.IndexByteString"], unfollowed := true, recurses := true, named := ["fulling/lexer.longSymbols", "fulling/parser.binaryOperators", "fulling/checker.statementFields"], loops := true, apart := false, laid := [("fulling/lexer.longSymbols", laid_fulling_lexer_longSymbols), ("fulling/parser.binaryOperators", laid_fulling_parser_binaryOperators), ("fulling/checker.statementFields", laid_fulling_checker_statementFields)] }
def CheckerReferenceSaid : Prop := checkerReferenceRow.holds Tryz.pinned (OpenSpec.ofChange checkerReferenceSpec)

/-- ITS FALSE NEIGHBOUR: 'it returns false'. Refute it at one input. -/
def checkerReferenceWrong : ChangeSpec := { name := "checkerReference", fn := fun _ => fun
  | [d1, d2, d3, d4] => { results := [.lit (.bool false)], args := [d1, d2, d3, d4] }
  | _ => none }
def CheckerReferenceWrongFalsely : Prop := checkerReferenceRow.holds Tryz.pinned (OpenSpec.ofChange checkerReferenceWrong)

/-- 'fullinglaw4.CheckerSingleError': WHATEVER THE INPUT: true; the input reads as it did. -/
def checkerSingleErrorSpec : ChangeSpec := { name := "checkerSingleError", fn := fun _ => fun
  | [d1, d2] => { results := [.lit (.bool true)], args := [d1, d2] }
  | _ => none }
def checkerSingleErrorRow : OpenClaim := { program := "ytlmoeplahamcpaagreatdoor", sum := "ef464307536ce0baf0821522201e56629b69a47eef3e71c55db3ebfde7c85003", func := "fulling/fullinglaw4.CheckerSingleError", spec := "checkerSingleError", inPlace := ["internal/bytealg.IndexByteString"], unfollowed := true, recurses := true, named := ["fulling/lexer.longSymbols", "fulling/parser.binaryOperators", "fulling/checker.statementFields"], apart := false, laid := [("fulling/lexer.longSymbols", laid_fulling_lexer_longSymbols), ("fulling/parser.binaryOperators", laid_fulling_parser_binaryOperators), ("fulling/checker.statementFields", laid_fulling_checker_statementFields)] }
def CheckerSingleErrorSaid : Prop := checkerSingleErrorRow.holds Tryz.pinned (OpenSpec.ofChange checkerSingleErrorSpec)

/-- ITS FALSE NEIGHBOUR: 'it returns false'. Refute it at one input. -/
def checkerSingleErrorWrong : ChangeSpec := { name := "checkerSingleError", fn := fun _ => fun
  | [d1, d2] => { results := [.lit (.bool false)], args := [d1, d2] }
  | _ => none }
def CheckerSingleErrorWrongFalsely : Prop := checkerSingleErrorRow.holds Tryz.pinned (OpenSpec.ofChange checkerSingleErrorWrong)

/-- 'fullinglaw4.CheckerOrder': WHATEVER THE INPUT: true; the input reads as it did. -/
def checkerOrderSpec : ChangeSpec := { name := "checkerOrder", fn := fun _ => fun
  | [d1, d2, d3] => { results := [.lit (.bool true)], args := [d1, d2, d3] }
  | _ => none }
def checkerOrderRow : OpenClaim := { program := "ytlmoeplahamcpaagreatdoor", sum := "ef464307536ce0baf0821522201e56629b69a47eef3e71c55db3ebfde7c85003", func := "fulling/fullinglaw4.CheckerOrder", spec := "checkerOrder", inPlace := ["internal/bytealg.IndexByteString"], unfollowed := true, recurses := true, named := ["fulling/lexer.longSymbols", "fulling/parser.binaryOperators", "fulling/checker.statementFields"], apart := false, laid := [("fulling/lexer.longSymbols", laid_fulling_lexer_longSymbols), ("fulling/parser.binaryOperators", laid_fulling_parser_binaryOperators), ("fulling/checker.statementFields", laid_fulling_checker_statementFields)] }
def CheckerOrderSaid : Prop := checkerOrderRow.holds Tryz.pinned (OpenSpec.ofChange checkerOrderSpec)

/-- ITS FALSE NEIGHBOUR: 'it returns false'. Refute it at one input. -/
def checkerOrderWrong : ChangeSpec := { name := "checkerOrder", fn := fun _ => fun
  | [d1, d2, d3] => { results := [.lit (.bool false)], args := [d1, d2, d3] }
  | _ => none }
def CheckerOrderWrongFalsely : Prop := checkerOrderRow.holds Tryz.pinned (OpenSpec.ofChange checkerOrderWrong)

/-- 'fullinglaw4.CheckerLimits': WHATEVER THE INPUT: true; the input reads as it did. -/
def checkerLimitsSpec : ChangeSpec := { name := "checkerLimits", fn := fun _ => fun
  | [d1, d2] => { results := [.lit (.bool true)], args := [d1, d2] }
  | _ => none }
def checkerLimitsRow : OpenClaim := { program := "ytlmoeplahamcpaagreatdoor", sum := "ef464307536ce0baf0821522201e56629b69a47eef3e71c55db3ebfde7c85003", func := "fulling/fullinglaw4.CheckerLimits", spec := "checkerLimits", inPlace := ["internal/bytealg.IndexByteString"], unfollowed := true, recurses := true, named := ["fulling/lexer.longSymbols", "fulling/parser.binaryOperators", "fulling/checker.statementFields"], apart := false, laid := [("fulling/lexer.longSymbols", laid_fulling_lexer_longSymbols), ("fulling/parser.binaryOperators", laid_fulling_parser_binaryOperators), ("fulling/checker.statementFields", laid_fulling_checker_statementFields)] }
def CheckerLimitsSaid : Prop := checkerLimitsRow.holds Tryz.pinned (OpenSpec.ofChange checkerLimitsSpec)

/-- ITS FALSE NEIGHBOUR: 'it returns false'. Refute it at one input. -/
def checkerLimitsWrong : ChangeSpec := { name := "checkerLimits", fn := fun _ => fun
  | [d1, d2] => { results := [.lit (.bool false)], args := [d1, d2] }
  | _ => none }
def CheckerLimitsWrongFalsely : Prop := checkerLimitsRow.holds Tryz.pinned (OpenSpec.ofChange checkerLimitsWrong)

/- THE SECOND FORM. 'bulk': how many values and letters a reading holds, each counted each time it is reached (what is shared counts as often as it is met; a slice's spare places count too). A statement '..UptoSaid' is the law's where the arguments, and the package variables that the reading takes, are together of bulk at most 1048576: NARROWER than '..Said'. Prove '..Said' where nothing that the law and all that it calls make is longer than what came in: it says more and counts as full. Else prove '..UptoSaid'. A law counts once. -/
mutual
def uptoBulk {H : Type} : DataW H → Nat
  | .lit (.string bytes) => bytes.length + 1
  | .lit _ => 1
  | .nil => 1
  | .ptr d => uptoBulk d + 1
  | .slice elems spare => uptoBulkAll elems + uptoBulkAll spare + 1
  | .agg parts => uptoBulkAll parts + 1
  | .iface _ d => uptoBulk d + 1
  | .map entries => uptoBulkEntries entries + 1
  | .held _ => 1
def uptoBulkAll {H : Type} : List (DataW H) → Nat
  | [] => 0
  | d :: r => uptoBulk d + uptoBulkAll r
def uptoBulkEntries {H : Type} : List (Lit × DataW H) → Nat
  | [] => 0
  | x :: r => uptoBulkEntry x + uptoBulkEntries r
def uptoBulkEntry {H : Type} : Lit × DataW H → Nat
  | (.string bytes, d) => bytes.length + uptoBulk d + 1
  | (_, d) => uptoBulk d + 1
 end
def uptoSmall : (H : Type) → List (DataW H) → Bool := fun _ ds => decide (uptoBulkAll ds ≤ 1048576)
def OpenSpec.upto (s : _root_.Go.ChangeSpec) : _root_.Go.OpenSpec := { _root_.Go.OpenSpec.ofChange s with cond := some uptoSmall }

/-- 'fullinglaw3.ParserReference', WHERE WHAT IT READS IS OF BULK AT MOST 1048576: true; the input reads as it did. -/
def parserReferenceUptoRow : OpenClaim := { program := "ytlmoeplahamcpaagreatdoor", sum := "ef464307536ce0baf0821522201e56629b69a47eef3e71c55db3ebfde7c85003", func := "fulling/fullinglaw3.ParserReference", spec := "parserReference", inPlace := ["internal/bytealg.IndexByteString"], unfollowed := true, recurses := true, named := ["fulling/lexer.longSymbols", "fulling/parser.binaryOperators"], apart := false, laid := [("fulling/lexer.longSymbols", laid_fulling_lexer_longSymbols), ("fulling/parser.binaryOperators", laid_fulling_parser_binaryOperators)], narrowed := true }
def ParserReferenceUptoSaid : Prop := parserReferenceUptoRow.holds Tryz.pinned (OpenSpec.upto parserReferenceSpec)

/-- 'fullinglaw3.ParserSequence', WHERE WHAT IT READS IS OF BULK AT MOST 1048576: true; the input reads as it did. -/
def parserSequenceUptoRow : OpenClaim := { program := "ytlmoeplahamcpaagreatdoor", sum := "ef464307536ce0baf0821522201e56629b69a47eef3e71c55db3ebfde7c85003", func := "fulling/fullinglaw3.ParserSequence", spec := "parserSequence", inPlace := ["internal/bytealg.IndexByteString"], unfollowed := true, recurses := true, named := ["fulling/lexer.longSymbols", "fulling/parser.binaryOperators"], apart := false, laid := [("fulling/lexer.longSymbols", laid_fulling_lexer_longSymbols), ("fulling/parser.binaryOperators", laid_fulling_parser_binaryOperators)], narrowed := true }
def ParserSequenceUptoSaid : Prop := parserSequenceUptoRow.holds Tryz.pinned (OpenSpec.upto parserSequenceSpec)

/-- 'fullinglaw4.CheckerExamples', WHERE WHAT IT READS IS OF BULK AT MOST 1048576: true; the input reads as it did. -/
def checkerExamplesUptoRow : OpenClaim := { program := "ytlmoeplahamcpaagreatdoor", sum := "ef464307536ce0baf0821522201e56629b69a47eef3e71c55db3ebfde7c85003", func := "fulling/fullinglaw4.CheckerExamples", spec := "checkerExamples", inPlace := ["internal/bytealg.IndexByteString"], unfollowed := true, recurses := true, named := ["fulling/lexer.longSymbols", "fulling/parser.binaryOperators", "fulling/checker.statementFields"], apart := false, laid := [("fulling/lexer.longSymbols", laid_fulling_lexer_longSymbols), ("fulling/parser.binaryOperators", laid_fulling_parser_binaryOperators), ("fulling/checker.statementFields", laid_fulling_checker_statementFields)], narrowed := true }
def CheckerExamplesUptoSaid : Prop := checkerExamplesUptoRow.holds Tryz.pinned (OpenSpec.upto checkerExamplesSpec)

/-- 'fullinglaw4.CheckerReference', WHERE WHAT IT READS IS OF BULK AT MOST 1048576: true; the input reads as it did. -/
def checkerReferenceUptoRow : OpenClaim := { program := "ytlmoeplahamcpaagreatdoor", sum := "ef464307536ce0baf0821522201e56629b69a47eef3e71c55db3ebfde7c85003", func := "fulling/fullinglaw4.CheckerReference", spec := "checkerReference", inPlace := ["internal/bytealg.IndexByteString"], unfollowed := true, recurses := true, named := ["fulling/lexer.longSymbols", "fulling/parser.binaryOperators", "fulling/checker.statementFields"], loops := true, apart := false, laid := [("fulling/lexer.longSymbols", laid_fulling_lexer_longSymbols), ("fulling/parser.binaryOperators", laid_fulling_parser_binaryOperators), ("fulling/checker.statementFields", laid_fulling_checker_statementFields)], narrowed := true }
def CheckerReferenceUptoSaid : Prop := checkerReferenceUptoRow.holds Tryz.pinned (OpenSpec.upto checkerReferenceSpec)

/-- 'fullinglaw4.CheckerSingleError', WHERE WHAT IT READS IS OF BULK AT MOST 1048576: true; the input reads as it did. -/
def checkerSingleErrorUptoRow : OpenClaim := { program := "ytlmoeplahamcpaagreatdoor", sum := "ef464307536ce0baf0821522201e56629b69a47eef3e71c55db3ebfde7c85003", func := "fulling/fullinglaw4.CheckerSingleError", spec := "checkerSingleError", inPlace := ["internal/bytealg.IndexByteString"], unfollowed := true, recurses := true, named := ["fulling/lexer.longSymbols", "fulling/parser.binaryOperators", "fulling/checker.statementFields"], apart := false, laid := [("fulling/lexer.longSymbols", laid_fulling_lexer_longSymbols), ("fulling/parser.binaryOperators", laid_fulling_parser_binaryOperators), ("fulling/checker.statementFields", laid_fulling_checker_statementFields)], narrowed := true }
def CheckerSingleErrorUptoSaid : Prop := checkerSingleErrorUptoRow.holds Tryz.pinned (OpenSpec.upto checkerSingleErrorSpec)

/-- 'fullinglaw4.CheckerOrder', WHERE WHAT IT READS IS OF BULK AT MOST 1048576: true; the input reads as it did. -/
def checkerOrderUptoRow : OpenClaim := { program := "ytlmoeplahamcpaagreatdoor", sum := "ef464307536ce0baf0821522201e56629b69a47eef3e71c55db3ebfde7c85003", func := "fulling/fullinglaw4.CheckerOrder", spec := "checkerOrder", inPlace := ["internal/bytealg.IndexByteString"], unfollowed := true, recurses := true, named := ["fulling/lexer.longSymbols", "fulling/parser.binaryOperators", "fulling/checker.statementFields"], apart := false, laid := [("fulling/lexer.longSymbols", laid_fulling_lexer_longSymbols), ("fulling/parser.binaryOperators", laid_fulling_parser_binaryOperators), ("fulling/checker.statementFields", laid_fulling_checker_statementFields)], narrowed := true }
def CheckerOrderUptoSaid : Prop := checkerOrderUptoRow.holds Tryz.pinned (OpenSpec.upto checkerOrderSpec)

/-- 'fullinglaw4.CheckerLimits', WHERE WHAT IT READS IS OF BULK AT MOST 1048576: true; the input reads as it did. -/
def checkerLimitsUptoRow : OpenClaim := { program := "ytlmoeplahamcpaagreatdoor", sum := "ef464307536ce0baf0821522201e56629b69a47eef3e71c55db3ebfde7c85003", func := "fulling/fullinglaw4.CheckerLimits", spec := "checkerLimits", inPlace := ["internal/bytealg.IndexByteString"], unfollowed := true, recurses := true, named := ["fulling/lexer.longSymbols", "fulling/parser.binaryOperators", "fulling/checker.statementFields"], apart := false, laid := [("fulling/lexer.longSymbols", laid_fulling_lexer_longSymbols), ("fulling/parser.binaryOperators", laid_fulling_parser_binaryOperators), ("fulling/checker.statementFields", laid_fulling_checker_statementFields)], narrowed := true }
def CheckerLimitsUptoSaid : Prop := checkerLimitsUptoRow.holds Tryz.pinned (OpenSpec.upto checkerLimitsSpec)

end Rows
end Go.Proofs.YtlmoeplahamcpaaGreatDoor
