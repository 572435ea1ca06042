/-
  NARROWER THAN 'FOR EVERY INPUT', by the rows' own cells (each row's printed sentence says how): CheckerLimits: laid · InterpExamples: laid · InterpTicks: laid · InterpSorts: laid · InterpLaziness: laid · InterpCalls: laid · InterpTraps: laid.
  DERIVED. THE GIVEN ROWS OF THIS SEAT. 7 by the template 'for every input the law returns true; each argument reads behind the call as it read before'; 0 by the template 'total and deterministic' (their statements: YtcjolamfjgdgjaaGreatDoorTotals.lean).
  GIVEN WITH THE SEED: the statements are not yours to turn. If you find one false, say at which input.
  Laid BY PROGRAM, IN A SANDBOX (cutbox-rows.mjs): the forced cells as the released guide's own fill.sh prints them over the translation 4d4c7e36390d3e7d… (all of the seat's roots in one cut). By AI agents, Wed Nov 11 2026. No macro, syntax, notation, axiom, sorry.
-/
import Derived.Test.YtcjolamfjgdgjaaGreatDoorChecked
import GoSem.Claim
import GoSem.ClaimJoined
import GoSem.ClaimMapViews
import Derived.JoinedTies
import Derived.KernelRfl
namespace Go.Proofs.YtcjolamfjgdgjaaGreatDoor
/- THE CELL 'sum', in the pinned program and in every row, IS THE sha256 OF THE DUMP (.gsa) THAT YtcjolamfjgdgjaaGreatDoorProg.lean LOADS. Nothing in Lean hashes anything: it is a label: what it is worth is what the hold of that sum in a sandbox is worth. -/
noncomputable def Tryz.pinned : Pinned := { name := "ytcjolamfjgdgjaagreatdoor", sum := "4d4c7e36390d3e7d450bd971bc08e6bac125ce63a5528e0cf7326bc6ddaad067", checked := Tryz.checked }
namespace Rows
def none {H : Type} : Left H := { results := [], args := [] }

/- WHAT THE LISTED PACKAGE-LEVEL VARIABLES READ AS WHEN THE CALL BEGINS. Each datum BY PROGRAM (the guide's laid-datum.mjs) off the statement by which the dump's own 'gosem.cut.vars' lays the variable. In a bare row this is a premise. The card (YtcjolamfjgdgjaaGreatDoorCards.lean) ties it to the program's text. -/
def laid_fulling_lexer_longSymbols {H : Type} : DataW H := .agg [.lit (.string [62, 62, 62]), .lit (.string [60, 60]), .lit (.string [62, 62]), .lit (.string [60, 61]), .lit (.string [62, 61]), .lit (.string [61, 61]), .lit (.string [33, 61])]
def laid_fulling_parser_binaryOperators {H : Type} : DataW H := .agg [.agg [.lit (.string [124]), .lit (.int .i64 1), .lit (.int .i64 10), .lit (.bool false)], .agg [.lit (.string [94]), .lit (.int .i64 2), .lit (.int .i64 11), .lit (.bool false)], .agg [.lit (.string [38]), .lit (.int .i64 3), .lit (.int .i64 9), .lit (.bool false)], .agg [.lit (.string [61, 61]), .lit (.int .i64 4), .lit (.int .i64 15), .lit (.bool false)], .agg [.lit (.string [33, 61]), .lit (.int .i64 4), .lit (.int .i64 16), .lit (.bool false)], .agg [.lit (.string [60]), .lit (.int .i64 5), .lit (.int .i64 17), .lit (.bool false)], .agg [.lit (.string [60, 61]), .lit (.int .i64 5), .lit (.int .i64 18), .lit (.bool false)], .agg [.lit (.string [62]), .lit (.int .i64 5), .lit (.int .i64 17), .lit (.bool true)], .agg [.lit (.string [62, 61]), .lit (.int .i64 5), .lit (.int .i64 18), .lit (.bool true)], .agg [.lit (.string [60, 60]), .lit (.int .i64 6), .lit (.int .i64 12), .lit (.bool false)], .agg [.lit (.string [62, 62]), .lit (.int .i64 6), .lit (.int .i64 14), .lit (.bool false)], .agg [.lit (.string [62, 62, 62]), .lit (.int .i64 6), .lit (.int .i64 13), .lit (.bool false)], .agg [.lit (.string [43]), .lit (.int .i64 7), .lit (.int .i64 4), .lit (.bool false)], .agg [.lit (.string [45]), .lit (.int .i64 7), .lit (.int .i64 5), .lit (.bool false)], .agg [.lit (.string [42]), .lit (.int .i64 8), .lit (.int .i64 6), .lit (.bool false)], .agg [.lit (.string [47]), .lit (.int .i64 8), .lit (.int .i64 7), .lit (.bool false)], .agg [.lit (.string [37]), .lit (.int .i64 8), .lit (.int .i64 8), .lit (.bool false)]]
def laid_fulling_checker_statementFields {H : Type} : DataW H := .agg [.agg [.lit (.bool false), .lit (.bool false), .lit (.bool false), .lit (.bool false), .lit (.bool false), .lit (.bool false), .lit (.bool false), .lit (.bool false)], .agg [.lit (.bool true), .lit (.bool false), .lit (.bool false), .lit (.bool false), .lit (.bool true), .lit (.bool false), .lit (.bool false), .lit (.bool false)], .agg [.lit (.bool true), .lit (.bool false), .lit (.bool false), .lit (.bool true), .lit (.bool true), .lit (.bool false), .lit (.bool false), .lit (.bool false)], .agg [.lit (.bool false), .lit (.bool false), .lit (.bool false), .lit (.bool false), .lit (.bool true), .lit (.bool false), .lit (.bool true), .lit (.bool true)], .agg [.lit (.bool false), .lit (.bool false), .lit (.bool false), .lit (.bool false), .lit (.bool true), .lit (.bool false), .lit (.bool true), .lit (.bool false)], .agg [.lit (.bool false), .lit (.bool false), .lit (.bool false), .lit (.bool false), .lit (.bool true), .lit (.bool false), .lit (.bool false), .lit (.bool false)], .agg [.lit (.bool true), .lit (.bool true), .lit (.bool false), .lit (.bool false), .lit (.bool false), .lit (.bool true), .lit (.bool false), .lit (.bool false)], .agg [.lit (.bool false), .lit (.bool false), .lit (.bool true), .lit (.bool false), .lit (.bool false), .lit (.bool false), .lit (.bool false), .lit (.bool false)]]

/-- 'fullinglaw4.CheckerLimits': WHATEVER THE INPUT: true; the input reads as it did. -/
def checkerLimitsSpec : ChangeSpec := { name := "checkerLimits", fn := fun _ => fun
  | [d1, d2] => { results := [.lit (.bool true)], args := [d1, d2] }
  | _ => none }
def checkerLimitsRow : OpenClaim := { program := "ytcjolamfjgdgjaagreatdoor", sum := "4d4c7e36390d3e7d450bd971bc08e6bac125ce63a5528e0cf7326bc6ddaad067", func := "fulling/fullinglaw4.CheckerLimits", spec := "checkerLimits", inPlace := ["internal/bytealg.IndexByteString"], unfollowed := true, recurses := true, named := ["fulling/lexer.longSymbols", "fulling/parser.binaryOperators", "fulling/checker.statementFields"], apart := false, laid := [("fulling/lexer.longSymbols", laid_fulling_lexer_longSymbols), ("fulling/parser.binaryOperators", laid_fulling_parser_binaryOperators), ("fulling/checker.statementFields", laid_fulling_checker_statementFields)] }
def CheckerLimitsSaid : Prop := checkerLimitsRow.holds Tryz.pinned (OpenSpec.ofChange checkerLimitsSpec)

/-- ITS FALSE NEIGHBOUR: 'it returns false'. Refute it at one input. -/
def checkerLimitsWrong : ChangeSpec := { name := "checkerLimits", fn := fun _ => fun
  | [d1, d2] => { results := [.lit (.bool false)], args := [d1, d2] }
  | _ => none }
def CheckerLimitsWrongFalsely : Prop := checkerLimitsRow.holds Tryz.pinned (OpenSpec.ofChange checkerLimitsWrong)

/-- 'fullinglaw6.InterpExamples': WHATEVER THE INPUT: true; the input reads as it did. -/
def interpExamplesSpec : ChangeSpec := { name := "interpExamples", fn := fun _ => fun
  | [] => { results := [.lit (.bool true)], args := [] }
  | _ => none }
def interpExamplesRow : OpenClaim := { program := "ytcjolamfjgdgjaagreatdoor", sum := "4d4c7e36390d3e7d450bd971bc08e6bac125ce63a5528e0cf7326bc6ddaad067", func := "fulling/fullinglaw6.InterpExamples", spec := "interpExamples", inPlace := ["internal/bytealg.IndexByteString"], unfollowed := true, recurses := true, named := ["fulling/lexer.longSymbols", "fulling/parser.binaryOperators", "fulling/checker.statementFields"], apart := false, laid := [("fulling/lexer.longSymbols", laid_fulling_lexer_longSymbols), ("fulling/parser.binaryOperators", laid_fulling_parser_binaryOperators), ("fulling/checker.statementFields", laid_fulling_checker_statementFields)] }
def InterpExamplesSaid : Prop := interpExamplesRow.holds Tryz.pinned (OpenSpec.ofChange interpExamplesSpec)

/-- ITS FALSE NEIGHBOUR: 'it returns false'. Refute it at one input. -/
def interpExamplesWrong : ChangeSpec := { name := "interpExamples", fn := fun _ => fun
  | [] => { results := [.lit (.bool false)], args := [] }
  | _ => none }
def InterpExamplesWrongFalsely : Prop := interpExamplesRow.holds Tryz.pinned (OpenSpec.ofChange interpExamplesWrong)

/-- 'fullinglaw6.InterpTicks': WHATEVER THE INPUT: true; the input reads as it did. -/
def interpTicksSpec : ChangeSpec := { name := "interpTicks", fn := fun _ => fun
  | [d1, d2, d3] => { results := [.lit (.bool true)], args := [d1, d2, d3] }
  | _ => none }
def interpTicksRow : OpenClaim := { program := "ytcjolamfjgdgjaagreatdoor", sum := "4d4c7e36390d3e7d450bd971bc08e6bac125ce63a5528e0cf7326bc6ddaad067", func := "fulling/fullinglaw6.InterpTicks", spec := "interpTicks", inPlace := ["internal/bytealg.IndexByteString"], unfollowed := true, recurses := true, named := ["fulling/lexer.longSymbols", "fulling/parser.binaryOperators", "fulling/checker.statementFields"], apart := false, laid := [("fulling/lexer.longSymbols", laid_fulling_lexer_longSymbols), ("fulling/parser.binaryOperators", laid_fulling_parser_binaryOperators), ("fulling/checker.statementFields", laid_fulling_checker_statementFields)] }
def InterpTicksSaid : Prop := interpTicksRow.holds Tryz.pinned (OpenSpec.ofChange interpTicksSpec)

/-- ITS FALSE NEIGHBOUR: 'it returns false'. Refute it at one input. -/
def interpTicksWrong : ChangeSpec := { name := "interpTicks", fn := fun _ => fun
  | [d1, d2, d3] => { results := [.lit (.bool false)], args := [d1, d2, d3] }
  | _ => none }
def InterpTicksWrongFalsely : Prop := interpTicksRow.holds Tryz.pinned (OpenSpec.ofChange interpTicksWrong)

/-- 'fullinglaw6.InterpSorts': WHATEVER THE INPUT: true; the input reads as it did. -/
def interpSortsSpec : ChangeSpec := { name := "interpSorts", fn := fun _ => fun
  | [d1, d2, d3] => { results := [.lit (.bool true)], args := [d1, d2, d3] }
  | _ => none }
def interpSortsRow : OpenClaim := { program := "ytcjolamfjgdgjaagreatdoor", sum := "4d4c7e36390d3e7d450bd971bc08e6bac125ce63a5528e0cf7326bc6ddaad067", func := "fulling/fullinglaw6.InterpSorts", spec := "interpSorts", inPlace := ["internal/bytealg.IndexByteString"], unfollowed := true, recurses := true, named := ["fulling/lexer.longSymbols", "fulling/parser.binaryOperators", "fulling/checker.statementFields"], apart := false, laid := [("fulling/lexer.longSymbols", laid_fulling_lexer_longSymbols), ("fulling/parser.binaryOperators", laid_fulling_parser_binaryOperators), ("fulling/checker.statementFields", laid_fulling_checker_statementFields)] }
def InterpSortsSaid : Prop := interpSortsRow.holds Tryz.pinned (OpenSpec.ofChange interpSortsSpec)

/-- ITS FALSE NEIGHBOUR: 'it returns false'. Refute it at one input. -/
def interpSortsWrong : ChangeSpec := { name := "interpSorts", fn := fun _ => fun
  | [d1, d2, d3] => { results := [.lit (.bool false)], args := [d1, d2, d3] }
  | _ => none }
def InterpSortsWrongFalsely : Prop := interpSortsRow.holds Tryz.pinned (OpenSpec.ofChange interpSortsWrong)

/-- 'fullinglaw6.InterpLaziness': WHATEVER THE INPUT: true; the input reads as it did. -/
def interpLazinessSpec : ChangeSpec := { name := "interpLaziness", fn := fun _ => fun
  | [d1, d2, d3] => { results := [.lit (.bool true)], args := [d1, d2, d3] }
  | _ => none }
def interpLazinessRow : OpenClaim := { program := "ytcjolamfjgdgjaagreatdoor", sum := "4d4c7e36390d3e7d450bd971bc08e6bac125ce63a5528e0cf7326bc6ddaad067", func := "fulling/fullinglaw6.InterpLaziness", spec := "interpLaziness", inPlace := ["internal/bytealg.IndexByteString"], unfollowed := true, recurses := true, named := ["fulling/lexer.longSymbols", "fulling/parser.binaryOperators", "fulling/checker.statementFields"], apart := false, laid := [("fulling/lexer.longSymbols", laid_fulling_lexer_longSymbols), ("fulling/parser.binaryOperators", laid_fulling_parser_binaryOperators), ("fulling/checker.statementFields", laid_fulling_checker_statementFields)] }
def InterpLazinessSaid : Prop := interpLazinessRow.holds Tryz.pinned (OpenSpec.ofChange interpLazinessSpec)

/-- ITS FALSE NEIGHBOUR: 'it returns false'. Refute it at one input. -/
def interpLazinessWrong : ChangeSpec := { name := "interpLaziness", fn := fun _ => fun
  | [d1, d2, d3] => { results := [.lit (.bool false)], args := [d1, d2, d3] }
  | _ => none }
def InterpLazinessWrongFalsely : Prop := interpLazinessRow.holds Tryz.pinned (OpenSpec.ofChange interpLazinessWrong)

/-- 'fullinglaw6.InterpCalls': WHATEVER THE INPUT: true; the input reads as it did. -/
def interpCallsSpec : ChangeSpec := { name := "interpCalls", fn := fun _ => fun
  | [d1, d2, d3] => { results := [.lit (.bool true)], args := [d1, d2, d3] }
  | _ => none }
def interpCallsRow : OpenClaim := { program := "ytcjolamfjgdgjaagreatdoor", sum := "4d4c7e36390d3e7d450bd971bc08e6bac125ce63a5528e0cf7326bc6ddaad067", func := "fulling/fullinglaw6.InterpCalls", spec := "interpCalls", inPlace := ["internal/bytealg.IndexByteString"], unfollowed := true, recurses := true, named := ["fulling/lexer.longSymbols", "fulling/parser.binaryOperators", "fulling/checker.statementFields"], apart := false, laid := [("fulling/lexer.longSymbols", laid_fulling_lexer_longSymbols), ("fulling/parser.binaryOperators", laid_fulling_parser_binaryOperators), ("fulling/checker.statementFields", laid_fulling_checker_statementFields)] }
def InterpCallsSaid : Prop := interpCallsRow.holds Tryz.pinned (OpenSpec.ofChange interpCallsSpec)

/-- ITS FALSE NEIGHBOUR: 'it returns false'. Refute it at one input. -/
def interpCallsWrong : ChangeSpec := { name := "interpCalls", fn := fun _ => fun
  | [d1, d2, d3] => { results := [.lit (.bool false)], args := [d1, d2, d3] }
  | _ => none }
def InterpCallsWrongFalsely : Prop := interpCallsRow.holds Tryz.pinned (OpenSpec.ofChange interpCallsWrong)

/-- 'fullinglaw6.InterpTraps': WHATEVER THE INPUT: true; the input reads as it did. -/
def interpTrapsSpec : ChangeSpec := { name := "interpTraps", fn := fun _ => fun
  | [d1, d2, d3] => { results := [.lit (.bool true)], args := [d1, d2, d3] }
  | _ => none }
def interpTrapsRow : OpenClaim := { program := "ytcjolamfjgdgjaagreatdoor", sum := "4d4c7e36390d3e7d450bd971bc08e6bac125ce63a5528e0cf7326bc6ddaad067", func := "fulling/fullinglaw6.InterpTraps", spec := "interpTraps", inPlace := ["internal/bytealg.IndexByteString"], unfollowed := true, recurses := true, named := ["fulling/lexer.longSymbols", "fulling/parser.binaryOperators", "fulling/checker.statementFields"], apart := false, laid := [("fulling/lexer.longSymbols", laid_fulling_lexer_longSymbols), ("fulling/parser.binaryOperators", laid_fulling_parser_binaryOperators), ("fulling/checker.statementFields", laid_fulling_checker_statementFields)] }
def InterpTrapsSaid : Prop := interpTrapsRow.holds Tryz.pinned (OpenSpec.ofChange interpTrapsSpec)

/-- ITS FALSE NEIGHBOUR: 'it returns false'. Refute it at one input. -/
def interpTrapsWrong : ChangeSpec := { name := "interpTraps", fn := fun _ => fun
  | [d1, d2, d3] => { results := [.lit (.bool false)], args := [d1, d2, d3] }
  | _ => none }
def InterpTrapsWrongFalsely : Prop := interpTrapsRow.holds Tryz.pinned (OpenSpec.ofChange interpTrapsWrong)

/- THE SECOND FORM. 'bulk': how many values and letters a reading holds, each counted each time it is reached (what is shared counts as often as it is met; a slice's spare places count too). A statement '..UptoSaid' is the law's where the arguments, and the package variables that the reading takes, are together of bulk at most 1048576: NARROWER than '..Said'. Prove '..Said' where nothing that the law and all that it calls make is longer than what came in: it says more and counts as full. Else prove '..UptoSaid'. A law counts once. -/
mutual
def uptoBulk {H : Type} : DataW H → Nat
  | .lit (.string bytes) => bytes.length + 1
  | .lit _ => 1
  | .nil => 1
  | .ptr d => uptoBulk d + 1
  | .slice elems spare => uptoBulkAll elems + uptoBulkAll spare + 1
  | .agg parts => uptoBulkAll parts + 1
  | .iface _ d => uptoBulk d + 1
  | .map entries => uptoBulkEntries entries + 1
  | .held _ => 1
def uptoBulkAll {H : Type} : List (DataW H) → Nat
  | [] => 0
  | d :: r => uptoBulk d + uptoBulkAll r
def uptoBulkEntries {H : Type} : List (Lit × DataW H) → Nat
  | [] => 0
  | x :: r => uptoBulkEntry x + uptoBulkEntries r
def uptoBulkEntry {H : Type} : Lit × DataW H → Nat
  | (.string bytes, d) => bytes.length + uptoBulk d + 1
  | (_, d) => uptoBulk d + 1
 end
def uptoSmall : (H : Type) → List (DataW H) → Bool := fun _ ds => decide (uptoBulkAll ds ≤ 1048576)
def OpenSpec.upto (s : _root_.Go.ChangeSpec) : _root_.Go.OpenSpec := { _root_.Go.OpenSpec.ofChange s with cond := some uptoSmall }

/-- 'fullinglaw4.CheckerLimits', WHERE WHAT IT READS IS OF BULK AT MOST 1048576: true; the input reads as it did. -/
def checkerLimitsUptoRow : OpenClaim := { program := "ytcjolamfjgdgjaagreatdoor", sum := "4d4c7e36390d3e7d450bd971bc08e6bac125ce63a5528e0cf7326bc6ddaad067", func := "fulling/fullinglaw4.CheckerLimits", spec := "checkerLimits", inPlace := ["internal/bytealg.IndexByteString"], unfollowed := true, recurses := true, named := ["fulling/lexer.longSymbols", "fulling/parser.binaryOperators", "fulling/checker.statementFields"], apart := false, laid := [("fulling/lexer.longSymbols", laid_fulling_lexer_longSymbols), ("fulling/parser.binaryOperators", laid_fulling_parser_binaryOperators), ("fulling/checker.statementFields", laid_fulling_checker_statementFields)], narrowed := true }
def CheckerLimitsUptoSaid : Prop := checkerLimitsUptoRow.holds Tryz.pinned (OpenSpec.upto checkerLimitsSpec)

/-- 'fullinglaw6.InterpExamples', WHERE WHAT IT READS IS OF BULK AT MOST 1048576: true; the input reads as it did. -/
def interpExamplesUptoRow : OpenClaim := { program := "ytcjolamfjgdgjaagreatdoor", sum := "4d4c7e36390d3e7d450bd971bc08e6bac125ce63a5528e0cf7326bc6ddaad067", func := "fulling/fullinglaw6.InterpExamples", spec := "interpExamples", inPlace := ["internal/bytealg.IndexByteString"], unfollowed := true, recurses := true, named := ["fulling/lexer.longSymbols", "fulling/parser.binaryOperators", "fulling/checker.statementFields"], apart := false, laid := [("fulling/lexer.longSymbols", laid_fulling_lexer_longSymbols), ("fulling/parser.binaryOperators", laid_fulling_parser_binaryOperators), ("fulling/checker.statementFields", laid_fulling_checker_statementFields)], narrowed := true }
def InterpExamplesUptoSaid : Prop := interpExamplesUptoRow.holds Tryz.pinned (OpenSpec.upto interpExamplesSpec)

/-- 'fullinglaw6.InterpTicks', WHERE WHAT IT READS IS OF BULK AT MOST 1048576: true; the input reads as it did. -/
def interpTicksUptoRow : OpenClaim := { program := "ytcjolamfjgdgjaagreatdoor", sum := "4d4c7e36390d3e7d450bd971bc08e6bac125ce63a5528e0cf7326bc6ddaad067", func := "fulling/fullinglaw6.InterpTicks", spec := "interpTicks", inPlace := ["internal/bytealg.IndexByteString"], unfollowed := true, recurses := true, named := ["fulling/lexer.longSymbols", "fulling/parser.binaryOperators", "fulling/checker.statementFields"], apart := false, laid := [("fulling/lexer.longSymbols", laid_fulling_lexer_longSymbols), ("fulling/parser.binaryOperators", laid_fulling_parser_binaryOperators), ("fulling/checker.statementFields", laid_fulling_checker_statementFields)], narrowed := true }
def InterpTicksUptoSaid : Prop := interpTicksUptoRow.holds Tryz.pinned (OpenSpec.upto interpTicksSpec)

/-- 'fullinglaw6.InterpSorts', WHERE WHAT IT READS IS OF BULK AT MOST 1048576: true; the input reads as it did. -/
def interpSortsUptoRow : OpenClaim := { program := "ytcjolamfjgdgjaagreatdoor", sum := "4d4c7e36390d3e7d450bd971bc08e6bac125ce63a5528e0cf7326bc6ddaad067", func := "fulling/fullinglaw6.InterpSorts", spec := "interpSorts", inPlace := ["internal/bytealg.IndexByteString"], unfollowed := true, recurses := true, named := ["fulling/lexer.longSymbols", "fulling/parser.binaryOperators", "fulling/checker.statementFields"], apart := false, laid := [("fulling/lexer.longSymbols", laid_fulling_lexer_longSymbols), ("fulling/parser.binaryOperators", laid_fulling_parser_binaryOperators), ("fulling/checker.statementFields", laid_fulling_checker_statementFields)], narrowed := true }
def InterpSortsUptoSaid : Prop := interpSortsUptoRow.holds Tryz.pinned (OpenSpec.upto interpSortsSpec)

/-- 'fullinglaw6.InterpLaziness', WHERE WHAT IT READS IS OF BULK AT MOST 1048576: true; the input reads as it did. -/
def interpLazinessUptoRow : OpenClaim := { program := "ytcjolamfjgdgjaagreatdoor", sum := "4d4c7e36390d3e7d450bd971bc08e6bac125ce63a5528e0cf7326bc6ddaad067", func := "fulling/fullinglaw6.InterpLaziness", spec := "interpLaziness", inPlace := ["internal/bytealg.IndexByteString"], unfollowed := true, recurses := true, named := ["fulling/lexer.longSymbols", "fulling/parser.binaryOperators", "fulling/checker.statementFields"], apart := false, laid := [("fulling/lexer.longSymbols", laid_fulling_lexer_longSymbols), ("fulling/parser.binaryOperators", laid_fulling_parser_binaryOperators), ("fulling/checker.statementFields", laid_fulling_checker_statementFields)], narrowed := true }
def InterpLazinessUptoSaid : Prop := interpLazinessUptoRow.holds Tryz.pinned (OpenSpec.upto interpLazinessSpec)

/-- 'fullinglaw6.InterpCalls', WHERE WHAT IT READS IS OF BULK AT MOST 1048576: true; the input reads as it did. -/
def interpCallsUptoRow : OpenClaim := { program := "ytcjolamfjgdgjaagreatdoor", sum := "4d4c7e36390d3e7d450bd971bc08e6bac125ce63a5528e0cf7326bc6ddaad067", func := "fulling/fullinglaw6.InterpCalls", spec := "interpCalls", inPlace := ["internal/bytealg.IndexByteString"], unfollowed := true, recurses := true, named := ["fulling/lexer.longSymbols", "fulling/parser.binaryOperators", "fulling/checker.statementFields"], apart := false, laid := [("fulling/lexer.longSymbols", laid_fulling_lexer_longSymbols), ("fulling/parser.binaryOperators", laid_fulling_parser_binaryOperators), ("fulling/checker.statementFields", laid_fulling_checker_statementFields)], narrowed := true }
def InterpCallsUptoSaid : Prop := interpCallsUptoRow.holds Tryz.pinned (OpenSpec.upto interpCallsSpec)

/-- 'fullinglaw6.InterpTraps', WHERE WHAT IT READS IS OF BULK AT MOST 1048576: true; the input reads as it did. -/
def interpTrapsUptoRow : OpenClaim := { program := "ytcjolamfjgdgjaagreatdoor", sum := "4d4c7e36390d3e7d450bd971bc08e6bac125ce63a5528e0cf7326bc6ddaad067", func := "fulling/fullinglaw6.InterpTraps", spec := "interpTraps", inPlace := ["internal/bytealg.IndexByteString"], unfollowed := true, recurses := true, named := ["fulling/lexer.longSymbols", "fulling/parser.binaryOperators", "fulling/checker.statementFields"], apart := false, laid := [("fulling/lexer.longSymbols", laid_fulling_lexer_longSymbols), ("fulling/parser.binaryOperators", laid_fulling_parser_binaryOperators), ("fulling/checker.statementFields", laid_fulling_checker_statementFields)], narrowed := true }
def InterpTrapsUptoSaid : Prop := interpTrapsUptoRow.holds Tryz.pinned (OpenSpec.upto interpTrapsSpec)

end Rows
end Go.Proofs.YtcjolamfjgdgjaaGreatDoor
