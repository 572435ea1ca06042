/-
  NARROWER THAN 'FOR EVERY INPUT', by the rows' own cells (each row's printed sentence says how): LexerReference: laid · ParserExpressions: laid · ParserTruncated: laid.
  DERIVED. THE GIVEN ROWS OF THIS SEAT. 3 by the template 'for every input the law returns true; each argument reads behind the call as it read before'; 0 by the template 'total and deterministic' (their statements: YtpkchglfgkkcbaaDoorTotals.lean).
  GIVEN WITH THE SEED: the statements are not yours to turn. If you find one false, say at which input.
  Laid BY PROGRAM, IN A SANDBOX (cutbox-rows.mjs): the forced cells as the released guide's own fill.sh prints them over the translation efeebfe56362238f… (all of the seat's roots in one cut). By AI agents, Wed Nov 11 2026. No macro, syntax, notation, axiom, sorry.
-/
import Derived.Test.YtpkchglfgkkcbaaDoorChecked
import GoSem.Claim
import GoSem.ClaimJoined
import GoSem.ClaimMapViews
import Derived.JoinedTies
import Derived.KernelRfl
namespace Go.Proofs.YtpkchglfgkkcbaaDoor
/- THE CELL 'sum', in the pinned program and in every row, IS THE sha256 OF THE DUMP (.gsa) THAT YtpkchglfgkkcbaaDoorProg.lean LOADS. Nothing in Lean hashes anything: it is a label: what it is worth is what the hold of that sum in a sandbox is worth. -/
noncomputable def Tryd.pinned : Pinned := { name := "ytpkchglfgkkcbaadoor", sum := "efeebfe56362238fd21cd47a5226762c5f4085a39df0d4161ef6ef2739ed55a8", checked := Tryd.checked }
namespace Rows
def none {H : Type} : Left H := { results := [], args := [] }

/- WHAT THE LISTED PACKAGE-LEVEL VARIABLES READ AS WHEN THE CALL BEGINS. Each datum BY PROGRAM (the guide's laid-datum.mjs) off the statement by which the dump's own 'gosem.cut.vars' lays the variable. In a bare row this is a premise. The card (YtpkchglfgkkcbaaDoorCards.lean) ties it to the program's text. -/
def laid_fulling_lexer_longSymbols {H : Type} : DataW H := .agg [.lit (.string [62, 62, 62]), .lit (.string [60, 60]), .lit (.string [62, 62]), .lit (.string [60, 61]), .lit (.string [62, 61]), .lit (.string [61, 61]), .lit (.string [33, 61])]
def laid_fulling_parser_binaryOperators {H : Type} : DataW H := .agg [.agg [.lit (.string [124]), .lit (.int .i64 1), .lit (.int .i64 10), .lit (.bool false)], .agg [.lit (.string [94]), .lit (.int .i64 2), .lit (.int .i64 11), .lit (.bool false)], .agg [.lit (.string [38]), .lit (.int .i64 3), .lit (.int .i64 9), .lit (.bool false)], .agg [.lit (.string [61, 61]), .lit (.int .i64 4), .lit (.int .i64 15), .lit (.bool false)], .agg [.lit (.string [33, 61]), .lit (.int .i64 4), .lit (.int .i64 16), .lit (.bool false)], .agg [.lit (.string [60]), .lit (.int .i64 5), .lit (.int .i64 17), .lit (.bool false)], .agg [.lit (.string [60, 61]), .lit (.int .i64 5), .lit (.int .i64 18), .lit (.bool false)], .agg [.lit (.string [62]), .lit (.int .i64 5), .lit (.int .i64 17), .lit (.bool true)], .agg [.lit (.string [62, 61]), .lit (.int .i64 5), .lit (.int .i64 18), .lit (.bool true)], .agg [.lit (.string [60, 60]), .lit (.int .i64 6), .lit (.int .i64 12), .lit (.bool false)], .agg [.lit (.string [62, 62]), .lit (.int .i64 6), .lit (.int .i64 14), .lit (.bool false)], .agg [.lit (.string [62, 62, 62]), .lit (.int .i64 6), .lit (.int .i64 13), .lit (.bool false)], .agg [.lit (.string [43]), .lit (.int .i64 7), .lit (.int .i64 4), .lit (.bool false)], .agg [.lit (.string [45]), .lit (.int .i64 7), .lit (.int .i64 5), .lit (.bool false)], .agg [.lit (.string [42]), .lit (.int .i64 8), .lit (.int .i64 6), .lit (.bool false)], .agg [.lit (.string [47]), .lit (.int .i64 8), .lit (.int .i64 7), .lit (.bool false)], .agg [.lit (.string [37]), .lit (.int .i64 8), .lit (.int .i64 8), .lit (.bool false)]]

/-- 'fullinglaw2.LexerReference': WHATEVER THE INPUT: true; the input reads as it did. -/
def lexerReferenceSpec : ChangeSpec := { name := "lexerReference", fn := fun _ => fun
  | [d1, d2, d3, d4] => { results := [.lit (.bool true)], args := [d1, d2, d3, d4] }
  | _ => none }
def lexerReferenceRow : OpenClaim := { program := "ytpkchglfgkkcbaadoor", sum := "efeebfe56362238fd21cd47a5226762c5f4085a39df0d4161ef6ef2739ed55a8", func := "fulling/fullinglaw2.LexerReference", spec := "lexerReference", inPlace := ["internal/bytealg.IndexByteString"], recurses := true, named := ["fulling/lexer.longSymbols"], apart := false, laid := [("fulling/lexer.longSymbols", laid_fulling_lexer_longSymbols)] }
def LexerReferenceSaid : Prop := lexerReferenceRow.holds Tryd.pinned (OpenSpec.ofChange lexerReferenceSpec)

/-- ITS FALSE NEIGHBOUR: 'it returns false'. Refute it at one input. -/
def lexerReferenceWrong : ChangeSpec := { name := "lexerReference", fn := fun _ => fun
  | [d1, d2, d3, d4] => { results := [.lit (.bool false)], args := [d1, d2, d3, d4] }
  | _ => none }
def LexerReferenceWrongFalsely : Prop := lexerReferenceRow.holds Tryd.pinned (OpenSpec.ofChange lexerReferenceWrong)

/-- 'fullinglaw3.ParserExpressions': WHATEVER THE INPUT: true; the input reads as it did. -/
def parserExpressionsSpec : ChangeSpec := { name := "parserExpressions", fn := fun _ => fun
  | [d] => { results := [.lit (.bool true)], args := [d] }
  | _ => none }
def parserExpressionsRow : OpenClaim := { program := "ytpkchglfgkkcbaadoor", sum := "efeebfe56362238fd21cd47a5226762c5f4085a39df0d4161ef6ef2739ed55a8", func := "fulling/fullinglaw3.ParserExpressions", spec := "parserExpressions", inPlace := ["internal/bytealg.IndexByteString"], unfollowed := true, recurses := true, named := ["fulling/lexer.longSymbols", "fulling/parser.binaryOperators"], apart := false, laid := [("fulling/lexer.longSymbols", laid_fulling_lexer_longSymbols), ("fulling/parser.binaryOperators", laid_fulling_parser_binaryOperators)] }
def ParserExpressionsSaid : Prop := parserExpressionsRow.holds Tryd.pinned (OpenSpec.ofChange parserExpressionsSpec)

/-- ITS FALSE NEIGHBOUR: 'it returns false'. Refute it at one input. -/
def parserExpressionsWrong : ChangeSpec := { name := "parserExpressions", fn := fun _ => fun
  | [d] => { results := [.lit (.bool false)], args := [d] }
  | _ => none }
def ParserExpressionsWrongFalsely : Prop := parserExpressionsRow.holds Tryd.pinned (OpenSpec.ofChange parserExpressionsWrong)

/-- 'fullinglaw3.ParserTruncated': WHATEVER THE INPUT: true; the input reads as it did. -/
def parserTruncatedSpec : ChangeSpec := { name := "parserTruncated", fn := fun _ => fun
  | [d1, d2] => { results := [.lit (.bool true)], args := [d1, d2] }
  | _ => none }
def parserTruncatedRow : OpenClaim := { program := "ytpkchglfgkkcbaadoor", sum := "efeebfe56362238fd21cd47a5226762c5f4085a39df0d4161ef6ef2739ed55a8", func := "fulling/fullinglaw3.ParserTruncated", spec := "parserTruncated", inPlace := ["internal/bytealg.IndexByteString"], unfollowed := true, recurses := true, named := ["fulling/lexer.longSymbols", "fulling/parser.binaryOperators"], apart := false, laid := [("fulling/lexer.longSymbols", laid_fulling_lexer_longSymbols), ("fulling/parser.binaryOperators", laid_fulling_parser_binaryOperators)] }
def ParserTruncatedSaid : Prop := parserTruncatedRow.holds Tryd.pinned (OpenSpec.ofChange parserTruncatedSpec)

/-- ITS FALSE NEIGHBOUR: 'it returns false'. Refute it at one input. -/
def parserTruncatedWrong : ChangeSpec := { name := "parserTruncated", fn := fun _ => fun
  | [d1, d2] => { results := [.lit (.bool false)], args := [d1, d2] }
  | _ => none }
def ParserTruncatedWrongFalsely : Prop := parserTruncatedRow.holds Tryd.pinned (OpenSpec.ofChange parserTruncatedWrong)

/- THE SECOND FORM. 'bulk': how many values and letters a reading holds, each counted each time it is reached (what is shared counts as often as it is met; a slice's spare places count too). A statement '..UptoSaid' is the law's where the arguments, and the package variables that the reading takes, are together of bulk at most 1048576: NARROWER than '..Said'. Prove '..Said' where nothing that the law and all that it calls make is longer than what came in: it says more and counts as full. Else prove '..UptoSaid'. A law counts once. -/
mutual
def uptoBulk {H : Type} : DataW H → Nat
  | .lit (.string bytes) => bytes.length + 1
  | .lit _ => 1
  | .nil => 1
  | .ptr d => uptoBulk d + 1
  | .slice elems spare => uptoBulkAll elems + uptoBulkAll spare + 1
  | .agg parts => uptoBulkAll parts + 1
  | .iface _ d => uptoBulk d + 1
  | .map entries => uptoBulkEntries entries + 1
  | .held _ => 1
def uptoBulkAll {H : Type} : List (DataW H) → Nat
  | [] => 0
  | d :: r => uptoBulk d + uptoBulkAll r
def uptoBulkEntries {H : Type} : List (Lit × DataW H) → Nat
  | [] => 0
  | x :: r => uptoBulkEntry x + uptoBulkEntries r
def uptoBulkEntry {H : Type} : Lit × DataW H → Nat
  | (.string bytes, d) => bytes.length + uptoBulk d + 1
  | (_, d) => uptoBulk d + 1
 end
def uptoSmall : (H : Type) → List (DataW H) → Bool := fun _ ds => decide (uptoBulkAll ds ≤ 1048576)
def OpenSpec.upto (s : _root_.Go.ChangeSpec) : _root_.Go.OpenSpec := { _root_.Go.OpenSpec.ofChange s with cond := some uptoSmall }

/-- 'fullinglaw2.LexerReference', WHERE WHAT IT READS IS OF BULK AT MOST 1048576: true; the input reads as it did. -/
def lexerReferenceUptoRow : OpenClaim := { program := "ytpkchglfgkkcbaadoor", sum := "efeebfe56362238fd21cd47a5226762c5f4085a39df0d4161ef6ef2739ed55a8", func := "fulling/fullinglaw2.LexerReference", spec := "lexerReference", inPlace := ["internal/bytealg.IndexByteString"], recurses := true, named := ["fulling/lexer.longSymbols"], apart := false, laid := [("fulling/lexer.longSymbols", laid_fulling_lexer_longSymbols)], narrowed := true }
def LexerReferenceUptoSaid : Prop := lexerReferenceUptoRow.holds Tryd.pinned (OpenSpec.upto lexerReferenceSpec)

/-- 'fullinglaw3.ParserExpressions', WHERE WHAT IT READS IS OF BULK AT MOST 1048576: true; the input reads as it did. -/
def parserExpressionsUptoRow : OpenClaim := { program := "ytpkchglfgkkcbaadoor", sum := "efeebfe56362238fd21cd47a5226762c5f4085a39df0d4161ef6ef2739ed55a8", func := "fulling/fullinglaw3.ParserExpressions", spec := "parserExpressions", inPlace := ["internal/bytealg.IndexByteString"], unfollowed := true, recurses := true, named := ["fulling/lexer.longSymbols", "fulling/parser.binaryOperators"], apart := false, laid := [("fulling/lexer.longSymbols", laid_fulling_lexer_longSymbols), ("fulling/parser.binaryOperators", laid_fulling_parser_binaryOperators)], narrowed := true }
def ParserExpressionsUptoSaid : Prop := parserExpressionsUptoRow.holds Tryd.pinned (OpenSpec.upto parserExpressionsSpec)

/-- 'fullinglaw3.ParserTruncated', WHERE WHAT IT READS IS OF BULK AT MOST 1048576: true; the input reads as it did. -/
def parserTruncatedUptoRow : OpenClaim := { program := "ytpkchglfgkkcbaadoor", sum := "efeebfe56362238fd21cd47a5226762c5f4085a39df0d4161ef6ef2739ed55a8", func := "fulling/fullinglaw3.ParserTruncated", spec := "parserTruncated", inPlace := ["internal/bytealg.IndexByteString"], unfollowed := true, recurses := true, named := ["fulling/lexer.longSymbols", "fulling/parser.binaryOperators"], apart := false, laid := [("fulling/lexer.longSymbols", laid_fulling_lexer_longSymbols), ("fulling/parser.binaryOperators", laid_fulling_parser_binaryOperators)], narrowed := true }
def ParserTruncatedUptoSaid : Prop := parserTruncatedUptoRow.holds Tryd.pinned (OpenSpec.upto parserTruncatedSpec)

end Rows
end Go.Proofs.YtpkchglfgkkcbaaDoor
