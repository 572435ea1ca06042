/-
  DERIVED. GIVEN WITH THE SEED: THE CARDS: each row of YtpkchglfgkkcbaaDoorRows.lean that lists a variable, with what it lists TIED to the program's text (the seventh form; the later family's looks); each row that meets fmt, with fmt's text TOLD by the authors' own Lean function (tested against real Go, not proved from fmt's source: count such statements apart). THE CARD IS WHAT COUNTS. Prove the row's statement (the work); the ties are given (YtpkchglfgkkcbaaDoorTie.lean); close each card by the builder's one call (the guide's Derived/Test/ToyasCard.lean, 'card_holds'). Laid BY PROGRAM, IN A SANDBOX (cutbox-door.mjs). By AI agents, Wed Nov 11 2026. No macro, syntax, notation, axiom, sorry.
-/
import Derived.Test.YtpkchglfgkkcbaaDoorRows
import GoSem.ClaimSeven
namespace Go.Proofs.YtpkchglfgkkcbaaDoor
namespace Rows

/-- THE TIED CARD OF 'fullinglaw2.LexerReference'. -/
def lexerReferenceCard : Claim7 := { stood := { row := lexerReferenceRow, standIns := [], harness := (true, "f076830a44297857895433be89755725edf3b99147945c93c4e6d29663d089f2"), looks := false }, kinds := [], alts := [], laidByText := true, laidKinds := [.data], laidTests := true, laidLooks := .later }
def LexerReferenceCardSaid : Prop := Claim7.holds Tryd.pinned (.plain (OpenSpec.ofChange lexerReferenceSpec)) lexerReferenceCard

/-- THE TIED CARD OF 'fullinglaw3.ParserExpressions'. -/
def parserExpressionsCard : Claim7 := { stood := { row := parserExpressionsRow, standIns := [], harness := (true, "f076830a44297857895433be89755725edf3b99147945c93c4e6d29663d089f2"), looks := false }, kinds := [], alts := [], laidByText := true, laidKinds := [.data, .data], laidTests := true, laidLooks := .later }
def ParserExpressionsCardSaid : Prop := Claim7.holds Tryd.pinned (.plain (OpenSpec.ofChange parserExpressionsSpec)) parserExpressionsCard

/-- THE TIED CARD OF 'fullinglaw3.ParserTruncated'. -/
def parserTruncatedCard : Claim7 := { stood := { row := parserTruncatedRow, standIns := [], harness := (true, "f076830a44297857895433be89755725edf3b99147945c93c4e6d29663d089f2"), looks := false }, kinds := [], alts := [], laidByText := true, laidKinds := [.data, .data], laidTests := true, laidLooks := .later }
def ParserTruncatedCardSaid : Prop := Claim7.holds Tryd.pinned (.plain (OpenSpec.ofChange parserTruncatedSpec)) parserTruncatedCard

/-- THE SECOND FORM's CARD OF 'fullinglaw2.LexerReference'. -/
def lexerReferenceUptoCard : Claim7 := { stood := { row := lexerReferenceUptoRow, standIns := [], harness := (true, "f076830a44297857895433be89755725edf3b99147945c93c4e6d29663d089f2"), looks := false }, kinds := [], alts := [], laidByText := true, laidKinds := [.data], laidTests := true, laidLooks := .later }
def LexerReferenceUptoCardSaid : Prop := Claim7.holds Tryd.pinned (.plain (OpenSpec.upto lexerReferenceSpec)) lexerReferenceUptoCard

/-- THE SECOND FORM's CARD OF 'fullinglaw3.ParserExpressions'. -/
def parserExpressionsUptoCard : Claim7 := { stood := { row := parserExpressionsUptoRow, standIns := [], harness := (true, "f076830a44297857895433be89755725edf3b99147945c93c4e6d29663d089f2"), looks := false }, kinds := [], alts := [], laidByText := true, laidKinds := [.data, .data], laidTests := true, laidLooks := .later }
def ParserExpressionsUptoCardSaid : Prop := Claim7.holds Tryd.pinned (.plain (OpenSpec.upto parserExpressionsSpec)) parserExpressionsUptoCard

/-- THE SECOND FORM's CARD OF 'fullinglaw3.ParserTruncated'. -/
def parserTruncatedUptoCard : Claim7 := { stood := { row := parserTruncatedUptoRow, standIns := [], harness := (true, "f076830a44297857895433be89755725edf3b99147945c93c4e6d29663d089f2"), looks := false }, kinds := [], alts := [], laidByText := true, laidKinds := [.data, .data], laidTests := true, laidLooks := .later }
def ParserTruncatedUptoCardSaid : Prop := Claim7.holds Tryd.pinned (.plain (OpenSpec.upto parserTruncatedSpec)) parserTruncatedUptoCard
end Rows
end Go.Proofs.YtpkchglfgkkcbaaDoor
