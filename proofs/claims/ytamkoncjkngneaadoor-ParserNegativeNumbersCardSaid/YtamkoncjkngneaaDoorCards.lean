/-
  DERIVED. GIVEN WITH THE SEED: THE CARDS: each row of YtamkoncjkngneaaDoorRows.lean that lists a variable, with what it lists TIED to the program's text (the seventh form; the later family's looks); each row that meets fmt, with fmt's text TOLD by the authors' own Lean function (tested against real Go, not proved from fmt's source: count such statements apart). THE CARD IS WHAT COUNTS. Prove the row's statement (the work); the ties are given (YtamkoncjkngneaaDoorTie.lean); close each card by the builder's one call (the guide's Derived/Test/ToyasCard.lean, 'card_holds'). Laid BY PROGRAM, IN A SANDBOX (cutbox-door.mjs). By AI agents, Wed Nov 11 2026. No macro, syntax, notation, axiom, sorry.
-/
import Derived.Test.YtamkoncjkngneaaDoorRows
import GoSem.ClaimSeven
namespace Go.Proofs.YtamkoncjkngneaaDoor
namespace Rows

/-- THE TIED CARD OF 'fullinglaw2.LexerReference'. -/
def lexerReferenceCard : Claim7 := { stood := { row := lexerReferenceRow, standIns := [], harness := (true, "f6ed29f24d449fb4ff0c8d7e2bf9096ffc298b807218ae1691b79ae208ecb43d"), looks := false }, kinds := [], alts := [], laidByText := true, laidKinds := [.data], laidTests := true, laidLooks := .later }
def LexerReferenceCardSaid : Prop := Claim7.holds Tryd.pinned (.plain (OpenSpec.ofChange lexerReferenceSpec)) lexerReferenceCard

/-- THE TIED CARD OF 'fullinglaw3.ParserExamples'. -/
def parserExamplesCard : Claim7 := { stood := { row := parserExamplesRow, standIns := [], harness := (true, "f6ed29f24d449fb4ff0c8d7e2bf9096ffc298b807218ae1691b79ae208ecb43d"), looks := false }, kinds := [], alts := [], laidByText := true, laidKinds := [.data, .data], laidTests := true, laidLooks := .later }
def ParserExamplesCardSaid : Prop := Claim7.holds Tryd.pinned (.plain (OpenSpec.ofChange parserExamplesSpec)) parserExamplesCard

/-- THE TIED CARD OF 'fullinglaw3.ParserExpressions'. -/
def parserExpressionsCard : Claim7 := { stood := { row := parserExpressionsRow, standIns := [], harness := (true, "f6ed29f24d449fb4ff0c8d7e2bf9096ffc298b807218ae1691b79ae208ecb43d"), looks := false }, kinds := [], alts := [], laidByText := true, laidKinds := [.data, .data], laidTests := true, laidLooks := .later }
def ParserExpressionsCardSaid : Prop := Claim7.holds Tryd.pinned (.plain (OpenSpec.ofChange parserExpressionsSpec)) parserExpressionsCard

/-- THE TIED CARD OF 'fullinglaw3.ParserPrecedence'. -/
def parserPrecedenceCard : Claim7 := { stood := { row := parserPrecedenceRow, standIns := [], harness := (true, "f6ed29f24d449fb4ff0c8d7e2bf9096ffc298b807218ae1691b79ae208ecb43d"), looks := false }, kinds := [], alts := [], laidByText := true, laidKinds := [.data, .data], laidTests := true, laidLooks := .later }
def ParserPrecedenceCardSaid : Prop := Claim7.holds Tryd.pinned (.plain (OpenSpec.ofChange parserPrecedenceSpec)) parserPrecedenceCard

/-- THE TIED CARD OF 'fullinglaw3.ParserTruncated'. -/
def parserTruncatedCard : Claim7 := { stood := { row := parserTruncatedRow, standIns := [], harness := (true, "f6ed29f24d449fb4ff0c8d7e2bf9096ffc298b807218ae1691b79ae208ecb43d"), looks := false }, kinds := [], alts := [], laidByText := true, laidKinds := [.data, .data], laidTests := true, laidLooks := .later }
def ParserTruncatedCardSaid : Prop := Claim7.holds Tryd.pinned (.plain (OpenSpec.ofChange parserTruncatedSpec)) parserTruncatedCard

/-- THE TIED CARD OF 'fullinglaw3.ParserNegativeNumbers'. -/
def parserNegativeNumbersCard : Claim7 := { stood := { row := parserNegativeNumbersRow, standIns := [], harness := (true, "f6ed29f24d449fb4ff0c8d7e2bf9096ffc298b807218ae1691b79ae208ecb43d"), looks := false }, kinds := [], alts := [], laidByText := true, laidKinds := [.data, .data], laidTests := true, laidLooks := .later }
def ParserNegativeNumbersCardSaid : Prop := Claim7.holds Tryd.pinned (.plain (OpenSpec.ofChange parserNegativeNumbersSpec)) parserNegativeNumbersCard

/-- THE SECOND FORM's CARD OF 'fullinglaw2.LexerReference'. -/
def lexerReferenceUptoCard : Claim7 := { stood := { row := lexerReferenceUptoRow, standIns := [], harness := (true, "f6ed29f24d449fb4ff0c8d7e2bf9096ffc298b807218ae1691b79ae208ecb43d"), looks := false }, kinds := [], alts := [], laidByText := true, laidKinds := [.data], laidTests := true, laidLooks := .later }
def LexerReferenceUptoCardSaid : Prop := Claim7.holds Tryd.pinned (.plain (OpenSpec.upto lexerReferenceSpec)) lexerReferenceUptoCard

/-- THE SECOND FORM's CARD OF 'fullinglaw3.ParserExamples'. -/
def parserExamplesUptoCard : Claim7 := { stood := { row := parserExamplesUptoRow, standIns := [], harness := (true, "f6ed29f24d449fb4ff0c8d7e2bf9096ffc298b807218ae1691b79ae208ecb43d"), looks := false }, kinds := [], alts := [], laidByText := true, laidKinds := [.data, .data], laidTests := true, laidLooks := .later }
def ParserExamplesUptoCardSaid : Prop := Claim7.holds Tryd.pinned (.plain (OpenSpec.upto parserExamplesSpec)) parserExamplesUptoCard

/-- THE SECOND FORM's CARD OF 'fullinglaw3.ParserExpressions'. -/
def parserExpressionsUptoCard : Claim7 := { stood := { row := parserExpressionsUptoRow, standIns := [], harness := (true, "f6ed29f24d449fb4ff0c8d7e2bf9096ffc298b807218ae1691b79ae208ecb43d"), looks := false }, kinds := [], alts := [], laidByText := true, laidKinds := [.data, .data], laidTests := true, laidLooks := .later }
def ParserExpressionsUptoCardSaid : Prop := Claim7.holds Tryd.pinned (.plain (OpenSpec.upto parserExpressionsSpec)) parserExpressionsUptoCard

/-- THE SECOND FORM's CARD OF 'fullinglaw3.ParserPrecedence'. -/
def parserPrecedenceUptoCard : Claim7 := { stood := { row := parserPrecedenceUptoRow, standIns := [], harness := (true, "f6ed29f24d449fb4ff0c8d7e2bf9096ffc298b807218ae1691b79ae208ecb43d"), looks := false }, kinds := [], alts := [], laidByText := true, laidKinds := [.data, .data], laidTests := true, laidLooks := .later }
def ParserPrecedenceUptoCardSaid : Prop := Claim7.holds Tryd.pinned (.plain (OpenSpec.upto parserPrecedenceSpec)) parserPrecedenceUptoCard

/-- THE SECOND FORM's CARD OF 'fullinglaw3.ParserTruncated'. -/
def parserTruncatedUptoCard : Claim7 := { stood := { row := parserTruncatedUptoRow, standIns := [], harness := (true, "f6ed29f24d449fb4ff0c8d7e2bf9096ffc298b807218ae1691b79ae208ecb43d"), looks := false }, kinds := [], alts := [], laidByText := true, laidKinds := [.data, .data], laidTests := true, laidLooks := .later }
def ParserTruncatedUptoCardSaid : Prop := Claim7.holds Tryd.pinned (.plain (OpenSpec.upto parserTruncatedSpec)) parserTruncatedUptoCard

/-- THE SECOND FORM's CARD OF 'fullinglaw3.ParserNegativeNumbers'. -/
def parserNegativeNumbersUptoCard : Claim7 := { stood := { row := parserNegativeNumbersUptoRow, standIns := [], harness := (true, "f6ed29f24d449fb4ff0c8d7e2bf9096ffc298b807218ae1691b79ae208ecb43d"), looks := false }, kinds := [], alts := [], laidByText := true, laidKinds := [.data, .data], laidTests := true, laidLooks := .later }
def ParserNegativeNumbersUptoCardSaid : Prop := Claim7.holds Tryd.pinned (.plain (OpenSpec.upto parserNegativeNumbersSpec)) parserNegativeNumbersUptoCard
end Rows
end Go.Proofs.YtamkoncjkngneaaDoor
