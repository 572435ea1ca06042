/-
  DERIVED. GIVEN WITH THE SEED: THE CARDS: each row of YtcfjolmeenneeaaDoorRows.lean that lists a variable, with what it lists TIED to the program's text (the seventh form; the later family's looks); each row that meets fmt, with fmt's text TOLD by the authors' own Lean function (tested against real Go, not proved from fmt's source: count such statements apart). THE CARD IS WHAT COUNTS. Prove the row's statement (the work); the ties are given (YtcfjolmeenneeaaDoorTie.lean); close each card by the builder's one call (the guide's Derived/Test/ToyasCard.lean, 'card_holds'). Laid BY PROGRAM, IN A SANDBOX (cutbox-door.mjs). By AI agents, Wed Nov 11 2026. No macro, syntax, notation, axiom, sorry.
-/
import Derived.Test.YtcfjolmeenneeaaDoorRows
import GoSem.ClaimSeven
namespace Go.Proofs.YtcfjolmeenneeaaDoor
namespace Rows

/-- THE TIED CARD OF 'fullinglaw2.LexerExamples'. -/
def lexerExamplesCard : Claim7 := { stood := { row := lexerExamplesRow, standIns := [], harness := (true, "2acfb810bdae6119974ae8da3fd4f85d6f3851c9ee94ee03bef088f077e9b4d3"), looks := false }, kinds := [], alts := [], laidByText := true, laidKinds := [.data], laidTests := true, laidLooks := .later }
def LexerExamplesCardSaid : Prop := Claim7.holds Tryd.pinned (.plain (OpenSpec.ofChange lexerExamplesSpec)) lexerExamplesCard

/-- THE TIED CARD OF 'fullinglaw2.LexerReference'. -/
def lexerReferenceCard : Claim7 := { stood := { row := lexerReferenceRow, standIns := [], harness := (true, "2acfb810bdae6119974ae8da3fd4f85d6f3851c9ee94ee03bef088f077e9b4d3"), looks := false }, kinds := [], alts := [], laidByText := true, laidKinds := [.data], laidTests := true, laidLooks := .later }
def LexerReferenceCardSaid : Prop := Claim7.holds Tryd.pinned (.plain (OpenSpec.ofChange lexerReferenceSpec)) lexerReferenceCard

/-- THE TIED CARD OF 'fullinglaw2.LexerOffsets'. -/
def lexerOffsetsCard : Claim7 := { stood := { row := lexerOffsetsRow, standIns := [], harness := (true, "2acfb810bdae6119974ae8da3fd4f85d6f3851c9ee94ee03bef088f077e9b4d3"), looks := false }, kinds := [], alts := [], laidByText := true, laidKinds := [.data], laidTests := true, laidLooks := .later }
def LexerOffsetsCardSaid : Prop := Claim7.holds Tryd.pinned (.plain (OpenSpec.ofChange lexerOffsetsSpec)) lexerOffsetsCard

/-- THE TIED CARD OF 'fullinglaw2.LexerRespaced'. -/
def lexerRespacedCard : Claim7 := { stood := { row := lexerRespacedRow, standIns := [], harness := (true, "2acfb810bdae6119974ae8da3fd4f85d6f3851c9ee94ee03bef088f077e9b4d3"), looks := false }, kinds := [], alts := [], laidByText := true, laidKinds := [.data], laidTests := true, laidLooks := .later }
def LexerRespacedCardSaid : Prop := Claim7.holds Tryd.pinned (.plain (OpenSpec.ofChange lexerRespacedSpec)) lexerRespacedCard

/-- THE TIED CARD OF 'fullinglaw2.LexerConcatenation'. -/
def lexerConcatenationCard : Claim7 := { stood := { row := lexerConcatenationRow, standIns := [], harness := (true, "2acfb810bdae6119974ae8da3fd4f85d6f3851c9ee94ee03bef088f077e9b4d3"), looks := false }, kinds := [], alts := [], laidByText := true, laidKinds := [.data], laidTests := true, laidLooks := .later }
def LexerConcatenationCardSaid : Prop := Claim7.holds Tryd.pinned (.plain (OpenSpec.ofChange lexerConcatenationSpec)) lexerConcatenationCard

/-- THE TIED CARD OF 'fullinglaw2.LexerNames'. -/
def lexerNamesCard : Claim7 := { stood := { row := lexerNamesRow, standIns := [], harness := (true, "2acfb810bdae6119974ae8da3fd4f85d6f3851c9ee94ee03bef088f077e9b4d3"), looks := false }, kinds := [], alts := [], laidByText := true, laidKinds := [.data], laidTests := true, laidLooks := .later }
def LexerNamesCardSaid : Prop := Claim7.holds Tryd.pinned (.plain (OpenSpec.ofChange lexerNamesSpec)) lexerNamesCard

/-- THE SECOND FORM's CARD OF 'fullinglaw2.LexerExamples'. -/
def lexerExamplesUptoCard : Claim7 := { stood := { row := lexerExamplesUptoRow, standIns := [], harness := (true, "2acfb810bdae6119974ae8da3fd4f85d6f3851c9ee94ee03bef088f077e9b4d3"), looks := false }, kinds := [], alts := [], laidByText := true, laidKinds := [.data], laidTests := true, laidLooks := .later }
def LexerExamplesUptoCardSaid : Prop := Claim7.holds Tryd.pinned (.plain (OpenSpec.upto lexerExamplesSpec)) lexerExamplesUptoCard

/-- THE SECOND FORM's CARD OF 'fullinglaw2.LexerReference'. -/
def lexerReferenceUptoCard : Claim7 := { stood := { row := lexerReferenceUptoRow, standIns := [], harness := (true, "2acfb810bdae6119974ae8da3fd4f85d6f3851c9ee94ee03bef088f077e9b4d3"), looks := false }, kinds := [], alts := [], laidByText := true, laidKinds := [.data], laidTests := true, laidLooks := .later }
def LexerReferenceUptoCardSaid : Prop := Claim7.holds Tryd.pinned (.plain (OpenSpec.upto lexerReferenceSpec)) lexerReferenceUptoCard

/-- THE SECOND FORM's CARD OF 'fullinglaw2.LexerOffsets'. -/
def lexerOffsetsUptoCard : Claim7 := { stood := { row := lexerOffsetsUptoRow, standIns := [], harness := (true, "2acfb810bdae6119974ae8da3fd4f85d6f3851c9ee94ee03bef088f077e9b4d3"), looks := false }, kinds := [], alts := [], laidByText := true, laidKinds := [.data], laidTests := true, laidLooks := .later }
def LexerOffsetsUptoCardSaid : Prop := Claim7.holds Tryd.pinned (.plain (OpenSpec.upto lexerOffsetsSpec)) lexerOffsetsUptoCard

/-- THE SECOND FORM's CARD OF 'fullinglaw2.LexerRespaced'. -/
def lexerRespacedUptoCard : Claim7 := { stood := { row := lexerRespacedUptoRow, standIns := [], harness := (true, "2acfb810bdae6119974ae8da3fd4f85d6f3851c9ee94ee03bef088f077e9b4d3"), looks := false }, kinds := [], alts := [], laidByText := true, laidKinds := [.data], laidTests := true, laidLooks := .later }
def LexerRespacedUptoCardSaid : Prop := Claim7.holds Tryd.pinned (.plain (OpenSpec.upto lexerRespacedSpec)) lexerRespacedUptoCard

/-- THE SECOND FORM's CARD OF 'fullinglaw2.LexerConcatenation'. -/
def lexerConcatenationUptoCard : Claim7 := { stood := { row := lexerConcatenationUptoRow, standIns := [], harness := (true, "2acfb810bdae6119974ae8da3fd4f85d6f3851c9ee94ee03bef088f077e9b4d3"), looks := false }, kinds := [], alts := [], laidByText := true, laidKinds := [.data], laidTests := true, laidLooks := .later }
def LexerConcatenationUptoCardSaid : Prop := Claim7.holds Tryd.pinned (.plain (OpenSpec.upto lexerConcatenationSpec)) lexerConcatenationUptoCard

/-- THE SECOND FORM's CARD OF 'fullinglaw2.LexerNames'. -/
def lexerNamesUptoCard : Claim7 := { stood := { row := lexerNamesUptoRow, standIns := [], harness := (true, "2acfb810bdae6119974ae8da3fd4f85d6f3851c9ee94ee03bef088f077e9b4d3"), looks := false }, kinds := [], alts := [], laidByText := true, laidKinds := [.data], laidTests := true, laidLooks := .later }
def LexerNamesUptoCardSaid : Prop := Claim7.holds Tryd.pinned (.plain (OpenSpec.upto lexerNamesSpec)) lexerNamesUptoCard
end Rows
end Go.Proofs.YtcfjolmeenneeaaDoor
