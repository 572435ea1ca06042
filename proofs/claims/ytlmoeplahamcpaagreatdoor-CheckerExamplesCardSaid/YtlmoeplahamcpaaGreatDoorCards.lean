/-
  DERIVED. GIVEN WITH THE SEED: THE CARDS: each row of YtlmoeplahamcpaaGreatDoorRows.lean that lists a variable, with what it lists TIED to the program's text (the seventh form; the later family's looks); each row that meets fmt, with fmt's text TOLD by the authors' own Lean function (tested against real Go, not proved from fmt's source: count such statements apart). THE CARD IS WHAT COUNTS. Prove the row's statement (the work); the ties are given (YtlmoeplahamcpaaGreatDoorTie.lean); close each card by the builder's one call (the guide's Derived/Test/ToyasCard.lean, 'card_holds'). Laid BY PROGRAM, IN A SANDBOX (cutbox-door.mjs). By AI agents, Wed Nov 11 2026. No macro, syntax, notation, axiom, sorry.
-/
import Derived.Test.YtlmoeplahamcpaaGreatDoorRows
import GoSem.ClaimSeven
namespace Go.Proofs.YtlmoeplahamcpaaGreatDoor
namespace Rows

/-- THE TIED CARD OF 'fullinglaw3.ParserReference'. -/
def parserReferenceCard : Claim7 := { stood := { row := parserReferenceRow, standIns := [], harness := (true, "25d63621884e76e0ba7dd0f768b34e9bf98a3f64d3446309871c724b69e0b0ab"), looks := false }, kinds := [], alts := [], laidByText := true, laidKinds := [.data, .data], laidTests := true, laidLooks := .later }
def ParserReferenceCardSaid : Prop := Claim7.holds Tryz.pinned (.plain (OpenSpec.ofChange parserReferenceSpec)) parserReferenceCard

/-- THE TIED CARD OF 'fullinglaw3.ParserSequence'. -/
def parserSequenceCard : Claim7 := { stood := { row := parserSequenceRow, standIns := [], harness := (true, "25d63621884e76e0ba7dd0f768b34e9bf98a3f64d3446309871c724b69e0b0ab"), looks := false }, kinds := [], alts := [], laidByText := true, laidKinds := [.data, .data], laidTests := true, laidLooks := .later }
def ParserSequenceCardSaid : Prop := Claim7.holds Tryz.pinned (.plain (OpenSpec.ofChange parserSequenceSpec)) parserSequenceCard

/-- THE TIED CARD OF 'fullinglaw4.CheckerExamples'. -/
def checkerExamplesCard : Claim7 := { stood := { row := checkerExamplesRow, standIns := [], harness := (true, "25d63621884e76e0ba7dd0f768b34e9bf98a3f64d3446309871c724b69e0b0ab"), looks := false }, kinds := [], alts := [], laidByText := true, laidKinds := [.data, .data, .data], laidTests := true, laidLooks := .later }
def CheckerExamplesCardSaid : Prop := Claim7.holds Tryz.pinned (.plain (OpenSpec.ofChange checkerExamplesSpec)) checkerExamplesCard

/-- THE TIED CARD OF 'fullinglaw4.CheckerReference'. -/
def checkerReferenceCard : Claim7 := { stood := { row := checkerReferenceRow, standIns := [], harness := (true, "25d63621884e76e0ba7dd0f768b34e9bf98a3f64d3446309871c724b69e0b0ab"), looks := false }, kinds := [], alts := [], laidByText := true, laidKinds := [.data, .data, .data], laidTests := true, laidLooks := .later }
def CheckerReferenceCardSaid : Prop := Claim7.holds Tryz.pinned (.plain (OpenSpec.ofChange checkerReferenceSpec)) checkerReferenceCard

/-- THE TIED CARD OF 'fullinglaw4.CheckerSingleError'. -/
def checkerSingleErrorCard : Claim7 := { stood := { row := checkerSingleErrorRow, standIns := [], harness := (true, "25d63621884e76e0ba7dd0f768b34e9bf98a3f64d3446309871c724b69e0b0ab"), looks := false }, kinds := [], alts := [], laidByText := true, laidKinds := [.data, .data, .data], laidTests := true, laidLooks := .later }
def CheckerSingleErrorCardSaid : Prop := Claim7.holds Tryz.pinned (.plain (OpenSpec.ofChange checkerSingleErrorSpec)) checkerSingleErrorCard

/-- THE TIED CARD OF 'fullinglaw4.CheckerOrder'. -/
def checkerOrderCard : Claim7 := { stood := { row := checkerOrderRow, standIns := [], harness := (true, "25d63621884e76e0ba7dd0f768b34e9bf98a3f64d3446309871c724b69e0b0ab"), looks := false }, kinds := [], alts := [], laidByText := true, laidKinds := [.data, .data, .data], laidTests := true, laidLooks := .later }
def CheckerOrderCardSaid : Prop := Claim7.holds Tryz.pinned (.plain (OpenSpec.ofChange checkerOrderSpec)) checkerOrderCard

/-- THE TIED CARD OF 'fullinglaw4.CheckerLimits'. -/
def checkerLimitsCard : Claim7 := { stood := { row := checkerLimitsRow, standIns := [], harness := (true, "25d63621884e76e0ba7dd0f768b34e9bf98a3f64d3446309871c724b69e0b0ab"), looks := false }, kinds := [], alts := [], laidByText := true, laidKinds := [.data, .data, .data], laidTests := true, laidLooks := .later }
def CheckerLimitsCardSaid : Prop := Claim7.holds Tryz.pinned (.plain (OpenSpec.ofChange checkerLimitsSpec)) checkerLimitsCard

/-- THE SECOND FORM's CARD OF 'fullinglaw3.ParserReference'. -/
def parserReferenceUptoCard : Claim7 := { stood := { row := parserReferenceUptoRow, standIns := [], harness := (true, "25d63621884e76e0ba7dd0f768b34e9bf98a3f64d3446309871c724b69e0b0ab"), looks := false }, kinds := [], alts := [], laidByText := true, laidKinds := [.data, .data], laidTests := true, laidLooks := .later }
def ParserReferenceUptoCardSaid : Prop := Claim7.holds Tryz.pinned (.plain (OpenSpec.upto parserReferenceSpec)) parserReferenceUptoCard

/-- THE SECOND FORM's CARD OF 'fullinglaw3.ParserSequence'. -/
def parserSequenceUptoCard : Claim7 := { stood := { row := parserSequenceUptoRow, standIns := [], harness := (true, "25d63621884e76e0ba7dd0f768b34e9bf98a3f64d3446309871c724b69e0b0ab"), looks := false }, kinds := [], alts := [], laidByText := true, laidKinds := [.data, .data], laidTests := true, laidLooks := .later }
def ParserSequenceUptoCardSaid : Prop := Claim7.holds Tryz.pinned (.plain (OpenSpec.upto parserSequenceSpec)) parserSequenceUptoCard

/-- THE SECOND FORM's CARD OF 'fullinglaw4.CheckerExamples'. -/
def checkerExamplesUptoCard : Claim7 := { stood := { row := checkerExamplesUptoRow, standIns := [], harness := (true, "25d63621884e76e0ba7dd0f768b34e9bf98a3f64d3446309871c724b69e0b0ab"), looks := false }, kinds := [], alts := [], laidByText := true, laidKinds := [.data, .data, .data], laidTests := true, laidLooks := .later }
def CheckerExamplesUptoCardSaid : Prop := Claim7.holds Tryz.pinned (.plain (OpenSpec.upto checkerExamplesSpec)) checkerExamplesUptoCard

/-- THE SECOND FORM's CARD OF 'fullinglaw4.CheckerReference'. -/
def checkerReferenceUptoCard : Claim7 := { stood := { row := checkerReferenceUptoRow, standIns := [], harness := (true, "25d63621884e76e0ba7dd0f768b34e9bf98a3f64d3446309871c724b69e0b0ab"), looks := false }, kinds := [], alts := [], laidByText := true, laidKinds := [.data, .data, .data], laidTests := true, laidLooks := .later }
def CheckerReferenceUptoCardSaid : Prop := Claim7.holds Tryz.pinned (.plain (OpenSpec.upto checkerReferenceSpec)) checkerReferenceUptoCard

/-- THE SECOND FORM's CARD OF 'fullinglaw4.CheckerSingleError'. -/
def checkerSingleErrorUptoCard : Claim7 := { stood := { row := checkerSingleErrorUptoRow, standIns := [], harness := (true, "25d63621884e76e0ba7dd0f768b34e9bf98a3f64d3446309871c724b69e0b0ab"), looks := false }, kinds := [], alts := [], laidByText := true, laidKinds := [.data, .data, .data], laidTests := true, laidLooks := .later }
def CheckerSingleErrorUptoCardSaid : Prop := Claim7.holds Tryz.pinned (.plain (OpenSpec.upto checkerSingleErrorSpec)) checkerSingleErrorUptoCard

/-- THE SECOND FORM's CARD OF 'fullinglaw4.CheckerOrder'. -/
def checkerOrderUptoCard : Claim7 := { stood := { row := checkerOrderUptoRow, standIns := [], harness := (true, "25d63621884e76e0ba7dd0f768b34e9bf98a3f64d3446309871c724b69e0b0ab"), looks := false }, kinds := [], alts := [], laidByText := true, laidKinds := [.data, .data, .data], laidTests := true, laidLooks := .later }
def CheckerOrderUptoCardSaid : Prop := Claim7.holds Tryz.pinned (.plain (OpenSpec.upto checkerOrderSpec)) checkerOrderUptoCard

/-- THE SECOND FORM's CARD OF 'fullinglaw4.CheckerLimits'. -/
def checkerLimitsUptoCard : Claim7 := { stood := { row := checkerLimitsUptoRow, standIns := [], harness := (true, "25d63621884e76e0ba7dd0f768b34e9bf98a3f64d3446309871c724b69e0b0ab"), looks := false }, kinds := [], alts := [], laidByText := true, laidKinds := [.data, .data, .data], laidTests := true, laidLooks := .later }
def CheckerLimitsUptoCardSaid : Prop := Claim7.holds Tryz.pinned (.plain (OpenSpec.upto checkerLimitsSpec)) checkerLimitsUptoCard
end Rows
end Go.Proofs.YtlmoeplahamcpaaGreatDoor
