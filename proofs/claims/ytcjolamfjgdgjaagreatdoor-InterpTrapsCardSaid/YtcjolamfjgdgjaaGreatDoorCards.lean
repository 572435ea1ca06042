/-
  DERIVED. GIVEN WITH THE SEED: THE CARDS: each row of YtcjolamfjgdgjaaGreatDoorRows.lean that lists a variable, with what it lists TIED to the program's text (the seventh form; the later family's looks); each row that meets fmt, with fmt's text TOLD by the authors' own Lean function (tested against real Go, not proved from fmt's source: count such statements apart). THE CARD IS WHAT COUNTS. Prove the row's statement (the work); the ties are given (YtcjolamfjgdgjaaGreatDoorTie.lean); close each card by the builder's one call (the guide's Derived/Test/ToyasCard.lean, 'card_holds'). Laid BY PROGRAM, IN A SANDBOX (cutbox-door.mjs). By AI agents, Wed Nov 11 2026. No macro, syntax, notation, axiom, sorry.
-/
import Derived.Test.YtcjolamfjgdgjaaGreatDoorRows
import GoSem.ClaimSeven
namespace Go.Proofs.YtcjolamfjgdgjaaGreatDoor
namespace Rows

/-- THE TIED CARD OF 'fullinglaw4.CheckerLimits'. -/
def checkerLimitsCard : Claim7 := { stood := { row := checkerLimitsRow, standIns := [], harness := (true, "03254d4e0bf9c3ecd6ec6ba97177302f97c5f221cadf4861cd7852b773012b50"), looks := false }, kinds := [], alts := [], laidByText := true, laidKinds := [.data, .data, .data], laidTests := true, laidLooks := .later }
def CheckerLimitsCardSaid : Prop := Claim7.holds Tryz.pinned (.plain (OpenSpec.ofChange checkerLimitsSpec)) checkerLimitsCard

/-- THE TIED CARD OF 'fullinglaw6.InterpExamples'. -/
def interpExamplesCard : Claim7 := { stood := { row := interpExamplesRow, standIns := [], harness := (true, "03254d4e0bf9c3ecd6ec6ba97177302f97c5f221cadf4861cd7852b773012b50"), looks := false }, kinds := [], alts := [], laidByText := true, laidKinds := [.data, .data, .data], laidTests := true, laidLooks := .later }
def InterpExamplesCardSaid : Prop := Claim7.holds Tryz.pinned (.plain (OpenSpec.ofChange interpExamplesSpec)) interpExamplesCard

/-- THE TIED CARD OF 'fullinglaw6.InterpTicks'. -/
def interpTicksCard : Claim7 := { stood := { row := interpTicksRow, standIns := [], harness := (true, "03254d4e0bf9c3ecd6ec6ba97177302f97c5f221cadf4861cd7852b773012b50"), looks := false }, kinds := [], alts := [], laidByText := true, laidKinds := [.data, .data, .data], laidTests := true, laidLooks := .later }
def InterpTicksCardSaid : Prop := Claim7.holds Tryz.pinned (.plain (OpenSpec.ofChange interpTicksSpec)) interpTicksCard

/-- THE TIED CARD OF 'fullinglaw6.InterpSorts'. -/
def interpSortsCard : Claim7 := { stood := { row := interpSortsRow, standIns := [], harness := (true, "03254d4e0bf9c3ecd6ec6ba97177302f97c5f221cadf4861cd7852b773012b50"), looks := false }, kinds := [], alts := [], laidByText := true, laidKinds := [.data, .data, .data], laidTests := true, laidLooks := .later }
def InterpSortsCardSaid : Prop := Claim7.holds Tryz.pinned (.plain (OpenSpec.ofChange interpSortsSpec)) interpSortsCard

/-- THE TIED CARD OF 'fullinglaw6.InterpLaziness'. -/
def interpLazinessCard : Claim7 := { stood := { row := interpLazinessRow, standIns := [], harness := (true, "03254d4e0bf9c3ecd6ec6ba97177302f97c5f221cadf4861cd7852b773012b50"), looks := false }, kinds := [], alts := [], laidByText := true, laidKinds := [.data, .data, .data], laidTests := true, laidLooks := .later }
def InterpLazinessCardSaid : Prop := Claim7.holds Tryz.pinned (.plain (OpenSpec.ofChange interpLazinessSpec)) interpLazinessCard

/-- THE TIED CARD OF 'fullinglaw6.InterpCalls'. -/
def interpCallsCard : Claim7 := { stood := { row := interpCallsRow, standIns := [], harness := (true, "03254d4e0bf9c3ecd6ec6ba97177302f97c5f221cadf4861cd7852b773012b50"), looks := false }, kinds := [], alts := [], laidByText := true, laidKinds := [.data, .data, .data], laidTests := true, laidLooks := .later }
def InterpCallsCardSaid : Prop := Claim7.holds Tryz.pinned (.plain (OpenSpec.ofChange interpCallsSpec)) interpCallsCard

/-- THE TIED CARD OF 'fullinglaw6.InterpTraps'. -/
def interpTrapsCard : Claim7 := { stood := { row := interpTrapsRow, standIns := [], harness := (true, "03254d4e0bf9c3ecd6ec6ba97177302f97c5f221cadf4861cd7852b773012b50"), looks := false }, kinds := [], alts := [], laidByText := true, laidKinds := [.data, .data, .data], laidTests := true, laidLooks := .later }
def InterpTrapsCardSaid : Prop := Claim7.holds Tryz.pinned (.plain (OpenSpec.ofChange interpTrapsSpec)) interpTrapsCard

/-- THE SECOND FORM's CARD OF 'fullinglaw4.CheckerLimits'. -/
def checkerLimitsUptoCard : Claim7 := { stood := { row := checkerLimitsUptoRow, standIns := [], harness := (true, "03254d4e0bf9c3ecd6ec6ba97177302f97c5f221cadf4861cd7852b773012b50"), looks := false }, kinds := [], alts := [], laidByText := true, laidKinds := [.data, .data, .data], laidTests := true, laidLooks := .later }
def CheckerLimitsUptoCardSaid : Prop := Claim7.holds Tryz.pinned (.plain (OpenSpec.upto checkerLimitsSpec)) checkerLimitsUptoCard

/-- THE SECOND FORM's CARD OF 'fullinglaw6.InterpExamples'. -/
def interpExamplesUptoCard : Claim7 := { stood := { row := interpExamplesUptoRow, standIns := [], harness := (true, "03254d4e0bf9c3ecd6ec6ba97177302f97c5f221cadf4861cd7852b773012b50"), looks := false }, kinds := [], alts := [], laidByText := true, laidKinds := [.data, .data, .data], laidTests := true, laidLooks := .later }
def InterpExamplesUptoCardSaid : Prop := Claim7.holds Tryz.pinned (.plain (OpenSpec.upto interpExamplesSpec)) interpExamplesUptoCard

/-- THE SECOND FORM's CARD OF 'fullinglaw6.InterpTicks'. -/
def interpTicksUptoCard : Claim7 := { stood := { row := interpTicksUptoRow, standIns := [], harness := (true, "03254d4e0bf9c3ecd6ec6ba97177302f97c5f221cadf4861cd7852b773012b50"), looks := false }, kinds := [], alts := [], laidByText := true, laidKinds := [.data, .data, .data], laidTests := true, laidLooks := .later }
def InterpTicksUptoCardSaid : Prop := Claim7.holds Tryz.pinned (.plain (OpenSpec.upto interpTicksSpec)) interpTicksUptoCard

/-- THE SECOND FORM's CARD OF 'fullinglaw6.InterpSorts'. -/
def interpSortsUptoCard : Claim7 := { stood := { row := interpSortsUptoRow, standIns := [], harness := (true, "03254d4e0bf9c3ecd6ec6ba97177302f97c5f221cadf4861cd7852b773012b50"), looks := false }, kinds := [], alts := [], laidByText := true, laidKinds := [.data, .data, .data], laidTests := true, laidLooks := .later }
def InterpSortsUptoCardSaid : Prop := Claim7.holds Tryz.pinned (.plain (OpenSpec.upto interpSortsSpec)) interpSortsUptoCard

/-- THE SECOND FORM's CARD OF 'fullinglaw6.InterpLaziness'. -/
def interpLazinessUptoCard : Claim7 := { stood := { row := interpLazinessUptoRow, standIns := [], harness := (true, "03254d4e0bf9c3ecd6ec6ba97177302f97c5f221cadf4861cd7852b773012b50"), looks := false }, kinds := [], alts := [], laidByText := true, laidKinds := [.data, .data, .data], laidTests := true, laidLooks := .later }
def InterpLazinessUptoCardSaid : Prop := Claim7.holds Tryz.pinned (.plain (OpenSpec.upto interpLazinessSpec)) interpLazinessUptoCard

/-- THE SECOND FORM's CARD OF 'fullinglaw6.InterpCalls'. -/
def interpCallsUptoCard : Claim7 := { stood := { row := interpCallsUptoRow, standIns := [], harness := (true, "03254d4e0bf9c3ecd6ec6ba97177302f97c5f221cadf4861cd7852b773012b50"), looks := false }, kinds := [], alts := [], laidByText := true, laidKinds := [.data, .data, .data], laidTests := true, laidLooks := .later }
def InterpCallsUptoCardSaid : Prop := Claim7.holds Tryz.pinned (.plain (OpenSpec.upto interpCallsSpec)) interpCallsUptoCard

/-- THE SECOND FORM's CARD OF 'fullinglaw6.InterpTraps'. -/
def interpTrapsUptoCard : Claim7 := { stood := { row := interpTrapsUptoRow, standIns := [], harness := (true, "03254d4e0bf9c3ecd6ec6ba97177302f97c5f221cadf4861cd7852b773012b50"), looks := false }, kinds := [], alts := [], laidByText := true, laidKinds := [.data, .data, .data], laidTests := true, laidLooks := .later }
def InterpTrapsUptoCardSaid : Prop := Claim7.holds Tryz.pinned (.plain (OpenSpec.upto interpTrapsSpec)) interpTrapsUptoCard
end Rows
end Go.Proofs.YtcjolamfjgdgjaaGreatDoor
