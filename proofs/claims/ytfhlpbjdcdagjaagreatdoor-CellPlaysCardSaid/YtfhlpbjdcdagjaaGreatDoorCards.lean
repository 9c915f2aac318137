/-
  DERIVED. GIVEN WITH THE SEED: THE CARDS: each row of YtfhlpbjdcdagjaaGreatDoorRows.lean that lists a variable, with what it lists TIED to the program's text (the seventh form; the later family's looks); each row that meets fmt, with fmt's text TOLD by the authors' own Lean function (tested against real Go, not proved from fmt's source: count such statements apart). THE CARD IS WHAT COUNTS. Prove the row's statement (the work); the ties are given (YtfhlpbjdcdagjaaGreatDoorTie.lean); close each card by the builder's one call (the guide's Derived/Test/ToyasCard.lean, 'card_holds'). Laid BY PROGRAM, IN A SANDBOX (cutbox-door.mjs). By AI agents, Wed Nov 11 2026. No macro, syntax, notation, axiom, sorry.
-/
import Derived.Test.YtfhlpbjdcdagjaaGreatDoorRows
import GoSem.ClaimSeven
namespace Go.Proofs.YtfhlpbjdcdagjaaGreatDoor
namespace Rows

/-- THE TIED CARD OF 'forebaylaw07.CellPlays'. -/
def cellPlaysCard : Claim7 := { stood := { row := cellPlaysRow, standIns := [], harness := (true, "c8863b62feec2628315b4ac78d3e72a9cf97353f9fb57254b60b2e875b461b9a"), looks := true }, kinds := [], alts := [], laidByText := true, laidKinds := [.data, .data, .data, .sentinel, .sentinel, .data], laidTests := true, laidLooks := .later }
def CellPlaysCardSaid : Prop := Claim7.holds Tryz.pinned (.plain (OpenSpec.ofChange cellPlaysSpec)) cellPlaysCard

/-- THE TIED CARD OF 'forebaylaw07.CellApart'. -/
def cellApartCard : Claim7 := { stood := { row := cellApartRow, standIns := [], harness := (true, "c8863b62feec2628315b4ac78d3e72a9cf97353f9fb57254b60b2e875b461b9a"), looks := true }, kinds := [], alts := [], laidByText := true, laidKinds := [.data, .data, .data, .sentinel, .sentinel, .data], laidTests := true, laidLooks := .later }
def CellApartCardSaid : Prop := Claim7.holds Tryz.pinned (.plain (OpenSpec.ofChange cellApartSpec)) cellApartCard

/-- THE TIED CARD OF 'forebaylaw07.CellGroups'. -/
def cellGroupsCard : Claim7 := { stood := { row := cellGroupsRow, standIns := [], harness := (true, "c8863b62feec2628315b4ac78d3e72a9cf97353f9fb57254b60b2e875b461b9a"), looks := true }, kinds := [], alts := [], laidByText := true, laidKinds := [.data, .data, .data, .sentinel, .sentinel, .data], laidTests := true, laidLooks := .later }
def CellGroupsCardSaid : Prop := Claim7.holds Tryz.pinned (.plain (OpenSpec.ofChange cellGroupsSpec)) cellGroupsCard

/-- THE SECOND FORM's CARD OF 'forebaylaw07.CellPlays'. -/
def cellPlaysUptoCard : Claim7 := { stood := { row := cellPlaysUptoRow, standIns := [], harness := (true, "c8863b62feec2628315b4ac78d3e72a9cf97353f9fb57254b60b2e875b461b9a"), looks := true }, kinds := [], alts := [], laidByText := true, laidKinds := [.data, .data, .data, .sentinel, .sentinel, .data], laidTests := true, laidLooks := .later }
def CellPlaysUptoCardSaid : Prop := Claim7.holds Tryz.pinned (.plain (OpenSpec.upto cellPlaysSpec)) cellPlaysUptoCard

/-- THE SECOND FORM's CARD OF 'forebaylaw07.CellApart'. -/
def cellApartUptoCard : Claim7 := { stood := { row := cellApartUptoRow, standIns := [], harness := (true, "c8863b62feec2628315b4ac78d3e72a9cf97353f9fb57254b60b2e875b461b9a"), looks := true }, kinds := [], alts := [], laidByText := true, laidKinds := [.data, .data, .data, .sentinel, .sentinel, .data], laidTests := true, laidLooks := .later }
def CellApartUptoCardSaid : Prop := Claim7.holds Tryz.pinned (.plain (OpenSpec.upto cellApartSpec)) cellApartUptoCard

/-- THE SECOND FORM's CARD OF 'forebaylaw07.CellGroups'. -/
def cellGroupsUptoCard : Claim7 := { stood := { row := cellGroupsUptoRow, standIns := [], harness := (true, "c8863b62feec2628315b4ac78d3e72a9cf97353f9fb57254b60b2e875b461b9a"), looks := true }, kinds := [], alts := [], laidByText := true, laidKinds := [.data, .data, .data, .sentinel, .sentinel, .data], laidTests := true, laidLooks := .later }
def CellGroupsUptoCardSaid : Prop := Claim7.holds Tryz.pinned (.plain (OpenSpec.upto cellGroupsSpec)) cellGroupsUptoCard
end Rows
end Go.Proofs.YtfhlpbjdcdagjaaGreatDoor
