/-
  DERIVED. GIVEN WITH THE SEED: THE CARDS: each row of YtmlemclehfdneaaGreatDoorRows.lean that lists a variable, with what it lists TIED to the program's text (the seventh form; the later family's looks); each row that meets fmt, with fmt's text TOLD by the authors' own Lean function (tested against real Go, not proved from fmt's source: count such statements apart). THE CARD IS WHAT COUNTS. Prove the row's statement (the work); the ties are given (YtmlemclehfdneaaGreatDoorTie.lean); close each card by the builder's one call (the guide's Derived/Test/ToyasCard.lean, 'card_holds'). Laid BY PROGRAM, IN A SANDBOX (cutbox-door.mjs). By AI agents, Wed Nov 11 2026. No macro, syntax, notation, axiom, sorry.
-/
import Derived.Test.YtmlemclehfdneaaGreatDoorRows
import GoSem.ClaimSeven
namespace Go.Proofs.YtmlemclehfdneaaGreatDoor
namespace Rows

/-- THE TIED CARD OF 'tankardlaw17.RosterLists'. -/
def rosterListsCard : Claim7 := { stood := { row := rosterListsRow, standIns := [], harness := (true, "4099100e6a750ddac4e4a2eafed1cf2cee9b8687ad0d009e74935e8ab9f285d4"), looks := true }, kinds := [], alts := [], laidByText := true, laidKinds := [.data, .data, .data, .sentinel, .sentinel], laidTests := true, laidLooks := .later }
def RosterListsCardSaid : Prop := Claim7.holds Tryz.pinned (.plain (OpenSpec.ofChange rosterListsSpec)) rosterListsCard

/-- THE TIED CARD OF 'tankardlaw17.RosterPuts'. -/
def rosterPutsCard : Claim7 := { stood := { row := rosterPutsRow, standIns := [], harness := (true, "4099100e6a750ddac4e4a2eafed1cf2cee9b8687ad0d009e74935e8ab9f285d4"), looks := true }, kinds := [], alts := [], laidByText := true, laidKinds := [.data, .data, .data, .sentinel, .sentinel], laidTests := true, laidLooks := .later }
def RosterPutsCardSaid : Prop := Claim7.holds Tryz.pinned (.plain (OpenSpec.ofChange rosterPutsSpec)) rosterPutsCard

/-- THE TIED CARD OF 'tankardlaw17.RosterBack'. -/
def rosterBackCard : Claim7 := { stood := { row := rosterBackRow, standIns := [], harness := (true, "4099100e6a750ddac4e4a2eafed1cf2cee9b8687ad0d009e74935e8ab9f285d4"), looks := true }, kinds := [], alts := [], laidByText := true, laidKinds := [.data, .data, .data, .sentinel, .sentinel], laidTests := true, laidLooks := .later }
def RosterBackCardSaid : Prop := Claim7.holds Tryz.pinned (.plain (OpenSpec.ofChange rosterBackSpec)) rosterBackCard

/-- THE SECOND FORM's CARD OF 'tankardlaw17.RosterLists'. -/
def rosterListsUptoCard : Claim7 := { stood := { row := rosterListsUptoRow, standIns := [], harness := (true, "4099100e6a750ddac4e4a2eafed1cf2cee9b8687ad0d009e74935e8ab9f285d4"), looks := true }, kinds := [], alts := [], laidByText := true, laidKinds := [.data, .data, .data, .sentinel, .sentinel], laidTests := true, laidLooks := .later }
def RosterListsUptoCardSaid : Prop := Claim7.holds Tryz.pinned (.plain (OpenSpec.upto rosterListsSpec)) rosterListsUptoCard

/-- THE SECOND FORM's CARD OF 'tankardlaw17.RosterPuts'. -/
def rosterPutsUptoCard : Claim7 := { stood := { row := rosterPutsUptoRow, standIns := [], harness := (true, "4099100e6a750ddac4e4a2eafed1cf2cee9b8687ad0d009e74935e8ab9f285d4"), looks := true }, kinds := [], alts := [], laidByText := true, laidKinds := [.data, .data, .data, .sentinel, .sentinel], laidTests := true, laidLooks := .later }
def RosterPutsUptoCardSaid : Prop := Claim7.holds Tryz.pinned (.plain (OpenSpec.upto rosterPutsSpec)) rosterPutsUptoCard

/-- THE SECOND FORM's CARD OF 'tankardlaw17.RosterBack'. -/
def rosterBackUptoCard : Claim7 := { stood := { row := rosterBackUptoRow, standIns := [], harness := (true, "4099100e6a750ddac4e4a2eafed1cf2cee9b8687ad0d009e74935e8ab9f285d4"), looks := true }, kinds := [], alts := [], laidByText := true, laidKinds := [.data, .data, .data, .sentinel, .sentinel], laidTests := true, laidLooks := .later }
def RosterBackUptoCardSaid : Prop := Claim7.holds Tryz.pinned (.plain (OpenSpec.upto rosterBackSpec)) rosterBackUptoCard
end Rows
end Go.Proofs.YtmlemclehfdneaaGreatDoor
