/-
  DERIVED. GIVEN WITH THE SEED: THE CARDS: each row of YtgafidnbmoomiaaGreatDoorRows.lean that lists a variable, with what it lists TIED to the program's text (the seventh form; the later family's looks); each row that meets fmt, with fmt's text TOLD by the authors' own Lean function (tested against real Go, not proved from fmt's source: count such statements apart). THE CARD IS WHAT COUNTS. Prove the row's statement (the work); the ties are given (YtgafidnbmoomiaaGreatDoorTie.lean); close each card by the builder's one call (the guide's Derived/Test/ToyasCard.lean, 'card_holds'). Laid BY PROGRAM, IN A SANDBOX (cutbox-door.mjs). By AI agents, Wed Nov 11 2026. No macro, syntax, notation, axiom, sorry.
-/
import Derived.Test.YtgafidnbmoomiaaGreatDoorRows
import GoSem.ClaimSeven
namespace Go.Proofs.YtgafidnbmoomiaaGreatDoor
namespace Rows

/-- THE TIED CARD OF 'tankardlaw18.PollSteps'. -/
def pollStepsCard : Claim7 := { stood := { row := pollStepsRow, standIns := [], harness := (true, "f34a1b822603df55ef21f53c28615a85e6c912874c78e87ef5df302471f81ed6"), looks := true }, kinds := [], alts := [], laidByText := true, laidKinds := [.data, .data, .data, .sentinel, .sentinel], laidTests := true, laidLooks := .later }
def PollStepsCardSaid : Prop := Claim7.holds Tryz.pinned (.plain (OpenSpec.ofChange pollStepsSpec)) pollStepsCard

/-- THE TIED CARD OF 'tankardlaw18.PollLists'. -/
def pollListsCard : Claim7 := { stood := { row := pollListsRow, standIns := [], harness := (true, "f34a1b822603df55ef21f53c28615a85e6c912874c78e87ef5df302471f81ed6"), looks := true }, kinds := [], alts := [], laidByText := true, laidKinds := [.data, .data, .data, .sentinel, .sentinel], laidTests := true, laidLooks := .later }
def PollListsCardSaid : Prop := Claim7.holds Tryz.pinned (.plain (OpenSpec.ofChange pollListsSpec)) pollListsCard

/-- THE SECOND FORM's CARD OF 'tankardlaw18.PollSteps'. -/
def pollStepsUptoCard : Claim7 := { stood := { row := pollStepsUptoRow, standIns := [], harness := (true, "f34a1b822603df55ef21f53c28615a85e6c912874c78e87ef5df302471f81ed6"), looks := true }, kinds := [], alts := [], laidByText := true, laidKinds := [.data, .data, .data, .sentinel, .sentinel], laidTests := true, laidLooks := .later }
def PollStepsUptoCardSaid : Prop := Claim7.holds Tryz.pinned (.plain (OpenSpec.upto pollStepsSpec)) pollStepsUptoCard

/-- THE SECOND FORM's CARD OF 'tankardlaw18.PollLists'. -/
def pollListsUptoCard : Claim7 := { stood := { row := pollListsUptoRow, standIns := [], harness := (true, "f34a1b822603df55ef21f53c28615a85e6c912874c78e87ef5df302471f81ed6"), looks := true }, kinds := [], alts := [], laidByText := true, laidKinds := [.data, .data, .data, .sentinel, .sentinel], laidTests := true, laidLooks := .later }
def PollListsUptoCardSaid : Prop := Claim7.holds Tryz.pinned (.plain (OpenSpec.upto pollListsSpec)) pollListsUptoCard
end Rows
end Go.Proofs.YtgafidnbmoomiaaGreatDoor
