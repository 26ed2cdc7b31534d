/-
  DERIVED. GIVEN WITH THE SEED: THE CARDS: each row of YtnghpcfdgjkokaaGreatDoorRows.lean that lists a variable, with what it lists TIED to the program's text (the seventh form; the later family's looks); each row that meets fmt, with fmt's text TOLD by the authors' own Lean function (tested against real Go, not proved from fmt's source: count such statements apart). THE CARD IS WHAT COUNTS. Prove the row's statement (the work); the ties are given (YtnghpcfdgjkokaaGreatDoorTie.lean); close each card by the builder's one call (the guide's Derived/Test/ToyasCard.lean, 'card_holds'). Laid BY PROGRAM, IN A SANDBOX (cutbox-door.mjs). By AI agents, Wed Nov 11 2026. No macro, syntax, notation, axiom, sorry.
-/
import Derived.Test.YtnghpcfdgjkokaaGreatDoorRows
import GoSem.ClaimSeven
namespace Go.Proofs.YtnghpcfdgjkokaaGreatDoor
namespace Rows

/-- THE TIED CARD OF 'tankardlaw14.BlockMakes'. -/
def blockMakesCard : Claim7 := { stood := { row := blockMakesRow, standIns := [], harness := (true, "ee2e2706290f90e1dddf26cb64772ed2a1032dd89f02c5939f2256e39a0d1224"), looks := true }, kinds := [], alts := [], laidByText := true, laidKinds := [.data, .data, .data], laidTests := true, laidLooks := .later }
def BlockMakesCardSaid : Prop := Claim7.holds Tryz.pinned (.plain (OpenSpec.ofChange blockMakesSpec)) blockMakesCard

/-- THE TIED CARD OF 'tankardlaw14.BlockWrites'. -/
def blockWritesCard : Claim7 := { stood := { row := blockWritesRow, standIns := [], harness := (true, "ee2e2706290f90e1dddf26cb64772ed2a1032dd89f02c5939f2256e39a0d1224"), looks := true }, kinds := [], alts := [], laidByText := true, laidKinds := [.data, .data, .data], laidTests := true, laidLooks := .later }
def BlockWritesCardSaid : Prop := Claim7.holds Tryz.pinned (.plain (OpenSpec.ofChange blockWritesSpec)) blockWritesCard

/-- THE TIED CARD OF 'tankardlaw14.BlockLast'. -/
def blockLastCard : Claim7 := { stood := { row := blockLastRow, standIns := [], harness := (true, "ee2e2706290f90e1dddf26cb64772ed2a1032dd89f02c5939f2256e39a0d1224"), looks := true }, kinds := [], alts := [], laidByText := true, laidKinds := [.data, .data, .data], laidTests := true, laidLooks := .later }
def BlockLastCardSaid : Prop := Claim7.holds Tryz.pinned (.plain (OpenSpec.ofChange blockLastSpec)) blockLastCard

/-- THE SECOND FORM's CARD OF 'tankardlaw14.BlockMakes'. -/
def blockMakesUptoCard : Claim7 := { stood := { row := blockMakesUptoRow, standIns := [], harness := (true, "ee2e2706290f90e1dddf26cb64772ed2a1032dd89f02c5939f2256e39a0d1224"), looks := true }, kinds := [], alts := [], laidByText := true, laidKinds := [.data, .data, .data], laidTests := true, laidLooks := .later }
def BlockMakesUptoCardSaid : Prop := Claim7.holds Tryz.pinned (.plain (OpenSpec.upto blockMakesSpec)) blockMakesUptoCard

/-- THE SECOND FORM's CARD OF 'tankardlaw14.BlockWrites'. -/
def blockWritesUptoCard : Claim7 := { stood := { row := blockWritesUptoRow, standIns := [], harness := (true, "ee2e2706290f90e1dddf26cb64772ed2a1032dd89f02c5939f2256e39a0d1224"), looks := true }, kinds := [], alts := [], laidByText := true, laidKinds := [.data, .data, .data], laidTests := true, laidLooks := .later }
def BlockWritesUptoCardSaid : Prop := Claim7.holds Tryz.pinned (.plain (OpenSpec.upto blockWritesSpec)) blockWritesUptoCard

/-- THE SECOND FORM's CARD OF 'tankardlaw14.BlockLast'. -/
def blockLastUptoCard : Claim7 := { stood := { row := blockLastUptoRow, standIns := [], harness := (true, "ee2e2706290f90e1dddf26cb64772ed2a1032dd89f02c5939f2256e39a0d1224"), looks := true }, kinds := [], alts := [], laidByText := true, laidKinds := [.data, .data, .data], laidTests := true, laidLooks := .later }
def BlockLastUptoCardSaid : Prop := Claim7.holds Tryz.pinned (.plain (OpenSpec.upto blockLastSpec)) blockLastUptoCard
end Rows
end Go.Proofs.YtnghpcfdgjkokaaGreatDoor
