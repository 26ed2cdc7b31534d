/-
  DERIVED. GIVEN WITH THE SEED: THE CARDS: each row of YtfaefacefdkjdaaGreatDoorRows.lean that lists a variable, with what it lists TIED to the program's text (the seventh form; the later family's looks); each row that meets fmt, with fmt's text TOLD by the authors' own Lean function (tested against real Go, not proved from fmt's source: count such statements apart). THE CARD IS WHAT COUNTS. Prove the row's statement (the work); the ties are given (YtfaefacefdkjdaaGreatDoorTie.lean); close each card by the builder's one call (the guide's Derived/Test/ToyasCard.lean, 'card_holds'). Laid BY PROGRAM, IN A SANDBOX (cutbox-door.mjs). By AI agents, Wed Nov 11 2026. No macro, syntax, notation, axiom, sorry.
-/
import Derived.Test.YtfaefacefdkjdaaGreatDoorRows
import GoSem.ClaimSeven
namespace Go.Proofs.YtfaefacefdkjdaaGreatDoor
namespace Rows

/-- THE TIED CARD OF 'tankardlaw15.ReadTells'. -/
def readTellsCard : Claim7 := { stood := { row := readTellsRow, standIns := [], harness := (true, "d854c606a93c10b4e76e1e5322e113b59fd9bc5a2598ea0ac644efceb018b402"), looks := true }, kinds := [], alts := [], laidByText := true, laidKinds := [.data, .data, .data], laidTests := true, laidLooks := .later }
def ReadTellsCardSaid : Prop := Claim7.holds Tryz.pinned (.plain (OpenSpec.ofChange readTellsSpec)) readTellsCard

/-- THE TIED CARD OF 'tankardlaw15.ReadFinds'. -/
def readFindsCard : Claim7 := { stood := { row := readFindsRow, standIns := [], harness := (true, "d854c606a93c10b4e76e1e5322e113b59fd9bc5a2598ea0ac644efceb018b402"), looks := true }, kinds := [], alts := [], laidByText := true, laidKinds := [.data, .data, .data], laidTests := true, laidLooks := .later }
def ReadFindsCardSaid : Prop := Claim7.holds Tryz.pinned (.plain (OpenSpec.ofChange readFindsSpec)) readFindsCard

/-- THE SECOND FORM's CARD OF 'tankardlaw15.ReadTells'. -/
def readTellsUptoCard : Claim7 := { stood := { row := readTellsUptoRow, standIns := [], harness := (true, "d854c606a93c10b4e76e1e5322e113b59fd9bc5a2598ea0ac644efceb018b402"), looks := true }, kinds := [], alts := [], laidByText := true, laidKinds := [.data, .data, .data], laidTests := true, laidLooks := .later }
def ReadTellsUptoCardSaid : Prop := Claim7.holds Tryz.pinned (.plain (OpenSpec.upto readTellsSpec)) readTellsUptoCard

/-- THE SECOND FORM's CARD OF 'tankardlaw15.ReadFinds'. -/
def readFindsUptoCard : Claim7 := { stood := { row := readFindsUptoRow, standIns := [], harness := (true, "d854c606a93c10b4e76e1e5322e113b59fd9bc5a2598ea0ac644efceb018b402"), looks := true }, kinds := [], alts := [], laidByText := true, laidKinds := [.data, .data, .data], laidTests := true, laidLooks := .later }
def ReadFindsUptoCardSaid : Prop := Claim7.holds Tryz.pinned (.plain (OpenSpec.upto readFindsSpec)) readFindsUptoCard
end Rows
end Go.Proofs.YtfaefacefdkjdaaGreatDoor
