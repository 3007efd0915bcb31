/-
  DERIVED. GIVEN WITH THE SEED: THE CARDS: each row of YtheibfffilomcabGreatDoorRows.lean that lists a variable, with what it lists TIED to the program's text (the seventh form; the later family's looks); each row that meets fmt, with fmt's text TOLD by the authors' own Lean function (tested against real Go, not proved from fmt's source: count such statements apart). THE CARD IS WHAT COUNTS. Prove the row's statement (the work); the ties are given (YtheibfffilomcabGreatDoorTie.lean); close each card by the builder's one call (the guide's Derived/Test/ToyasCard.lean, 'card_holds'). Laid BY PROGRAM, IN A SANDBOX (cutbox-door.mjs). By AI agents, Wed Nov 11 2026. No macro, syntax, notation, axiom, sorry.
-/
import Derived.Test.YtheibfffilomcabGreatDoorRows
import GoSem.ClaimSeven
namespace Go.Proofs.YtheibfffilomcabGreatDoor
namespace Rows

/-- THE TIED CARD OF 'slatekeep.Walls'. -/
def wallsCard : Claim7 := { stood := { row := wallsRow, standIns := [], harness := (true, "5cf4584a042cbef276c9987f9f660fb0698d349149df01fbefbf8ae9962fdee0"), looks := false }, kinds := [], alts := [], goes := true, laidByText := true, laidKinds := [.data, .data, .data, .data, .data, .data], laidTests := true, laidLooks := .later }
def WallsCardSaid : Prop := Claim7.holds Tryz.pinned (.plain (OpenSpec.ofChange wallsSpec)) wallsCard

/-- THE TIED CARD OF 'slatelaw.All'. -/
def allCard : Claim7 := { stood := { row := allRow, standIns := [], harness := (true, "5cf4584a042cbef276c9987f9f660fb0698d349149df01fbefbf8ae9962fdee0"), looks := false }, kinds := [], alts := [], goes := true, laidByText := true, laidKinds := [.data, .data, .data, .data, .data, .data], laidTests := true, laidLooks := .later }
def AllCardSaid : Prop := Claim7.holds Tryz.pinned (.plain (OpenSpec.ofChange allSpec)) allCard

/-- THE SECOND FORM's CARD OF 'slatekeep.Walls'. -/
def wallsUptoCard : Claim7 := { stood := { row := wallsUptoRow, standIns := [], harness := (true, "5cf4584a042cbef276c9987f9f660fb0698d349149df01fbefbf8ae9962fdee0"), looks := false }, kinds := [], alts := [], goes := true, laidByText := true, laidKinds := [.data, .data, .data, .data, .data, .data], laidTests := true, laidLooks := .later }
def WallsUptoCardSaid : Prop := Claim7.holds Tryz.pinned (.plain (OpenSpec.upto wallsSpec)) wallsUptoCard

/-- THE SECOND FORM's CARD OF 'slatelaw.All'. -/
def allUptoCard : Claim7 := { stood := { row := allUptoRow, standIns := [], harness := (true, "5cf4584a042cbef276c9987f9f660fb0698d349149df01fbefbf8ae9962fdee0"), looks := false }, kinds := [], alts := [], goes := true, laidByText := true, laidKinds := [.data, .data, .data, .data, .data, .data], laidTests := true, laidLooks := .later }
def AllUptoCardSaid : Prop := Claim7.holds Tryz.pinned (.plain (OpenSpec.upto allSpec)) allUptoCard
end Rows
end Go.Proofs.YtheibfffilomcabGreatDoor
