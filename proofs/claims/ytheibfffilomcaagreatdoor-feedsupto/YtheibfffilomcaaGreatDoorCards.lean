/-
  DERIVED. GIVEN WITH THE SEED: THE CARDS: each row of YtheibfffilomcaaGreatDoorRows.lean that lists a variable, with what it lists TIED to the program's text (the seventh form; the later family's looks); each row that meets fmt, with fmt's text TOLD by the authors' own Lean function (tested against real Go, not proved from fmt's source: count such statements apart). THE CARD IS WHAT COUNTS. Prove the row's statement (the work); the ties are given (YtheibfffilomcaaGreatDoorTie.lean); close each card by the builder's one call (the guide's Derived/Test/ToyasCard.lean, 'card_holds'). Laid BY PROGRAM, IN A SANDBOX (cutbox-door.mjs). By AI agents, Wed Nov 11 2026. No macro, syntax, notation, axiom, sorry.
-/
import Derived.Test.YtheibfffilomcaaGreatDoorRows
import GoSem.ClaimSeven
namespace Go.Proofs.YtheibfffilomcaaGreatDoor
namespace Rows

/-- THE TIED CARD OF 'slatelaw.Feeds'. -/
def feedsCard : Claim7 := { stood := { row := feedsRow, standIns := [], harness := (true, "238e9c7aee926014952ba3da1ea825fb44140940240a56d81e34a9be0f5e07f0"), looks := false }, kinds := [], alts := [], goes := true, laidByText := true, laidKinds := [.data, .data, .data, .data, .data, .data], laidTests := true, laidLooks := .later }
def FeedsCardSaid : Prop := Claim7.holds Tryz.pinned (.plain (OpenSpec.ofChange feedsSpec)) feedsCard

/-- THE TIED CARD OF 'slatelaw.Dumps'. -/
def dumpsCard : Claim7 := { stood := { row := dumpsRow, standIns := [], harness := (true, "238e9c7aee926014952ba3da1ea825fb44140940240a56d81e34a9be0f5e07f0"), looks := false }, kinds := [], alts := [], laidByText := true, laidKinds := [.data, .data, .data, .data, .data, .data], laidTests := true, laidLooks := .later }
def DumpsCardSaid : Prop := Claim7.holds Tryz.pinned (.plain (OpenSpec.ofChange dumpsSpec)) dumpsCard

/-- THE TIED CARD OF 'slatekeep.Replays'. -/
def replaysCard : Claim7 := { stood := { row := replaysRow, standIns := [], harness := (true, "238e9c7aee926014952ba3da1ea825fb44140940240a56d81e34a9be0f5e07f0"), looks := false }, kinds := [], alts := [], laidByText := true, laidKinds := [.data, .data, .data, .data, .data, .data], laidTests := true, laidLooks := .later }
def ReplaysCardSaid : Prop := Claim7.holds Tryz.pinned (.plain (OpenSpec.ofChange replaysSpec)) replaysCard

/-- THE TIED CARD OF 'slatekeep.Same'. -/
def sameCard : Claim7 := { stood := { row := sameRow, standIns := [], harness := (true, "238e9c7aee926014952ba3da1ea825fb44140940240a56d81e34a9be0f5e07f0"), looks := false }, kinds := [], alts := [], laidByText := true, laidKinds := [.data, .data, .data, .data, .data, .data], laidTests := true, laidLooks := .later }
def SameCardSaid : Prop := Claim7.holds Tryz.pinned (.plain (OpenSpec.ofChange sameSpec)) sameCard

/-- THE TIED CARD OF 'slatekeep.Reset'. -/
def resetCard : Claim7 := { stood := { row := resetRow, standIns := [], harness := (true, "238e9c7aee926014952ba3da1ea825fb44140940240a56d81e34a9be0f5e07f0"), looks := false }, kinds := [], alts := [], laidByText := true, laidKinds := [.data, .data, .data, .data, .data, .data], laidTests := true, laidLooks := .later }
def ResetCardSaid : Prop := Claim7.holds Tryz.pinned (.plain (OpenSpec.ofChange resetSpec)) resetCard

/-- THE SECOND FORM's CARD OF 'slatelaw.Feeds'. -/
def feedsUptoCard : Claim7 := { stood := { row := feedsUptoRow, standIns := [], harness := (true, "238e9c7aee926014952ba3da1ea825fb44140940240a56d81e34a9be0f5e07f0"), looks := false }, kinds := [], alts := [], goes := true, laidByText := true, laidKinds := [.data, .data, .data, .data, .data, .data], laidTests := true, laidLooks := .later }
def FeedsUptoCardSaid : Prop := Claim7.holds Tryz.pinned (.plain (OpenSpec.upto feedsSpec)) feedsUptoCard

/-- THE SECOND FORM's CARD OF 'slatelaw.Dumps'. -/
def dumpsUptoCard : Claim7 := { stood := { row := dumpsUptoRow, standIns := [], harness := (true, "238e9c7aee926014952ba3da1ea825fb44140940240a56d81e34a9be0f5e07f0"), looks := false }, kinds := [], alts := [], laidByText := true, laidKinds := [.data, .data, .data, .data, .data, .data], laidTests := true, laidLooks := .later }
def DumpsUptoCardSaid : Prop := Claim7.holds Tryz.pinned (.plain (OpenSpec.upto dumpsSpec)) dumpsUptoCard

/-- THE SECOND FORM's CARD OF 'slatekeep.Replays'. -/
def replaysUptoCard : Claim7 := { stood := { row := replaysUptoRow, standIns := [], harness := (true, "238e9c7aee926014952ba3da1ea825fb44140940240a56d81e34a9be0f5e07f0"), looks := false }, kinds := [], alts := [], laidByText := true, laidKinds := [.data, .data, .data, .data, .data, .data], laidTests := true, laidLooks := .later }
def ReplaysUptoCardSaid : Prop := Claim7.holds Tryz.pinned (.plain (OpenSpec.upto replaysSpec)) replaysUptoCard

/-- THE SECOND FORM's CARD OF 'slatekeep.Same'. -/
def sameUptoCard : Claim7 := { stood := { row := sameUptoRow, standIns := [], harness := (true, "238e9c7aee926014952ba3da1ea825fb44140940240a56d81e34a9be0f5e07f0"), looks := false }, kinds := [], alts := [], laidByText := true, laidKinds := [.data, .data, .data, .data, .data, .data], laidTests := true, laidLooks := .later }
def SameUptoCardSaid : Prop := Claim7.holds Tryz.pinned (.plain (OpenSpec.upto sameSpec)) sameUptoCard

/-- THE SECOND FORM's CARD OF 'slatekeep.Reset'. -/
def resetUptoCard : Claim7 := { stood := { row := resetUptoRow, standIns := [], harness := (true, "238e9c7aee926014952ba3da1ea825fb44140940240a56d81e34a9be0f5e07f0"), looks := false }, kinds := [], alts := [], laidByText := true, laidKinds := [.data, .data, .data, .data, .data, .data], laidTests := true, laidLooks := .later }
def ResetUptoCardSaid : Prop := Claim7.holds Tryz.pinned (.plain (OpenSpec.upto resetSpec)) resetUptoCard
end Rows
end Go.Proofs.YtheibfffilomcaaGreatDoor
