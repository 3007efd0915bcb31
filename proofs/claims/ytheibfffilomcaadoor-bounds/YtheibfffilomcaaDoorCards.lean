/-
  DERIVED. GIVEN WITH THE SEED: THE CARDS: each row of YtheibfffilomcaaDoorRows.lean that lists a variable, with what it lists TIED to the program's text (the seventh form; the later family's looks); each row that meets fmt, with fmt's text TOLD by the authors' own Lean function (tested against real Go, not proved from fmt's source: count such statements apart). THE CARD IS WHAT COUNTS. Prove the row's statement (the work); the ties are given (YtheibfffilomcaaDoorTie.lean); close each card by the builder's one call (the guide's Derived/Test/ToyasCard.lean, 'card_holds'). Laid BY PROGRAM, IN A SANDBOX (cutbox-door.mjs). By AI agents, Wed Nov 11 2026. No macro, syntax, notation, axiom, sorry.
-/
import Derived.Test.YtheibfffilomcaaDoorRows
import GoSem.ClaimSeven
namespace Go.Proofs.YtheibfffilomcaaDoor
namespace Rows

/-- THE TIED CARD OF 'slatelaw.Decodes'. -/
def decodesCard : Claim7 := { stood := { row := decodesRow, standIns := [], harness := (true, "bcdb4b3470a4df54346d78028f53a4cde946b2bc8a2481ed387e8fb2e1db06f8"), looks := false }, kinds := [], alts := [], laidByText := true, laidKinds := [.data, .data], laidTests := true, laidLooks := .later }
def DecodesCardSaid : Prop := Claim7.holds Tryd.pinned (.plain (OpenSpec.ofChange decodesSpec)) decodesCard

/-- THE TIED CARD OF 'slatelaw.Reads'. -/
def readsCard : Claim7 := { stood := { row := readsRow, standIns := [], harness := (true, "bcdb4b3470a4df54346d78028f53a4cde946b2bc8a2481ed387e8fb2e1db06f8"), looks := false }, kinds := [], alts := [], laidByText := true, laidKinds := [.data], laidTests := true, laidLooks := .later }
def ReadsCardSaid : Prop := Claim7.holds Tryd.pinned (.plain (OpenSpec.ofChange readsSpec)) readsCard

/-- THE TIED CARD OF 'slatekeep.Told'. -/
def toldCard : Claim7 := { stood := { row := toldRow, standIns := [], harness := (true, "bcdb4b3470a4df54346d78028f53a4cde946b2bc8a2481ed387e8fb2e1db06f8"), looks := false }, kinds := [], alts := [], laidByText := true, laidKinds := [.data], laidTests := true, laidLooks := .later }
def ToldCardSaid : Prop := Claim7.holds Tryd.pinned (.plain (OpenSpec.ofChange toldSpec)) toldCard

/-- THE TIED CARD OF 'slatekeep.Types'. -/
def typesCard : Claim7 := { stood := { row := typesRow, standIns := [], harness := (true, "bcdb4b3470a4df54346d78028f53a4cde946b2bc8a2481ed387e8fb2e1db06f8"), looks := false }, kinds := [], alts := [], laidByText := true, laidKinds := [.data, .data, .data], laidTests := true, laidLooks := .later }
def TypesCardSaid : Prop := Claim7.holds Tryd.pinned (.plain (OpenSpec.ofChange typesSpec)) typesCard

/-- THE TIED CARD OF 'slatekeep.Chunks'. -/
def chunksCard : Claim7 := { stood := { row := chunksRow, standIns := [], harness := (true, "bcdb4b3470a4df54346d78028f53a4cde946b2bc8a2481ed387e8fb2e1db06f8"), looks := false }, kinds := [], alts := [], laidByText := true, laidKinds := [.data, .data, .data], laidTests := true, laidLooks := .later }
def ChunksCardSaid : Prop := Claim7.holds Tryd.pinned (.plain (OpenSpec.ofChange chunksSpec)) chunksCard

/-- THE TIED CARD OF 'slatekeep.Bounds'. -/
def boundsCard : Claim7 := { stood := { row := boundsRow, standIns := [], harness := (true, "bcdb4b3470a4df54346d78028f53a4cde946b2bc8a2481ed387e8fb2e1db06f8"), looks := false }, kinds := [], alts := [], laidByText := true, laidKinds := [.data, .data, .data], laidTests := true, laidLooks := .later }
def BoundsCardSaid : Prop := Claim7.holds Tryd.pinned (.plain (OpenSpec.ofChange boundsSpec)) boundsCard

/-- THE TIED CARD OF 'slatekeep.Quiet'. -/
def quietCard : Claim7 := { stood := { row := quietRow, standIns := [], harness := (true, "bcdb4b3470a4df54346d78028f53a4cde946b2bc8a2481ed387e8fb2e1db06f8"), looks := false }, kinds := [], alts := [], laidByText := true, laidKinds := [.data, .data, .data], laidTests := true, laidLooks := .later }
def QuietCardSaid : Prop := Claim7.holds Tryd.pinned (.plain (OpenSpec.ofChange quietSpec)) quietCard

/-- THE SECOND FORM's CARD OF 'slatelaw.Decodes'. -/
def decodesUptoCard : Claim7 := { stood := { row := decodesUptoRow, standIns := [], harness := (true, "bcdb4b3470a4df54346d78028f53a4cde946b2bc8a2481ed387e8fb2e1db06f8"), looks := false }, kinds := [], alts := [], laidByText := true, laidKinds := [.data, .data], laidTests := true, laidLooks := .later }
def DecodesUptoCardSaid : Prop := Claim7.holds Tryd.pinned (.plain (OpenSpec.upto decodesSpec)) decodesUptoCard

/-- THE SECOND FORM's CARD OF 'slatelaw.Reads'. -/
def readsUptoCard : Claim7 := { stood := { row := readsUptoRow, standIns := [], harness := (true, "bcdb4b3470a4df54346d78028f53a4cde946b2bc8a2481ed387e8fb2e1db06f8"), looks := false }, kinds := [], alts := [], laidByText := true, laidKinds := [.data], laidTests := true, laidLooks := .later }
def ReadsUptoCardSaid : Prop := Claim7.holds Tryd.pinned (.plain (OpenSpec.upto readsSpec)) readsUptoCard

/-- THE SECOND FORM's CARD OF 'slatekeep.Told'. -/
def toldUptoCard : Claim7 := { stood := { row := toldUptoRow, standIns := [], harness := (true, "bcdb4b3470a4df54346d78028f53a4cde946b2bc8a2481ed387e8fb2e1db06f8"), looks := false }, kinds := [], alts := [], laidByText := true, laidKinds := [.data], laidTests := true, laidLooks := .later }
def ToldUptoCardSaid : Prop := Claim7.holds Tryd.pinned (.plain (OpenSpec.upto toldSpec)) toldUptoCard

/-- THE SECOND FORM's CARD OF 'slatekeep.Types'. -/
def typesUptoCard : Claim7 := { stood := { row := typesUptoRow, standIns := [], harness := (true, "bcdb4b3470a4df54346d78028f53a4cde946b2bc8a2481ed387e8fb2e1db06f8"), looks := false }, kinds := [], alts := [], laidByText := true, laidKinds := [.data, .data, .data], laidTests := true, laidLooks := .later }
def TypesUptoCardSaid : Prop := Claim7.holds Tryd.pinned (.plain (OpenSpec.upto typesSpec)) typesUptoCard

/-- THE SECOND FORM's CARD OF 'slatekeep.Chunks'. -/
def chunksUptoCard : Claim7 := { stood := { row := chunksUptoRow, standIns := [], harness := (true, "bcdb4b3470a4df54346d78028f53a4cde946b2bc8a2481ed387e8fb2e1db06f8"), looks := false }, kinds := [], alts := [], laidByText := true, laidKinds := [.data, .data, .data], laidTests := true, laidLooks := .later }
def ChunksUptoCardSaid : Prop := Claim7.holds Tryd.pinned (.plain (OpenSpec.upto chunksSpec)) chunksUptoCard

/-- THE SECOND FORM's CARD OF 'slatekeep.Bounds'. -/
def boundsUptoCard : Claim7 := { stood := { row := boundsUptoRow, standIns := [], harness := (true, "bcdb4b3470a4df54346d78028f53a4cde946b2bc8a2481ed387e8fb2e1db06f8"), looks := false }, kinds := [], alts := [], laidByText := true, laidKinds := [.data, .data, .data], laidTests := true, laidLooks := .later }
def BoundsUptoCardSaid : Prop := Claim7.holds Tryd.pinned (.plain (OpenSpec.upto boundsSpec)) boundsUptoCard

/-- THE SECOND FORM's CARD OF 'slatekeep.Quiet'. -/
def quietUptoCard : Claim7 := { stood := { row := quietUptoRow, standIns := [], harness := (true, "bcdb4b3470a4df54346d78028f53a4cde946b2bc8a2481ed387e8fb2e1db06f8"), looks := false }, kinds := [], alts := [], laidByText := true, laidKinds := [.data, .data, .data], laidTests := true, laidLooks := .later }
def QuietUptoCardSaid : Prop := Claim7.holds Tryd.pinned (.plain (OpenSpec.upto quietSpec)) quietUptoCard
end Rows
end Go.Proofs.YtheibfffilomcaaDoor
