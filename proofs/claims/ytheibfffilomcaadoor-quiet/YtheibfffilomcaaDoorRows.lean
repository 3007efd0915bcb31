/-
  NARROWER THAN 'FOR EVERY INPUT', by the rows' own cells (each row's printed sentence says how): Decodes: laid · Reads: laid · Told: laid · Types: laid · Chunks: laid · Bounds: laid · Quiet: laid.
  DERIVED. THE GIVEN ROWS OF THIS SEAT. 7 by the template 'for every input the law returns true; each argument reads behind the call as it read before'; 0 by the template 'total and deterministic' (their statements: YtheibfffilomcaaDoorTotals.lean).
  GIVEN WITH THE SEED: the statements are not yours to turn. If you find one false, say at which input.
  Laid BY PROGRAM, IN A SANDBOX (cutbox-rows.mjs): the forced cells as the released guide's own fill.sh prints them over the translation 2128ef049e92e2ca… (all of the seat's roots in one cut). By AI agents, Wed Nov 11 2026. No macro, syntax, notation, axiom, sorry.
-/
import Derived.Test.YtheibfffilomcaaDoorChecked
import GoSem.Claim
import GoSem.ClaimJoined
import GoSem.ClaimMapViews
import Derived.JoinedTies
import Derived.KernelRfl
namespace Go.Proofs.YtheibfffilomcaaDoor
/- THE CELL 'sum', in the pinned program and in every row, IS THE sha256 OF THE DUMP (.gsa) THAT YtheibfffilomcaaDoorProg.lean LOADS. Nothing in Lean hashes anything: it is a label: what it is worth is what the hold of that sum in a sandbox is worth. -/
noncomputable def Tryd.pinned : Pinned := { name := "ytheibfffilomcaadoor", sum := "2128ef049e92e2ca5bfb00727f53a757095241b8099557328a08de6d7e555378", checked := Tryd.checked }
namespace Rows
def none {H : Type} : Left H := { results := [], args := [] }

/- WHAT THE LISTED PACKAGE-LEVEL VARIABLES READ AS WHEN THE CALL BEGINS. Each datum BY PROGRAM (the guide's laid-datum.mjs) off the statement by which the dump's own 'gosem.cut.vars' lays the variable. In a bare row this is a premise. The card (YtheibfffilomcaaDoorCards.lean) ties it to the program's text. -/
def laid_slate_chars_leads {H : Type} : DataW H := .agg [.agg [.lit (.int .u8 194), .lit (.int .u8 223), .lit (.int .u8 31), .lit (.int .i64 1), .lit (.int .u8 128), .lit (.int .u8 191)], .agg [.lit (.int .u8 224), .lit (.int .u8 224), .lit (.int .u8 15), .lit (.int .i64 2), .lit (.int .u8 160), .lit (.int .u8 191)], .agg [.lit (.int .u8 225), .lit (.int .u8 236), .lit (.int .u8 15), .lit (.int .i64 2), .lit (.int .u8 128), .lit (.int .u8 191)], .agg [.lit (.int .u8 237), .lit (.int .u8 237), .lit (.int .u8 15), .lit (.int .i64 2), .lit (.int .u8 128), .lit (.int .u8 159)], .agg [.lit (.int .u8 238), .lit (.int .u8 239), .lit (.int .u8 15), .lit (.int .i64 2), .lit (.int .u8 128), .lit (.int .u8 191)], .agg [.lit (.int .u8 240), .lit (.int .u8 240), .lit (.int .u8 7), .lit (.int .i64 3), .lit (.int .u8 144), .lit (.int .u8 191)], .agg [.lit (.int .u8 241), .lit (.int .u8 243), .lit (.int .u8 7), .lit (.int .i64 3), .lit (.int .u8 128), .lit (.int .u8 191)], .agg [.lit (.int .u8 244), .lit (.int .u8 244), .lit (.int .u8 7), .lit (.int .i64 3), .lit (.int .u8 128), .lit (.int .u8 143)]]
def laid_slate_chars_spans {H : Type} : DataW H := .agg [.agg [.lit (.int .i64 0), .lit (.int .i64 31), .lit (.int .i64 0)], .agg [.lit (.int .i64 127), .lit (.int .i64 159), .lit (.int .i64 0)], .agg [.lit (.int .i64 768), .lit (.int .i64 879), .lit (.int .i64 0)], .agg [.lit (.int .i64 4352), .lit (.int .i64 4447), .lit (.int .i64 2)], .agg [.lit (.int .i64 8203), .lit (.int .i64 8207), .lit (.int .i64 0)], .agg [.lit (.int .i64 11904), .lit (.int .i64 42191), .lit (.int .i64 2)], .agg [.lit (.int .i64 44032), .lit (.int .i64 55203), .lit (.int .i64 2)], .agg [.lit (.int .i64 63744), .lit (.int .i64 64255), .lit (.int .i64 2)], .agg [.lit (.int .i64 65024), .lit (.int .i64 65039), .lit (.int .i64 0)], .agg [.lit (.int .i64 65072), .lit (.int .i64 65135), .lit (.int .i64 2)], .agg [.lit (.int .i64 65280), .lit (.int .i64 65376), .lit (.int .i64 2)], .agg [.lit (.int .i64 65504), .lit (.int .i64 65510), .lit (.int .i64 2)], .agg [.lit (.int .i64 127744), .lit (.int .i64 128591), .lit (.int .i64 2)], .agg [.lit (.int .i64 131072), .lit (.int .i64 262141), .lit (.int .i64 2)]]
def laid_slate_chars_strokes {H : Type} : DataW H := .agg [.agg [.lit (.int .i64 106), .lit (.int .i64 9496)], .agg [.lit (.int .i64 107), .lit (.int .i64 9488)], .agg [.lit (.int .i64 108), .lit (.int .i64 9484)], .agg [.lit (.int .i64 109), .lit (.int .i64 9492)], .agg [.lit (.int .i64 110), .lit (.int .i64 9532)], .agg [.lit (.int .i64 113), .lit (.int .i64 9472)], .agg [.lit (.int .i64 116), .lit (.int .i64 9500)], .agg [.lit (.int .i64 117), .lit (.int .i64 9508)], .agg [.lit (.int .i64 118), .lit (.int .i64 9524)], .agg [.lit (.int .i64 119), .lit (.int .i64 9516)], .agg [.lit (.int .i64 120), .lit (.int .i64 9474)]]

/-- 'slatelaw.Decodes': WHATEVER THE INPUT: true; the input reads as it did. -/
def decodesSpec : ChangeSpec := { name := "decodes", fn := fun _ => fun
  | [d1, d2] => { results := [.lit (.bool true)], args := [d1, d2] }
  | _ => none }
def decodesRow : OpenClaim := { program := "ytheibfffilomcaadoor", sum := "2128ef049e92e2ca5bfb00727f53a757095241b8099557328a08de6d7e555378", func := "slate/slatelaw.Decodes", spec := "decodes", named := ["slate/chars.spans", "slate/chars.leads"], apart := false, laid := [("slate/chars.leads", laid_slate_chars_leads), ("slate/chars.spans", laid_slate_chars_spans)] }
def DecodesSaid : Prop := decodesRow.holds Tryd.pinned (OpenSpec.ofChange decodesSpec)

/-- ITS FALSE NEIGHBOUR: 'it returns false'. Refute it at one input. -/
def decodesWrong : ChangeSpec := { name := "decodes", fn := fun _ => fun
  | [d1, d2] => { results := [.lit (.bool false)], args := [d1, d2] }
  | _ => none }
def DecodesWrongFalsely : Prop := decodesRow.holds Tryd.pinned (OpenSpec.ofChange decodesWrong)

/-- 'slatelaw.Reads': WHATEVER THE INPUT: true; the input reads as it did. -/
def readsSpec : ChangeSpec := { name := "reads", fn := fun _ => fun
  | [d] => { results := [.lit (.bool true)], args := [d] }
  | _ => none }
def readsRow : OpenClaim := { program := "ytheibfffilomcaadoor", sum := "2128ef049e92e2ca5bfb00727f53a757095241b8099557328a08de6d7e555378", func := "slate/slatelaw.Reads", spec := "reads", named := ["slate/chars.leads"], apart := false, laid := [("slate/chars.leads", laid_slate_chars_leads)] }
def ReadsSaid : Prop := readsRow.holds Tryd.pinned (OpenSpec.ofChange readsSpec)

/-- ITS FALSE NEIGHBOUR: 'it returns false'. Refute it at one input. -/
def readsWrong : ChangeSpec := { name := "reads", fn := fun _ => fun
  | [d] => { results := [.lit (.bool false)], args := [d] }
  | _ => none }
def ReadsWrongFalsely : Prop := readsRow.holds Tryd.pinned (OpenSpec.ofChange readsWrong)

/-- 'slatekeep.Told': WHATEVER THE INPUT: true; the input reads as it did. -/
def toldSpec : ChangeSpec := { name := "told", fn := fun _ => fun
  | [d1, d2] => { results := [.lit (.bool true)], args := [d1, d2] }
  | _ => none }
def toldRow : OpenClaim := { program := "ytheibfffilomcaadoor", sum := "2128ef049e92e2ca5bfb00727f53a757095241b8099557328a08de6d7e555378", func := "slate/slatekeep.Told", spec := "told", named := ["slate/chars.leads"], apart := false, laid := [("slate/chars.leads", laid_slate_chars_leads)] }
def ToldSaid : Prop := toldRow.holds Tryd.pinned (OpenSpec.ofChange toldSpec)

/-- ITS FALSE NEIGHBOUR: 'it returns false'. Refute it at one input. -/
def toldWrong : ChangeSpec := { name := "told", fn := fun _ => fun
  | [d1, d2] => { results := [.lit (.bool false)], args := [d1, d2] }
  | _ => none }
def ToldWrongFalsely : Prop := toldRow.holds Tryd.pinned (OpenSpec.ofChange toldWrong)

/-- 'slatekeep.Types': WHATEVER THE INPUT: true; the input reads as it did. -/
def typesSpec : ChangeSpec := { name := "types", fn := fun _ => fun
  | [d1, d2] => { results := [.lit (.bool true)], args := [d1, d2] }
  | _ => none }
def typesRow : OpenClaim := { program := "ytheibfffilomcaadoor", sum := "2128ef049e92e2ca5bfb00727f53a757095241b8099557328a08de6d7e555378", func := "slate/slatekeep.Types", spec := "types", inPlace := ["internal/bytealg.IndexByteString"], named := ["slate/chars.leads", "slate/chars.spans", "slate/chars.strokes"], apart := false, laid := [("slate/chars.strokes", laid_slate_chars_strokes), ("slate/chars.leads", laid_slate_chars_leads), ("slate/chars.spans", laid_slate_chars_spans)] }
def TypesSaid : Prop := typesRow.holds Tryd.pinned (OpenSpec.ofChange typesSpec)

/-- ITS FALSE NEIGHBOUR: 'it returns false'. Refute it at one input. -/
def typesWrong : ChangeSpec := { name := "types", fn := fun _ => fun
  | [d1, d2] => { results := [.lit (.bool false)], args := [d1, d2] }
  | _ => none }
def TypesWrongFalsely : Prop := typesRow.holds Tryd.pinned (OpenSpec.ofChange typesWrong)

/-- 'slatekeep.Chunks': WHATEVER THE INPUT: true; the input reads as it did. -/
def chunksSpec : ChangeSpec := { name := "chunks", fn := fun _ => fun
  | [d1, d2, d3, d4] => { results := [.lit (.bool true)], args := [d1, d2, d3, d4] }
  | _ => none }
def chunksRow : OpenClaim := { program := "ytheibfffilomcaadoor", sum := "2128ef049e92e2ca5bfb00727f53a757095241b8099557328a08de6d7e555378", func := "slate/slatekeep.Chunks", spec := "chunks", inPlace := ["internal/bytealg.IndexByteString"], named := ["slate/chars.leads", "slate/chars.spans", "slate/chars.strokes"], apart := false, laid := [("slate/chars.strokes", laid_slate_chars_strokes), ("slate/chars.leads", laid_slate_chars_leads), ("slate/chars.spans", laid_slate_chars_spans)] }
def ChunksSaid : Prop := chunksRow.holds Tryd.pinned (OpenSpec.ofChange chunksSpec)

/-- ITS FALSE NEIGHBOUR: 'it returns false'. Refute it at one input. -/
def chunksWrong : ChangeSpec := { name := "chunks", fn := fun _ => fun
  | [d1, d2, d3, d4] => { results := [.lit (.bool false)], args := [d1, d2, d3, d4] }
  | _ => none }
def ChunksWrongFalsely : Prop := chunksRow.holds Tryd.pinned (OpenSpec.ofChange chunksWrong)

/-- 'slatekeep.Bounds': WHATEVER THE INPUT: true; the input reads as it did. -/
def boundsSpec : ChangeSpec := { name := "bounds", fn := fun _ => fun
  | [d1, d2] => { results := [.lit (.bool true)], args := [d1, d2] }
  | _ => none }
def boundsRow : OpenClaim := { program := "ytheibfffilomcaadoor", sum := "2128ef049e92e2ca5bfb00727f53a757095241b8099557328a08de6d7e555378", func := "slate/slatekeep.Bounds", spec := "bounds", inPlace := ["internal/bytealg.IndexByteString"], named := ["slate/chars.leads", "slate/chars.spans", "slate/chars.strokes"], apart := false, laid := [("slate/chars.strokes", laid_slate_chars_strokes), ("slate/chars.leads", laid_slate_chars_leads), ("slate/chars.spans", laid_slate_chars_spans)] }
def BoundsSaid : Prop := boundsRow.holds Tryd.pinned (OpenSpec.ofChange boundsSpec)

/-- ITS FALSE NEIGHBOUR: 'it returns false'. Refute it at one input. -/
def boundsWrong : ChangeSpec := { name := "bounds", fn := fun _ => fun
  | [d1, d2] => { results := [.lit (.bool false)], args := [d1, d2] }
  | _ => none }
def BoundsWrongFalsely : Prop := boundsRow.holds Tryd.pinned (OpenSpec.ofChange boundsWrong)

/-- 'slatekeep.Quiet': WHATEVER THE INPUT: true; the input reads as it did. -/
def quietSpec : ChangeSpec := { name := "quiet", fn := fun _ => fun
  | [d1, d2, d3, d4, d5] => { results := [.lit (.bool true)], args := [d1, d2, d3, d4, d5] }
  | _ => none }
def quietRow : OpenClaim := { program := "ytheibfffilomcaadoor", sum := "2128ef049e92e2ca5bfb00727f53a757095241b8099557328a08de6d7e555378", func := "slate/slatekeep.Quiet", spec := "quiet", inPlace := ["internal/bytealg.IndexByteString"], named := ["slate/chars.leads", "slate/chars.spans", "slate/chars.strokes"], apart := false, laid := [("slate/chars.strokes", laid_slate_chars_strokes), ("slate/chars.leads", laid_slate_chars_leads), ("slate/chars.spans", laid_slate_chars_spans)] }
def QuietSaid : Prop := quietRow.holds Tryd.pinned (OpenSpec.ofChange quietSpec)

/-- ITS FALSE NEIGHBOUR: 'it returns false'. Refute it at one input. -/
def quietWrong : ChangeSpec := { name := "quiet", fn := fun _ => fun
  | [d1, d2, d3, d4, d5] => { results := [.lit (.bool false)], args := [d1, d2, d3, d4, d5] }
  | _ => none }
def QuietWrongFalsely : Prop := quietRow.holds Tryd.pinned (OpenSpec.ofChange quietWrong)

/- THE SECOND FORM. 'bulk': how many values and letters a reading holds, each counted each time it is reached (what is shared counts as often as it is met; a slice's spare places count too). A statement '..UptoSaid' is the law's where the arguments, and the package variables that the reading takes, are together of bulk at most 1048576: NARROWER than '..Said'. Prove '..Said' where nothing that the law and all that it calls make is longer than what came in: it says more and counts as full. Else prove '..UptoSaid'. A law counts once. -/
mutual
def uptoBulk {H : Type} : DataW H → Nat
  | .lit (.string bytes) => bytes.length + 1
  | .lit _ => 1
  | .nil => 1
  | .ptr d => uptoBulk d + 1
  | .slice elems spare => uptoBulkAll elems + uptoBulkAll spare + 1
  | .agg parts => uptoBulkAll parts + 1
  | .iface _ d => uptoBulk d + 1
  | .map entries => uptoBulkEntries entries + 1
  | .held _ => 1
def uptoBulkAll {H : Type} : List (DataW H) → Nat
  | [] => 0
  | d :: r => uptoBulk d + uptoBulkAll r
def uptoBulkEntries {H : Type} : List (Lit × DataW H) → Nat
  | [] => 0
  | x :: r => uptoBulkEntry x + uptoBulkEntries r
def uptoBulkEntry {H : Type} : Lit × DataW H → Nat
  | (.string bytes, d) => bytes.length + uptoBulk d + 1
  | (_, d) => uptoBulk d + 1
 end
def uptoSmall : (H : Type) → List (DataW H) → Bool := fun _ ds => decide (uptoBulkAll ds ≤ 1048576)
def OpenSpec.upto (s : _root_.Go.ChangeSpec) : _root_.Go.OpenSpec := { _root_.Go.OpenSpec.ofChange s with cond := some uptoSmall }

/-- 'slatelaw.Decodes', WHERE WHAT IT READS IS OF BULK AT MOST 1048576: true; the input reads as it did. -/
def decodesUptoRow : OpenClaim := { program := "ytheibfffilomcaadoor", sum := "2128ef049e92e2ca5bfb00727f53a757095241b8099557328a08de6d7e555378", func := "slate/slatelaw.Decodes", spec := "decodes", named := ["slate/chars.spans", "slate/chars.leads"], apart := false, laid := [("slate/chars.leads", laid_slate_chars_leads), ("slate/chars.spans", laid_slate_chars_spans)], narrowed := true }
def DecodesUptoSaid : Prop := decodesUptoRow.holds Tryd.pinned (OpenSpec.upto decodesSpec)

/-- 'slatelaw.Reads', WHERE WHAT IT READS IS OF BULK AT MOST 1048576: true; the input reads as it did. -/
def readsUptoRow : OpenClaim := { program := "ytheibfffilomcaadoor", sum := "2128ef049e92e2ca5bfb00727f53a757095241b8099557328a08de6d7e555378", func := "slate/slatelaw.Reads", spec := "reads", named := ["slate/chars.leads"], apart := false, laid := [("slate/chars.leads", laid_slate_chars_leads)], narrowed := true }
def ReadsUptoSaid : Prop := readsUptoRow.holds Tryd.pinned (OpenSpec.upto readsSpec)

/-- 'slatekeep.Told', WHERE WHAT IT READS IS OF BULK AT MOST 1048576: true; the input reads as it did. -/
def toldUptoRow : OpenClaim := { program := "ytheibfffilomcaadoor", sum := "2128ef049e92e2ca5bfb00727f53a757095241b8099557328a08de6d7e555378", func := "slate/slatekeep.Told", spec := "told", named := ["slate/chars.leads"], apart := false, laid := [("slate/chars.leads", laid_slate_chars_leads)], narrowed := true }
def ToldUptoSaid : Prop := toldUptoRow.holds Tryd.pinned (OpenSpec.upto toldSpec)

/-- 'slatekeep.Types', WHERE WHAT IT READS IS OF BULK AT MOST 1048576: true; the input reads as it did. -/
def typesUptoRow : OpenClaim := { program := "ytheibfffilomcaadoor", sum := "2128ef049e92e2ca5bfb00727f53a757095241b8099557328a08de6d7e555378", func := "slate/slatekeep.Types", spec := "types", inPlace := ["internal/bytealg.IndexByteString"], named := ["slate/chars.leads", "slate/chars.spans", "slate/chars.strokes"], apart := false, laid := [("slate/chars.strokes", laid_slate_chars_strokes), ("slate/chars.leads", laid_slate_chars_leads), ("slate/chars.spans", laid_slate_chars_spans)], narrowed := true }
def TypesUptoSaid : Prop := typesUptoRow.holds Tryd.pinned (OpenSpec.upto typesSpec)

/-- 'slatekeep.Chunks', WHERE WHAT IT READS IS OF BULK AT MOST 1048576: true; the input reads as it did. -/
def chunksUptoRow : OpenClaim := { program := "ytheibfffilomcaadoor", sum := "2128ef049e92e2ca5bfb00727f53a757095241b8099557328a08de6d7e555378", func := "slate/slatekeep.Chunks", spec := "chunks", inPlace := ["internal/bytealg.IndexByteString"], named := ["slate/chars.leads", "slate/chars.spans", "slate/chars.strokes"], apart := false, laid := [("slate/chars.strokes", laid_slate_chars_strokes), ("slate/chars.leads", laid_slate_chars_leads), ("slate/chars.spans", laid_slate_chars_spans)], narrowed := true }
def ChunksUptoSaid : Prop := chunksUptoRow.holds Tryd.pinned (OpenSpec.upto chunksSpec)

/-- 'slatekeep.Bounds', WHERE WHAT IT READS IS OF BULK AT MOST 1048576: true; the input reads as it did. -/
def boundsUptoRow : OpenClaim := { program := "ytheibfffilomcaadoor", sum := "2128ef049e92e2ca5bfb00727f53a757095241b8099557328a08de6d7e555378", func := "slate/slatekeep.Bounds", spec := "bounds", inPlace := ["internal/bytealg.IndexByteString"], named := ["slate/chars.leads", "slate/chars.spans", "slate/chars.strokes"], apart := false, laid := [("slate/chars.strokes", laid_slate_chars_strokes), ("slate/chars.leads", laid_slate_chars_leads), ("slate/chars.spans", laid_slate_chars_spans)], narrowed := true }
def BoundsUptoSaid : Prop := boundsUptoRow.holds Tryd.pinned (OpenSpec.upto boundsSpec)

/-- 'slatekeep.Quiet', WHERE WHAT IT READS IS OF BULK AT MOST 1048576: true; the input reads as it did. -/
def quietUptoRow : OpenClaim := { program := "ytheibfffilomcaadoor", sum := "2128ef049e92e2ca5bfb00727f53a757095241b8099557328a08de6d7e555378", func := "slate/slatekeep.Quiet", spec := "quiet", inPlace := ["internal/bytealg.IndexByteString"], named := ["slate/chars.leads", "slate/chars.spans", "slate/chars.strokes"], apart := false, laid := [("slate/chars.strokes", laid_slate_chars_strokes), ("slate/chars.leads", laid_slate_chars_leads), ("slate/chars.spans", laid_slate_chars_spans)], narrowed := true }
def QuietUptoSaid : Prop := quietUptoRow.holds Tryd.pinned (OpenSpec.upto quietSpec)

end Rows
end Go.Proofs.YtheibfffilomcaaDoor
