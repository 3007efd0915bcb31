/-
  DERIVED. GIVEN WITH THE SEED: THE PROGRAM's TIES (one call each: nine closed facts by the kernel) AND EACH ROW's TIE, after the 31st guide's Derived/Test/Toyas{Tie, Card}.lean. No idea stands in it: it is a product of the set-up. Laid BY PROGRAM, IN A SANDBOX (cutbox-door.mjs). By AI agents, Wed Nov 11 2026. No macro, syntax, notation, axiom, sorry.
-/
import Derived.Test.YtheibfffilomcaaDoorRows
import Derived.LaidByTextLater
import Derived.SevenTiedAt
import Derived.LaidSub
import Derived.LaidOnce
namespace Go.Proofs.YtheibfffilomcaaDoor
open Go
set_option maxRecDepth 100000
theorem seatTie1 : Tryd.prog.laidByTextLater [("slate/chars.strokes", Rows.laid_slate_chars_strokes), ("slate/chars.leads", Rows.laid_slate_chars_leads), ("slate/chars.spans", Rows.laid_slate_chars_spans)] [.data, .data, .data] true :=
  Program.laidByTextLater_by_one 57 8 49 (by kernel_rfl) (by kernel_rfl) (by kernel_rfl) (by kernel_rfl) (by kernel_rfl) (by kernel_rfl) (fun _ _ => by kernel_rfl)
theorem noOwnUnsafe : Tryd.pinned.checked.prog.headLifts.contains "ownunsafe" = false := by kernel_rfl
theorem tie : Tryd.prog.laidByTextLater [("slate/chars.leads", Rows.laid_slate_chars_leads), ("slate/chars.spans", Rows.laid_slate_chars_spans)] [.data, .data] true :=
  Program.laidByTextLater.sub seatTie1 ["slate/chars.leads", "slate/chars.spans"] (by kernel_rfl) (by kernel_rfl)
theorem decodes_row_tie : Rows.decodesRow.laidByTextAt .later Tryd.pinned [.data, .data] true :=
  OpenClaim.laidByTextAt_later rfl rfl tie noOwnUnsafe
theorem tie2 : Tryd.prog.laidByTextLater [("slate/chars.leads", Rows.laid_slate_chars_leads)] [.data] true :=
  Program.laidByTextLater.sub seatTie1 ["slate/chars.leads"] (by kernel_rfl) (by kernel_rfl)
theorem reads_row_tie : Rows.readsRow.laidByTextAt .later Tryd.pinned [.data] true :=
  OpenClaim.laidByTextAt_later rfl rfl tie2 noOwnUnsafe
theorem told_row_tie : Rows.toldRow.laidByTextAt .later Tryd.pinned [.data] true :=
  OpenClaim.laidByTextAt_later rfl rfl tie2 noOwnUnsafe
theorem tie3 : Tryd.prog.laidByTextLater [("slate/chars.strokes", Rows.laid_slate_chars_strokes), ("slate/chars.leads", Rows.laid_slate_chars_leads), ("slate/chars.spans", Rows.laid_slate_chars_spans)] [.data, .data, .data] true :=
  Program.laidByTextLater.sub seatTie1 ["slate/chars.strokes", "slate/chars.leads", "slate/chars.spans"] (by kernel_rfl) (by kernel_rfl)
theorem types_row_tie : Rows.typesRow.laidByTextAt .later Tryd.pinned [.data, .data, .data] true :=
  OpenClaim.laidByTextAt_later rfl rfl tie3 noOwnUnsafe
theorem chunks_row_tie : Rows.chunksRow.laidByTextAt .later Tryd.pinned [.data, .data, .data] true :=
  OpenClaim.laidByTextAt_later rfl rfl tie3 noOwnUnsafe
theorem bounds_row_tie : Rows.boundsRow.laidByTextAt .later Tryd.pinned [.data, .data, .data] true :=
  OpenClaim.laidByTextAt_later rfl rfl tie3 noOwnUnsafe
theorem quiet_row_tie : Rows.quietRow.laidByTextAt .later Tryd.pinned [.data, .data, .data] true :=
  OpenClaim.laidByTextAt_later rfl rfl tie3 noOwnUnsafe
theorem decodesUpto_row_tie : Rows.decodesUptoRow.laidByTextAt .later Tryd.pinned [.data, .data] true :=
  OpenClaim.laidByTextAt_later rfl rfl tie noOwnUnsafe
theorem readsUpto_row_tie : Rows.readsUptoRow.laidByTextAt .later Tryd.pinned [.data] true :=
  OpenClaim.laidByTextAt_later rfl rfl tie2 noOwnUnsafe
theorem toldUpto_row_tie : Rows.toldUptoRow.laidByTextAt .later Tryd.pinned [.data] true :=
  OpenClaim.laidByTextAt_later rfl rfl tie2 noOwnUnsafe
theorem typesUpto_row_tie : Rows.typesUptoRow.laidByTextAt .later Tryd.pinned [.data, .data, .data] true :=
  OpenClaim.laidByTextAt_later rfl rfl tie3 noOwnUnsafe
theorem chunksUpto_row_tie : Rows.chunksUptoRow.laidByTextAt .later Tryd.pinned [.data, .data, .data] true :=
  OpenClaim.laidByTextAt_later rfl rfl tie3 noOwnUnsafe
theorem boundsUpto_row_tie : Rows.boundsUptoRow.laidByTextAt .later Tryd.pinned [.data, .data, .data] true :=
  OpenClaim.laidByTextAt_later rfl rfl tie3 noOwnUnsafe
theorem quietUpto_row_tie : Rows.quietUptoRow.laidByTextAt .later Tryd.pinned [.data, .data, .data] true :=
  OpenClaim.laidByTextAt_later rfl rfl tie3 noOwnUnsafe
end Go.Proofs.YtheibfffilomcaaDoor
