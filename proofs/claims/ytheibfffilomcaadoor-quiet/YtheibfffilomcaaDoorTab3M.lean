/- Tab Tab2 Tab3 together. -/
import Derived.Test.YtheibfffilomcaaDoorDefs
import Derived.OpenShut
import Derived.ProofKit
import Derived.Lib.LaidTab
import Derived.Test.YtheibfffilomcaaDoorWid
import Derived.Test.YtheibfffilomcaaDoorXcM

/- The listed tables as cells: from what the row lists to what lies in memory. -/
namespace Go.Proofs.YtheibfffilomcaaDoor
open Go.RowKit

theorem g1 : Tryd.prog.globalNamed "slate/chars.leads" = some 1 := by kernel_rfl
theorem g1T : (Tryd.prog.globals[1]?).map (·.type) = some 128 := by kernel_rfl
theorem cells3 : Tryd.prog.cellsOf 3 = 1 := by kernel_rfl
theorem cells5 : Tryd.prog.cellsOf 5 = 1 := by kernel_rfl
theorem cells73 : Tryd.prog.cellsOf 127 = 6 := by kernel_rfl
theorem cells74 : Tryd.prog.cellsOf 128 = 48 := by kernel_rfl

theorem flat_of_rows (m : Nat) : ∀ (rows : List (List Value)) (cs : List Value), cs.length = rows.length * m → (∀ i r, rows[i]? = some r → (cs.drop (i * m)).take m = r) → cs = rows.flatten
  | [], cs, hl, _ => by
    have : cs.length = 0 := by simpa using hl
    simp [List.eq_nil_of_length_eq_zero this]
  | r :: rs, cs, hl, h => by
    have h0 := h 0 r rfl
    simp only [Nat.zero_mul, List.drop_zero] at h0
    have hl' : cs.length = rs.length * m + m := by rw [hl, List.length_cons, Nat.add_mul, Nat.one_mul]
    have ih := flat_of_rows m rs (cs.drop m) (by rw [List.length_drop]; omega) (fun i r' hr => by
      have := h (i + 1) r' (by simpa using hr)
      rw [List.drop_drop, show m + i * m = (i + 1) * m by rw [Nat.add_mul, Nat.one_mul, Nat.add_comm]]
      exact this)
    rw [List.flatten_cons, ← ih, ← h0, List.take_append_drop]

section
variable {H : Type} {enc : TypeId × Value → H} {w : World} {base : Nat} {sp : Nat → Bool} {held : Bool} {fuel : Nat}

theorem int_field {t : TypeId} {k : IntKind} {n : Int} {xs : List (DataW H × List MemPlace)} {i : Nat} {cs : List Value} (ht : Tryd.prog.underlying t = some (.int k))
    (hx : (xs.map (·.1))[i]? = some (.lit (.int k n))) (h : DataW.trod enc Tryd.prog w base sp held fuel t cs = xs[i]?) : cs = [.int k n] := by
  rw [List.getElem?_map] at hx
  cases hxi : xs[i]? with
  | none => rw [hxi] at hx; simp at hx
  | some x =>
    rw [hxi] at hx h
    obtain ⟨z, hc, rfl, _⟩ := DataW.trod_int ht h
    simp at hx
    rw [hc, hx]

theorem lead_cells {cs : List Value} {p : List MemPlace} {a b c d e f : Int}
    (h : DataW.trod enc Tryd.prog w base sp held fuel 127 cs = some (.agg [.lit (.int .u8 a), .lit (.int .u8 b), .lit (.int .u8 c), .lit (.int .i64 d), .lit (.int .u8 e), .lit (.int .u8 f)], p)) :
    cs = [.int .u8 a, .int .u8 b, .int .u8 c, .int .i64 d, .int .u8 e, .int .u8 f] := by
  obtain ⟨xs, n, rfl, hx, hl, hxl, hf⟩ := DataW.trod_struct Tryd.underlying127 h
  have hx1 : xs.map (·.1) = [.lit (.int .u8 a), .lit (.int .u8 b), .lit (.int .u8 c), .lit (.int .i64 d), .lit (.int .u8 e), .lit (.int .u8 f)] := by
    have := congrArg Prod.fst hx
    simpa using this.symm
  rw [cells73] at hl
  have f0 : (cs.drop 0).take (Tryd.prog.cellsOf 5) = [.int .u8 a] := int_field Tryd.underlying5 (by rw [hx1]; rfl) (hf 0 _ rfl)
  rw [cells5] at f0
  have f1 : (cs.drop 1).take (Tryd.prog.cellsOf 5) = [.int .u8 b] := int_field Tryd.underlying5 (by rw [hx1]; rfl) (hf 1 _ rfl)
  rw [cells5] at f1
  have f2 : (cs.drop 2).take (Tryd.prog.cellsOf 5) = [.int .u8 c] := int_field Tryd.underlying5 (by rw [hx1]; rfl) (hf 2 _ rfl)
  rw [cells5] at f2
  have f3 : (cs.drop 3).take (Tryd.prog.cellsOf 3) = [.int .i64 d] := int_field Tryd.underlying3 (by rw [hx1]; rfl) (hf 3 _ rfl)
  rw [cells3] at f3
  have f4 : (cs.drop 4).take (Tryd.prog.cellsOf 5) = [.int .u8 e] := int_field Tryd.underlying5 (by rw [hx1]; rfl) (hf 4 _ rfl)
  rw [cells5] at f4
  have f5 : (cs.drop 5).take (Tryd.prog.cellsOf 5) = [.int .u8 f] := int_field Tryd.underlying5 (by rw [hx1]; rfl) (hf 5 _ rfl)
  rw [cells5] at f5
  have := flat_of_rows 1 [[.int .u8 a], [.int .u8 b], [.int .u8 c], [.int .i64 d], [.int .u8 e], [.int .u8 f]] cs (by simpa using hl) (fun i r hr => by
    match i, hr with
    | 0, hr => simp at hr; subst hr; exact f0
    | 1, hr => simp at hr; subst hr; exact f1
    | 2, hr => simp at hr; subst hr; exact f2
    | 3, hr => simp at hr; subst hr; exact f3
    | 4, hr => simp at hr; subst hr; exact f4
    | 5, hr => simp at hr; subst hr; exact f5
    | n + 6, hr => simp at hr)
  simpa using this

theorem row_field {xs : List (DataW H × List MemPlace)} {i : Nat} {cs : List Value} {a b c d e f : Int}
    (hx : (xs.map (·.1))[i]? = some (.agg [.lit (.int .u8 a), .lit (.int .u8 b), .lit (.int .u8 c), .lit (.int .i64 d), .lit (.int .u8 e), .lit (.int .u8 f)]))
    (h : DataW.trod enc Tryd.prog w base sp held fuel 127 cs = xs[i]?) : cs = [.int .u8 a, .int .u8 b, .int .u8 c, .int .i64 d, .int .u8 e, .int .u8 f] := by
  rw [List.getElem?_map] at hx
  cases hxi : xs[i]? with
  | none => rw [hxi] at hx; simp at hx
  | some x =>
    rw [hxi] at hx h
    simp only [Option.map_some, Option.some.injEq] at hx
    exact lead_cells (p := x.2) (by rw [h, ← hx])

theorem leads_cells {cs : List Value} {p : List MemPlace} (h : DataW.trod enc Tryd.prog w base sp held fuel 128 cs = some (Rows.laid_slate_chars_leads, p)) : cs = leadsArr.toList := by
  obtain ⟨xs, n, rfl, hx, hl, hxl, hf⟩ := DataW.trod_array Tryd.underlying128 h
  have hx0 : DataW.agg (xs.map (·.1)) = Rows.laid_slate_chars_leads := (congrArg Prod.fst hx).symm
  unfold Rows.laid_slate_chars_leads at hx0
  have hx1 := DataW.agg.inj hx0
  rw [cells74] at hl
  simp only [cells73] at hf
  have f0 := row_field (by rw [hx1]; rfl) (hf 0 (by omega))
  have f1 := row_field (by rw [hx1]; rfl) (hf 1 (by omega))
  have f2 := row_field (by rw [hx1]; rfl) (hf 2 (by omega))
  have f3 := row_field (by rw [hx1]; rfl) (hf 3 (by omega))
  have f4 := row_field (by rw [hx1]; rfl) (hf 4 (by omega))
  have f5 := row_field (by rw [hx1]; rfl) (hf 5 (by omega))
  have f6 := row_field (by rw [hx1]; rfl) (hf 6 (by omega))
  have f7 := row_field (by rw [hx1]; rfl) (hf 7 (by omega))
  have := flat_of_rows 6 [[.int .u8 194, .int .u8 223, .int .u8 31, .int .i64 1, .int .u8 128, .int .u8 191], [.int .u8 224, .int .u8 224, .int .u8 15, .int .i64 2, .int .u8 160, .int .u8 191], [.int .u8 225, .int .u8 236, .int .u8 15, .int .i64 2, .int .u8 128, .int .u8 191], [.int .u8 237, .int .u8 237, .int .u8 15, .int .i64 2, .int .u8 128, .int .u8 159], [.int .u8 238, .int .u8 239, .int .u8 15, .int .i64 2, .int .u8 128, .int .u8 191], [.int .u8 240, .int .u8 240, .int .u8 7, .int .i64 3, .int .u8 144, .int .u8 191], [.int .u8 241, .int .u8 243, .int .u8 7, .int .i64 3, .int .u8 128, .int .u8 191], [.int .u8 244, .int .u8 244, .int .u8 7, .int .i64 3, .int .u8 128, .int .u8 143]] cs (by simpa using hl) (fun i r hr => by
    match i, hr with
    | 0, hr => exact f0.trans (Option.some.inj hr)
    | 1, hr => exact f1.trans (Option.some.inj hr)
    | 2, hr => exact f2.trans (Option.some.inj hr)
    | 3, hr => exact f3.trans (Option.some.inj hr)
    | 4, hr => exact f4.trans (Option.some.inj hr)
    | 5, hr => exact f5.trans (Option.some.inj hr)
    | 6, hr => exact f6.trans (Option.some.inj hr)
    | 7, hr => exact f7.trans (Option.some.inj hr)
    | n + 8, hr => simp at hr)
  rw [this]
  rfl
end

/-- WHAT THE ROW's LIST GIVES: the table of leads lies where the program has it (it stands first on the list). -/
theorem leads_of {W : World} {rest : List (String × DataW Unit)} (h : laidMet Tryd.prog (("slate/chars.leads", Rows.laid_slate_chars_leads) :: rest) W) : Leads W := by
  obtain ⟨ps, ⟨g', t', cs, fuel, p, q, hg', ht', hvar, hd, _, _⟩, _⟩ := h
  obtain rfl := Option.some.inj (g1.symm.trans hg')
  obtain rfl := Option.some.inj (g1T.symm.trans ht')
  have hc := leads_cells hd
  unfold World.var? at hvar
  rw [g1] at hvar
  simp only [Option.bind_some] at hvar
  split at hvar
  · rename_i cs' t fr hb
    simp only [Option.some.injEq] at hvar
    subst hvar
    have : cs' = leadsArr := Array.toList_inj.1 hc
    exact ⟨t, fr, by rw [hb, this]⟩
  · cases hvar

end Go.Proofs.YtheibfffilomcaaDoor

/- The listed table of spans as cells. -/
namespace Go.Proofs.YtheibfffilomcaaDoor
open Go.RowKit

theorem g0 : Tryd.prog.globalNamed "slate/chars.spans" = some 0 := by kernel_rfl
theorem g0T : (Tryd.prog.globals[0]?).map (·.type) = some 102 := by kernel_rfl
theorem cells53 : Tryd.prog.cellsOf 101 = 3 := by kernel_rfl
theorem cells54 : Tryd.prog.cellsOf 102 = 42 := by kernel_rfl

section
variable {H : Type} {enc : TypeId × Value → H} {w : World} {base : Nat} {sp : Nat → Bool} {held : Bool} {fuel : Nat}

theorem span_cells {cs : List Value} {p : List MemPlace} {a b c : Int}
    (h : DataW.trod enc Tryd.prog w base sp held fuel 101 cs = some (.agg [.lit (.int .i64 a), .lit (.int .i64 b), .lit (.int .i64 c)], p)) :
    cs = [.int .i64 a, .int .i64 b, .int .i64 c] := by
  obtain ⟨xs, n, rfl, hx, hl, hxl, hf⟩ := DataW.trod_struct Tryd.underlying101 h
  have hx1 : xs.map (·.1) = [.lit (.int .i64 a), .lit (.int .i64 b), .lit (.int .i64 c)] := by
    have := congrArg Prod.fst hx
    simpa using this.symm
  rw [cells53] at hl
  have f0 : (cs.drop 0).take (Tryd.prog.cellsOf 3) = [.int .i64 a] := int_field Tryd.underlying3 (by rw [hx1]; rfl) (hf 0 _ rfl)
  rw [cells3] at f0
  have f1 : (cs.drop 1).take (Tryd.prog.cellsOf 3) = [.int .i64 b] := int_field Tryd.underlying3 (by rw [hx1]; rfl) (hf 1 _ rfl)
  rw [cells3] at f1
  have f2 : (cs.drop 2).take (Tryd.prog.cellsOf 3) = [.int .i64 c] := int_field Tryd.underlying3 (by rw [hx1]; rfl) (hf 2 _ rfl)
  rw [cells3] at f2
  have := flat_of_rows 1 [[.int .i64 a], [.int .i64 b], [.int .i64 c]] cs (by simpa using hl) (fun i r hr => by
    match i, hr with
    | 0, hr => simp at hr; subst hr; exact f0
    | 1, hr => simp at hr; subst hr; exact f1
    | 2, hr => simp at hr; subst hr; exact f2
    | n + 3, hr => simp at hr)
  simpa using this

theorem span_field {xs : List (DataW H × List MemPlace)} {i : Nat} {cs : List Value} {a b c : Int}
    (hx : (xs.map (·.1))[i]? = some (.agg [.lit (.int .i64 a), .lit (.int .i64 b), .lit (.int .i64 c)]))
    (h : DataW.trod enc Tryd.prog w base sp held fuel 101 cs = xs[i]?) : cs = [.int .i64 a, .int .i64 b, .int .i64 c] := by
  rw [List.getElem?_map] at hx
  cases hxi : xs[i]? with
  | none => rw [hxi] at hx; simp at hx
  | some x =>
    rw [hxi] at hx h
    simp only [Option.map_some, Option.some.injEq] at hx
    exact span_cells (p := x.2) (by rw [h, ← hx])

theorem spans_cells {cs : List Value} {p : List MemPlace} (h : DataW.trod enc Tryd.prog w base sp held fuel 102 cs = some (Rows.laid_slate_chars_spans, p)) : cs = spansArr.toList := by
  obtain ⟨xs, n, rfl, hx, hl, hxl, hf⟩ := DataW.trod_array Tryd.underlying102 h
  have hx0 : DataW.agg (xs.map (·.1)) = Rows.laid_slate_chars_spans := (congrArg Prod.fst hx).symm
  unfold Rows.laid_slate_chars_spans at hx0
  have hx1 := DataW.agg.inj hx0
  rw [cells54] at hl
  simp only [cells53] at hf
  have f0 := span_field (by rw [hx1]; rfl) (hf 0 (by omega))
  have f1 := span_field (by rw [hx1]; rfl) (hf 1 (by omega))
  have f2 := span_field (by rw [hx1]; rfl) (hf 2 (by omega))
  have f3 := span_field (by rw [hx1]; rfl) (hf 3 (by omega))
  have f4 := span_field (by rw [hx1]; rfl) (hf 4 (by omega))
  have f5 := span_field (by rw [hx1]; rfl) (hf 5 (by omega))
  have f6 := span_field (by rw [hx1]; rfl) (hf 6 (by omega))
  have f7 := span_field (by rw [hx1]; rfl) (hf 7 (by omega))
  have f8 := span_field (by rw [hx1]; rfl) (hf 8 (by omega))
  have f9 := span_field (by rw [hx1]; rfl) (hf 9 (by omega))
  have f10 := span_field (by rw [hx1]; rfl) (hf 10 (by omega))
  have f11 := span_field (by rw [hx1]; rfl) (hf 11 (by omega))
  have f12 := span_field (by rw [hx1]; rfl) (hf 12 (by omega))
  have f13 := span_field (by rw [hx1]; rfl) (hf 13 (by omega))
  have := flat_of_rows 3 [[.int .i64 0, .int .i64 31, .int .i64 0], [.int .i64 127, .int .i64 159, .int .i64 0], [.int .i64 768, .int .i64 879, .int .i64 0], [.int .i64 4352, .int .i64 4447, .int .i64 2], [.int .i64 8203, .int .i64 8207, .int .i64 0], [.int .i64 11904, .int .i64 42191, .int .i64 2], [.int .i64 44032, .int .i64 55203, .int .i64 2], [.int .i64 63744, .int .i64 64255, .int .i64 2], [.int .i64 65024, .int .i64 65039, .int .i64 0], [.int .i64 65072, .int .i64 65135, .int .i64 2], [.int .i64 65280, .int .i64 65376, .int .i64 2], [.int .i64 65504, .int .i64 65510, .int .i64 2], [.int .i64 127744, .int .i64 128591, .int .i64 2], [.int .i64 131072, .int .i64 262141, .int .i64 2]] cs (by simpa using hl) (fun i r hr => by
    match i, hr with
    | 0, hr => exact f0.trans (Option.some.inj hr)
    | 1, hr => exact f1.trans (Option.some.inj hr)
    | 2, hr => exact f2.trans (Option.some.inj hr)
    | 3, hr => exact f3.trans (Option.some.inj hr)
    | 4, hr => exact f4.trans (Option.some.inj hr)
    | 5, hr => exact f5.trans (Option.some.inj hr)
    | 6, hr => exact f6.trans (Option.some.inj hr)
    | 7, hr => exact f7.trans (Option.some.inj hr)
    | 8, hr => exact f8.trans (Option.some.inj hr)
    | 9, hr => exact f9.trans (Option.some.inj hr)
    | 10, hr => exact f10.trans (Option.some.inj hr)
    | 11, hr => exact f11.trans (Option.some.inj hr)
    | 12, hr => exact f12.trans (Option.some.inj hr)
    | 13, hr => exact f13.trans (Option.some.inj hr)
    | n + 14, hr => simp at hr)
  rw [this]
  rfl
end

/-- What the row's list gives: the table of spans lies where the program has it (it stands second on the list). -/
theorem spans_of {W : World} {d : DataW Unit} {rest : List (String × DataW Unit)} (h : laidMet Tryd.prog (("slate/chars.leads", d) :: ("slate/chars.spans", Rows.laid_slate_chars_spans) :: rest) W) : Spans W := by
  obtain ⟨ps, ⟨_, _, _, _, _, q0, _, _, _, _, ⟨g', t', cs, fuel, p, q, hg', ht', hvar, hd, _, _⟩, _⟩, _⟩ := h
  obtain rfl := Option.some.inj (g0.symm.trans hg')
  obtain rfl := Option.some.inj (g0T.symm.trans ht')
  have hc := spans_cells hd
  unfold World.var? at hvar
  rw [g0] at hvar
  simp only [Option.bind_some] at hvar
  split at hvar
  · rename_i cs' t fr hb
    simp only [Option.some.injEq] at hvar
    subst hvar
    have : cs' = spansArr := Array.toList_inj.1 hc
    exact ⟨t, fr, by rw [hb, this]⟩
  · cases hvar

end Go.Proofs.YtheibfffilomcaaDoor

/- The listed table of strokes as cells. -/
namespace Go.Proofs.YtheibfffilomcaaDoor
open Go.RowKit

theorem g2 : Tryd.prog.globalNamed "slate/chars.strokes" = some 2 := by kernel_rfl
theorem g2T : (Tryd.prog.globals[2]?).map (·.type) = some 151 := by kernel_rfl
theorem cellsStroke : Tryd.prog.cellsOf 150 = 2 := by kernel_rfl
theorem cellsStrokes : Tryd.prog.cellsOf 151 = 22 := by kernel_rfl

section
variable {H : Type} {enc : TypeId × Value → H} {w : World} {base : Nat} {sp : Nat → Bool} {held : Bool} {fuel : Nat}

theorem stroke_cells {cs : List Value} {p : List MemPlace} {a b : Int}
    (h : DataW.trod enc Tryd.prog w base sp held fuel 150 cs = some (.agg [.lit (.int .i64 a), .lit (.int .i64 b)], p)) :
    cs = [.int .i64 a, .int .i64 b] := by
  obtain ⟨xs, n, rfl, hx, hl, hxl, hf⟩ := DataW.trod_struct Tryd.underlying150 h
  have hx1 : xs.map (·.1) = [.lit (.int .i64 a), .lit (.int .i64 b)] := by
    have := congrArg Prod.fst hx
    simpa using this.symm
  rw [cellsStroke] at hl
  have f0 : (cs.drop 0).take (Tryd.prog.cellsOf 3) = [.int .i64 a] := int_field Tryd.underlying3 (by rw [hx1]; rfl) (hf 0 _ rfl)
  rw [cells3] at f0
  have f1 : (cs.drop 1).take (Tryd.prog.cellsOf 3) = [.int .i64 b] := int_field Tryd.underlying3 (by rw [hx1]; rfl) (hf 1 _ rfl)
  rw [cells3] at f1
  have := flat_of_rows 1 [[.int .i64 a], [.int .i64 b]] cs (by simpa using hl) (fun i r hr => by
    match i, hr with
    | 0, hr => simp at hr; subst hr; exact f0
    | 1, hr => simp at hr; subst hr; exact f1
    | n + 2, hr => simp at hr)
  simpa using this

theorem stroke_field {xs : List (DataW H × List MemPlace)} {i : Nat} {cs : List Value} {a b : Int}
    (hx : (xs.map (·.1))[i]? = some (.agg [.lit (.int .i64 a), .lit (.int .i64 b)]))
    (h : DataW.trod enc Tryd.prog w base sp held fuel 150 cs = xs[i]?) : cs = [.int .i64 a, .int .i64 b] := by
  rw [List.getElem?_map] at hx
  cases hxi : xs[i]? with
  | none => rw [hxi] at hx; simp at hx
  | some x =>
    rw [hxi] at hx h
    simp only [Option.map_some, Option.some.injEq] at hx
    exact stroke_cells (p := x.2) (by rw [h, ← hx])

theorem strokes_cells {cs : List Value} {p : List MemPlace} (h : DataW.trod enc Tryd.prog w base sp held fuel 151 cs = some (Rows.laid_slate_chars_strokes, p)) : cs = strokesArr.toList := by
  obtain ⟨xs, n, rfl, hx, hl, hxl, hf⟩ := DataW.trod_array Tryd.underlying151 h
  have hx0 : DataW.agg (xs.map (·.1)) = Rows.laid_slate_chars_strokes := (congrArg Prod.fst hx).symm
  unfold Rows.laid_slate_chars_strokes at hx0
  have hx1 := DataW.agg.inj hx0
  rw [cellsStrokes] at hl
  simp only [cellsStroke] at hf
  have f0 := stroke_field (by rw [hx1]; rfl) (hf 0 (by omega))
  have f1 := stroke_field (by rw [hx1]; rfl) (hf 1 (by omega))
  have f2 := stroke_field (by rw [hx1]; rfl) (hf 2 (by omega))
  have f3 := stroke_field (by rw [hx1]; rfl) (hf 3 (by omega))
  have f4 := stroke_field (by rw [hx1]; rfl) (hf 4 (by omega))
  have f5 := stroke_field (by rw [hx1]; rfl) (hf 5 (by omega))
  have f6 := stroke_field (by rw [hx1]; rfl) (hf 6 (by omega))
  have f7 := stroke_field (by rw [hx1]; rfl) (hf 7 (by omega))
  have f8 := stroke_field (by rw [hx1]; rfl) (hf 8 (by omega))
  have f9 := stroke_field (by rw [hx1]; rfl) (hf 9 (by omega))
  have f10 := stroke_field (by rw [hx1]; rfl) (hf 10 (by omega))
  have := flat_of_rows 2 [[.int .i64 106, .int .i64 9496], [.int .i64 107, .int .i64 9488], [.int .i64 108, .int .i64 9484], [.int .i64 109, .int .i64 9492], [.int .i64 110, .int .i64 9532], [.int .i64 113, .int .i64 9472], [.int .i64 116, .int .i64 9500], [.int .i64 117, .int .i64 9508], [.int .i64 118, .int .i64 9524], [.int .i64 119, .int .i64 9516], [.int .i64 120, .int .i64 9474]] cs (by simpa using hl) (fun i r hr => by
    match i, hr with
    | 0, hr => exact f0.trans (Option.some.inj hr)
    | 1, hr => exact f1.trans (Option.some.inj hr)
    | 2, hr => exact f2.trans (Option.some.inj hr)
    | 3, hr => exact f3.trans (Option.some.inj hr)
    | 4, hr => exact f4.trans (Option.some.inj hr)
    | 5, hr => exact f5.trans (Option.some.inj hr)
    | 6, hr => exact f6.trans (Option.some.inj hr)
    | 7, hr => exact f7.trans (Option.some.inj hr)
    | 8, hr => exact f8.trans (Option.some.inj hr)
    | 9, hr => exact f9.trans (Option.some.inj hr)
    | 10, hr => exact f10.trans (Option.some.inj hr)
    | n + 11, hr => simp at hr)
  rw [this]
  rfl
end

theorem strokes_of {W : World} {rest : List (String × DataW Unit)} (h : laidMet Tryd.prog (("slate/chars.strokes", Rows.laid_slate_chars_strokes) :: rest) W) : Strokes W := by
  obtain ⟨ps, ⟨g', t', cs, fuel, p, q, hg', ht', hvar, hd, _, _⟩, _⟩ := h
  obtain rfl := Option.some.inj (g2.symm.trans hg')
  obtain rfl := Option.some.inj (g2T.symm.trans ht')
  have hc := strokes_cells hd
  unfold World.var? at hvar
  rw [g2] at hvar
  simp only [Option.bind_some] at hvar
  split at hvar
  · rename_i cs' t fr hb
    simp only [Option.some.injEq] at hvar
    subst hvar
    have : cs' = strokesArr := Array.toList_inj.1 hc
    exact ⟨t, fr, by rw [hb, this]⟩
  · cases hvar
theorem leads_of2 {W : World} {d : DataW Unit} {rest : List (String × DataW Unit)} (h : laidMet Tryd.prog (("slate/chars.strokes", d) :: ("slate/chars.leads", Rows.laid_slate_chars_leads) :: rest) W) : Leads W := by
  obtain ⟨ps, ⟨_, _, _, _, _, q0, _, _, _, _, ⟨g', t', cs, fuel, p, q, hg', ht', hvar, hd, _, _⟩, _⟩, _⟩ := h
  obtain rfl := Option.some.inj (g1.symm.trans hg')
  obtain rfl := Option.some.inj (g1T.symm.trans ht')
  have hc := leads_cells hd
  unfold World.var? at hvar
  rw [g1] at hvar
  simp only [Option.bind_some] at hvar
  split at hvar
  · rename_i cs' t fr hb
    simp only [Option.some.injEq] at hvar
    subst hvar
    have : cs' = leadsArr := Array.toList_inj.1 hc
    exact ⟨t, fr, by rw [hb, this]⟩
  · cases hvar
theorem spans_of3 {W : World} {d d' : DataW Unit} {rest : List (String × DataW Unit)} (h : laidMet Tryd.prog (("slate/chars.strokes", d) :: ("slate/chars.leads", d') :: ("slate/chars.spans", Rows.laid_slate_chars_spans) :: rest) W) : Spans W := by
  obtain ⟨ps, ⟨_, _, _, _, _, q0, _, _, _, _, ⟨_, _, _, _, _, q1, _, _, _, _, ⟨g', t', cs, fuel, p, q, hg', ht', hvar, hd, _, _⟩, _⟩, _⟩, _⟩ := h
  obtain rfl := Option.some.inj (g0.symm.trans hg')
  obtain rfl := Option.some.inj (g0T.symm.trans ht')
  have hc := spans_cells hd
  unfold World.var? at hvar
  rw [g0] at hvar
  simp only [Option.bind_some] at hvar
  split at hvar
  · rename_i cs' t fr hb
    simp only [Option.some.injEq] at hvar
    subst hvar
    have : cs' = spansArr := Array.toList_inj.1 hc
    exact ⟨t, fr, by rw [hb, this]⟩
  · cases hvar
theorem tabs_of {W : World} (h : laidMet Tryd.prog [("slate/chars.strokes", Rows.laid_slate_chars_strokes), ("slate/chars.leads", Rows.laid_slate_chars_leads), ("slate/chars.spans", Rows.laid_slate_chars_spans)] W) : Tabs W := ⟨spans_of3 h, leads_of2 h, strokes_of h⟩
end Go.Proofs.YtheibfffilomcaaDoor

