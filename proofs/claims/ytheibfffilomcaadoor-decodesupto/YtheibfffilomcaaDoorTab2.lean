/- The listed table of spans as cells. -/
import Derived.Test.YtheibfffilomcaaDoorTab
import Derived.Test.YtheibfffilomcaaDoorWid
namespace Go.Proofs.YtheibfffilomcaaDoor
open Go.RowKit

theorem g0 : Tryd.prog.globalNamed "slate/chars.spans" = some 0 := by kernel_rfl
theorem g0T : (Tryd.prog.globals[0]?).map (·.type) = some 102 := by kernel_rfl
theorem cells53 : Tryd.prog.cellsOf 101 = 3 := by kernel_rfl
theorem cells54 : Tryd.prog.cellsOf 102 = 42 := by kernel_rfl

section
variable {H : Type} {enc : TypeId × Value → H} {w : World} {base : Nat} {sp : Nat → Bool} {held : Bool} {fuel : Nat}

theorem span_cells {cs : List Value} {p : List MemPlace} {a b c : Int}
    (h : DataW.trod enc Tryd.prog w base sp held fuel 101 cs = some (.agg [.lit (.int .i64 a), .lit (.int .i64 b), .lit (.int .i64 c)], p)) :
    cs = [.int .i64 a, .int .i64 b, .int .i64 c] := by
  obtain ⟨xs, n, rfl, hx, hl, hxl, hf⟩ := DataW.trod_struct Tryd.underlying101 h
  have hx1 : xs.map (·.1) = [.lit (.int .i64 a), .lit (.int .i64 b), .lit (.int .i64 c)] := by
    have := congrArg Prod.fst hx
    simpa using this.symm
  rw [cells53] at hl
  have f0 : (cs.drop 0).take (Tryd.prog.cellsOf 3) = [.int .i64 a] := int_field Tryd.underlying3 (by rw [hx1]; rfl) (hf 0 _ rfl)
  rw [cells3] at f0
  have f1 : (cs.drop 1).take (Tryd.prog.cellsOf 3) = [.int .i64 b] := int_field Tryd.underlying3 (by rw [hx1]; rfl) (hf 1 _ rfl)
  rw [cells3] at f1
  have f2 : (cs.drop 2).take (Tryd.prog.cellsOf 3) = [.int .i64 c] := int_field Tryd.underlying3 (by rw [hx1]; rfl) (hf 2 _ rfl)
  rw [cells3] at f2
  have := flat_of_rows 1 [[.int .i64 a], [.int .i64 b], [.int .i64 c]] cs (by simpa using hl) (fun i r hr => by
    match i, hr with
    | 0, hr => simp at hr; subst hr; exact f0
    | 1, hr => simp at hr; subst hr; exact f1
    | 2, hr => simp at hr; subst hr; exact f2
    | n + 3, hr => simp at hr)
  simpa using this

theorem span_field {xs : List (DataW H × List MemPlace)} {i : Nat} {cs : List Value} {a b c : Int}
    (hx : (xs.map (·.1))[i]? = some (.agg [.lit (.int .i64 a), .lit (.int .i64 b), .lit (.int .i64 c)]))
    (h : DataW.trod enc Tryd.prog w base sp held fuel 101 cs = xs[i]?) : cs = [.int .i64 a, .int .i64 b, .int .i64 c] := by
  rw [List.getElem?_map] at hx
  cases hxi : xs[i]? with
  | none => rw [hxi] at hx; simp at hx
  | some x =>
    rw [hxi] at hx h
    simp only [Option.map_some, Option.some.injEq] at hx
    exact span_cells (p := x.2) (by rw [h, ← hx])

theorem spans_cells {cs : List Value} {p : List MemPlace} (h : DataW.trod enc Tryd.prog w base sp held fuel 102 cs = some (Rows.laid_slate_chars_spans, p)) : cs = spansArr.toList := by
  obtain ⟨xs, n, rfl, hx, hl, hxl, hf⟩ := DataW.trod_array Tryd.underlying102 h
  have hx0 : DataW.agg (xs.map (·.1)) = Rows.laid_slate_chars_spans := (congrArg Prod.fst hx).symm
  unfold Rows.laid_slate_chars_spans at hx0
  have hx1 := DataW.agg.inj hx0
  rw [cells54] at hl
  simp only [cells53] at hf
  have f0 := span_field (by rw [hx1]; rfl) (hf 0 (by omega))
  have f1 := span_field (by rw [hx1]; rfl) (hf 1 (by omega))
  have f2 := span_field (by rw [hx1]; rfl) (hf 2 (by omega))
  have f3 := span_field (by rw [hx1]; rfl) (hf 3 (by omega))
  have f4 := span_field (by rw [hx1]; rfl) (hf 4 (by omega))
  have f5 := span_field (by rw [hx1]; rfl) (hf 5 (by omega))
  have f6 := span_field (by rw [hx1]; rfl) (hf 6 (by omega))
  have f7 := span_field (by rw [hx1]; rfl) (hf 7 (by omega))
  have f8 := span_field (by rw [hx1]; rfl) (hf 8 (by omega))
  have f9 := span_field (by rw [hx1]; rfl) (hf 9 (by omega))
  have f10 := span_field (by rw [hx1]; rfl) (hf 10 (by omega))
  have f11 := span_field (by rw [hx1]; rfl) (hf 11 (by omega))
  have f12 := span_field (by rw [hx1]; rfl) (hf 12 (by omega))
  have f13 := span_field (by rw [hx1]; rfl) (hf 13 (by omega))
  have := flat_of_rows 3 [[.int .i64 0, .int .i64 31, .int .i64 0], [.int .i64 127, .int .i64 159, .int .i64 0], [.int .i64 768, .int .i64 879, .int .i64 0], [.int .i64 4352, .int .i64 4447, .int .i64 2], [.int .i64 8203, .int .i64 8207, .int .i64 0], [.int .i64 11904, .int .i64 42191, .int .i64 2], [.int .i64 44032, .int .i64 55203, .int .i64 2], [.int .i64 63744, .int .i64 64255, .int .i64 2], [.int .i64 65024, .int .i64 65039, .int .i64 0], [.int .i64 65072, .int .i64 65135, .int .i64 2], [.int .i64 65280, .int .i64 65376, .int .i64 2], [.int .i64 65504, .int .i64 65510, .int .i64 2], [.int .i64 127744, .int .i64 128591, .int .i64 2], [.int .i64 131072, .int .i64 262141, .int .i64 2]] cs (by simpa using hl) (fun i r hr => by
    match i, hr with
    | 0, hr => exact f0.trans (Option.some.inj hr)
    | 1, hr => exact f1.trans (Option.some.inj hr)
    | 2, hr => exact f2.trans (Option.some.inj hr)
    | 3, hr => exact f3.trans (Option.some.inj hr)
    | 4, hr => exact f4.trans (Option.some.inj hr)
    | 5, hr => exact f5.trans (Option.some.inj hr)
    | 6, hr => exact f6.trans (Option.some.inj hr)
    | 7, hr => exact f7.trans (Option.some.inj hr)
    | 8, hr => exact f8.trans (Option.some.inj hr)
    | 9, hr => exact f9.trans (Option.some.inj hr)
    | 10, hr => exact f10.trans (Option.some.inj hr)
    | 11, hr => exact f11.trans (Option.some.inj hr)
    | 12, hr => exact f12.trans (Option.some.inj hr)
    | 13, hr => exact f13.trans (Option.some.inj hr)
    | n + 14, hr => simp at hr)
  rw [this]
  rfl
end

/-- What the row's list gives: the table of spans lies where the program has it (it stands second on the list). -/
theorem spans_of {W : World} {d : DataW Unit} {rest : List (String × DataW Unit)} (h : laidMet Tryd.prog (("slate/chars.leads", d) :: ("slate/chars.spans", Rows.laid_slate_chars_spans) :: rest) W) : Spans W := by
  obtain ⟨ps, ⟨_, _, _, _, _, q0, _, _, _, _, ⟨g', t', cs, fuel, p, q, hg', ht', hvar, hd, _, _⟩, _⟩, _⟩ := h
  obtain rfl := Option.some.inj (g0.symm.trans hg')
  obtain rfl := Option.some.inj (g0T.symm.trans ht')
  have hc := spans_cells hd
  unfold World.var? at hvar
  rw [g0] at hvar
  simp only [Option.bind_some] at hvar
  split at hvar
  · rename_i cs' t fr hb
    simp only [Option.some.injEq] at hvar
    subst hvar
    have : cs' = spansArr := Array.toList_inj.1 hc
    exact ⟨t, fr, by rw [hb, this]⟩
  · cases hvar

end Go.Proofs.YtheibfffilomcaaDoor
