/- The terminal in memory. -/
import Derived.Test.YtheibfffilomcaaDoorTa
import Derived.Test.YtheibfffilomcaaDoorDd
namespace Go.Proofs.YtheibfffilomcaaDoor
open Go.RowKit

/-- Where a terminal's parts lie. -/
structure Lay where
  tb : Nat
  sb0 : Nat
  sb1 : Nat
  gb : Nat
  gs0 : List Nat
  gs1 : List Nat
/-- No two of them are one block. -/
structure Lay.Sep (L : Lay) : Prop where
  t0 : L.tb ≠ L.sb0
  t1 : L.tb ≠ L.sb1
  tg : L.tb ≠ L.gb
  s01 : L.sb0 ≠ L.sb1
  s0g : L.sb0 ≠ L.gb
  s1g : L.sb1 ≠ L.gb
  tx : L.tb ∉ L.gs0
  ty : L.tb ∉ L.gs1
  gx : L.gb ∉ L.gs0
  gy : L.gb ∉ L.gs1
  s0y : L.sb0 ∉ L.gs1
  s1x : L.sb1 ∉ L.gs0
  xy : ∀ g ∈ L.gs0, g ∉ L.gs1
/-- A terminal's blocks. -/
def Lay.own (L : Lay) (k : Nat) : Prop := k = L.tb ∨ k = L.sb0 ∨ k = L.sb1 ∨ k = L.gb ∨ k ∈ L.gs0 ∨ k ∈ L.gs1
def Lay.sb (L : Lay) (s : TS) : Nat := if s.shown = 0 then L.sb0 else L.sb1
def Lay.gs (L : Lay) (s : TS) : List Nat := if s.shown = 0 then L.gs0 else L.gs1

def termV (L : Lay) (s : TS) : List Value :=
  [.slice (some ⟨L.sb0, 0, none⟩) s.rows s.rows,
   .int .i64 s.v0.row, .int .i64 s.v0.col, .bool s.v0.waits, .bool s.v0.pen.b, .bool s.v0.pen.u, .bool s.v0.pen.t, .int .i64 s.v0.pen.f, .int .i64 s.v0.pen.k, .int .i64 s.v0.first, .int .i64 s.v0.second, .int .i64 s.v0.use, .bool s.v0.origin,
   .slice (some ⟨L.sb1, 0, none⟩) s.rows s.rows,
   .int .i64 s.v1.row, .int .i64 s.v1.col, .bool s.v1.waits, .bool s.v1.pen.b, .bool s.v1.pen.u, .bool s.v1.pen.t, .int .i64 s.v1.pen.f, .int .i64 s.v1.pen.k, .int .i64 s.v1.first, .int .i64 s.v1.second, .int .i64 s.v1.use, .bool s.v1.origin,
   .int .i64 s.row, .int .i64 s.col, .bool s.waits, .bool s.pen.b, .bool s.pen.u, .bool s.pen.t, .int .i64 s.pen.f, .int .i64 s.pen.k, .int .i64 s.first, .int .i64 s.second, .int .i64 s.use, .bool s.origin,
   .int .i64 s.top, .int .i64 s.bottom, .bool s.wrap, .bool s.insert, .int .i64 s.shown, .slice (some ⟨L.gb, 0, none⟩) s.cols s.cols]

/-- What always holds of a terminal. -/
structure TS.Inv (s : TS) : Prop where
  r1 : 1 ≤ s.rows
  r2 : s.rows ≤ 12
  c1 : 1 ≤ s.cols
  c2 : s.cols ≤ 40
  row0 : 0 ≤ s.row
  row1 : s.row < (s.rows : Int)
  col0 : 0 ≤ s.col
  col1 : s.col < (s.cols : Int)
  top0 : 0 ≤ s.top
  tb : s.top ≤ s.bottom
  bot : s.bottom < (s.rows : Int)
  sh : s.shown = 0 ∨ s.shown = 1
  l0 : s.s0.length = s.rows
  l1 : s.s1.length = s.rows
  lt : s.tabs.length = s.cols
  v0r : 0 ≤ s.v0.row ∧ s.v0.row < (s.rows : Int)
  v0c : 0 ≤ s.v0.col ∧ s.v0.col < (s.cols : Int)
  v1r : 0 ≤ s.v1.row ∧ s.v1.row < (s.rows : Int)
  v1c : 0 ≤ s.v1.col ∧ s.v1.col < (s.cols : Int)

/-- A terminal lies in memory. -/
structure TAt (w : World) (L : Lay) (s : TS) : Prop where
  blk : w.heap[L.tb]? = some (.cells (termV L s).toArray 116 (0, 0))
  h0 : ShAt w L.sb0 L.gs0 s.cols s.s0
  h1 : ShAt w L.sb1 L.gs1 s.cols s.s1
  tab : w.heap[L.gb]? = some (.cells (s.tabs.map Value.bool).toArray 4 (0, 0))
  sep : L.Sep

theorem TAt.c {w : World} {L : Lay} {s : TS} (h : TAt w L s) (j : Nat) (v : Value) (hv : (termV L s)[j]? = some v) : w.cell? ⟨L.tb, j, none⟩ = some v := by
  rw [cell_of_row _ _ _ _ _ _ h.blk]; simpa using hv
theorem TAt.f {w : World} {L : Lay} {s : TS} (h : TAt w L s) (j : Nat) : w.frozen? ⟨L.tb, j, none⟩ = false := frozen_of_row _ _ _ _ _ h.blk
theorem blk_lt {w : World} {g : Nat} {o : Obj} (h : w.heap[g]? = some o) : g < w.heap.size := (Array.getElem?_eq_some_iff.1 h).1
theorem TAt.lt {w : World} {L : Lay} {s : TS} (h : TAt w L s) : L.tb < w.heap.size := blk_lt h.blk
theorem TAt.own_lt {w : World} {L : Lay} {s : TS} (h : TAt w L s) {k : Nat} (hk : L.own k) : k < w.heap.size := by
  rcases hk with rfl | rfl | rfl | rfl | hk | hk
  · exact h.lt
  · exact h.h0.lt
  · exact h.h1.lt
  · exact blk_lt h.tab
  · exact h.h0.glt hk
  · exact h.h1.glt hk
theorem TAt.kept {w w' : World} {L : Lay} {s : TS} (h : TAt w L s) {P : Nat → Prop} (c : Ch P w w') (hp : ∀ k, L.own k → ¬ P k) : TAt w' L s :=
  ⟨(c.block _ h.lt (hp _ (.inl rfl))).trans h.blk, h.h0.kept c (hp _ (.inr (.inl rfl))) (fun g hg => hp g (.inr (.inr (.inr (.inr (.inl hg)))))),
   h.h1.kept c (hp _ (.inr (.inr (.inl rfl)))) (fun g hg => hp g (.inr (.inr (.inr (.inr (.inr hg)))))), (c.block _ (blk_lt h.tab) (hp _ (.inr (.inr (.inr (.inl rfl)))))).trans h.tab, h.sep⟩
/-- Nothing that was there has changed. -/
abbrev Sm (w w' : World) : Prop := Ch (fun _ => False) w w'
theorem TAt.sm {w w' : World} {L : Lay} {s : TS} (h : TAt w L s) (c : Sm w w') : TAt w' L s := h.kept c (fun _ _ h => h)
theorem Sm.ch {P : Nat → Prop} {w w' : World} (c : Sm w w') : Ch P w w' := c.mono (fun _ _ h => h.elim)
/-- One cell of the terminal's own block written. -/
theorem TAt.put {w w' : World} {L : Lay} {s s' : TS} (h : TAt w L s) (hb : w'.heap[L.tb]? = some (.cells (termV L s').toArray 116 (0, 0))) (c : Ch (· = L.tb) w w') (hc : s'.cols = s.cols) (h0 : s'.s0 = s.s0) (h1 : s'.s1 = s.s1) (ht : s'.tabs = s.tabs) : TAt w' L s' :=
  ⟨hb, by rw [hc, h0]; exact h.h0.kept c (fun e => h.sep.t0 e.symm) (fun g hg e => h.sep.tx (e ▸ hg)), by rw [hc, h1]; exact h.h1.kept c (fun e => h.sep.t1 e.symm) (fun g hg e => h.sep.ty (e ▸ hg)),
   by rw [ht]; exact (c.block _ (blk_lt h.tab) (fun e => h.sep.tg e.symm)).trans h.tab, h.sep⟩
theorem TAt.set {w : World} {L : Lay} {s s' : TS} (h : TAt w L s) (j : Nat) (v : Value) (hj : (termV L s).set j v = termV L s') (hc : s'.cols = s.cols) (h0 : s'.s0 = s.s0) (h1 : s'.s1 = s.s1) (ht : s'.tabs = s.tabs) : TAt (w.setCell ⟨L.tb, j, none⟩ v) L s' := by
  refine h.put ?_ ((Ch.refl _ _).set _ _ _ (fun _ => rfl)) hc h0 h1 ht
  rw [heap_setCell_same w L.tb j _ 116 _ h.blk, ← hj]; simp
theorem Ch.tset {w u : World} {L : Lay} (h : Ch L.own w u) (j : Nat) (v : Value) : Ch L.own w (u.setCell ⟨L.tb, j, none⟩ v) := h.set _ _ _ (fun _ => .inl rfl)

theorem TAt.cur {w : World} {L : Lay} {s : TS} (h : TAt w L s) : ShAt w (L.sb s) (L.gs s) s.cols s.cur := by
  unfold Lay.sb Lay.gs TS.cur
  split
  · exact h.h0
  · exact h.h1
theorem Lay.gs_own {L : Lay} {s : TS} {k : Nat} (h : k ∈ L.gs s) : L.own k := by
  unfold Lay.gs at h
  split at h
  · exact .inr (.inr (.inr (.inr (.inl h))))
  · exact .inr (.inr (.inr (.inr (.inr h))))
theorem TS.Inv.lcur {s : TS} (h : s.Inv) : s.cur.length = s.rows := by
  unfold TS.cur
  split
  · exact h.l0
  · exact h.l1
/-- The sheet that is shown has changed. -/
theorem TAt.setCur {w w' : World} {L : Lay} {s : TS} (h : TAt w L s) {S : Sheet} (c : Ch (· ∈ L.gs s) w w') (hS : ShAt w' (L.sb s) (L.gs s) s.cols S) : TAt w' L (s.setCur S) := by
  unfold Lay.sb Lay.gs at *
  unfold TS.setCur
  by_cases hs : s.shown = 0
  · simp only [if_pos hs] at c hS ⊢
    refine ⟨(c.block _ h.lt h.sep.tx).trans ?_, hS, h.h1.kept c h.sep.s1x (fun g hg e => h.sep.xy g e hg), (c.block _ (blk_lt h.tab) h.sep.gx).trans h.tab, h.sep⟩
    exact h.blk
  · simp only [if_neg hs] at c hS ⊢
    refine ⟨(c.block _ h.lt h.sep.ty).trans ?_, h.h0.kept c h.sep.s0y (fun g hg e => h.sep.xy g hg e), hS, (c.block _ (blk_lt h.tab) h.sep.gy).trans h.tab, h.sep⟩
    exact h.blk
theorem TS.setCur_rest (s : TS) (S : Sheet) : (s.setCur S).rows = s.rows ∧ (s.setCur S).cols = s.cols ∧ (s.setCur S).shown = s.shown ∧ (s.setCur S).row = s.row ∧ (s.setCur S).col = s.col ∧ (s.setCur S).top = s.top ∧ (s.setCur S).bottom = s.bottom ∧ (s.setCur S).v0 = s.v0 ∧ (s.setCur S).v1 = s.v1 ∧ (s.setCur S).tabs = s.tabs ∧ (s.setCur S).cur = S := by
  unfold TS.setCur TS.cur
  by_cases hs : s.shown = 0 <;> simp [hs]
theorem TS.Inv.setCur {s : TS} (h : s.Inv) {S : Sheet} (hl : S.length = s.rows) : (s.setCur S).Inv := by
  unfold TS.setCur
  split
  · exact ⟨h.r1, h.r2, h.c1, h.c2, h.row0, h.row1, h.col0, h.col1, h.top0, h.tb, h.bot, h.sh, hl, h.l1, h.lt, h.v0r, h.v0c, h.v1r, h.v1c⟩
  · exact ⟨h.r1, h.r2, h.c1, h.c2, h.row0, h.row1, h.col0, h.col1, h.top0, h.tb, h.bot, h.sh, h.l0, hl, h.lt, h.v0r, h.v0c, h.v1r, h.v1c⟩
end Go.Proofs.YtheibfffilomcaaDoor
