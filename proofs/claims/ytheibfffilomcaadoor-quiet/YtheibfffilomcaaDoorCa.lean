/- Cells and rows of cells in memory: words and laws for the walks. -/
import Derived.Test.YtheibfffilomcaaDoorTma
import Derived.Test.YtheibfffilomcaaDoorEvb
namespace Go.Proofs.YtheibfffilomcaaDoor
open Go.RowKit

def penV (p : PenS) : List Value := [.bool p.b, .bool p.u, .bool p.t, .int .i64 p.f, .int .i64 p.k]
def penA (p : PenS) : Array Value := (penV p).toArray
def cellV (c : CellS) : List Value := [.int .i64 c.r, .bool c.p.b, .bool c.p.u, .bool c.p.t, .int .i64 c.p.f, .int .i64 c.p.k, .int .i64 c.part]
def cellA (c : CellS) : Array Value := (cellV c).toArray
def rowV : List CellS → List Value
  | [] => []
  | c :: r => cellV c ++ rowV r
def rowA (r : List CellS) : Array Value := (rowV r).toArray
theorem cellV_length (c : CellS) : (cellV c).length = 7 := rfl
theorem cellA_size (c : CellS) : (cellA c).size = 7 := rfl
theorem cellV_one (c : CellS) : ∀ v ∈ cellV c, v.oneCell' = true := by
  intro v hv
  simp only [cellV, List.mem_cons, List.not_mem_nil, or_false] at hv
  rcases hv with rfl | rfl | rfl | rfl | rfl | rfl | rfl <;> rfl
theorem cellA_all (c : CellS) : (cellA c).all (·.oneCell') = true := all_oneCell_toArray (cellV_one c)
theorem rowV_length : ∀ r : List CellS, (rowV r).length = r.length * 7
  | [] => rfl
  | c :: r => by rw [rowV, List.length_append, rowV_length r, cellV_length, List.length_cons]; omega
theorem rowA_size (r : List CellS) : (rowA r).size = r.length * 7 := by simp [rowA, rowV_length]
theorem rowV_append : ∀ a b : List CellS, rowV (a ++ b) = rowV a ++ rowV b
  | [], b => rfl
  | c :: a, b => by simp [rowV, rowV_append a b]
theorem rowV_one : ∀ r : List CellS, ∀ v ∈ rowV r, v.oneCell' = true
  | [], v, h => by simp [rowV] at h
  | c :: r, v, h => by
    rcases List.mem_append.1 h with h | h
    · exact cellV_one c v h
    · exact rowV_one r v h
theorem rowV_take : ∀ (r : List CellS) (k : Nat), (rowV r).take (k * 7) = rowV (r.take k)
  | [], k => by simp [rowV]
  | c :: r, 0 => by simp [rowV]
  | c :: r, k + 1 => by
    rw [List.take_succ_cons, rowV, rowV, List.take_append, cellV_length, ← rowV_take r k, show (k + 1) * 7 - 7 = k * 7 by omega, List.take_of_length_le (by rw [cellV_length]; omega)]
theorem rowV_drop : ∀ (r : List CellS) (k : Nat), (rowV r).drop (k * 7) = rowV (r.drop k)
  | [], k => by simp [rowV]
  | c :: r, 0 => by simp [rowV]
  | c :: r, k + 1 => by
    rw [List.drop_succ_cons, rowV, List.drop_append, cellV_length, ← rowV_drop r k, show (k + 1) * 7 - 7 = k * 7 by omega, List.drop_eq_nil_of_le (by rw [cellV_length]; omega)]
    rfl
theorem rowV_at (r : List CellS) (k : Nat) (c : CellS) (h : r[k]? = some c) : ((rowV r).drop (k * 7)).take 7 = cellV c := by
  have hk := (List.getElem?_eq_some_iff.1 h)
  obtain ⟨hk, hc⟩ := hk
  rw [rowV_drop, ← List.getElem_cons_drop hk, rowV, hc]
  simp [cellV]

/-- A row of cells lies in a block of its own. -/
def RowAt (w : World) (g : Nat) (r : List CellS) : Prop := w.heap[g]? = some (.cells (rowA r) 49 (0, 0))
theorem RowAt.kept {w w' : World} {g : Nat} {r : List CellS} (h : RowAt w g r) (hb : w'.heap[g]? = w.heap[g]?) : RowAt w' g r := hb.trans h
theorem RowAt.lt {w : World} {g : Nat} {r : List CellS} (h : RowAt w g r) : g < w.heap.size := by
  by_cases hl : g < w.heap.size
  · exact hl
  · unfold RowAt at h; rw [Array.getElem?_eq_none (by omega)] at h; cases h
theorem RowAt.cell {w : World} {g : Nat} {r : List CellS} (h : RowAt w g r) (i : Nat) : w.cell? ⟨g, i, none⟩ = (rowV r)[i]? := by
  rw [cell_of_row _ _ _ _ _ _ h]; simp [rowA]
theorem RowAt.range {w : World} {g : Nat} {r : List CellS} (h : RowAt w g r) {k : Nat} {c : CellS} (hk : r[k]? = some c) : w.rangeAt g (k * 7) (cellV c) := by
  intro j v hv
  rw [h.cell, ← hv, ← rowV_at r k c hk, List.getElem?_take, if_pos (by rw [← cellV_length c]; exact (List.getElem?_eq_some_iff.1 hv).1), List.getElem?_drop]
theorem RowAt.there {w : World} {g : Nat} {r : List CellS} (h : RowAt w g r) {k n : Nat} (hk : k * 7 + n ≤ r.length * 7) : w.there g (k * 7) n := fun j hj => ⟨by rw [h.cell, List.getElem?_eq_getElem (by rw [rowV_length]; omega)]; rfl, frozen_of_row _ _ _ _ _ h⟩

/-- All that was there is kept but what P names. -/
structure Ch (P : Nat → Prop) (w w' : World) : Prop where
  os : w'.os = w.os
  tape : w'.tape = w.tape
  output : w'.output = w.output
  size : w.heap.size ≤ w'.heap.size
  block : ∀ k, k < w.heap.size → ¬ P k → w'.heap[k]? = w.heap[k]?
theorem Ch.refl (P : Nat → Prop) (w : World) : Ch P w w := ⟨rfl, rfl, rfl, Nat.le_refl _, fun _ _ _ => rfl⟩
theorem Ch.trans {P : Nat → Prop} {a b c : World} (h : Ch P a b) (k : Ch P b c) : Ch P a c :=
  ⟨k.os.trans h.os, k.tape.trans h.tape, k.output.trans h.output, Nat.le_trans h.size k.size, fun i hi hn => (k.block i (Nat.lt_of_lt_of_le hi h.size) hn).trans (h.block i hi hn)⟩
theorem Ch.mono {P R : Nat → Prop} {a b : World} (h : Ch P a b) (hi : ∀ k, k < a.heap.size → P k → R k) : Ch R a b :=
  ⟨h.os, h.tape, h.output, h.size, fun k hk hn => h.block k hk (fun hp => hn (hi k hk hp))⟩
/-- What is new may be changed as one likes. -/
theorem Ch.trans' {P R : Nat → Prop} {a b c : World} (h : Ch P a b) (k : Ch R b c) (hi : ∀ k, k < a.heap.size → R k → P k) : Ch P a c :=
  ⟨k.os.trans h.os, k.tape.trans h.tape, k.output.trans h.output, Nat.le_trans h.size k.size, fun i hl hn => (k.block i (Nat.lt_of_lt_of_le hl h.size) (fun hr => hn (hi i hl hr))).trans (h.block i hl hn)⟩
theorem Ch.of_below {P : Nat → Prop} {w w' : World} (h : Below w.heap.size w w') : Ch P w w' := ⟨h.os, h.tape, h.output, h.size, fun k hk _ => h.block k hk⟩
theorem Ch.of_grown {w w' : World} {g : Nat} (h : w.grownBy w' (some g)) : Ch (· = g) w w' := ⟨h.os, h.tape, h.output, h.size, fun k hk hn => h.block k hk (fun e => hn (by simpa using e))⟩
theorem Ch.below {P : Nat → Prop} {w w' : World} (h : Ch P w w') {B : Nat} (hB : B ≤ w.heap.size) (hP : ∀ k, k < B → ¬ P k) : Below B w w' := ⟨h.os, h.tape, h.output, h.size, fun k hk => h.block k (by omega) (hP k hk)⟩
theorem Ch.alloc {P : Nat → Prop} {w u : World} (h : Ch P w u) (o : Obj) : Ch P w (u.alloc o) := h.trans (Ch.of_below ((Below.refl _ _).alloc (Nat.le_refl _) o))
theorem Ch.drewN {P : Nat → Prop} {w u : World} (h : Ch P w u) (n : Nat) : Ch P w (u.drewN n) := ⟨h.os, h.tape, h.output, h.size, h.block⟩
theorem Ch.drew {P : Nat → Prop} {w u : World} (h : Ch P w u) : Ch P w u.drew := ⟨h.os, h.tape, h.output, h.size, h.block⟩
theorem Ch.set {P : Nat → Prop} {w u : World} (h : Ch P w u) (g o : Nat) (v : Value) (hg : g < w.heap.size → P g) : Ch P w (u.setCell ⟨g, o, none⟩ v) :=
  h.trans' (R := (· = g)) ⟨rfl, rfl, rfl, by simp [World.setCell], fun k _ hn => Below.heap_setCell _ _ _ _ hn⟩ (fun k hk e => e ▸ hg (e ▸ hk))
theorem Ch.row {P : Nat → Prop} {w w' : World} (h : Ch P w w') {g : Nat} {r : List CellS} (hr : RowAt w g r) (hn : ¬ P g) : RowAt w' g r := hr.kept (h.block g hr.lt hn)

theorem setCells_rowC (b : Nat) : ∀ (vs : List Value) (o : Nat) (w : World) (cs : Array Value) (t : TypeId), w.heap[b]? = some (.cells cs t (0, 0)) →
    ∃ cs', (w.setCells b o vs).heap[b]? = some (.cells cs' t (0, 0)) ∧ cs'.size = cs.size ∧ ∀ i, cs'[i]? = if o ≤ i ∧ i < o + vs.length ∧ i < cs.size then vs[i - o]? else cs[i]?
  | [], o, w, cs, t, h => ⟨cs, h, rfl, fun i => by rw [if_neg (by simp; omega)]⟩
  | v :: r, o, w, cs, t, h => by
    obtain ⟨cs', h1, h2, h3⟩ := setCells_rowC b r (o + 1) _ _ t (heap_setCell_same w b o cs t v h)
    refine ⟨cs', h1, by rw [h2]; simp, fun i => ?_⟩
    rw [h3]
    simp only [List.length_cons, Array.size_setIfInBounds]
    by_cases hi : i = o
    · subst hi
      rw [if_neg (by omega)]
      by_cases hc : i < cs.size
      · rw [if_pos (by omega)]; simp [hc]
      · rw [if_neg (by omega), Array.getElem?_eq_none (by omega : cs.size ≤ i), Array.getElem?_eq_none (by simp; omega)]
    · by_cases hc : o + 1 ≤ i ∧ i < o + 1 + r.length ∧ i < cs.size
      · rw [if_pos hc, if_pos (by omega), show i - o = (i - (o + 1)) + 1 by omega, List.getElem?_cons_succ]
      · rw [if_neg hc, if_neg (by omega), Array.getElem?_setIfInBounds, if_neg (by omega)]

theorem info49 : (Tryd.prog.info? 49).map (·.size) = some 7 := by kernel_rfl

/-- Cells laid over a row of cells. -/
theorem row_lay {w : World} {g : Nat} {r : List CellS} (h : RowAt w g r) (k : Nat) (q : List CellS) (hk : k + q.length ≤ r.length) : RowAt (w.setCells g (k * 7) (rowV q)) g (layR r k q) := by
  obtain ⟨cs', q1, q2, q3⟩ := setCells_rowC g (rowV q) (k * 7) w (rowA r) 49 h
  unfold RowAt
  rw [q1]
  congr 2
  apply Array.ext_getElem?
  intro i
  rw [q3, rowA_size, rowV_length, rowA, rowA, List.getElem?_toArray, List.getElem?_toArray, layR, rowV_append, rowV_append, ← rowV_take, ← rowV_drop]
  by_cases hi : k * 7 ≤ i ∧ i < k * 7 + q.length * 7 ∧ i < r.length * 7
  · rw [if_pos hi, List.getElem?_append_right (by rw [List.length_take, rowV_length]; omega), List.length_take, rowV_length, show min (k * 7) (r.length * 7) = k * 7 by omega, List.getElem?_append_left (by rw [rowV_length]; omega)]
  · rw [if_neg hi]
    by_cases h1 : i < k * 7
    · rw [List.getElem?_append_left (by rw [List.length_take, rowV_length]; omega), List.getElem?_take, if_pos h1]
    · rw [List.getElem?_append_right (by rw [List.length_take, rowV_length]; omega), List.length_take, rowV_length, show min (k * 7) (r.length * 7) = k * 7 by omega]
      by_cases h2 : i < k * 7 + q.length * 7
      · omega
      · rw [List.getElem?_append_right (by rw [rowV_length]; omega), List.getElem?_drop, rowV_length, show (k + q.length) * 7 + (i - k * 7 - q.length * 7) = i by omega]
theorem layR_one (r : List CellS) (k : Nat) (c : CellS) (hk : k < r.length) : layR r k [c] = r.set k c := by
  rw [List.set_eq_take_append_cons_drop, if_pos hk]; rfl

/-- One cell of a row read. -/
theorem wp_cload {ops : Array Oper} {rest : List Oper} {o : Oper} {a : Act} {Q : Exit → Act → World → Prop} (u : World) (hgd : o.guard = none) (x : Operand) (ho : o.op = .load 49 x) (g off k : Nat) (r : List CellS) (c : CellS)
    (hx : a.eval x = .pointer (some ⟨g, off, none⟩)) (hoff : off = k * 7) (hg : RowAt u g r) (hc : r[k]? = some c)
    (h : wpList Tryd.prog ops Q rest (a.put o.dst (.agg (cellA c))) u) : wpList Tryd.prog ops Q (o :: rest) a u := by
  subst hoff
  exact wpList_load_mid hgd 49 x ho g (k * 7) hx (cellV c) _ (hg.range hc) Tryd.underlying49 rfl (by rw [cellV_length]; exact info49) h
/-- One cell of a row written. -/
theorem wp_cstore {ops : Array Oper} {rest : List Oper} {o : Oper} {a : Act} {Q : Exit → Act → World → Prop} (u : World) (hgd : o.guard = none) (x y : Operand) (ho : o.op = .store 49 x y) (g off k : Nat) (r : List CellS) (c : CellS)
    (hx : a.eval x = .pointer (some ⟨g, off, none⟩)) (hoff : off = k * 7) (arr : Array Value) (hy : a.eval y = .agg arr) (harr : arr = cellA c) (hg : RowAt u g r) (hk : k < r.length)
    (h : ∀ u', RowAt u' g (r.set k c) → Ch (· = g) u u' → u'.heap.size = u.heap.size → wpList Tryd.prog ops Q rest (a.put o.dst undef) u') : wpList Tryd.prog ops Q (o :: rest) a u := by
  subst hoff harr
  refine wpList_store_mid hgd 49 x y ho g (k * 7) (cellA c) hx hy (hg.there (by rw [cellA_size]; omega)) (by rw [cellA_size]; exact info49) (cellA_all _) ?_
  have hl := row_lay hg k [c] (by simp; omega)
  rw [layR_one _ _ _ hk] at hl
  have hz := size_setCells g (cellV c) (k * 7) u
  exact h _ (by simpa [rowV, cellA] using hl) ⟨hz.2.1, hz.2.2.1, hz.2.2.2, by rw [show (cellA c).toList = cellV c from rfl]; omega, fun i _ hn => heap_setCells g _ _ _ i hn⟩ hz.1
end Go.Proofs.YtheibfffilomcaaDoor
