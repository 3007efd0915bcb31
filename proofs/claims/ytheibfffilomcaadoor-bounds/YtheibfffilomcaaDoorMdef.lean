/- Events and the machine of modes in memory: words and laws for the walks. -/
import Derived.Test.YtheibfffilomcaaDoorDefs
import Derived.Test.YtheibfffilomcaaDoorEvn
import Derived.Deep.MidRow
import Derived.Deep.QuietTactic
import Derived.BigQuiet
namespace Go.Proofs.YtheibfffilomcaaDoor
open Go.RowKit

/-- Numbers as cells. -/
def intC (l : List Int) : List Value := l.map (Value.int .i64)
def intA (l : List Int) : Array Value := (intC l).toArray
theorem intC_length (l : List Int) : (intC l).length = l.length := by simp [intC]
theorem intA_size (l : List Int) : (intA l).size = l.length := by simp [intA, intC]
theorem intC_one (l : List Int) : ∀ v ∈ intC l, v.oneCell' = true := by
  intro v hv
  obtain ⟨x, _, rfl⟩ := List.mem_map.1 hv
  rfl
theorem intA_all (l : List Int) : (intA l).all (·.oneCell') = true := all_oneCell_toArray (intC_one l)
theorem intC_get (l : List Int) (j : Nat) (h : j < l.length) : (intC l)[j]? = some (.int .i64 (l.getD j 0)) := by
  simp [intC, List.getD, List.getElem?_eq_getElem h]

/-- The machine lies at a place. -/
structure MAt (w : World) (mb mo : Nat) (s : MS) : Prop where
  len : s.ps.length = 16
  rng : w.rangeAt mb mo (intC s.l)
  fr : ∀ j, j < 19 → w.frozen? ⟨mb, mo + j, none⟩ = false

theorem MAt.l_len {w : World} {mb mo : Nat} {s : MS} (h : MAt w mb mo s) : s.l.length = 19 := by simp [MS.l, h.len]
theorem MAt.at {w : World} {mb mo : Nat} {s : MS} (h : MAt w mb mo s) (j : Nat) (hj : j < 19) : w.cell? ⟨mb, mo + j, none⟩ = some (.int .i64 (s.l.getD j 0)) :=
  h.rng j _ (intC_get _ _ (by rw [h.l_len]; exact hj))
theorem MAt.c0 {w : World} {mb mo : Nat} {s : MS} (h : MAt w mb mo s) : w.cell? ⟨mb, mo, none⟩ = some (.int .i64 s.md) := h.at 0 (by omega)
theorem MAt.c1 {w : World} {mb mo : Nat} {s : MS} (h : MAt w mb mo s) : w.cell? ⟨mb, mo + 1, none⟩ = some (.int .i64 s.mr) := h.at 1 (by omega)
theorem MAt.c2 {w : World} {mb mo : Nat} {s : MS} (h : MAt w mb mo s) : w.cell? ⟨mb, mo + 2, none⟩ = some (.int .i64 s.ct) := h.at 2 (by omega)
theorem MAt.cp {w : World} {mb mo : Nat} {s : MS} (h : MAt w mb mo s) (j : Nat) (hj : j < 16) : w.cell? ⟨mb, mo + 3 + j, none⟩ = some (.int .i64 (s.ps.getD j 0)) := by
  have := h.at (3 + j) (by omega)
  rw [← Nat.add_assoc] at this
  rw [this]
  rw [show 3 + j = j + 3 by omega]
  simp [MS.l]
theorem MAt.lt {w : World} {mb mo : Nat} {s : MS} (h : MAt w mb mo s) : mb < w.heap.size := World.block_lt_of_cell? _ _ h.c0
theorem MAt.there {w : World} {mb mo : Nat} {s : MS} (h : MAt w mb mo s) : w.there mb mo 19 := fun j hj => ⟨by rw [h.at j hj]; rfl, h.fr j hj⟩
theorem MAt.kept {w w' : World} {mb mo : Nat} {s : MS} (h : MAt w mb mo s) (hb : w'.heap[mb]? = w.heap[mb]?) : MAt w' mb mo s :=
  ⟨h.len, fun j v hv => (World.cell?_of_block hb).trans (h.rng j v hv), fun j hj => (World.frozen?_of_block hb).trans (h.fr j hj)⟩

/-- All that was there is kept but the machine's cells. -/
structure Km (mb mo : Nat) (w w' : World) : Prop where
  os : w'.os = w.os
  tape : w'.tape = w.tape
  output : w'.output = w.output
  size : w.heap.size ≤ w'.heap.size
  block : ∀ k, k < w.heap.size → k ≠ mb → w'.heap[k]? = w.heap[k]?
  cell : ∀ o, (o < mo ∨ mo + 19 ≤ o) → w'.cell? ⟨mb, o, none⟩ = w.cell? ⟨mb, o, none⟩
  frozen : ∀ o, w'.frozen? ⟨mb, o, none⟩ = w.frozen? ⟨mb, o, none⟩
theorem Km.refl (mb mo : Nat) (w : World) : Km mb mo w w := ⟨rfl, rfl, rfl, Nat.le_refl _, fun _ _ _ => rfl, fun _ _ => rfl, fun _ => rfl⟩
theorem Km.trans {mb mo : Nat} {a b c : World} (h : Km mb mo a b) (k : Km mb mo b c) : Km mb mo a c :=
  ⟨k.os.trans h.os, k.tape.trans h.tape, k.output.trans h.output, Nat.le_trans h.size k.size, fun i hi hn => (k.block i (Nat.lt_of_lt_of_le hi h.size) hn).trans (h.block i hi hn), fun o ho => (k.cell o ho).trans (h.cell o ho), fun o => (k.frozen o).trans (h.frozen o)⟩
theorem Km.of_below {mb mo : Nat} {w w' : World} (h : Below w.heap.size w w') (hm : mb < w.heap.size) : Km mb mo w w' :=
  ⟨h.os, h.tape, h.output, h.size, fun k hk _ => h.block k hk, fun _ _ => h.cell hm, fun _ => h.frozen hm⟩
theorem Km.below {mb mo : Nat} {w w' : World} (h : Km mb mo w w') {B : Nat} (hB : B ≤ mb) (hm : mb ≤ w.heap.size) : Below B w w' :=
  ⟨h.os, h.tape, h.output, h.size, fun k hk => h.block k (by omega) (by omega)⟩
/-- Behind a write into a block of the call's own. -/
theorem Km.own {mb mo : Nat} {w u u' : World} (h : Km mb mo w u) {g : Nat} (hg : u.grownBy u' (some g)) (hw : w.heap.size ≤ g) (hm : mb < w.heap.size) : Km mb mo w u' := by
  have hmb : u'.heap[mb]? = u.heap[mb]? := hg.block mb (Nat.lt_of_lt_of_le hm h.size) (fun e => by simp at e; omega)
  exact ⟨hg.os.trans h.os, hg.tape.trans h.tape, hg.output.trans h.output, Nat.le_trans h.size hg.size, fun k hk hn => (hg.block k (Nat.lt_of_lt_of_le hk h.size) (fun e => by simp at e; omega)).trans (h.block k hk hn),
    fun o ho => (World.cell?_of_block hmb).trans (h.cell o ho), fun o => (World.frozen?_of_block hmb).trans (h.frozen o)⟩
theorem Km.alloc {mb mo : Nat} {w u : World} (h : Km mb mo w u) (o : Obj) (hm : mb < w.heap.size) : Km mb mo w (u.alloc o) :=
  h.trans (Km.of_below ((Below.refl _ _).alloc (Nat.le_refl _) o) (Nat.lt_of_lt_of_le hm h.size))
theorem Km.drewN {mb mo : Nat} {w u : World} (h : Km mb mo w u) (n : Nat) : Km mb mo w (u.drewN n) := ⟨h.os, h.tape, h.output, h.size, h.block, h.cell, h.frozen⟩
theorem MAt.drewN {w : World} {mb mo : Nat} {s : MS} (h : MAt w mb mo s) (n : Nat) : MAt (w.drewN n) mb mo s := h.kept rfl
theorem MAt.alloc {w : World} {mb mo : Nat} {s : MS} (h : MAt w mb mo s) (o : Obj) : MAt (w.alloc o) mb mo s := h.kept (Below.heap_alloc _ _ _ h.lt)
theorem MAt.own {w u' : World} {mb mo : Nat} {s : MS} (h : MAt w mb mo s) {g : Nat} (hg : w.grownBy u' (some g)) (hn : g ≠ mb) : MAt u' mb mo s := h.kept (hg.block mb h.lt (fun e => by simp at e; omega))

theorem heap_setCells (b : Nat) : ∀ (vs : List Value) (o : Nat) (w : World) (k : Nat), k ≠ b → (w.setCells b o vs).heap[k]? = w.heap[k]?
  | [], _, _, _, _ => rfl
  | v :: r, o, w, k, h => by rw [World.setCells, heap_setCells b r (o + 1) _ k h]; exact Below.heap_setCell _ _ _ _ h
theorem size_setCells (b : Nat) : ∀ (vs : List Value) (o : Nat) (w : World), (w.setCells b o vs).heap.size = w.heap.size ∧ (w.setCells b o vs).os = w.os ∧ (w.setCells b o vs).tape = w.tape ∧ (w.setCells b o vs).output = w.output
  | [], _, _ => ⟨rfl, rfl, rfl, rfl⟩
  | v :: r, o, w => by
    rw [World.setCells]
    obtain ⟨a, b, c, d⟩ := size_setCells b r (o + 1) (w.setCell ⟨b, o, none⟩ v)
    exact ⟨a.trans (by simp [World.setCell]), b, c, d⟩

theorem info60 : (Tryd.prog.info? 85).map (·.size) = some 19 := by kernel_rfl
theorem info44 : (Tryd.prog.info? 75).map (·.size) = some 21 := by kernel_rfl

/-- The machine written whole. -/
theorem wp_mset {ops : Array Oper} {rest : List Oper} {o : Oper} {a : Act} {Q : Exit → Act → World → Prop} (u : World) (hgd : o.guard = none) (x y : Operand) (ho : o.op = .store 85 x y) (mb mo : Nat) (s s' : MS)
    (hx : a.eval x = .pointer (some ⟨mb, mo, none⟩)) (arr : Array Value) (hy : a.eval y = .agg arr) (harr : arr = intA s'.l) (hs' : s'.ps.length = 16) (hm : MAt u mb mo s)
    (h : ∀ u', MAt u' mb mo s' → Km mb mo u u' → u'.heap.size = u.heap.size → wpList Tryd.prog ops Q rest (a.put o.dst undef) u') : wpList Tryd.prog ops Q (o :: rest) a u := by
  have hl : s'.l.length = 19 := by simp [MS.l, hs']
  subst harr
  refine wpList_store_mid hgd 85 x y ho mb mo (intA s'.l) hx hy (by rw [intA_size, hl]; exact hm.there) (by rw [intA_size, hl]; exact info60) (intA_all _) ?_
  have e : (intA s'.l).toList = intC s'.l := rfl
  rw [e]
  have hz := size_setCells mb (intC s'.l) mo u
  have hln : (intC s'.l).length = 19 := by rw [intC_length, hl]
  refine h _ ⟨hs', World.rangeAt_setCells_same u mb mo _ (by rw [hln]; exact hm.there), fun j hj => by rw [World.frozen?_setCells]; exact hm.fr j hj⟩
    ⟨hz.2.1, hz.2.2.1, hz.2.2.2, by omega, fun k _ hn => heap_setCells mb _ _ _ k hn, fun o ho => World.cell?_setCells_out mb _ _ _ _ (fun _ _ => by rw [hln]; exact ho), fun o => World.frozen?_setCells mb _ _ _ _⟩ hz.1

/-- An event written whole into a block of its own. -/
theorem wp_eset {ops : Array Oper} {rest : List Oper} {o : Oper} {a : Act} {Q : Exit → Act → World → Prop} (u : World) (hgd : o.guard = none) (x y : Operand) (ho : o.op = .store 75 x y) (g : Nat) (old ev : List Int)
    (hx : a.eval x = .pointer (some ⟨g, 0, none⟩)) (arr : Array Value) (hy : a.eval y = .agg arr) (harr : arr = intA ev) (hev : ev.length = 21) (t : TypeId) (hg : u.heap[g]? = some (.cells (intA old) t (0, 0))) (hold : old.length = 21)
    (h : ∀ u', u'.heap[g]? = some (.cells (intA ev) t (0, 0)) → u.grownBy u' (some g) → u'.heap.size = u.heap.size → wpList Tryd.prog ops Q rest (a.put o.dst undef) u') : wpList Tryd.prog ops Q (o :: rest) a u := by
  subst harr
  refine wpList_store_row hgd 75 x y ho g (intA ev) hx hy t (intA old) hg (by rw [intA_size, hev]; exact info44) (by rw [intA_size, intA_size, hev, hold]) (intA_all _) ?_
  refine h _ (setRow_heap u g _ _ t _ hg) ⟨rfl, rfl, rfl, by simp, fun k _ hk => setRow_other u g k _ (fun e => hk (by simp [e]))⟩ (by simp)

/-- An event read whole out of a block of its own. -/
theorem wp_eload {ops : Array Oper} {rest : List Oper} {o : Oper} {a : Act} {Q : Exit → Act → World → Prop} (u : World) (hgd : o.guard = none) (x : Operand) (ho : o.op = .load 75 x) (g : Nat) (ev : List Int)
    (hx : a.eval x = .pointer (some ⟨g, 0, none⟩)) (hev : ev.length = 21) (t : TypeId) (fr : Nat × Nat) (hg : u.heap[g]? = some (.cells (intA ev) t fr))
    (h : wpList Tryd.prog ops Q rest (a.put o.dst (.agg (intA ev))) u) : wpList Tryd.prog ops Q (o :: rest) a u :=
  wpList_load_row hgd 75 x ho g hx t (intA ev) fr _ hg Tryd.underlying75 rfl (by rw [intA_size, hev]; exact info44) h

/-- An event and a word handed back. -/
theorem results_ev {fn : Func} {p q : Tmp} (h : fn.results = #[.cell p 75, .tmp q]) (tmps : Array Value) (w : World) (g : Nat) (ev : List Int) (hev : ev.length = 21) (t : TypeId) (fr : Nat × Nat)
    (hp : tmps.getD p undef = .pointer (some ⟨g, 0, none⟩)) (hg : w.heap[g]? = some (.cells (intA ev) t fr)) :
    (results fn tmps).run Tryd.prog w = .ok (.tuple #[.agg (intA ev), tmps.getD q undef]) w := by
  have hp' : tmps[p]?.getD undef = .pointer (some ⟨g, 0, none⟩) := by simpa using hp
  simp [results, h, hp', asAddr, run_loadVar_row w g t 75 (intA ev) fr _ hg Tryd.underlying75 rfl (by rw [intA_size, hev]; exact info44)]
theorem results_ev1 {fn : Func} {p : Tmp} (h : fn.results = #[.cell p 75]) (tmps : Array Value) (w : World) (g : Nat) (ev : List Int) (hev : ev.length = 21) (t : TypeId) (fr : Nat × Nat)
    (hp : tmps.getD p undef = .pointer (some ⟨g, 0, none⟩)) (hg : w.heap[g]? = some (.cells (intA ev) t fr)) :
    (results fn tmps).run Tryd.prog w = .ok (.agg (intA ev)) w :=
  results_cell_row h tmps w g t (intA ev) fr _ hp hg Tryd.underlying75 rfl (by rw [intA_size, hev]; exact info44)

end Go.Proofs.YtheibfffilomcaaDoor
