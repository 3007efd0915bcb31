/- The book of lists of events: its words, and laws for what is put into it. -/
import Derived.Test.YtheibfffilomcaaDoorEqe
namespace Go.Proofs.YtheibfffilomcaaDoor
open Go.RowKit

/-- The event that a mark makes. -/
def evM (m : Int) : List Int := [m, m, 0, 0, 0] ++ z16
theorem evM_len (m : Int) : (evM m).length = 21 := rfl

theorem setCells_row (b : Nat) : ∀ (vs : List Value) (o : Nat) (w : World) (cs : Array Value) (t : TypeId), w.heap[b]? = some (.cells cs t (0, 0)) →
    ∃ cs', (w.setCells b o vs).heap[b]? = some (.cells cs' t (0, 0)) ∧ cs'.size = cs.size ∧ ∀ i, cs'[i]? = if o ≤ i ∧ i < o + vs.length ∧ i < cs.size then vs[i - o]? else cs[i]?
  | [], o, w, cs, t, h => ⟨cs, h, rfl, fun i => by rw [if_neg (by simp; omega)]⟩
  | v :: r, o, w, cs, t, h => by
    obtain ⟨cs', h1, h2, h3⟩ := setCells_row b r (o + 1) _ _ t (heap_setCell_same w b o cs t v h)
    refine ⟨cs', h1, by rw [h2]; simp, fun i => ?_⟩
    rw [h3]
    simp only [List.length_cons, Array.size_setIfInBounds]
    by_cases hi : i = o
    · subst hi
      rw [if_neg (by omega)]
      by_cases hc : i < cs.size
      · rw [if_pos (by omega)]; simp [hc]
      · rw [if_neg (by omega), Array.getElem?_eq_none (by omega : cs.size ≤ i), Array.getElem?_eq_none (by simp; omega)]
    · by_cases hc : o + 1 ≤ i ∧ i < o + 1 + r.length ∧ i < cs.size
      · rw [if_pos hc, if_pos (by omega), show i - o = (i - (o + 1)) + 1 by omega, List.getElem?_cons_succ]
      · rw [if_neg hc, if_neg (by omega), Array.getElem?_setIfInBounds, if_neg (by omega)]

theorem flat_get (E : List (List Int)) (hE : ∀ e ∈ E, e.length = 21) (i : Nat) : E.flatten[i]? = (E[i / 21]?).bind (·[i % 21]?) := by
  induction E generalizing i with
  | nil => simp
  | cons e E ih =>
    have he := hE e (by simp)
    rw [List.flatten_cons]
    by_cases h : i < 21
    · rw [List.getElem?_append_left (by omega), show i / 21 = 0 by omega, show i % 21 = i by omega]; rfl
    · rw [List.getElem?_append_right (by omega), he, ih (fun x hx => hE x (by simp [hx])), show i / 21 = (i - 21) / 21 + 1 by omega, show i % 21 = (i - 21) % 21 by omega, List.getElem?_cons_succ]

theorem intC_get? (l : List Int) (i : Nat) : (intC l)[i]? = (l[i]?).map (Value.int .i64) := by simp [intC]

theorem ev_store {w : World} {base g cap k : Nat} {E : List (List Int)} {e : List Int} (h : EvAt w base (.slice (some ⟨g, 0, none⟩) E.length cap) E) (hE : ∀ x ∈ E, x.length = 21) (he : e.length = 21) (hk : k < E.length) :
    w.there g (k * 21) 21 ∧ EvAt (w.setCells g (k * 21) (intC e)) base (.slice (some ⟨g, 0, none⟩) E.length cap) (E.set k e) ∧ w.grownBy (w.setCells g (k * 21) (intC e)) (some g) := by
  obtain ⟨h1, h2⟩ := h
  rcases h2 with ⟨h2, _⟩ | ⟨g', cap', cur, hv, hb, hg, hn, hm, hcs, htake⟩
  · cases h2
  · cases hv
    have hE' : ∀ x ∈ E.set k e, x.length = 21 := fun x hx => by
      rcases List.mem_or_eq_of_mem_set hx with hx | rfl
      · exact hE x hx
      · exact he
    have hsz : (k + 1) * 21 ≤ cap * 21 := Nat.mul_le_mul_right _ (by omega)
    obtain ⟨cs', q1, q2, q3⟩ := setCells_row g (intC e) (k * 21) w cur 75 hg
    have hz := size_setCells g (intC e) (k * 21) w
    refine ⟨fun j hj => ⟨?_, frozen_of_row _ _ _ _ _ hg⟩, ⟨?_, Or.inr ⟨g, cap, cs', ?_, hb, q1, ?_, hm, by rw [q2, hcs], ?_⟩⟩, hz.2.1, hz.2.2.1, hz.2.2.2, by omega, fun k' _ hn' => heap_setCells g _ _ _ k' (fun e' => hn' (by rw [e']))⟩
    · rw [cell_of_row _ _ _ _ _ _ hg, Array.getElem?_eq_getElem (by omega)]; rfl
    · rw [intC_length, flat_len hE']
    · rw [List.length_set]
    · rw [List.length_set]; exact hn
    · apply List.ext_getElem?
      intro i
      have h0 : (cur.toList.take (E.length * 21))[i]? = (intC E.flatten)[i]? := by rw [htake]
      rw [List.length_set, List.getElem?_take, Array.getElem?_toList, q3, intC_length, he, intC_get? (E.set k e).flatten, flat_get _ hE']
      rw [List.getElem?_take, Array.getElem?_toList, intC_get?, flat_get _ hE] at h0
      by_cases hi : i < E.length * 21
      · rw [if_pos hi] at h0 ⊢
        by_cases hc : k * 21 ≤ i ∧ i < k * 21 + 21 ∧ i < cur.size
        · rw [if_pos hc, show i / 21 = k by omega, show i % 21 = i - k * 21 by omega, intC_get?]
          rw [List.getElem?_set, if_pos rfl, if_pos hk]
          rfl
        · have hcsz : i < cur.size := by
            have : E.length * 21 ≤ cap * 21 := Nat.mul_le_mul_right _ hn
            omega
          rw [if_neg hc, h0, List.getElem?_set, if_neg (by omega)]
      · rw [if_neg hi]
        rw [List.getElem?_eq_none (by rw [List.length_set]; omega)]; rfl

theorem flatE (p : Nat) (m : Int) : ∀ e ∈ List.replicate p (evM m), e.length = 21 := fun e he => by rw [List.eq_of_mem_replicate he]; rfl

/-- One event of a list written. -/
theorem wp_evstore {ops : Array Oper} {rest : List Oper} {o : Oper} {a : Act} {Q : Exit → Act → World → Prop} (u : World) (hgd : o.guard = none) (x y : Operand) (ho : o.op = .store 75 x y) (base g cap k off n : Nat) (E E' : List (List Int)) (e : List Int)
    (hoff : off = k * 21) (hx : a.eval x = .pointer (some ⟨g, off, none⟩)) (hy : a.eval y = .agg (intA e)) (h : EvAt u base (.slice (some ⟨g, 0, none⟩) n cap) E) (hE : ∀ x ∈ E, x.length = 21) (he : e.length = 21) (hl : E.length = n) (hk : k < n) (hE' : E.set k e = E')
    (hn : ∀ u', EvAt u' base (.slice (some ⟨g, 0, none⟩) n cap) E' → u.grownBy u' (some g) → wpList Tryd.prog ops Q rest (a.put o.dst undef) u') : wpList Tryd.prog ops Q (o :: rest) a u := by
  subst hoff hl hE'
  obtain ⟨h1, h2, h3⟩ := ev_store h hE he hk
  refine wpList_store_mid hgd 75 x y ho g (k * 21) (intA e) hx hy (by rw [intA_size, he]; exact h1) (by rw [intA_size, he]; exact info44) (intA_all _) ?_
  exact hn _ h2 h3

theorem info45 : (Tryd.prog.info? 76).map (fun i => (i.zero, i.size, i.bytes)) = some (some (.slice none 0 0), 1, 24) := by kernel_rfl

/-- Lists of events put behind a list of such lists. -/
theorem wp_appLE {ops : Array Oper} {rest : List Oper} {o : Oper} {a : Act} {Q : Exit → Act → World → Prop} (u : World) (hgd : o.guard = none) (s x : Operand)
    (ho : o.op = .call { callee := .builtin .append, args := #[s, x], argTypes := #[27, 27] }) (base : Nat) (v : Value) (L Y : List Value) (arr : Array Value) (harr : arr = Y.toArray) (hY : 0 < Y.length) (hone : ∀ y ∈ Y, y.oneCell' = true)
    (hs : a.eval s = v) (own : u.ownsRow base 76 1 v L.length L) (g k : Nat) (hg : g = u.heap.size) (hk : k = Y.length) (hx : a.eval x = .slice (some ⟨g, 0, none⟩) k k) (hL : L.length + Y.length ≤ 2000000000) (hb : base ≤ u.heap.size)
    (h : ∀ v' w', Hid (w'.ownsRow base 76 1 v' (L ++ Y).length (L ++ Y)) → u.grownBy w' v.ownBlock → wpList Tryd.prog ops Q rest (a.put o.dst v') w') :
    wpList Tryd.prog ops Q (o :: rest) a (u.alloc (.cells arr 76)) := by
  obtain ⟨i0, hi, hz0, hz1, hz2⟩ := info_parts info45
  subst hg hk harr
  refine wpList_append_strong _ hgd s x 27 ho base 76 i0 (.slice none 0 0) 1 24 Tryd.underlying27 hi hz0 hz1 hz2 rfl v _ _ hs (World.ownsRow.alloc own _) ⟨u.heap.size, 0, none⟩ Y.length Y.length Y hx (by simp) (cells_new _ _ _) hone hY ?_ ?_ ?_ ?_
  · unfold maxLen; omega
  · omega
  · simp; omega
  · intro v' w' hown hgrow _ _
    refine h v' w' ?_ (grown_trans (World.grownBy_alloc u _ _) hgrow)
    show w'.ownsRow base 76 1 v' (L ++ Y).length (L ++ Y)
    rw [List.length_append]; exact hown

/-- The book: its cells, the lists of events that came out, their marks, what lies in them; no other lists. -/
structure EkRaw (w : World) (bb : Nat) (vi vm : Value) (I : List Value) (M : List Int) (E : List (Value × Int)) (nx : Int) : Prop where
  c0 : w.cell? ⟨bb, 0, none⟩ = some (.slice none 0 0)
  c1 : w.cell? ⟨bb, 1, none⟩ = some (.slice none 0 0)
  c2 : w.cell? ⟨bb, 2, none⟩ = some vi
  c3 : w.cell? ⟨bb, 3, none⟩ = some vm
  c4 : w.cell? ⟨bb, 4, none⟩ = some (.slice none 0 0)
  c5 : w.cell? ⟨bb, 5, none⟩ = some (.slice none 0 0)
  c6 : w.cell? ⟨bb, 6, none⟩ = some (.int .i64 nx)
  f : ∀ j, j < 7 → w.frozen? ⟨bb, j, none⟩ = false
  oi : w.ownsRow (bb + 1) 76 1 vi I.length I
  om : LsAt w (bb + 1) vm M
  ent : ∀ x ∈ E, ∃ p, p ≤ 1000000000 ∧ EvAt w (bb + 1) x.1 (List.replicate p (evM x.2))

abbrev EkAt (w : World) (bb : Nat) (vi vm : Value) (E : List (Value × Int)) (nx : Int) : Prop := EkRaw w bb vi vm (E.map (·.1)) (E.map (·.2)) E nx

theorem EkRaw.lt {w : World} {bb : Nat} {vi vm : Value} {I : List Value} {M : List Int} {E : List (Value × Int)} {nx : Int} (h : EkRaw w bb vi vm I M E nx) : bb < w.heap.size := World.block_lt_of_cell? _ _ h.c0
theorem EkRaw.grown {w w' : World} {bb : Nat} {vi vm : Value} {I : List Value} {M : List Int} {E : List (Value × Int)} {nx : Int} (h : EkRaw w bb vi vm I M E nx) {row : Option Nat} (hg : w.grownBy w' row) (hbb : some bb ≠ row) (hi : vi.ownBlock = none ∨ vi.ownBlock ≠ row)
    (hm : vm.ownBlock = none ∨ vm.ownBlock ≠ row) (hE : ∀ x ∈ E, x.1.ownBlock = none ∨ x.1.ownBlock ≠ row) : EkRaw w' bb vi vm I M E nx := by
  have hbk := hg.block bb h.lt hbb
  refine ⟨(World.cell?_of_block hbk).trans h.c0, (World.cell?_of_block hbk).trans h.c1, (World.cell?_of_block hbk).trans h.c2, (World.cell?_of_block hbk).trans h.c3, (World.cell?_of_block hbk).trans h.c4, (World.cell?_of_block hbk).trans h.c5, (World.cell?_of_block hbk).trans h.c6,
    fun j hj => (World.frozen?_of_block hbk).trans (h.f j hj), h.oi.kept hg hi, World.ownsRow.kept h.om hg hm, fun x hx => ?_⟩
  obtain ⟨p, hp, hl⟩ := h.ent x hx
  exact ⟨p, hp, World.ownsRow.kept hl hg (hE x hx)⟩
theorem EkRaw.below {w w' : World} {bb : Nat} {vi vm : Value} {I : List Value} {M : List Int} {E : List (Value × Int)} {nx : Int} (h : EkRaw w bb vi vm I M E nx) (hb : Below w.heap.size w w') : EkRaw w' bb vi vm I M E nx := by
  have hg : w.grownBy w' none := ⟨hb.os, hb.tape, hb.output, hb.size, fun k hk _ => hb.block k hk⟩
  have hz : ∀ v : Value, v.ownBlock = none ∨ v.ownBlock ≠ none := fun v => by cases v.ownBlock <;> simp
  exact h.grown hg (by simp) (hz vi) (hz vm) (fun x _ => hz x.1)
theorem EkRaw.set6 {w : World} {bb : Nat} {vi vm : Value} {I : List Value} {M : List Int} {E : List (Value × Int)} {nx : Int} (h : EkRaw w bb vi vm I M E nx) (m : Int) : EkRaw (w.setCell ⟨bb, 6, none⟩ (.int .i64 m)) bb vi vm I M E m := by
  have o : ∀ j x, j ≠ 6 → w.cell? ⟨bb, j, none⟩ = some x → (w.setCell ⟨bb, 6, none⟩ (.int .i64 m)).cell? ⟨bb, j, none⟩ = some x := fun j x hj hx => (cell_set_other w bb 6 j _ (by omega)).trans hx
  refine ⟨o 0 _ (by omega) h.c0, o 1 _ (by omega) h.c1, o 2 _ (by omega) h.c2, o 3 _ (by omega) h.c3, o 4 _ (by omega) h.c4, o 5 _ (by omega) h.c5, World.cell?_setCell_same _ _ _ h.c6,
    fun j hj => (frozen_set _ _ _ _).trans (h.f j hj), ownsRow_setCell_below h.oi (by simp) _, ownsRow_setCell_below h.om (by simp) _, fun x hx => ?_⟩
  obtain ⟨p, hp, hl⟩ := h.ent x hx
  exact ⟨p, hp, ownsRow_setCell_below hl (by simp) _⟩
/-- The book behind an append to its lists. -/
theorem EkRaw.appI {w w5 : World} {bb : Nat} {vi vm : Value} {I : List Value} {M : List Int} {E : List (Value × Int)} {nx : Int} (h : EkRaw w bb vi vm I M E nx) (vi' : Value) (I' : List Value) (hg : w.grownBy w5 vi.ownBlock) (hI : w5.ownsRow (bb + 1) 76 1 vi' I'.length I') :
    (∀ j, w5.cell? ⟨bb, j, none⟩ = w.cell? ⟨bb, j, none⟩) ∧ (∀ j, w5.frozen? ⟨bb, j, none⟩ = w.frozen? ⟨bb, j, none⟩) ∧ EkRaw (w5.setCell ⟨bb, 2, none⟩ vi') bb vi' vm I' M E nx := by
  have hbk := hg.block bb h.lt (fun e => by have := (h.oi.lt bb e.symm).1; omega)
  have hc : ∀ j, w5.cell? ⟨bb, j, none⟩ = w.cell? ⟨bb, j, none⟩ := fun j => World.cell?_of_block hbk
  have hf : ∀ j, w5.frozen? ⟨bb, j, none⟩ = w.frozen? ⟨bb, j, none⟩ := fun j => World.frozen?_of_block hbk
  have o : ∀ j x, j ≠ 2 → w.cell? ⟨bb, j, none⟩ = some x → (w5.setCell ⟨bb, 2, none⟩ vi').cell? ⟨bb, j, none⟩ = some x := fun j x hj hx => (cell_set_other w5 bb 2 j _ (by omega)).trans ((hc j).trans hx)
  refine ⟨hc, hf, o 0 _ (by omega) h.c0, o 1 _ (by omega) h.c1, World.cell?_setCell_same _ _ _ ((hc 2).trans h.c2), o 3 _ (by omega) h.c3, o 4 _ (by omega) h.c4, o 5 _ (by omega) h.c5, o 6 _ (by omega) h.c6,
    fun j hj => (frozen_set _ _ _ _).trans ((hf j).trans (h.f j hj)), ownsRow_setCell_below hI (by simp) _, ownsRow_setCell_below (World.ownsRow.kept h.om hg (apart_types h.om h.oi (by decide))) (by simp) _, fun x hx => ?_⟩
  obtain ⟨p, hp, hl⟩ := h.ent x hx
  exact ⟨p, hp, ownsRow_setCell_below (World.ownsRow.kept hl hg (apart_types hl h.oi (by decide))) (by simp) _⟩
/-- The book behind an append to its marks. -/
theorem EkRaw.appM {w w5 : World} {bb : Nat} {vi vm : Value} {I : List Value} {M : List Int} {E : List (Value × Int)} {nx : Int} (h : EkRaw w bb vi vm I M E nx) (vm' : Value) (M' : List Int) (hg : w.grownBy w5 vm.ownBlock) (hM : LsAt w5 (bb + 1) vm' M') :
    (∀ j, w5.cell? ⟨bb, j, none⟩ = w.cell? ⟨bb, j, none⟩) ∧ (∀ j, w5.frozen? ⟨bb, j, none⟩ = w.frozen? ⟨bb, j, none⟩) ∧ EkRaw (w5.setCell ⟨bb, 3, none⟩ vm') bb vi vm' I M' E nx := by
  have hbk := hg.block bb h.lt (fun e => by have := (World.ownsRow.lt h.om bb e.symm).1; omega)
  have hc : ∀ j, w5.cell? ⟨bb, j, none⟩ = w.cell? ⟨bb, j, none⟩ := fun j => World.cell?_of_block hbk
  have hf : ∀ j, w5.frozen? ⟨bb, j, none⟩ = w.frozen? ⟨bb, j, none⟩ := fun j => World.frozen?_of_block hbk
  have o : ∀ j x, j ≠ 3 → w.cell? ⟨bb, j, none⟩ = some x → (w5.setCell ⟨bb, 3, none⟩ vm').cell? ⟨bb, j, none⟩ = some x := fun j x hj hx => (cell_set_other w5 bb 3 j _ (by omega)).trans ((hc j).trans hx)
  refine ⟨hc, hf, o 0 _ (by omega) h.c0, o 1 _ (by omega) h.c1, o 2 _ (by omega) h.c2, World.cell?_setCell_same _ _ _ ((hc 3).trans h.c3), o 4 _ (by omega) h.c4, o 5 _ (by omega) h.c5, o 6 _ (by omega) h.c6,
    fun j hj => (frozen_set _ _ _ _).trans ((hf j).trans (h.f j hj)), ownsRow_setCell_below (World.ownsRow.kept h.oi hg (apart_types h.oi h.om (by decide))) (by simp) _, ownsRow_setCell_below hM (by simp) _, fun x hx => ?_⟩
  obtain ⟨p, hp, hl⟩ := h.ent x hx
  exact ⟨p, hp, ownsRow_setCell_below (World.ownsRow.kept hl hg (apart_types hl h.om (by decide))) (by simp) _⟩
/-- The book with more lists told of. -/
theorem EkRaw.more {w : World} {bb : Nat} {vi vm : Value} {I : List Value} {M : List Int} {E : List (Value × Int)} {nx : Int} (h : EkRaw w bb vi vm I M E nx) (E' : List (Value × Int))
    (he : ∀ x ∈ E', ∃ p, p ≤ 1000000000 ∧ EvAt w (bb + 1) x.1 (List.replicate p (evM x.2))) : EkRaw w bb vi vm I M (E ++ E') nx :=
  ⟨h.c0, h.c1, h.c2, h.c3, h.c4, h.c5, h.c6, h.f, h.oi, h.om, fun x hx => (List.mem_append.1 hx).elim (h.ent x) (he x)⟩

/-- A list of events: its value, its cells. -/
theorem ev_form {w : World} {base : Nat} {v : Value} {E : List (List Int)} (h : EvAt w base v E) (hE : ∀ e ∈ E, e.length = 21) :
    ∃ ao cap, v = .slice ao E.length cap ∧ ∀ j e, E[j]? = some e → ∃ g, ao = some ⟨g, 0, none⟩ ∧ g < w.heap.size ∧ w.rangeAt g (j * 21) (intC e) := by
  obtain ⟨h1, h2⟩ := h
  rcases h2 with ⟨rfl, h0⟩ | ⟨g, cap, cur, rfl, _, hg, hn, _, hcs, htake⟩
  · refine ⟨none, 0, by rw [h0], fun j e hj => ?_⟩
    have := (List.getElem?_eq_some_iff.1 hj).1
    omega
  · refine ⟨_, cap, rfl, fun j e hj => ⟨g, rfl, (Array.getElem?_eq_some_iff.1 hg).1, fun i v hv => ?_⟩⟩
    have hjl := (List.getElem?_eq_some_iff.1 hj).1
    have he : e.length = 21 := hE e (List.mem_of_getElem? hj)
    have hi : i < 21 := by
      have := (List.getElem?_eq_some_iff.1 hv).1
      rw [intC_length, he] at this; exact this
    rw [cell_of_row _ _ _ _ _ _ hg]
    have h0 : (cur.toList.take (E.length * 21))[j * 21 + i]? = (intC E.flatten)[j * 21 + i]? := by rw [htake]
    rw [List.getElem?_take, Array.getElem?_toList, intC_get?, flat_get _ hE, show (j * 21 + i) / 21 = j by omega, show (j * 21 + i) % 21 = i by omega, hj, if_pos (by omega)] at h0
    rw [h0]
    rw [intC_get?] at hv
    simpa using hv

/-- What is read of the i-th list. -/
theorem EkRaw.entry {w : World} {bb : Nat} {vi vm : Value} {E : List (Value × Int)} {nx : Int} (h : EkAt w bb vi vm E nx) :
    ∃ ai ci am cm, vi = .slice ai E.length ci ∧ vm = .slice am E.length cm ∧
      ∀ i, i < E.length → ∃ gi gm ax p cx m, ai = some ⟨gi, 0, none⟩ ∧ am = some ⟨gm, 0, none⟩ ∧ w.cell? ⟨gi, i, none⟩ = some (.slice ax p cx) ∧ w.cell? ⟨gm, i, none⟩ = some (.int .i64 m) ∧ p ≤ 1000000000 ∧
        ∀ k, k < p → ∃ g, ax = some ⟨g, 0, none⟩ ∧ g < w.heap.size ∧ w.rangeAt g (k * 21) (intC (evM m)) := by
  obtain ⟨ai, ci, e1, q1⟩ := row_form h.oi
  obtain ⟨am, cm, e2, q2⟩ := row_form h.om
  refine ⟨ai, ci, am, cm, by simpa using e1, by simpa using e2, fun i hi => ?_⟩
  obtain ⟨gi, g1, g2⟩ := q1 i (E[i]).1 (by simp [List.getElem?_eq_getElem hi])
  obtain ⟨gm, g3, g4⟩ := q2 i (.int .i64 (E[i]).2) (by simp [List.getElem?_eq_getElem hi])
  obtain ⟨p, hp, hl⟩ := h.ent _ (List.getElem_mem hi)
  obtain ⟨ax, cx, e3, q3⟩ := ev_form hl (flatE _ _)
  rw [e3] at g2
  simp only [List.length_replicate] at g2
  refine ⟨gi, gm, ax, p, cx, (E[i]).2, g1, g3, g2, g4, hp, fun k hk => ?_⟩
  exact q3 k _ (by simp [hk])

theorem filled_setE (L : List (List Int)) (m : List Int) (k : Nat) (h : k < L.length) : (List.replicate k m ++ L.drop k).set k m = List.replicate (k + 1) m ++ L.drop (k + 1) := by
  rw [List.set_append_right k m (by simp), List.length_replicate, Nat.sub_self, List.drop_eq_getElem_cons h, List.set_cons_zero, List.replicate_succ', List.append_assoc]; rfl

end Go.Proofs.YtheibfffilomcaaDoor
