/- Eqe Ebk Kr together. -/
import Derived.Test.YtheibfffilomcaaGreatDoorEvw
import Derived.ChangeKeysEq
import Derived.Test.YtheibfffilomcaaGreatDoorZnM
import Derived.Test.YtheibfffilomcaaGreatDoorPdM
import Derived.Test.YtheibfffilomcaaGreatDoorKpM

/- Two events held against one another: an event is the same as itself. -/
namespace Go.Proofs.YtheibfffilomcaaGreatDoor
open Go.RowKit

theorem part3 (xs : Array Value) (off : Nat) (x : Int) (h : xs[off]? = some (.int .i64 x)) (w : World) : (part 3 xs off).run Tryz.prog w = .ok (.int .i64 x) w := by
  have hz : (isAgg 3).run Tryz.prog w = .ok false w := by kernel_rfl
  simp [part, hz, h]
theorem part42 (xs : Array Value) (off : Nat) (w : World) : (part 44 xs off).run Tryz.prog w = .ok (.agg (xs.extract off (off + 16))) w := by
  have hz : (isAgg 44).run Tryz.prog w = .ok true w := by kernel_rfl
  have hs : (sizeOf 44).run Tryz.prog w = .ok 16 w := by kernel_rfl
  simp only [part, Sem.run_bind, hz, Result.andThen_ok, if_true, hs, Sem.run_pure]
theorem items_self (d : Nat) (xs : Array Value) (w : World) : ∀ is : List Nat, (∀ i ∈ is, ∃ x, xs[i * 1]? = some (.int .i64 x)) → (Op.eqItems (d + 1) 3 1 xs xs is).run Tryz.prog w = .ok true w
  | [], _ => by simp [Op.eqItems]
  | i :: is, h => by
    obtain ⟨x, hx⟩ := h i (by simp)
    have ih := items_self d xs w is (fun j hj => h j (by simp [hj]))
    have he : (Op.equalIn (d + 1) 3 (.int .i64 x) (.int .i64 x)).run Tryz.prog w = .ok true w := by
      rw [run_equalIn_int w d 3 .i64 .i64 x x Tryz.underlying3]; simp
    simp only [Op.eqItems, Sem.run_bind, part3 xs _ x hx, Result.andThen_ok, he, Bool.not_true, Bool.false_eq_true, if_false]
    exact ih
theorem arr_self (d : Nat) (xs : Array Value) (w : World) (h : ∀ i, i < 16 → ∃ x, xs[i]? = some (.int .i64 x)) : (Op.equalIn (d + 2) 44 (.agg xs) (.agg xs)).run Tryz.prog w = .ok true w := by
  obtain ⟨i0, hi, _⟩ := info_parts info3
  have hc : Tryz.prog.cellsOf 3 = 1 := by kernel_rfl
  rw [run_equalIn_array w (d + 1) xs xs Tryz.underlying44 hi, hc]
  exact items_self d xs w _ (fun i hi => by rw [Nat.mul_one]; exact h i (by simpa using hi))
theorem fields_self (d : Nat) (xs : Array Value) (w : World) (hx : ∀ i, i < 21 → ∃ x, xs[i]? = some (.int .i64 x)) : ∀ fs : List Field, (∀ f ∈ fs, (f.type = 3 ∧ f.offset < 5) ∨ (f.type = 44 ∧ f.offset = 5)) → (Op.eqFields (d + 2) xs xs fs).run Tryz.prog w = .ok true w
  | [], _ => by simp [Op.eqFields]
  | f :: fs, h => by
    have ih := fields_self d xs w hx fs (fun g hg => h g (by simp [hg]))
    have key : ∃ v, (part f.type xs f.offset).run Tryz.prog w = .ok v w ∧ (Op.equalIn (d + 2) f.type v v).run Tryz.prog w = .ok true w := by
      rcases h f (by simp) with ⟨ht, ho⟩ | ⟨ht, ho⟩
      · obtain ⟨x, hxx⟩ := hx f.offset (by omega)
        rw [ht]
        exact ⟨_, part3 xs _ x hxx w, by rw [run_equalIn_int w (d + 1) 3 .i64 .i64 x x Tryz.underlying3]; simp⟩
      · rw [ht, ho]
        refine ⟨_, part42 xs 5 w, arr_self d _ w fun i hi => ?_⟩
        obtain ⟨x, hxx⟩ := hx (5 + i) (by omega)
        exact ⟨x, by rw [Array.getElem?_extract, if_pos (by have := (Array.getElem?_eq_some_iff.1 hxx).1; omega)]; exact hxx⟩
    obtain ⟨v, h1, h2⟩ := key
    simp only [Op.eqFields, Sem.run_bind, Sem.run_ite]
    split
    · simp only [h1, h2, Result.andThen_ok, Bool.not_true, Bool.false_eq_true, if_false]
      exact ih
    · exact ih
theorem eq44 (e : List Int) (h : e.length = 21) (w : World) : (Op.equalIn 10000 46 (.agg (intA e)) (.agg (intA e))).run Tryz.prog w = .ok true w := by
  have hu : Tryz.prog.underlying 46 = some (.struct (Tryz.prog.fieldsOf 46)) := by kernel_rfl
  have hp : Tryz.prog.stoodInHeld 46 = false := by kernel_rfl
  rw [run_equalIn_struct w 9999 46 _ _ hu hp]
  refine fields_self 9997 _ w (fun i hi => ⟨e.getD i 0, ?_⟩) _ (of_decide_eq_true (by kernel_rfl))
  simpa [intA] using intC_get e i (by omega)
theorem guard44 (op : BinOp) (x y : Operand) (xs ys : Array Value) (w : World) : (eqGuard op 46 x y (.agg xs) (.agg ys)).run Tryz.prog w = .ok () w := run_eqGuard_agg w op 46 x y xs ys (by kernel_rfl)
theorem eql44 (e : List Int) (h : e.length = 21) (w : World) : (binOp .eql 46 (.agg (intA e)) (.agg (intA e))).run Tryz.prog w = .ok (.bool true) w := by
  rw [run_eql_struct, eq44 e h]; rfl
theorem neq44 (e : List Int) (h : e.length = 21) (w : World) : (binOp .neq 46 (.agg (intA e)) (.agg (intA e))).run Tryz.prog w = .ok (.bool false) w := by
  rw [run_neq_struct, eq44 e h]; rfl

end Go.Proofs.YtheibfffilomcaaGreatDoor

/- The book of lists of events: its words, and laws for what is put into it. -/
namespace Go.Proofs.YtheibfffilomcaaGreatDoor
open Go.RowKit

/-- The event that a mark makes. -/
def evM (m : Int) : List Int := [m, m, 0, 0, 0] ++ z16
theorem evM_len (m : Int) : (evM m).length = 21 := rfl

theorem setCells_row (b : Nat) : ∀ (vs : List Value) (o : Nat) (w : World) (cs : Array Value) (t : TypeId), w.heap[b]? = some (.cells cs t (0, 0)) →
    ∃ cs', (w.setCells b o vs).heap[b]? = some (.cells cs' t (0, 0)) ∧ cs'.size = cs.size ∧ ∀ i, cs'[i]? = if o ≤ i ∧ i < o + vs.length ∧ i < cs.size then vs[i - o]? else cs[i]?
  | [], o, w, cs, t, h => ⟨cs, h, rfl, fun i => by rw [if_neg (by simp; omega)]⟩
  | v :: r, o, w, cs, t, h => by
    obtain ⟨cs', h1, h2, h3⟩ := setCells_row b r (o + 1) _ _ t (heap_setCell_same w b o cs t v h)
    refine ⟨cs', h1, by rw [h2]; simp, fun i => ?_⟩
    rw [h3]
    simp only [List.length_cons, Array.size_setIfInBounds]
    by_cases hi : i = o
    · subst hi
      rw [if_neg (by omega)]
      by_cases hc : i < cs.size
      · rw [if_pos (by omega)]; simp [hc]
      · rw [if_neg (by omega), Array.getElem?_eq_none (by omega : cs.size ≤ i), Array.getElem?_eq_none (by simp; omega)]
    · by_cases hc : o + 1 ≤ i ∧ i < o + 1 + r.length ∧ i < cs.size
      · rw [if_pos hc, if_pos (by omega), show i - o = (i - (o + 1)) + 1 by omega, List.getElem?_cons_succ]
      · rw [if_neg hc, if_neg (by omega), Array.getElem?_setIfInBounds, if_neg (by omega)]

theorem flat_get (E : List (List Int)) (hE : ∀ e ∈ E, e.length = 21) (i : Nat) : E.flatten[i]? = (E[i / 21]?).bind (·[i % 21]?) := by
  induction E generalizing i with
  | nil => simp
  | cons e E ih =>
    have he := hE e (by simp)
    rw [List.flatten_cons]
    by_cases h : i < 21
    · rw [List.getElem?_append_left (by omega), show i / 21 = 0 by omega, show i % 21 = i by omega]; rfl
    · rw [List.getElem?_append_right (by omega), he, ih (fun x hx => hE x (by simp [hx])), show i / 21 = (i - 21) / 21 + 1 by omega, show i % 21 = (i - 21) % 21 by omega, List.getElem?_cons_succ]

theorem intC_get? (l : List Int) (i : Nat) : (intC l)[i]? = (l[i]?).map (Value.int .i64) := by simp [intC]

theorem ev_store {w : World} {base g cap k : Nat} {E : List (List Int)} {e : List Int} (h : EvAt w base (.slice (some ⟨g, 0, none⟩) E.length cap) E) (hE : ∀ x ∈ E, x.length = 21) (he : e.length = 21) (hk : k < E.length) :
    w.there g (k * 21) 21 ∧ EvAt (w.setCells g (k * 21) (intC e)) base (.slice (some ⟨g, 0, none⟩) E.length cap) (E.set k e) ∧ w.grownBy (w.setCells g (k * 21) (intC e)) (some g) := by
  obtain ⟨h1, h2⟩ := h
  rcases h2 with ⟨h2, _⟩ | ⟨g', cap', cur, hv, hb, hg, hn, hm, hcs, htake⟩
  · cases h2
  · cases hv
    have hE' : ∀ x ∈ E.set k e, x.length = 21 := fun x hx => by
      rcases List.mem_or_eq_of_mem_set hx with hx | rfl
      · exact hE x hx
      · exact he
    have hsz : (k + 1) * 21 ≤ cap * 21 := Nat.mul_le_mul_right _ (by omega)
    obtain ⟨cs', q1, q2, q3⟩ := setCells_row g (intC e) (k * 21) w cur 46 hg
    have hz := size_setCells g (intC e) (k * 21) w
    refine ⟨fun j hj => ⟨?_, frozen_of_row _ _ _ _ _ hg⟩, ⟨?_, Or.inr ⟨g, cap, cs', ?_, hb, q1, ?_, hm, by rw [q2, hcs], ?_⟩⟩, hz.2.1, hz.2.2.1, hz.2.2.2, by omega, fun k' _ hn' => heap_setCells g _ _ _ k' (fun e' => hn' (by rw [e']))⟩
    · rw [cell_of_row _ _ _ _ _ _ hg, Array.getElem?_eq_getElem (by omega)]; rfl
    · rw [intC_length, flat_len hE']
    · rw [List.length_set]
    · rw [List.length_set]; exact hn
    · apply List.ext_getElem?
      intro i
      have h0 : (cur.toList.take (E.length * 21))[i]? = (intC E.flatten)[i]? := by rw [htake]
      rw [List.length_set, List.getElem?_take, Array.getElem?_toList, q3, intC_length, he, intC_get? (E.set k e).flatten, flat_get _ hE']
      rw [List.getElem?_take, Array.getElem?_toList, intC_get?, flat_get _ hE] at h0
      by_cases hi : i < E.length * 21
      · rw [if_pos hi] at h0 ⊢
        by_cases hc : k * 21 ≤ i ∧ i < k * 21 + 21 ∧ i < cur.size
        · rw [if_pos hc, show i / 21 = k by omega, show i % 21 = i - k * 21 by omega, intC_get?]
          rw [List.getElem?_set, if_pos rfl, if_pos hk]
          rfl
        · have hcsz : i < cur.size := by
            have : E.length * 21 ≤ cap * 21 := Nat.mul_le_mul_right _ hn
            omega
          rw [if_neg hc, h0, List.getElem?_set, if_neg (by omega)]
      · rw [if_neg hi]
        rw [List.getElem?_eq_none (by rw [List.length_set]; omega)]; rfl

theorem flatE (p : Nat) (m : Int) : ∀ e ∈ List.replicate p (evM m), e.length = 21 := fun e he => by rw [List.eq_of_mem_replicate he]; rfl

/-- One event of a list written. -/
theorem wp_evstore {ops : Array Oper} {rest : List Oper} {o : Oper} {a : Act} {Q : Exit → Act → World → Prop} (u : World) (hgd : o.guard = none) (x y : Operand) (ho : o.op = .store 46 x y) (base g cap k off n : Nat) (E E' : List (List Int)) (e : List Int)
    (hoff : off = k * 21) (hx : a.eval x = .pointer (some ⟨g, off, none⟩)) (hy : a.eval y = .agg (intA e)) (h : EvAt u base (.slice (some ⟨g, 0, none⟩) n cap) E) (hE : ∀ x ∈ E, x.length = 21) (he : e.length = 21) (hl : E.length = n) (hk : k < n) (hE' : E.set k e = E')
    (hn : ∀ u', EvAt u' base (.slice (some ⟨g, 0, none⟩) n cap) E' → u.grownBy u' (some g) → wpList Tryz.prog ops Q rest (a.put o.dst undef) u') : wpList Tryz.prog ops Q (o :: rest) a u := by
  subst hoff hl hE'
  obtain ⟨h1, h2, h3⟩ := ev_store h hE he hk
  refine wpList_store_mid hgd 46 x y ho g (k * 21) (intA e) hx hy (by rw [intA_size, he]; exact h1) (by rw [intA_size, he]; exact info44) (intA_all _) ?_
  exact hn _ h2 h3

theorem info45 : (Tryz.prog.info? 41).map (fun i => (i.zero, i.size, i.bytes)) = some (some (.slice none 0 0), 1, 24) := by kernel_rfl

/-- Lists of events put behind a list of such lists. -/
theorem wp_appLE {ops : Array Oper} {rest : List Oper} {o : Oper} {a : Act} {Q : Exit → Act → World → Prop} (u : World) (hgd : o.guard = none) (s x : Operand)
    (ho : o.op = .call { callee := .builtin .append, args := #[s, x], argTypes := #[54, 54] }) (base : Nat) (v : Value) (L Y : List Value) (arr : Array Value) (harr : arr = Y.toArray) (hY : 0 < Y.length) (hone : ∀ y ∈ Y, y.oneCell' = true)
    (hs : a.eval s = v) (own : u.ownsRow base 41 1 v L.length L) (g k : Nat) (hg : g = u.heap.size) (hk : k = Y.length) (hx : a.eval x = .slice (some ⟨g, 0, none⟩) k k) (hL : L.length + Y.length ≤ 2000000000) (hb : base ≤ u.heap.size)
    (h : ∀ v' w', Hid (w'.ownsRow base 41 1 v' (L ++ Y).length (L ++ Y)) → u.grownBy w' v.ownBlock → wpList Tryz.prog ops Q rest (a.put o.dst v') w') :
    wpList Tryz.prog ops Q (o :: rest) a (u.alloc (.cells arr 41)) := by
  obtain ⟨i0, hi, hz0, hz1, hz2⟩ := info_parts info45
  subst hg hk harr
  refine wpList_append_strong _ hgd s x 54 ho base 41 i0 (.slice none 0 0) 1 24 Tryz.underlying54 hi hz0 hz1 hz2 rfl v _ _ hs (World.ownsRow.alloc own _) ⟨u.heap.size, 0, none⟩ Y.length Y.length Y hx (by simp) (cells_new _ _ _) hone hY ?_ ?_ ?_ ?_
  · unfold maxLen; omega
  · omega
  · simp; omega
  · intro v' w' hown hgrow _ _
    refine h v' w' ?_ (grown_trans (World.grownBy_alloc u _ _) hgrow)
    show w'.ownsRow base 41 1 v' (L ++ Y).length (L ++ Y)
    rw [List.length_append]; exact hown

/-- The book: its cells, the lists of events that came out, their marks, what lies in them; no other lists. -/
structure EkRaw (w : World) (bb : Nat) (vi vm : Value) (I : List Value) (M : List Int) (E : List (Value × Int)) (nx : Int) : Prop where
  c0 : w.cell? ⟨bb, 0, none⟩ = some (.slice none 0 0)
  c1 : w.cell? ⟨bb, 1, none⟩ = some (.slice none 0 0)
  c2 : w.cell? ⟨bb, 2, none⟩ = some vi
  c3 : w.cell? ⟨bb, 3, none⟩ = some vm
  c4 : w.cell? ⟨bb, 4, none⟩ = some (.slice none 0 0)
  c5 : w.cell? ⟨bb, 5, none⟩ = some (.slice none 0 0)
  c6 : w.cell? ⟨bb, 6, none⟩ = some (.int .i64 nx)
  f : ∀ j, j < 7 → w.frozen? ⟨bb, j, none⟩ = false
  oi : w.ownsRow (bb + 1) 41 1 vi I.length I
  om : LsAt w (bb + 1) vm M
  ent : ∀ x ∈ E, ∃ p, p ≤ 1000000000 ∧ EvAt w (bb + 1) x.1 (List.replicate p (evM x.2))

abbrev EkAt (w : World) (bb : Nat) (vi vm : Value) (E : List (Value × Int)) (nx : Int) : Prop := EkRaw w bb vi vm (E.map (·.1)) (E.map (·.2)) E nx

theorem EkRaw.lt {w : World} {bb : Nat} {vi vm : Value} {I : List Value} {M : List Int} {E : List (Value × Int)} {nx : Int} (h : EkRaw w bb vi vm I M E nx) : bb < w.heap.size := World.block_lt_of_cell? _ _ h.c0
theorem EkRaw.grown {w w' : World} {bb : Nat} {vi vm : Value} {I : List Value} {M : List Int} {E : List (Value × Int)} {nx : Int} (h : EkRaw w bb vi vm I M E nx) {row : Option Nat} (hg : w.grownBy w' row) (hbb : some bb ≠ row) (hi : vi.ownBlock = none ∨ vi.ownBlock ≠ row)
    (hm : vm.ownBlock = none ∨ vm.ownBlock ≠ row) (hE : ∀ x ∈ E, x.1.ownBlock = none ∨ x.1.ownBlock ≠ row) : EkRaw w' bb vi vm I M E nx := by
  have hbk := hg.block bb h.lt hbb
  refine ⟨(World.cell?_of_block hbk).trans h.c0, (World.cell?_of_block hbk).trans h.c1, (World.cell?_of_block hbk).trans h.c2, (World.cell?_of_block hbk).trans h.c3, (World.cell?_of_block hbk).trans h.c4, (World.cell?_of_block hbk).trans h.c5, (World.cell?_of_block hbk).trans h.c6,
    fun j hj => (World.frozen?_of_block hbk).trans (h.f j hj), h.oi.kept hg hi, World.ownsRow.kept h.om hg hm, fun x hx => ?_⟩
  obtain ⟨p, hp, hl⟩ := h.ent x hx
  exact ⟨p, hp, World.ownsRow.kept hl hg (hE x hx)⟩
theorem EkRaw.below {w w' : World} {bb : Nat} {vi vm : Value} {I : List Value} {M : List Int} {E : List (Value × Int)} {nx : Int} (h : EkRaw w bb vi vm I M E nx) (hb : Below w.heap.size w w') : EkRaw w' bb vi vm I M E nx := by
  have hg : w.grownBy w' none := ⟨hb.os, hb.tape, hb.output, hb.size, fun k hk _ => hb.block k hk⟩
  have hz : ∀ v : Value, v.ownBlock = none ∨ v.ownBlock ≠ none := fun v => by cases v.ownBlock <;> simp
  exact h.grown hg (by simp) (hz vi) (hz vm) (fun x _ => hz x.1)
theorem EkRaw.set6 {w : World} {bb : Nat} {vi vm : Value} {I : List Value} {M : List Int} {E : List (Value × Int)} {nx : Int} (h : EkRaw w bb vi vm I M E nx) (m : Int) : EkRaw (w.setCell ⟨bb, 6, none⟩ (.int .i64 m)) bb vi vm I M E m := by
  have o : ∀ j x, j ≠ 6 → w.cell? ⟨bb, j, none⟩ = some x → (w.setCell ⟨bb, 6, none⟩ (.int .i64 m)).cell? ⟨bb, j, none⟩ = some x := fun j x hj hx => (cell_set_other w bb 6 j _ (by omega)).trans hx
  refine ⟨o 0 _ (by omega) h.c0, o 1 _ (by omega) h.c1, o 2 _ (by omega) h.c2, o 3 _ (by omega) h.c3, o 4 _ (by omega) h.c4, o 5 _ (by omega) h.c5, World.cell?_setCell_same _ _ _ h.c6,
    fun j hj => (frozen_set _ _ _ _).trans (h.f j hj), ownsRow_setCell_below h.oi (by simp) _, ownsRow_setCell_below h.om (by simp) _, fun x hx => ?_⟩
  obtain ⟨p, hp, hl⟩ := h.ent x hx
  exact ⟨p, hp, ownsRow_setCell_below hl (by simp) _⟩
/-- The book behind an append to its lists. -/
theorem EkRaw.appI {w w5 : World} {bb : Nat} {vi vm : Value} {I : List Value} {M : List Int} {E : List (Value × Int)} {nx : Int} (h : EkRaw w bb vi vm I M E nx) (vi' : Value) (I' : List Value) (hg : w.grownBy w5 vi.ownBlock) (hI : w5.ownsRow (bb + 1) 41 1 vi' I'.length I') :
    (∀ j, w5.cell? ⟨bb, j, none⟩ = w.cell? ⟨bb, j, none⟩) ∧ (∀ j, w5.frozen? ⟨bb, j, none⟩ = w.frozen? ⟨bb, j, none⟩) ∧ EkRaw (w5.setCell ⟨bb, 2, none⟩ vi') bb vi' vm I' M E nx := by
  have hbk := hg.block bb h.lt (fun e => by have := (h.oi.lt bb e.symm).1; omega)
  have hc : ∀ j, w5.cell? ⟨bb, j, none⟩ = w.cell? ⟨bb, j, none⟩ := fun j => World.cell?_of_block hbk
  have hf : ∀ j, w5.frozen? ⟨bb, j, none⟩ = w.frozen? ⟨bb, j, none⟩ := fun j => World.frozen?_of_block hbk
  have o : ∀ j x, j ≠ 2 → w.cell? ⟨bb, j, none⟩ = some x → (w5.setCell ⟨bb, 2, none⟩ vi').cell? ⟨bb, j, none⟩ = some x := fun j x hj hx => (cell_set_other w5 bb 2 j _ (by omega)).trans ((hc j).trans hx)
  refine ⟨hc, hf, o 0 _ (by omega) h.c0, o 1 _ (by omega) h.c1, World.cell?_setCell_same _ _ _ ((hc 2).trans h.c2), o 3 _ (by omega) h.c3, o 4 _ (by omega) h.c4, o 5 _ (by omega) h.c5, o 6 _ (by omega) h.c6,
    fun j hj => (frozen_set _ _ _ _).trans ((hf j).trans (h.f j hj)), ownsRow_setCell_below hI (by simp) _, ownsRow_setCell_below (World.ownsRow.kept h.om hg (apart_types h.om h.oi (by decide))) (by simp) _, fun x hx => ?_⟩
  obtain ⟨p, hp, hl⟩ := h.ent x hx
  exact ⟨p, hp, ownsRow_setCell_below (World.ownsRow.kept hl hg (apart_types hl h.oi (by decide))) (by simp) _⟩
/-- The book behind an append to its marks. -/
theorem EkRaw.appM {w w5 : World} {bb : Nat} {vi vm : Value} {I : List Value} {M : List Int} {E : List (Value × Int)} {nx : Int} (h : EkRaw w bb vi vm I M E nx) (vm' : Value) (M' : List Int) (hg : w.grownBy w5 vm.ownBlock) (hM : LsAt w5 (bb + 1) vm' M') :
    (∀ j, w5.cell? ⟨bb, j, none⟩ = w.cell? ⟨bb, j, none⟩) ∧ (∀ j, w5.frozen? ⟨bb, j, none⟩ = w.frozen? ⟨bb, j, none⟩) ∧ EkRaw (w5.setCell ⟨bb, 3, none⟩ vm') bb vi vm' I M' E nx := by
  have hbk := hg.block bb h.lt (fun e => by have := (World.ownsRow.lt h.om bb e.symm).1; omega)
  have hc : ∀ j, w5.cell? ⟨bb, j, none⟩ = w.cell? ⟨bb, j, none⟩ := fun j => World.cell?_of_block hbk
  have hf : ∀ j, w5.frozen? ⟨bb, j, none⟩ = w.frozen? ⟨bb, j, none⟩ := fun j => World.frozen?_of_block hbk
  have o : ∀ j x, j ≠ 3 → w.cell? ⟨bb, j, none⟩ = some x → (w5.setCell ⟨bb, 3, none⟩ vm').cell? ⟨bb, j, none⟩ = some x := fun j x hj hx => (cell_set_other w5 bb 3 j _ (by omega)).trans ((hc j).trans hx)
  refine ⟨hc, hf, o 0 _ (by omega) h.c0, o 1 _ (by omega) h.c1, o 2 _ (by omega) h.c2, World.cell?_setCell_same _ _ _ ((hc 3).trans h.c3), o 4 _ (by omega) h.c4, o 5 _ (by omega) h.c5, o 6 _ (by omega) h.c6,
    fun j hj => (frozen_set _ _ _ _).trans ((hf j).trans (h.f j hj)), ownsRow_setCell_below (World.ownsRow.kept h.oi hg (apart_types h.oi h.om (by decide))) (by simp) _, ownsRow_setCell_below hM (by simp) _, fun x hx => ?_⟩
  obtain ⟨p, hp, hl⟩ := h.ent x hx
  exact ⟨p, hp, ownsRow_setCell_below (World.ownsRow.kept hl hg (apart_types hl h.om (by decide))) (by simp) _⟩
/-- The book with more lists told of. -/
theorem EkRaw.more {w : World} {bb : Nat} {vi vm : Value} {I : List Value} {M : List Int} {E : List (Value × Int)} {nx : Int} (h : EkRaw w bb vi vm I M E nx) (E' : List (Value × Int))
    (he : ∀ x ∈ E', ∃ p, p ≤ 1000000000 ∧ EvAt w (bb + 1) x.1 (List.replicate p (evM x.2))) : EkRaw w bb vi vm I M (E ++ E') nx :=
  ⟨h.c0, h.c1, h.c2, h.c3, h.c4, h.c5, h.c6, h.f, h.oi, h.om, fun x hx => (List.mem_append.1 hx).elim (h.ent x) (he x)⟩

/-- A list of events: its value, its cells. -/
theorem ev_form {w : World} {base : Nat} {v : Value} {E : List (List Int)} (h : EvAt w base v E) (hE : ∀ e ∈ E, e.length = 21) :
    ∃ ao cap, v = .slice ao E.length cap ∧ ∀ j e, E[j]? = some e → ∃ g, ao = some ⟨g, 0, none⟩ ∧ g < w.heap.size ∧ w.rangeAt g (j * 21) (intC e) := by
  obtain ⟨h1, h2⟩ := h
  rcases h2 with ⟨rfl, h0⟩ | ⟨g, cap, cur, rfl, _, hg, hn, _, hcs, htake⟩
  · refine ⟨none, 0, by rw [h0], fun j e hj => ?_⟩
    have := (List.getElem?_eq_some_iff.1 hj).1
    omega
  · refine ⟨_, cap, rfl, fun j e hj => ⟨g, rfl, (Array.getElem?_eq_some_iff.1 hg).1, fun i v hv => ?_⟩⟩
    have hjl := (List.getElem?_eq_some_iff.1 hj).1
    have he : e.length = 21 := hE e (List.mem_of_getElem? hj)
    have hi : i < 21 := by
      have := (List.getElem?_eq_some_iff.1 hv).1
      rw [intC_length, he] at this; exact this
    rw [cell_of_row _ _ _ _ _ _ hg]
    have h0 : (cur.toList.take (E.length * 21))[j * 21 + i]? = (intC E.flatten)[j * 21 + i]? := by rw [htake]
    rw [List.getElem?_take, Array.getElem?_toList, intC_get?, flat_get _ hE, show (j * 21 + i) / 21 = j by omega, show (j * 21 + i) % 21 = i by omega, hj, if_pos (by omega)] at h0
    rw [h0]
    rw [intC_get?] at hv
    simpa using hv

/-- What is read of the i-th list. -/
theorem EkRaw.entry {w : World} {bb : Nat} {vi vm : Value} {E : List (Value × Int)} {nx : Int} (h : EkAt w bb vi vm E nx) :
    ∃ ai ci am cm, vi = .slice ai E.length ci ∧ vm = .slice am E.length cm ∧
      ∀ i, i < E.length → ∃ gi gm ax p cx m, ai = some ⟨gi, 0, none⟩ ∧ am = some ⟨gm, 0, none⟩ ∧ w.cell? ⟨gi, i, none⟩ = some (.slice ax p cx) ∧ w.cell? ⟨gm, i, none⟩ = some (.int .i64 m) ∧ p ≤ 1000000000 ∧
        ∀ k, k < p → ∃ g, ax = some ⟨g, 0, none⟩ ∧ g < w.heap.size ∧ w.rangeAt g (k * 21) (intC (evM m)) := by
  obtain ⟨ai, ci, e1, q1⟩ := row_form h.oi
  obtain ⟨am, cm, e2, q2⟩ := row_form h.om
  refine ⟨ai, ci, am, cm, by simpa using e1, by simpa using e2, fun i hi => ?_⟩
  obtain ⟨gi, g1, g2⟩ := q1 i (E[i]).1 (by simp [List.getElem?_eq_getElem hi])
  obtain ⟨gm, g3, g4⟩ := q2 i (.int .i64 (E[i]).2) (by simp [List.getElem?_eq_getElem hi])
  obtain ⟨p, hp, hl⟩ := h.ent _ (List.getElem_mem hi)
  obtain ⟨ax, cx, e3, q3⟩ := ev_form hl (flatE _ _)
  rw [e3] at g2
  simp only [List.length_replicate] at g2
  refine ⟨gi, gm, ax, p, cx, (E[i]).2, g1, g3, g2, g4, hp, fun k hk => ?_⟩
  exact q3 k _ (by simp [hk])

theorem filled_setE (L : List (List Int)) (m : List Int) (k : Nat) (h : k < L.length) : (List.replicate k m ++ L.drop k).set k m = List.replicate (k + 1) m ++ L.drop (k + 1) := by
  rw [List.set_append_right k m (by simp), List.length_replicate, Nat.sub_self, List.drop_eq_getElem_cons h, List.set_cons_zero, List.replicate_succ', List.append_assoc]; rfl

end Go.Proofs.YtheibfffilomcaaGreatDoor

/- The walk of Replays. -/
namespace Go.Proofs.YtheibfffilomcaaGreatDoor
open Go.RowKit

theorem wpList_on {ops : Array Oper} {rest : List Oper} {o : Oper} {a : Act} {w : World} {Q : Exit → Act → World → Prop} (hw : Region.wanted o (yielded ops a.tmps) = true)
    (h : ∀ K : Act → World → Prop, (∀ a w, wpList Tryz.prog ops Q rest a w → K a w) → o.wp Tryz.prog a w K Q) : wpList Tryz.prog ops Q (o :: rest) a w :=
  wpList_step fun K hK => by simp only [hw, if_true]; exact h K hK
theorem infoEv : (Tryz.prog.info? 46).map (·.size) = some 21 := by kernel_rfl
theorem gl_load_ev {ops : Array Oper} {rest : List Oper} {o : Oper} {a : Act} {w : World} {Q : Exit → Act → World → Prop} (hw : Region.wanted o (yielded ops a.tmps) = true) (x : Operand) (ho : o.op = .load 46 x)
    (g off : Nat) (hx : a.eval x = .pointer (some ⟨g, off, none⟩)) (ev : List Int) (hl : ev.length = 21) (hr : w.rangeAt g off (intC ev))
    (h : wpList Tryz.prog ops Q rest (a.put o.dst (.agg (intA ev))) w) : wpList Tryz.prog ops Q (o :: rest) a w :=
  wpList_on hw fun _ hK => wp_load_mid 46 x ho g off hx (intC ev) _ hr Tryz.underlying46 rfl (by rw [infoEv, intC_length, hl]) (hK _ _ h)
theorem gl_eqlE {ops : Array Oper} {rest : List Oper} {o : Oper} {a : Act} {u : World} {Q : Exit → Act → World → Prop} (hw : Region.wanted o (yielded ops a.tmps) = true) (x y : Operand) (ho : o.op = .binOp .eql 46 x y 46) (ev : List Int) (hl : ev.length = 21) (hx : a.eval x = .agg (intA ev)) (hy : a.eval y = .agg (intA ev))
    (h : wpList Tryz.prog ops Q rest (a.put o.dst (.bool true)) u) : wpList Tryz.prog ops Q (o :: rest) a u := by
  refine wpList_on hw fun K hK => ?_
  have R := hK _ _ h
  unfold Oper.wp execOp
  simp only [ho, hx, hy, Sem.run_bind, guard44, eql44 ev hl, Result.andThen_ok, Sem.run_pure]
  exact R

theorem fed_one (a b : Int) (t : ByteArray) (W : World) (ha : -9223372036854775808 ≤ a ∧ a ≤ 9223372036854775807) (hb : -9223372036854775808 ≤ b ∧ b ≤ 9223372036854775807) (htb : Tabs W) (hts : t.size ≤ 281474976710656) :
    Calls Tryz.prog 13 #[.agg #[.int .i64 a, .int .i64 b], .slice (some ⟨W.heap.size, 0, none⟩) 1 1] (W.alloc (.cells #[.string t] 9)) fun e w' => ∃ fb L, e = .returned (.tuple #[.pointer (some ⟨fb, 0, none⟩), .bool true]) ∧ FAt w' fb L ((FS.fresh (szR a) (szC b)).feed (bl t)) ∧ Below W.heap.size W w' := by
  have hT2 : SlTx (W.alloc (.cells #[.string t] 9)) (some ⟨W.heap.size, 0, none⟩) [t] := fun j x hj => ⟨W.heap.size, 0, rfl, by simp, by
    have := cells_new W [.string t] 9 j (.string x) (by
      match j, hj with
      | 0, hj => simp at hj; subst hj; rfl)
    have hadd : (⟨W.heap.size, 0, none⟩ : Addr).add j = ⟨W.heap.size, 0 + j, none⟩ := by unfold Addr.add; split <;> simp_all
    rw [hadd] at this; exact this⟩
  have hWa : Below W.heap.size W (W.alloc (.cells #[.string t] 9)) := (Below.refl _ _).alloc (Nat.le_refl _) _
  have l1 : Calls Tryz.prog 13 #[.agg #[.int .i64 a, .int .i64 b], .slice (some ⟨W.heap.size, 0, none⟩) 1 1] (W.alloc (.cells #[.string t] 9)) _ := fed_any a b (some ⟨W.heap.size, 0, none⟩) 1 [t] _ ha hb (htb.ch ((Ch.refl (fun _ => False) W).alloc _) (fun _ _ h => h)) hT2 (by simp) (by intro x hx; simp at hx; subst hx; exact hts)
  refine l1.mono ?_
  rintro e w1 ⟨fa, La, rfl, A1, bA⟩
  have e1 : allB [t] = bl t := by simp [allB]
  have f := A1.f
  rw [e1] at f
  exact ⟨fa, La, rfl, f, hWa.trans (bA.mono hWa.size)⟩

theorem dumpN_len {s : TS} (hI : s.Inv) (hF : s.Fit) : (dumpN s).length ≤ 50000 := by
  have n1 := screens_len s hI (ScrOk.of hI hF)
  have n2 := tabs_len (WS.zero.screens s) s hI
  have n3 := region_len ((WS.zero.screens s).tabs s) s
  have n4 := cursor_len (((WS.zero.screens s).tabs s).region s) s
  have n5 : ∀ y : WS, (y.set4 s).tx.length ≤ y.tx.length + 10 := fun y => by unfold WS.set4; split <;> simp [seq_len]
  have n6 : ∀ y : WS, (y.set7 s).tx.length ≤ y.tx.length + 10 := fun y => by unfold WS.set7; split <;> simp [seq_len]
  have a5 := n5 ((((WS.zero.screens s).tabs s).region s).cursor s)
  have a6 := n6 (((((WS.zero.screens s).tabs s).region s).cursor s).set4 s)
  unfold dumpN WS.all
  omega

set_option maxRecDepth 100000 in
set_option maxHeartbeats 2000000 in
theorem replays_walk (a b : Int) (text : ByteArray) (w : World) (ha : -9223372036854775808 ≤ a ∧ a ≤ 9223372036854775807) (hb : -9223372036854775808 ≤ b ∧ b ≤ 9223372036854775807) (htb : Tabs w) (hts : text.size ≤ 281474976710656) :
    Calls Tryz.prog 5 #[.agg #[.int .i64 a, .int .i64 b], .string text] w fun e w' => e = .returned (.bool true) ∧ Below w.heap.size w w' := by
  go_enter Tryz.func5, Tryz.ntmps5
  go_wp2_with fail
  have HG : (w.alloc (Obj.cells #[.int .i64 a, .int .i64 b] 36)).heap[w.heap.size]? = some (.cells #[.int .i64 a, .int .i64 b] 36 (0, 0)) := heap_alloc_new _ _
  have BW : Below w.heap.size w (w.alloc (Obj.cells #[.int .i64 a, .int .i64 b] 36)) := (Below.refl _ _).alloc (Nat.le_refl _) _
  have htW := htb.ch ((Ch.refl (fun _ => False) w).alloc (.cells #[.int .i64 a, .int .i64 b] 36)) (fun _ _ h => h)
  obtain ⟨W, hWW⟩ : ∃ W, W = w.alloc (Obj.cells #[.int .i64 a, .int .i64 b] 36) := ⟨_, rfl⟩
  have hWs : W.heap.size = w.heap.size + 1 := by rw [hWW]; simp
  obtain ⟨lb, hlb⟩ : ∃ lb, lb = w.heap.size := ⟨_, rfl⟩
  rw [← hWs, ← hWW, ← hlb]
  rw [← hWW, ← hlb] at HG
  rw [← hWW] at BW htW
  have HTW : Hid (Tabs W) := htW
  have HBW : Hid (Below w.heap.size w W) := BW
  have HGW : Hid (W.heap[lb]? = some (.cells #[.int .i64 a, .int .i64 b] 36 (0, 0))) := HG
  have HWS : Hid (W.heap.size = w.heap.size + 1) := hWs
  clear htb BW htW HG hWs hlb hWW
  have l1 := fed_one a b text W ha hb HTW.out hts
  refine l1.mono ?_
  rintro e w1 ⟨fa, La, rfl, F1, b1⟩
  have hI : Hid _ := ((FS.Ok.fresh (szR_bd a) (szC_bd b)).feed _ (bl_byte text)).t
  have hF : Hid _ := fresh_fit (szR a) (szC b) (szR_bd a) (szC_bd b) _ (bl_byte text)
  have hrw : Hid (((FS.fresh (szR a) (szC b)).feed (bl text)).t.rows = szR a) := fresh_rows _ _ _
  have hcl : Hid (((FS.fresh (szR a) (szC b)).feed (bl text)).t.cols = szC b) := fresh_cols _ _ _
  obtain ⟨x, hx⟩ : ∃ x, x = (FS.fresh (szR a) (szC b)).feed (bl text) := ⟨_, rfl⟩
  rw [← hx] at F1 hI hF hrw hcl
  have HF1 : Hid (FAt w1 fa La x) := F1
  have HB1 : Hid (Below W.heap.size W w1) := b1
  clear F1 b1 l1 hx
  have l2 := dump_any fa La x hI.out hF.out w1 HF1.out
  go_wp2_with fail
  refine l2.mono ?_
  rintro e w2 ⟨⟨D, rfl, hD⟩, b2⟩
  have HD : Hid (bl D = dumpN x.t) := hD
  have hDs : D.size ≤ 50000 := by rw [← bl_length, hD]; exact dumpN_len hI.out hF.out
  have HF2 : Hid (FAt w2 fa La x) := HF1.out.kept (P := fun _ => False) ⟨b2.os, b2.tape, b2.output, b2.size, fun k hk _ => b2.block k hk⟩ id (fun _ _ => id)
  have HB2 : Hid (Below W.heap.size W w2) := HB1.out.trans (b2.mono HB1.out.size)
  have G2 := (HB2.out.block lb (blk_lt HGW.out)).trans HGW.out
  have c20 : w2.cell? ⟨lb, 0, none⟩ = some (.int .i64 a) := (cell_of_row _ _ _ _ _ _ G2).trans rfl
  have c21 : w2.cell? ⟨lb, 1, none⟩ = some (.int .i64 b) := (cell_of_row _ _ _ _ _ _ G2).trans rfl
  have l3 := fed_one a b D w2 ha hb (HTW.out.ch (P := fun _ => False) ⟨HB2.out.os, HB2.out.tape, HB2.out.output, HB2.out.size, fun k hk _ => HB2.out.block k hk⟩ (fun _ _ h => h)) (by omega)
  clear l2 hD b2 HF1 HB1 G2
  go_wp2_with fail
  refine l3.mono ?_
  rintro e w3 ⟨fb, Lb, rfl, F3, b3⟩
  have hy : (FS.fresh (szR a) (szC b)).feed (bl D) = ⟨.zero, .zero, x.t⟩ := by
    have := replay hI.out hF.out
    rw [hrw.out, hcl.out] at this
    rw [HD.out]; exact this
  rw [hy] at F3
  have HF3b : Hid (FAt w3 fb Lb ⟨.zero, .zero, x.t⟩) := F3
  have HF3 : Hid (FAt w3 fa La x) := HF2.out.kept (P := fun _ => False) ⟨b3.os, b3.tape, b3.output, b3.size, fun k hk _ => b3.block k hk⟩ id (fun _ _ => id)
  have HB3 : Hid (Below W.heap.size W w3) := HB2.out.trans (b3.mono HB2.out.size)
  have l4 := dump_any fb Lb ⟨.zero, .zero, x.t⟩ hI.out hF.out w3 HF3b.out
  clear F3 b3 l3 hy HF2 HB2 c20 c21
  go_wp2_with fail
  refine l4.mono ?_
  rintro e w4 ⟨⟨D', rfl, hD'⟩, b4⟩
  have hDD : D' = D := bl_inj (hD'.trans HD.out.symm)
  subst hDD
  have HF4b : Hid (FAt w4 fb Lb ⟨.zero, .zero, x.t⟩) := HF3b.out.kept (P := fun _ => False) ⟨b4.os, b4.tape, b4.output, b4.size, fun k hk _ => b4.block k hk⟩ id (fun _ _ => id)
  have HF4 : Hid (FAt w4 fa La x) := HF3.out.kept (P := fun _ => False) ⟨b4.os, b4.tape, b4.output, b4.size, fun k hk _ => b4.block k hk⟩ id (fun _ _ => id)
  have HB4 : Hid (Below W.heap.size W w4) := HB3.out.trans (b4.mono HB3.out.size)
  clear hD' b4 l4 HF3b HF3 HB3
  go_wp2_with fail
  have HTB4 : Hid (Tabs w4) := HTW.out.ch (P := fun _ => False) ⟨HB4.out.os, HB4.out.tape, HB4.out.output, HB4.out.size, fun k hk _ => HB4.out.block k hk⟩ (fun _ _ h => h)
  have hbx : bl (D' ++ { data := #[120] }) = bl D' ++ [120] := by
    unfold bl
    rw [ByteArray.data_append]
    simp
  have hsz : (D' ++ { data := #[120] }).size ≤ 2000000 := by rw [← bl_length, hbx, List.length_append, bl_length]; simp; omega
  have l5 := events_any (D' ++ { data := #[120] }) w4 HTB4.out.le hsz
  refine l5.mono ?_
  rintro e w5 ⟨v5, rfl, E5, b5⟩
  rw [hbx, HD.out] at E5
  obtain ⟨E0, hE0⟩ := dump_last hI.out hF.out
  have h21 : ∀ e ∈ eventsN (decode (dumpN x.t ++ [120])), e.length = 21 := by
    have hbd := decode_bd (bl (D' ++ { data := #[120] })) (bl_byte _)
    rw [hbx, HD.out] at hbd
    exact (evs_ok MS.ok.zero _ hbd).2.1
  obtain ⟨ao, cap, rfl, hq⟩ := ev_form E5 h21
  have hq' := hq E0.length ([1, 120, 0, 0, 0] ++ z16) (by rw [hE0]; simp)
  obtain ⟨g, rfl, hgl, hrg⟩ := hq'
  have hlen : (eventsN (decode (dumpN x.t ++ [120]))).length = E0.length + 1 := by rw [hE0]; simp
  rw [hlen]
  obtain ⟨k, hk⟩ : ∃ k, k = E0.length := ⟨_, rfl⟩
  rw [← hk] at hrg ⊢
  have hdl := decode_len (bl (D' ++ { data := #[120] }))
  have hkb : k < 5000000 := by
    have hbd := decode_bd (bl (D' ++ { data := #[120] })) (bl_byte _)
    have q := (evs_ok MS.ok.zero _ hbd).2.2
    rw [bl_length] at hdl
    have q2 : (eventsN (decode (bl (D' ++ { data := #[120] })))).length ≤ (decode (bl (D' ++ { data := #[120] }))).length := q
    rw [hbx, HD.out, hlen] at q2
    rw [hbx, HD.out] at hdl
    omega
  have HRG : Hid (w5.rangeAt g (k * 21) (intC ([1, 120, 0, 0, 0] ++ z16))) := hrg
  have HF5b : Hid (FAt w5 fb Lb ⟨.zero, .zero, x.t⟩) := HF4b.out.kept (P := fun _ => False) ⟨b5.os, b5.tape, b5.output, b5.size, fun k hk _ => b5.block k hk⟩ id (fun _ _ => id)
  have HF5 : Hid (FAt w5 fa La x) := HF4.out.kept (P := fun _ => False) ⟨b5.os, b5.tape, b5.output, b5.size, fun k hk _ => b5.block k hk⟩ id (fun _ _ => id)
  have HB5 : Hid (Below W.heap.size W w5) := HB4.out.trans (b5.mono HB4.out.size)
  have HGL : Hid (g < w5.heap.size) := hgl
  have G5 := (HB5.out.block lb (blk_lt HGW.out)).trans HGW.out
  have c50 : w5.cell? ⟨lb, 0, none⟩ = some (.int .i64 a) := (cell_of_row _ _ _ _ _ _ G5).trans rfl
  have c51 : w5.cell? ⟨lb, 1, none⟩ = some (.int .i64 b) := (cell_of_row _ _ _ _ _ _ G5).trans rfl
  have l6 := alike_same a b fa fb La Lb x ⟨.zero, .zero, x.t⟩ w5 ha hb HF5.out HF5b.out rfl hI.out hrw.out hcl.out
  clear l5 E5 hE0 h21 hq hrg hlen hk hdl hbx hsz b5 HF4 HF4b HB4 G5 hgl HTB4
  go_wp2_with fail
  refine l6.mono ?_
  rintro e w6 ⟨rfl, S6⟩
  have HR6 : Hid (w6.rangeAt g (k * 21) (intC ([1, 120, 0, 0, 0] ++ z16))) := fun j v hv => (World.cell?_of_block (S6.block g HGL.out (fun h => h))).trans (HRG.out j v hv)
  have HS6 : Hid (Sm w5 w6) := S6
  obtain ⟨n, hn⟩ : ∃ n, n = k + 1 := ⟨_, rfl⟩
  rw [← hn]
  have i1 : (0 : Int) < (n : Int) := by omega
  have vq : IntKind.i64.wrap ((n : Int) - 1) = (k : Int) := by rw [hn]; rw [show ((k + 1 : Nat) : Int) - 1 = (k : Int) by omega]; exact IntWalk.i64_in _ (by omega)
  have i2 : (k : Int) < (n : Int) := by omega
  have i3 : k < n := by omega
  clear l6 S6 HRG hn
  go_wp2_with (first | (refine gl_load_ev (by rfl) (.tmp 57) rfl g (k * 21) rfl ([1, 120, 0, 0, 0] ++ z16) rfl HR6.out ?_) | (refine gl_eqlE (by rfl) (.tmp 58) (.tmp 59) rfl ([1, 120, 0, 0, 0] ++ z16) rfl rfl rfl ?_))
  go_ret
  refine ⟨rfl, ?_⟩
  have b6 := HBW.out.trans (HB5.out.mono (by have := HWS.out; omega))
  exact b6.trans (HS6.out.below b6.size (fun k hk h => h))
end Go.Proofs.YtheibfffilomcaaGreatDoor

