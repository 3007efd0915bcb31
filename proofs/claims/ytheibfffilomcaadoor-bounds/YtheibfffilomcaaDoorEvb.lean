/- Lists of events: an event put into a list of its own. -/
import Derived.Test.YtheibfffilomcaaDoorMdef
import Derived.Test.YtheibfffilomcaaDoorApp
namespace Go.Proofs.YtheibfffilomcaaDoor
open Go.RowKit

theorem foldl_put (off : Nat) : ∀ (v : List Value) (k : Nat) (A : Array Value) (i : Nat), off + k + v.length ≤ A.size →
    ((v.zipIdx k).foldl (fun cs x => cs.setIfInBounds (off + x.2) x.1) A)[i]? = (if off + k ≤ i ∧ i < off + k + v.length then v[i - (off + k)]? else A[i]?) ∧ ((v.zipIdx k).foldl (fun cs x => cs.setIfInBounds (off + x.2) x.1) A).size = A.size
  | [], k, A, i, h => by
    simp only [List.zipIdx_nil, List.foldl_nil, List.length_nil, Nat.add_zero]
    rw [if_neg (by omega)]
    exact ⟨rfl, trivial⟩
  | c :: v, k, A, i, h => by
    simp only [List.zipIdx_cons, List.foldl_cons, List.length_cons] at h ⊢
    obtain ⟨h1, h2⟩ := foldl_put off v (k + 1) (A.setIfInBounds (off + k) c) i (by simp; omega)
    refine ⟨?_, by rw [h2]; simp⟩
    rw [h1]
    by_cases hi : i = off + k
    · subst hi
      rw [if_neg (by omega), if_pos (by omega)]
      simp [show off + k < A.size by omega]
    · by_cases hr : off + (k + 1) ≤ i ∧ i < off + (k + 1) + v.length
      · rw [if_pos hr, if_pos (by omega)]
        rw [show i - (off + k) = (i - (off + (k + 1))) + 1 by omega, List.getElem?_cons_succ]
      · rw [if_neg hr, if_neg (by omega), Array.getElem?_setIfInBounds, if_neg (by omega)]

/-- One part more. -/
theorem put_part (A : Array Value) (done e : List Int) (off : Nat) (ho : done.length = off) (hA : A.toList.take off = intC done) (hs : off + e.length ≤ A.size) :
    ((intA e).zipIdx.foldl (fun cs x => cs.setIfInBounds (off + x.2) x.1) A).size = A.size ∧ (((intA e).zipIdx.foldl (fun cs x => cs.setIfInBounds (off + x.2) x.1) A).toList.take (off + e.length)) = intC (done ++ e) := by
  have hz : (intA e).zipIdx.foldl (fun cs x => cs.setIfInBounds (off + x.2) x.1) A = ((intC e).zipIdx 0).foldl (fun cs x => cs.setIfInBounds (off + x.2) x.1) A := by
    rw [← Array.foldl_toList]
    simp [intA]
  rw [hz]
  have key := fun i => foldl_put off (intC e) 0 A i (by rw [intC_length]; omega)
  refine ⟨(key 0).2, ?_⟩
  apply List.ext_getElem?
  intro i
  have hi := (key i).1
  rw [List.getElem?_take]
  by_cases h1 : i < off + e.length
  · rw [if_pos h1, Array.getElem?_toList, hi, intC_length]
    by_cases h2 : off ≤ i
    · rw [if_pos (by omega)]
      simp only [intC, List.map_append, Nat.add_zero]
      rw [List.getElem?_append_right (by simp; omega)]
      simp [ho]
    · rw [if_neg (by omega)]
      have : (A.toList.take off)[i]? = A[i]? := by rw [List.getElem?_take, if_pos (by omega), Array.getElem?_toList]
      rw [← this, hA]
      simp only [intC, List.map_append]
      rw [List.getElem?_append_left (by simp; omega)]
  · rw [if_neg h1]
    symm
    apply List.getElem?_eq_none
    simp [intC]; omega

theorem zero44 (u : World) : (zeroValue 75).run Tryd.prog u = .ok (.agg (intA noEv)) u := by kernel_rfl
theorem sizeOf44 (u : World) : (sizeOf 75).run Tryd.prog u = .ok 21 u := by kernel_rfl

/-- The parts, one behind the other. -/
def evParts : Nat → List (List Int) → List (Nat × Value)
  | _, [] => []
  | i, e :: r => (i, .agg (intA e)) :: evParts (i + 1) r
theorem fill_evs : ∀ (E : List (List Int)) (i : Nat) (done : List Int) (A : Array Value), done.length = i * 21 → A.toList.take (i * 21) = intC done → A.size = (i + E.length) * 21 → (∀ e ∈ E, e.length = 21) →
    Instr.fill (fun i => some (i * 21, 21)) A (evParts i E) = some (intA (done ++ E.flatten))
  | [], i, done, A, hd, hA, hs, _ => by
    simp only [evParts, Instr.fill, List.flatten_nil, List.append_nil, Option.some.injEq]
    apply Array.toList_inj.1
    rw [List.take_of_length_le (by rw [Array.length_toList, hs]; simp)] at hA
    rw [hA]; rfl
  | e :: r, i, done, A, hd, hA, hs, hE => by
    have he := hE e (by simp)
    have hsz : i * 21 + 21 ≤ A.size := by rw [hs]; simp only [List.length_cons]; omega
    have h := put_part A done e (i * 21) hd hA (by rw [he]; exact hsz)
    simp only [evParts, Instr.fill, Value.cells, intA_size, he]
    rw [if_neg (by simp; omega)]
    have ih := fill_evs r (i + 1) (done ++ e) _ (by simp [hd, he]; omega) (by rw [show (i + 1) * 21 = i * 21 + e.length by rw [he]; omega]; exact h.2) (by rw [h.1, hs]; simp only [List.length_cons]; omega) (fun x hx => hE x (by simp [hx]))
    rw [ih]
    simp

theorem run_bs (u : World) (E : List (List Int)) (hE : ∀ e ∈ E, e.length = 21) (h0 : 0 < E.length) (hk : E.length ≤ 1000) :
    (Instr.buildSlice 76 E.length (evParts 0 E).toArray).run Tryd.prog u = .ok (.slice (some ⟨u.heap.size, 0, none⟩) E.length E.length) (u.alloc (.cells (intA E.flatten) 75)) := by
  have hf := fill_evs E 0 [] ((Array.range (E.length * 21)).map ((intA noEv)[· % (intA noEv).size]!)) rfl (by simp [intC]) (by simp) hE
  have hz : (E.length * 21 = 0) = False := by simp; omega
  have hlim : (E.length * 21 > 2 ^ 24) = False := by simp; omega
  simp only [Instr.buildSlice, Sem.run_bind, run_underlying Tryd.underlying76, Result.andThen_ok, sizeOf44, hz, hlim, if_false, zero44, Sem.run_pure, Value.cells, hf, List.nil_append]
  rfl

/-- A list of events of the call's own. -/
def EvAt (w : World) (base : Nat) (v : Value) (E : List (List Int)) : Prop := w.ownsRow base 75 21 v E.length (intC E.flatten)
theorem EvAt.below {w w' : World} {base : Nat} {v : Value} {E : List (List Int)} (h : EvAt w base v E) (hb : Below w.heap.size w w') : EvAt w' base v E :=
  World.ownsRow.kept (row := none) h ⟨hb.os, hb.tape, hb.output, hb.size, fun k hk _ => hb.block k hk⟩ (by cases hv : v.ownBlock <;> simp)
theorem EvAt.mono {w : World} {B B' : Nat} {v : Value} {E : List (List Int)} (h : EvAt w B v E) (hB : B' ≤ B) : EvAt w B' v E := by
  obtain ⟨h1, h2⟩ := h
  refine ⟨h1, ?_⟩
  rcases h2 with h2 | ⟨g, cap, cur, hv, hg, r⟩
  · exact Or.inl h2
  · exact Or.inr ⟨g, cap, cur, hv, Nat.le_trans hB hg, r⟩

theorem info44' : (Tryd.prog.info? 75).map (fun i => (i.zero, i.size, i.bytes)) = some (some (.agg (intA noEv)), 21, 168) := by kernel_rfl

theorem flat_len {E : List (List Int)} (hE : ∀ e ∈ E, e.length = 21) : E.flatten.length = E.length * 21 := by
  induction E with
  | nil => rfl
  | cons e E ih =>
    rw [List.flatten_cons, List.length_append, hE e (by simp), ih fun x hx => hE x (by simp [hx]), List.length_cons]
    omega

/-- Events laid in a row of their own. -/
theorem wp_bs {ops : Array Oper} {rest : List Oper} {o : Oper} {a : Act} {Q : Exit → Act → World → Prop} (u : World) (hgd : o.guard = none) (E : List (List Int)) (hE : ∀ e ∈ E, e.length = 21) (h0 : 0 < E.length) (hk : E.length ≤ 1000)
    (parts : Array (Nat × Operand)) (n : Nat) (hn : n = E.length) (ho : o.op = .buildSlice 76 n parts) (hp : (parts.map fun (i, x) => (i, a.eval x)) = (evParts 0 E).toArray)
    (h : wpList Tryd.prog ops Q rest (a.put o.dst (.slice (some ⟨u.heap.size, 0, none⟩) n n)) (u.alloc (.cells (intA E.flatten) 75))) : wpList Tryd.prog ops Q (o :: rest) a u := by
  subst hn
  refine wpList_plain hgd fun K hK => ?_
  unfold Oper.wp execOp
  simp only [ho, hp, Sem.run_bind, run_bs u E hE h0 hk, Result.andThen_ok, Sem.run_pure]
  exact hK _ _ h

theorem wp_bs1 {ops : Array Oper} {rest : List Oper} {o : Oper} {a : Act} {Q : Exit → Act → World → Prop} (u : World) (hgd : o.guard = none) (x : Operand) (ho : o.op = .buildSlice 76 1 #[(0, x)]) (e : List Int) (he : e.length = 21) (hx : a.eval x = .agg (intA e))
    (h : wpList Tryd.prog ops Q rest (a.put o.dst (.slice (some ⟨u.heap.size, 0, none⟩) 1 1)) (u.alloc (.cells (intA e) 75))) : wpList Tryd.prog ops Q (o :: rest) a u := by
  refine wp_bs u hgd [e] (by simp [he]) (by simp) (by simp) _ 1 rfl ho (by simp [hx, evParts]) ?_
  simpa using h
theorem wp_bs2 {ops : Array Oper} {rest : List Oper} {o : Oper} {a : Act} {Q : Exit → Act → World → Prop} (u : World) (hgd : o.guard = none) (x y : Operand) (ho : o.op = .buildSlice 76 2 #[(0, x), (1, y)]) (e : List Int) (he : e.length = 21) (hx : a.eval x = .agg (intA e)) (hy : a.eval y = .agg (intA e))
    (h : wpList Tryd.prog ops Q rest (a.put o.dst (.slice (some ⟨u.heap.size, 0, none⟩) 2 2)) (u.alloc (.cells (intA (e ++ e)) 75))) : wpList Tryd.prog ops Q (o :: rest) a u := by
  refine wp_bs u hgd [e, e] (by simp [he]) (by simp) (by simp) _ 2 rfl ho (by simp [hx, hy, evParts]) ?_
  simpa using h
theorem wp_bs3 {ops : Array Oper} {rest : List Oper} {o : Oper} {a : Act} {Q : Exit → Act → World → Prop} (u : World) (hgd : o.guard = none) (x y z : Operand) (ho : o.op = .buildSlice 76 3 #[(0, x), (1, y), (2, z)]) (e : List Int) (he : e.length = 21) (hx : a.eval x = .agg (intA e)) (hy : a.eval y = .agg (intA e)) (hz : a.eval z = .agg (intA e))
    (h : wpList Tryd.prog ops Q rest (a.put o.dst (.slice (some ⟨u.heap.size, 0, none⟩) 3 3)) (u.alloc (.cells (intA (e ++ (e ++ e))) 75))) : wpList Tryd.prog ops Q (o :: rest) a u := by
  refine wp_bs u hgd [e, e, e] (by simp [he]) (by simp) (by simp) _ 3 rfl ho (by simp [hx, hy, hz, evParts]) ?_
  simpa using h

/-- Events put behind a list of events, told exactly. -/
theorem wp_appE {ops : Array Oper} {rest : List Oper} {o : Oper} {a : Act} {Q : Exit → Act → World → Prop} (u : World) (hgd : o.guard = none) (s x : Operand)
    (ho : o.op = .call { callee := .builtin .append, args := #[s, x], argTypes := #[76, 76] }) (base : Nat) (v : Value) (L Y : List (List Int)) (arr : Array Value) (harr : arr = intA Y.flatten) (hY : ∀ e ∈ Y, e.length = 21) (h0 : 0 < Y.length)
    (hs : a.eval s = v) (own : EvAt u base v L) (g k : Nat) (hg : g = u.heap.size) (hk : k = Y.length) (hx : a.eval x = .slice (some ⟨g, 0, none⟩) k k) (hLn : L.length + Y.length ≤ 100000000) (hb : base ≤ u.heap.size)
    (h : ∀ v' w', EvAt w' base v' (L ++ Y) → u.grownBy w' v.ownBlock → Hid (v'.ownBlock = v.ownBlock ∨ ∃ k, v'.ownBlock = some k ∧ u.heap.size ≤ k) →
      (∀ c : List Int, c.length = 21 → L = List.replicate L.length c → Y = List.replicate Y.length c → ∀ b z p, EvAt u b z (List.replicate p c) → EvAt w' b z (List.replicate p c)) → wpList Tryd.prog ops Q rest (a.put o.dst v') w') :
    wpList Tryd.prog ops Q (o :: rest) a (u.alloc (.cells arr 75)) := by
  obtain ⟨i0, hi, hz0, hz1, hz2⟩ := info_parts info44'
  subst hg hk harr
  have hrep : ∀ (p : Nat) (c : List Int), reps p (intC c) = intC (List.replicate p c).flatten := by
    intro p c
    unfold reps intC
    induction p with
    | zero => rfl
    | succ p ih => rw [List.replicate_succ, List.flatten_cons, ih, List.replicate_succ, List.flatten_cons, List.map_append]
  refine wpList_append_strong _ hgd s x 76 ho base 75 i0 (.agg (intA noEv)) 21 168 Tryd.underlying76 hi hz0 hz1 hz2 (by rfl) v _ _ hs (World.ownsRow.alloc own _) ⟨u.heap.size, 0, none⟩ Y.length Y.length (intC Y.flatten) hx (by rw [intC_length, flat_len hY]) (cells_new _ _ _) (intC_one _) h0 ?_ ?_ ?_ ?_
  · unfold maxLen; omega
  · omega
  · simp; omega
  · intro v' w' hown hgrow hblk hkeep
    refine h v' w' ?_ ⟨hgrow.os, hgrow.tape, hgrow.output, Nat.le_trans (by simp) hgrow.size, fun k hk hn => (hgrow.block k (by simp; omega) hn).trans (Below.heap_alloc u _ _ hk)⟩ ?_ ?_
    · unfold EvAt
      rw [List.length_append, List.flatten_append]
      have e : intC (L.flatten ++ Y.flatten) = intC L.flatten ++ intC Y.flatten := by simp [intC]
      rw [e]; exact hown
    · rcases hblk with e | ⟨k, e, hk⟩
      · exact Or.inl e
      · exact Or.inr ⟨k, e, by simp at hk; omega⟩
    · intro c hc e1 e2 b z p hz
      have hkk := hkeep (intC c) (by rw [intC_length, hc]) (by rw [hrep, ← e1]) (by rw [hrep, ← e2]) b z p
      unfold EvAt at hz ⊢
      rw [List.length_replicate] at hz ⊢
      rw [← hrep] at hz ⊢
      exact hkk (World.ownsRow.alloc hz _)

end Go.Proofs.YtheibfffilomcaaDoor
