/- The document's Read: plain words, and laws for its walk. -/
import Derived.Test.YtheibfffilomcaaDoorRwf
import Derived.Test.YtheibfffilomcaaDoorEvw
namespace Go.Proofs.YtheibfffilomcaaDoor
open Go.RowKit

theorem rm_body (m : RM) (c : Int) : (m.take c).1.body = [] ∨ (m.take c).1.body = m.body ∨ (m.take c).1.body = m.body ++ [c] := by
  unfold RM.take RM.esc
  (repeat' split) <;> simp [RM.zero]
theorem rm_len (m : RM) (c : Int) : (m.take c).2.length = 21 := by
  unfold RM.take RM.esc
  (repeat' split) <;> first | rfl | exact seqN_len _ _
theorem rm_append (m : RM) (l r : List Int) : m.evs (l ++ r) = (((m.evs l).1.evs r).1, (m.evs l).2 ++ ((m.evs l).1.evs r).2) := by
  induction l generalizing m with
  | nil => simp [RM.evs]
  | cons b l ih => simp [RM.evs, ih, List.append_assoc]
theorem rm_snoc (m : RM) (l : List Int) (c : Int) : m.evs (l ++ [c]) = (((m.evs l).1.take c).1, (m.evs l).2 ++ (if ((m.evs l).1.take c).2.getD 0 0 ≠ 0 then [((m.evs l).1.take c).2] else [])) := by
  rw [rm_append]; simp [RM.evs]
theorem rm_ok (m : RM) (n : Nat) (hb : ∀ x ∈ m.body, 0 ≤ x ∧ x ≤ 10000000) (hn : m.body.length ≤ n) (l : List Int) (hl : ∀ c ∈ l, 0 ≤ c ∧ c ≤ 10000000) :
    (∀ x ∈ (m.evs l).1.body, 0 ≤ x ∧ x ≤ 10000000) ∧ (m.evs l).1.body.length ≤ n + l.length ∧ (∀ e ∈ (m.evs l).2, e.length = 21) ∧ (m.evs l).2.length ≤ l.length := by
  induction l generalizing m n with
  | nil => exact ⟨hb, hn, fun e he => by simp [RM.evs] at he, by simp [RM.evs]⟩
  | cons c l ih =>
    have hc := hl c (by simp)
    have hb' : ∀ x ∈ (m.take c).1.body, 0 ≤ x ∧ x ≤ 10000000 := by
      intro x hx
      rcases rm_body m c with e | e | e <;> rw [e] at hx
      · simp at hx
      · exact hb x hx
      · rcases List.mem_append.1 hx with hx | hx
        · exact hb x hx
        · simp at hx; omega
    have hn' : (m.take c).1.body.length ≤ n + 1 := by
      rcases rm_body m c with e | e | e <;> rw [e]
      · simp
      · omega
      · simp; omega
    obtain ⟨a1, a2, a3, a4⟩ := ih (m.take c).1 (n + 1) hb' hn' (fun x hx => hl x (by simp [hx]))
    refine ⟨a1, by simp only [RM.evs, List.length_cons]; omega, fun e he => ?_, ?_⟩
    · simp only [RM.evs] at he
      rcases List.mem_append.1 he with he | he
      · split at he
        · simp at he; rw [he]; exact rm_len m c
        · simp at he
      · exact a3 e he
    · simp only [RM.evs, List.length_append, List.length_cons]
      split
      · simp; omega
      · simp; omega

/-- An event of the machine of modes is of no kind 0. -/
theorem takeNum_kind (s : MS) (c : Int) (h : (s.takeNum c).2.2 = true) : (s.takeNum c).2.1.getD 0 0 ≠ 0 := by
  unfold MS.takeNum at h ⊢
  by_cases a : 48 ≤ c ∧ c ≤ 57
  · rw [if_pos a] at h; simp at h
  · rw [if_neg a] at h ⊢
    by_cases b : c = 59
    · rw [if_pos b] at h; simp at h
    · rw [if_neg b] at h ⊢
      by_cases d : finalN c = true
      · rw [if_pos d]; simp [MS.seqEv]
      · rw [if_neg d] at h; simp at h
theorem takeEsc_kind (s : MS) (c : Int) (h : (s.takeEsc c).2.2 = true) : (s.takeEsc c).2.1.getD 0 0 ≠ 0 := by
  unfold MS.takeEsc at h ⊢
  by_cases a : c = 91
  · rw [if_pos a] at h; simp at h
  · rw [if_neg a] at h ⊢
    by_cases b : textN c = true
    · rw [if_pos b] at h; simp at h
    · rw [if_neg b] at h ⊢
      by_cases d : c ≤ 47
      · rw [if_pos d] at h; simp at h
      · rw [if_neg d] at h ⊢
        by_cases f : c ≤ 126
        · rw [if_pos f]; simp
        · rw [if_neg f] at h; simp at h
theorem take_kind (s : MS) (c : Int) (h : (s.take c).2.2 = true) : (s.take c).2.1.getD 0 0 ≠ 0 := by
  unfold MS.take at h ⊢
  split at h
  · simp at h
  · split at h
    · simp at h
    · split at h
      · simp at h
      · split at h
        · simp_all
        · split at h
          · rename_i h1 h2 h3 h4 h5
            rw [if_neg h1, if_neg h2, if_neg h3, if_neg h4, if_pos h5]
            unfold MS.takeVis at h ⊢
            split at h
            · simp_all
            · split at h
              · rename_i q1 q2
                rw [if_neg q1, if_pos q2]
                exact takeEsc_kind s c h
              · split at h
                · rename_i q1 q2 q3
                  rw [if_neg q1, if_neg q2, if_pos q3]
                  split at h
                  · simp at h
                  · rename_i q4
                    rw [if_neg q4]
                    exact takeNum_kind _ c h
                · split at h
                  · rename_i q1 q2 q3 q4
                    rw [if_neg q1, if_neg q2, if_neg q3, if_pos q4]
                    exact takeNum_kind s c h
                  · split at h
                    · split at h <;> simp at h
                    · simp at h
          · simp at h

/-- THE TWO MACHINES TELL THE SAME EVENTS. -/
theorem evs_alike {s : MS} {m : RM} (h : Alike2 s m) (l : List Int) : (m.evs l).2 = (s.evs l).2 := by
  induction l generalizing s m with
  | nil => rfl
  | cons c l ih =>
    obtain ⟨h1, h2⟩ := take_alike h c
    simp only [RM.evs, MS.evs]
    rw [ih h1, h2]
    congr 1
    cases hk : (s.take c).2.2 with
    | true => rw [if_pos rfl, if_pos (take_kind s c hk), if_pos rfl]
    | false =>
      simp only [Bool.false_eq_true, if_false]
      rw [if_neg (fun h => h rfl)]
theorem events_alike (l : List Int) : (RM.zero.evs l).2 = eventsN l := evs_alike (Or.inl ⟨rfl, rfl⟩) l

/-- The document's machine read whole, written whole. -/
theorem wp_rload {ops : Array Oper} {rest : List Oper} {o : Oper} {a : Act} {Q : Exit → Act → World → Prop} (u : World) (hgd : o.guard = none) (x : Operand) (ho : o.op = .load 123 x) (g : Nat) (mv : Array Value)
    (hx : a.eval x = .pointer (some ⟨g, 0, none⟩)) (hmv : mv.size = 3) (t : TypeId) (fr : Nat × Nat) (hg : u.heap[g]? = some (.cells mv t fr))
    (h : wpList Tryd.prog ops Q rest (a.put o.dst (.agg mv)) u) : wpList Tryd.prog ops Q (o :: rest) a u :=
  wpList_load_row hgd 123 x ho g hx t mv fr _ hg Tryd.underlying123 rfl (by rw [hmv]; exact info69) h
theorem wp_rset {ops : Array Oper} {rest : List Oper} {o : Oper} {a : Act} {Q : Exit → Act → World → Prop} (u : World) (hgd : o.guard = none) (x y : Operand) (ho : o.op = .store 123 x y) (g : Nat) (old mv : Array Value)
    (hx : a.eval x = .pointer (some ⟨g, 0, none⟩)) (hy : a.eval y = .agg mv) (hmv : mv.size = 3) (hma : mv.all (·.oneCell') = true) (t : TypeId) (hg : u.heap[g]? = some (.cells old t (0, 0))) (hold : old.size = 3)
    (h : ∀ u', u'.heap[g]? = some (.cells mv t (0, 0)) → u.grownBy u' (some g) → u'.heap.size = u.heap.size → wpList Tryd.prog ops Q rest (a.put o.dst undef) u') : wpList Tryd.prog ops Q (o :: rest) a u := by
  refine wpList_store_row hgd 123 x y ho g mv hx hy t old hg (by rw [hmv]; exact info69) (by rw [hmv, hold]) hma ?_
  exact h _ (setRow_heap u g _ _ t _ hg) ⟨rfl, rfl, rfl, by simp, fun k _ hk => setRow_other u g k _ (fun e => hk (by simp [e]))⟩ (by simp)

/-- What stands while Read reads. -/
structure RX (w : World) (M K : Int) (bv v : Value) (E : List (List Int)) (a : Option Addr) (L : List Int) (u : World) : Prop where
  mach : u.heap[w.heap.size]? = some (.cells (mA M K bv) 123 (0, 0))
  ev : EvAt u (w.heap.size + 1) v E
  sl : SlAt u a L
  ap : ∀ b o, a = some ⟨b, o, none⟩ → w.heap.size + 1 ≤ b ∧ b < u.heap.size ∧ some b ≠ v.ownBlock
  bel : Below w.heap.size w u
theorem RX.size {w u : World} {M K : Int} {bv v : Value} {E : List (List Int)} {a : Option Addr} {L : List Int} (h : RX w M K bv v E a L u) : w.heap.size + 1 ≤ u.heap.size :=
  (Array.getElem?_eq_some_iff.1 h.mach).1
theorem RX.next {w u u' : World} {M K : Int} {bv v : Value} {E : List (List Int)} {a : Option Addr} {L : List Int} (h : RX w M K bv v E a L u) (b : Below u.heap.size u u') : RX w M K bv v E a L u' :=
  ⟨(b.block _ h.size).trans h.mach, h.ev.below b, h.sl.below b, (fun x y e => by have := h.ap x y e; exact ⟨this.1, Nat.lt_of_lt_of_le this.2.1 b.size, this.2.2⟩), h.bel.trans (b.mono (by have := h.size; omega))⟩
theorem RX.drew {w u : World} {M K : Int} {bv v : Value} {E : List (List Int)} {a : Option Addr} {L : List Int} (h : RX w M K bv v E a L u) : RX w M K bv v E a L { u with drawn := u.drawn + 1 } := by
  have b : Below u.heap.size u { u with drawn := u.drawn + 1 } := ⟨rfl, rfl, rfl, Nat.le_refl _, fun _ _ => rfl⟩
  exact h.next b
theorem RX.body {w u u' : World} {M K : Int} {bv v : Value} {E : List (List Int)} {a a' : Option Addr} {L L' : List Int} (h : RX w M K bv v E a L u) (b : Below u.heap.size u u') (sl : SlAt u' a' L') (hn : ∀ b o, a' = some ⟨b, o, none⟩ → a' = a ∨ (u.heap.size ≤ b ∧ b < u'.heap.size)) : RX w M K bv v E a' L' u' := by
  have h' := h.next b
  refine ⟨h'.mach, h'.ev, sl, fun b o e => ?_, h'.bel⟩
  rcases hn b o e with rfl | ⟨hb, hb'⟩
  · exact h'.ap b o e
  · refine ⟨by have := h.size; omega, hb', fun hv => ?_⟩
    have := (World.ownsRow.lt h.ev b hv.symm).2
    omega
theorem own_two {w u : World} {g1 g2 b : Nat} {e : TypeId} {sz : Nat} {v : Value} {n : Nat} {xs : List Value} (h : w.ownsRow b e sz v n xs) (t : Two g1 g2 w u) (h1 : some g1 ≠ v.ownBlock) (h2 : some g2 ≠ v.ownBlock) : u.ownsRow b e sz v n xs := by
  refine ⟨h.1, ?_⟩
  rcases h.2 with q | ⟨g, cap, cur, rfl, hbg, hg, r⟩
  · exact Or.inl q
  · exact Or.inr ⟨g, cap, cur, rfl, hbg, (t.block g (fun e => h1 (by rw [← e]; rfl)) (fun e => h2 (by rw [← e]; rfl))).trans hg, r⟩
/-- A block of Read's own, new in this round. -/
structure NB (w : World) (g : Nat) (v : Value) (a : Option Addr) (o : Obj) (U : World) : Prop where
  obj : U.heap[g]? = some o
  lo : w.heap.size + 1 ≤ g
  nv : some g ≠ v.ownBlock
  na : ∀ b o, a = some ⟨b, o, none⟩ → b ≠ g
theorem NB.lt {w U : World} {g : Nat} {v : Value} {a : Option Addr} {o : Obj} (h : NB w g v a o U) : g < U.heap.size := (Array.getElem?_eq_some_iff.1 h.obj).1
theorem NB.next {w U U' : World} {g : Nat} {v : Value} {a : Option Addr} {o : Obj} (h : NB w g v a o U) (b : Below U.heap.size U U') : NB w g v a o U' := ⟨(b.block g h.lt).trans h.obj, h.lo, h.nv, h.na⟩
theorem NB.body {w U U' : World} {g : Nat} {v : Value} {a a' : Option Addr} {o : Obj} (h : NB w g v a o U) (b : Below U.heap.size U U') (hn : ∀ b o, a' = some ⟨b, o, none⟩ → a' = a ∨ (U.heap.size ≤ b ∧ b < U'.heap.size)) : NB w g v a' o U' := by
  refine ⟨(b.block g h.lt).trans h.obj, h.lo, h.nv, fun x y e => ?_⟩
  rcases hn x y e with rfl | ⟨hx, _⟩
  · exact h.na x y e
  · have := h.lt; omega
theorem NB.new {w U U' : World} {M K : Int} {bv v : Value} {E : List (List Int)} {a : Option Addr} {L : List Int} {o : Obj} {g : Nat} (h : RX w M K bv v E a L U) (hg : g = U.heap.size) (ho : U'.heap[g]? = some o) : NB w g v a o U' := by
  subst hg
  refine ⟨ho, h.size, fun e => ?_, fun b p e => ?_⟩
  · have := (World.ownsRow.lt h.ev _ e.symm).2; omega
  · have := (h.ap b p e).2.1; omega
theorem RX.two {w u u' : World} {M K : Int} {bv v : Value} {E : List (List Int)} {a : Option Addr} {L : List Int} {g1 g2 : Nat} {o1 o2 : Obj} (h : RX w M K bv v E a L u) (t : Two g1 g2 u u') (n1 : NB w g1 v a o1 u) (n2 : NB w g2 v a o2 u) : RX w M K bv v E a L u' := by
  have l1 := n1.lo
  have l2 := n2.lo
  refine ⟨(t.block _ (by omega) (by omega)).trans h.mach, own_two h.ev t n1.nv n2.nv, h.sl.blk fun b o e => t.block b (n1.na b o e) (n2.na b o e), fun b o e => ?_, t.below h.bel (by omega) (by omega)⟩
  rw [t.size]; exact h.ap b o e
theorem RX.mset {w u u' : World} {M K M' K' : Int} {bv bv' v : Value} {E : List (List Int)} {a : Option Addr} {L : List Int} (h : RX w M K bv v E a L u) (g : u'.heap[w.heap.size]? = some (.cells (mA M' K' bv') 123 (0, 0))) (r : u.grownBy u' (some w.heap.size)) : RX w M' K' bv' v E a L u' := by
  have hz := h.size
  refine ⟨g, ?_, ?_, fun b o e => ?_, h.bel.grown r (by omega) (fun k e => by simp at e; omega)⟩
  · refine World.ownsRow.kept h.ev r ?_
    cases hv : v.ownBlock with
    | none => exact Or.inl rfl
    | some j => right; have := (World.ownsRow.lt h.ev j hv).1; simp; omega
  · exact h.sl.blk fun b o e => r.block b (h.ap b o e).2.1 (fun q => by have := (h.ap b o e).1; simp at q; omega)
  · have := h.ap b o e
    exact ⟨this.1, Nat.lt_of_lt_of_le this.2.1 r.size, this.2.2⟩
theorem RX.app {w u u' : World} {M K : Int} {bv v v' : Value} {E E' : List (List Int)} {a : Option Addr} {L : List Int} (h : RX w M K bv v E a L u) (ev : EvAt u' (w.heap.size + 1) v' E') (r : u.grownBy u' v.ownBlock) (hb : v'.ownBlock = v.ownBlock ∨ ∃ k, v'.ownBlock = some k ∧ u.heap.size ≤ k) : RX w M K bv v' E' a L u' := by
  have hz := h.size
  refine ⟨(r.block _ hz (fun e => by have := (World.ownsRow.lt h.ev _ e.symm).1; omega)).trans h.mach, ev, h.sl.blk fun b o e => r.block b (h.ap b o e).2.1 (h.ap b o e).2.2, fun b o e => ?_, h.bel.grown r (by omega) (fun k e => by have := (World.ownsRow.lt h.ev k e).1; omega)⟩
  have := h.ap b o e
  refine ⟨this.1, Nat.lt_of_lt_of_le this.2.1 r.size, fun q => ?_⟩
  rcases hb with hb | ⟨k, hk, hle⟩
  · rw [hb] at q; exact this.2.2 q
  · rw [hk] at q; simp at q; omega
theorem wp_alloc69 {o : Oper} {a : Act} {u : World} {K : Act → World → Prop} {Q : Exit → Act → World → Prop} (ho : o.op = .alloc 123)
    (h : ∀ g u', g = u.heap.size → u'.heap[g]? = some (.cells (mA 0 0 (.slice none 0 0)) 123 (0, 0)) → Below u.heap.size u u' → K (a.put o.dst (.pointer (some ⟨g, 0, none⟩))) u') : Oper.wp Tryd.prog o a u K Q := by
  have hz : (zeroValue 123).run Tryd.prog u = .ok (.agg (mA 0 0 (.slice none 0 0))) u := by kernel_rfl
  have H := h u.heap.size (u.alloc (.cells (mA 0 0 (.slice none 0 0)) 123)) rfl (heap_alloc_new _ _) ((Below.refl _ _).alloc (Nat.le_refl _) _)
  unfold Oper.wp execOp
  simp only [ho, Instr.alloc, Sem.run_bind, hz, Result.andThen_ok, Sem.run_pure]
  exact H
theorem wp_alloc44 {o : Oper} {a : Act} {u : World} {K : Act → World → Prop} {Q : Exit → Act → World → Prop} (ho : o.op = .alloc 75)
    (h : ∀ g u', g = u.heap.size → u'.heap[g]? = some (.cells (intA noEv) 75 (0, 0)) → Below u.heap.size u u' → K (a.put o.dst (.pointer (some ⟨g, 0, none⟩))) u') : Oper.wp Tryd.prog o a u K Q := by
  have H := h u.heap.size (u.alloc (.cells (intA noEv) 75)) rfl (heap_alloc_new _ _) ((Below.refl _ _).alloc (Nat.le_refl _) _)
  unfold Oper.wp execOp
  simp only [ho, Instr.alloc, Sem.run_bind, zero44, Result.andThen_ok, Sem.run_pure]
  exact H
theorem wp_call32 {o : Oper} {a : Act} {u : World} {K : Act → World → Prop} {Q : Exit → Act → World → Prop} (i j : Nat) (ho : o.op = .call { callee := .value (.func 68), args := #[.tmp i, .tmp j], argTypes := #[123, 3] }) (p q : Value) (hx : a.eval (.tmp i) = p) (hy : a.eval (.tmp j) = q)
    (R : Value → World → Prop) (hc : Calls Tryd.prog 68 #[p, q] u fun e w' => ∃ v, e = .returned v ∧ R v w') (h : ∀ v w', R v w' → K (a.put o.dst v) w') : Oper.wp Tryd.prog o a u K Q := by
  have hx' : a.tmps[i]?.getD undef = p := by simpa [Act.eval] using hx
  have hy' : a.tmps[j]?.getD undef = q := by simpa [Act.eval] using hy
  clear hx hy
  unfold Oper.wp execOp
  simp only [ho]
  go_simp
  refine hc.mono ?_
  rintro e w' ⟨v, rfl, hr⟩
  exact h v w' hr

end Go.Proofs.YtheibfffilomcaaDoor
