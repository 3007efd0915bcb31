/- Walks of package cells: Clear, Put. -/
import Derived.Test.YtheibfffilomcaaDoorCc
import Derived.Laws.IdiomCopy
namespace Go.Proofs.YtheibfffilomcaaDoor
open Go.RowKit

set_option maxHeartbeats 400000 in
theorem clear_any (g a b n : Nat) (r : List CellS) (w : World) (hr : RowAt w g r) (hn : r.length = n) (hab : a < b) (hb : b ≤ n) (hl : n ≤ 100) :
    Calls Tryd.prog 120 #[.slice (some ⟨g, 0, none⟩) n n, .int .i64 (a : Int), .int .i64 (b : Int)] w fun e w' => e = .returned (.tuple #[]) ∧ RowAt w' g (clearR r a b) ∧ Ch (· = g) w w' := by
  subst hn
  have i1 : (a : Int) ≤ (b : Int) := by omega
  have i3 : a < r.length := by omega
  have i4 : r.length ≠ a := by omega
  have i2 : (b : Int) ≤ (r.length : Int) := by omega
  have s1 := split_any g a r.length r w hr (by omega)
  have s2 : ∀ u, RowAt u g (splitR r a) → _ := fun u hu => split_any g b (splitR r a).length (splitR r a) u hu (by omega)
  rw [splitR_length] at s2
  have hl2 : (splitR (splitR r a) b).length = r.length := by rw [splitR_length, splitR_length]
  go_enter Tryd.func120, Tryd.ntmps120
  go_wp2_with (first | (go_at_call 100; refine (wipe_any g (a * 7) a (b - a) _ _ _ rfl h2 (by rw [hl2]; omega) (by rw [hl2]; omega)).mono ?_; rintro e w3 ⟨rfl, h3, c3⟩) | (go_at_call 99; refine (s2 _ h1).mono ?_; rintro e w2 ⟨rfl, h2, c2⟩) | (go_at_call 99; refine s1.mono ?_; rintro e w1 ⟨rfl, h1, c1⟩))
  go_end0
  exact ⟨rfl, h3, (c1.trans c2).trans c3⟩

/-- One cell of a block written. -/
theorem wp_bset {ops : Array Oper} {rest : List Oper} {o : Oper} {a : Act} {Q : Exit → Act → World → Prop} (u : World) (hgd : o.guard = none) (ty : TypeId) (hsz : (Tryd.prog.info? ty).map (·.size) = some 1) (x y : Operand) (ho : o.op = .store ty x y) (g j : Nat) (L L' : List Value) (v : Value) (hj : j < L.length)
    (hx : a.eval x = .pointer (some ⟨g, j, none⟩)) (hy : a.eval y = v) (h1 : v.oneCell' = true) (hv : v.cells = #[v]) (hL : L.set j v = L') (t : TypeId) (hg : u.heap[g]? = some (.cells L.toArray t (0, 0)))
    (h : ∀ u', u'.heap[g]? = some (.cells L'.toArray t (0, 0)) → Ch (· = g) u u' → u'.heap.size = u.heap.size → wpList Tryd.prog ops Q rest (a.put o.dst undef) u') : wpList Tryd.prog ops Q (o :: rest) a u := by
  have hc : u.cell? ⟨g, j, none⟩ = some L[j] := by rw [cell_of_row _ _ _ _ _ _ hg]; simp [hj]
  have hf := frozen_of_row u g j _ t hg
  refine wpList_plain hgd fun K hK => ?_
  have hset : L.toArray.setIfInBounds j v = L'.toArray := by rw [← hL]; simp
  have R := hK _ _ (h (u.setCell ⟨g, j, none⟩ v) (by rw [heap_setCell_same u g j _ t _ hg, hset]) ((Ch.refl _ _).set _ _ _ (fun _ => rfl)) (by simp [World.setCell]))
  have hs : (sizeOf ty).run Tryd.prog u = .ok 1 u := by
    cases hq : Tryd.prog.info? ty with
    | none => simp [hq] at hsz
    | some i =>
      have : i.size = 1 := by simpa [hq] using hsz
      simp [sizeOf, typeInfo, hq, this]
  have hst : (storeVar ty ⟨g, j, none⟩ v).run Tryd.prog u = .ok () (u.setCell ⟨g, j, none⟩ v) := by
    have e0 : ∀ i, i < [v].length → i = 0 := fun i hi => by simpa using hi
    have h2 := run_storeCells_cells (P := Tryd.prog) g j [v] 0 u (fun i hi => by rw [e0 i hi, Nat.add_zero, hc]; rfl) (fun i hi => by rw [e0 i hi]; exact hf) (fun z hz => by rw [List.mem_singleton] at hz; rw [hz]; exact h1)
    simp only [storeVar, Sem.run_bind, hs, Result.andThen_ok, hv, Sem.run_ite]
    simpa [World.setCells] using h2
  unfold Oper.wp execOp
  simp only [ho, hx, hy, Instr.storeAt, Instr.sureAddr, Sem.run_bind, Sem.run_pure, Result.andThen_ok, hst]
  exact R

theorem rowV_get : ∀ (r : List CellS) (i : Nat), (rowV r)[i]? = (r[i / 7]?).bind fun c => (cellV c)[i % 7]?
  | [], i => by simp [rowV]
  | c :: r, i => by
    rw [rowV]
    by_cases h : i < 7
    · rw [List.getElem?_append_left (by rw [cellV_length]; exact h), Nat.div_eq_of_lt h, Nat.mod_eq_of_lt h]; rfl
    · rw [List.getElem?_append_right (by rw [cellV_length]; omega), cellV_length, rowV_get r, show i / 7 = (i - 7) / 7 + 1 by omega, show i % 7 = (i - 7) % 7 by omega, List.getElem?_cons_succ]
theorem rowV_part (r : List CellS) (k : Nat) (c : CellS) (p : Int) (h : r[k]? = some c) : (rowV r).set (k * 7 + 6) (.int .i64 p) = rowV (r.set k ⟨c.r, c.p, p⟩) := by
  apply List.ext_getElem?
  intro i
  have hk := (List.getElem?_eq_some_iff.1 h).1
  rw [List.getElem?_set, rowV_get, rowV_get, rowV_length, List.getElem?_set]
  by_cases hi : k * 7 + 6 = i
  · subst hi
    rw [if_pos rfl, if_pos (by omega), if_pos (by omega), if_pos hk, show (k * 7 + 6) % 7 = 6 by omega]; rfl
  · rw [if_neg hi]
    by_cases hq : k = i / 7
    · rw [if_pos hq, if_pos hk, ← hq, h]
      have : i % 7 < 6 := by omega
      simp only [Option.bind_some, cellV]
      rcases (show i % 7 = 0 ∨ i % 7 = 1 ∨ i % 7 = 2 ∨ i % 7 = 3 ∨ i % 7 = 4 ∨ i % 7 = 5 by omega) with e | e | e | e | e | e <;> rw [e] <;> rfl
    · rw [if_neg hq]

theorem info3s : (Tryd.prog.info? 3).map (·.size) = some 1 := by kernel_rfl
theorem info4s : (Tryd.prog.info? 4).map (·.size) = some 1 := by kernel_rfl
theorem info47 : (Tryd.prog.info? 47).map (·.size) = some 5 := by kernel_rfl
end Go.Proofs.YtheibfffilomcaaDoor
