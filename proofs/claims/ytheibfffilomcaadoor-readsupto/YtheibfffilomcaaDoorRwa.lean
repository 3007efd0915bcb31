/- The walks of the document's machine: final, sequence. -/
import Derived.Test.YtheibfffilomcaaDoorMwf
import Derived.Test.YtheibfffilomcaaDoorEvr
import Derived.Test.YtheibfffilomcaaDoorBook
namespace Go.Proofs.YtheibfffilomcaaDoor
open Go.RowKit

set_option maxHeartbeats 400000 in
theorem rfinal_any (c : Int) (w : World) : Calls Tryd.prog 90 #[.int .i64 c] w fun e w' => e = .returned (.bool (finalN c)) ∧ w = w' := by
  by_cases c1 : 64 ≤ c
  · by_cases c2 : c ≤ 126
    · have e : finalN c = true := by simp [finalN, c1, c2]
      rw [e]; clear e
      go_enter Tryd.func90, Tryd.ntmps90
      go_wp2
      go_ret
      exact ⟨rfl, rfl⟩
    · have e : finalN c = false := by simp [finalN, c2]
      have d2 : decide (c ≤ 126) = false := by simp [c2]
      rw [e]; clear e
      go_enter Tryd.func90, Tryd.ntmps90
      go_wp2
      go_ret
      exact ⟨rfl, rfl⟩
  · have e : finalN c = false := by simp [finalN, c1]
    have d2 : decide (64 ≤ c) = false := by simp [c1]
    rw [e]; clear e
    go_enter Tryd.func90, Tryd.ntmps90
    go_wp2
    go_ret
    exact ⟨rfl, rfl⟩
theorem rfinal_is (c : Int) (t : Bool) (w : World) (h : finalN c = t) : Calls Tryd.prog 90 #[.int .i64 c] w fun e w' => e = .returned (.bool t) ∧ w = w' := h ▸ rfinal_any c w

/-- One of an event's cells written. -/
theorem wp_ecell {ops : Array Oper} {rest : List Oper} {o : Oper} {a : Act} {Q : Exit → Act → World → Prop} (u : World) (hgd : o.guard = none) (x y : Operand) (ho : o.op = .store 3 x y) (g j : Nat) (ev : List Int) (c : Int) (hj : j < ev.length)
    (hx : a.eval x = .pointer (some ⟨g, j, none⟩)) (hy : a.eval y = .int .i64 c) (t : TypeId) (hg : u.heap[g]? = some (.cells (intA ev) t (0, 0)))
    (h : ∀ u', u'.heap[g]? = some (.cells (intA (ev.set j c)) t (0, 0)) → u.grownBy u' (some g) → u'.heap.size = u.heap.size → wpList Tryd.prog ops Q rest (a.put o.dst undef) u') : wpList Tryd.prog ops Q (o :: rest) a u := by
  have hc : ∃ v, u.cell? ⟨g, j, none⟩ = some v := by
    rw [cell_of_row _ _ _ _ _ _ hg]
    exact ⟨_, Array.getElem?_eq_getElem (by rw [intA_size]; exact hj)⟩
  obtain ⟨v, hc⟩ := hc
  have hf := frozen_of_row u g j _ t hg
  refine wpList_plain hgd fun K hK => ?_
  have hset : (intA ev).setIfInBounds j (.int .i64 c) = intA (ev.set j c) := by simp [intA, intC]
  have R := hK _ _ (h (u.setCell ⟨g, j, none⟩ (.int .i64 c)) (by rw [heap_setCell_same u g j _ t _ hg, hset]) ⟨rfl, rfl, rfl, by simp, fun k _ hk => heap_setCell_other u ⟨g, j, none⟩ k _ (fun e => hk (by simp [e]))⟩ (by simp [World.setCell]))
  have hs : (sizeOf 3).run Tryd.prog u = .ok 1 u := by kernel_rfl
  unfold Oper.wp execOp
  simp only [ho, hx, hy]
  go_simp
  exact R

/-- A list that is only read. -/
def SlAt (w : World) (ao : Option Addr) (B : List Int) : Prop := ∀ j x, B[j]? = some x → ∃ b o, ao = some ⟨b, o, none⟩ ∧ b < w.heap.size ∧ w.cell? ⟨b, o + j, none⟩ = some (.int .i64 x)

end Go.Proofs.YtheibfffilomcaaDoor
