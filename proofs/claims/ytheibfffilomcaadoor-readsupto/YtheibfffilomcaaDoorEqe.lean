/- Two events held against one another: an event is the same as itself. -/
import Derived.Test.YtheibfffilomcaaDoorEvw
import Derived.ChangeKeysEq
namespace Go.Proofs.YtheibfffilomcaaDoor
open Go.RowKit

theorem part3 (xs : Array Value) (off : Nat) (x : Int) (h : xs[off]? = some (.int .i64 x)) (w : World) : (part 3 xs off).run Tryd.prog w = .ok (.int .i64 x) w := by
  have hz : (isAgg 3).run Tryd.prog w = .ok false w := by kernel_rfl
  simp [part, hz, h]
theorem part42 (xs : Array Value) (off : Nat) (w : World) : (part 73 xs off).run Tryd.prog w = .ok (.agg (xs.extract off (off + 16))) w := by
  have hz : (isAgg 73).run Tryd.prog w = .ok true w := by kernel_rfl
  have hs : (sizeOf 73).run Tryd.prog w = .ok 16 w := by kernel_rfl
  simp only [part, Sem.run_bind, hz, Result.andThen_ok, if_true, hs, Sem.run_pure]
theorem items_self (d : Nat) (xs : Array Value) (w : World) : ∀ is : List Nat, (∀ i ∈ is, ∃ x, xs[i * 1]? = some (.int .i64 x)) → (Op.eqItems (d + 1) 3 1 xs xs is).run Tryd.prog w = .ok true w
  | [], _ => by simp [Op.eqItems]
  | i :: is, h => by
    obtain ⟨x, hx⟩ := h i (by simp)
    have ih := items_self d xs w is (fun j hj => h j (by simp [hj]))
    have he : (Op.equalIn (d + 1) 3 (.int .i64 x) (.int .i64 x)).run Tryd.prog w = .ok true w := by
      rw [run_equalIn_int w d 3 .i64 .i64 x x Tryd.underlying3]; simp
    simp only [Op.eqItems, Sem.run_bind, part3 xs _ x hx, Result.andThen_ok, he, Bool.not_true, Bool.false_eq_true, if_false]
    exact ih
theorem arr_self (d : Nat) (xs : Array Value) (w : World) (h : ∀ i, i < 16 → ∃ x, xs[i]? = some (.int .i64 x)) : (Op.equalIn (d + 2) 73 (.agg xs) (.agg xs)).run Tryd.prog w = .ok true w := by
  obtain ⟨i0, hi, _⟩ := info_parts info3
  have hc : Tryd.prog.cellsOf 3 = 1 := by kernel_rfl
  rw [run_equalIn_array w (d + 1) xs xs Tryd.underlying73 hi, hc]
  exact items_self d xs w _ (fun i hi => by rw [Nat.mul_one]; exact h i (by simpa using hi))
theorem fields_self (d : Nat) (xs : Array Value) (w : World) (hx : ∀ i, i < 21 → ∃ x, xs[i]? = some (.int .i64 x)) : ∀ fs : List Field, (∀ f ∈ fs, (f.type = 3 ∧ f.offset < 5) ∨ (f.type = 73 ∧ f.offset = 5)) → (Op.eqFields (d + 2) xs xs fs).run Tryd.prog w = .ok true w
  | [], _ => by simp [Op.eqFields]
  | f :: fs, h => by
    have ih := fields_self d xs w hx fs (fun g hg => h g (by simp [hg]))
    have key : ∃ v, (part f.type xs f.offset).run Tryd.prog w = .ok v w ∧ (Op.equalIn (d + 2) f.type v v).run Tryd.prog w = .ok true w := by
      rcases h f (by simp) with ⟨ht, ho⟩ | ⟨ht, ho⟩
      · obtain ⟨x, hxx⟩ := hx f.offset (by omega)
        rw [ht]
        exact ⟨_, part3 xs _ x hxx w, by rw [run_equalIn_int w (d + 1) 3 .i64 .i64 x x Tryd.underlying3]; simp⟩
      · rw [ht, ho]
        refine ⟨_, part42 xs 5 w, arr_self d _ w fun i hi => ?_⟩
        obtain ⟨x, hxx⟩ := hx (5 + i) (by omega)
        exact ⟨x, by rw [Array.getElem?_extract, if_pos (by have := (Array.getElem?_eq_some_iff.1 hxx).1; omega)]; exact hxx⟩
    obtain ⟨v, h1, h2⟩ := key
    simp only [Op.eqFields, Sem.run_bind, Sem.run_ite]
    split
    · simp only [h1, h2, Result.andThen_ok, Bool.not_true, Bool.false_eq_true, if_false]
      exact ih
    · exact ih
theorem eq44 (e : List Int) (h : e.length = 21) (w : World) : (Op.equalIn 10000 75 (.agg (intA e)) (.agg (intA e))).run Tryd.prog w = .ok true w := by
  have hu : Tryd.prog.underlying 75 = some (.struct (Tryd.prog.fieldsOf 75)) := by kernel_rfl
  have hp : Tryd.prog.stoodInHeld 75 = false := by kernel_rfl
  rw [run_equalIn_struct w 9999 75 _ _ hu hp]
  refine fields_self 9997 _ w (fun i hi => ⟨e.getD i 0, ?_⟩) _ (of_decide_eq_true (by kernel_rfl))
  simpa [intA] using intC_get e i (by omega)
theorem guard44 (op : BinOp) (x y : Operand) (xs ys : Array Value) (w : World) : (eqGuard op 75 x y (.agg xs) (.agg ys)).run Tryd.prog w = .ok () w := run_eqGuard_agg w op 75 x y xs ys (by kernel_rfl)
theorem eql44 (e : List Int) (h : e.length = 21) (w : World) : (binOp .eql 75 (.agg (intA e)) (.agg (intA e))).run Tryd.prog w = .ok (.bool true) w := by
  rw [run_eql_struct, eq44 e h]; rfl
theorem neq44 (e : List Int) (h : e.length = 21) (w : World) : (binOp .neq 75 (.agg (intA e)) (.agg (intA e))).run Tryd.prog w = .ok (.bool false) w := by
  rw [run_neq_struct, eq44 e h]; rfl

end Go.Proofs.YtheibfffilomcaaDoor
