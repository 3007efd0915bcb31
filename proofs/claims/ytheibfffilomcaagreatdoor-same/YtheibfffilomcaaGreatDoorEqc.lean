/- Pens, cells, spots and states held against one another. -/
import Derived.Test.YtheibfffilomcaaGreatDoorCa
import Derived.ChangeKeysEq
namespace Go.Proofs.YtheibfffilomcaaGreatDoor
open Go.RowKit

theorem partI (xs : Array Value) (off : Nat) (x : Int) (h : xs[off]? = some (.int .i64 x)) (w : World) : (part 3 xs off).run Tryz.prog w = .ok (.int .i64 x) w := by
  have hz : (isAgg 3).run Tryz.prog w = .ok false w := by kernel_rfl
  simp [part, hz, h]
theorem partB (xs : Array Value) (off : Nat) (x : Bool) (h : xs[off]? = some (.bool x)) (w : World) : (part 4 xs off).run Tryz.prog w = .ok (.bool x) w := by
  have hz : (isAgg 4).run Tryz.prog w = .ok false w := by kernel_rfl
  simp [part, hz, h]
theorem part47 (xs : Array Value) (off : Nat) (w : World) : (part 80 xs off).run Tryz.prog w = .ok (.agg (xs.extract off (off + 5))) w := by
  have hz : (isAgg 80).run Tryz.prog w = .ok true w := by kernel_rfl
  have hs : (sizeOf 80).run Tryz.prog w = .ok 5 w := by kernel_rfl
  simp only [part, Sem.run_bind, hz, Result.andThen_ok, if_true, hs, Sem.run_pure]
theorem part54 (xs : Array Value) (off : Nat) (w : World) : (part 82 xs off).run Tryz.prog w = .ok (.agg (xs.extract off (off + 12))) w := by
  have hz : (isAgg 82).run Tryz.prog w = .ok true w := by kernel_rfl
  have hs : (sizeOf 82).run Tryz.prog w = .ok 12 w := by kernel_rfl
  simp only [part, Sem.run_bind, hz, Result.andThen_ok, if_true, hs, Sem.run_pure]

/-- Field by field: each is held against the other's. -/
theorem eq_fields (d : Nat) (xs ys : Array Value) (w : World) : ∀ (fs : List Field) (L : List (TypeId × Nat × Bool)), (∀ f ∈ fs, f.name ≠ "_") → fs.map (fun f => (f.type, f.offset)) = L.map (fun x => (x.1, x.2.1)) →
    (∀ x ∈ L, ∃ a b, (part x.1 xs x.2.1).run Tryz.prog w = .ok a w ∧ (part x.1 ys x.2.1).run Tryz.prog w = .ok b w ∧ (Op.equalIn d x.1 a b).run Tryz.prog w = .ok x.2.2 w) → (Op.eqFields d xs ys fs).run Tryz.prog w = .ok (L.all (·.2.2)) w
  | [], [], _, _, _ => by simp [Op.eqFields]
  | [], _ :: _, _, h, _ => by simp at h
  | _ :: _, [], _, h, _ => by simp at h
  | f :: fs, x :: L, hn, h, hx => by
    simp only [List.map_cons, List.cons.injEq, Prod.mk.injEq] at h
    obtain ⟨⟨h1, h2⟩, h3⟩ := h
    obtain ⟨a, b, e1, e2, e3⟩ := hx x (by simp)
    have ih := eq_fields d xs ys w fs L (fun g hg => hn g (by simp [hg])) h3 (fun y hy => hx y (by simp [hy]))
    rw [← h1, ← h2] at e1 e2
    rw [← h1] at e3
    have hf : f.name ≠ "_" := hn f (by simp)
    simp only [Op.eqFields, Sem.run_bind, Sem.run_ite, e1, e2, e3, Result.andThen_ok, List.all_cons]
    rw [if_pos (by simpa using hf)]
    cases x.2.2
    · simp
    · simpa using ih

theorem eqB (d : Nat) (x y : Bool) (w : World) : (Op.equalIn (d + 1) 4 (.bool x) (.bool y)).run Tryz.prog w = .ok (x == y) w := by
  simp [Op.equalIn, run_underlying Tryz.underlying4]
theorem eqI (d : Nat) (x y : Int) (w : World) : (Op.equalIn (d + 1) 3 (.int .i64 x) (.int .i64 y)).run Tryz.prog w = .ok (x == y) w := by
  rw [run_equalIn_int w d 3 .i64 .i64 x y Tryz.underlying3]

theorem eqP (d : Nat) (p q : PenS) (w : World) : (Op.equalIn (d + 2) 80 (.agg (penA p)) (.agg (penA q))).run Tryz.prog w = .ok (decide (p = q)) w := by
  have hu : Tryz.prog.underlying 80 = some (.struct (Tryz.prog.fieldsOf 80)) := by kernel_rfl
  have hp : Tryz.prog.stoodInHeld 80 = false := by kernel_rfl
  rw [run_equalIn_struct w (d + 1) 80 _ _ hu hp]
  rw [eq_fields (d + 1) _ _ w _ [(4, 0, p.b == q.b), (4, 1, p.u == q.u), (4, 2, p.t == q.t), (3, 3, p.f == q.f), (3, 4, p.k == q.k)] (of_decide_eq_true (by kernel_rfl)) (by kernel_rfl) ?_]
  · refine congrArg (fun z => Result.ok z w) ?_
    obtain ⟨b, u, t, f, k⟩ := p
    obtain ⟨b', u', t', f', k'⟩ := q
    simp only [List.all_cons, List.all_nil, PenS.mk.injEq, Bool.and_true]
    rw [Bool.eq_iff_iff]
    simp
  · intro x hx
    simp only [List.mem_cons, List.not_mem_nil, or_false] at hx
    rcases hx with rfl | rfl | rfl | rfl | rfl
    · exact ⟨_, _, partB _ 0 p.b rfl w, partB _ 0 q.b rfl w, eqB _ _ _ w⟩
    · exact ⟨_, _, partB _ 1 p.u rfl w, partB _ 1 q.u rfl w, eqB _ _ _ w⟩
    · exact ⟨_, _, partB _ 2 p.t rfl w, partB _ 2 q.t rfl w, eqB _ _ _ w⟩
    · exact ⟨_, _, partI _ 3 p.f rfl w, partI _ 3 q.f rfl w, eqI _ _ _ w⟩
    · exact ⟨_, _, partI _ 4 p.k rfl w, partI _ 4 q.k rfl w, eqI _ _ _ w⟩

theorem eqC (c e : CellS) (w : World) : (Op.equalIn 10000 101 (.agg (cellA c)) (.agg (cellA e))).run Tryz.prog w = .ok (decide (c = e)) w := by
  have hu : Tryz.prog.underlying 101 = some (.struct (Tryz.prog.fieldsOf 101)) := by kernel_rfl
  have hp : Tryz.prog.stoodInHeld 101 = false := by kernel_rfl
  rw [run_equalIn_struct w 9999 101 _ _ hu hp]
  rw [eq_fields 9999 _ _ w _ [(3, 0, c.r == e.r), (80, 1, decide (c.p = e.p)), (3, 6, c.part == e.part)] (of_decide_eq_true (by kernel_rfl)) (by kernel_rfl) ?_]
  · refine congrArg (fun z => Result.ok z w) ?_
    obtain ⟨r, p, t⟩ := c
    obtain ⟨r', p', t'⟩ := e
    simp only [List.all_cons, List.all_nil, CellS.mk.injEq, Bool.and_true]
    rw [Bool.eq_iff_iff]
    simp
  · intro x hx
    simp only [List.mem_cons, List.not_mem_nil, or_false] at hx
    rcases hx with rfl | rfl | rfl
    · exact ⟨_, _, partI _ 0 c.r rfl w, partI _ 0 e.r rfl w, eqI _ _ _ w⟩
    · refine ⟨_, _, part47 _ 1 w, part47 _ 1 w, ?_⟩
      exact eqP 9997 c.p e.p w
    · exact ⟨_, _, partI _ 6 c.part rfl w, partI _ 6 e.part rfl w, eqI _ _ _ w⟩
theorem eqlC (c d : CellS) (w : World) : (binOp .eql 101 (.agg (cellA c)) (.agg (cellA d))).run Tryz.prog w = .ok (.bool (decide (c = d))) w := by
  rw [run_eql_struct, eqC]; rfl
theorem neqC (c d : CellS) (w : World) : (binOp .neq 101 (.agg (cellA c)) (.agg (cellA d))).run Tryz.prog w = .ok (.bool (!decide (c = d))) w := by
  rw [run_neq_struct, eqC]; rfl
end Go.Proofs.YtheibfffilomcaaGreatDoor
