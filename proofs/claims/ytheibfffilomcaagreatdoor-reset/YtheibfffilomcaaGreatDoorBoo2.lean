/- The book of lists: laws for what is put into it. -/
import Derived.Test.YtheibfffilomcaaGreatDoorBook
namespace Go.Proofs.YtheibfffilomcaaGreatDoor
open Go.RowKit

theorem grown_trans {a b c : World} {row : Option Nat} (h : a.grownBy b row) (k : b.grownBy c row) : a.grownBy c row :=
  ⟨k.os.trans h.os, k.tape.trans h.tape, k.output.trans h.output, Nat.le_trans h.size k.size, fun i hi hn => (k.block i (Nat.lt_of_lt_of_le hi h.size) hn).trans (h.block i hi hn)⟩
theorem grown_refl (a : World) (row : Option Nat) : a.grownBy a row := ⟨rfl, rfl, rfl, Nat.le_refl _, fun _ _ _ => rfl⟩

theorem Apart.symm {u v : Value} (h : Apart u v) : Apart v u := by
  unfold Apart at *
  cases hv : v.ownBlock with
  | none => exact Or.inl rfl
  | some k =>
    rcases h with h | h
    · right; rw [h]; simp
    · right; rw [hv] at h; exact fun e => h e.symm

/-- What lies in a block that came later, or where another lay, is apart from what that one was apart from. -/
theorem Apart.later {u v z : Value} {n : Nat} (h : v.ownBlock = u.ownBlock ∨ ∃ k, v.ownBlock = some k ∧ n ≤ k) (ha : Apart u z) (hz : ∀ k, z.ownBlock = some k → k < n) : Apart v z := by
  unfold Apart at *
  rcases h with h | ⟨k, h, hk⟩
  · rw [h]; exact ha
  · right
    rw [h]
    intro e
    have := hz k e.symm
    omega

theorem row_lt {w : World} {base : Nat} {e : TypeId} {size : Nat} {v : Value} {n : Nat} {xs : List Value} (h : w.ownsRow base e size v n xs) : ∀ k, v.ownBlock = some k → k < w.heap.size := fun k hk => (h.lt k hk).2

/-- Lists of elements of different types lie apart. -/
theorem apart_types {w : World} {b1 b2 : Nat} {e1 e2 : TypeId} {s1 s2 : Nat} {u v : Value} {n1 n2 : Nat} {xs ys : List Value} (h1 : w.ownsRow b1 e1 s1 u n1 xs) (h2 : w.ownsRow b2 e2 s2 v n2 ys) (he : e1 ≠ e2) : Apart u v := by
  unfold Apart
  rcases h1.2 with ⟨rfl, _⟩ | ⟨g, cap, cur, rfl, _, hg, _⟩
  · exact Or.inl rfl
  · rcases h2.2 with ⟨rfl, _⟩ | ⟨g2, cap2, cur2, rfl, _, hg2, _⟩
    · right; simp [Value.ownBlock]
    · right
      simp only [Value.ownBlock, ne_eq, Option.some.injEq]
      intro e
      subst e
      rw [hg] at hg2
      simp only [Option.some.injEq, Obj.cells.injEq] at hg2
      exact he hg2.2.1

theorem reps_ints (p : Nat) (m : Int) : reps p [.int .i64 m] = (List.replicate p m).map (Value.int .i64) := by
  induction p with
  | zero => rfl
  | succ p ih =>
    unfold reps at ih ⊢
    rw [List.replicate_succ, List.flatten_cons, ih, List.replicate_succ, List.map_cons]; rfl

theorem LsAt.reps {w : World} {base : Nat} {v : Value} {p : Nat} {m : Int} : LsAt w base v (List.replicate p m) ↔ w.ownsRow base 3 1 v p (reps p [.int .i64 m]) := by
  unfold LsAt; rw [reps_ints, List.length_replicate]

theorem ints_one (Y : List Int) : ∀ u ∈ Y.map (Value.int .i64), u.oneCell' = true := by
  intro u hu
  obtain ⟨y, _, rfl⟩ := List.mem_map.1 hu
  rfl

/-- Numbers put behind a list of numbers, told exactly. -/
theorem wp_appI {ops : Array Oper} {rest : List Oper} {o : Oper} {a : Act} {Q : Exit → Act → World → Prop} (u : World) (hgd : o.guard = none) (s x : Operand)
    (ho : o.op = .call { callee := .builtin .append, args := #[s, x], argTypes := #[53, 53] }) (base : Nat) (v : Value) (L Y : List Int) (arr : Array Value) (harr : arr = (Y.map (Value.int .i64)).toArray) (hY : 0 < Y.length)
    (hs : a.eval s = v) (own : LsAt u base v L) (g k : Nat) (hg : g = u.heap.size) (hk : k = Y.length) (hx : a.eval x = .slice (some ⟨g, 0, none⟩) k k) (hL : L.length + Y.length ≤ 2000000000) (hb : base ≤ u.heap.size)
    (h : ∀ v' w', LsAt w' base v' (L ++ Y) → u.grownBy w' v.ownBlock → (v'.ownBlock = v.ownBlock ∨ ∃ k, v'.ownBlock = some k ∧ u.heap.size ≤ k) →
      (∀ m, L = List.replicate L.length m → Y = List.replicate Y.length m → ∀ b z p, LsAt u b z (List.replicate p m) → LsAt w' b z (List.replicate p m)) → wpList Tryz.prog ops Q rest (a.put o.dst v') w') :
    wpList Tryz.prog ops Q (o :: rest) a (u.alloc (.cells arr 3)) := by
  obtain ⟨i0, hi, hz0, hz1, hz2⟩ := info_parts info3
  subst hg hk harr
  refine wpList_append_strong _ hgd s x 53 ho base 3 i0 (.int .i64 0) 1 8 Tryz.underlying53 hi hz0 hz1 hz2 rfl v _ _ hs (World.ownsRow.alloc own _) ⟨u.heap.size, 0, none⟩ Y.length Y.length (Y.map (Value.int .i64)) hx (by simp) (cells_new _ _ _) (ints_one Y) hY ?_ ?_ ?_ ?_
  · unfold maxLen; omega
  · omega
  · simp; omega
  · intro v' w' hown hgrow hblk hkeep
    refine h v' w' ?_ (grown_trans (World.grownBy_alloc u _ _) hgrow) ?_ ?_
    · unfold LsAt; simpa using hown
    · rcases hblk with e | ⟨k, e, hk⟩
      · exact Or.inl e
      · exact Or.inr ⟨k, e, by simp at hk; omega⟩
    · intro m e1 e2 b z p hz
      have := hkeep [.int .i64 m] rfl (by rw [reps_ints, ← e1]) (by rw [reps_ints, ← e2]) b z p (LsAt.reps.1 (World.ownsRow.alloc hz _))
      exact LsAt.reps.2 this

theorem info26 : (Tryz.prog.info? 53).map (fun i => (i.zero, i.size, i.bytes)) = some (some (.slice none 0 0), 1, 24) := by kernel_rfl

/-- Lists put behind a list of lists. -/
theorem wp_appL {ops : Array Oper} {rest : List Oper} {o : Oper} {a : Act} {Q : Exit → Act → World → Prop} (u : World) (hgd : o.guard = none) (s x : Operand)
    (ho : o.op = .call { callee := .builtin .append, args := #[s, x], argTypes := #[52, 52] }) (base : Nat) (v : Value) (L Y : List Value) (arr : Array Value) (harr : arr = Y.toArray) (hY : 0 < Y.length) (hone : ∀ y ∈ Y, y.oneCell' = true)
    (hs : a.eval s = v) (own : u.ownsRow base 53 1 v L.length L) (g k : Nat) (hg : g = u.heap.size) (hk : k = Y.length) (hx : a.eval x = .slice (some ⟨g, 0, none⟩) k k) (hL : L.length + Y.length ≤ 2000000000) (hb : base ≤ u.heap.size)
    (h : ∀ v' w', Hid (w'.ownsRow base 53 1 v' (L ++ Y).length (L ++ Y)) → u.grownBy w' v.ownBlock → wpList Tryz.prog ops Q rest (a.put o.dst v') w') :
    wpList Tryz.prog ops Q (o :: rest) a (u.alloc (.cells arr 53)) := by
  obtain ⟨i0, hi, hz0, hz1, hz2⟩ := info_parts info26
  subst hg hk harr
  refine wpList_append_strong _ hgd s x 52 ho base 53 i0 (.slice none 0 0) 1 24 Tryz.underlying52 hi hz0 hz1 hz2 rfl v _ _ hs (World.ownsRow.alloc own _) ⟨u.heap.size, 0, none⟩ Y.length Y.length Y hx (by simp) (cells_new _ _ _) hone hY ?_ ?_ ?_ ?_
  · unfold maxLen; omega
  · omega
  · simp; omega
  · intro v' w' hown hgrow _ _
    refine h v' w' ?_ (grown_trans (World.grownBy_alloc u _ _) hgrow)
    show w'.ownsRow base 53 1 v' (L ++ Y).length (L ++ Y)
    rw [List.length_append]; exact hown

/-- The book stays where only blocks that lie apart from it are written. -/
theorem BkRaw.grown {w w' : World} {bb : Nat} {vi vm : Value} {I : List Value} {M : List Int} {E : List (Value × Int)} {nx : Int} (h : BkRaw w bb vi vm I M E nx) {row : Option Nat} (hg : w.grownBy w' row) (hbb : some bb ≠ row) (hi : vi.ownBlock = none ∨ vi.ownBlock ≠ row)
    (hm : vm.ownBlock = none ∨ vm.ownBlock ≠ row) (hE : ∀ x ∈ E, x.1.ownBlock = none ∨ x.1.ownBlock ≠ row) : BkRaw w' bb vi vm I M E nx := by
  have hlt : bb < w.heap.size := World.block_lt_of_cell? _ _ h.c0
  have hbk := hg.block bb hlt hbb
  refine ⟨(World.cell?_of_block hbk).trans h.c0, (World.cell?_of_block hbk).trans h.c1, (World.cell?_of_block hbk).trans h.c2, (World.cell?_of_block hbk).trans h.c3, (World.cell?_of_block hbk).trans h.c4, (World.cell?_of_block hbk).trans h.c5, (World.cell?_of_block hbk).trans h.c6,
    fun j hj => (World.frozen?_of_block hbk).trans (h.f j hj), h.oi.kept hg hi, World.ownsRow.kept h.om hg hm, fun x hx => ?_⟩
  obtain ⟨a, p, hp, hl⟩ := h.ent x hx
  exact ⟨a, p, hp, World.ownsRow.kept hl hg (hE x hx)⟩

end Go.Proofs.YtheibfffilomcaaGreatDoor
