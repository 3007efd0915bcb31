/- Plain words for the proofs over this program: where the reader of bytes lies in memory, what a list of numbers owns, what is kept. -/
import Derived.Test.YtheibfffilomcaaGreatDoorRows
import Derived.Test.YtheibfffilomcaaGreatDoorNum
import Derived.WalkKit
import Derived.WalkSpells
import Derived.WalkLawsBesides
namespace Go.Proofs.YtheibfffilomcaaGreatDoor
open Go.RowKit

theorem info3 : (Tryz.prog.info? 3).map (fun i => (i.zero, i.size, i.bytes)) = some (some (.int .i64 0), 1, 8) := by kernel_rfl

/-- The reader lies at a place. -/
structure RdAt (w : World) (rb ro : Nat) (s : RS) : Prop where
  c0 : w.cell? ⟨rb, ro, none⟩ = some (.int .i64 s.m)
  c1 : w.cell? ⟨rb, ro + 1, none⟩ = some (.int .u8 s.lo)
  c2 : w.cell? ⟨rb, ro + 2, none⟩ = some (.int .u8 s.hi)
  c3 : w.cell? ⟨rb, ro + 3, none⟩ = some (.int .i64 s.val)
  f : ∀ j, j < 4 → w.frozen? ⟨rb, ro + j, none⟩ = false

/-- A list of numbers of the call's own. -/
def LsAt (w : World) (base : Nat) (v : Value) (L : List Int) : Prop := w.ownsRow base 3 1 v L.length (L.map (Value.int .i64))

/-- Below 'base' all is kept but the reader's four cells. -/
structure Kp (base rb ro : Nat) (w w' : World) : Prop where
  os : w'.os = w.os
  tape : w'.tape = w.tape
  output : w'.output = w.output
  size : w.heap.size ≤ w'.heap.size
  block : ∀ k, k < base → k ≠ rb → w'.heap[k]? = w.heap[k]?
  cell : ∀ o, (o < ro ∨ ro + 4 ≤ o) → w'.cell? ⟨rb, o, none⟩ = w.cell? ⟨rb, o, none⟩
  frozen : ∀ o, w'.frozen? ⟨rb, o, none⟩ = w.frozen? ⟨rb, o, none⟩

theorem Kp.refl (base rb ro : Nat) (w : World) : Kp base rb ro w w := ⟨rfl, rfl, rfl, Nat.le_refl _, fun _ _ _ => rfl, fun _ _ => rfl, fun _ => rfl⟩
theorem Kp.trans {base rb ro : Nat} {a b c : World} (h : Kp base rb ro a b) (k : Kp base rb ro b c) : Kp base rb ro a c :=
  ⟨k.os.trans h.os, k.tape.trans h.tape, k.output.trans h.output, Nat.le_trans h.size k.size, fun i hi hn => (k.block i hi hn).trans (h.block i hi hn), fun o ho => (k.cell o ho).trans (h.cell o ho), fun o => (k.frozen o).trans (h.frozen o)⟩
theorem Kp.of_below {base rb ro : Nat} {w w' : World} (h : Below base w w') (hrb : rb < base) : Kp base rb ro w w' :=
  ⟨h.os, h.tape, h.output, h.size, fun k hk _ => h.block k hk, fun _ _ => h.cell hrb, fun _ => h.frozen hrb⟩
theorem Kp.below {base rb ro B : Nat} {w w' : World} (h : Kp base rb ro w w') (hB : B ≤ rb) (hb : rb ≤ base) : Below B w w' :=
  ⟨h.os, h.tape, h.output, h.size, fun k hk => h.block k (by omega) (by omega)⟩

theorem cell_set_other (w : World) (rb a b : Nat) (x : Value) (h : a ≠ b) : (w.setCell ⟨rb, a, none⟩ x).cell? ⟨rb, b, none⟩ = w.cell? ⟨rb, b, none⟩ := by
  exact World.cell?_setCell_other _ _ _ _ (by simp)

theorem Kp.set {base rb ro : Nat} {w : World} (j : Nat) (x : Value) (hj : ro ≤ j ∧ j < ro + 4) : Kp base rb ro w (w.setCell ⟨rb, j, none⟩ x) := by
  refine ⟨rfl, rfl, rfl, by simp [World.setCell], fun k _ hn => Below.heap_setCell _ _ _ _ hn, fun o ho => cell_set_other _ _ _ _ _ (by omega), fun o => ?_⟩
  simp

/-- The reader written anew. -/
def World.setRd (w : World) (rb ro : Nat) (s : RS) : World :=
  (((w.setCell ⟨rb, ro, none⟩ (.int .i64 s.m)).setCell ⟨rb, ro + 1, none⟩ (.int .u8 s.lo)).setCell ⟨rb, ro + 2, none⟩ (.int .u8 s.hi)).setCell ⟨rb, ro + 3, none⟩ (.int .i64 s.val)

theorem setRd_kp {base rb ro : Nat} (w : World) (s : RS) : Kp base rb ro w (World.setRd w rb ro s) :=
  (((Kp.set ro _ (by omega)).trans (Kp.set (ro + 1) _ (by omega))).trans (Kp.set (ro + 2) _ (by omega))).trans (Kp.set (ro + 3) _ (by omega))

theorem setRd_rd {rb ro : Nat} {w : World} {s0 : RS} (h : RdAt w rb ro s0) (s : RS) : RdAt (World.setRd w rb ro s) rb ro s := by
  have k := setRd_kp (base := 0) (rb := rb) (ro := ro) w s
  unfold World.setRd
  refine ⟨?_, ?_, ?_, ?_, fun j hj => ?_⟩
  · rw [cell_set_other _ _ _ _ _ (by omega), cell_set_other _ _ _ _ _ (by omega), cell_set_other _ _ _ _ _ (by omega)]
    exact World.cell?_setCell_same _ _ _ h.c0
  · rw [cell_set_other _ _ _ _ _ (by omega), cell_set_other _ _ _ _ _ (by omega)]
    exact World.cell?_setCell_same _ _ _ ((cell_set_other _ _ _ _ _ (by omega)).trans h.c1)
  · rw [cell_set_other _ _ _ _ _ (by omega)]
    exact World.cell?_setCell_same _ _ _ ((cell_set_other _ _ _ _ _ (by omega)).trans ((cell_set_other _ _ _ _ _ (by omega)).trans h.c2))
  · exact World.cell?_setCell_same _ _ _ ((cell_set_other _ _ _ _ _ (by omega)).trans ((cell_set_other _ _ _ _ _ (by omega)).trans ((cell_set_other _ _ _ _ _ (by omega)).trans h.c3)))
  · exact (k.frozen _).trans (h.f j hj)

theorem RdAt.kept {rb ro : Nat} {w w' : World} {s : RS} (h : RdAt w rb ro s) (hb : w'.heap[rb]? = w.heap[rb]?) : RdAt w' rb ro s :=
  ⟨(World.cell?_of_block hb).trans h.c0, (World.cell?_of_block hb).trans h.c1, (World.cell?_of_block hb).trans h.c2, (World.cell?_of_block hb).trans h.c3, fun j hj => (World.frozen?_of_block hb).trans (h.f j hj)⟩

theorem LsAt.setRd {w : World} {base : Nat} {v : Value} {L : List Int} (h : LsAt w base v L) {rb ro : Nat} (hrb : rb < base) (s : RS) : LsAt (World.setRd w rb ro s) base v L := by
  unfold World.setRd LsAt
  exact ownsRow_setCell_below (ownsRow_setCell_below (ownsRow_setCell_below (ownsRow_setCell_below h hrb _) hrb _) hrb _) hrb _

theorem LsAt.one {w : World} {base : Nat} {v' : Value} {L : List Int} {x : Int} (h : w.ownsRow base 3 1 v' (L.length + 1) (L.map (Value.int .i64) ++ [.int .i64 x])) : LsAt w base v' (L ++ [x]) := by
  unfold LsAt; simpa using h

/-- One number more behind a list of the call's own. -/
theorem wp_app1 {ops : Array Oper} {rest : List Oper} {o : Oper} {a : Act} {Q : Exit → Act → World → Prop} (u : World) (hgd : o.guard = none) (s x : Operand)
    (ho : o.op = .call { callee := .builtin .append, args := #[s, x], argTypes := #[53, 53] }) (base : Nat) (v : Value) (L : List Int) (y : Int) (hs : a.eval s = v) (own : LsAt u base v L)
    (g : Nat) (hg : g = u.heap.size) (hx : a.eval x = .slice (some ⟨g, 0, none⟩) 1 1) (hL : L.length ≤ 1000000000) (hb : base ≤ u.heap.size)
    (h : ∀ v' w', LsAt w' base v' (L ++ [y]) → Below base u w' → wpList Tryz.prog ops Q rest (a.put o.dst v') w') : wpList Tryz.prog ops Q (o :: rest) a (u.alloc (.cells #[.int .i64 y] 3)) := by
  obtain ⟨i0, hi, hz0, hz1, hz2⟩ := info_parts info3
  subst hg
  refine wpList_append_own _ hgd s x 53 ho base 3 i0 (.int .i64 0) 1 8 Tryz.underlying53 hi hz0 hz1 hz2 rfl (by decide) v _ _ hs (World.ownsRow.alloc own _) ⟨u.heap.size, 0, none⟩ 1 1 [.int .i64 y] hx rfl (cell_one_new _ _ _) ?_ ?_ ?_ ?_ ?_
  · intro z hz; simp at hz; subst hz; rfl
  · unfold maxLen; omega
  · omega
  · simp; omega
  · intro v' w' hown hgrow _
    refine h v' w' (LsAt.one hown) ?_
    refine ((Below.refl base u).alloc hb _).grown hgrow (by simp; omega) ?_
    intro k hk
    exact ((World.ownsRow.lt own) k hk).1

/-- The table of leads, as its cells. -/
def leadsArr : Array Value := #[.int .u8 194, .int .u8 223, .int .u8 31, .int .i64 1, .int .u8 128, .int .u8 191, .int .u8 224, .int .u8 224, .int .u8 15, .int .i64 2, .int .u8 160, .int .u8 191,
  .int .u8 225, .int .u8 236, .int .u8 15, .int .i64 2, .int .u8 128, .int .u8 191, .int .u8 237, .int .u8 237, .int .u8 15, .int .i64 2, .int .u8 128, .int .u8 159,
  .int .u8 238, .int .u8 239, .int .u8 15, .int .i64 2, .int .u8 128, .int .u8 191, .int .u8 240, .int .u8 240, .int .u8 7, .int .i64 3, .int .u8 144, .int .u8 191,
  .int .u8 241, .int .u8 243, .int .u8 7, .int .i64 3, .int .u8 128, .int .u8 191, .int .u8 244, .int .u8 244, .int .u8 7, .int .i64 3, .int .u8 128, .int .u8 143]

/-- The table lies where the program has it. -/
def Leads (w : World) : Prop := ∃ t fr, w.heap[0]? = some (.cells leadsArr t fr)
theorem Leads.kept {w w' : World} (h : Leads w) (hb : w'.heap[0]? = w.heap[0]?) : Leads w' := by
  obtain ⟨t, fr, h⟩ := h
  exact ⟨t, fr, hb.trans h⟩

theorem LsAt.below {w w' : World} {base : Nat} {v : Value} {L : List Int} (h : LsAt w base v L) (hb : Below w.heap.size w w') : LsAt w' base v L :=
  World.ownsRow.kept (row := none) h ⟨hb.os, hb.tape, hb.output, hb.size, fun k hk _ => hb.block k hk⟩ (by cases hv : v.ownBlock <;> simp)

end Go.Proofs.YtheibfffilomcaaGreatDoor
