/- Walks of package cells: Put. -/
import Derived.Test.YtheibfffilomcaaGreatDoorCdM
namespace Go.Proofs.YtheibfffilomcaaGreatDoor
open Go.RowKit

/-- A pen read out of its box. -/
theorem wp_pload {ops : Array Oper} {rest : List Oper} {o : Oper} {a : Act} {Q : Exit → Act → World → Prop} (u : World) (hgd : o.guard = none) (x : Operand) (ho : o.op = .load 80 x) (g : Nat) (p : PenS)
    (hx : a.eval x = .pointer (some ⟨g, 0, none⟩)) (t : TypeId) (fr : Nat × Nat) (hg : u.heap[g]? = some (.cells (penA p) t fr))
    (h : wpList Tryz.prog ops Q rest (a.put o.dst (.agg #[.bool p.b, .bool p.u, .bool p.t, .int .i64 p.f, .int .i64 p.k])) u) : wpList Tryz.prog ops Q (o :: rest) a u :=
  wpList_load_row hgd 80 x ho g hx t (penA p) fr _ hg Tryz.underlying80 rfl (by exact info47) h

set_option maxRecDepth 100000 in
set_option maxHeartbeats 1000000 in
theorem put_any (g a wd n : Nat) (c : Int) (p : PenS) (r : List CellS) (w : World) (hr : RowAt w g r) (hn : r.length = n) (hw : wd = 1 ∨ wd = 2) (ha : a + wd ≤ n) (hl : n ≤ 100) :
    Calls Tryz.prog 102 #[.slice (some ⟨g, 0, none⟩) n n, .int .i64 (a : Int), .int .i64 c, .int .i64 (wd : Int), .agg (penA p)] w fun e w' => e = .returned (.tuple #[]) ∧ RowAt w' g (putR r a c wd p) ∧ Ch (· = g) w w' := by
  subst hn
  change Calls Tryz.prog 102 #[.slice (some ⟨g, 0, none⟩) r.length r.length, .int .i64 (a : Int), .int .i64 c, .int .i64 (wd : Int), .agg #[.bool p.b, .bool p.u, .bool p.t, .int .i64 p.f, .int .i64 p.k]] w _
  have hg := hr.lt
  have s1 : ∀ u, RowAt u g r → _ := fun u hu => split_any g a r.length r u hu (by omega)
  have s2 : ∀ u, RowAt u g (splitR r a) → _ := fun u hu => split_any g (a + wd) (splitR r a).length (splitR r a) u hu (by omega)
  rw [splitR_length] at s2
  have hl2 : (splitR (splitR r a) (a + wd)).length = r.length := by rw [splitR_length, splitR_length]
  have hpt : putR r a c wd p = if wd = 2 then ((splitR (splitR r a) (a + wd)).set a ⟨c, p, 1⟩).set (a + 1) ⟨0, p, 2⟩ else (splitR (splitR r a) (a + wd)).set a ⟨c, p, 0⟩ := rfl
  generalize putR r a c wd p = X at *
  generalize splitR (splitR r a) (a + wd) = q at *
  have HX : Hid _ := hpt
  have HL : Hid _ := hl2
  have HW : Hid _ := hw
  have w1' : IntKind.i64.wrap ((a : Int) + (wd : Int)) = (a : Int) + (wd : Int) := IntWalk.i64_in _ (by omega)
  have i1 : (a : Int) < (r.length : Int) := by omega
  have HR : Hid (RowAt (w.alloc (.cells (penA p) 80)) g r) := hr.kept (Below.heap_alloc _ _ _ hg)
  have HC : Hid (Ch (· = g) w (w.alloc (.cells (penA p) 80))) := (Ch.refl _ _).alloc _
  have HP : Hid ((w.alloc (.cells (penA p) 80)).heap[w.heap.size]? = some (.cells (penA p) 80 (0, 0))) := heap_alloc_new _ _
  clear hpt hl2 hw hr
  go_enter Tryz.func102, Tryz.ntmps102
  go_wp2_with (first | (go_at_call 167; refine (s2 _ h1).mono ?_; rintro e w2 ⟨rfl, h2, c2⟩) | (go_at_call 167; refine (s1 _ HR.out).mono ?_; rintro e w1 ⟨rfl, h1, c1⟩; clear HR) | (refine wp_pload _ rfl (.tmp 9) rfl w.heap.size p rfl 80 (0, 0) ((c2.block _ (by have := c1.size; simp at this; omega) (by omega)).trans ((c1.block _ (by simp) (by omega)).trans HP.out)) ?_) | (refine wp_cstore _ rfl (.tmp 23) (.tmp 22) rfl g (a * 7) a q ⟨c, p, 0⟩ rfl rfl _ rfl rfl h2 (by rw [HL.out]; omega) ?_))
  intro u3 h3 c3 z3
  have HR3 : Hid (RowAt u3 g (q.set a ⟨c, p, 0⟩)) := h3
  have HC3 : Hid (Ch (· = g) w u3) := ((HC.out.trans c1).trans c2).trans c3
  clear h3 h2 h1 c1 c2 c3 z3 HC HP s1 s2
  rcases HW.out with rfl | rfl
  · go_wp2_with fail
    go_end0
    exact ⟨rfl, by rw [HX.out]; exact HR3.out, HC3.out⟩
  · have hql : q.length = r.length := HL.out
    have e1 : (rowV (q.set a ⟨c, p, 0⟩)).set (a * 7 + 6) (.int .i64 1) = rowV (q.set a ⟨c, p, 1⟩) := by
      rw [rowV_part (q.set a ⟨c, p, 0⟩) a ⟨c, p, 0⟩ 1 (by rw [List.getElem?_set, if_pos rfl, if_pos (by omega)]), List.set_set]
    have E1 : Hid _ := e1
    have i2 : (a : Int) + 1 < (r.length : Int) := by omega
    have w2' : IntKind.i64.wrap ((a : Int) + 1) = (a : Int) + 1 := IntWalk.i64_in _ (by omega)
    clear e1 hql w1'
    go_wp2_with (refine wp_bset _ rfl 3 info3s (.tmp 29) _ rfl g (a * 7 + 6) (rowV (q.set a ⟨c, p, 0⟩)) _ (.int .i64 1) (by rw [rowV_length, List.length_set, HL.out]; omega) rfl rfl rfl rfl E1.out 101 HR3.out ?_)
    intro u4 h4 c4 z4
    have HR4 : Hid (RowAt u4 g (q.set a ⟨c, p, 1⟩)) := h4
    have HC4 : Hid (Ch (· = g) w u4) := HC3.out.trans c4
    clear h4 c4 z4 HR3 HC3 E1
    go_wp2_with (first | (refine wp_cload _ rfl (.tmp 35) rfl g (a * 7) a (q.set a ⟨c, p, 1⟩) ⟨c, p, 1⟩ rfl rfl HR4.out (by rw [List.getElem?_set, if_pos rfl, if_pos (by rw [HL.out]; omega)]) ?_) | (go_at_call 169; refine (tail_any ⟨c, p, 1⟩ _).mono ?_; rintro e w5 ⟨rfl, b5⟩) | (refine wp_cstore _ rfl (.tmp 38) (.tmp 37) rfl g ((a + 1) * 7) (a + 1) (q.set a ⟨c, p, 1⟩) ⟨0, p, 2⟩ rfl rfl _ rfl rfl (HR4.out.kept (b5.block g HR4.out.lt)) (by rw [List.length_set, HL.out]; omega) ?_))
    intro u6 h6 c6 z6
    go_wp2_with fail
    go_end0
    exact ⟨rfl, by rw [HX.out]; exact h6, (HC4.out.trans (Ch.of_below b5)).trans c6⟩
end Go.Proofs.YtheibfffilomcaaGreatDoor
