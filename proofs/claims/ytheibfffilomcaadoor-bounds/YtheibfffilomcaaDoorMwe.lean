/- The walks of the machine of modes: behind ESC; visible characters; any character. -/
import Derived.Test.YtheibfffilomcaaDoorMwd
namespace Go.Proofs.YtheibfffilomcaaDoor
open Go.RowKit

/-- One of the machine's cells written. -/
theorem wp_mcell {ops : Array Oper} {rest : List Oper} {o : Oper} {a : Act} {Q : Exit → Act → World → Prop} (u : World) (hgd : o.guard = none) (ty : TypeId) (hsz : (Tryd.prog.info? ty).map (·.size) = some 1) (x y : Operand) (ho : o.op = .store ty x y) (mb mo j : Nat) (hj : j < 19) (s s' : MS) (c : Int)
    (hx : a.eval x = .pointer (some ⟨mb, mo + j, none⟩)) (hy : a.eval y = .int .i64 c) (hm : MAt u mb mo s) (hm' : MAt (u.setCell ⟨mb, mo + j, none⟩ (.int .i64 c)) mb mo s')
    (h : ∀ u', MAt u' mb mo s' → Km mb mo u u' → u'.heap.size = u.heap.size → wpList Tryd.prog ops Q rest (a.put o.dst undef) u') : wpList Tryd.prog ops Q (o :: rest) a u := by
  have hc := hm.at j hj
  have hf := hm.fr j hj
  refine wpList_plain hgd fun K hK => ?_
  have R := hK _ _ (h _ hm' (Km.set j _ hj) (by simp [World.setCell]))
  have hs : (sizeOf ty).run Tryd.prog u = .ok 1 u := by
    cases hq : Tryd.prog.info? ty with
    | none => simp [hq] at hsz
    | some i =>
      have : i.size = 1 := by simpa [hq] using hsz
      simp [sizeOf, typeInfo, hq, this]
  unfold Oper.wp execOp
  simp only [ho, hx, hy]
  go_simp
  exact R

theorem size3 : (Tryd.prog.info? 3).map (·.size) = some 1 := by kernel_rfl
theorem size58 : (Tryd.prog.info? 83).map (·.size) = some 1 := by kernel_rfl
theorem heap2 (w : World) (a b : Obj) : ((w.alloc a).alloc b).heap[w.heap.size]? = some a ∧ ((w.alloc a).alloc b).heap[w.heap.size + 1]? = some b := by
  have z1 : (w.alloc a).heap.size = w.heap.size + 1 := by simp
  exact ⟨(Below.heap_alloc _ b _ (by omega)).trans (heap_alloc_new w a), z1 ▸ heap_alloc_new (w.alloc a) b⟩

set_option maxRecDepth 100000 in
set_option maxHeartbeats 1000000 in
theorem takeEsc_walk (mb mo : Nat) (s : MS) (c : Int) (w : World) (h : MAt w mb mo s) (hc0 : 32 ≤ c) :
    Calls Tryd.prog 70 #[.pointer (some ⟨mb, mo, none⟩), .int .i64 c] w fun e w' => e = .returned (.tuple #[.agg (intA (s.takeEsc c).2.1), .bool (s.takeEsc c).2.2]) ∧ MAt w' mb mo (s.takeEsc c).1 ∧ Km mb mo w w' := by
  have hlt := h.lt
  have k0 : ∀ o, Km mb mo w (w.alloc o) := fun o => (Km.refl mb mo w).alloc o hlt
  by_cases h91 : c = 91
  · have e : s.takeEsc c = (MS.begNum ⟨2, 0, 0, z16⟩, noEv, false) := by simp [MS.takeEsc, h91]
    rw [e]; clear e
    subst h91
    go_enter Tryd.func70, Tryd.ntmps70
    go_wp2_with (refine wp_mset _ rfl (.tmp 15) (.tmp 14) rfl mb mo _ ⟨2, 0, 0, z16⟩ rfl _ rfl rfl z16_length (h.alloc _) ?_)
    intro u1 m1 k1 z1
    go_wp2_with fail
    refine (begNum_walk mb mo ⟨2, 0, 0, z16⟩ _ m1 (by decide) (by decide)).mono ?_
    rintro e u2 ⟨rfl, m2, k2⟩
    have k12 := k1.trans k2
    have gu2 : u2.heap[w.heap.size]? = some (.cells (intA noEv) 75 (0, 0)) := (k12.block _ (by simp) (by omega)).trans (heap_alloc_new _ _)
    go_wp2_with (refine wp_eset _ rfl (.tmp 4) (.tmp 44) rfl w.heap.size noEv noEv rfl _ rfl rfl rfl 75 gu2 rfl ?_)
    intro v1 gv1 rv1 zv1
    have mv := m2.own rv1 (by omega)
    have kv := ((k0 _).trans k12).own rv1 (Nat.le_refl _) hlt
    go_wp2_with fail
    exact end_ev Tryd.results70 rfl w v1 mb mo _ _ _ rfl rfl rfl gv1 mv kv
  · have b91 : (c == 91) = false := by simp [h91]
    cases ht : textN c with
    | true =>
      have e : s.takeEsc c = (⟨5, 0, 0, z16⟩, noEv, false) := by unfold MS.takeEsc; rw [if_neg h91, if_pos ht]
      rw [e]
      have HT : Hid (textN c = true) := ht
      clear e ht h91
      go_enter Tryd.func70, Tryd.ntmps70
      go_wp2_with fail
      refine (text_is c true _ HT.out).mono ?_
      rintro e w1 ⟨rfl, rfl⟩
      go_wp2_with (refine wp_mset _ rfl (.tmp 23) (.tmp 22) rfl mb mo _ ⟨5, 0, 0, z16⟩ rfl _ rfl rfl z16_length (h.alloc _) ?_)
      intro u1 m1 k1 z1
      have gu1 : u1.heap[w.heap.size]? = some (.cells (intA noEv) 75 (0, 0)) := (k1.block _ (by simp) (by omega)).trans (heap_alloc_new _ _)
      go_wp2_with (refine wp_eset _ rfl (.tmp 4) (.tmp 44) rfl w.heap.size noEv noEv rfl _ rfl rfl rfl 75 gu1 rfl ?_)
      intro v1 gv1 rv1 zv1
      have mv := m1.own rv1 (by omega)
      have kv := ((k0 _).trans k1).own rv1 (Nat.le_refl _) hlt
      go_wp2_with fail
      exact end_ev Tryd.results70 rfl w v1 mb mo _ _ _ rfl rfl rfl gv1 mv kv
    | false =>
      have HT : Hid (textN c = false) := ht
      by_cases h47 : c ≤ 47
      · have e : s.takeEsc c = (⟨s.md, c, s.ct, s.ps⟩, noEv, false) := by unfold MS.takeEsc; rw [if_neg h91, if_neg (by simp [ht]), if_pos h47]
        rw [e]
        clear e ht h91
        go_enter Tryd.func70, Tryd.ntmps70
        go_wp2_with fail
        refine (text_is c false _ HT.out).mono ?_
        rintro e w1 ⟨rfl, rfl⟩
        go_wp2_with (refine wp_mcell _ rfl 3 size3 (.tmp 30) (.tmp 28) rfl mb mo 1 (by omega) s ⟨s.md, c, s.ct, s.ps⟩ c rfl rfl (h.alloc _) ((h.alloc _).setR c) ?_)
        intro u1 m1 k1 z1
        have gu1 : u1.heap[w.heap.size]? = some (.cells (intA noEv) 75 (0, 0)) := (k1.block _ (by simp) (by omega)).trans (heap_alloc_new _ _)
        go_wp2_with (refine wp_eset _ rfl (.tmp 4) (.tmp 44) rfl w.heap.size noEv noEv rfl _ rfl rfl rfl 75 gu1 rfl ?_)
        intro v1 gv1 rv1 zv1
        have mv := m1.own rv1 (by omega)
        have kv := ((k0 _).trans k1).own rv1 (Nat.le_refl _) hlt
        go_wp2_with fail
        exact end_ev Tryd.results70 rfl w v1 mb mo _ _ _ rfl rfl rfl gv1 mv kv
      · by_cases h126 : c ≤ 126
        · have e : s.takeEsc c = (.zero, [3, 0, s.mr, c, 0] ++ z16, true) := by unfold MS.takeEsc; rw [if_neg h91, if_neg (by simp [ht]), if_neg h47, if_pos h126]
          rw [e]
          clear e ht h91
          have c1 := h.c1
          go_enter Tryd.func70, Tryd.ntmps70
          go_wp2_with fail
          refine (text_is c false _ HT.out).mono ?_
          rintro e w1 ⟨rfl, rfl⟩
          go_wp2_with (refine wp_eset _ rfl (.tmp 6) (.tmp 39) rfl (w.heap.size + 1) noEv ([3, 0, s.mr, c, 0] ++ z16) rfl _ rfl rfl rfl 75 (heap2 w _ _).2 rfl ?_)
          intro u0 gu0 ru0 zu0
          have m0 := ((h.alloc _).alloc _).own ru0 (by omega)
          have g0 := (ru0.block w.heap.size (by simp; omega) (by simp)).trans (heap2 w _ _).1
          have kk0 := ((k0 _).alloc _ hlt).own ru0 (by omega) hlt
          have zz0 : w.heap.size + 1 < u0.heap.size := by have := ru0.size; simp at this; omega
          clear ru0 c1
          go_wp2_with (refine wp_mset _ rfl (.tmp 42) (.tmp 41) rfl mb mo _ .zero rfl _ rfl rfl z16_length m0 ?_)
          intro u1 m1 k1 z1
          have gu1 := (k1.block w.heap.size (by omega) (by omega)).trans g0
          have ge1 := (k1.block (w.heap.size + 1) (by omega) (by omega)).trans gu0
          have kk1 := kk0.trans k1
          clear m0 g0 kk0 k1 gu0
          go_wp2_with (first | (refine wp_eload _ rfl (.tmp 6) rfl (w.heap.size + 1) ([3, 0, s.mr, c, 0] ++ z16) rfl rfl 75 (0, 0) ge1 ?_) | (refine wp_eset _ rfl (.tmp 4) (.tmp 43) rfl w.heap.size noEv ([3, 0, s.mr, c, 0] ++ z16) rfl _ rfl rfl rfl 75 gu1 rfl ?_; intro u4 gu4 ru4 zu4))
          have mu4 := m1.own (‹World.grownBy u1 _ (some w.heap.size)›) (by omega)
          have ku4 := kk1.own (‹World.grownBy u1 _ (some w.heap.size)›) (Nat.le_refl _) hlt
          exact end_ev Tryd.results70 rfl w _ mb mo _ _ _ rfl rfl rfl ‹_› mu4 ku4
        · have e : s.takeEsc c = (.zero, noEv, false) := by unfold MS.takeEsc; rw [if_neg h91, if_neg (by simp [ht]), if_neg h47, if_neg h126]
          rw [e]
          clear e ht h91
          go_enter Tryd.func70, Tryd.ntmps70
          go_wp2_with fail
          refine (text_is c false _ HT.out).mono ?_
          rintro e w1 ⟨rfl, rfl⟩
          go_wp2_with (refine wp_mset _ rfl (.tmp 9) (.tmp 8) rfl mb mo _ .zero rfl _ rfl rfl z16_length (h.alloc _) ?_)
          intro u1 m1 k1 z1
          have gu1 : u1.heap[w.heap.size]? = some (.cells (intA noEv) 75 (0, 0)) := (k1.block _ (by simp) (by omega)).trans (heap_alloc_new _ _)
          go_wp2_with (refine wp_eset _ rfl (.tmp 4) (.tmp 44) rfl w.heap.size noEv noEv rfl _ rfl rfl rfl 75 gu1 rfl ?_)
          intro v1 gv1 rv1 zv1
          have mv := m1.own rv1 (by omega)
          have kv := ((k0 _).trans k1).own rv1 (Nat.le_refl _) hlt
          go_wp2_with fail
          exact end_ev Tryd.results70 rfl w v1 mb mo _ _ _ rfl rfl rfl gv1 mv kv

end Go.Proofs.YtheibfffilomcaaDoor
