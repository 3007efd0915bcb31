/- The walks of the machine of modes: visible characters; any character. -/
import Derived.Test.YtheibfffilomcaaGreatDoorMwe
namespace Go.Proofs.YtheibfffilomcaaGreatDoor
open Go.RowKit

set_option maxRecDepth 100000 in
set_option maxHeartbeats 1000000 in
theorem takeVis_walk (mb mo : Nat) (s : MS) (c : Int) (w : World) (h : MAt w mb mo s) (hs : s.ok) (hc0 : 32 ≤ c) (hc1 : c ≤ 10000000) :
    Calls Tryz.prog 54 #[.pointer (some ⟨mb, mo, none⟩), .int .i64 c] w fun e w' => e = .returned (.tuple #[.agg (intA (s.takeVis c).2.1), .bool (s.takeVis c).2.2]) ∧ MAt w' mb mo (s.takeVis c).1 ∧ Km mb mo w w' := by
  have hlt := h.lt
  have k0 : ∀ o, Km mb mo w (w.alloc o) := fun o => (Km.refl mb mo w).alloc o hlt
  have c0 := h.c0
  have hl21 := takeVis_len hs.len c
  rcases (show s.md = 0 ∨ s.md = 1 ∨ s.md = 2 ∨ s.md = 3 ∨ s.md = 4 ∨ s.md = 5 by have := hs.m0; have := hs.m5; omega) with hm | hm | hm | hm | hm | hm
  · have e : s.takeVis c = (s, [1, c, 0, 0, 0] ++ z16, true) := by simp [MS.takeVis, hm]
    have b0 : (s.md == 0) = true := by simp [hm]
    have b1 : (s.md == 1) = false := by simp [hm]
    have b2 : (s.md == 2) = false := by simp [hm]
    have b3 : (s.md == 3) = false := by simp [hm]
    have b4 : (s.md == 4) = false := by simp [hm]
    rw [e]
    clear e hl21 hm
    go_enter Tryz.func54, Tryz.ntmps54
    go_wp2_with (refine wp_eset _ rfl (.tmp 4) (.tmp 21) rfl w.heap.size noEv ([1, c, 0, 0, 0] ++ z16) rfl _ rfl rfl rfl 46 (heap_alloc_new w _) rfl ?_)
    intro v1 gv1 rv1 zv1
    have mv := (h.alloc _).own rv1 (by omega)
    have kv := (k0 _).own rv1 (Nat.le_refl _) hlt
    go_wp2_with fail
    exact end_ev Tryz.results54 rfl w v1 mb mo _ _ _ rfl rfl rfl gv1 mv kv
  · have e : s.takeVis c = s.takeEsc c := by simp [MS.takeVis, hm]
    rw [e] at hl21
    have b0 : (s.md == 0) = false := by simp [hm]
    have b1 : (s.md == 1) = true := by simp [hm]
    have b2 : (s.md == 2) = false := by simp [hm]
    have b3 : (s.md == 3) = false := by simp [hm]
    have b4 : (s.md == 4) = false := by simp [hm]
    rw [e]
    clear e hm
    obtain ⟨⟨S, EV, B⟩, hS⟩ : ∃ x, s.takeEsc c = x := ⟨_, rfl⟩
    have HS : Hid (s.takeEsc c = (S, EV, B)) := hS
    rw [hS] at hl21
    rw [hS]
    clear hS
    dsimp only at hl21 ⊢
    go_enter Tryz.func54, Tryz.ntmps54
    go_wp2_with fail
    refine (takeEsc_walk mb mo s c _ (h.alloc _) hc0).mono ?_
    rw [HS.out]
    rintro e u1 ⟨rfl, m1, k1⟩
    dsimp only at m1 ⊢
    have gu1 : u1.heap[w.heap.size]? = some (.cells (intA noEv) 46 (0, 0)) := (k1.block _ (by simp) (by omega)).trans (heap_alloc_new _ _)
    go_wp2_with (refine wp_eset _ rfl (.tmp 4) (.tmp 25) rfl w.heap.size noEv EV rfl _ rfl rfl hl21 46 gu1 rfl ?_)
    intro v1 gv1 rv1 zv1
    have mv := m1.own rv1 (by omega)
    have kv := ((k0 _).trans k1).own rv1 (Nat.le_refl _) hlt
    go_wp2_with fail
    exact end_ev Tryz.results54 rfl w v1 mb mo _ _ _ hl21 rfl rfl gv1 mv kv
  · have c1 := h.c1
    have b0 : (s.md == 0) = false := by simp [hm]
    have b1 : (s.md == 1) = false := by simp [hm]
    have b2 : (s.md == 2) = true := by simp [hm]
    have b3 : (s.md == 3) = false := by simp [hm]
    have b4 : (s.md == 4) = false := by simp [hm]
    cases hk : markN c with
    | true =>
      have e : s.takeVis c = (⟨3, c, s.ct, s.ps⟩, noEv, false) := by simp [MS.takeVis, hm, hk]
      rw [e]
      have HK : Hid (markN c = true) := hk
      clear e hl21 hm hk
      go_enter Tryz.func54, Tryz.ntmps54
      go_wp2_with (refine wp_mcell _ rfl 69 size58 (.tmp 29) _ rfl mb mo 0 (by omega) s ⟨3, s.mr, s.ct, s.ps⟩ 3 rfl rfl (h.alloc _) ((h.alloc _).setM 3) ?_)
      intro u1 m1 k1 z1
      go_wp2_with fail
      refine (mark2_is c true _ HK.out).mono ?_
      rintro e w1 ⟨rfl, rfl⟩
      go_wp2_with (refine wp_mcell _ rfl 3 size3 (.tmp 35) (.tmp 33) rfl mb mo 1 (by omega) ⟨3, s.mr, s.ct, s.ps⟩ ⟨3, c, s.ct, s.ps⟩ c rfl rfl m1 (m1.setR c) ?_)
      intro u2 m2 k2 z2
      have k12 := k1.trans k2
      have gu2 : u2.heap[w.heap.size]? = some (.cells (intA noEv) 46 (0, 0)) := (k12.block _ (by simp) (by omega)).trans (heap_alloc_new _ _)
      go_wp2_with (refine wp_eset _ rfl (.tmp 4) (.tmp 36) rfl w.heap.size noEv noEv rfl _ rfl rfl rfl 46 gu2 rfl ?_)
      intro v1 gv1 rv1 zv1
      have mv := m2.own rv1 (by omega)
      have kv := ((k0 _).trans k12).own rv1 (Nat.le_refl _) hlt
      go_wp2_with fail
      exact end_ev Tryz.results54 rfl w v1 mb mo _ _ _ rfl rfl rfl gv1 mv kv
    | false =>
      have e : s.takeVis c = MS.takeNum ⟨3, s.mr, s.ct, s.ps⟩ c := by simp [MS.takeVis, hm, hk]
      have hs3 := hs.third hm hs.r0 hs.r1
      have hct := hs.c2 (Or.inl hm)
      rw [e] at hl21
      rw [e]
      have HK : Hid (markN c = false) := hk
      clear e hm hk
      obtain ⟨⟨S, EV, B⟩, hS⟩ : ∃ x, MS.takeNum ⟨3, s.mr, s.ct, s.ps⟩ c = x := ⟨_, rfl⟩
      have HS : Hid (MS.takeNum ⟨3, s.mr, s.ct, s.ps⟩ c = (S, EV, B)) := hS
      rw [hS] at hl21
      rw [hS]
      clear hS
      dsimp only at hl21 ⊢
      go_enter Tryz.func54, Tryz.ntmps54
      go_wp2_with (refine wp_mcell _ rfl 69 size58 (.tmp 29) _ rfl mb mo 0 (by omega) s ⟨3, s.mr, s.ct, s.ps⟩ 3 rfl rfl (h.alloc _) ((h.alloc _).setM 3) ?_)
      intro u0 m0 kk0 z0
      go_wp2_with fail
      refine (mark2_is c false _ HK.out).mono ?_
      rintro e w1 ⟨rfl, rfl⟩
      go_wp2_with fail
      refine (takeNum_walk mb mo ⟨3, s.mr, s.ct, s.ps⟩ c _ m0 hs3 (by omega) hc1 hct).mono ?_
      rw [HS.out]
      rintro e u1 ⟨rfl, m1, kk1⟩
      dsimp only at m1 ⊢
      have k1 := kk0.trans kk1
      have gu1 : u1.heap[w.heap.size]? = some (.cells (intA noEv) 46 (0, 0)) := (k1.block _ (by simp) (by omega)).trans (heap_alloc_new _ _)
      go_wp2_with (refine wp_eset _ rfl (.tmp 4) (.tmp 40) rfl w.heap.size noEv EV rfl _ rfl rfl hl21 46 gu1 rfl ?_)
      intro v1 gv1 rv1 zv1
      have mv := m1.own rv1 (by omega)
      have kv := ((k0 _).trans k1).own rv1 (Nat.le_refl _) hlt
      go_wp2_with fail
      exact end_ev Tryz.results54 rfl w v1 mb mo _ _ _ hl21 rfl rfl gv1 mv kv
  · have e : s.takeVis c = s.takeNum c := by simp [MS.takeVis, hm]
    have hct := hs.c2 (Or.inr hm)
    rw [e] at hl21
    have b0 : (s.md == 0) = false := by simp [hm]
    have b1 : (s.md == 1) = false := by simp [hm]
    have b2 : (s.md == 2) = false := by simp [hm]
    have b3 : (s.md == 3) = true := by simp [hm]
    have b4 : (s.md == 4) = false := by simp [hm]
    rw [e]
    clear e hm
    obtain ⟨⟨S, EV, B⟩, hS⟩ : ∃ x, s.takeNum c = x := ⟨_, rfl⟩
    have HS : Hid (s.takeNum c = (S, EV, B)) := hS
    rw [hS] at hl21
    rw [hS]
    clear hS
    dsimp only at hl21 ⊢
    go_enter Tryz.func54, Tryz.ntmps54
    go_wp2_with fail
    refine (takeNum_walk mb mo s c _ (h.alloc _) hs (by omega) hc1 hct).mono ?_
    rw [HS.out]
    rintro e u1 ⟨rfl, m1, k1⟩
    dsimp only at m1 ⊢
    have gu1 : u1.heap[w.heap.size]? = some (.cells (intA noEv) 46 (0, 0)) := (k1.block _ (by simp) (by omega)).trans (heap_alloc_new _ _)
    go_wp2_with (refine wp_eset _ rfl (.tmp 4) (.tmp 40) rfl w.heap.size noEv EV rfl _ rfl rfl hl21 46 gu1 rfl ?_)
    intro v1 gv1 rv1 zv1
    have mv := m1.own rv1 (by omega)
    have kv := ((k0 _).trans k1).own rv1 (Nat.le_refl _) hlt
    go_wp2_with fail
    exact end_ev Tryz.results54 rfl w v1 mb mo _ _ _ hl21 rfl rfl gv1 mv kv
  ·
    have b0 : (s.md == 0) = false := by simp [hm]
    have b1 : (s.md == 1) = false := by simp [hm]
    have b2 : (s.md == 2) = false := by simp [hm]
    have b3 : (s.md == 3) = false := by simp [hm]
    have b4 : (s.md == 4) = true := by simp [hm]
    cases hk : finalN c with
    | true =>
      have e : s.takeVis c = (.zero, noEv, false) := by simp [MS.takeVis, hm, hk]
      rw [e]
      have HK : Hid (finalN c = true) := hk
      clear e hl21 hm hk
      go_enter Tryz.func54, Tryz.ntmps54
      go_wp2_with fail
      refine (final_is c true _ HK.out).mono ?_
      rintro e w1 ⟨rfl, rfl⟩
      go_wp2_with (refine wp_mset _ rfl (.tmp 46) (.tmp 45) rfl mb mo _ .zero rfl _ rfl rfl z16_length (h.alloc _) ?_)
      intro u1 m1 k1 z1
      have gu1 : u1.heap[w.heap.size]? = some (.cells (intA noEv) 46 (0, 0)) := (k1.block _ (by simp) (by omega)).trans (heap_alloc_new _ _)
      go_wp2_with (refine wp_eset _ rfl (.tmp 4) (.tmp 47) rfl w.heap.size noEv noEv rfl _ rfl rfl rfl 46 gu1 rfl ?_)
      intro v1 gv1 rv1 zv1
      have mv := m1.own rv1 (by omega)
      have kv := ((k0 _).trans k1).own rv1 (Nat.le_refl _) hlt
      go_wp2_with fail
      exact end_ev Tryz.results54 rfl w v1 mb mo _ _ _ rfl rfl rfl gv1 mv kv
    | false =>
      have e : s.takeVis c = (s, noEv, false) := by simp [MS.takeVis, hm, hk]
      rw [e]
      have HK : Hid (finalN c = false) := hk
      clear e hl21 hm hk
      go_enter Tryz.func54, Tryz.ntmps54
      go_wp2_with fail
      refine (final_is c false _ HK.out).mono ?_
      rintro e w1 ⟨rfl, rfl⟩
      go_wp2_with (refine wp_eset _ rfl (.tmp 4) (.tmp 47) rfl w.heap.size noEv noEv rfl _ rfl rfl rfl 46 (heap_alloc_new w _) rfl ?_)
      intro v1 gv1 rv1 zv1
      have mv := (h.alloc _).own rv1 (by omega)
      have kv := (k0 _).own rv1 (Nat.le_refl _) hlt
      go_wp2_with fail
      exact end_ev Tryz.results54 rfl w v1 mb mo _ _ _ rfl rfl rfl gv1 mv kv
  · have e : s.takeVis c = (s, noEv, false) := by simp [MS.takeVis, hm]
    have b0 : (s.md == 0) = false := by simp [hm]
    have b1 : (s.md == 1) = false := by simp [hm]
    have b2 : (s.md == 2) = false := by simp [hm]
    have b3 : (s.md == 3) = false := by simp [hm]
    have b4 : (s.md == 4) = false := by simp [hm]
    rw [e]
    clear e hl21 hm
    go_enter Tryz.func54, Tryz.ntmps54
    go_wp2_with (refine wp_eset _ rfl (.tmp 4) (.tmp 47) rfl w.heap.size noEv noEv rfl _ rfl rfl rfl 46 (heap_alloc_new w _) rfl ?_)
    intro v1 gv1 rv1 zv1
    have mv := (h.alloc _).own rv1 (by omega)
    have kv := (k0 _).own rv1 (Nat.le_refl _) hlt
    go_wp2_with fail
    exact end_ev Tryz.results54 rfl w v1 mb mo _ _ _ rfl rfl rfl gv1 mv kv

set_option maxRecDepth 100000 in
set_option maxHeartbeats 1000000 in
theorem take_walk (mb mo : Nat) (s : MS) (c : Int) (w : World) (h : MAt w mb mo s) (hs : s.ok) (hc0 : 0 ≤ c) (hc1 : c ≤ 10000000) :
    Calls Tryz.prog 26 #[.pointer (some ⟨mb, mo, none⟩), .int .i64 c] w fun e w' => e = .returned (.tuple #[.agg (intA (s.take c).2.1), .bool (s.take c).2.2]) ∧ MAt w' mb mo (s.take c).1 ∧ Km mb mo w w' := by
  have hlt := h.lt
  have k0 : ∀ o, Km mb mo w (w.alloc o) := fun o => (Km.refl mb mo w).alloc o hlt
  have c0 := h.c0
  rcases (show c = 24 ∨ c = 26 ∨ c = 27 ∨ (c ≠ 24 ∧ c ≠ 26 ∧ c ≠ 27) by omega) with hv | hv | hv | ⟨n1, n2, n3⟩
  · have e : s.take c = (.zero, noEv, false) := by simp [MS.take, hv]
    rw [e]; clear e
    subst hv
    go_enter Tryz.func26, Tryz.ntmps26
    go_wp2_with (refine wp_mset _ rfl (.tmp 15) (.tmp 14) rfl mb mo _ .zero rfl _ rfl rfl z16_length (h.alloc _) ?_)
    intro u1 m1 k1 z1
    have gu1 : u1.heap[w.heap.size]? = some (.cells (intA noEv) 46 (0, 0)) := (k1.block _ (by simp) (by omega)).trans (heap_alloc_new _ _)
    go_wp2_with (refine wp_eset _ rfl (.tmp 4) (.tmp 44) rfl w.heap.size noEv noEv rfl _ rfl rfl rfl 46 gu1 rfl ?_)
    intro v1 gv1 rv1 zv1
    have mv := m1.own rv1 (by omega)
    have kv := ((k0 _).trans k1).own rv1 (Nat.le_refl _) hlt
    go_wp2_with fail
    exact end_ev Tryz.results26 rfl w v1 mb mo _ _ _ rfl rfl rfl gv1 mv kv
  · have e : s.take c = (.zero, noEv, false) := by simp [MS.take, hv]
    rw [e]; clear e
    subst hv
    go_enter Tryz.func26, Tryz.ntmps26
    go_wp2_with (refine wp_mset _ rfl (.tmp 15) (.tmp 14) rfl mb mo _ .zero rfl _ rfl rfl z16_length (h.alloc _) ?_)
    intro u1 m1 k1 z1
    have gu1 : u1.heap[w.heap.size]? = some (.cells (intA noEv) 46 (0, 0)) := (k1.block _ (by simp) (by omega)).trans (heap_alloc_new _ _)
    go_wp2_with (refine wp_eset _ rfl (.tmp 4) (.tmp 44) rfl w.heap.size noEv noEv rfl _ rfl rfl rfl 46 gu1 rfl ?_)
    intro v1 gv1 rv1 zv1
    have mv := m1.own rv1 (by omega)
    have kv := ((k0 _).trans k1).own rv1 (Nat.le_refl _) hlt
    go_wp2_with fail
    exact end_ev Tryz.results26 rfl w v1 mb mo _ _ _ rfl rfl rfl gv1 mv kv
  · have e : s.take c = (⟨1, 0, 0, z16⟩, noEv, false) := by simp [MS.take, hv]
    rw [e]; clear e
    subst hv
    go_enter Tryz.func26, Tryz.ntmps26
    go_wp2_with (refine wp_mset _ rfl (.tmp 21) (.tmp 20) rfl mb mo _ ⟨1, 0, 0, z16⟩ rfl _ rfl rfl z16_length (h.alloc _) ?_)
    intro u1 m1 k1 z1
    have gu1 : u1.heap[w.heap.size]? = some (.cells (intA noEv) 46 (0, 0)) := (k1.block _ (by simp) (by omega)).trans (heap_alloc_new _ _)
    go_wp2_with (refine wp_eset _ rfl (.tmp 4) (.tmp 44) rfl w.heap.size noEv noEv rfl _ rfl rfl rfl 46 gu1 rfl ?_)
    intro v1 gv1 rv1 zv1
    have mv := m1.own rv1 (by omega)
    have kv := ((k0 _).trans k1).own rv1 (Nat.le_refl _) hlt
    go_wp2_with fail
    exact end_ev Tryz.results26 rfl w v1 mb mo _ _ _ rfl rfl rfl gv1 mv kv
  · have d1 : (c == 24) = false := by simp [n1]
    have d2 : (c == 26) = false := by simp [n2]
    have d3 : (c == 27) = false := by simp [n3]
    by_cases hm : s.md = 5
    · have e : s.take c = (s.skip c, noEv, false) := by simp [MS.take, n1, n2, n3, hm]
      have b5 : (s.md == 5) = true := by simp [hm]
      rw [e]; clear e hm n1 n2 n3
      go_enter Tryz.func26, Tryz.ntmps26
      go_wp2_with fail
      refine (skip_walk mb mo s c _ (h.alloc _)).mono ?_
      rintro e u1 ⟨rfl, m1, k1⟩
      have gu1 : u1.heap[w.heap.size]? = some (.cells (intA noEv) 46 (0, 0)) := (k1.block _ (by simp) (by omega)).trans (heap_alloc_new _ _)
      go_wp2_with (refine wp_eset _ rfl (.tmp 4) (.tmp 44) rfl w.heap.size noEv noEv rfl _ rfl rfl rfl 46 gu1 rfl ?_)
      intro v1 gv1 rv1 zv1
      have mv := m1.own rv1 (by omega)
      have kv := ((k0 _).trans k1).own rv1 (Nat.le_refl _) hlt
      go_wp2_with fail
      exact end_ev Tryz.results26 rfl w v1 mb mo _ _ _ rfl rfl rfl gv1 mv kv
    · have b5 : (s.md == 5) = false := by simp [hm]
      by_cases h32 : c < 32
      · have e : s.take c = (s, [2, c, 0, 0, 0] ++ z16, true) := by simp [MS.take, n1, n2, n3, hm, h32]
        rw [e]; clear e hm n1 n2 n3
        go_enter Tryz.func26, Tryz.ntmps26
        go_wp2_with (refine wp_eset _ rfl (.tmp 4) (.tmp 35) rfl w.heap.size noEv ([2, c, 0, 0, 0] ++ z16) rfl _ rfl rfl rfl 46 (heap_alloc_new w _) rfl ?_)
        intro v1 gv1 rv1 zv1
        have mv := (h.alloc _).own rv1 (by omega)
        have kv := (k0 _).own rv1 (Nat.le_refl _) hlt
        go_wp2_with fail
        exact end_ev Tryz.results26 rfl w v1 mb mo _ _ _ rfl rfl rfl gv1 mv kv
      · by_cases h127 : c = 127
        · have e : s.take c = (s, noEv, false) := by simp [MS.take, hm, h127]
          rw [e]; clear e hm n1 n2 n3 d1 d2 d3
          subst h127
          go_enter Tryz.func26, Tryz.ntmps26
          go_wp2_with (refine wp_eset _ rfl (.tmp 4) (.tmp 44) rfl w.heap.size noEv noEv rfl _ rfl rfl rfl 46 (heap_alloc_new w _) rfl ?_)
          intro v1 gv1 rv1 zv1
          have mv := (h.alloc _).own rv1 (by omega)
          have kv := (k0 _).own rv1 (Nat.le_refl _) hlt
          go_wp2_with fail
          exact end_ev Tryz.results26 rfl w v1 mb mo _ _ _ rfl rfl rfl gv1 mv kv
        · have e : s.take c = s.takeVis c := by simp [MS.take, n1, n2, n3, hm, h32, h127]
          have hl21 := takeVis_len hs.len c
          have d4 : (c != 127) = true := by simp [h127]
          rw [e]; clear e hm n1 n2 n3 h127
          obtain ⟨⟨S, EV, B⟩, hS⟩ : ∃ x, s.takeVis c = x := ⟨_, rfl⟩
          have HS : Hid (s.takeVis c = (S, EV, B)) := hS
          rw [hS] at hl21
          rw [hS]
          clear hS
          dsimp only at hl21 ⊢
          go_enter Tryz.func26, Tryz.ntmps26
          go_wp2_with fail
          refine (takeVis_walk mb mo s c _ (h.alloc _) hs (by omega) hc1).mono ?_
          rw [HS.out]
          rintro e u1 ⟨rfl, m1, k1⟩
          dsimp only at m1 ⊢
          have gu1 : u1.heap[w.heap.size]? = some (.cells (intA noEv) 46 (0, 0)) := (k1.block _ (by simp) (by omega)).trans (heap_alloc_new _ _)
          go_wp2_with (refine wp_eset _ rfl (.tmp 4) (.tmp 42) rfl w.heap.size noEv EV rfl _ rfl rfl hl21 46 gu1 rfl ?_)
          intro v1 gv1 rv1 zv1
          have mv := m1.own rv1 (by omega)
          have kv := ((k0 _).trans k1).own rv1 (Nat.le_refl _) hlt
          go_wp2_with fail
          exact end_ev Tryz.results26 rfl w v1 mb mo _ _ _ hl21 rfl rfl gv1 mv kv

end Go.Proofs.YtheibfffilomcaaGreatDoor
