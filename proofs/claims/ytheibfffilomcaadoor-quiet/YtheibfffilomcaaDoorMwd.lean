/- The walks of the machine of modes: a character taken. -/
import Derived.Test.YtheibfffilomcaaDoorMwc
namespace Go.Proofs.YtheibfffilomcaaDoor
open Go.RowKit

theorem end_ev {fn : Func} {a : Act} {p q : Tmp} (hres : fn.results = #[.cell p 75, .tmp q]) (hd : a.defers = []) (w u : World) (mb mo : Nat) (s' : MS) (ev : List Int) (b : Bool) (hev : ev.length = 21)
    (hp : a.tmps.getD p undef = .pointer (some ⟨w.heap.size, 0, none⟩)) (hq : a.tmps.getD q undef = .bool b) (hg : u.heap[w.heap.size]? = some (.cells (intA ev) 75 (0, 0))) (hm : MAt u mb mo s') (hk : Km mb mo w u) :
    bodyPost Tryd.prog fn (fun e w' => e = .returned (.tuple #[.agg (intA ev), .bool b]) ∧ MAt w' mb mo s' ∧ Km mb mo w w') .ret a u :=
  bodyPost_ret (results_ev hres a.tmps u w.heap.size ev hev 75 (0, 0) hp hg) hd ⟨by rw [hq], hm, hk⟩

theorem takeNum_len {s : MS} (h : s.ps.length = 16) (c : Int) : (s.takeNum c).2.1.length = 21 := by
  unfold MS.takeNum
  repeat' split
  all_goals first | rfl | simp [MS.seqEv, h]
theorem takeEsc_len (s : MS) (c : Int) : (s.takeEsc c).2.1.length = 21 := by
  unfold MS.takeEsc
  repeat' split
  all_goals rfl
theorem takeVis_len {s : MS} (h : s.ps.length = 16) (c : Int) : (s.takeVis c).2.1.length = 21 := by
  unfold MS.takeVis
  repeat' split
  all_goals first | rfl | exact takeEsc_len s c | exact takeNum_len h c | exact takeNum_len (s := ⟨3, s.mr, s.ct, s.ps⟩) h c
theorem take_len2 {s : MS} (h : s.ps.length = 16) (c : Int) : (s.take c).2.1.length = 21 := by
  unfold MS.take
  repeat' split
  all_goals first | rfl | exact takeVis_len h c

set_option maxRecDepth 100000 in
set_option maxHeartbeats 1000000 in
theorem takeNum_walk (mb mo : Nat) (s : MS) (c : Int) (w : World) (h : MAt w mb mo s) (hs : s.ok) (hc0 : 0 ≤ c) (hc1 : c ≤ 10000000) (h1 : 1 ≤ s.ct) :
    Calls Tryd.prog 72 #[.pointer (some ⟨mb, mo, none⟩), .int .i64 c] w fun e w' => e = .returned (.tuple #[.agg (intA (s.takeNum c).2.1), .bool (s.takeNum c).2.2]) ∧ MAt w' mb mo (s.takeNum c).1 ∧ Km mb mo w w' := by
  have hlt := h.lt
  have k0 : ∀ o, Km mb mo w (w.alloc o) := fun o => (Km.refl mb mo w).alloc o hlt
  by_cases hd : 48 ≤ c ∧ c ≤ 57
  · obtain ⟨hd0, hd1⟩ := hd
    have e : s.takeNum c = (s.joinDig (c - 48), noEv, false) := by simp [MS.takeNum, hd0, hd1]
    rw [e]; clear e
    go_enter Tryd.func72, Tryd.ntmps72
    go_wp2_with fail
    refine (joinDig_walk mb mo s (c - 48) _ (h.alloc _) hs h1 (by omega) (by omega)).mono ?_
    rintro e u1 ⟨rfl, mu1, ku1⟩
    have gu1 : u1.heap[w.heap.size]? = some (.cells (intA noEv) 75 (0, 0)) := (ku1.block _ (by simp) (by omega)).trans (heap_alloc_new _ _)
    go_wp2_with (refine wp_eset _ rfl (.tmp 4) (.tmp 36) rfl w.heap.size noEv noEv rfl _ rfl ?q1 rfl 75 gu1 rfl ?_)
    case q1 => rfl
    intro u2 gu2 ru2 zu2
    have mu2 := mu1.own ru2 (by omega)
    have ku2 := ((k0 _).trans ku1).own ru2 (Nat.le_refl _) hlt
    go_wp2_with fail
    exact end_ev Tryd.results72 rfl w u2 mb mo _ _ _ rfl rfl rfl gu2 (mu2) (ku2)
  · have hdd : (decide (48 ≤ c) && decide (c ≤ 57)) = false := by
      by_cases a : 48 ≤ c
      · have : ¬ c ≤ 57 := fun b => hd ⟨a, b⟩
        simp [this]
      · simp [a]
    have hnd : c < 48 ∨ 57 < c := by omega
    by_cases h59 : c = 59
    · have e : s.takeNum c = (s.begNum, noEv, false) := by simp [MS.takeNum, h59]
      rw [e]; clear e hd hdd hnd
      subst h59
      go_enter Tryd.func72, Tryd.ntmps72
      go_wp2_with fail
      refine (begNum_walk mb mo s _ (h.alloc _) hs.c0 hs.c1).mono ?_
      rintro e u1 ⟨rfl, mu1, ku1⟩
      have gu1 : u1.heap[w.heap.size]? = some (.cells (intA noEv) 75 (0, 0)) := (ku1.block _ (by simp) (by omega)).trans (heap_alloc_new _ _)
      go_wp2_with (refine wp_eset _ rfl (.tmp 4) (.tmp 36) rfl w.heap.size noEv noEv rfl _ rfl ?q2 rfl 75 gu1 rfl ?_)
      case q2 => rfl
      intro u2 gu2 ru2 zu2
      have mu2 := mu1.own ru2 (by omega)
      have ku2 := ((k0 _).trans ku1).own ru2 (Nat.le_refl _) hlt
      go_wp2_with fail
      exact end_ev Tryd.results72 rfl w u2 mb mo _ _ _ rfl rfl rfl gu2 (mu2) (ku2)
    · have b59 : (c == 59) = false := by simp [h59]
      cases hf : finalN c with
      | true =>
        have e : s.takeNum c = (.zero, s.seqEv c, true) := by unfold MS.takeNum; rw [if_neg hd, if_neg h59, if_pos hf]
        rw [e]
        have HF : Hid (finalN c = true) := hf
        have hl21 : (s.seqEv c).length = 21 := by simp [MS.seqEv, hs.len]
        clear e hd hf h59
        rcases hnd with hnd | hnd
        all_goals
          go_enter Tryd.func72, Tryd.ntmps72
          go_wp2_with fail
          refine (final_is c true _ HF.out).mono ?_
          rintro e w1 ⟨rfl, rfl⟩
          go_wp2_with fail
          refine (seqEv_walk mb mo s c _ (h.alloc _) hs h1).mono ?_
          rintro e u1 ⟨rfl, b1⟩
          have hz1 : w.heap.size < u1.heap.size := by have := b1.size; simp at this; omega
          have m1 : MAt u1 mb mo s := (h.alloc _).kept (b1.block mb (by simp; omega))
          have g1 : u1.heap[w.heap.size]? = some (.cells (intA noEv) 75 (0, 0)) := (b1.block w.heap.size (by simp)).trans (heap_alloc_new _ _)
          have k1 : Km mb mo w u1 := (k0 _).trans (Km.of_below b1 (by simp; omega))
          clear b1
          go_wp2_with (refine wp_eset _ rfl (.tmp 6) (.tmp 31) rfl u1.heap.size noEv (s.seqEv c) rfl _ rfl rfl hl21 75 (heap_alloc_new u1 _) rfl ?_)
          intro u2 gu2 ru2 zu2
          have m2 := (m1.alloc _).own ru2 (by omega)
          have g2 := (ru2.block w.heap.size (by simp; omega) (by simp; omega)).trans ((Below.heap_alloc u1 _ _ hz1).trans g1)
          have k2 := (k1.alloc _ hlt).own ru2 (by omega) hlt
          have hz2 : u1.heap.size < u2.heap.size := by have := ru2.size; simp at this; omega
          clear m1 g1 k1 ru2
          go_wp2_with (refine wp_mset _ rfl (.tmp 34) (.tmp 33) rfl mb mo s .zero rfl _ rfl rfl z16_length m2 ?_)
          intro u3 m3 k3 z3
          have g3 := (k3.block w.heap.size (by omega) (by omega)).trans g2
          have ge3 := (k3.block u1.heap.size (by omega) (by omega)).trans gu2
          have kk3 := k2.trans k3
          clear m2 g2 k2 k3 gu2
          go_wp2_with (first | (refine wp_eload _ rfl (.tmp 6) rfl u1.heap.size (s.seqEv c) rfl hl21 75 (0, 0) ge3 ?_) | (refine wp_eset _ rfl (.tmp 4) (.tmp 35) rfl w.heap.size noEv (s.seqEv c) rfl _ rfl rfl hl21 75 g3 rfl ?_; intro u4 gu4 ru4 zu4))
          have mu4 := m3.own (‹World.grownBy u3 _ (some w.heap.size)›) (by omega)
          have ku4 := kk3.own (‹World.grownBy u3 _ (some w.heap.size)›) (Nat.le_refl _) hlt
          exact end_ev Tryd.results72 rfl w _ mb mo _ _ _ hl21 rfl rfl ‹_› mu4 ku4
      | false =>
        have e : s.takeNum c = (⟨4, 0, 0, z16⟩, noEv, false) := by unfold MS.takeNum; rw [if_neg hd, if_neg h59, if_neg (by simp [hf])]
        rw [e]
        have HF : Hid (finalN c = false) := hf
        clear e hd hf h59
        rcases hnd with hnd | hnd
        all_goals
          go_enter Tryd.func72, Tryd.ntmps72
          go_wp2_with fail
          refine (final_is c false _ HF.out).mono ?_
          rintro e w1 ⟨rfl, rfl⟩
          go_wp2_with (refine wp_mset _ rfl (.tmp 9) (.tmp 8) rfl mb mo s ⟨4, 0, 0, z16⟩ rfl _ rfl rfl z16_length (h.alloc _) ?_)
          intro u1 m1 k1 z1
          have g1 : u1.heap[w.heap.size]? = some (.cells (intA noEv) 75 (0, 0)) := (k1.block _ (by simp) (by omega)).trans (heap_alloc_new _ _)
          have kk1 := (k0 _).trans k1
          clear k1
          go_wp2_with (refine wp_eset _ rfl (.tmp 4) (.tmp 36) rfl w.heap.size noEv noEv rfl _ rfl rfl rfl 75 g1 rfl ?_)
          intro u2 gu2 ru2 zu2
          have mu2 := m1.own ru2 (by omega)
          have ku2 := kk1.own ru2 (Nat.le_refl _) hlt
          go_wp2_with fail
          exact end_ev Tryd.results72 rfl w u2 mb mo _ _ _ rfl rfl rfl gu2 mu2 ku2

end Go.Proofs.YtheibfffilomcaaDoor
