/- The walk that puts lists of events into the book. -/
import Derived.Test.YtheibfffilomcaaDoorEbk
namespace Go.Proofs.YtheibfffilomcaaDoor
open Go.RowKit

theorem evs_form {w : World} {b : Nat} {v : Value} {E : List (List Int)} (h : EvAt w b v E) : ∃ a c, v = .slice a E.length c := by
  rcases h.2 with ⟨rfl, h0⟩ | ⟨g, cap, cur, rfl, _⟩
  · exact ⟨none, 0, by rw [h0]⟩
  · exact ⟨_, cap, rfl⟩
theorem ev_some {w : World} {b k : Nat} {a : Option Addr} {c : Nat} {E : List (List Int)} (h : EvAt w b (.slice a E.length c) E) (hk : k < E.length) : ∃ g, a = some ⟨g, 0, none⟩ := by
  rcases h.2 with ⟨e, h0⟩ | ⟨g, cap, cur, e, _⟩
  · omega
  · cases e; exact ⟨g, rfl⟩

set_option maxRecDepth 100000 in
set_option maxHeartbeats 2000000 in
theorem ownsE_any (bb : Nat) (vi vm vl : Value) (E : List (Value × Int)) (nx : Int) (L : List (List Int)) (w : World) (h : EkAt w bb vi vm E nx) (own : EvAt w (bb + 1) vl L) (hL21 : ∀ e ∈ L, e.length = 21) (hL : L.length ≤ 50000000) (hE : E.length ≤ 500000000)
    (h0 : -2000000000 ≤ nx) (h1 : nx ≤ 0) (hEa : ∀ x ∈ E, Apart x.1 vl) :
    Calls Tryd.prog 36 #[.pointer (some ⟨bb, 0, none⟩), vl] w fun e w' => ∃ vi' vm' o1 o2 o3, e = .returned (.tuple #[]) ∧ EkAt w' bb vi' vm' (E ++ [(vl, nx - 1), (o1, nx - 1), (o2, nx - 1), (o3, nx - 1)]) (nx - 1) ∧
      Fr (fun g => g = bb ∨ some g = vi.ownBlock ∨ some g = vm.ownBlock ∨ some g = vl.ownBlock) w w' ∧
      (o1.ownBlock = vl.ownBlock ∨ ∃ k, o1.ownBlock = some k ∧ w.heap.size ≤ k) ∧ (o2.ownBlock = vl.ownBlock ∨ ∃ k, o2.ownBlock = some k ∧ w.heap.size ≤ k) ∧ (o3.ownBlock = vl.ownBlock ∨ ∃ k, o3.ownBlock = some k ∧ w.heap.size ≤ k) := by
  obtain ⟨ao, cap, rfl⟩ := evs_form own
  have f6 := h.f 6 (by omega)
  have hlt : bb < w.heap.size := h.lt
  have hbk : ∀ g, some g = (Value.slice ao L.length cap).ownBlock → bb + 1 ≤ g ∧ g < w.heap.size := fun g e => World.ownsRow.lt own g e.symm
  have hne : some bb ≠ (Value.slice ao L.length cap).ownBlock := fun e => by have := hbk bb e; omega
  have hvi : Apart vi (.slice ao L.length cap) := apart_types h.oi own (by decide)
  have hvm : Apart vm (.slice ao L.length cap) := apart_types h.om own (by decide)
  go_enter Tryd.func36, Tryd.ntmps36
  go_wp2_with fail
  refine (mark_any bb nx _ h.c6 f6 h0 h1).mono ?_
  rintro e w1 ⟨rfl, hw1⟩
  have B1 : EkAt w1 bb vi vm E (nx - 1) := hw1 ▸ h.set6 (nx - 1)
  have own1 : EvAt w1 (bb + 1) (.slice ao L.length cap) L := hw1 ▸ ownsRow_setCell_below own (by simp) _
  have F1 : Fr (fun g => g = bb ∨ some g = vi.ownBlock ∨ some g = vm.ownBlock ∨ some g = (Value.slice ao L.length cap).ownBlock) w w1 := hw1 ▸ Fr.set (Or.inl rfl)
  clear hw1
  generalize hm : nx - 1 = m at *
  have Hm : Hid (nx - 1 = m) := hm
  clear hm
  have hsz1 := F1.size
  go_wp2_with (refine wp_eset _ rfl (.tmp 5) (.tmp 14) rfl w1.heap.size noEv (evM m) rfl _ rfl rfl rfl 75 (heap_alloc_new w1 _) rfl ?_)
  intro w2 gX r2 z2
  have r2' : w1.grownBy w2 (some w1.heap.size) := grown_trans (World.grownBy_alloc w1 _ _) r2
  have own2 : EvAt w2 (bb + 1) (.slice ao L.length cap) L := own_new own1 r2' (Nat.le_refl _)
  have bw2 : Below w1.heap.size w1 w2 := (Below.refl _ _).grown r2' (Nat.le_refl _) (fun k e => by simp at e; omega)
  have B2 : EkAt w2 bb vi vm E m := B1.below bw2
  have F2 : Fr (fun g => g = bb ∨ some g = vi.ownBlock ∨ some g = vm.ownBlock ∨ some g = (Value.slice ao L.length cap).ownBlock) w w2 := F1.trans ⟨bw2.os, bw2.tape, bw2.output, bw2.size, fun g hg _ => bw2.block g hg⟩
  obtain ⟨gx, hgx⟩ : ∃ g, g = w1.heap.size := ⟨_, rfl⟩
  have hgx1 : w.heap.size ≤ gx := by omega
  rw [← hgx] at gX
  simp only [← hgx]
  clear B1 own1 F1 r2 r2' bw2 z2 hgx hsz1
  have hXn : some gx ≠ (Value.slice ao L.length cap).ownBlock := fun e => by have := hbk gx e; omega
  go_wp2_with fail
  go_loopw [6] (fun i wr => ∃ k : Nat, k ≤ L.length ∧ i = .int .i64 k ∧ EvAt wr (bb + 1) (.slice ao L.length cap) (List.replicate k (evM m) ++ L.drop k) ∧ wr.heap[gx]? = some (.cells (intA (evM m)) 75 (0, 0)) ∧ w2.grownBy wr (Value.slice ao L.length cap).ownBlock) (fun i _ => L.length - (intOf i).toNat)
  case atStart => exact ⟨0, Nat.zero_le _, rfl, own2, gX, grown_refl _ _⟩
  case round =>
    obtain ⟨k, hk, rfl, ownr, gXr, hgr⟩ := hrel
    have hll : (List.replicate k (evM m) ++ L.drop k).length = L.length := by simp; omega
    by_cases hlt : k < L.length
    · have hll21 : ∀ x ∈ List.replicate k (evM m) ++ L.drop k, x.length = 21 := fun x hx => by
        rcases List.mem_append.1 hx with hx | hx
        · exact flatE k m x hx
        · exact hL21 x (List.mem_of_mem_drop hx)
      obtain ⟨g, rfl⟩ := ev_some own hlt
      have ik : (k : Int) < (L.length : Int) := by omega
      have HO : Hid _ := ownr
      clear ownr
      go_wp2_with (first | (refine wp_eload _ rfl (.tmp 5) rfl gx (evM m) rfl rfl 75 (0, 0) gXr ?_) | (refine wp_evstore _ rfl (.tmp 24) (.tmp 23) rfl (bb + 1) g cap k (k * 21) L.length (List.replicate k (evM m) ++ L.drop k) (List.replicate (k + 1) (evM m) ++ L.drop (k + 1)) (evM m) rfl rfl rfl HO.out hll21 rfl hll hlt (filled_setE L (evM m) k hlt) ?_))
      intro u' ownu gru
      have gXu := (gru.block gx (Array.getElem?_eq_some_iff.1 gXr).1 hXn).trans gXr
      have G : w2.grownBy u' (Value.slice (some ⟨g, 0, none⟩) L.length cap).ownBlock := grown_trans hgr gru
      clear HO gXr hgr gru hll21 hll
      go_wp2_with fail
      go_roundw
      case rel => exact ⟨k + 1, by omega, by go_num, ownu, gXu, G⟩
      case measure => simp [intOf]; omega
    · have hkn : k = L.length := by omega
      subst hkn
      have ownr2 : EvAt wr (bb + 1) (.slice ao L.length cap) (List.replicate L.length (evM m)) := by simpa using ownr
      have B3 : EkAt wr bb vi vm E m := B2.grown hgr hne hvi hvm hEa
      have F3 : Fr (fun g => g = bb ∨ some g = vi.ownBlock ∨ some g = vm.ownBlock ∨ some g = (Value.slice ao L.length cap).ownBlock) w wr := F2.trans (Fr.grown hgr (fun g e => Or.inr (Or.inr (Or.inr e))))
      have hszr := F3.size
      clear ownr hll B2 own2 F2 hgr gX
      have hbr : bb + 1 ≤ wr.heap.size := by omega
      go_wp2_with (first | (refine wp_eload _ rfl (.tmp 5) rfl gx (evM m) rfl rfl 75 (0, 0) gXr ?_) | (refine wp_bs1 _ rfl (.tmp 26) rfl (evM m) rfl rfl ?_) | (at_builtin; refine wp_appE wr rfl _ _ rfl (bb + 1) _ (List.replicate L.length (evM m)) (List.replicate 1 (evM m)) _ ?b10 (flatE 1 m) (by simp) rfl ?b11 _ _ ?b12 ?b15 rfl ?b13 ?b14 ?_))
      try (case b10 => simp [List.replicate])
      try (case b11 => exact ownr2)
      try (case b12 => rfl)
      try (case b15 => simp)
      try (case b13 => simp; omega)
      try (case b14 => exact hbr)
      intro o1 u1 n1 g1 k1 p1
      have v1 := p1 (evM m) rfl (by simp) (by simp) _ _ _ ownr2
      have m1 : EvAt u1 (bb + 1) o1 (List.replicate (L.length + 1) (evM m)) := by rw [← List.replicate_append_replicate]; exact n1
      have B4 := B3.grown g1 hne hvi hvm hEa
      have F4 := F3.trans (Fr.grown g1 (fun g e => Or.inr (Or.inr (Or.inr e))))
      have gX1 := (g1.block gx (Array.getElem?_eq_some_iff.1 gXr).1 hXn).trans gXr
      have hb1 : bb + 1 ≤ u1.heap.size := by have := F4.size; omega
      have z1 : w.heap.size ≤ wr.heap.size := F3.size
      clear p1 n1 B3 gXr ownr2 
      go_wp2_with (first | (refine wp_eload _ rfl (.tmp 5) rfl gx (evM m) rfl rfl 75 (0, 0) gX1 ?_) | (refine wp_bs2 _ rfl (.tmp 30) (.tmp 31) rfl (evM m) rfl rfl rfl ?_) | (at_builtin; refine wp_appE u1 rfl _ _ rfl (bb + 1) _ (List.replicate L.length (evM m)) (List.replicate 2 (evM m)) _ ?b20 (flatE 2 m) (by simp) rfl ?b21 _ _ ?b22 ?b25 rfl ?b23 ?b24 ?_))
      try (case b20 => simp [List.replicate])
      try (case b21 => exact v1)
      try (case b22 => rfl)
      try (case b25 => simp)
      try (case b23 => simp; omega)
      try (case b24 => exact hb1)
      intro o2 u2 n2 g2 k2 p2
      have v2 := p2 (evM m) rfl (by simp) (by simp) _ _ _ v1
      have m1x := p2 (evM m) rfl (by simp) (by simp) _ _ _ m1
      have m2 : EvAt u2 (bb + 1) o2 (List.replicate (L.length + 2) (evM m)) := by rw [← List.replicate_append_replicate]; exact n2
      have B5 := B4.grown g2 hne hvi hvm hEa
      have F5 := F4.trans (Fr.grown g2 (fun g e => Or.inr (Or.inr (Or.inr e))))
      have gX2 := (g2.block gx (Array.getElem?_eq_some_iff.1 gX1).1 hXn).trans gX1
      have hb2 : bb + 1 ≤ u2.heap.size := by have := F5.size; omega
      have z2 : w.heap.size ≤ u1.heap.size := F4.size
      clear p2 n2 B4 gX1 v1 m1
      go_wp2_with (first | (refine wp_eload _ rfl (.tmp 5) rfl gx (evM m) rfl rfl 75 (0, 0) gX2 ?_) | (refine wp_bs3 _ rfl (.tmp 35) (.tmp 36) (.tmp 37) rfl (evM m) rfl rfl rfl rfl ?_) | (at_builtin; refine wp_appE u2 rfl _ _ rfl (bb + 1) _ (List.replicate L.length (evM m)) (List.replicate 3 (evM m)) _ ?b30 (flatE 3 m) (by simp) rfl ?b31 _ _ ?b32 ?b35 rfl ?b33 ?b34 ?_))
      try (case b30 => simp [List.replicate])
      try (case b31 => exact v2)
      try (case b32 => rfl)
      try (case b35 => simp)
      try (case b33 => simp; omega)
      try (case b34 => exact hb2)
      intro o3 u3 n3 g3 k3 p3
      have v3 := p3 (evM m) rfl (by simp) (by simp) _ _ _ v2
      have m1xx := p3 (evM m) rfl (by simp) (by simp) _ _ _ m1x
      have m2x := p3 (evM m) rfl (by simp) (by simp) _ _ _ m2
      have m3 : EvAt u3 (bb + 1) o3 (List.replicate (L.length + 3) (evM m)) := by rw [← List.replicate_append_replicate]; exact n3
      have B6 := B5.grown g3 hne hvi hvm hEa
      have F6 := F5.trans (Fr.grown g3 (fun g e => Or.inr (Or.inr (Or.inr e))))
      have gX3 := (g3.block gx (Array.getElem?_eq_some_iff.1 gX2).1 hXn).trans gX2
      have hb3 : bb + 1 ≤ u3.heap.size := by have := F6.size; omega
      have z3 : w.heap.size ≤ u2.heap.size := F5.size
      clear p3 n3 B5 gX2 v2 m1x m2
      have j1 : Hid _ := alt_le k1.out z1
      have j2 : Hid _ := alt_le k2.out z2
      have j3 : Hid _ := alt_le k3.out z3
      have B7 := B6.more [(.slice ao L.length cap, m), (o1, m), (o2, m), (o3, m)] (by
        intro x hx
        simp only [List.mem_cons, List.not_mem_nil, or_false] at hx
        rcases hx with rfl | rfl | rfl | rfl
        · exact ⟨_, by omega, v3⟩
        · exact ⟨_, by omega, m1xx⟩
        · exact ⟨_, by omega, m2x⟩
        · exact ⟨_, by omega, m3⟩)
      obtain ⟨a1, e1, q1⟩ := evs_form m1xx
      obtain ⟨a2, e2, q2⟩ := evs_form m2x
      obtain ⟨a3, e3, q3⟩ := evs_form m3
      rw [List.length_replicate] at q1 q2 q3
      subst q1 q2 q3
      clear B6 F3 F4 F5 g1 g2 g3 k1 k2 k3 v3 m1xx m2x m3 hb1 hb2 hbr z1 z2 z3 gX3
      have c2 := B7.c2
      have f2 := B7.f 2 (by omega)
      go_wp2_with (at_builtin; refine wp_appLE u3 rfl _ _ rfl (bb + 1) _ (E.map (·.1)) [.slice ao L.length cap, .slice a1 (L.length + 1) e1, .slice a2 (L.length + 2) e2, .slice a3 (L.length + 3) e3] _ rfl (by simp) ?e0 rfl ?e1 _ _ ?e2 rfl rfl ?e3 ?e4 ?_)
      case e0 =>
        intro y hy
        simp only [List.mem_cons, List.not_mem_nil, or_false] at hy
        rcases hy with rfl | rfl | rfl | rfl <;> rfl
      try (case e1 => exact B7.oi)
      try (case e2 => rfl)
      try (case e3 => simp; omega)
      try (case e4 => exact hb3)
      intro vi' w5 oi' g5
      obtain ⟨ai, ni, ci, evi⟩ := own_slice oi'.out
      obtain ⟨hc5, hf5, B8⟩ := B7.appI vi' (E.map (·.1) ++ [.slice ao L.length cap, .slice a1 (L.length + 1) e1, .slice a2 (L.length + 2) e2, .slice a3 (L.length + 3) e3]) g5 (by simpa using oi'.out)
      have F8 := (F6.trans (Fr.grown g5 (fun g e => Or.inr (Or.inl e)))).trans (Fr.set (b := bb) (o := 2) (x := vi') (Or.inl rfl))
      have c5 : w5.cell? ⟨bb, 2, none⟩ = some vi := (hc5 2).trans c2
      have f5 : w5.frozen? ⟨bb, 2, none⟩ = false := (hf5 2).trans f2
      have c3 := B8.c3
      have f3 := B8.f 3 (by omega)
      have hb7 : bb + 1 ≤ (w5.setCell ⟨bb, 2, none⟩ vi').heap.size := by have := F8.size; omega
      clear B7 c2 f2 g5 oi' hc5 hf5 F6
      subst evi
      go_wp2_with (at_builtin; refine wp_appI (w5.setCell ⟨bb, 2, none⟩ (.slice ai ni ci)) rfl _ _ rfl (bb + 1) _ (E.map (·.2)) [m, m, m, m] _ rfl (by simp) rfl ?h1 _ _ ?h2 rfl rfl ?h3 ?h4 ?_)
      try (case h1 => exact B8.om)
      try (case h2 => simp)
      try (case h3 => simp; omega)
      try (case h4 => exact hb7)
      intro vm' w6 om' g6 k6' _
      obtain ⟨am, nm, cm, evm⟩ := own_slice om'
      obtain ⟨hc6, hf6, B9⟩ := B8.appM vm' _ g6 om'
      have F9 := (F8.trans (Fr.grown g6 (fun g e => Or.inr (Or.inr (Or.inl e))))).trans (Fr.set (b := bb) (o := 3) (x := vm') (Or.inl rfl))
      have c6 : w6.cell? ⟨bb, 3, none⟩ = some vm := (hc6 3).trans c3
      have f6 : w6.frozen? ⟨bb, 3, none⟩ = false := (hf6 3).trans f3
      clear B8 c3 f3 g6 om' hc6 hf6 F8 c5 f5 k6'
      subst evm
      have B10 : EkAt (w6.setCell ⟨bb, 3, none⟩ (.slice am nm cm)) bb (.slice ai ni ci) (.slice am nm cm) (E ++ [(.slice ao L.length cap, m), (.slice a1 (L.length + 1) e1, m), (.slice a2 (L.length + 2) e2, m), (.slice a3 (L.length + 3) e3, m)]) m := by
        unfold EkAt
        rw [List.map_append, List.map_append]
        exact B9
      clear B9
      go_wp2_with fail
      go_end0
      rw [Hm.out]
      exact ⟨_, _, _, _, _, rfl, B10, F9, j1.out, j2.out, j3.out⟩

end Go.Proofs.YtheibfffilomcaaDoor
