/- Tx Ty Xb Xc together. -/
import Derived.Test.YtheibfffilomcaaDoorTw
import Derived.Test.YtheibfffilomcaaDoorXa
import Derived.Test.YtheibfffilomcaaDoorEvw

/- The walk of sequence. -/
namespace Go.Proofs.YtheibfffilomcaaDoor
open Go.RowKit

theorem TS.Inv.move {s : TS} (h : s.Inv) (f p0 p1 : Int) : (s.move f p0 p1).Inv := by
  have ht : 0 ≤ TS.times p0 := by unfold TS.times; omega
  unfold TS.move
  repeat' split
  · exact h.rise _ ht
  · exact h.sink _ ht
  · exact h.toCol _
  · exact h.toCol _
  · exact h.toCol _
  · exact h.toCounted _
  · exact (h.toCounted _).toCol _
  · exact h
theorem TS.Inv.clearOther {s : TS} (h : s.Inv) (what : Int) : (s.clearOther what).Inv := by
  unfold TS.clearOther
  repeat' split
  · exact h.setCur (by rw [clearRows_length]; exact h.lcur)
  · exact h.setCur (by rw [clearRows_length]; exact h.lcur)
  · exact h.setCur (by rw [clearRows_length]; exact h.lcur)
  · exact h
theorem TS.Inv.edit {s : TS} (h : s.Inv) (f p0 : Int) : (s.edit f p0).Inv := by
  unfold TS.edit
  dsimp only
  repeat' split
  · exact (h.clearRow _).clearOther _
  · exact h.clearRow _
  · exact h.setRowNow _
  · exact h.setRowNow _
  · exact h.setRowNow _
  · exact (h.setCur (by rw [downS_length]; exact h.lcur)).toCol 0
  · exact h
  · exact (h.setCur (by rw [upS_length]; exact h.lcur)).toCol 0
  · exact h
  · exact h.scrollUp _
  · exact h.scrollDown _
  · exact h
theorem TS.Inv.adjust {s : TS} (h : s.Inv) (f : Int) (ps : List Int) (ct : Nat) : (s.adjust f ps ct).Inv := by
  unfold TS.adjust
  repeat' split
  · exact h.setRegion _ _ (by unfold TS.times; omega)
  · exact h.clearTabs _
  · exact TS.Inv.turns _ h
  · exact h.upd rfl rfl rfl rfl rfl rfl rfl h.row0 h.row1 h.col0 h.col1 h.top0 h.tb h.bot h.sh
  · exact h
  · exact h
theorem TS.Inv.sequence {s : TS} (h : s.Inv) (mk f : Int) (ps : List Int) (ct : Nat) : (s.sequence mk f ps ct).Inv := by
  unfold TS.sequence
  dsimp only
  repeat' split
  · exact ((h.unwait.move _ _ _).edit _ _).adjust _ _ _
  · exact ((h.move _ _ _).edit _ _).adjust _ _ _
  · exact TS.Inv.sets _ _ h
  · exact h
  · exact h

set_option maxRecDepth 100000 in
set_option maxHeartbeats 2000000 in
theorem sequence_any (L : Lay) (s : TS) (w : World) (ht : TAt w L s) (hi : s.Inv) (ev : List Int) (hev : ev.length = 21) (ct : Nat) (hct : ev.getD 4 0 = (ct : Int)) (hct2 : ct ≤ 16) (hps : ∀ x ∈ ev.drop 5, -1 ≤ x ∧ x ≤ 65535) (hf : 64 ≤ ev.getD 3 0 ∧ ev.getD 3 0 ≤ 126) :
    Calls Tryd.prog 65 #[.pointer (some ⟨L.tb, 0, none⟩), .agg (intA ev)] w fun e w' => e = .returned (.tuple #[]) ∧ TAt w' L (s.sequence (ev.getD 2 0) (ev.getD 3 0) (ev.drop 5) ct) ∧ Ch L.own w w' := by
  have HTW : Hid (TAt w L s) := ht
  have HT0 := ht.sm ((Ch.refl (fun _ => False) w).alloc (.cells (intA ev) 75))
  have HEB : Hid ((w.alloc (.cells (intA ev) 75)).heap[w.heap.size]? = some (.cells (intA ev) 75 (0, 0))) := heap_alloc_new _ _
  have e2 := evcell (j := 2) HEB.out (by omega)
  have e3 := evcell (j := 3) HEB.out (by omega)
  have e4 := evcell (j := 4) HEB.out (by omega)
  have g0 : (ev.drop 5).getD 0 0 = ev.getD 5 0 := by simp [List.getD]
  have g1 : (ev.drop 5).getD 1 0 = ev.getD 6 0 := by simp [List.getD]
  have hb5 : -1 ≤ ev.getD 5 0 ∧ ev.getD 5 0 ≤ 65535 := by rw [← g0]; refine hps _ ?_; simp [List.getD, List.getElem?_eq_getElem (show 5 < ev.length by omega)]; exact List.mem_iff_getElem.2 ⟨0, by simp; omega, by simp⟩
  have hb6 : -1 ≤ ev.getD 6 0 ∧ ev.getD 6 0 ≤ 65535 := by rw [← g1]; refine hps _ ?_; simp [List.getD, List.getElem?_eq_getElem (show 6 < ev.length by omega)]; exact List.mem_iff_getElem.2 ⟨1, by simp; omega, by simp⟩
  rw [hct] at e4
  have HCW : Hid (Ch L.own w (w.alloc (.cells (intA ev) 75))) := (Ch.refl _ _).alloc _
  have HLO : Hid (¬ L.own w.heap.size) := fun h => by have := ht.own_lt h; omega
  have HLW : Hid (w.heap.size < (w.alloc (.cells (intA ev) 75)).heap.size) := by show _ < _; simp
  have hlt := ht.lt
  have lm : ∀ t u, TAt u L t → t.Inv → _ := fun t u h1 h2 => move_any L t u h1 h2 ev hev hb5 hb6
  have le : ∀ t u, TAt u L t → t.Inv → _ := fun t u h1 h2 => edit_any L t u h1 h2 ev hev hb5
  have la : ∀ t u, TAt u L t → t.Inv → _ := fun t u h1 h2 => adjust_any L t u h1 h2 ev hev ct hct hct2 hps
  have hX : s.sequence (ev.getD 2 0) (ev.getD 3 0) (ev.drop 5) ct = if ev.getD 2 0 = 0 then (((if TS.stills (ev.getD 3 0) then s.unwait else s).move (ev.getD 3 0) (ev.getD 5 0) (ev.getD 6 0)).edit (ev.getD 3 0) (ev.getD 5 0)).adjust (ev.getD 3 0) (ev.drop 5) ct
      else if ev.getD 2 0 = 63 then (if ev.getD 3 0 = 104 ∨ ev.getD 3 0 = 108 then s.sets (decide (ev.getD 3 0 = 104)) ((ev.drop 5).take ct) else s) else s := by unfold TS.sequence; rw [g0, g1]
  have hns : ((ev.drop 5).take ct).length = ct := by rw [List.length_take, List.length_drop]; omega
  have hcs : ∀ u : World, u.heap[w.heap.size]? = some (.cells (intA ev) 75 (0, 0)) → ∀ j x, ((ev.drop 5).take ct)[j]? = some x → u.cell? ⟨w.heap.size, 5 + j, none⟩ = some (.int .i64 x) := fun u hu j x hx => by
    rw [List.getElem?_take] at hx
    split at hx
    · rw [List.getElem?_drop] at hx
      have := evcell (j := 5 + j) hu (List.getElem?_eq_some_iff.1 hx).1
      rw [this]; simp [List.getD, hx]
    · cases hx
  have HCS : Hid _ := hcs
  generalize s.sequence (ev.getD 2 0) (ev.getD 3 0) (ev.drop 5) ct = X at *
  have HI : Hid s.Inv := hi
  have HT : Hid _ := HT0
  have hst := ix_still (ev.getD 3 0) hf
  have lx : ∀ u, _ := fun u => index_any (ev.getD 3 0) hf u
  have c28 := ht.c 28 _ rfl
  have f28 := ht.f 28
  have vu : IntKind.u8.wrap (ev.getD 3 0) = ev.getD 3 0 := by rw [IntKind.wrap_u8]; omega
  clear ht hi HT0 g0 g1 hcs hct hb5 hb6 hps
  generalize ev.getD 2 0 = mk at *
  generalize ev.getD 3 0 = f at *
  generalize ev.getD 5 0 = p0 at *
  generalize ev.getD 6 0 = p1 at *
  generalize ev.drop 5 = ps at *
  by_cases hm : mk = 0
  · subst hm
    rw [if_pos rfl] at hX
    cases hs : TS.stills f with
    | true =>
      rw [hs] at hX hst
      rw [if_pos rfl] at hX
      have hq : 0 ≤ ixOf f := of_decide_eq_true hst
      generalize ixOf f = r at *
      have HX : Hid _ := hX
      have HTB : Hid (TAt ((w.setCell ⟨L.tb, 28, none⟩ (.bool false)).alloc (.cells (intA ev) 75)) L s.unwait) := (HTW.out.set (s' := s.unwait) 28 (.bool false) rfl rfl rfl rfl rfl).sm ((Ch.refl _ _).alloc _)
      have HCB : Hid (Ch L.own w ((w.setCell ⟨L.tb, 28, none⟩ (.bool false)).alloc (.cells (intA ev) 75))) := ((Ch.refl _ _).tset _ _).alloc _
      have HIB : Hid s.unwait.Inv := HI.out.unwait
      have HE0 : Hid (((w.setCell ⟨L.tb, 28, none⟩ (.bool false)).alloc (.cells (intA ev) 75)).heap[w.heap.size]? = some (.cells (intA ev) 75 (0, 0))) := by
        have := heap_alloc_new (w.setCell ⟨L.tb, 28, none⟩ (.bool false)) (.cells (intA ev) 75)
        rwa [show (w.setCell ⟨L.tb, 28, none⟩ (.bool false)).heap.size = w.heap.size by simp [World.setCell]] at this
      have HLB : Hid (w.heap.size < ((w.setCell ⟨L.tb, 28, none⟩ (.bool false)).alloc (.cells (intA ev) 75)).heap.size) := blk_lt HE0.out
      clear hX hst hs HT HCW HEB
      go_enter Tryd.func65, Tryd.ntmps65
      go_wp2_with (first | (go_at_call 84; refine (lx _).mono ?_; rintro e w0 ⟨rfl, hw1⟩; have hw2 := hw1.symm; subst hw2) | (go_at_call 85; refine (lm s.unwait _ HTB.out HIB.out).mono ?_; rintro e w1 ⟨rfl, h1, c1⟩; have he1 := (c1.block w.heap.size HLB.out HLO.out).trans HE0.out) | (go_at_call 86; refine (le _ _ h1 (HIB.out.move _ _ _)).mono ?_; rintro e w2 ⟨rfl, h2, c2⟩; have he2 := (c2.block w.heap.size (Nat.lt_of_lt_of_le HLB.out c1.size) HLO.out).trans he1) | (go_at_call 87; refine (la _ _ h2 ((HIB.out.move _ _ _).edit _ _)).mono ?_; rintro e w3 ⟨rfl, h3, c3⟩) | (refine wp_eload _ rfl (.tmp 3) rfl w.heap.size ev rfl hev 75 (0, 0) he2 ?_) | (refine wp_eload _ rfl (.tmp 3) rfl w.heap.size ev rfl hev 75 (0, 0) he1 ?_) | (refine wp_eload _ rfl (.tmp 3) rfl w.heap.size ev rfl hev 75 (0, 0) HE0.out ?_))
      go_end0
      exact ⟨rfl, by rw [HX.out]; exact h3, HCB.out.trans (c1.trans (c2.trans c3))⟩
    | false =>
      rw [hs] at hX hst
      rw [if_neg (by simp)] at hX
      have hq : ¬ 0 ≤ ixOf f := of_decide_eq_false hst
      have dq : decide (0 ≤ ixOf f) = false := hst
      generalize ixOf f = r at *
      have HX : Hid _ := hX
      have HTB : Hid (TAt (w.alloc (.cells (intA ev) 75)) L s) := HT.out
      have HCB : Hid (Ch L.own w (w.alloc (.cells (intA ev) 75))) := HCW.out
      have HIB : Hid s.Inv := HI.out
      have HE0 : Hid ((w.alloc (.cells (intA ev) 75)).heap[w.heap.size]? = some (.cells (intA ev) 75 (0, 0))) := HEB.out
      have HLB : Hid (w.heap.size < (w.alloc (.cells (intA ev) 75)).heap.size) := HLW.out
      clear hX hst hs HT HCW HEB
      go_enter Tryd.func65, Tryd.ntmps65
      go_wp2_with (first | (go_at_call 84; refine (lx _).mono ?_; rintro e w0 ⟨rfl, hw1⟩; have hw2 := hw1.symm; subst hw2) | (go_at_call 85; refine (lm s _ HTB.out HIB.out).mono ?_; rintro e w1 ⟨rfl, h1, c1⟩; have he1 := (c1.block w.heap.size HLB.out HLO.out).trans HE0.out) | (go_at_call 86; refine (le _ _ h1 (HIB.out.move _ _ _)).mono ?_; rintro e w2 ⟨rfl, h2, c2⟩; have he2 := (c2.block w.heap.size (Nat.lt_of_lt_of_le HLB.out c1.size) HLO.out).trans he1) | (go_at_call 87; refine (la _ _ h2 ((HIB.out.move _ _ _).edit _ _)).mono ?_; rintro e w3 ⟨rfl, h3, c3⟩) | (refine wp_eload _ rfl (.tmp 3) rfl w.heap.size ev rfl hev 75 (0, 0) he2 ?_) | (refine wp_eload _ rfl (.tmp 3) rfl w.heap.size ev rfl hev 75 (0, 0) he1 ?_) | (refine wp_eload _ rfl (.tmp 3) rfl w.heap.size ev rfl hev 75 (0, 0) HE0.out ?_))
      go_end0
      exact ⟨rfl, by rw [HX.out]; exact h3, HCB.out.trans (c1.trans (c2.trans c3))⟩
  · rw [if_neg hm] at hX
    have b0 : (mk == 0) = false := by simp [hm]
    by_cases hm2 : mk = 63
    · rw [if_pos hm2] at hX
      have b1 : (mk == 63) = true := by simp [hm2]
      rcases (show f = 104 ∨ f = 108 ∨ ¬ (f = 104 ∨ f = 108) by omega) with rfl | rfl | hq
      · rw [if_pos (by omega)] at hX
        have HX : Hid (X = s.sets true (ps.take ct)) := hX
        have HCSW := HCS.out _ HEB.out
        have i1 : (ct : Int) ≤ 16 := by omega
        clear hX hm hm2
        go_enter Tryd.func65, Tryd.ntmps65
        go_wp2_with fail
        generalize hW : w.alloc (Obj.cells (intA ev) 75) = W at *
        generalize hlb : w.heap.size = lb at *
        have HT1 : TAt ({ W with drawn := W.drawn + 1 } : World) L s := HT.out.sm ((Ch.refl _ _).drewN 1)
        have l1 := set_any L s ({ W with drawn := W.drawn + 1 } : World) HT1 HI.out true lb 5 16 (ps.take ct) (by omega) HCSW HLO.out HLW.out
        rw [hns] at l1
        have HH : World.cell? ({ W with drawn := W.drawn + 1 } : World) ⟨lb, 4, none⟩ = some (.int .i64 (ct : Int)) ∧ World.cell? ({ W with drawn := W.drawn + 1 } : World) ⟨lb, 3, none⟩ = some (.int .i64 104) := ⟨e4, e3⟩
        refine wp_region_held (S := fun x => x.cell? ⟨lb, 4, none⟩ = some (.int .i64 (ct : Int)) ∧ x.cell? ⟨lb, 3, none⟩ = some (.int .i64 104)) mixedC ?_
        refine takeL (i := 0) (d := 37) (v := .pointer (some ⟨L.tb, 0, none⟩)) rfl rfl (by kernel_rfl) (by kernel_rfl) (by kernel_rfl) (fun _ _ _ h => h) (Or.inl ⟨by rfl, by intro x hSx; go_simp; try (first | rfl | go_num)⟩) HH ?_
        simp only [List.set_cons_zero, List.set_cons_succ]
        refine takeL (i := 1) (d := 38) (v := .pointer (some ⟨lb, 5, none⟩)) rfl rfl (by kernel_rfl) (by kernel_rfl) (by kernel_rfl) (fun _ _ _ h => h) (Or.inl ⟨by rfl, by intro x hSx; go_simp; try (first | rfl | go_num)⟩) HH ?_
        simp only [List.set_cons_zero, List.set_cons_succ]
        refine takeL (i := 2) (d := 39) (v := .pointer (some ⟨lb, 4, none⟩)) rfl rfl (by kernel_rfl) (by kernel_rfl) (by kernel_rfl) (fun _ _ _ h => h) (Or.inl ⟨by rfl, by intro x hSx; go_simp; try (first | rfl | go_num)⟩) HH ?_
        simp only [List.set_cons_zero, List.set_cons_succ]
        refine takeL (i := 3) (d := 40) (v := .int .i64 (ct : Int)) rfl rfl (by kernel_rfl) (by kernel_rfl) (by kernel_rfl) (fun _ _ _ h => h) (Or.inl ⟨by rfl, by intro x hSx; have hSc := hSx.1; go_simp; try (first | rfl | go_num)⟩) HH ?_
        simp only [List.set_cons_zero, List.set_cons_succ]
        refine takeL (i := 4) (d := 41) (v := .slice (some ⟨lb, 5, none⟩) ct 16) rfl rfl (by kernel_rfl) (by kernel_rfl) (by kernel_rfl) (fun _ _ _ h => h) (Or.inl ⟨by rfl, by intro x hSx; go_simp; try (first | rfl | go_num)⟩) HH ?_
        simp only [List.set_cons_zero, List.set_cons_succ]
        refine takeL (i := 5) (d := 42) (v := .pointer (some ⟨lb, 3, none⟩)) rfl rfl (by kernel_rfl) (by kernel_rfl) (by kernel_rfl) (fun _ _ _ h => h) (Or.inl ⟨by rfl, by intro x hSx; go_simp; try (first | rfl | go_num)⟩) HH ?_
        simp only [List.set_cons_zero, List.set_cons_succ]
        refine takeL (i := 6) (d := 43) (v := .int .i64 104) rfl rfl (by kernel_rfl) (by kernel_rfl) (by kernel_rfl) (fun _ _ _ h => h) (Or.inl ⟨by rfl, by intro x hSx; have hSc := hSx.2; go_simp; try (first | rfl | go_num)⟩) HH ?_
        simp only [List.set_cons_zero, List.set_cons_succ]
        refine takeL (i := 7) (d := 44) (v := .bool true) rfl rfl (by kernel_rfl) (by kernel_rfl) (by kernel_rfl) (fun _ _ _ h => h) (Or.inl ⟨by rfl, by intro x hSx; go_simp; try (first | rfl | go_num)⟩) HH ?_
        simp only [List.set_cons_zero, List.set_cons_succ]
        refine wpAnyH_all (rs := [8]) (by kernel_rfl) (by simp) ?_
        intro i hi'
        rw [List.mem_singleton] at hi'
        subst hi'
        refine wpOp_step rfl fun Kq hKq => ?_
        rw [if_pos (by rfl)]
        refine wp_callL (f := 88) 45 [.tmp 37, .tmp 41, .tmp 44] #[86, 26, 4] rfl rfl [.pointer (some ⟨L.tb, 0, none⟩), .slice (some ⟨lb, 5, none⟩) ct 16, .bool true] rfl (by kernel_rfl) (fun v w' => v = .tuple #[] ∧ TAt w' L X ∧ Ch L.own W w') (l1.mono fun e w' h => ⟨_, h.1, rfl, by rw [HX.out]; exact h.2.1, ⟨h.2.2.os, h.2.2.tape, h.2.2.output, h.2.2.size, h.2.2.block⟩⟩) ?_
        rintro v2 w9 ⟨rfl, t9, c9⟩
        refine hKq _ _ ⟨⟨(World.cell?_of_block (c9.block lb HLW.out HLO.out)).trans e4, (World.cell?_of_block (c9.block lb HLW.out HLO.out)).trans e3⟩, ?_⟩
        clear hKq
        simp only [List.set_cons_zero, List.set_cons_succ]
        refine wpAnyH_done (by kernel_rfl) ?_ _
        have HF : Hid (TAt w9 L X ∧ Ch L.own w w9) := ⟨t9, HCW.out.trans c9⟩
        clear t9 c9 HT1 HH l1
        go_wp2_with fail
        go_end0
        exact ⟨rfl, HF.out.1, HF.out.2⟩
      · rw [if_pos (by omega)] at hX
        have HX : Hid (X = s.sets false (ps.take ct)) := hX
        have HCSW := HCS.out _ HEB.out
        have i1 : (ct : Int) ≤ 16 := by omega
        clear hX hm hm2
        go_enter Tryd.func65, Tryd.ntmps65
        go_wp2_with fail
        generalize hW : w.alloc (Obj.cells (intA ev) 75) = W at *
        generalize hlb : w.heap.size = lb at *
        have HT1 : TAt ({ W with drawn := W.drawn + 1 } : World) L s := HT.out.sm ((Ch.refl _ _).drewN 1)
        have l1 := set_any L s ({ W with drawn := W.drawn + 1 } : World) HT1 HI.out false lb 5 16 (ps.take ct) (by omega) HCSW HLO.out HLW.out
        rw [hns] at l1
        have HH : World.cell? ({ W with drawn := W.drawn + 1 } : World) ⟨lb, 4, none⟩ = some (.int .i64 (ct : Int)) ∧ World.cell? ({ W with drawn := W.drawn + 1 } : World) ⟨lb, 3, none⟩ = some (.int .i64 108) := ⟨e4, e3⟩
        refine wp_region_held (S := fun x => x.cell? ⟨lb, 4, none⟩ = some (.int .i64 (ct : Int)) ∧ x.cell? ⟨lb, 3, none⟩ = some (.int .i64 108)) mixedC ?_
        refine takeL (i := 0) (d := 37) (v := .pointer (some ⟨L.tb, 0, none⟩)) rfl rfl (by kernel_rfl) (by kernel_rfl) (by kernel_rfl) (fun _ _ _ h => h) (Or.inl ⟨by rfl, by intro x hSx; go_simp; try (first | rfl | go_num)⟩) HH ?_
        simp only [List.set_cons_zero, List.set_cons_succ]
        refine takeL (i := 1) (d := 38) (v := .pointer (some ⟨lb, 5, none⟩)) rfl rfl (by kernel_rfl) (by kernel_rfl) (by kernel_rfl) (fun _ _ _ h => h) (Or.inl ⟨by rfl, by intro x hSx; go_simp; try (first | rfl | go_num)⟩) HH ?_
        simp only [List.set_cons_zero, List.set_cons_succ]
        refine takeL (i := 2) (d := 39) (v := .pointer (some ⟨lb, 4, none⟩)) rfl rfl (by kernel_rfl) (by kernel_rfl) (by kernel_rfl) (fun _ _ _ h => h) (Or.inl ⟨by rfl, by intro x hSx; go_simp; try (first | rfl | go_num)⟩) HH ?_
        simp only [List.set_cons_zero, List.set_cons_succ]
        refine takeL (i := 3) (d := 40) (v := .int .i64 (ct : Int)) rfl rfl (by kernel_rfl) (by kernel_rfl) (by kernel_rfl) (fun _ _ _ h => h) (Or.inl ⟨by rfl, by intro x hSx; have hSc := hSx.1; go_simp; try (first | rfl | go_num)⟩) HH ?_
        simp only [List.set_cons_zero, List.set_cons_succ]
        refine takeL (i := 4) (d := 41) (v := .slice (some ⟨lb, 5, none⟩) ct 16) rfl rfl (by kernel_rfl) (by kernel_rfl) (by kernel_rfl) (fun _ _ _ h => h) (Or.inl ⟨by rfl, by intro x hSx; go_simp; try (first | rfl | go_num)⟩) HH ?_
        simp only [List.set_cons_zero, List.set_cons_succ]
        refine takeL (i := 5) (d := 42) (v := .pointer (some ⟨lb, 3, none⟩)) rfl rfl (by kernel_rfl) (by kernel_rfl) (by kernel_rfl) (fun _ _ _ h => h) (Or.inl ⟨by rfl, by intro x hSx; go_simp; try (first | rfl | go_num)⟩) HH ?_
        simp only [List.set_cons_zero, List.set_cons_succ]
        refine takeL (i := 6) (d := 43) (v := .int .i64 108) rfl rfl (by kernel_rfl) (by kernel_rfl) (by kernel_rfl) (fun _ _ _ h => h) (Or.inl ⟨by rfl, by intro x hSx; have hSc := hSx.2; go_simp; try (first | rfl | go_num)⟩) HH ?_
        simp only [List.set_cons_zero, List.set_cons_succ]
        refine takeL (i := 7) (d := 44) (v := .bool false) rfl rfl (by kernel_rfl) (by kernel_rfl) (by kernel_rfl) (fun _ _ _ h => h) (Or.inl ⟨by rfl, by intro x hSx; go_simp; try (first | rfl | go_num)⟩) HH ?_
        simp only [List.set_cons_zero, List.set_cons_succ]
        refine wpAnyH_all (rs := [8]) (by kernel_rfl) (by simp) ?_
        intro i hi'
        rw [List.mem_singleton] at hi'
        subst hi'
        refine wpOp_step rfl fun Kq hKq => ?_
        rw [if_pos (by rfl)]
        refine wp_callL (f := 88) 45 [.tmp 37, .tmp 41, .tmp 44] #[86, 26, 4] rfl rfl [.pointer (some ⟨L.tb, 0, none⟩), .slice (some ⟨lb, 5, none⟩) ct 16, .bool false] rfl (by kernel_rfl) (fun v w' => v = .tuple #[] ∧ TAt w' L X ∧ Ch L.own W w') (l1.mono fun e w' h => ⟨_, h.1, rfl, by rw [HX.out]; exact h.2.1, ⟨h.2.2.os, h.2.2.tape, h.2.2.output, h.2.2.size, h.2.2.block⟩⟩) ?_
        rintro v2 w9 ⟨rfl, t9, c9⟩
        refine hKq _ _ ⟨⟨(World.cell?_of_block (c9.block lb HLW.out HLO.out)).trans e4, (World.cell?_of_block (c9.block lb HLW.out HLO.out)).trans e3⟩, ?_⟩
        clear hKq
        simp only [List.set_cons_zero, List.set_cons_succ]
        refine wpAnyH_done (by kernel_rfl) ?_ _
        have HF : Hid (TAt w9 L X ∧ Ch L.own w w9) := ⟨t9, HCW.out.trans c9⟩
        clear t9 c9 HT1 HH l1
        go_wp2_with fail
        go_end0
        exact ⟨rfl, HF.out.1, HF.out.2⟩
      · rw [if_neg hq] at hX
        have HX : Hid _ := hX
        have b2 : (f == 104) = false := by simp; omega
        have b3 : (f == 108) = false := by simp; omega
        clear hX hq hm hm2
        go_enter Tryd.func65, Tryd.ntmps65
        go_wp2_with fail
        go_end0
        exact ⟨rfl, by rw [HX.out]; exact HT.out, HCW.out⟩
    · rw [if_neg hm2] at hX
      have b1 : (mk == 63) = false := by simp [hm2]
      have HX : Hid _ := hX
      clear hX hm hm2
      go_enter Tryd.func65, Tryd.ntmps65
      go_wp2_with fail
      go_end0
      exact ⟨rfl, by rw [HX.out]; exact HT.out, HCW.out⟩
end Go.Proofs.YtheibfffilomcaaDoor

/- The walk of Take. -/
namespace Go.Proofs.YtheibfffilomcaaDoor
open Go.RowKit

/-- What an event does. -/
def TS.take (s : TS) (ev : List Int) : TS :=
  if ev.getD 0 0 = 1 then s.print (ev.getD 1 0) (widN (ev.getD 1 0)).toNat else if ev.getD 0 0 = 2 then s.control (ev.getD 1 0)
  else if ev.getD 0 0 = 3 then s.escape (ev.getD 2 0) (ev.getD 3 0) else if ev.getD 0 0 = 4 then s.sequence (ev.getD 2 0) (ev.getD 3 0) (ev.drop 5) (ev.getD 4 0).toNat else s
/-- Events such as come out of the machine. -/
structure EvOk (ev : List Int) : Prop where
  len : ev.length = 21
  ct : 0 ≤ ev.getD 4 0 ∧ ev.getD 4 0 ≤ 16
  ps : ∀ x ∈ ev.drop 5, -1 ≤ x ∧ x ≤ 65535
  fin : ev.getD 0 0 = 4 → 64 ≤ ev.getD 3 0 ∧ ev.getD 3 0 ≤ 126
theorem widN_small (c : Int) : 0 ≤ widN c ∧ widN c ≤ 2 := by
  unfold widN
  have h : ∀ l : List (Int × Int × Int), (∀ x ∈ l, 0 ≤ x.2.2 ∧ x.2.2 ≤ 2) → 0 ≤ firstW c l ∧ firstW c l ≤ 2 := by
    intro l
    induction l with
    | nil => intro _; simp [firstW]
    | cons x l ih =>
      intro hx
      obtain ⟨a, b, y⟩ := x
      simp only [firstW]
      split
      · exact hx (a, b, y) (by simp)
      · exact ih fun z hz => hx z (by simp [hz])
  refine h spansN ?_
  intro x hx
  simp only [spansN, List.mem_cons, List.not_mem_nil, or_false] at hx
  rcases hx with rfl | rfl | rfl | rfl | rfl | rfl | rfl | rfl | rfl | rfl | rfl | rfl | rfl | rfl <;> exact ⟨by decide, by decide⟩

theorem TS.Inv.nextTab {s : TS} (h : s.Inv) : s.nextTab.Inv := h.toCol _
theorem TS.Inv.step {s : TS} (h : s.Inv) (wd : Nat) : (s.step wd).Inv := by
  have := h.toCol (s.col + (wd : Int))
  exact this.upd rfl rfl rfl rfl rfl rfl rfl this.row0 this.row1 this.col0 this.col1 this.top0 this.tb this.bot this.sh
theorem TS.Inv.print2 {s : TS} (h : s.Inv) (c : Int) (wd : Nat) : (s.print2 c wd).Inv := by
  unfold TS.print2
  split
  · exact TS.Inv.step (TS.Inv.setRowNow (h.setRowNow _) _) _
  · exact TS.Inv.step (h.setRowNow _) _
theorem TS.Inv.print1 {s : TS} (h : s.Inv) : s.print1.Inv := by
  unfold TS.print1
  split
  · exact h.unwait.nextLine
  · exact h
theorem TS.Inv.print {s : TS} (h : s.Inv) (c : Int) (wd : Nat) : (s.print c wd).Inv := by
  unfold TS.print
  repeat' split
  · exact h
  · exact h.print1.nextLine.print2 _ _
  · exact h.print1
  · exact h.print1.print2 _ _
theorem TS.Inv.use {s : TS} (h : s.Inv) (u : Int) : ({ s with use := u } : TS).Inv := h.upd rfl rfl rfl rfl rfl rfl rfl h.row0 h.row1 h.col0 h.col1 h.top0 h.tb h.bot h.sh
theorem TS.Inv.control {s : TS} (h : s.Inv) (c : Int) : (s.control c).Inv := by
  have h1 : (if 8 ≤ c ∧ c ≤ 13 then s.unwait else s).Inv := by
    split
    · exact h.unwait
    · exact h
  unfold TS.control
  dsimp only
  generalize (if 8 ≤ c ∧ c ≤ 13 then s.unwait else s) = t at *
  repeat' split
  · exact h1.toCol _
  · exact h1.nextTab
  · exact h1.down
  · exact h1.toCol _
  · exact h1.use 1
  · exact h1.use 0
  · exact h1
theorem TS.Inv.save {s : TS} (h : s.Inv) : s.save.Inv := by
  unfold TS.save
  split
  · exact ⟨h.r1, h.r2, h.c1, h.c2, h.row0, h.row1, h.col0, h.col1, h.top0, h.tb, h.bot, h.sh, h.l0, h.l1, h.lt, ⟨h.row0, h.row1⟩, ⟨h.col0, h.col1⟩, h.v1r, h.v1c⟩
  · exact ⟨h.r1, h.r2, h.c1, h.c2, h.row0, h.row1, h.col0, h.col1, h.top0, h.tb, h.bot, h.sh, h.l0, h.l1, h.lt, h.v0r, h.v0c, ⟨h.row0, h.row1⟩, ⟨h.col0, h.col1⟩⟩
theorem TS.Inv.restore {s : TS} (h : s.Inv) : s.restore.Inv := by
  have hv : (0 ≤ s.saved.row ∧ s.saved.row < (s.rows : Int)) ∧ (0 ≤ s.saved.col ∧ s.saved.col < (s.cols : Int)) := by
    unfold TS.saved
    split
    · exact ⟨h.v0r, h.v0c⟩
    · exact ⟨h.v1r, h.v1c⟩
  have hr : 0 ≤ (if s.saved.origin then TS.bringI s.saved.row s.top s.bottom else s.saved.row) ∧ (if s.saved.origin then TS.bringI s.saved.row s.top s.bottom else s.saved.row) < (s.rows : Int) := by
    have := h.top0; have := h.tb; have := h.bot
    split
    · unfold TS.bringI; omega
    · exact hv.1
  exact h.upd rfl rfl rfl rfl rfl rfl rfl hr.1 hr.2 hv.2.1 hv.2.2 h.top0 h.tb h.bot h.sh
theorem TS.Inv.bare {s : TS} (h : s.Inv) (f : Int) : (s.bare f).Inv := by
  unfold TS.bare
  repeat' split
  · exact h.save
  · exact h.restore
  · exact h.unwait.down
  · exact h.unwait.up
  · exact h.unwait.nextLine
  · exact h.setTabs _ (by rw [List.length_set]; exact h.lt)
  · exact TS.Inv.fresh ⟨h.r1, h.r2⟩ ⟨h.c1, h.c2⟩
  · exact h
theorem TS.Inv.escape {s : TS} (h : s.Inv) (mk f : Int) : (s.escape mk f).Inv := by
  unfold TS.escape
  repeat' split
  · exact h.bare f
  · exact h.upd rfl rfl rfl rfl rfl rfl rfl h.row0 h.row1 h.col0 h.col1 h.top0 h.tb h.bot h.sh
  · exact h.upd rfl rfl rfl rfl rfl rfl rfl h.row0 h.row1 h.col0 h.col1 h.top0 h.tb h.bot h.sh
  · exact h
theorem TS.Inv.take {s : TS} (h : s.Inv) (ev : List Int) : (s.take ev).Inv := by
  unfold TS.take
  repeat' split
  · exact h.print _ _
  · exact h.control _
  · exact h.escape _ _
  · exact h.sequence _ _ _ _
  · exact h

/-- The tables lie where the program has them. -/
structure Tabs (w : World) : Prop where
  sp : Spans w
  le : Leads w
  st : Strokes w
theorem Tabs.kept {w w' : World} (h : Tabs w) (hb : ∀ k, k ≤ 2 → w'.heap[k]? = w.heap[k]?) : Tabs w' := ⟨h.sp.kept (hb 0 (by omega)), h.le.kept (hb 1 (by omega)), h.st.kept (hb 2 (by omega))⟩
theorem Tabs.ch {w w' : World} (h : Tabs w) {P : Nat → Prop} (c : Ch P w w') (hp : ∀ k, k ≤ 2 → ¬ P k) : Tabs w' := by
  obtain ⟨t, fr, h2⟩ := h.st
  have hs : 2 < w.heap.size := blk_lt h2
  exact h.kept fun k hk => c.block k (by omega) (hp k hk)

set_option maxRecDepth 100000 in
set_option maxHeartbeats 1000000 in
theorem ttake_any (L : Lay) (s : TS) (w : World) (ht : TAt w L s) (hi : s.Inv) (hL : L.Hi) (htb : Tabs w) (ev : List Int) (hev : EvOk ev) : Calls Tryd.prog 47 #[.pointer (some ⟨L.tb, 0, none⟩), .agg (intA ev)] w fun e w' => e = .returned (.tuple #[]) ∧ Next L w w' (s.take ev) := by
  have HT := ht.sm ((Ch.refl (fun _ => False) w).alloc (.cells (intA ev) 75))
  have HEB : Hid ((w.alloc (.cells (intA ev) 75)).heap[w.heap.size]? = some (.cells (intA ev) 75 (0, 0))) := heap_alloc_new _ _
  have hl := hev.len
  have e0 := evcell (j := 0) HEB.out (by omega)
  have e1 := evcell (j := 1) HEB.out (by omega)
  have HCW : Hid (Ch L.own w (w.alloc (.cells (intA ev) 75))) := (Ch.refl _ _).alloc _
  have htw := htb.ch ((Ch.refl (fun _ => False) w).alloc (.cells (intA ev) 75)) (fun _ _ h => h)
  have hX : s.take ev = if ev.getD 0 0 = 1 then s.print (ev.getD 1 0) (widN (ev.getD 1 0)).toNat else if ev.getD 0 0 = 2 then s.control (ev.getD 1 0)
      else if ev.getD 0 0 = 3 then s.escape (ev.getD 2 0) (ev.getD 3 0) else if ev.getD 0 0 = 4 then s.sequence (ev.getD 2 0) (ev.getD 3 0) (ev.drop 5) (ev.getD 4 0).toNat else s := rfl
  have hw := widN_small (ev.getD 1 0)
  have l1 := print_any L s _ HT hi hL htw.sp htw.st (ev.getD 1 0) (widN (ev.getD 1 0)).toNat (by omega) (by omega)
  have l2 := control_any L s _ HT hi (ev.getD 1 0)
  have l3 := escape_any L s _ HT hi ev hl
  have l4 : ev.getD 0 0 = 4 → _ := fun h4 => sequence_any L s _ HT hi ev hl (ev.getD 4 0).toNat (by have := hev.ct; omega) (by have := hev.ct; omega) hev.ps (hev.fin h4)
  generalize s.take ev = X at *
  have HHT : Hid _ := HT
  clear ht hi hL htb htw hev HT
  generalize ev.getD 0 0 = kd at *
  generalize ev.getD 1 0 = ru at *
  rcases (show kd = 1 ∨ kd = 2 ∨ kd = 3 ∨ kd = 4 ∨ ¬ (kd = 1 ∨ kd = 2 ∨ kd = 3 ∨ kd = 4) by omega) with rfl | rfl | rfl | rfl | hk
  · have HX : Hid (X = s.print ru (widN ru).toNat) := hX
    clear hX l2 l3 l4
    go_enter Tryd.func47, Tryd.ntmps47
    go_wp2_with (go_at_call 62; refine l1.mono ?_; rintro e w1 ⟨rfl, h1, c1⟩)
    go_end0
    exact ⟨rfl, Next.ahead HCW.out (Next.of (by rw [HX.out]; exact h1) c1)⟩
  · have HX : Hid (X = s.control ru) := hX
    clear hX l1 l3 l4
    go_enter Tryd.func47, Tryd.ntmps47
    go_wp2_with (go_at_call 63; refine l2.mono ?_; rintro e w1 ⟨rfl, h1, c1⟩)
    go_end0
    exact ⟨rfl, Next.ahead HCW.out (Next.of (by rw [HX.out]; exact h1) c1)⟩
  · have HX : Hid (X = s.escape (ev.getD 2 0) (ev.getD 3 0)) := hX
    clear hX l1 l2 l4
    go_enter Tryd.func47, Tryd.ntmps47
    go_wp2_with (first | (go_at_call 64; refine l3.mono ?_; rintro e w1 ⟨rfl, n1⟩) | (refine wp_eload _ rfl (.tmp 3) rfl w.heap.size ev rfl hl 75 (0, 0) HEB.out ?_))
    go_end0
    exact ⟨rfl, Next.ahead HCW.out (by rw [HX.out]; exact n1)⟩
  · have HX : Hid (X = s.sequence (ev.getD 2 0) (ev.getD 3 0) (ev.drop 5) (ev.getD 4 0).toNat) := hX
    have l5 := l4 rfl
    clear hX l1 l2 l3 l4
    go_enter Tryd.func47, Tryd.ntmps47
    go_wp2_with (first | (go_at_call 65; refine l5.mono ?_; rintro e w1 ⟨rfl, h1, c1⟩) | (refine wp_eload _ rfl (.tmp 3) rfl w.heap.size ev rfl hl 75 (0, 0) HEB.out ?_))
    go_end0
    exact ⟨rfl, Next.ahead HCW.out (Next.of (by rw [HX.out]; exact h1) c1)⟩
  · rw [if_neg (by omega), if_neg (by omega), if_neg (by omega), if_neg (by omega)] at hX
    have HX : Hid _ := hX
    have b1 : (kd == 1) = false := by simp; omega
    have b2 : (kd == 2) = false := by simp; omega
    have b3 : (kd == 3) = false := by simp; omega
    have b4 : (kd == 4) = false := by simp; omega
    clear hX hk l1 l2 l3 l4
    go_enter Tryd.func47, Tryd.ntmps47
    go_wp2_with fail
    go_end0
    exact ⟨rfl, Next.ahead HCW.out (Next.of (by rw [HX.out]; exact HHT.out) (Ch.refl _ _))⟩
end Go.Proofs.YtheibfffilomcaaDoor

/- A whole terminal: the reader, the machine and what they draw, as plain functions and in memory. -/
namespace Go.Proofs.YtheibfffilomcaaDoor
open Go.RowKit

structure FS where
  r : RS
  m : MS
  t : TS
def FS.char (x : FS) (c : Int) : FS := ⟨x.r, (x.m.take c).1, if (x.m.take c).2.2 then x.t.take (x.m.take c).2.1 else x.t⟩
def FS.chars (x : FS) (l : List Int) : FS := l.foldl FS.char x
def FS.byte (x : FS) (b : Int) : FS := FS.chars ⟨(x.r.take b).1, x.m, x.t⟩ (x.r.take b).2
def FS.feed (x : FS) (l : List Int) : FS := l.foldl FS.byte x
def FS.fresh (rows cols : Nat) : FS := ⟨.zero, .zero, TS.fresh rows cols⟩
theorem chars_snoc (x : FS) (l : List Int) (c : Int) : x.chars (l ++ [c]) = (x.chars l).char c := by simp [FS.chars]
theorem feed_snoc (x : FS) (l : List Int) (b : Int) : x.feed (l ++ [b]) = (x.feed l).byte b := by simp [FS.feed]
theorem feed_append (x : FS) (l l' : List Int) : x.feed (l ++ l') = (x.feed l).feed l' := by simp [FS.feed]
structure FS.Ok (x : FS) : Prop where
  r : x.r.ok
  m : x.m.ok
  t : x.t.Inv

theorem seq_ok {s : MS} (h : s.ok) {c : Int} (hc : finalN c = true) : EvOk (s.seqEv c) := by
  have hf : 64 ≤ c ∧ c ≤ 126 := by unfold finalN at hc; exact of_decide_eq_true hc
  have h0 := h.c0
  refine ⟨by simp [MS.seqEv, h.len], ?_, ?_, fun _ => hf⟩
  · show 0 ≤ min s.ct 16 ∧ min s.ct 16 ≤ 16; omega
  · exact h.p
theorem plain_ok {k a b c : Int} (hk : k ≠ 4) : EvOk ([k, a, b, c, 0] ++ z16) := ⟨rfl, ⟨Int.le_refl 0, show (0 : Int) ≤ 16 by decide⟩, z16_bd, fun h => absurd h hk⟩
theorem num_evok {s : MS} (h : s.ok) (c : Int) (ht : (s.takeNum c).2.2 = true) : EvOk (s.takeNum c).2.1 := by
  unfold MS.takeNum at ht ⊢
  by_cases h1 : 48 ≤ c ∧ c ≤ 57
  · rw [if_pos h1] at ht; cases ht
  · rw [if_neg h1] at ht ⊢
    by_cases h2 : c = 59
    · rw [if_pos h2] at ht; cases ht
    · rw [if_neg h2] at ht ⊢
      by_cases h3 : finalN c = true
      · rw [if_pos h3]; exact seq_ok h h3
      · rw [if_neg h3] at ht; cases ht
theorem esc_evok {s : MS} (c : Int) (ht : (s.takeEsc c).2.2 = true) : EvOk (s.takeEsc c).2.1 := by
  unfold MS.takeEsc at ht ⊢
  by_cases h1 : c = 91
  · rw [if_pos h1] at ht; cases ht
  · rw [if_neg h1] at ht ⊢
    by_cases h2 : textN c = true
    · rw [if_pos h2] at ht; cases ht
    · rw [if_neg h2] at ht ⊢
      by_cases h3 : c ≤ 47
      · rw [if_pos h3] at ht; cases ht
      · rw [if_neg h3] at ht ⊢
        by_cases h4 : c ≤ 126
        · rw [if_pos h4]; exact plain_ok (by decide)
        · rw [if_neg h4] at ht; cases ht
theorem vis_evok {s : MS} (h : s.ok) (c : Int) (ht : (s.takeVis c).2.2 = true) : EvOk (s.takeVis c).2.1 := by
  unfold MS.takeVis at ht ⊢
  by_cases h1 : s.md = 0
  · rw [if_pos h1]; exact plain_ok (by decide)
  · rw [if_neg h1] at ht ⊢
    by_cases h2 : s.md = 1
    · rw [if_pos h2] at ht ⊢; exact esc_evok c ht
    · rw [if_neg h2] at ht ⊢
      by_cases h3 : s.md = 2
      · rw [if_pos h3] at ht ⊢
        by_cases h4 : markN c = true
        · rw [if_pos h4] at ht; cases ht
        · rw [if_neg h4] at ht ⊢; exact num_evok (MS.ok.third h h3 h.r0 h.r1) c ht
      · rw [if_neg h3] at ht ⊢
        by_cases h4 : s.md = 3
        · rw [if_pos h4] at ht ⊢; exact num_evok h c ht
        · rw [if_neg h4] at ht ⊢
          by_cases h5 : s.md = 4
          · rw [if_pos h5] at ht
            by_cases h6 : finalN c = true
            · rw [if_pos h6] at ht; cases ht
            · rw [if_neg h6] at ht; cases ht
          · rw [if_neg h5] at ht; cases ht
theorem take_evok {s : MS} (h : s.ok) (c : Int) (ht : (s.take c).2.2 = true) : EvOk (s.take c).2.1 := by
  unfold MS.take at ht ⊢
  by_cases h1 : c = 24 ∨ c = 26
  · rw [if_pos h1] at ht; cases ht
  · rw [if_neg h1] at ht ⊢
    by_cases h2 : c = 27
    · rw [if_pos h2] at ht; cases ht
    · rw [if_neg h2] at ht ⊢
      by_cases h3 : s.md = 5
      · rw [if_pos h3] at ht; cases ht
      · rw [if_neg h3] at ht ⊢
        by_cases h4 : c < 32
        · rw [if_pos h4]; exact plain_ok (by decide)
        · rw [if_neg h4] at ht ⊢
          by_cases h5 : c ≠ 127
          · rw [if_pos h5] at ht ⊢; exact vis_evok h c ht
          · rw [if_neg h5] at ht; cases ht
theorem FS.Ok.char {x : FS} (h : x.Ok) {c : Int} (h0 : 0 ≤ c) (h1 : c ≤ 10000000) : (x.char c).Ok := by
  refine ⟨h.r, h.m.take h0 h1, ?_⟩
  show (if (x.m.take c).2.2 then x.t.take (x.m.take c).2.1 else x.t).Inv
  split
  · exact h.t.take _
  · exact h.t
theorem FS.Ok.chars {x : FS} (h : x.Ok) : ∀ (l : List Int), (∀ c ∈ l, 0 ≤ c ∧ c ≤ 10000000) → (x.chars l).Ok := by
  intro l
  induction l generalizing x with
  | nil => exact fun _ => h
  | cons c l ih => exact fun hl => ih (h.char (hl c (by simp)).1 (hl c (by simp)).2) (fun d hd => hl d (by simp [hd]))
theorem FS.Ok.byte {x : FS} (h : x.Ok) {b : Int} (h0 : 0 ≤ b) (h1 : b < 256) : (x.byte b).Ok := FS.Ok.chars (x := ⟨_, _, _⟩) ⟨h.r.take b, h.m, h.t⟩ _ (take_bd h.r h0 h1)
theorem FS.Ok.feed {x : FS} (h : x.Ok) : ∀ (l : List Int), (∀ b ∈ l, 0 ≤ b ∧ b < 256) → (x.feed l).Ok := by
  intro l
  induction l generalizing x with
  | nil => exact fun _ => h
  | cons c l ih => exact fun hl => ih (h.byte (hl c (by simp)).1 (hl c (by simp)).2) (fun d hd => hl d (by simp [hd]))

/-- A whole terminal lies in memory. -/
structure FAt (w : World) (fb : Nat) (L : Lay) (x : FS) : Prop where
  rd : RdAt w fb 0 x.r
  ma : MAt w fb 4 x.m
  pt : w.cell? ⟨fb, 23, none⟩ = some (.pointer (some ⟨L.tb, 0, none⟩))
  te : TAt w L x.t
  no : ¬ L.own fb
  hi : L.Hi
theorem FAt.kept {w w' : World} {fb : Nat} {L : Lay} {x : FS} (h : FAt w fb L x) {P : Nat → Prop} (c : Ch P w w') (hf : ¬ P fb) (hp : ∀ k, L.own k → ¬ P k) : FAt w' fb L x := by
  have hb := c.block fb h.ma.lt hf
  exact ⟨h.rd.kept hb, h.ma.kept hb, (World.cell?_of_block hb).trans h.pt, h.te.kept c hp, h.no, h.hi⟩
/-- Behind the reader. -/
theorem FAt.reader {w w' : World} {fb : Nat} {L : Lay} {x : FS} (h : FAt w fb L x) {v v' : Value} (k : Kl v v' fb 0 w w') {r : RS} (hr : RdAt w' fb 0 r) (hv : ∀ i, L.own i → v.ownBlock ≠ some i) : FAt w' fb L ⟨r, x.m, x.t⟩ := by
  refine ⟨hr, ⟨h.ma.len, fun j y hy => (k.cell _ (Or.inr (by omega))).trans (h.ma.rng j y hy), fun j hj => (k.frozen _).trans (h.ma.fr j hj)⟩, (k.cell 23 (Or.inr (by omega))).trans h.pt, ?_, h.no, h.hi⟩
  exact h.te.kept (P := fun i => i = fb ∨ v.ownBlock = some i) ⟨k.os, k.tape, k.output, k.size, fun i hi hn => k.block i hi (fun e => hn (.inl e)) (fun e => hn (.inr e))⟩ (fun i hi hn => by
    rcases hn with e | e
    · exact h.no (e ▸ hi)
    · exact hv i hi e)
/-- Behind the machine. -/
theorem FAt.machine {w w' : World} {fb : Nat} {L : Lay} {x : FS} (h : FAt w fb L x) (k : Km fb 4 w w') {m : MS} (hm : MAt w' fb 4 m) : FAt w' fb L ⟨x.r, m, x.t⟩ := by
  refine ⟨⟨(k.cell 0 (Or.inl (by omega))).trans h.rd.c0, (k.cell 1 (Or.inl (by omega))).trans h.rd.c1, (k.cell 2 (Or.inl (by omega))).trans h.rd.c2, (k.cell 3 (Or.inl (by omega))).trans h.rd.c3, fun j hj => (k.frozen _).trans (h.rd.f j hj)⟩, hm, (k.cell 23 (Or.inr (by omega))).trans h.pt, ?_, h.no, h.hi⟩
  exact h.te.kept (P := fun i => i = fb) ⟨k.os, k.tape, k.output, k.size, fun i hi hn => k.block i hi hn⟩ (fun i hi e => h.no (e ▸ hi))
theorem FAt.lt {w : World} {fb : Nat} {L : Lay} {x : FS} (h : FAt w fb L x) : fb < w.heap.size := h.ma.lt
end Go.Proofs.YtheibfffilomcaaDoor

/- The walk of Feed. -/
namespace Go.Proofs.YtheibfffilomcaaDoor
open Go.RowKit

/-- What holds while a text is fed. -/
structure FI (w : World) (fb : Nat) (L0 : Lay) (v : Value) (cs : List Int) (x : FS) (wr : World) (L : Lay) : Prop where
  f : FAt wr fb L x
  l : LsAt wr (fb + 1) v cs
  ltb : L.tb = L0.tb
  ch : Ch (fun k => k = fb ∨ L0.own k) w wr
  gr : ∀ k, L.own k → L0.own k ∨ w.heap.size ≤ k
  vn : ∀ k, v.ownBlock = some k → w.heap.size ≤ k ∧ ¬ L.own k
  tb : Tabs wr
  lo : 2 < fb ∧ fb < w.heap.size

theorem FI.vlt {w wr : World} {fb : Nat} {L0 L : Lay} {v : Value} {cs : List Int} {x : FS} (h : FI w fb L0 v cs x wr L) {k : Nat} (hk : v.ownBlock = some k) : k < wr.heap.size := ((World.ownsRow.lt h.l) k hk).2
theorem FI.same {w wr w' : World} {fb : Nat} {L0 L : Lay} {v : Value} {cs : List Int} {x : FS} (h : FI w fb L0 v cs x wr L) (b : Below wr.heap.size wr w') : FI w fb L0 v cs x w' L :=
  ⟨h.f.kept (P := fun _ => False) (Ch.of_below b) id (fun _ _ => id), h.l.below b, h.ltb, h.ch.trans (Ch.of_below b), h.gr, h.vn, h.tb.ch (P := fun _ => False) (Ch.of_below b) (fun _ _ => id), h.lo⟩
theorem LsAt.blk {w w' : World} {base : Nat} {v : Value} {L : List Int} (h : LsAt w base v L) (hb : ∀ k, v.ownBlock = some k → w'.heap[k]? = w.heap[k]?) : LsAt w' base v L := by
  obtain ⟨h1, h2⟩ := h
  refine ⟨h1, ?_⟩
  rcases h2 with h2 | ⟨g, cap, cur, hv, hg, hblk, h5⟩
  · exact .inl h2
  · exact .inr ⟨g, cap, cur, hv, hg, (hb g (by rw [hv]; rfl)).trans hblk, h5⟩
theorem FI.km {w wr w' : World} {fb : Nat} {L0 L : Lay} {v : Value} {cs : List Int} {x : FS} (h : FI w fb L0 v cs x wr L) (k : Km fb 4 wr w') {m : MS} (hm : MAt w' fb 4 m) : FI w fb L0 v cs ⟨x.r, m, x.t⟩ w' L := by
  have c : Ch (fun i => i = fb) wr w' := ⟨k.os, k.tape, k.output, k.size, fun i hi hn => k.block i hi hn⟩
  have hlo := h.lo
  exact ⟨h.f.machine k hm, h.l.blk (fun i hi => c.block i (h.vlt hi) (by have := (h.vn i hi).1; omega)), h.ltb, h.ch.trans' c (fun i _ e => .inl e), h.gr, h.vn, h.tb.ch c (fun i hi e => by omega), h.lo⟩
theorem FI.next {w wr w' : World} {fb : Nat} {L0 L : Lay} {v : Value} {cs : List Int} {x : FS} (h : FI w fb L0 v cs x wr L) {t : TS} (n : Next L wr w' t) : ∃ L', FI w fb L0 v cs ⟨x.r, x.m, t⟩ w' L' := by
  obtain ⟨L', h1, h2, h3, h4⟩ := n
  have hb := h3.block fb h.f.lt h.f.no
  have hlo := h.lo
  have hfl := h.f.lt
  refine ⟨L', ⟨h.f.rd.kept hb, h.f.ma.kept hb, by rw [h1]; exact (World.cell?_of_block hb).trans h.f.pt, h2, fun q => ?_, fun k hk => ?_⟩, h.l.blk (fun i hi => h3.block i (h.vlt hi) (h.vn i hi).2), h1.trans h.ltb, h.ch.trans' h3 (fun i hi q => ?_), fun k hk => ?_, fun k hk => ⟨(h.vn k hk).1, fun q => ?_⟩, h.tb.ch h3 (fun i hi q => ?_), h.lo⟩
  · rcases h4 fb q with q | q
    · exact h.f.no q
    · omega
  · rcases h4 k hk with q | q
    · exact h.f.hi k q
    · omega
  · rcases h.gr i q with e | e
    · exact .inr e
    · omega
  · rcases h4 k hk with q | q
    · exact h.gr k q
    · exact .inr (Nat.le_trans h.ch.size q)
  · rcases h4 k q with e | e
    · exact (h.vn k hk).2 e
    · have := h.vlt hk; omega
  · have := h.f.hi i q; omega
theorem FI.read {w wr w' : World} {fb : Nat} {L0 L : Lay} {v v1 : Value} {cs cs1 : List Int} {x : FS} (h : FI w fb L0 v cs x wr L) (k : Kl v v1 fb 0 wr w') {r : RS} (hr : RdAt w' fb 0 r) (hl : LsAt w' (fb + 1) v1 cs1) : FI w fb L0 v1 cs1 ⟨r, x.m, x.t⟩ w' L := by
  have c : Ch (fun i => i = fb ∨ v.ownBlock = some i) wr w' := ⟨k.os, k.tape, k.output, k.size, fun i hi hn => k.block i hi (fun e => hn (.inl e)) (fun e => hn (.inr e))⟩
  have hlo := h.lo
  refine ⟨h.f.reader k hr (fun i hi e => (h.vn i e).2 hi), hl, h.ltb, h.ch.trans' c (fun i hi q => ?_), h.gr, fun i hi => ?_, h.tb.ch c (fun i hi q => ?_), h.lo⟩
  · rcases q with q | q
    · exact .inl q
    · have := (h.vn i q).1; omega
  · rcases k.own i hi with q | q
    · exact h.vn i q
    · exact ⟨Nat.le_trans h.ch.size q, fun e => by have := h.f.te.own_lt e; omega⟩
  · rcases q with q | q
    · omega
    · have := (h.vn i q).1; omega
/-- The list cut to nothing. -/
theorem FI.cut {w wr : World} {fb : Nat} {L0 L : Lay} {v : Value} {cs : List Int} {x : FS} (h : FI w fb L0 v cs x wr L) : ∃ ao n cap, v = .slice ao n cap ∧ (ao = none → n = 0 ∧ cap = 0) ∧ n ≤ cap ∧ (∀ b, ao = some b → b.off = 0 ∧ b.spot = none) ∧ FI w fb L0 (.slice ao 0 cap) [] x wr L := by
  obtain ⟨h1, h2⟩ := h.l
  rcases h2 with ⟨hv, hn⟩ | ⟨g, cap, cur, hv, hg, hblk, hn, hm, hcs, htake⟩
  · subst hv
    exact ⟨none, 0, 0, rfl, fun _ => ⟨rfl, rfl⟩, Nat.le_refl _, fun b hb => (by cases hb), ⟨h.f, World.ownsRow_nil _ _ _ _, h.ltb, h.ch, h.gr, h.vn, h.tb, h.lo⟩⟩
  · subst hv
    exact ⟨some ⟨g, 0, none⟩, cs.length, cap, rfl, fun e => (by cases e), hn, fun b hb => (by cases hb; exact ⟨rfl, rfl⟩), ⟨h.f, ⟨rfl, .inr ⟨g, cap, cur, rfl, hg, hblk, Nat.zero_le _, hm, hcs, by simp⟩⟩, h.ltb, h.ch, h.gr, h.vn, h.tb, h.lo⟩⟩

set_option maxRecDepth 100000 in
set_option maxHeartbeats 2000000 in
theorem feed_any (fb : Nat) (L0 : Lay) (x0 : FS) (s : ByteArray) (w : World) (h : FAt w fb L0 x0) (hok : x0.Ok) (htb : Tabs w) (hfb : 2 < fb) (hs : s.size ≤ 281474976710656) :
    Calls Tryd.prog 26 #[.pointer (some ⟨fb, 0, none⟩), .string s] w fun e w' => e = .returned (.tuple #[]) ∧ ∃ v cs L, FI w fb L0 v cs (x0.feed (bl s)) w' L := by
  have F0 : FI w fb L0 (.slice none 0 0) [] x0 w L0 := ⟨h, World.ownsRow_nil _ _ _ _, rfl, Ch.refl _ _, fun _ hk => .inl hk, fun k hk => (by cases hk), htb, hfb, h.lt⟩
  have HF0 : Hid _ := F0
  have HOK : Hid x0.Ok := hok
  have HB : Hid ((bl s).length = s.size) := bl_length s
  have HBY : Hid (∀ b ∈ bl s, 0 ≤ b ∧ b < 256) := bl_byte s
  clear h hok htb F0
  go_enter Tryd.func26, Tryd.ntmps26
  go_wp2_with fail
  go_loopw [4, 12] (fun v i wr => ∃ (k : Nat) (cs : List Int) (L : Lay), k ≤ s.size ∧ i = .int .i64 k ∧ FI w fb L0 v cs (x0.feed ((bl s).take k)) wr L) (fun _ i _ => s.size - (intOf i).toNat)
  case atStart => exact ⟨0, [], L0, Nat.zero_le _, rfl, HF0.out⟩
  case round =>
    clear HF0
    obtain ⟨k, cs, L, hk, rfl, F⟩ := hrel
    by_cases hlt : k < s.size
    · have hxk : (x0.feed ((bl s).take k)).Ok := HOK.out.feed _ (fun b hb => HBY.out b (List.mem_of_mem_take hb))
      have hbt := bl_take s k hlt
      have hx1 : (s[k]'hlt).toNat < 256 := UInt8.toNat_lt _
      have HS : Hid (x0.feed ((bl s).take (k + 1)) = (x0.feed ((bl s).take k)).byte ((s[k]'hlt).toNat : Int)) := by show _ = _; rw [hbt, feed_snoc]
      clear hbt
      generalize x0.feed ((bl s).take k) = x at *
      obtain ⟨ao, n, cap, rfl, hnone, hncap, haddr, F⟩ := F.cut
      have ik : (k : Int) < (s.size : Int) := by omega
      have hle1 : Leads wr := F.tb.le
      have hlo := F.lo
      have hsz := F.ch.size
      have lr := take_anyL (fb + 1) fb 0 x.r ((s[k]'hlt).toNat : Int) (.slice ao 0 cap) [] ({ wr with drawn := wr.drawn + 1 } : World) (F.f.rd.kept rfl) hxk.r (by omega) (by omega) (hle1.kept rfl) (by omega) (by omega) (F.l.blk (fun _ _ => rfl)) (by simp) (by show fb + 1 ≤ wr.heap.size; omega)
      have HF : Hid _ := F
      have HX : Hid x.Ok := hxk
      clear F hxk hle1
      cases ao with
      | none =>
        obtain ⟨rfl, rfl⟩ := hnone rfl
        clear hnone haddr
        go_wp2_with fail
        refine wp_region_held (S := fun _ => True) mixedC ?_
        refine takeL (i := 0) (d := 15) (v := .pointer (some ⟨fb, 0, none⟩)) rfl rfl (by kernel_rfl) (by kernel_rfl) (by kernel_rfl) (fun _ _ _ h => h) (Or.inl ⟨by rfl, by intro x hSx; go_simp; try (first | rfl | go_num)⟩) trivial ?_
        simp only [List.set_cons_zero, List.set_cons_succ]
        refine takeL (i := 1) (d := 16) (v := .pointer (some ⟨fb, 0, none⟩)) rfl rfl (by kernel_rfl) (by kernel_rfl) (by kernel_rfl) (fun _ _ _ h => h) (Or.inl ⟨by rfl, by intro x hSx; go_simp; try (first | rfl | go_num)⟩) trivial ?_
        simp only [List.set_cons_zero, List.set_cons_succ]
        refine takeL (i := 2) (d := 17) (v := .pointer (some ⟨fb, 0, none⟩)) rfl rfl (by kernel_rfl) (by kernel_rfl) (by kernel_rfl) (fun _ _ _ h => h) (Or.inl ⟨by rfl, by intro x hSx; go_simp; try (first | rfl | go_num)⟩) trivial ?_
        simp only [List.set_cons_zero, List.set_cons_succ]
        refine takeL (i := 3) (d := 18) (v := .slice none 0 0) rfl rfl (by kernel_rfl) (by kernel_rfl) (by kernel_rfl) (fun _ _ _ h => h) (Or.inl ⟨by rfl, by intro x hSx; go_simp; try (first | rfl | go_num)⟩) trivial ?_
        simp only [List.set_cons_zero, List.set_cons_succ]
        refine takeL (i := 4) (d := 19) (v := .slice none 0 0) rfl rfl (by kernel_rfl) (by kernel_rfl) (by kernel_rfl) (fun _ _ _ h => h) (Or.inl ⟨by rfl, by intro x hSx; go_simp; try (first | rfl | go_num)⟩) trivial ?_
        simp only [List.set_cons_zero, List.set_cons_succ]
        refine takeL (i := 5) (d := 20) (v := .string s) rfl rfl (by kernel_rfl) (by kernel_rfl) (by kernel_rfl) (fun _ _ _ h => h) (Or.inl ⟨by rfl, by intro x hSx; go_simp; try (first | rfl | go_num)⟩) trivial ?_
        simp only [List.set_cons_zero, List.set_cons_succ]
        refine takeL (i := 6) (d := 21) (v := .int .i64 (k : Int)) rfl rfl (by kernel_rfl) (by kernel_rfl) (by kernel_rfl) (fun _ _ _ h => h) (Or.inl ⟨by rfl, by intro x hSx; go_simp; try (first | rfl | go_num)⟩) trivial ?_
        simp only [List.set_cons_zero, List.set_cons_succ]
        refine takeL (i := 7) (d := 22) (v := .int .u8 ((s[k]'hlt).toNat : Int)) rfl rfl (by kernel_rfl) (by kernel_rfl) (by kernel_rfl) (fun _ _ _ h => h) (Or.inl ⟨by rfl, by intro x hSx; go_simp; try (first | rfl | go_num)⟩) trivial ?_
        simp only [List.set_cons_zero, List.set_cons_succ]
        refine wpAnyH_all (rs := [8]) (by kernel_rfl) (by simp) ?_
        intro i hi'
        rw [List.mem_singleton] at hi'
        subst hi'
        refine wpOp_step rfl fun Kq hKq => ?_
        rw [if_pos (by rfl)]
        refine wp_callL (f := 37) 23 [.tmp 17, .tmp 19, .tmp 22] #[80, 26, 5] rfl rfl [.pointer (some ⟨fb, 0, none⟩), .slice none 0 0, .int .u8 ((s[k]'hlt).toNat : Int)] rfl (by kernel_rfl) (fun v w' => FI w fb L0 v (x.r.take ((s[k]'hlt).toNat : Int)).2 ⟨(x.r.take ((s[k]'hlt).toNat : Int)).1, x.m, x.t⟩ w' L) (lr.mono fun e w' ⟨v1, q1, q2, q3, q4⟩ => ⟨v1, q1, HF.out.read ⟨q4.os, q4.tape, q4.output, q4.size, q4.block, q4.cell, q4.frozen, q4.own⟩ q3 (by simpa using q2)⟩) ?_
        intro v1 w1 F1
        refine hKq _ _ ⟨trivial, ?_⟩
        clear hKq lr HF
        simp only [List.set_cons_zero, List.set_cons_succ]
        refine takeL (i := 9) (d := 4) (v := v1) rfl rfl (by kernel_rfl) (by kernel_rfl) (by kernel_rfl) (fun _ _ _ h => h) (Or.inl ⟨by rfl, by intro x hSx; go_simp; try (first | rfl | go_num)⟩) trivial ?_
        simp only [List.set_cons_zero, List.set_cons_succ]
        refine wpAnyH_done (by kernel_rfl) ?_ _
        have hcb := take_bd HX.out.r (b := ((s[k]'hlt).toNat : Int)) (by omega) (by omega)
        have hcl := take_len x.r ((s[k]'hlt).toNat : Int)
        have HS2 : Hid (x0.feed ((bl s).take (k + 1)) = FS.chars ⟨(x.r.take ((s[k]'hlt).toNat : Int)).1, x.m, x.t⟩ (x.r.take ((s[k]'hlt).toNat : Int)).2) := HS.out
        have HX1 : Hid (FS.Ok ⟨(x.r.take ((s[k]'hlt).toNat : Int)).1, x.m, x.t⟩) := ⟨HX.out.r.take _, HX.out.m, HX.out.t⟩
        clear HS HX
        generalize (x.r.take ((s[k]'hlt).toNat : Int)).2 = cs1 at *
        generalize (⟨(x.r.take ((s[k]'hlt).toNat : Int)).1, x.m, x.t⟩ : FS) = x1 at *
        obtain ⟨a1, c1, rfl, _⟩ := row_form F1.l
        have HF1 : Hid _ := F1
        clear F1
        go_wp2_with fail
        go_loopw [26] (fun i wq => ∃ (j : Nat) (L : Lay), j ≤ cs1.length ∧ i = .int .i64 j ∧ FI w fb L0 (.slice a1 cs1.length c1) cs1 (x1.chars (cs1.take j)) wq L) (fun i _ => cs1.length - (intOf i).toNat)
        case atStart => exact ⟨0, L, Nat.zero_le _, rfl, HF1.out⟩
        case round =>
          clear HF1
          obtain ⟨j, L, hj, rfl, F⟩ := hrel
          by_cases hlt2 : j < cs1.length
          · have ij : (j : Int) < (cs1.length : Int) := by omega
            obtain ⟨_, _, ee, q⟩ := row_form F.l
            obtain ⟨g, hg, cc⟩ := q j (.int .i64 cs1[j]) (by simp [List.getElem?_eq_getElem hlt2])
            cases ee
            subst hg
            have hcb2 := hcb cs1[j] (List.getElem_mem hlt2)
            have HS3 : Hid (x1.chars (cs1.take (j + 1)) = (x1.chars (cs1.take j)).char cs1[j]) := by show _ = _; rw [List.take_succ_eq_append_getElem hlt2, chars_snoc]
            have hxk : (x1.chars (cs1.take j)).Ok := HX1.out.chars _ (fun c hc => hcb c (List.mem_of_mem_take hc))
            generalize cs1[j] = c at *
            generalize x1.chars (cs1.take j) = y at *
            have hl21 := take_len2 hxk.m.len c
            have hevk := take_evok hxk.m c
            have lm := take_walk fb 4 y.m c _ F.f.ma hxk.m hcb2.1 hcb2.2
            have HY : Hid (y.char c = ⟨y.r, (y.m.take c).1, if (y.m.take c).2.2 then y.t.take (y.m.take c).2.1 else y.t⟩) := rfl
            have HF : Hid (FI w fb L0 (.slice (some ⟨g, 0, none⟩) cs1.length c1) cs1 y wr L) := F
            have HYK : Hid y.Ok := hxk
            have HEV : Hid _ := hevk
            obtain ⟨⟨m', EV, B⟩, hT⟩ : ∃ z, y.m.take c = z := ⟨_, rfl⟩
            rw [hT] at lm HY hl21 HEV
            dsimp only at lm hl21
            clear F q hxk hevk hT
            go_wp2_with fail
            refine lm.mono ?_
            rintro e u1 ⟨rfl, mu1, ku1⟩
            dsimp only
            have F1 := HF.out.km ku1 mu1
            have HF1 : Hid _ := F1
            clear F1 HF lm ku1 mu1
            go_wp2_with (refine wp_eset _ rfl (.tmp 8) (.tmp 36) rfl u1.heap.size noEv EV rfl _ rfl rfl hl21 75 (heap_alloc_new u1 _) rfl ?_)
            intro u2 gu2 ru2 zu2
            have r2 : u1.grownBy u2 (some u1.heap.size) := grown_transX (World.grownBy_alloc u1 _ _) ru2
            have F2 := HF1.out.same (w' := u2) ⟨r2.os, r2.tape, r2.output, r2.size, fun k hk => r2.block k hk (fun e => by simp at e; omega)⟩
            have hno2 : ¬ L.own u1.heap.size := fun e => by have := HF1.out.f.te.own_lt e; omega
            have hl2 : u1.heap.size < u2.heap.size := blk_lt gu2
            have HF2 : Hid _ := F2
            clear F2 HF1 ru2 r2
            cases B with
            | false =>
              have HY2 : Hid (x1.chars (cs1.take (j + 1)) = ⟨y.r, m', y.t⟩) := HS3.out.trans HY.out
              clear HS3 HY
              go_wp2_with fail
              go_roundw
              case rel => exact ⟨j + 1, L, by omega, by go_num, by rw [HY2.out]; exact HF2.out⟩
              case measure => simp [intOf]; omega
            | true =>
              have HY2 : Hid (x1.chars (cs1.take (j + 1)) = ⟨y.r, m', y.t.take EV⟩) := HS3.out.trans HY.out
              have lt := ttake_any L y.t ({ u2 with drawn := u2.drawn + 1 } : World) (HF2.out.f.te.sm ((Ch.refl _ _).drewN 1)) HYK.out.t HF2.out.f.hi (HF2.out.tb.kept (fun _ _ => rfl)) EV (HEV.out rfl)
              have RG : ∀ u : World, u.heap[u1.heap.size]? = u2.heap[u1.heap.size]? → u.rangeAt u1.heap.size 0 (intC EV) := fun u hu i v hv => by
                rw [cell_of_row _ _ _ _ _ _ (hu.trans gu2), Nat.zero_add]
                simpa [intA] using hv
              have HH : World.cell? ({ u2 with drawn := u2.drawn + 1 } : World) ⟨fb, 23, none⟩ = some (.pointer (some ⟨L.tb, 0, none⟩)) ∧ World.rangeAt ({ u2 with drawn := u2.drawn + 1 } : World) u1.heap.size 0 (intC EV) := ⟨HF2.out.f.pt, RG _ rfl⟩
              clear HS3 HY
              go_wp2_with fail
              refine wp_region_held (S := fun x => x.cell? ⟨fb, 23, none⟩ = some (.pointer (some ⟨L.tb, 0, none⟩)) ∧ x.rangeAt u1.heap.size 0 (intC EV)) mixedC ?_
              refine takeL (i := 0) (d := 39) (v := .pointer (some ⟨fb, 0, none⟩)) rfl rfl (by kernel_rfl) (by kernel_rfl) (by kernel_rfl) (fun _ _ _ h => h) (Or.inl ⟨by rfl, by intro x hSx; go_simp; try (first | rfl | go_num)⟩) HH ?_
              simp only [List.set_cons_zero, List.set_cons_succ]
              refine takeL (i := 1) (d := 40) (v := .pointer (some ⟨fb, 0, none⟩)) rfl rfl (by kernel_rfl) (by kernel_rfl) (by kernel_rfl) (fun _ _ _ h => h) (Or.inl ⟨by rfl, by intro x hSx; go_simp; try (first | rfl | go_num)⟩) HH ?_
              simp only [List.set_cons_zero, List.set_cons_succ]
              refine takeL (i := 2) (d := 41) (v := .pointer (some ⟨fb, 23, none⟩)) rfl rfl (by kernel_rfl) (by kernel_rfl) (by kernel_rfl) (fun _ _ _ h => h) (Or.inl ⟨by rfl, by intro x hSx; go_simp; try (first | rfl | go_num)⟩) HH ?_
              simp only [List.set_cons_zero, List.set_cons_succ]
              refine takeL (i := 3) (d := 42) (v := .pointer (some ⟨L.tb, 0, none⟩)) rfl rfl (by kernel_rfl) (by kernel_rfl) (by kernel_rfl) (fun _ _ _ h => h) (Or.inl ⟨by rfl, by intro x hSx; have hSc := hSx.1; go_simp; try (first | rfl | go_num)⟩) HH ?_
              simp only [List.set_cons_zero, List.set_cons_succ]
              refine takeL (i := 4) (d := 43) (v := .agg (intA EV)) rfl rfl (by kernel_rfl) (by kernel_rfl) (by kernel_rfl) (fun _ _ _ h => h) (yieldsIf_load_mid (by rfl) 75 (.tmp 8) rfl u1.heap.size 0 rfl (intC EV) _ (fun x h => h.2) Tryd.underlying75 rfl (by rw [intC_length, hl21]; exact info44)) HH ?_
              simp only [List.set_cons_zero, List.set_cons_succ]
              refine wpAnyH_all (rs := [5]) (by kernel_rfl) (by simp) ?_
              intro i hi'
              rw [List.mem_singleton] at hi'
              subst hi'
              refine wpOp_step rfl fun Kq hKq => ?_
              rw [if_pos (by rfl)]
              refine wp_callL (f := 47) 44 [.tmp 42, .tmp 43] #[86, 75] rfl rfl [.pointer (some ⟨L.tb, 0, none⟩), .agg (intA EV)] rfl (by kernel_rfl) (fun v w' => v = .tuple #[] ∧ Next L u2 w' (y.t.take EV)) (lt.mono fun e w' ⟨q1, L', q2, q3, q4, q5⟩ => ⟨_, q1, rfl, L', q2, q3, ⟨q4.os, q4.tape, q4.output, q4.size, q4.block⟩, q5⟩) ?_
              rintro v3 u3 ⟨rfl, nx⟩
              have hk3 : u3.heap[u1.heap.size]? = u2.heap[u1.heap.size]? := by obtain ⟨L', _, _, q, _⟩ := nx; exact q.block _ hl2 hno2
              obtain ⟨L', F3⟩ := HF2.out.next nx
              refine hKq _ _ ⟨⟨by rw [F3.f.pt, F3.ltb, HF2.out.ltb], RG _ hk3⟩, ?_⟩
              clear hKq lt HH
              simp only [List.set_cons_zero, List.set_cons_succ]
              have HF3 : Hid _ := F3
              clear F3 nx HF2 RG hk3
              refine wpAnyH_done (by kernel_rfl) ?_ _
              go_wp2_with fail
              go_roundw
              case rel => exact ⟨j + 1, L', by omega, by go_num, by rw [HY2.out]; exact HF3.out⟩
              case measure => simp [intOf]; omega
          · have hjn : j = cs1.length := by omega
            subst hjn
            rw [List.take_length] at F
            have HF : Hid _ := F
            clear F
            go_wp2_with fail
            go_roundw
            case rel => exact ⟨k + 1, cs1, L, by omega, by go_num, by rw [HS2.out]; exact HF.out⟩
            case measure => simp [intOf]; omega
      | some ad =>
        obtain ⟨g0, o0, sp0⟩ := ad
        obtain ⟨ho0, hsp0⟩ := haddr _ rfl
        dsimp only at ho0 hsp0
        subst ho0 hsp0
        clear hnone haddr
        have ic : (0 : Int) ≤ (cap : Int) := by omega
        go_wp2_with fail
        refine wp_region_held (S := fun _ => True) mixedC ?_
        refine takeL (i := 0) (d := 15) (v := .pointer (some ⟨fb, 0, none⟩)) rfl rfl (by kernel_rfl) (by kernel_rfl) (by kernel_rfl) (fun _ _ _ h => h) (Or.inl ⟨by rfl, by intro x hSx; go_simp; try (first | rfl | go_num)⟩) trivial ?_
        simp only [List.set_cons_zero, List.set_cons_succ]
        refine takeL (i := 1) (d := 16) (v := .pointer (some ⟨fb, 0, none⟩)) rfl rfl (by kernel_rfl) (by kernel_rfl) (by kernel_rfl) (fun _ _ _ h => h) (Or.inl ⟨by rfl, by intro x hSx; go_simp; try (first | rfl | go_num)⟩) trivial ?_
        simp only [List.set_cons_zero, List.set_cons_succ]
        refine takeL (i := 2) (d := 17) (v := .pointer (some ⟨fb, 0, none⟩)) rfl rfl (by kernel_rfl) (by kernel_rfl) (by kernel_rfl) (fun _ _ _ h => h) (Or.inl ⟨by rfl, by intro x hSx; go_simp; try (first | rfl | go_num)⟩) trivial ?_
        simp only [List.set_cons_zero, List.set_cons_succ]
        refine takeL (i := 3) (d := 18) (v := .slice (some ⟨g0, 0, none⟩) n cap) rfl rfl (by kernel_rfl) (by kernel_rfl) (by kernel_rfl) (fun _ _ _ h => h) (Or.inl ⟨by rfl, by intro x hSx; go_simp; try (first | rfl | go_num)⟩) trivial ?_
        simp only [List.set_cons_zero, List.set_cons_succ]
        refine takeL (i := 4) (d := 19) (v := .slice (some ⟨g0, 0, none⟩) 0 cap) rfl rfl (by kernel_rfl) (by kernel_rfl) (by kernel_rfl) (fun _ _ _ h => h) (Or.inl ⟨by rfl, by intro x hSx; go_simp; try (first | rfl | go_num)⟩) trivial ?_
        simp only [List.set_cons_zero, List.set_cons_succ]
        refine takeL (i := 5) (d := 20) (v := .string s) rfl rfl (by kernel_rfl) (by kernel_rfl) (by kernel_rfl) (fun _ _ _ h => h) (Or.inl ⟨by rfl, by intro x hSx; go_simp; try (first | rfl | go_num)⟩) trivial ?_
        simp only [List.set_cons_zero, List.set_cons_succ]
        refine takeL (i := 6) (d := 21) (v := .int .i64 (k : Int)) rfl rfl (by kernel_rfl) (by kernel_rfl) (by kernel_rfl) (fun _ _ _ h => h) (Or.inl ⟨by rfl, by intro x hSx; go_simp; try (first | rfl | go_num)⟩) trivial ?_
        simp only [List.set_cons_zero, List.set_cons_succ]
        refine takeL (i := 7) (d := 22) (v := .int .u8 ((s[k]'hlt).toNat : Int)) rfl rfl (by kernel_rfl) (by kernel_rfl) (by kernel_rfl) (fun _ _ _ h => h) (Or.inl ⟨by rfl, by intro x hSx; go_simp; try (first | rfl | go_num)⟩) trivial ?_
        simp only [List.set_cons_zero, List.set_cons_succ]
        refine wpAnyH_all (rs := [8]) (by kernel_rfl) (by simp) ?_
        intro i hi'
        rw [List.mem_singleton] at hi'
        subst hi'
        refine wpOp_step rfl fun Kq hKq => ?_
        rw [if_pos (by rfl)]
        refine wp_callL (f := 37) 23 [.tmp 17, .tmp 19, .tmp 22] #[80, 26, 5] rfl rfl [.pointer (some ⟨fb, 0, none⟩), .slice (some ⟨g0, 0, none⟩) 0 cap, .int .u8 ((s[k]'hlt).toNat : Int)] rfl (by kernel_rfl) (fun v w' => FI w fb L0 v (x.r.take ((s[k]'hlt).toNat : Int)).2 ⟨(x.r.take ((s[k]'hlt).toNat : Int)).1, x.m, x.t⟩ w' L) (lr.mono fun e w' ⟨v1, q1, q2, q3, q4⟩ => ⟨v1, q1, HF.out.read ⟨q4.os, q4.tape, q4.output, q4.size, q4.block, q4.cell, q4.frozen, q4.own⟩ q3 (by simpa using q2)⟩) ?_
        intro v1 w1 F1
        refine hKq _ _ ⟨trivial, ?_⟩
        clear hKq lr HF
        simp only [List.set_cons_zero, List.set_cons_succ]
        refine takeL (i := 9) (d := 4) (v := v1) rfl rfl (by kernel_rfl) (by kernel_rfl) (by kernel_rfl) (fun _ _ _ h => h) (Or.inl ⟨by rfl, by intro x hSx; go_simp; try (first | rfl | go_num)⟩) trivial ?_
        simp only [List.set_cons_zero, List.set_cons_succ]
        refine wpAnyH_done (by kernel_rfl) ?_ _
        have hcb := take_bd HX.out.r (b := ((s[k]'hlt).toNat : Int)) (by omega) (by omega)
        have hcl := take_len x.r ((s[k]'hlt).toNat : Int)
        have HS2 : Hid (x0.feed ((bl s).take (k + 1)) = FS.chars ⟨(x.r.take ((s[k]'hlt).toNat : Int)).1, x.m, x.t⟩ (x.r.take ((s[k]'hlt).toNat : Int)).2) := HS.out
        have HX1 : Hid (FS.Ok ⟨(x.r.take ((s[k]'hlt).toNat : Int)).1, x.m, x.t⟩) := ⟨HX.out.r.take _, HX.out.m, HX.out.t⟩
        clear HS HX
        generalize (x.r.take ((s[k]'hlt).toNat : Int)).2 = cs1 at *
        generalize (⟨(x.r.take ((s[k]'hlt).toNat : Int)).1, x.m, x.t⟩ : FS) = x1 at *
        obtain ⟨a1, c1, rfl, _⟩ := row_form F1.l
        have HF1 : Hid _ := F1
        clear F1
        go_wp2_with fail
        go_loopw [26] (fun i wq => ∃ (j : Nat) (L : Lay), j ≤ cs1.length ∧ i = .int .i64 j ∧ FI w fb L0 (.slice a1 cs1.length c1) cs1 (x1.chars (cs1.take j)) wq L) (fun i _ => cs1.length - (intOf i).toNat)
        case atStart => exact ⟨0, L, Nat.zero_le _, rfl, HF1.out⟩
        case round =>
          clear HF1
          obtain ⟨j, L, hj, rfl, F⟩ := hrel
          by_cases hlt2 : j < cs1.length
          · have ij : (j : Int) < (cs1.length : Int) := by omega
            obtain ⟨_, _, ee, q⟩ := row_form F.l
            obtain ⟨g, hg, cc⟩ := q j (.int .i64 cs1[j]) (by simp [List.getElem?_eq_getElem hlt2])
            cases ee
            subst hg
            have hcb2 := hcb cs1[j] (List.getElem_mem hlt2)
            have HS3 : Hid (x1.chars (cs1.take (j + 1)) = (x1.chars (cs1.take j)).char cs1[j]) := by show _ = _; rw [List.take_succ_eq_append_getElem hlt2, chars_snoc]
            have hxk : (x1.chars (cs1.take j)).Ok := HX1.out.chars _ (fun c hc => hcb c (List.mem_of_mem_take hc))
            generalize cs1[j] = c at *
            generalize x1.chars (cs1.take j) = y at *
            have hl21 := take_len2 hxk.m.len c
            have hevk := take_evok hxk.m c
            have lm := take_walk fb 4 y.m c _ F.f.ma hxk.m hcb2.1 hcb2.2
            have HY : Hid (y.char c = ⟨y.r, (y.m.take c).1, if (y.m.take c).2.2 then y.t.take (y.m.take c).2.1 else y.t⟩) := rfl
            have HF : Hid (FI w fb L0 (.slice (some ⟨g, 0, none⟩) cs1.length c1) cs1 y wr L) := F
            have HYK : Hid y.Ok := hxk
            have HEV : Hid _ := hevk
            obtain ⟨⟨m', EV, B⟩, hT⟩ : ∃ z, y.m.take c = z := ⟨_, rfl⟩
            rw [hT] at lm HY hl21 HEV
            dsimp only at lm hl21
            clear F q hxk hevk hT
            go_wp2_with fail
            refine lm.mono ?_
            rintro e u1 ⟨rfl, mu1, ku1⟩
            dsimp only
            have F1 := HF.out.km ku1 mu1
            have HF1 : Hid _ := F1
            clear F1 HF lm ku1 mu1
            go_wp2_with (refine wp_eset _ rfl (.tmp 8) (.tmp 36) rfl u1.heap.size noEv EV rfl _ rfl rfl hl21 75 (heap_alloc_new u1 _) rfl ?_)
            intro u2 gu2 ru2 zu2
            have r2 : u1.grownBy u2 (some u1.heap.size) := grown_transX (World.grownBy_alloc u1 _ _) ru2
            have F2 := HF1.out.same (w' := u2) ⟨r2.os, r2.tape, r2.output, r2.size, fun k hk => r2.block k hk (fun e => by simp at e; omega)⟩
            have hno2 : ¬ L.own u1.heap.size := fun e => by have := HF1.out.f.te.own_lt e; omega
            have hl2 : u1.heap.size < u2.heap.size := blk_lt gu2
            have HF2 : Hid _ := F2
            clear F2 HF1 ru2 r2
            cases B with
            | false =>
              have HY2 : Hid (x1.chars (cs1.take (j + 1)) = ⟨y.r, m', y.t⟩) := HS3.out.trans HY.out
              clear HS3 HY
              go_wp2_with fail
              go_roundw
              case rel => exact ⟨j + 1, L, by omega, by go_num, by rw [HY2.out]; exact HF2.out⟩
              case measure => simp [intOf]; omega
            | true =>
              have HY2 : Hid (x1.chars (cs1.take (j + 1)) = ⟨y.r, m', y.t.take EV⟩) := HS3.out.trans HY.out
              have lt := ttake_any L y.t ({ u2 with drawn := u2.drawn + 1 } : World) (HF2.out.f.te.sm ((Ch.refl _ _).drewN 1)) HYK.out.t HF2.out.f.hi (HF2.out.tb.kept (fun _ _ => rfl)) EV (HEV.out rfl)
              have RG : ∀ u : World, u.heap[u1.heap.size]? = u2.heap[u1.heap.size]? → u.rangeAt u1.heap.size 0 (intC EV) := fun u hu i v hv => by
                rw [cell_of_row _ _ _ _ _ _ (hu.trans gu2), Nat.zero_add]
                simpa [intA] using hv
              have HH : World.cell? ({ u2 with drawn := u2.drawn + 1 } : World) ⟨fb, 23, none⟩ = some (.pointer (some ⟨L.tb, 0, none⟩)) ∧ World.rangeAt ({ u2 with drawn := u2.drawn + 1 } : World) u1.heap.size 0 (intC EV) := ⟨HF2.out.f.pt, RG _ rfl⟩
              clear HS3 HY
              go_wp2_with fail
              refine wp_region_held (S := fun x => x.cell? ⟨fb, 23, none⟩ = some (.pointer (some ⟨L.tb, 0, none⟩)) ∧ x.rangeAt u1.heap.size 0 (intC EV)) mixedC ?_
              refine takeL (i := 0) (d := 39) (v := .pointer (some ⟨fb, 0, none⟩)) rfl rfl (by kernel_rfl) (by kernel_rfl) (by kernel_rfl) (fun _ _ _ h => h) (Or.inl ⟨by rfl, by intro x hSx; go_simp; try (first | rfl | go_num)⟩) HH ?_
              simp only [List.set_cons_zero, List.set_cons_succ]
              refine takeL (i := 1) (d := 40) (v := .pointer (some ⟨fb, 0, none⟩)) rfl rfl (by kernel_rfl) (by kernel_rfl) (by kernel_rfl) (fun _ _ _ h => h) (Or.inl ⟨by rfl, by intro x hSx; go_simp; try (first | rfl | go_num)⟩) HH ?_
              simp only [List.set_cons_zero, List.set_cons_succ]
              refine takeL (i := 2) (d := 41) (v := .pointer (some ⟨fb, 23, none⟩)) rfl rfl (by kernel_rfl) (by kernel_rfl) (by kernel_rfl) (fun _ _ _ h => h) (Or.inl ⟨by rfl, by intro x hSx; go_simp; try (first | rfl | go_num)⟩) HH ?_
              simp only [List.set_cons_zero, List.set_cons_succ]
              refine takeL (i := 3) (d := 42) (v := .pointer (some ⟨L.tb, 0, none⟩)) rfl rfl (by kernel_rfl) (by kernel_rfl) (by kernel_rfl) (fun _ _ _ h => h) (Or.inl ⟨by rfl, by intro x hSx; have hSc := hSx.1; go_simp; try (first | rfl | go_num)⟩) HH ?_
              simp only [List.set_cons_zero, List.set_cons_succ]
              refine takeL (i := 4) (d := 43) (v := .agg (intA EV)) rfl rfl (by kernel_rfl) (by kernel_rfl) (by kernel_rfl) (fun _ _ _ h => h) (yieldsIf_load_mid (by rfl) 75 (.tmp 8) rfl u1.heap.size 0 rfl (intC EV) _ (fun x h => h.2) Tryd.underlying75 rfl (by rw [intC_length, hl21]; exact info44)) HH ?_
              simp only [List.set_cons_zero, List.set_cons_succ]
              refine wpAnyH_all (rs := [5]) (by kernel_rfl) (by simp) ?_
              intro i hi'
              rw [List.mem_singleton] at hi'
              subst hi'
              refine wpOp_step rfl fun Kq hKq => ?_
              rw [if_pos (by rfl)]
              refine wp_callL (f := 47) 44 [.tmp 42, .tmp 43] #[86, 75] rfl rfl [.pointer (some ⟨L.tb, 0, none⟩), .agg (intA EV)] rfl (by kernel_rfl) (fun v w' => v = .tuple #[] ∧ Next L u2 w' (y.t.take EV)) (lt.mono fun e w' ⟨q1, L', q2, q3, q4, q5⟩ => ⟨_, q1, rfl, L', q2, q3, ⟨q4.os, q4.tape, q4.output, q4.size, q4.block⟩, q5⟩) ?_
              rintro v3 u3 ⟨rfl, nx⟩
              have hk3 : u3.heap[u1.heap.size]? = u2.heap[u1.heap.size]? := by obtain ⟨L', _, _, q, _⟩ := nx; exact q.block _ hl2 hno2
              obtain ⟨L', F3⟩ := HF2.out.next nx
              refine hKq _ _ ⟨⟨by rw [F3.f.pt, F3.ltb, HF2.out.ltb], RG _ hk3⟩, ?_⟩
              clear hKq lt HH
              simp only [List.set_cons_zero, List.set_cons_succ]
              have HF3 : Hid _ := F3
              clear F3 nx HF2 RG hk3
              refine wpAnyH_done (by kernel_rfl) ?_ _
              go_wp2_with fail
              go_roundw
              case rel => exact ⟨j + 1, L', by omega, by go_num, by rw [HY2.out]; exact HF3.out⟩
              case measure => simp [intOf]; omega
          · have hjn : j = cs1.length := by omega
            subst hjn
            rw [List.take_length] at F
            have HF : Hid _ := F
            clear F
            go_wp2_with fail
            go_roundw
            case rel => exact ⟨k + 1, cs1, L, by omega, by go_num, by rw [HS2.out]; exact HF.out⟩
            case measure => simp [intOf]; omega
    · have hkn : k = s.size := by omega
      subst hkn
      have hba := bl_all s
      rw [hba] at F
      have HF : Hid _ := F
      clear F hba
      go_wp2_with fail
      go_end0
      exact ⟨rfl, _, cs, L, HF.out⟩
end Go.Proofs.YtheibfffilomcaaDoor

