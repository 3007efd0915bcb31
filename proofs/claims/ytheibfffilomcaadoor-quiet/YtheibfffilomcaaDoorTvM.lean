/- Tq Tr Ts Tt Tu Tv together. -/
import Derived.Test.YtheibfffilomcaaDoorTpM
import Derived.Test.YtheibfffilomcaaDoorTiM

/- The walks of clearRow, clearOtherRows, isInRegion. -/
namespace Go.Proofs.YtheibfffilomcaaDoor
open Go.RowKit

set_option maxRecDepth 100000 in
set_option maxHeartbeats 1000000 in
theorem clearRow_any (L : Lay) (s : TS) (w : World) (ht : TAt w L s) (hi : s.Inv) (what : Int) : Calls Tryd.prog 117 #[.pointer (some ⟨L.tb, 0, none⟩), .int .i64 what] w fun e w' => e = .returned (.tuple #[]) ∧ TAt w' L (s.clearRow what) ∧ Ch L.own w w' := by
  have c43 := ht.c 43 _ rfl
  obtain ⟨cc, hcc⟩ : ∃ cc : Nat, s.col = (cc : Int) := ⟨s.col.toNat, by have := hi.col0; omega⟩
  have hcl : cc < s.cols := by have := hi.col1; omega
  have hcn : s.col.toNat = cc := by rw [hcc]; rfl
  have hc1 := hi.c1
  have hc2 := hi.c2
  have v1 : IntKind.i64.wrap ((cc : Int) + 1) = (cc : Int) + 1 := IntWalk.i64_in _ (by omega)
  have HT : Hid (TAt w L s) := ht
  have HI : Hid s.Inv := hi
  clear ht hi
  rcases (show what = 0 ∨ what = 1 ∨ what = 2 ∨ ¬ (what = 0 ∨ what = 1 ∨ what = 2) by omega) with rfl | rfl | rfl | hw
  · rw [show s.clearRow 0 = s.setRowNow (clearR s.rowNow s.col.toNat s.cols) from rfl, hcn]
    go_enter Tryd.func117, Tryd.ntmps117
    go_wp2_with fail
    obtain ⟨g, hg, hrow, hlen⟩ := HT.out.rowg HI.out
    have HU0 : TAt ({ w with drawn := World.drawn w + 1 } : World) L s := HT.out.sm ((Ch.refl _ _).drewN 1)
    have HH : World.cell? ({ w with drawn := World.drawn w + 1 } : World) ⟨L.tb, 27, none⟩ = some (.int .i64 (cc : Int)) := by rw [← hcc]; exact HU0.c 27 _ rfl
    have HG : Hid _ := hg
    have HRW : Hid (RowAt (w) g s.rowNow) := hrow
    have HLN : Hid (s.rowNow.length = s.cols) := hlen
    clear hg hrow hlen
    refine wp_region_held (S := fun x => x.cell? ⟨L.tb, 27, none⟩ = some (.int .i64 (cc : Int))) mixedC ?_
    refine takeL (i := 0) (d := 13) (v := .pointer (some ⟨L.tb, 0, none⟩)) rfl rfl (by kernel_rfl) (by kernel_rfl) (by kernel_rfl) (fun _ _ _ h => h) (Or.inl ⟨by rfl, by intro x hSx; go_simp; try (first | rfl | go_num)⟩) HH ?_
    simp only [List.set_cons_zero, List.set_cons_succ]
    refine takeL (i := 2) (d := 15) (v := .pointer (some ⟨L.tb, 0, none⟩)) rfl rfl (by kernel_rfl) (by kernel_rfl) (by kernel_rfl) (fun _ _ _ h => h) (Or.inl ⟨by rfl, by intro x hSx; go_simp; try (first | rfl | go_num)⟩) HH ?_
    simp only [List.set_cons_zero, List.set_cons_succ]
    refine takeL (i := 3) (d := 16) (v := .pointer (some ⟨L.tb, 0, none⟩)) rfl rfl (by kernel_rfl) (by kernel_rfl) (by kernel_rfl) (fun _ _ _ h => h) (Or.inl ⟨by rfl, by intro x hSx; go_simp; try (first | rfl | go_num)⟩) HH ?_
    simp only [List.set_cons_zero, List.set_cons_succ]
    refine takeL (i := 4) (d := 17) (v := .pointer (some ⟨L.tb, 26, none⟩)) rfl rfl (by kernel_rfl) (by kernel_rfl) (by kernel_rfl) (fun _ _ _ h => h) (Or.inl ⟨by rfl, by intro x hSx; go_simp; try (first | rfl | go_num)⟩) HH ?_
    simp only [List.set_cons_zero, List.set_cons_succ]
    refine takeL (i := 5) (d := 18) (v := .pointer (some ⟨L.tb, 26, none⟩)) rfl rfl (by kernel_rfl) (by kernel_rfl) (by kernel_rfl) (fun _ _ _ h => h) (Or.inl ⟨by rfl, by intro x hSx; go_simp; try (first | rfl | go_num)⟩) HH ?_
    simp only [List.set_cons_zero, List.set_cons_succ]
    refine takeL (i := 6) (d := 19) (v := .pointer (some ⟨L.tb, 27, none⟩)) rfl rfl (by kernel_rfl) (by kernel_rfl) (by kernel_rfl) (fun _ _ _ h => h) (Or.inl ⟨by rfl, by intro x hSx; go_simp; try (first | rfl | go_num)⟩) HH ?_
    simp only [List.set_cons_zero, List.set_cons_succ]
    refine takeL (i := 7) (d := 20) (v := .int .i64 (cc : Int)) rfl rfl (by kernel_rfl) (by kernel_rfl) (by kernel_rfl) (fun _ _ _ h => h) (Or.inl ⟨by rfl, by intro x hSx; have hSc := hSx; go_simp; try (first | rfl | go_num)⟩) HH ?_
    simp only [List.set_cons_zero, List.set_cons_succ]
    refine takeL (i := 8) (d := 21) (v := .int .i64 (s.cols : Int)) rfl rfl (by kernel_rfl) (by kernel_rfl) (by kernel_rfl) (fun _ _ _ h => h) (Or.inl ⟨by rfl, by intro x hSx; go_simp; try (first | rfl | go_num)⟩) HH ?_
    simp only [List.set_cons_zero, List.set_cons_succ]
    refine wpAnyH_all (rs := [1]) (by kernel_rfl) (by simp) ?_
    intro i hi'
    rw [List.mem_singleton] at hi'
    subst hi'
    refine wpOp_step rfl fun Kq hKq => ?_
    rw [if_pos (by rfl)]
    refine wp_callL (f := 75) 14 [.tmp 13] #[86] rfl rfl [.pointer (some ⟨L.tb, 0, none⟩)] rfl (by kernel_rfl) (fun v w' => v = .slice (some ⟨g, 0, none⟩) s.cols s.cols ∧ ∃ m, w' = World.drewN _ m) ((row_any L s _ HU0 HI.out g HG.out).mono fun e w' h => ⟨_, h.1, rfl, h.2⟩) ?_
    rintro v2 w2 ⟨rfl, mm, rfl⟩
    refine hKq _ _ ⟨HH, ?_⟩
    clear hKq
    simp only [List.set_cons_zero, List.set_cons_succ]
    refine wpAnyH_all (rs := [9]) (by kernel_rfl) (by simp) ?_
    intro i hi'
    rw [List.mem_singleton] at hi'
    subst hi'
    refine wpOp_step rfl fun Kq hKq => ?_
    rw [if_pos (by rfl)]
    refine wp_callL (f := 120) 22 [.tmp 14, .tmp 20, .tmp 21] #[108, 3, 3] rfl rfl [.slice (some ⟨g, 0, none⟩) s.cols s.cols, .int .i64 (cc : Int), .int .i64 (s.cols : Int)] rfl (by kernel_rfl) (fun v w' => v = .tuple #[] ∧ RowAt w' g (clearR s.rowNow cc s.cols) ∧ Ch (· = g) (w) w') ((clear_any g cc s.cols s.cols s.rowNow (World.drewN ({ w with drawn := World.drawn w + 1 } : World) mm) HRW.out HLN.out hcl (Nat.le_refl _) (by omega)).mono fun e w' h => ⟨_, h.1, rfl, h.2.1, ⟨h.2.2.os, h.2.2.tape, h.2.2.output, h.2.2.size, h.2.2.block⟩⟩) ?_
    rintro v3 U2 ⟨rfl, r2, k2⟩
    have T2 : TAt U2 L (s.setRowNow (clearR s.rowNow cc s.cols)) := HT.out.setRowNow HG.out r2 (by rw [clearR_length _ _ _ (by rw [HLN.out]; exact Nat.le_refl _) (by omega)]; exact HLN.out) k2
    have hne : L.tb ≠ g := HT.out.row_ne HG.out
    have hbk := k2.block L.tb HT.out.lt hne
    refine hKq _ _ ⟨(World.cell?_of_block hbk).trans HH, ?_⟩
    clear hKq
    simp only [List.set_cons_zero, List.set_cons_succ]
    have HC2 : Hid (Ch L.own (w) U2) := k2.mono fun k _ e => e ▸ Lay.gs_own (List.mem_of_getElem? HG.out)
    have HT2 : Hid _ := T2
    clear T2 r2 k2 hne hbk HG HRW HLN HU0 HH
    refine wpAnyH_done (by kernel_rfl) ?_ _
    go_wp2_with fail
    go_end0
    exact ⟨rfl, HT2.out, HC2.out⟩
  · rw [show s.clearRow 1 = s.setRowNow (clearR s.rowNow 0 (s.col.toNat + 1)) from rfl, hcn]
    go_enter Tryd.func117, Tryd.ntmps117
    go_wp2_with fail
    obtain ⟨g, hg, hrow, hlen⟩ := HT.out.rowg HI.out
    have HU0 : TAt ({ w with drawn := World.drawn w + 1 } : World) L s := HT.out.sm ((Ch.refl _ _).drewN 1)
    have HH : World.cell? ({ w with drawn := World.drawn w + 1 } : World) ⟨L.tb, 27, none⟩ = some (.int .i64 (cc : Int)) := by rw [← hcc]; exact HU0.c 27 _ rfl
    have HG : Hid _ := hg
    have HRW : Hid (RowAt (w) g s.rowNow) := hrow
    have HLN : Hid (s.rowNow.length = s.cols) := hlen
    clear hg hrow hlen
    refine wp_region_held (S := fun x => x.cell? ⟨L.tb, 27, none⟩ = some (.int .i64 (cc : Int))) mixedC ?_
    refine takeL (i := 0) (d := 25) (v := .pointer (some ⟨L.tb, 0, none⟩)) rfl rfl (by kernel_rfl) (by kernel_rfl) (by kernel_rfl) (fun _ _ _ h => h) (Or.inl ⟨by rfl, by intro x hSx; go_simp; try (first | rfl | go_num)⟩) HH ?_
    simp only [List.set_cons_zero, List.set_cons_succ]
    refine takeL (i := 2) (d := 27) (v := .pointer (some ⟨L.tb, 0, none⟩)) rfl rfl (by kernel_rfl) (by kernel_rfl) (by kernel_rfl) (fun _ _ _ h => h) (Or.inl ⟨by rfl, by intro x hSx; go_simp; try (first | rfl | go_num)⟩) HH ?_
    simp only [List.set_cons_zero, List.set_cons_succ]
    refine takeL (i := 3) (d := 28) (v := .pointer (some ⟨L.tb, 0, none⟩)) rfl rfl (by kernel_rfl) (by kernel_rfl) (by kernel_rfl) (fun _ _ _ h => h) (Or.inl ⟨by rfl, by intro x hSx; go_simp; try (first | rfl | go_num)⟩) HH ?_
    simp only [List.set_cons_zero, List.set_cons_succ]
    refine takeL (i := 4) (d := 29) (v := .pointer (some ⟨L.tb, 26, none⟩)) rfl rfl (by kernel_rfl) (by kernel_rfl) (by kernel_rfl) (fun _ _ _ h => h) (Or.inl ⟨by rfl, by intro x hSx; go_simp; try (first | rfl | go_num)⟩) HH ?_
    simp only [List.set_cons_zero, List.set_cons_succ]
    refine takeL (i := 5) (d := 30) (v := .pointer (some ⟨L.tb, 26, none⟩)) rfl rfl (by kernel_rfl) (by kernel_rfl) (by kernel_rfl) (fun _ _ _ h => h) (Or.inl ⟨by rfl, by intro x hSx; go_simp; try (first | rfl | go_num)⟩) HH ?_
    simp only [List.set_cons_zero, List.set_cons_succ]
    refine takeL (i := 6) (d := 31) (v := .pointer (some ⟨L.tb, 27, none⟩)) rfl rfl (by kernel_rfl) (by kernel_rfl) (by kernel_rfl) (fun _ _ _ h => h) (Or.inl ⟨by rfl, by intro x hSx; go_simp; try (first | rfl | go_num)⟩) HH ?_
    simp only [List.set_cons_zero, List.set_cons_succ]
    refine takeL (i := 7) (d := 32) (v := .int .i64 (cc : Int)) rfl rfl (by kernel_rfl) (by kernel_rfl) (by kernel_rfl) (fun _ _ _ h => h) (Or.inl ⟨by rfl, by intro x hSx; have hSc := hSx; go_simp; try (first | rfl | go_num)⟩) HH ?_
    simp only [List.set_cons_zero, List.set_cons_succ]
    refine takeL (i := 8) (d := 33) (v := .int .i64 ((cc : Int) + 1)) rfl rfl (by kernel_rfl) (by kernel_rfl) (by kernel_rfl) (fun _ _ _ h => h) (Or.inl ⟨by rfl, by intro x hSx; go_simp; try (first | rfl | go_num)⟩) HH ?_
    simp only [List.set_cons_zero, List.set_cons_succ]
    refine wpAnyH_all (rs := [1]) (by kernel_rfl) (by simp) ?_
    intro i hi'
    rw [List.mem_singleton] at hi'
    subst hi'
    refine wpOp_step rfl fun Kq hKq => ?_
    rw [if_pos (by rfl)]
    refine wp_callL (f := 75) 26 [.tmp 25] #[86] rfl rfl [.pointer (some ⟨L.tb, 0, none⟩)] rfl (by kernel_rfl) (fun v w' => v = .slice (some ⟨g, 0, none⟩) s.cols s.cols ∧ ∃ m, w' = World.drewN _ m) ((row_any L s _ HU0 HI.out g HG.out).mono fun e w' h => ⟨_, h.1, rfl, h.2⟩) ?_
    rintro v2 w2 ⟨rfl, mm, rfl⟩
    refine hKq _ _ ⟨HH, ?_⟩
    clear hKq
    simp only [List.set_cons_zero, List.set_cons_succ]
    refine wpAnyH_all (rs := [9]) (by kernel_rfl) (by simp) ?_
    intro i hi'
    rw [List.mem_singleton] at hi'
    subst hi'
    refine wpOp_step rfl fun Kq hKq => ?_
    rw [if_pos (by rfl)]
    refine wp_callL (f := 120) 34 [.tmp 26, .const (.int .i64 0), .tmp 33] #[108, 3, 3] rfl rfl [.slice (some ⟨g, 0, none⟩) s.cols s.cols, .int .i64 ((0 : Nat) : Int), .int .i64 ((cc + 1 : Nat) : Int)] rfl (by kernel_rfl) (fun v w' => v = .tuple #[] ∧ RowAt w' g (clearR s.rowNow 0 (cc + 1)) ∧ Ch (· = g) (w) w') ((clear_any g 0 (cc + 1) s.cols s.rowNow (World.drewN ({ w with drawn := World.drawn w + 1 } : World) mm) HRW.out HLN.out (by omega) (by omega) (by omega)).mono fun e w' h => ⟨_, h.1, rfl, h.2.1, ⟨h.2.2.os, h.2.2.tape, h.2.2.output, h.2.2.size, h.2.2.block⟩⟩) ?_
    rintro v3 U2 ⟨rfl, r2, k2⟩
    have T2 : TAt U2 L (s.setRowNow (clearR s.rowNow 0 (cc + 1))) := HT.out.setRowNow HG.out r2 (by rw [clearR_length _ _ _ (by rw [HLN.out]; omega) (by omega)]; exact HLN.out) k2
    have hne : L.tb ≠ g := HT.out.row_ne HG.out
    have hbk := k2.block L.tb HT.out.lt hne
    refine hKq _ _ ⟨(World.cell?_of_block hbk).trans HH, ?_⟩
    clear hKq
    simp only [List.set_cons_zero, List.set_cons_succ]
    have HC2 : Hid (Ch L.own (w) U2) := k2.mono fun k _ e => e ▸ Lay.gs_own (List.mem_of_getElem? HG.out)
    have HT2 : Hid _ := T2
    clear T2 r2 k2 hne hbk HG HRW HLN HU0 HH
    refine wpAnyH_done (by kernel_rfl) ?_ _
    go_wp2_with fail
    go_end0
    exact ⟨rfl, HT2.out, HC2.out⟩
  · rw [show s.clearRow 2 = s.setRowNow (clearR s.rowNow 0 s.cols) from rfl]
    obtain ⟨g, hg, hrow, hlen⟩ := HT.out.rowg HI.out
    have l1 := row_any L s w HT.out HI.out g hg
    have HG : Hid _ := hg
    have HRW : Hid (RowAt w g s.rowNow) := hrow
    have HLN : Hid (s.rowNow.length = s.cols) := hlen
    have l2 : ∀ m, _ := fun m => clear_any g 0 s.cols s.cols s.rowNow (w.drewN m) HRW.out HLN.out (by omega) (Nat.le_refl _) (by omega)
    simp only [Int.natCast_zero] at l2
    clear hg hrow hlen
    go_enter Tryd.func117, Tryd.ntmps117
    go_wp2_with (first | (go_at_call 75; refine l1.mono ?_; rintro e w1 ⟨rfl, m1, rfl⟩) | (go_at_call 120; refine (l2 _).mono ?_; rintro e w2 ⟨rfl, r2, k2⟩))
    go_end0
    refine ⟨rfl, (HT.out.drewN m1).setRowNow HG.out r2 (by rw [clearR_length _ _ _ (by rw [HLN.out]; exact Nat.le_refl _) (by omega)]; exact HLN.out) k2, own_drewN.trans (k2.mono fun k _ e => e ▸ Lay.gs_own (List.mem_of_getElem? HG.out))⟩
  · have e : s.clearRow what = s := by
      unfold TS.clearRow
      simp only [if_neg (show ¬ what = 0 by omega), if_neg (show ¬ what = 1 by omega), if_neg (show ¬ what = 2 by omega)]
    rw [e]
    have b0 : (what == 0) = false := by simp; omega
    have b1 : (what == 1) = false := by simp; omega
    have b2 : (what == 2) = false := by simp; omega
    clear e hw
    go_enter Tryd.func117, Tryd.ntmps117
    go_wp2_with fail
    go_end0
    exact ⟨rfl, HT.out, Ch.refl _ _⟩

theorem clearOther_any (L : Lay) (s : TS) (w : World) (ht : TAt w L s) (hi : s.Inv) (what : Int) : Calls Tryd.prog 118 #[.pointer (some ⟨L.tb, 0, none⟩), .int .i64 what] w fun e w' => e = .returned (.tuple #[]) ∧ TAt w' L (s.clearOther what) ∧ Ch L.own w w' := by
  have l1 := shown_any L s w ht hi
  obtain ⟨k, hk, c0⟩ : ∃ k : Nat, (if s.shown = 0 then 0 else 13) = k ∧ w.cell? ⟨L.tb, k, none⟩ = some (.slice (some ⟨L.sb s, 0, none⟩) s.rows s.rows) := by
    unfold Lay.sb
    by_cases h : s.shown = 0
    · exact ⟨0, by rw [if_pos h], by rw [if_pos h]; exact ht.c 0 _ rfl⟩
    · exact ⟨13, by rw [if_neg h], by rw [if_neg h]; exact ht.c 13 _ rfl⟩
  rw [hk] at l1
  have c26 := ht.c 26 _ rfl
  obtain ⟨q, hq⟩ : ∃ q : Nat, s.row = (q : Int) := ⟨s.row.toNat, by have := hi.row0; omega⟩
  have hql : q < s.rows := by have := hi.row1; omega
  have hqn : s.row.toNat = q := by rw [hq]; rfl
  rw [hq] at c26
  have hr2 := hi.r2
  have hc2 := hi.c2
  have hlc := hi.lcur
  have v1 : IntKind.i64.wrap ((q : Int) + 1) = (q : Int) + 1 := IntWalk.i64_in _ (by omega)
  have t1 : ((q : Int) + 1).toNat = q + 1 := by omega
  have j1 : (0 : Int) ≤ (q : Int) + 1 := by omega
  have j2 : (q : Int) + 1 ≤ (s.rows : Int) := by omega
  have HT : Hid (TAt w L s) := ht
  have fin : ∀ m a n w', ShAt w' (L.sb s) (L.gs s) s.cols (clearRows s.cur a s.cols n) → Ch (· ∈ L.gs s) (w.drewN m) w' → TAt w' L (s.setCur (clearRows s.cur a s.cols n)) ∧ Ch L.own w w' := fun m a n w' h c => ⟨(ht.drewN m).setCur c h, own_drewN.trans (gs_ch c)⟩
  have lc : ∀ m a n cap, a + n ≤ s.rows → _ := fun m a n cap (h : a + n ≤ s.rows) => sclear_any (L.sb s) a n cap s.cols (L.gs s) s.cur (w.drewN m) (ht.drewN m).cur (by rw [hlc]; exact h) (by omega) (by omega)
  clear ht hi hk
  rcases (show what = 0 ∨ what = 1 ∨ what = 2 ∨ ¬ (what = 0 ∨ what = 1 ∨ what = 2) by omega) with rfl | rfl | rfl | hw
  · rw [show s.clearOther 0 = s.setCur (clearRows s.cur (s.row.toNat + 1) s.cols (s.rows - (s.row.toNat + 1))) from rfl, hqn]
    by_cases he : s.rows = q + 1
    · rw [he, Nat.sub_self]
      have j3 : s.rows - (q + 1) = 0 := by omega
      go_enter Tryd.func118, Tryd.ntmps118
      go_wp2_with (first | (go_at_call 98; refine l1.mono ?_; rintro e w1 ⟨rfl, m1, rfl⟩) | (go_at_call 130; refine (lc _ 0 0 _ (by omega)).mono ?_; rintro e w2 ⟨rfl, h2, c2⟩))
      go_end0
      exact ⟨rfl, (fin _ 0 0 _ h2 c2).1, (fin _ 0 0 _ h2 c2).2⟩
    · go_enter Tryd.func118, Tryd.ntmps118
      go_wp2_with (first | (go_at_call 98; refine l1.mono ?_; rintro e w1 ⟨rfl, m1, rfl⟩) | (go_at_call 130; refine (lc _ (q + 1) (s.rows - (q + 1)) _ (by omega)).mono ?_; rintro e w2 ⟨rfl, h2, c2⟩))
      go_end0
      exact ⟨rfl, (fin _ _ _ _ h2 c2).1, (fin _ _ _ _ h2 c2).2⟩
  · rw [show s.clearOther 1 = s.setCur (clearRows s.cur 0 s.cols s.row.toNat) from rfl, hqn]
    have i1 : (q : Int) ≤ (s.rows : Int) := by omega
    have i2 : q ≤ s.rows := by omega
    go_enter Tryd.func118, Tryd.ntmps118
    go_wp2_with (first | (go_at_call 98; refine l1.mono ?_; rintro e w1 ⟨rfl, m1, rfl⟩) | (go_at_call 130; refine (lc _ 0 q _ (by omega)).mono ?_; rintro e w2 ⟨rfl, h2, c2⟩))
    go_end0
    exact ⟨rfl, (fin _ _ _ _ h2 c2).1, (fin _ _ _ _ h2 c2).2⟩
  · rw [show s.clearOther 2 = s.setCur (clearRows s.cur 0 s.cols s.rows) from rfl]
    go_enter Tryd.func118, Tryd.ntmps118
    go_wp2_with (first | (go_at_call 98; refine l1.mono ?_; rintro e w1 ⟨rfl, m1, rfl⟩) | (go_at_call 130; refine (lc _ 0 s.rows _ (by omega)).mono ?_; rintro e w2 ⟨rfl, h2, c2⟩))
    go_end0
    exact ⟨rfl, (fin _ _ _ _ h2 c2).1, (fin _ _ _ _ h2 c2).2⟩
  · have e : s.clearOther what = s := by
      unfold TS.clearOther
      simp only [if_neg (show ¬ what = 0 by omega), if_neg (show ¬ what = 1 by omega), if_neg (show ¬ what = 2 by omega)]
    rw [e]
    have b0 : (what == 0) = false := by simp; omega
    have b1 : (what == 1) = false := by simp; omega
    have b2 : (what == 2) = false := by simp; omega
    clear e hw
    go_enter Tryd.func118, Tryd.ntmps118
    go_wp2_with (go_at_call 98; refine l1.mono ?_; rintro e w1 ⟨rfl, m1, rfl⟩)
    go_end0
    exact ⟨rfl, HT.out.drewN _, own_drewN⟩

theorem inRegion_any (L : Lay) (s : TS) (w : World) (ht : TAt w L s) : Calls Tryd.prog 121 #[.pointer (some ⟨L.tb, 0, none⟩)] w fun e w' => e = .returned (.bool s.inRegion) ∧ ∃ m, w' = w.drewN m := by
  have c26 := ht.c 26 _ rfl
  have c38 := ht.c 38 _ rfl
  have c39 := ht.c 39 _ rfl
  have hX : s.inRegion = decide (s.top ≤ s.row ∧ s.row ≤ s.bottom) := rfl
  generalize s.inRegion = X at *
  have HX : Hid _ := hX
  clear ht hX
  by_cases h1 : s.top ≤ s.row
  · by_cases h2 : s.row ≤ s.bottom
    · go_enter Tryd.func121, Tryd.ntmps121
      go_wp2_with fail
      go_quiet (fail)
      go_wp2_with fail
      go_ret
      exact ⟨by rw [HX.out, decide_eq_true (show s.top ≤ s.row ∧ s.row ≤ s.bottom by omega)]; rfl, _, rfl⟩
    · have d2 : decide (s.row ≤ s.bottom) = false := by simp; omega
      go_enter Tryd.func121, Tryd.ntmps121
      go_wp2_with fail
      go_quiet (fail)
      go_wp2_with fail
      go_ret
      exact ⟨by rw [HX.out, decide_eq_false (show ¬ (s.top ≤ s.row ∧ s.row ≤ s.bottom) by omega)]; rfl, _, rfl⟩
  · have d1 : decide (s.top ≤ s.row) = false := by simp; omega
    go_enter Tryd.func121, Tryd.ntmps121
    go_wp2_with fail
    go_quiet (fail)
    go_wp2_with fail
    go_ret
    exact ⟨by rw [HX.out, decide_eq_false (show ¬ (s.top ≤ s.row ∧ s.row ≤ s.bottom) by omega)]; rfl, _, rfl⟩
end Go.Proofs.YtheibfffilomcaaDoor

/- The walk of edit. -/
namespace Go.Proofs.YtheibfffilomcaaDoor
open Go.RowKit

theorem below_up (L : Lay) (s : TS) (u : World) (ht : TAt u L s) (hi : s.Inv) (hin : s.row ≤ s.bottom) (n : Nat) (hn : 1 ≤ n ∧ n ≤ 70000) : Calls Tryd.prog 105 #[.slice (some ⟨L.sb s, s.row.toNat, none⟩) s.below (s.rows - s.row.toNat), .int .i64 (n : Int)] u fun e w' => e = .returned (.tuple #[]) ∧ TAt w' L (s.setCur (upS s.cur s.row.toNat s.below n s.cols)) ∧ Ch L.own u w' := by
  obtain ⟨h1, h2, h3⟩ := below_ok hi hin
  have := hi.r2; have := hi.c2
  exact (up_any (L.sb s) s.row.toNat s.below n (s.rows - s.row.toNat) s.cols (L.gs s) s.cur u ht.cur (by rw [hi.lcur]; exact h1) h2 (by omega) hn.2 hn.1 (by omega) h3).mono fun e w' h => ⟨h.1, ht.setCur h.2.2 h.2.1, gs_ch h.2.2⟩
theorem below_down (L : Lay) (s : TS) (u : World) (ht : TAt u L s) (hi : s.Inv) (hin : s.row ≤ s.bottom) (n : Nat) (hn : 1 ≤ n ∧ n ≤ 70000) : Calls Tryd.prog 123 #[.slice (some ⟨L.sb s, s.row.toNat, none⟩) s.below (s.rows - s.row.toNat), .int .i64 (n : Int)] u fun e w' => e = .returned (.tuple #[]) ∧ TAt w' L (s.setCur (downS s.cur s.row.toNat s.below n s.cols)) ∧ Ch L.own u w' := by
  obtain ⟨h1, h2, h3⟩ := below_ok hi hin
  have := hi.r2; have := hi.c2
  exact (down_any (L.sb s) s.row.toNat s.below n (s.rows - s.row.toNat) s.cols (L.gs s) s.cur u ht.cur (by rw [hi.lcur]; exact h1) h2 (by omega) hn.2 hn.1 (by omega) h3).mono fun e w' h => ⟨h.1, ht.setCur h.2.2 h.2.1, gs_ch h.2.2⟩
theorem TS.Inv.clearRow {s : TS} (h : s.Inv) (what : Int) : (s.clearRow what).Inv := by
  unfold TS.clearRow
  split
  · exact h.setRowNow _
  · split
    · exact h.setRowNow _
    · split
      · exact h.setRowNow _
      · exact h

set_option maxRecDepth 100000 in
set_option maxHeartbeats 2000000 in
theorem edit_any (L : Lay) (s : TS) (w : World) (ht : TAt w L s) (hi : s.Inv) (ev : List Int) (hev : ev.length = 21) (h5 : -1 ≤ ev.getD 5 0 ∧ ev.getD 5 0 ≤ 65535) : Calls Tryd.prog 86 #[.pointer (some ⟨L.tb, 0, none⟩), .agg (intA ev)] w fun e w' => e = .returned (.tuple #[]) ∧ TAt w' L (s.edit (ev.getD 3 0) (ev.getD 5 0)) ∧ Ch L.own w w' := by
  have HT0 := ht.sm ((Ch.refl (fun _ => False) w).alloc (.cells (intA ev) 75))
  have e3 : (w.alloc (.cells (intA ev) 75)).cell? ⟨w.heap.size, 3, none⟩ = some (.int .i64 (ev.getD 3 0)) := evcell (heap_alloc_new _ _) (by omega)
  have e5 : (w.alloc (.cells (intA ev) 75)).cell? ⟨w.heap.size, 5, none⟩ = some (.int .i64 (ev.getD 5 0)) := evcell (heap_alloc_new _ _) (by omega)
  have e6 : (w.alloc (.cells (intA ev) 75)).cell? ⟨w.heap.size, 6, none⟩ = some (.int .i64 (ev.getD 6 0)) := evcell (heap_alloc_new _ _) (by omega)
  have HCW : Hid (Ch L.own w (w.alloc (.cells (intA ev) 75))) := (Ch.refl _ _).alloc _
  have hlt := ht.lt
  generalize ev.getD 3 0 = f at *
  generalize ev.getD 5 0 = p0 at *
  generalize ev.getD 6 0 = p1 at *
  have HI : Hid s.Inv := hi
  have HT : Hid _ := HT0
  obtain ⟨nn, hnn⟩ : ∃ nn : Nat, TS.times p0 = (nn : Int) := ⟨(TS.times p0).toNat, by unfold TS.times; omega⟩
  have hn : 1 ≤ nn ∧ nn ≤ 65535 := by unfold TS.times at hnn; omega
  have hnt : (TS.times p0).toNat = nn := by rw [hnn]; rfl
  obtain ⟨cc, hcc⟩ : ∃ cc : Nat, s.col = (cc : Int) := ⟨s.col.toNat, by have := hi.col0; omega⟩
  have hcl : cc < s.cols := by have := hi.col1; omega
  have hcn : s.col.toNat = cc := by rw [hcc]; rfl
  have hc2 := hi.c2
  clear ht hi HT0
  rcases (show f = 74 ∨ f = 75 ∨ f = 64 ∨ f = 80 ∨ f = 88 ∨ f = 76 ∨ f = 77 ∨ f = 83 ∨ f = 84 ∨ ¬ (f = 74 ∨ f = 75 ∨ f = 64 ∨ f = 80 ∨ f = 88 ∨ f = 76 ∨ f = 77 ∨ f = 83 ∨ f = 84) by omega) with rfl | rfl | rfl | rfl | rfl | rfl | rfl | rfl | rfl | hf
  · rw [show s.edit 74 p0 = (s.clearRow (TS.amount p0)).clearOther (TS.amount p0) from rfl]
    go_enter Tryd.func86, Tryd.ntmps86
    go_wp2_with fail
    go_quiet ((first | (go_at_call 112; exact Calls.quiet_of_same (times_any _ _)) | (go_at_call 116; exact Calls.quiet_of_same (amount_any _ _))))
    rw [hnn]
    have HT1 : Hid (TAt (World.drewN (w.alloc (Obj.cells (intA ev) 75)) nq) L s) := HT.out.drewN nq
    have HCU : Hid (Ch L.own w (World.drewN (w.alloc (Obj.cells (intA ev) 75)) nq)) := HCW.out.drewN nq
    have e3' : World.cell? (World.drewN (w.alloc (Obj.cells (intA ev) 75)) nq) ⟨w.heap.size, 3, none⟩ = some (.int .i64 74) := e3
    clear e3 e5 e6 HT HCW
    generalize hU : World.drewN (w.alloc (Obj.cells (intA ev) 75)) nq = U at *
    generalize hlb : w.heap.size = lb at *
    go_wp2_with (first | (go_at_call 117; refine (clearRow_any L s U HT1.out HI.out (TS.amount p0)).mono ?_; rintro e w1 ⟨rfl, h1, c1⟩) | (go_at_call 118; refine (clearOther_any L (s.clearRow (TS.amount p0)) _ h1 (HI.out.clearRow _) (TS.amount p0)).mono ?_; rintro e w2 ⟨rfl, h2, c2⟩))
    go_end0
    exact ⟨rfl, h2, HCU.out.trans (c1.trans c2)⟩
  · rw [show s.edit 75 p0 = s.clearRow (TS.amount p0) from rfl]
    go_enter Tryd.func86, Tryd.ntmps86
    go_wp2_with fail
    go_quiet ((first | (go_at_call 112; exact Calls.quiet_of_same (times_any _ _)) | (go_at_call 116; exact Calls.quiet_of_same (amount_any _ _))))
    rw [hnn]
    have HT1 : Hid (TAt (World.drewN (w.alloc (Obj.cells (intA ev) 75)) nq) L s) := HT.out.drewN nq
    have HCU : Hid (Ch L.own w (World.drewN (w.alloc (Obj.cells (intA ev) 75)) nq)) := HCW.out.drewN nq
    have e3' : World.cell? (World.drewN (w.alloc (Obj.cells (intA ev) 75)) nq) ⟨w.heap.size, 3, none⟩ = some (.int .i64 75) := e3
    clear e3 e5 e6 HT HCW
    generalize hU : World.drewN (w.alloc (Obj.cells (intA ev) 75)) nq = U at *
    generalize hlb : w.heap.size = lb at *
    go_wp2_with (go_at_call 117; refine (clearRow_any L s U HT1.out HI.out (TS.amount p0)).mono ?_; rintro e w1 ⟨rfl, h1, c1⟩)
    go_end0
    exact ⟨rfl, h1, HCU.out.trans c1⟩
  · rw [show s.edit 64 p0 = s.setRowNow (insertR s.rowNow s.col.toNat (TS.times p0).toNat) from rfl, hcn, hnt]
    go_enter Tryd.func86, Tryd.ntmps86
    go_wp2_with fail
    go_quiet ((first | (go_at_call 112; exact Calls.quiet_of_same (times_any _ _)) | (go_at_call 116; exact Calls.quiet_of_same (amount_any _ _))))
    rw [hnn]
    have HT1 : Hid (TAt (World.drewN (w.alloc (Obj.cells (intA ev) 75)) nq) L s) := HT.out.drewN nq
    have HCU : Hid (Ch L.own w (World.drewN (w.alloc (Obj.cells (intA ev) 75)) nq)) := HCW.out.drewN nq
    have e3' : World.cell? (World.drewN (w.alloc (Obj.cells (intA ev) 75)) nq) ⟨w.heap.size, 3, none⟩ = some (.int .i64 64) := e3
    clear e3 e5 e6 HT HCW
    generalize hU : World.drewN (w.alloc (Obj.cells (intA ev) 75)) nq = U at *
    generalize hlb : w.heap.size = lb at *
    go_wp2_with fail
    obtain ⟨g, hg, hrow, hlen⟩ := HT1.out.rowg HI.out
    have HU0 : TAt ({ U with drawn := World.drawn U + 1 } : World) L s := HT1.out.sm ((Ch.refl _ _).drewN 1)
    have HH : World.cell? ({ U with drawn := World.drawn U + 1 } : World) ⟨L.tb, 27, none⟩ = some (.int .i64 (cc : Int)) := by rw [← hcc]; exact HU0.c 27 _ rfl
    have HG : Hid _ := hg
    have HRW : Hid (RowAt (U) g s.rowNow) := hrow
    have HLN : Hid (s.rowNow.length = s.cols) := hlen
    clear hg hrow hlen
    refine wp_region_held (S := fun x => x.cell? ⟨L.tb, 27, none⟩ = some (.int .i64 (cc : Int))) mixedC ?_
    refine takeL (i := 0) (d := 31) (v := .pointer (some ⟨L.tb, 0, none⟩)) rfl rfl (by kernel_rfl) (by kernel_rfl) (by kernel_rfl) (fun _ _ _ h => h) (Or.inl ⟨by rfl, by intro x hSx; go_simp; try (first | rfl | go_num)⟩) HH ?_
    simp only [List.set_cons_zero, List.set_cons_succ]
    refine takeL (i := 2) (d := 33) (v := .pointer (some ⟨L.tb, 0, none⟩)) rfl rfl (by kernel_rfl) (by kernel_rfl) (by kernel_rfl) (fun _ _ _ h => h) (Or.inl ⟨by rfl, by intro x hSx; go_simp; try (first | rfl | go_num)⟩) HH ?_
    simp only [List.set_cons_zero, List.set_cons_succ]
    refine takeL (i := 3) (d := 34) (v := .pointer (some ⟨L.tb, 0, none⟩)) rfl rfl (by kernel_rfl) (by kernel_rfl) (by kernel_rfl) (fun _ _ _ h => h) (Or.inl ⟨by rfl, by intro x hSx; go_simp; try (first | rfl | go_num)⟩) HH ?_
    simp only [List.set_cons_zero, List.set_cons_succ]
    refine takeL (i := 4) (d := 35) (v := .pointer (some ⟨L.tb, 26, none⟩)) rfl rfl (by kernel_rfl) (by kernel_rfl) (by kernel_rfl) (fun _ _ _ h => h) (Or.inl ⟨by rfl, by intro x hSx; go_simp; try (first | rfl | go_num)⟩) HH ?_
    simp only [List.set_cons_zero, List.set_cons_succ]
    refine takeL (i := 5) (d := 36) (v := .pointer (some ⟨L.tb, 26, none⟩)) rfl rfl (by kernel_rfl) (by kernel_rfl) (by kernel_rfl) (fun _ _ _ h => h) (Or.inl ⟨by rfl, by intro x hSx; go_simp; try (first | rfl | go_num)⟩) HH ?_
    simp only [List.set_cons_zero, List.set_cons_succ]
    refine takeL (i := 6) (d := 37) (v := .pointer (some ⟨L.tb, 27, none⟩)) rfl rfl (by kernel_rfl) (by kernel_rfl) (by kernel_rfl) (fun _ _ _ h => h) (Or.inl ⟨by rfl, by intro x hSx; go_simp; try (first | rfl | go_num)⟩) HH ?_
    simp only [List.set_cons_zero, List.set_cons_succ]
    refine takeL (i := 7) (d := 38) (v := .int .i64 (cc : Int)) rfl rfl (by kernel_rfl) (by kernel_rfl) (by kernel_rfl) (fun _ _ _ h => h) (Or.inl ⟨by rfl, by intro x hSx; have hSc := hSx; go_simp; try (first | rfl | go_num)⟩) HH ?_
    simp only [List.set_cons_zero, List.set_cons_succ]
    refine takeL (i := 8) (d := 39) (v := .int .i64 (nn : Int)) rfl rfl (by kernel_rfl) (by kernel_rfl) (by kernel_rfl) (fun _ _ _ h => h) (Or.inl ⟨by rfl, by intro x hSx; go_simp; try (first | rfl | go_num)⟩) HH ?_
    simp only [List.set_cons_zero, List.set_cons_succ]
    refine wpAnyH_all (rs := [1]) (by kernel_rfl) (by simp) ?_
    intro i hi'
    rw [List.mem_singleton] at hi'
    subst hi'
    refine wpOp_step rfl fun Kq hKq => ?_
    rw [if_pos (by rfl)]
    refine wp_callL (f := 75) 32 [.tmp 31] #[86] rfl rfl [.pointer (some ⟨L.tb, 0, none⟩)] rfl (by kernel_rfl) (fun v w' => v = .slice (some ⟨g, 0, none⟩) s.cols s.cols ∧ ∃ m, w' = World.drewN _ m) ((row_any L s _ HU0 HI.out g HG.out).mono fun e w' h => ⟨_, h.1, rfl, h.2⟩) ?_
    rintro v2 w2 ⟨rfl, mm, rfl⟩
    refine hKq _ _ ⟨HH, ?_⟩
    clear hKq
    simp only [List.set_cons_zero, List.set_cons_succ]
    refine wpAnyH_all (rs := [9]) (by kernel_rfl) (by simp) ?_
    intro i hi'
    rw [List.mem_singleton] at hi'
    subst hi'
    refine wpOp_step rfl fun Kq hKq => ?_
    rw [if_pos (by rfl)]
    refine wp_callL (f := 76) 40 [.tmp 32, .tmp 38, .tmp 39] #[108, 3, 3] rfl rfl [.slice (some ⟨g, 0, none⟩) s.cols s.cols, .int .i64 (cc : Int), .int .i64 (nn : Int)] rfl (by kernel_rfl) (fun v w' => v = .tuple #[] ∧ RowAt w' g (insertR s.rowNow cc nn) ∧ Ch (· = g) (U) w') ((insert_any g cc nn s.cols s.rowNow (World.drewN ({ U with drawn := World.drawn U + 1 } : World) mm) HRW.out HLN.out hcl (by omega) (by omega)).mono fun e w' h => ⟨_, h.1, rfl, h.2.1, ⟨h.2.2.os, h.2.2.tape, h.2.2.output, h.2.2.size, h.2.2.block⟩⟩) ?_
    rintro v3 U2 ⟨rfl, r2, k2⟩
    have T2 : TAt U2 L (s.setRowNow (insertR s.rowNow cc nn)) := HT1.out.setRowNow HG.out r2 (by rw [insertR_length _ _ _ (by rw [HLN.out]; omega)]; exact HLN.out) k2
    have hne : L.tb ≠ g := HT1.out.row_ne HG.out
    have hbk := k2.block L.tb HT1.out.lt hne
    refine hKq _ _ ⟨(World.cell?_of_block hbk).trans HH, ?_⟩
    clear hKq
    simp only [List.set_cons_zero, List.set_cons_succ]
    have HC2 : Hid (Ch L.own (U) U2) := k2.mono fun k _ e => e ▸ Lay.gs_own (List.mem_of_getElem? HG.out)
    have HT2 : Hid _ := T2
    clear T2 r2 k2 hne hbk HG HRW HLN HU0 HH
    refine wpAnyH_done (by kernel_rfl) ?_ _
    go_wp2_with fail
    go_end0
    exact ⟨rfl, HT2.out, HCU.out.trans HC2.out⟩
  · rw [show s.edit 80 p0 = s.setRowNow (removeR s.rowNow s.col.toNat (TS.times p0).toNat) from rfl, hcn, hnt]
    go_enter Tryd.func86, Tryd.ntmps86
    go_wp2_with fail
    go_quiet ((first | (go_at_call 112; exact Calls.quiet_of_same (times_any _ _)) | (go_at_call 116; exact Calls.quiet_of_same (amount_any _ _))))
    rw [hnn]
    have HT1 : Hid (TAt (World.drewN (w.alloc (Obj.cells (intA ev) 75)) nq) L s) := HT.out.drewN nq
    have HCU : Hid (Ch L.own w (World.drewN (w.alloc (Obj.cells (intA ev) 75)) nq)) := HCW.out.drewN nq
    have e3' : World.cell? (World.drewN (w.alloc (Obj.cells (intA ev) 75)) nq) ⟨w.heap.size, 3, none⟩ = some (.int .i64 80) := e3
    clear e3 e5 e6 HT HCW
    generalize hU : World.drewN (w.alloc (Obj.cells (intA ev) 75)) nq = U at *
    generalize hlb : w.heap.size = lb at *
    go_wp2_with fail
    obtain ⟨g, hg, hrow, hlen⟩ := HT1.out.rowg HI.out
    have HU0 : TAt ({ U with drawn := World.drawn U + 1 } : World) L s := HT1.out.sm ((Ch.refl _ _).drewN 1)
    have HH : World.cell? ({ U with drawn := World.drawn U + 1 } : World) ⟨L.tb, 27, none⟩ = some (.int .i64 (cc : Int)) := by rw [← hcc]; exact HU0.c 27 _ rfl
    have HG : Hid _ := hg
    have HRW : Hid (RowAt (U) g s.rowNow) := hrow
    have HLN : Hid (s.rowNow.length = s.cols) := hlen
    clear hg hrow hlen
    refine wp_region_held (S := fun x => x.cell? ⟨L.tb, 27, none⟩ = some (.int .i64 (cc : Int))) mixedC ?_
    refine takeL (i := 0) (d := 43) (v := .pointer (some ⟨L.tb, 0, none⟩)) rfl rfl (by kernel_rfl) (by kernel_rfl) (by kernel_rfl) (fun _ _ _ h => h) (Or.inl ⟨by rfl, by intro x hSx; go_simp; try (first | rfl | go_num)⟩) HH ?_
    simp only [List.set_cons_zero, List.set_cons_succ]
    refine takeL (i := 2) (d := 45) (v := .pointer (some ⟨L.tb, 0, none⟩)) rfl rfl (by kernel_rfl) (by kernel_rfl) (by kernel_rfl) (fun _ _ _ h => h) (Or.inl ⟨by rfl, by intro x hSx; go_simp; try (first | rfl | go_num)⟩) HH ?_
    simp only [List.set_cons_zero, List.set_cons_succ]
    refine takeL (i := 3) (d := 46) (v := .pointer (some ⟨L.tb, 0, none⟩)) rfl rfl (by kernel_rfl) (by kernel_rfl) (by kernel_rfl) (fun _ _ _ h => h) (Or.inl ⟨by rfl, by intro x hSx; go_simp; try (first | rfl | go_num)⟩) HH ?_
    simp only [List.set_cons_zero, List.set_cons_succ]
    refine takeL (i := 4) (d := 47) (v := .pointer (some ⟨L.tb, 26, none⟩)) rfl rfl (by kernel_rfl) (by kernel_rfl) (by kernel_rfl) (fun _ _ _ h => h) (Or.inl ⟨by rfl, by intro x hSx; go_simp; try (first | rfl | go_num)⟩) HH ?_
    simp only [List.set_cons_zero, List.set_cons_succ]
    refine takeL (i := 5) (d := 48) (v := .pointer (some ⟨L.tb, 26, none⟩)) rfl rfl (by kernel_rfl) (by kernel_rfl) (by kernel_rfl) (fun _ _ _ h => h) (Or.inl ⟨by rfl, by intro x hSx; go_simp; try (first | rfl | go_num)⟩) HH ?_
    simp only [List.set_cons_zero, List.set_cons_succ]
    refine takeL (i := 6) (d := 49) (v := .pointer (some ⟨L.tb, 27, none⟩)) rfl rfl (by kernel_rfl) (by kernel_rfl) (by kernel_rfl) (fun _ _ _ h => h) (Or.inl ⟨by rfl, by intro x hSx; go_simp; try (first | rfl | go_num)⟩) HH ?_
    simp only [List.set_cons_zero, List.set_cons_succ]
    refine takeL (i := 7) (d := 50) (v := .int .i64 (cc : Int)) rfl rfl (by kernel_rfl) (by kernel_rfl) (by kernel_rfl) (fun _ _ _ h => h) (Or.inl ⟨by rfl, by intro x hSx; have hSc := hSx; go_simp; try (first | rfl | go_num)⟩) HH ?_
    simp only [List.set_cons_zero, List.set_cons_succ]
    refine takeL (i := 8) (d := 51) (v := .int .i64 (nn : Int)) rfl rfl (by kernel_rfl) (by kernel_rfl) (by kernel_rfl) (fun _ _ _ h => h) (Or.inl ⟨by rfl, by intro x hSx; go_simp; try (first | rfl | go_num)⟩) HH ?_
    simp only [List.set_cons_zero, List.set_cons_succ]
    refine wpAnyH_all (rs := [1]) (by kernel_rfl) (by simp) ?_
    intro i hi'
    rw [List.mem_singleton] at hi'
    subst hi'
    refine wpOp_step rfl fun Kq hKq => ?_
    rw [if_pos (by rfl)]
    refine wp_callL (f := 75) 44 [.tmp 43] #[86] rfl rfl [.pointer (some ⟨L.tb, 0, none⟩)] rfl (by kernel_rfl) (fun v w' => v = .slice (some ⟨g, 0, none⟩) s.cols s.cols ∧ ∃ m, w' = World.drewN _ m) ((row_any L s _ HU0 HI.out g HG.out).mono fun e w' h => ⟨_, h.1, rfl, h.2⟩) ?_
    rintro v2 w2 ⟨rfl, mm, rfl⟩
    refine hKq _ _ ⟨HH, ?_⟩
    clear hKq
    simp only [List.set_cons_zero, List.set_cons_succ]
    refine wpAnyH_all (rs := [9]) (by kernel_rfl) (by simp) ?_
    intro i hi'
    rw [List.mem_singleton] at hi'
    subst hi'
    refine wpOp_step rfl fun Kq hKq => ?_
    rw [if_pos (by rfl)]
    refine wp_callL (f := 119) 52 [.tmp 44, .tmp 50, .tmp 51] #[108, 3, 3] rfl rfl [.slice (some ⟨g, 0, none⟩) s.cols s.cols, .int .i64 (cc : Int), .int .i64 (nn : Int)] rfl (by kernel_rfl) (fun v w' => v = .tuple #[] ∧ RowAt w' g (removeR s.rowNow cc nn) ∧ Ch (· = g) (U) w') ((remove_any g cc nn s.cols s.rowNow (World.drewN ({ U with drawn := World.drawn U + 1 } : World) mm) HRW.out HLN.out hcl (by omega) (by omega) (by omega)).mono fun e w' h => ⟨_, h.1, rfl, h.2.1, ⟨h.2.2.os, h.2.2.tape, h.2.2.output, h.2.2.size, h.2.2.block⟩⟩) ?_
    rintro v3 U2 ⟨rfl, r2, k2⟩
    have T2 : TAt U2 L (s.setRowNow (removeR s.rowNow cc nn)) := HT1.out.setRowNow HG.out r2 (by rw [removeR_length _ _ _ (by rw [HLN.out]; omega)]; exact HLN.out) k2
    have hne : L.tb ≠ g := HT1.out.row_ne HG.out
    have hbk := k2.block L.tb HT1.out.lt hne
    refine hKq _ _ ⟨(World.cell?_of_block hbk).trans HH, ?_⟩
    clear hKq
    simp only [List.set_cons_zero, List.set_cons_succ]
    have HC2 : Hid (Ch L.own (U) U2) := k2.mono fun k _ e => e ▸ Lay.gs_own (List.mem_of_getElem? HG.out)
    have HT2 : Hid _ := T2
    clear T2 r2 k2 hne hbk HG HRW HLN HU0 HH
    refine wpAnyH_done (by kernel_rfl) ?_ _
    go_wp2_with fail
    go_end0
    exact ⟨rfl, HT2.out, HCU.out.trans HC2.out⟩
  · rw [show s.edit 88 p0 = s.setRowNow (clearR s.rowNow s.col.toNat (min (s.col.toNat + (TS.times p0).toNat) s.cols)) from rfl, hcn, hnt]
    have v1 : IntKind.i64.wrap ((cc : Int) + (nn : Int)) = (cc : Int) + (nn : Int) := IntWalk.i64_in _ (by omega)
    by_cases hmn : cc + nn ≤ s.cols
    · rw [Nat.min_eq_left hmn]
      have m1 : (cc : Int) + (nn : Int) ≤ (s.cols : Int) := by omega
      have m2 : ¬ (s.cols : Int) < (cc : Int) + (nn : Int) := by omega
      go_enter Tryd.func86, Tryd.ntmps86
      go_wp2_with fail
      go_quiet ((first | (go_at_call 112; exact Calls.quiet_of_same (times_any _ _)) | (go_at_call 116; exact Calls.quiet_of_same (amount_any _ _))))
      rw [hnn]
      have HT1 : Hid (TAt (World.drewN (w.alloc (Obj.cells (intA ev) 75)) nq) L s) := HT.out.drewN nq
      have HCU : Hid (Ch L.own w (World.drewN (w.alloc (Obj.cells (intA ev) 75)) nq)) := HCW.out.drewN nq
      have e3' : World.cell? (World.drewN (w.alloc (Obj.cells (intA ev) 75)) nq) ⟨w.heap.size, 3, none⟩ = some (.int .i64 88) := e3
      clear e3 e5 e6 HT HCW
      generalize hU : World.drewN (w.alloc (Obj.cells (intA ev) 75)) nq = U at *
      generalize hlb : w.heap.size = lb at *
      go_wp2_with fail
      obtain ⟨g, hg, hrow, hlen⟩ := HT1.out.rowg HI.out
      have HU0 : TAt ({ U with drawn := World.drawn U + 1 } : World) L s := HT1.out.sm ((Ch.refl _ _).drewN 1)
      have HH : World.cell? ({ U with drawn := World.drawn U + 1 } : World) ⟨L.tb, 27, none⟩ = some (.int .i64 (cc : Int)) ∧ World.cell? ({ U with drawn := World.drawn U + 1 } : World) ⟨L.tb, 43, none⟩ = some (.slice (some ⟨L.gb, 0, none⟩) s.cols s.cols) := ⟨by rw [← hcc]; exact HU0.c 27 _ rfl, HU0.c 43 _ rfl⟩
      have HG : Hid _ := hg
      have HRW : Hid (RowAt (U) g s.rowNow) := hrow
      have HLN : Hid (s.rowNow.length = s.cols) := hlen
      clear hg hrow hlen
      refine wp_region_held (S := fun x => x.cell? ⟨L.tb, 27, none⟩ = some (.int .i64 (cc : Int)) ∧ x.cell? ⟨L.tb, 43, none⟩ = some (.slice (some ⟨L.gb, 0, none⟩) s.cols s.cols)) mixedC ?_
      refine takeL (i := 0) (d := 55) (v := .pointer (some ⟨L.tb, 0, none⟩)) rfl rfl (by kernel_rfl) (by kernel_rfl) (by kernel_rfl) (fun _ _ _ h => h) (Or.inl ⟨by rfl, by intro x hSx; go_simp; try (first | rfl | go_num)⟩) HH ?_
      simp only [List.set_cons_zero, List.set_cons_succ]
      refine takeL (i := 2) (d := 57) (v := .pointer (some ⟨L.tb, 0, none⟩)) rfl rfl (by kernel_rfl) (by kernel_rfl) (by kernel_rfl) (fun _ _ _ h => h) (Or.inl ⟨by rfl, by intro x hSx; go_simp; try (first | rfl | go_num)⟩) HH ?_
      simp only [List.set_cons_zero, List.set_cons_succ]
      refine takeL (i := 3) (d := 58) (v := .pointer (some ⟨L.tb, 0, none⟩)) rfl rfl (by kernel_rfl) (by kernel_rfl) (by kernel_rfl) (fun _ _ _ h => h) (Or.inl ⟨by rfl, by intro x hSx; go_simp; try (first | rfl | go_num)⟩) HH ?_
      simp only [List.set_cons_zero, List.set_cons_succ]
      refine takeL (i := 4) (d := 59) (v := .pointer (some ⟨L.tb, 26, none⟩)) rfl rfl (by kernel_rfl) (by kernel_rfl) (by kernel_rfl) (fun _ _ _ h => h) (Or.inl ⟨by rfl, by intro x hSx; go_simp; try (first | rfl | go_num)⟩) HH ?_
      simp only [List.set_cons_zero, List.set_cons_succ]
      refine takeL (i := 5) (d := 60) (v := .pointer (some ⟨L.tb, 26, none⟩)) rfl rfl (by kernel_rfl) (by kernel_rfl) (by kernel_rfl) (fun _ _ _ h => h) (Or.inl ⟨by rfl, by intro x hSx; go_simp; try (first | rfl | go_num)⟩) HH ?_
      simp only [List.set_cons_zero, List.set_cons_succ]
      refine takeL (i := 6) (d := 61) (v := .pointer (some ⟨L.tb, 27, none⟩)) rfl rfl (by kernel_rfl) (by kernel_rfl) (by kernel_rfl) (fun _ _ _ h => h) (Or.inl ⟨by rfl, by intro x hSx; go_simp; try (first | rfl | go_num)⟩) HH ?_
      simp only [List.set_cons_zero, List.set_cons_succ]
      refine takeL (i := 7) (d := 62) (v := .int .i64 (cc : Int)) rfl rfl (by kernel_rfl) (by kernel_rfl) (by kernel_rfl) (fun _ _ _ h => h) (Or.inl ⟨by rfl, by intro x hSx; have hSc := hSx.1; go_simp; try (first | rfl | go_num)⟩) HH ?_
      simp only [List.set_cons_zero, List.set_cons_succ]
      refine takeL (i := 8) (d := 63) (v := .pointer (some ⟨L.tb, 0, none⟩)) rfl rfl (by kernel_rfl) (by kernel_rfl) (by kernel_rfl) (fun _ _ _ h => h) (Or.inl ⟨by rfl, by intro x hSx; go_simp; try (first | rfl | go_num)⟩) HH ?_
      simp only [List.set_cons_zero, List.set_cons_succ]
      refine takeL (i := 9) (d := 64) (v := .pointer (some ⟨L.tb, 0, none⟩)) rfl rfl (by kernel_rfl) (by kernel_rfl) (by kernel_rfl) (fun _ _ _ h => h) (Or.inl ⟨by rfl, by intro x hSx; go_simp; try (first | rfl | go_num)⟩) HH ?_
      simp only [List.set_cons_zero, List.set_cons_succ]
      refine takeL (i := 10) (d := 65) (v := .pointer (some ⟨L.tb, 26, none⟩)) rfl rfl (by kernel_rfl) (by kernel_rfl) (by kernel_rfl) (fun _ _ _ h => h) (Or.inl ⟨by rfl, by intro x hSx; go_simp; try (first | rfl | go_num)⟩) HH ?_
      simp only [List.set_cons_zero, List.set_cons_succ]
      refine takeL (i := 11) (d := 66) (v := .pointer (some ⟨L.tb, 26, none⟩)) rfl rfl (by kernel_rfl) (by kernel_rfl) (by kernel_rfl) (fun _ _ _ h => h) (Or.inl ⟨by rfl, by intro x hSx; go_simp; try (first | rfl | go_num)⟩) HH ?_
      simp only [List.set_cons_zero, List.set_cons_succ]
      refine takeL (i := 12) (d := 67) (v := .pointer (some ⟨L.tb, 27, none⟩)) rfl rfl (by kernel_rfl) (by kernel_rfl) (by kernel_rfl) (fun _ _ _ h => h) (Or.inl ⟨by rfl, by intro x hSx; go_simp; try (first | rfl | go_num)⟩) HH ?_
      simp only [List.set_cons_zero, List.set_cons_succ]
      refine takeL (i := 13) (d := 68) (v := .int .i64 (cc : Int)) rfl rfl (by kernel_rfl) (by kernel_rfl) (by kernel_rfl) (fun _ _ _ h => h) (Or.inl ⟨by rfl, by intro x hSx; have hSc := hSx.1; go_simp; try (first | rfl | go_num)⟩) HH ?_
      simp only [List.set_cons_zero, List.set_cons_succ]
      refine takeL (i := 14) (d := 69) (v := .int .i64 (nn : Int)) rfl rfl (by kernel_rfl) (by kernel_rfl) (by kernel_rfl) (fun _ _ _ h => h) (Or.inl ⟨by rfl, by intro x hSx; go_simp; try (first | rfl | go_num)⟩) HH ?_
      simp only [List.set_cons_zero, List.set_cons_succ]
      refine takeL (i := 15) (d := 70) (v := .int .i64 ((cc : Int) + (nn : Int))) rfl rfl (by kernel_rfl) (by kernel_rfl) (by kernel_rfl) (fun _ _ _ h => h) (Or.inl ⟨by rfl, by intro x hSx; go_simp; try (first | rfl | go_num)⟩) HH ?_
      simp only [List.set_cons_zero, List.set_cons_succ]
      refine takeL (i := 16) (d := 71) (v := .pointer (some ⟨L.tb, 0, none⟩)) rfl rfl (by kernel_rfl) (by kernel_rfl) (by kernel_rfl) (fun _ _ _ h => h) (Or.inl ⟨by rfl, by intro x hSx; go_simp; try (first | rfl | go_num)⟩) HH ?_
      simp only [List.set_cons_zero, List.set_cons_succ]
      refine takeL (i := 17) (d := 72) (v := .pointer (some ⟨L.tb, 0, none⟩)) rfl rfl (by kernel_rfl) (by kernel_rfl) (by kernel_rfl) (fun _ _ _ h => h) (Or.inl ⟨by rfl, by intro x hSx; go_simp; try (first | rfl | go_num)⟩) HH ?_
      simp only [List.set_cons_zero, List.set_cons_succ]
      refine takeL (i := 18) (d := 73) (v := .pointer (some ⟨L.tb, 43, none⟩)) rfl rfl (by kernel_rfl) (by kernel_rfl) (by kernel_rfl) (fun _ _ _ h => h) (Or.inl ⟨by rfl, by intro x hSx; go_simp; try (first | rfl | go_num)⟩) HH ?_
      simp only [List.set_cons_zero, List.set_cons_succ]
      refine takeL (i := 19) (d := 74) (v := .slice (some ⟨L.gb, 0, none⟩) s.cols s.cols) rfl rfl (by kernel_rfl) (by kernel_rfl) (by kernel_rfl) (fun _ _ _ h => h) (Or.inl ⟨by rfl, by intro x hSx; have hSc := hSx.2; go_simp; try (first | rfl | go_num)⟩) HH ?_
      simp only [List.set_cons_zero, List.set_cons_succ]
      refine takeL (i := 20) (d := 75) (v := .int .i64 (s.cols : Int)) rfl rfl (by kernel_rfl) (by kernel_rfl) (by kernel_rfl) (fun _ _ _ h => h) (Or.inl ⟨by rfl, by intro x hSx; go_simp; try (first | rfl | go_num)⟩) HH ?_
      simp only [List.set_cons_zero, List.set_cons_succ]
      refine takeL (i := 21) (d := 76) (v := .int .i64 ((cc : Int) + (nn : Int))) rfl rfl (by kernel_rfl) (by kernel_rfl) (by kernel_rfl) (fun _ _ _ h => h) (Or.inl ⟨by rfl, by intro x hSx; go_simp; try (first | rfl | go_num)⟩) HH ?_
      simp only [List.set_cons_zero, List.set_cons_succ]
      refine wpAnyH_all (rs := [1]) (by kernel_rfl) (by simp) ?_
      intro i hi'
      rw [List.mem_singleton] at hi'
      subst hi'
      refine wpOp_step rfl fun Kq hKq => ?_
      rw [if_pos (by rfl)]
      refine wp_callL (f := 75) 56 [.tmp 55] #[86] rfl rfl [.pointer (some ⟨L.tb, 0, none⟩)] rfl (by kernel_rfl) (fun v w' => v = .slice (some ⟨g, 0, none⟩) s.cols s.cols ∧ ∃ m, w' = World.drewN _ m) ((row_any L s _ HU0 HI.out g HG.out).mono fun e w' h => ⟨_, h.1, rfl, h.2⟩) ?_
      rintro v2 w2 ⟨rfl, mm, rfl⟩
      refine hKq _ _ ⟨HH, ?_⟩
      clear hKq
      simp only [List.set_cons_zero, List.set_cons_succ]
      refine wpAnyH_all (rs := [22]) (by kernel_rfl) (by simp) ?_
      intro i hi'
      rw [List.mem_singleton] at hi'
      subst hi'
      refine wpOp_step rfl fun Kq hKq => ?_
      rw [if_pos (by rfl)]
      refine wp_callL (f := 120) 77 [.tmp 56, .tmp 62, .tmp 76] #[108, 3, 3] rfl rfl [.slice (some ⟨g, 0, none⟩) s.cols s.cols, .int .i64 (cc : Int), .int .i64 ((cc + nn : Nat) : Int)] rfl (by kernel_rfl) (fun v w' => v = .tuple #[] ∧ RowAt w' g (clearR s.rowNow cc (cc + nn)) ∧ Ch (· = g) (U) w') ((clear_any g cc (cc + nn) s.cols s.rowNow (World.drewN ({ U with drawn := World.drawn U + 1 } : World) mm) HRW.out HLN.out (by omega) (by omega) (by omega)).mono fun e w' h => ⟨_, h.1, rfl, h.2.1, ⟨h.2.2.os, h.2.2.tape, h.2.2.output, h.2.2.size, h.2.2.block⟩⟩) ?_
      rintro v3 U2 ⟨rfl, r2, k2⟩
      have T2 : TAt U2 L (s.setRowNow (clearR s.rowNow cc (cc + nn))) := HT1.out.setRowNow HG.out r2 (by rw [clearR_length _ _ _ (by rw [HLN.out]; omega) (by omega)]; exact HLN.out) k2
      have hne : L.tb ≠ g := HT1.out.row_ne HG.out
      have hbk := k2.block L.tb HT1.out.lt hne
      refine hKq _ _ ⟨⟨(World.cell?_of_block hbk).trans HH.1, (World.cell?_of_block hbk).trans HH.2⟩, ?_⟩
      clear hKq
      simp only [List.set_cons_zero, List.set_cons_succ]
      have HC2 : Hid (Ch L.own (U) U2) := k2.mono fun k _ e => e ▸ Lay.gs_own (List.mem_of_getElem? HG.out)
      have HT2 : Hid _ := T2
      clear T2 r2 k2 hne hbk HG HRW HLN HU0 HH
      refine wpAnyH_done (by kernel_rfl) ?_ _
      go_wp2_with fail
      go_end0
      exact ⟨rfl, HT2.out, HCU.out.trans HC2.out⟩
    · rw [Nat.min_eq_right (by omega)]
      have m1 : ¬ (cc : Int) + (nn : Int) ≤ (s.cols : Int) := by omega
      have m2 : (s.cols : Int) < (cc : Int) + (nn : Int) := by omega
      go_enter Tryd.func86, Tryd.ntmps86
      go_wp2_with fail
      go_quiet ((first | (go_at_call 112; exact Calls.quiet_of_same (times_any _ _)) | (go_at_call 116; exact Calls.quiet_of_same (amount_any _ _))))
      rw [hnn]
      have HT1 : Hid (TAt (World.drewN (w.alloc (Obj.cells (intA ev) 75)) nq) L s) := HT.out.drewN nq
      have HCU : Hid (Ch L.own w (World.drewN (w.alloc (Obj.cells (intA ev) 75)) nq)) := HCW.out.drewN nq
      have e3' : World.cell? (World.drewN (w.alloc (Obj.cells (intA ev) 75)) nq) ⟨w.heap.size, 3, none⟩ = some (.int .i64 88) := e3
      clear e3 e5 e6 HT HCW
      generalize hU : World.drewN (w.alloc (Obj.cells (intA ev) 75)) nq = U at *
      generalize hlb : w.heap.size = lb at *
      go_wp2_with fail
      obtain ⟨g, hg, hrow, hlen⟩ := HT1.out.rowg HI.out
      have HU0 : TAt ({ U with drawn := World.drawn U + 1 } : World) L s := HT1.out.sm ((Ch.refl _ _).drewN 1)
      have HH : World.cell? ({ U with drawn := World.drawn U + 1 } : World) ⟨L.tb, 27, none⟩ = some (.int .i64 (cc : Int)) ∧ World.cell? ({ U with drawn := World.drawn U + 1 } : World) ⟨L.tb, 43, none⟩ = some (.slice (some ⟨L.gb, 0, none⟩) s.cols s.cols) := ⟨by rw [← hcc]; exact HU0.c 27 _ rfl, HU0.c 43 _ rfl⟩
      have HG : Hid _ := hg
      have HRW : Hid (RowAt (U) g s.rowNow) := hrow
      have HLN : Hid (s.rowNow.length = s.cols) := hlen
      clear hg hrow hlen
      refine wp_region_held (S := fun x => x.cell? ⟨L.tb, 27, none⟩ = some (.int .i64 (cc : Int)) ∧ x.cell? ⟨L.tb, 43, none⟩ = some (.slice (some ⟨L.gb, 0, none⟩) s.cols s.cols)) mixedC ?_
      refine takeL (i := 0) (d := 55) (v := .pointer (some ⟨L.tb, 0, none⟩)) rfl rfl (by kernel_rfl) (by kernel_rfl) (by kernel_rfl) (fun _ _ _ h => h) (Or.inl ⟨by rfl, by intro x hSx; go_simp; try (first | rfl | go_num)⟩) HH ?_
      simp only [List.set_cons_zero, List.set_cons_succ]
      refine takeL (i := 2) (d := 57) (v := .pointer (some ⟨L.tb, 0, none⟩)) rfl rfl (by kernel_rfl) (by kernel_rfl) (by kernel_rfl) (fun _ _ _ h => h) (Or.inl ⟨by rfl, by intro x hSx; go_simp; try (first | rfl | go_num)⟩) HH ?_
      simp only [List.set_cons_zero, List.set_cons_succ]
      refine takeL (i := 3) (d := 58) (v := .pointer (some ⟨L.tb, 0, none⟩)) rfl rfl (by kernel_rfl) (by kernel_rfl) (by kernel_rfl) (fun _ _ _ h => h) (Or.inl ⟨by rfl, by intro x hSx; go_simp; try (first | rfl | go_num)⟩) HH ?_
      simp only [List.set_cons_zero, List.set_cons_succ]
      refine takeL (i := 4) (d := 59) (v := .pointer (some ⟨L.tb, 26, none⟩)) rfl rfl (by kernel_rfl) (by kernel_rfl) (by kernel_rfl) (fun _ _ _ h => h) (Or.inl ⟨by rfl, by intro x hSx; go_simp; try (first | rfl | go_num)⟩) HH ?_
      simp only [List.set_cons_zero, List.set_cons_succ]
      refine takeL (i := 5) (d := 60) (v := .pointer (some ⟨L.tb, 26, none⟩)) rfl rfl (by kernel_rfl) (by kernel_rfl) (by kernel_rfl) (fun _ _ _ h => h) (Or.inl ⟨by rfl, by intro x hSx; go_simp; try (first | rfl | go_num)⟩) HH ?_
      simp only [List.set_cons_zero, List.set_cons_succ]
      refine takeL (i := 6) (d := 61) (v := .pointer (some ⟨L.tb, 27, none⟩)) rfl rfl (by kernel_rfl) (by kernel_rfl) (by kernel_rfl) (fun _ _ _ h => h) (Or.inl ⟨by rfl, by intro x hSx; go_simp; try (first | rfl | go_num)⟩) HH ?_
      simp only [List.set_cons_zero, List.set_cons_succ]
      refine takeL (i := 7) (d := 62) (v := .int .i64 (cc : Int)) rfl rfl (by kernel_rfl) (by kernel_rfl) (by kernel_rfl) (fun _ _ _ h => h) (Or.inl ⟨by rfl, by intro x hSx; have hSc := hSx.1; go_simp; try (first | rfl | go_num)⟩) HH ?_
      simp only [List.set_cons_zero, List.set_cons_succ]
      refine takeL (i := 8) (d := 63) (v := .pointer (some ⟨L.tb, 0, none⟩)) rfl rfl (by kernel_rfl) (by kernel_rfl) (by kernel_rfl) (fun _ _ _ h => h) (Or.inl ⟨by rfl, by intro x hSx; go_simp; try (first | rfl | go_num)⟩) HH ?_
      simp only [List.set_cons_zero, List.set_cons_succ]
      refine takeL (i := 9) (d := 64) (v := .pointer (some ⟨L.tb, 0, none⟩)) rfl rfl (by kernel_rfl) (by kernel_rfl) (by kernel_rfl) (fun _ _ _ h => h) (Or.inl ⟨by rfl, by intro x hSx; go_simp; try (first | rfl | go_num)⟩) HH ?_
      simp only [List.set_cons_zero, List.set_cons_succ]
      refine takeL (i := 10) (d := 65) (v := .pointer (some ⟨L.tb, 26, none⟩)) rfl rfl (by kernel_rfl) (by kernel_rfl) (by kernel_rfl) (fun _ _ _ h => h) (Or.inl ⟨by rfl, by intro x hSx; go_simp; try (first | rfl | go_num)⟩) HH ?_
      simp only [List.set_cons_zero, List.set_cons_succ]
      refine takeL (i := 11) (d := 66) (v := .pointer (some ⟨L.tb, 26, none⟩)) rfl rfl (by kernel_rfl) (by kernel_rfl) (by kernel_rfl) (fun _ _ _ h => h) (Or.inl ⟨by rfl, by intro x hSx; go_simp; try (first | rfl | go_num)⟩) HH ?_
      simp only [List.set_cons_zero, List.set_cons_succ]
      refine takeL (i := 12) (d := 67) (v := .pointer (some ⟨L.tb, 27, none⟩)) rfl rfl (by kernel_rfl) (by kernel_rfl) (by kernel_rfl) (fun _ _ _ h => h) (Or.inl ⟨by rfl, by intro x hSx; go_simp; try (first | rfl | go_num)⟩) HH ?_
      simp only [List.set_cons_zero, List.set_cons_succ]
      refine takeL (i := 13) (d := 68) (v := .int .i64 (cc : Int)) rfl rfl (by kernel_rfl) (by kernel_rfl) (by kernel_rfl) (fun _ _ _ h => h) (Or.inl ⟨by rfl, by intro x hSx; have hSc := hSx.1; go_simp; try (first | rfl | go_num)⟩) HH ?_
      simp only [List.set_cons_zero, List.set_cons_succ]
      refine takeL (i := 14) (d := 69) (v := .int .i64 (nn : Int)) rfl rfl (by kernel_rfl) (by kernel_rfl) (by kernel_rfl) (fun _ _ _ h => h) (Or.inl ⟨by rfl, by intro x hSx; go_simp; try (first | rfl | go_num)⟩) HH ?_
      simp only [List.set_cons_zero, List.set_cons_succ]
      refine takeL (i := 15) (d := 70) (v := .int .i64 ((cc : Int) + (nn : Int))) rfl rfl (by kernel_rfl) (by kernel_rfl) (by kernel_rfl) (fun _ _ _ h => h) (Or.inl ⟨by rfl, by intro x hSx; go_simp; try (first | rfl | go_num)⟩) HH ?_
      simp only [List.set_cons_zero, List.set_cons_succ]
      refine takeL (i := 16) (d := 71) (v := .pointer (some ⟨L.tb, 0, none⟩)) rfl rfl (by kernel_rfl) (by kernel_rfl) (by kernel_rfl) (fun _ _ _ h => h) (Or.inl ⟨by rfl, by intro x hSx; go_simp; try (first | rfl | go_num)⟩) HH ?_
      simp only [List.set_cons_zero, List.set_cons_succ]
      refine takeL (i := 17) (d := 72) (v := .pointer (some ⟨L.tb, 0, none⟩)) rfl rfl (by kernel_rfl) (by kernel_rfl) (by kernel_rfl) (fun _ _ _ h => h) (Or.inl ⟨by rfl, by intro x hSx; go_simp; try (first | rfl | go_num)⟩) HH ?_
      simp only [List.set_cons_zero, List.set_cons_succ]
      refine takeL (i := 18) (d := 73) (v := .pointer (some ⟨L.tb, 43, none⟩)) rfl rfl (by kernel_rfl) (by kernel_rfl) (by kernel_rfl) (fun _ _ _ h => h) (Or.inl ⟨by rfl, by intro x hSx; go_simp; try (first | rfl | go_num)⟩) HH ?_
      simp only [List.set_cons_zero, List.set_cons_succ]
      refine takeL (i := 19) (d := 74) (v := .slice (some ⟨L.gb, 0, none⟩) s.cols s.cols) rfl rfl (by kernel_rfl) (by kernel_rfl) (by kernel_rfl) (fun _ _ _ h => h) (Or.inl ⟨by rfl, by intro x hSx; have hSc := hSx.2; go_simp; try (first | rfl | go_num)⟩) HH ?_
      simp only [List.set_cons_zero, List.set_cons_succ]
      refine takeL (i := 20) (d := 75) (v := .int .i64 (s.cols : Int)) rfl rfl (by kernel_rfl) (by kernel_rfl) (by kernel_rfl) (fun _ _ _ h => h) (Or.inl ⟨by rfl, by intro x hSx; go_simp; try (first | rfl | go_num)⟩) HH ?_
      simp only [List.set_cons_zero, List.set_cons_succ]
      refine takeL (i := 21) (d := 76) (v := .int .i64 (s.cols : Int)) rfl rfl (by kernel_rfl) (by kernel_rfl) (by kernel_rfl) (fun _ _ _ h => h) (Or.inl ⟨by rfl, by intro x hSx; go_simp; try (first | rfl | go_num)⟩) HH ?_
      simp only [List.set_cons_zero, List.set_cons_succ]
      refine wpAnyH_all (rs := [1]) (by kernel_rfl) (by simp) ?_
      intro i hi'
      rw [List.mem_singleton] at hi'
      subst hi'
      refine wpOp_step rfl fun Kq hKq => ?_
      rw [if_pos (by rfl)]
      refine wp_callL (f := 75) 56 [.tmp 55] #[86] rfl rfl [.pointer (some ⟨L.tb, 0, none⟩)] rfl (by kernel_rfl) (fun v w' => v = .slice (some ⟨g, 0, none⟩) s.cols s.cols ∧ ∃ m, w' = World.drewN _ m) ((row_any L s _ HU0 HI.out g HG.out).mono fun e w' h => ⟨_, h.1, rfl, h.2⟩) ?_
      rintro v2 w2 ⟨rfl, mm, rfl⟩
      refine hKq _ _ ⟨HH, ?_⟩
      clear hKq
      simp only [List.set_cons_zero, List.set_cons_succ]
      refine wpAnyH_all (rs := [22]) (by kernel_rfl) (by simp) ?_
      intro i hi'
      rw [List.mem_singleton] at hi'
      subst hi'
      refine wpOp_step rfl fun Kq hKq => ?_
      rw [if_pos (by rfl)]
      refine wp_callL (f := 120) 77 [.tmp 56, .tmp 62, .tmp 76] #[108, 3, 3] rfl rfl [.slice (some ⟨g, 0, none⟩) s.cols s.cols, .int .i64 (cc : Int), .int .i64 ((s.cols : Nat) : Int)] rfl (by kernel_rfl) (fun v w' => v = .tuple #[] ∧ RowAt w' g (clearR s.rowNow cc (s.cols)) ∧ Ch (· = g) (U) w') ((clear_any g cc (s.cols) s.cols s.rowNow (World.drewN ({ U with drawn := World.drawn U + 1 } : World) mm) HRW.out HLN.out (by omega) (by omega) (by omega)).mono fun e w' h => ⟨_, h.1, rfl, h.2.1, ⟨h.2.2.os, h.2.2.tape, h.2.2.output, h.2.2.size, h.2.2.block⟩⟩) ?_
      rintro v3 U2 ⟨rfl, r2, k2⟩
      have T2 : TAt U2 L (s.setRowNow (clearR s.rowNow cc (s.cols))) := HT1.out.setRowNow HG.out r2 (by rw [clearR_length _ _ _ (by rw [HLN.out]; omega) (by omega)]; exact HLN.out) k2
      have hne : L.tb ≠ g := HT1.out.row_ne HG.out
      have hbk := k2.block L.tb HT1.out.lt hne
      refine hKq _ _ ⟨⟨(World.cell?_of_block hbk).trans HH.1, (World.cell?_of_block hbk).trans HH.2⟩, ?_⟩
      clear hKq
      simp only [List.set_cons_zero, List.set_cons_succ]
      have HC2 : Hid (Ch L.own (U) U2) := k2.mono fun k _ e => e ▸ Lay.gs_own (List.mem_of_getElem? HG.out)
      have HT2 : Hid _ := T2
      clear T2 r2 k2 hne hbk HG HRW HLN HU0 HH
      refine wpAnyH_done (by kernel_rfl) ?_ _
      go_wp2_with fail
      go_end0
      exact ⟨rfl, HT2.out, HCU.out.trans HC2.out⟩
  · have hX : s.edit 76 p0 = if s.inRegion then (s.setCur (downS s.cur s.row.toNat s.below (TS.times p0).toNat s.cols)).toCol 0 else s := rfl
    rw [hnt] at hX
    rw [hX]
    clear hX
    cases hir : s.inRegion with
    | true =>
      rw [if_pos rfl]
      have hin : s.row ≤ s.bottom := by unfold TS.inRegion at hir; have := of_decide_eq_true hir; omega
      have HIN : Hid _ := hin
      clear hin
      go_enter Tryd.func86, Tryd.ntmps86
      go_wp2_with fail
      go_quiet ((first | (go_at_call 112; exact Calls.quiet_of_same (times_any _ _)) | (go_at_call 116; exact Calls.quiet_of_same (amount_any _ _))))
      rw [hnn]
      have HT1 : Hid (TAt (World.drewN (w.alloc (Obj.cells (intA ev) 75)) nq) L s) := HT.out.drewN nq
      have HCU : Hid (Ch L.own w (World.drewN (w.alloc (Obj.cells (intA ev) 75)) nq)) := HCW.out.drewN nq
      have e3' : World.cell? (World.drewN (w.alloc (Obj.cells (intA ev) 75)) nq) ⟨w.heap.size, 3, none⟩ = some (.int .i64 76) := e3
      clear e3 e5 e6 HT HCW
      generalize hU : World.drewN (w.alloc (Obj.cells (intA ev) 75)) nq = U at *
      generalize hlb : w.heap.size = lb at *
      have l1 := inRegion_any L s U HT1.out
      rw [hir] at l1
      have l2 : ∀ m, _ := fun m => toBottom_any L s (U.drewN m) (HT1.out.drewN m) HI.out HIN.out
      have l3 : ∀ m, _ := fun m => below_down L s (U.drewN m) (HT1.out.drewN m) HI.out HIN.out nn (by omega)
      go_wp2_with (first | (go_at_call 121; refine l1.mono ?_; rintro e w1 ⟨rfl, m1, rfl⟩) | (go_at_call 122; refine (l2 _).mono ?_; rintro e w2 ⟨rfl, m2, rfl⟩; rw [World.drewN_drewN]) | (go_at_call 123; refine (l3 _).mono ?_; rintro e w3 ⟨rfl, h3, c3⟩) | (go_at_call 79; refine (toCol_any L _ _ h3 (HI.out.setCur (by rw [downS_length]; exact HI.out.lcur)) 0).mono ?_; rintro e w4 ⟨rfl, h4, c4⟩))
      go_end0
      exact ⟨rfl, h4, HCU.out.trans (own_drewN.trans (c3.trans c4))⟩
    | false =>
      rw [if_neg (by simp)]
      go_enter Tryd.func86, Tryd.ntmps86
      go_wp2_with fail
      go_quiet ((first | (go_at_call 112; exact Calls.quiet_of_same (times_any _ _)) | (go_at_call 116; exact Calls.quiet_of_same (amount_any _ _))))
      rw [hnn]
      have HT1 : Hid (TAt (World.drewN (w.alloc (Obj.cells (intA ev) 75)) nq) L s) := HT.out.drewN nq
      have HCU : Hid (Ch L.own w (World.drewN (w.alloc (Obj.cells (intA ev) 75)) nq)) := HCW.out.drewN nq
      have e3' : World.cell? (World.drewN (w.alloc (Obj.cells (intA ev) 75)) nq) ⟨w.heap.size, 3, none⟩ = some (.int .i64 76) := e3
      clear e3 e5 e6 HT HCW
      generalize hU : World.drewN (w.alloc (Obj.cells (intA ev) 75)) nq = U at *
      generalize hlb : w.heap.size = lb at *
      have l1 := inRegion_any L s U HT1.out
      rw [hir] at l1
      go_wp2_with (go_at_call 121; refine l1.mono ?_; rintro e w1 ⟨rfl, m1, rfl⟩)
      go_end0
      exact ⟨rfl, HT1.out.drewN _, HCU.out.trans own_drewN⟩
  · have hX : s.edit 77 p0 = if s.inRegion then (s.setCur (upS s.cur s.row.toNat s.below (TS.times p0).toNat s.cols)).toCol 0 else s := rfl
    rw [hnt] at hX
    rw [hX]
    clear hX
    cases hir : s.inRegion with
    | true =>
      rw [if_pos rfl]
      have hin : s.row ≤ s.bottom := by unfold TS.inRegion at hir; have := of_decide_eq_true hir; omega
      have HIN : Hid _ := hin
      clear hin
      go_enter Tryd.func86, Tryd.ntmps86
      go_wp2_with fail
      go_quiet ((first | (go_at_call 112; exact Calls.quiet_of_same (times_any _ _)) | (go_at_call 116; exact Calls.quiet_of_same (amount_any _ _))))
      rw [hnn]
      have HT1 : Hid (TAt (World.drewN (w.alloc (Obj.cells (intA ev) 75)) nq) L s) := HT.out.drewN nq
      have HCU : Hid (Ch L.own w (World.drewN (w.alloc (Obj.cells (intA ev) 75)) nq)) := HCW.out.drewN nq
      have e3' : World.cell? (World.drewN (w.alloc (Obj.cells (intA ev) 75)) nq) ⟨w.heap.size, 3, none⟩ = some (.int .i64 77) := e3
      clear e3 e5 e6 HT HCW
      generalize hU : World.drewN (w.alloc (Obj.cells (intA ev) 75)) nq = U at *
      generalize hlb : w.heap.size = lb at *
      have l1 := inRegion_any L s U HT1.out
      rw [hir] at l1
      have l2 : ∀ m, _ := fun m => toBottom_any L s (U.drewN m) (HT1.out.drewN m) HI.out HIN.out
      have l3 : ∀ m, _ := fun m => below_up L s (U.drewN m) (HT1.out.drewN m) HI.out HIN.out nn (by omega)
      go_wp2_with (first | (go_at_call 121; refine l1.mono ?_; rintro e w1 ⟨rfl, m1, rfl⟩) | (go_at_call 122; refine (l2 _).mono ?_; rintro e w2 ⟨rfl, m2, rfl⟩; rw [World.drewN_drewN]) | (go_at_call 105; refine (l3 _).mono ?_; rintro e w3 ⟨rfl, h3, c3⟩) | (go_at_call 79; refine (toCol_any L _ _ h3 (HI.out.setCur (by rw [upS_length]; exact HI.out.lcur)) 0).mono ?_; rintro e w4 ⟨rfl, h4, c4⟩))
      go_end0
      exact ⟨rfl, h4, HCU.out.trans (own_drewN.trans (c3.trans c4))⟩
    | false =>
      rw [if_neg (by simp)]
      go_enter Tryd.func86, Tryd.ntmps86
      go_wp2_with fail
      go_quiet ((first | (go_at_call 112; exact Calls.quiet_of_same (times_any _ _)) | (go_at_call 116; exact Calls.quiet_of_same (amount_any _ _))))
      rw [hnn]
      have HT1 : Hid (TAt (World.drewN (w.alloc (Obj.cells (intA ev) 75)) nq) L s) := HT.out.drewN nq
      have HCU : Hid (Ch L.own w (World.drewN (w.alloc (Obj.cells (intA ev) 75)) nq)) := HCW.out.drewN nq
      have e3' : World.cell? (World.drewN (w.alloc (Obj.cells (intA ev) 75)) nq) ⟨w.heap.size, 3, none⟩ = some (.int .i64 77) := e3
      clear e3 e5 e6 HT HCW
      generalize hU : World.drewN (w.alloc (Obj.cells (intA ev) 75)) nq = U at *
      generalize hlb : w.heap.size = lb at *
      have l1 := inRegion_any L s U HT1.out
      rw [hir] at l1
      go_wp2_with (go_at_call 121; refine l1.mono ?_; rintro e w1 ⟨rfl, m1, rfl⟩)
      go_end0
      exact ⟨rfl, HT1.out.drewN _, HCU.out.trans own_drewN⟩
  · rw [show s.edit 83 p0 = s.scrollUp (TS.times p0).toNat from rfl, hnt]
    go_enter Tryd.func86, Tryd.ntmps86
    go_wp2_with fail
    go_quiet ((first | (go_at_call 112; exact Calls.quiet_of_same (times_any _ _)) | (go_at_call 116; exact Calls.quiet_of_same (amount_any _ _))))
    rw [hnn]
    have HT1 : Hid (TAt (World.drewN (w.alloc (Obj.cells (intA ev) 75)) nq) L s) := HT.out.drewN nq
    have HCU : Hid (Ch L.own w (World.drewN (w.alloc (Obj.cells (intA ev) 75)) nq)) := HCW.out.drewN nq
    have e3' : World.cell? (World.drewN (w.alloc (Obj.cells (intA ev) 75)) nq) ⟨w.heap.size, 3, none⟩ = some (.int .i64 83) := e3
    clear e3 e5 e6 HT HCW
    generalize hU : World.drewN (w.alloc (Obj.cells (intA ev) 75)) nq = U at *
    generalize hlb : w.heap.size = lb at *
    have l2 := region_any L s U HT1.out HI.out
    have l3 : ∀ m, _ := fun m => scrollUp_any L s (U.drewN m) (HT1.out.drewN m) HI.out nn (by omega)
    go_wp2_with (first | (go_at_call 104; refine l2.mono ?_; rintro e w2 ⟨rfl, m2, rfl⟩) | (go_at_call 105; refine (l3 _).mono ?_; rintro e w3 ⟨rfl, h3, c3⟩))
    go_end0
    exact ⟨rfl, h3, HCU.out.trans (own_drewN.trans c3)⟩
  · rw [show s.edit 84 p0 = s.scrollDown (TS.times p0).toNat from rfl, hnt]
    go_enter Tryd.func86, Tryd.ntmps86
    go_wp2_with fail
    go_quiet ((first | (go_at_call 112; exact Calls.quiet_of_same (times_any _ _)) | (go_at_call 116; exact Calls.quiet_of_same (amount_any _ _))))
    rw [hnn]
    have HT1 : Hid (TAt (World.drewN (w.alloc (Obj.cells (intA ev) 75)) nq) L s) := HT.out.drewN nq
    have HCU : Hid (Ch L.own w (World.drewN (w.alloc (Obj.cells (intA ev) 75)) nq)) := HCW.out.drewN nq
    have e3' : World.cell? (World.drewN (w.alloc (Obj.cells (intA ev) 75)) nq) ⟨w.heap.size, 3, none⟩ = some (.int .i64 84) := e3
    clear e3 e5 e6 HT HCW
    generalize hU : World.drewN (w.alloc (Obj.cells (intA ev) 75)) nq = U at *
    generalize hlb : w.heap.size = lb at *
    have l2 := region_any L s U HT1.out HI.out
    have l3 : ∀ m, _ := fun m => scrollDown_any L s (U.drewN m) (HT1.out.drewN m) HI.out nn (by omega)
    go_wp2_with (first | (go_at_call 104; refine l2.mono ?_; rintro e w2 ⟨rfl, m2, rfl⟩) | (go_at_call 123; refine (l3 _).mono ?_; rintro e w3 ⟨rfl, h3, c3⟩))
    go_end0
    exact ⟨rfl, h3, HCU.out.trans (own_drewN.trans c3)⟩
  · have e : s.edit f p0 = s := by
      unfold TS.edit
      simp only [if_neg (show ¬ f = 74 by omega), if_neg (show ¬ f = 75 by omega), if_neg (show ¬ f = 64 by omega), if_neg (show ¬ f = 80 by omega), if_neg (show ¬ f = 88 by omega), if_neg (show ¬ f = 76 by omega), if_neg (show ¬ f = 77 by omega), if_neg (show ¬ f = 83 by omega), if_neg (show ¬ f = 84 by omega)]
    rw [e]
    have b74 : (f == 74) = false := by simp; omega
    have b75 : (f == 75) = false := by simp; omega
    have b64 : (f == 64) = false := by simp; omega
    have b80 : (f == 80) = false := by simp; omega
    have b88 : (f == 88) = false := by simp; omega
    have b76 : (f == 76) = false := by simp; omega
    have b77 : (f == 77) = false := by simp; omega
    have b83 : (f == 83) = false := by simp; omega
    have b84 : (f == 84) = false := by simp; omega
    clear e hf
    go_enter Tryd.func86, Tryd.ntmps86
    go_wp2_with fail
    go_quiet ((first | (go_at_call 112; exact Calls.quiet_of_same (times_any _ _)) | (go_at_call 116; exact Calls.quiet_of_same (amount_any _ _))))
    rw [hnn]
    have HT1 : Hid (TAt (World.drewN (w.alloc (Obj.cells (intA ev) 75)) nq) L s) := HT.out.drewN nq
    have HCU : Hid (Ch L.own w (World.drewN (w.alloc (Obj.cells (intA ev) 75)) nq)) := HCW.out.drewN nq
    have e3' : World.cell? (World.drewN (w.alloc (Obj.cells (intA ev) 75)) nq) ⟨w.heap.size, 3, none⟩ = some (.int .i64 f) := e3
    clear e3 e5 e6 HT HCW
    generalize hU : World.drewN (w.alloc (Obj.cells (intA ev) 75)) nq = U at *
    generalize hlb : w.heap.size = lb at *
    go_wp2_with fail
    go_end0
    exact ⟨rfl, HT1.out, HCU.out⟩
end Go.Proofs.YtheibfffilomcaaDoor

/- The walks of setRegion, turn. -/
namespace Go.Proofs.YtheibfffilomcaaDoor
open Go.RowKit

theorem TS.Inv.setRegion {s : TS} (h : s.Inv) (top bottom : Int) (h0 : 0 ≤ top) : (s.setRegion top bottom).Inv := by
  unfold TS.setRegion
  dsimp only
  generalize hb : (if bottom < 0 ∨ (s.rows : Int) - 1 < bottom then (s.rows : Int) - 1 else bottom) = b
  have hb1 : b < (s.rows : Int) := by split at hb <;> omega
  split
  · exact h
  · exact TS.Inv.home (h.upd rfl rfl rfl rfl rfl rfl rfl h.row0 h.row1 h.col0 h.col1 h0 (by show top ≤ b; omega) hb1 h.sh)

set_option maxHeartbeats 1000000 in
theorem setRegion_any (L : Lay) (s : TS) (w : World) (ht : TAt w L s) (hi : s.Inv) (top bottom : Int) (h0 : 0 ≤ top) : Calls Tryd.prog 124 #[.pointer (some ⟨L.tb, 0, none⟩), .int .i64 top, .int .i64 bottom] w fun e w' => e = .returned (.tuple #[]) ∧ TAt w' L (s.setRegion top bottom) ∧ Ch L.own w w' := by
  have l1 := lastRow_any L s w ht hi
  have c38 := ht.c 38 _ rfl
  have f38 := ht.f 38
  have c39 := ht.c 39 _ rfl
  have f39 := ht.f 39
  have HT : Hid (TAt w L s) := ht
  have HI : Hid s.Inv := hi
  have hX : s.setRegion top bottom = if (if bottom < 0 ∨ (s.rows : Int) - 1 < bottom then (s.rows : Int) - 1 else bottom) ≤ top then s else ({ s with top := top, bottom := (if bottom < 0 ∨ (s.rows : Int) - 1 < bottom then (s.rows : Int) - 1 else bottom) } : TS).home := rfl
  generalize s.setRegion top bottom = X at *
  have lh : ∀ b, ¬ b ≤ top → b < (s.rows : Int) → ∀ u, TAt u L { s with top := top, bottom := b } → _ := fun b hb hb2 u hu => home_any L { s with top := top, bottom := b } u hu (hi.upd rfl rfl rfl rfl rfl rfl rfl hi.row0 hi.row1 hi.col0 hi.col1 h0 (by show top ≤ b; omega) hb2 hi.sh)
  have st : ∀ b, TAt ((w.setCell ⟨L.tb, 38, none⟩ (.int .i64 top)).setCell ⟨L.tb, 39, none⟩ (.int .i64 b)) L { s with top := top, bottom := b } := fun b => (ht.set (s' := { s with top := top }) 38 (.int .i64 top) rfl rfl rfl rfl rfl).set 39 (.int .i64 b) rfl rfl rfl rfl rfl
  have CC : ∀ b, Ch L.own w ((w.setCell ⟨L.tb, 38, none⟩ (.int .i64 top)).setCell ⟨L.tb, 39, none⟩ (.int .i64 b)) := fun b => ((Ch.refl _ _).tset _ _).tset _ _
  have hr1 := hi.r1
  clear ht hi
  by_cases hb0 : bottom < 0
  · rw [if_pos (Or.inl hb0)] at hX
    by_cases hq : (s.rows : Int) - 1 ≤ top
    · rw [if_pos hq] at hX
      have HX : Hid _ := hX
      clear hX
      go_enter Tryd.func124, Tryd.ntmps124
      go_wp2_with (go_at_call 55; refine l1.mono ?_; rintro e w1 ⟨rfl, hw1⟩; have hw2 := hw1.symm; subst hw2)
      exact bodyPost_ret (results_none Tryd.results124 _ _ _) rfl ⟨rfl, by rw [HX.out]; exact HT.out, Ch.refl _ _⟩
    · rw [if_neg hq] at hX
      have HX : Hid _ := hX
      have dq : decide ((s.rows : Int) - 1 ≤ top) = false := by simp; omega
      have l2 := lh ((s.rows : Int) - 1) hq (by omega) _ (st _)
      clear hX lh
      go_enter Tryd.func124, Tryd.ntmps124
      go_wp2_with (first | (go_at_call 55; refine l1.mono ?_; rintro e w1 ⟨rfl, hw1⟩; have hw2 := hw1.symm; subst hw2) | (go_at_call 127; refine l2.mono ?_; rintro e w2 ⟨rfl, h2, c2⟩))
      go_end0
      exact ⟨rfl, by rw [HX.out]; exact h2, (CC _).trans c2⟩
  · by_cases hb1 : (s.rows : Int) - 1 < bottom
    · rw [if_pos (Or.inr hb1)] at hX
      have d0 : decide (bottom < 0) = false := by simp; omega
      by_cases hq : (s.rows : Int) - 1 ≤ top
      · rw [if_pos hq] at hX
        have HX : Hid _ := hX
        clear hX
        go_enter Tryd.func124, Tryd.ntmps124
        go_wp2_with (go_at_call 55; refine l1.mono ?_; rintro e w1 ⟨rfl, hw1⟩; have hw2 := hw1.symm; subst hw2)
        exact bodyPost_ret (results_none Tryd.results124 _ _ _) rfl ⟨rfl, by rw [HX.out]; exact HT.out, Ch.refl _ _⟩
      · rw [if_neg hq] at hX
        have HX : Hid _ := hX
        have dq : decide ((s.rows : Int) - 1 ≤ top) = false := by simp; omega
        have l2 := lh ((s.rows : Int) - 1) hq (by omega) _ (st _)
        clear hX lh
        go_enter Tryd.func124, Tryd.ntmps124
        go_wp2_with (first | (go_at_call 55; refine l1.mono ?_; rintro e w1 ⟨rfl, hw1⟩; have hw2 := hw1.symm; subst hw2) | (go_at_call 127; refine l2.mono ?_; rintro e w2 ⟨rfl, h2, c2⟩))
        go_end0
        exact ⟨rfl, by rw [HX.out]; exact h2, (CC _).trans c2⟩
    · rw [if_neg (show ¬ (bottom < 0 ∨ (s.rows : Int) - 1 < bottom) by omega)] at hX
      have d0 : decide (bottom < 0) = false := by simp; omega
      have d1 : decide ((s.rows : Int) - 1 < bottom) = false := by simp; omega
      by_cases hq : bottom ≤ top
      · rw [if_pos hq] at hX
        have HX : Hid _ := hX
        clear hX
        go_enter Tryd.func124, Tryd.ntmps124
        go_wp2_with (go_at_call 55; refine l1.mono ?_; rintro e w1 ⟨rfl, hw1⟩; have hw2 := hw1.symm; subst hw2)
        exact bodyPost_ret (results_none Tryd.results124 _ _ _) rfl ⟨rfl, by rw [HX.out]; exact HT.out, Ch.refl _ _⟩
      · rw [if_neg hq] at hX
        have HX : Hid _ := hX
        have dq : decide (bottom ≤ top) = false := by simp; omega
        have l2 := lh (bottom) hq (by omega) _ (st _)
        clear hX lh
        go_enter Tryd.func124, Tryd.ntmps124
        go_wp2_with (first | (go_at_call 55; refine l1.mono ?_; rintro e w1 ⟨rfl, hw1⟩; have hw2 := hw1.symm; subst hw2) | (go_at_call 127; refine l2.mono ?_; rintro e w2 ⟨rfl, h2, c2⟩))
        go_end0
        exact ⟨rfl, by rw [HX.out]; exact h2, (CC _).trans c2⟩

/-- A pen handed back. -/
theorem results_p {fn : Func} {p : Tmp} (h : fn.results = #[.cell p 47]) (tmps : Array Value) (w : World) (g : Nat) (c : PenS) (t : TypeId) (fr : Nat × Nat)
    (hp : tmps.getD p undef = .pointer (some ⟨g, 0, none⟩)) (hg : w.heap[g]? = some (.cells (penA c) t fr)) : (results fn tmps).run Tryd.prog w = .ok (.agg (penA c)) w :=
  results_cell_row h tmps w g t (penA c) fr _ hp hg Tryd.underlying47 rfl (by exact info47)
theorem heap2T (w : World) (a b : Obj) : ((w.alloc a).alloc b).heap[w.heap.size + 1]? = some b := by
  have hs : (w.alloc a).heap.size = w.heap.size + 1 := by simp
  rw [← hs]; exact heap_alloc_new _ _
set_option maxRecDepth 100000 in
set_option maxHeartbeats 2000000 in
theorem turn_any (p : PenS) (n : Int) (w : World) (hn : 0 ≤ n ∧ n ≤ 70000) : Calls Tryd.prog 126 #[.agg (penA p), .int .i64 n] w fun e w' => e = .returned (.agg (penA (TS.turn p n))) ∧ Below w.heap.size w w' := by
  change Calls Tryd.prog 126 #[.agg #[.bool p.b, .bool p.u, .bool p.t, .int .i64 p.f, .int .i64 p.k], .int .i64 n] w _
  generalize hX : TS.turn p n = X
  unfold TS.turn at hX
  by_cases h0 : n = 0
  · subst h0
    have HX : Hid (pen0 = X) := by rw [← hX]; rfl
    clear hX
    go_enter Tryd.func126, Tryd.ntmps126
    go_wp2_with fail
    all_goals refine bodyPost_ret (results_p Tryd.results126 _ _ (w.heap.size + 1) X 47 (0, 0) (by simp) ?_) rfl ⟨rfl, ((Below.refl _ _).alloc (Nat.le_refl _) _).alloc (by simp) _⟩
    all_goals rw [← HX.out]; exact heap2T _ _ _
  by_cases h1 : n = 1
  · subst h1
    have HX : Hid ({ p with b := true } = X) := by rw [← hX]; rfl
    clear hX
    go_enter Tryd.func126, Tryd.ntmps126
    go_wp2_with fail
    all_goals refine bodyPost_ret (results_p Tryd.results126 _ _ (w.heap.size + 1) X 47 (0, 0) (by simp) ?_) rfl ⟨rfl, ((Below.refl _ _).alloc (Nat.le_refl _) _).alloc (by simp) _⟩
    all_goals rw [← HX.out]; exact heap2T _ _ _
  by_cases h22 : n = 22
  · subst h22
    have HX : Hid ({ p with b := false } = X) := by rw [← hX]; rfl
    clear hX
    go_enter Tryd.func126, Tryd.ntmps126
    go_wp2_with fail
    all_goals refine bodyPost_ret (results_p Tryd.results126 _ _ (w.heap.size + 1) X 47 (0, 0) (by simp) ?_) rfl ⟨rfl, ((Below.refl _ _).alloc (Nat.le_refl _) _).alloc (by simp) _⟩
    all_goals rw [← HX.out]; exact heap2T _ _ _
  by_cases h4 : n = 4
  · subst h4
    have HX : Hid ({ p with u := true } = X) := by rw [← hX]; rfl
    clear hX
    go_enter Tryd.func126, Tryd.ntmps126
    go_wp2_with fail
    all_goals refine bodyPost_ret (results_p Tryd.results126 _ _ (w.heap.size + 1) X 47 (0, 0) (by simp) ?_) rfl ⟨rfl, ((Below.refl _ _).alloc (Nat.le_refl _) _).alloc (by simp) _⟩
    all_goals rw [← HX.out]; exact heap2T _ _ _
  by_cases h24 : n = 24
  · subst h24
    have HX : Hid ({ p with u := false } = X) := by rw [← hX]; rfl
    clear hX
    go_enter Tryd.func126, Tryd.ntmps126
    go_wp2_with fail
    all_goals refine bodyPost_ret (results_p Tryd.results126 _ _ (w.heap.size + 1) X 47 (0, 0) (by simp) ?_) rfl ⟨rfl, ((Below.refl _ _).alloc (Nat.le_refl _) _).alloc (by simp) _⟩
    all_goals rw [← HX.out]; exact heap2T _ _ _
  by_cases h7 : n = 7
  · subst h7
    have HX : Hid ({ p with t := true } = X) := by rw [← hX]; rfl
    clear hX
    go_enter Tryd.func126, Tryd.ntmps126
    go_wp2_with fail
    all_goals refine bodyPost_ret (results_p Tryd.results126 _ _ (w.heap.size + 1) X 47 (0, 0) (by simp) ?_) rfl ⟨rfl, ((Below.refl _ _).alloc (Nat.le_refl _) _).alloc (by simp) _⟩
    all_goals rw [← HX.out]; exact heap2T _ _ _
  by_cases h27 : n = 27
  · subst h27
    have HX : Hid ({ p with t := false } = X) := by rw [← hX]; rfl
    clear hX
    go_enter Tryd.func126, Tryd.ntmps126
    go_wp2_with fail
    all_goals refine bodyPost_ret (results_p Tryd.results126 _ _ (w.heap.size + 1) X 47 (0, 0) (by simp) ?_) rfl ⟨rfl, ((Below.refl _ _).alloc (Nat.le_refl _) _).alloc (by simp) _⟩
    all_goals rw [← HX.out]; exact heap2T _ _ _
  by_cases h39 : n = 39
  · subst h39
    have HX : Hid ({ p with f := 0 } = X) := by rw [← hX]; rfl
    clear hX
    go_enter Tryd.func126, Tryd.ntmps126
    go_wp2_with fail
    all_goals refine bodyPost_ret (results_p Tryd.results126 _ _ (w.heap.size + 1) X 47 (0, 0) (by simp) ?_) rfl ⟨rfl, ((Below.refl _ _).alloc (Nat.le_refl _) _).alloc (by simp) _⟩
    all_goals rw [← HX.out]; exact heap2T _ _ _
  by_cases h49 : n = 49
  · subst h49
    have HX : Hid ({ p with k := 0 } = X) := by rw [← hX]; rfl
    clear hX
    go_enter Tryd.func126, Tryd.ntmps126
    go_wp2_with fail
    all_goals refine bodyPost_ret (results_p Tryd.results126 _ _ (w.heap.size + 1) X 47 (0, 0) (by simp) ?_) rfl ⟨rfl, ((Below.refl _ _).alloc (Nat.le_refl _) _).alloc (by simp) _⟩
    all_goals rw [← HX.out]; exact heap2T _ _ _
  have b0 : (n == 0) = false := by simp [h0]
  have b1 : (n == 1) = false := by simp [h1]
  have b22 : (n == 22) = false := by simp [h22]
  have b4 : (n == 4) = false := by simp [h4]
  have b24 : (n == 24) = false := by simp [h24]
  have b7 : (n == 7) = false := by simp [h7]
  have b27 : (n == 27) = false := by simp [h27]
  have b39 : (n == 39) = false := by simp [h39]
  have b49 : (n == 49) = false := by simp [h49]
  rw [if_neg h0, if_neg (show ¬ (n = 1 ∨ n = 22) by omega), if_neg (show ¬ (n = 4 ∨ n = 24) by omega), if_neg (show ¬ (n = 7 ∨ n = 27) by omega)] at hX
  by_cases r1 : 30 ≤ n ∧ n ≤ 37
  · rw [if_pos r1] at hX
    have HX : Hid _ := hX
    obtain ⟨r1a, r1b⟩ := r1
    have v1 : IntKind.i64.wrap (n - 29) = n - 29 := IntWalk.i64_in _ (by omega)
    clear hX h0 h1 h22 h4 h24 h7 h27 h39 h49
    go_enter Tryd.func126, Tryd.ntmps126
    go_wp2_with fail
    all_goals refine bodyPost_ret (results_p Tryd.results126 _ _ (w.heap.size + 1) X 47 (0, 0) (by simp) ?_) rfl ⟨rfl, ((Below.refl _ _).alloc (Nat.le_refl _) _).alloc (by simp) _⟩
    all_goals rw [← HX.out]; exact heap2T _ _ _
  · rw [if_neg r1, if_neg h39] at hX
    by_cases r2 : 40 ≤ n ∧ n ≤ 47
    · rw [if_pos r2] at hX
      have HX : Hid _ := hX
      obtain ⟨r2a, r2b⟩ := r2
      have d1 : decide (n ≤ 37) = false := by simp; omega
      have d1' : decide (30 ≤ n) = true := by simp; omega
      have d1'' : 30 ≤ n := by omega
      have v1 : IntKind.i64.wrap (n - 39) = n - 39 := IntWalk.i64_in _ (by omega)
      clear hX h0 h1 h22 h4 h24 h7 h27 h39 h49
      go_enter Tryd.func126, Tryd.ntmps126
      go_wp2_with fail
      all_goals refine bodyPost_ret (results_p Tryd.results126 _ _ (w.heap.size + 1) X 47 (0, 0) (by simp) ?_) rfl ⟨rfl, ((Below.refl _ _).alloc (Nat.le_refl _) _).alloc (by simp) _⟩
      all_goals rw [← HX.out]; exact heap2T _ _ _
    · rw [if_neg r2, if_neg h49] at hX
      have HX : Hid _ := hX
      clear hX h0 h1 h22 h4 h24 h7 h27
      rcases (show n < 30 ∨ (37 < n ∧ n < 40) ∨ 47 < n by omega) with q | q | q
      · have d1 : decide (30 ≤ n) = false := by simp; omega
        have d2 : decide (40 ≤ n) = false := by simp; omega
        clear r1 r2 h39 h49
        go_enter Tryd.func126, Tryd.ntmps126
        go_wp2_with fail
        all_goals refine bodyPost_ret (results_p Tryd.results126 _ _ (w.heap.size + 1) X 47 (0, 0) (by simp) ?_) rfl ⟨rfl, ((Below.refl _ _).alloc (Nat.le_refl _) _).alloc (by simp) _⟩
        all_goals rw [← HX.out]; exact heap2T _ _ _
      · have d1 : decide (30 ≤ n) = true := by simp; omega
        have d1' : decide (n ≤ 37) = false := by simp; omega
        have d1'' : 30 ≤ n := by omega
        have d2 : decide (40 ≤ n) = false := by simp; omega
        clear r1 r2 h39 h49
        go_enter Tryd.func126, Tryd.ntmps126
        go_wp2_with fail
        all_goals refine bodyPost_ret (results_p Tryd.results126 _ _ (w.heap.size + 1) X 47 (0, 0) (by simp) ?_) rfl ⟨rfl, ((Below.refl _ _).alloc (Nat.le_refl _) _).alloc (by simp) _⟩
        all_goals rw [← HX.out]; exact heap2T _ _ _
      · have d1 : decide (30 ≤ n) = true := by simp; omega
        have d1' : decide (n ≤ 37) = false := by simp; omega
        have d1'' : 30 ≤ n := by omega
        have d2'' : 40 ≤ n := by omega
        have d2 : decide (40 ≤ n) = true := by simp; omega
        have d2' : decide (n ≤ 47) = false := by simp; omega
        clear r1 r2 h39 h49
        go_enter Tryd.func126, Tryd.ntmps126
        go_wp2_with fail
        all_goals refine bodyPost_ret (results_p Tryd.results126 _ _ (w.heap.size + 1) X 47 (0, 0) (by simp) ?_) rfl ⟨rfl, ((Below.refl _ _).alloc (Nat.le_refl _) _).alloc (by simp) _⟩
        all_goals rw [← HX.out]; exact heap2T _ _ _
end Go.Proofs.YtheibfffilomcaaDoor

/- The walks of clearTabs, set. -/
namespace Go.Proofs.YtheibfffilomcaaDoor
open Go.RowKit

theorem zero4 (u : World) : (zeroValue 4).run Tryd.prog u = .ok (.bool false) u := by kernel_rfl
theorem zcells (n : Nat) : (Builtin.zeroCells #[Value.bool false] n).toList = List.replicate n (Value.bool false) := by
  apply List.ext_getElem?
  intro i
  simp only [Builtin.zeroCells, Array.getElem?_toList, Array.getElem?_map, Array.getElem?_range, List.getElem?_replicate]
  by_cases h : i < n
  · rw [if_pos (by simpa using h), if_pos h]
    simp [Nat.mod_one]
  · rw [if_neg (by simpa using h), if_neg h]; rfl
/-- All tab stops gone. -/
theorem wp_tclear {ops : Array Oper} {rest : List Oper} {o : Oper} {a : Act} {u : World} {Q : Exit → Act → World → Prop} (hgd : o.guard = none) (x : Operand) (ho : o.op = .call { callee := .builtin .clear, args := #[x], argTypes := #[114] }) (hd : o.dst = none) (L : Lay) (s : TS) (hx : a.eval x = .slice (some ⟨L.gb, 0, none⟩) s.cols s.cols) (ht : TAt u L s) (hi : s.Inv)
    (h : ∀ u', TAt u' L { s with tabs := List.replicate s.tabs.length false } → Ch L.own u u' → wpList Tryd.prog ops Q rest a u') : wpList Tryd.prog ops Q (o :: rest) a u := by
  have hlen : (s.tabs.map Value.bool).length = s.cols := by rw [List.length_map]; exact hi.lt
  have hst := run_storeCells_cells (P := Tryd.prog) L.gb 0 (List.replicate s.cols (.bool false)) 0 u (fun i hj => by rw [List.length_replicate] at hj; rw [cell_of_row _ _ _ _ _ _ ht.tab]; simp [hi.lt, hj]) (fun i _ => frozen_of_row _ _ _ _ _ ht.tab) (fun v hv => by rw [List.eq_of_mem_replicate hv]; rfl)
  have hz := size_setCells L.gb (List.replicate s.cols (.bool false)) 0 u
  have hb := blk_setCells (vs := List.replicate s.cols (Value.bool false)) (o := 0) ht.tab (by rw [hlen, List.length_replicate]; omega)
  rw [List.take_zero, List.nil_append, List.drop_eq_nil_of_le (by rw [hlen, List.length_replicate]; omega), List.append_nil] at hb
  have k : Ch (· = L.gb) u (u.setCells L.gb 0 (List.replicate s.cols (.bool false))) := ⟨hz.2.1, hz.2.2.1, hz.2.2.2, by omega, fun i _ hn => heap_setCells L.gb _ _ _ i hn⟩
  have T := ht.setTab (tabs := List.replicate s.tabs.length false) (by rw [List.map_replicate, hi.lt]; exact hb) k
  refine wpList_plain hgd fun K hK => ?_
  have R := hK _ _ (h _ T (k.mono fun j _ e => .inr (.inr (.inr (.inl e)))))
  have hc1 := hi.c1
  obtain ⟨m, hm⟩ : ∃ m, s.cols = m + 1 := ⟨s.cols - 1, by omega⟩
  have hrun : (Builtin.clear_ #[114] o.type #[.slice (some ⟨L.gb, 0, none⟩) s.cols s.cols]).run Tryd.prog u = .ok (.tuple #[]) (u.setCells L.gb 0 (List.replicate s.cols (.bool false))) := by
    rw [hm] at hst ⊢
    have hzc : (Value.bool false).cells = #[.bool false] := rfl
    simp only [Builtin.clear_, Sem.run_bind, run_underlying Tryd.underlying114, Result.andThen_ok, List.getElem?_toArray, List.getElem?_cons_zero, zero4, hzc, zcells]
    rw [Nat.add_zero] at hst
    rw [hst]
    rfl
  unfold Oper.wp
  simp [execOp, ho, resolve, invoke, builtin, hx, hrun, Result.andThen, Oper.upon_value, Act.put, hd]
  simpa [Act.put] using R
theorem TS.Inv.setTabs {s : TS} (h : s.Inv) (t : List Bool) (ht : t.length = s.cols) : ({ s with tabs := t } : TS).Inv :=
  ⟨h.r1, h.r2, h.c1, h.c2, h.row0, h.row1, h.col0, h.col1, h.top0, h.tb, h.bot, h.sh, h.l0, h.l1, ht, h.v0r, h.v0c, h.v1r, h.v1c⟩
theorem TS.Inv.clearTabs {s : TS} (h : s.Inv) (what : Int) : (s.clearTabs what).Inv := by
  unfold TS.clearTabs
  split
  · exact h.setTabs _ (by rw [List.length_set]; exact h.lt)
  · split
    · exact h.setTabs _ (by rw [List.length_replicate]; exact h.lt)
    · exact h

set_option maxRecDepth 100000 in
set_option maxHeartbeats 1000000 in
theorem clearTabs_any (L : Lay) (s : TS) (w : World) (ht : TAt w L s) (hi : s.Inv) (what : Int) : Calls Tryd.prog 125 #[.pointer (some ⟨L.tb, 0, none⟩), .int .i64 what] w fun e w' => e = .returned (.tuple #[]) ∧ TAt w' L (s.clearTabs what) ∧ Ch L.own w w' := by
  obtain ⟨cc, hcc⟩ : ∃ cc : Nat, s.col = (cc : Int) := ⟨s.col.toNat, by have := hi.col0; omega⟩
  have hcl : cc < s.cols := by have := hi.col1; omega
  have hcl' : (cc : Int) < (s.cols : Int) := by omega
  have hcn : s.col.toNat = cc := by rw [hcc]; rfl
  have htl : cc < s.tabs.length := by rw [hi.lt]; exact hcl
  have c43 := ht.c 43 _ rfl
  have HT : Hid (TAt w L s) := ht
  have HI : Hid s.Inv := hi
  clear ht hi
  rcases (show what = 0 ∨ what = 3 ∨ ¬ (what = 0 ∨ what = 3) by omega) with rfl | rfl | hw
  · rw [show s.clearTabs 0 = { s with tabs := s.tabs.set s.col.toNat false } from rfl, hcn]
    have HT0 : TAt ({ w with drawn := w.drawn + 1 } : World) L s := HT.out.sm ((Ch.refl _ _).drewN 1)
    have HH : World.cell? ({ w with drawn := w.drawn + 1 } : World) ⟨L.tb, 43, none⟩ = some (.slice (some ⟨L.gb, 0, none⟩) s.cols s.cols) ∧ World.cell? ({ w with drawn := w.drawn + 1 } : World) ⟨L.tb, 27, none⟩ = some (.int .i64 (cc : Int)) := ⟨HT0.c 43 _ rfl, by rw [← hcc]; exact HT0.c 27 _ rfl⟩
    go_enter Tryd.func125, Tryd.ntmps125
    go_wp2_with fail
    refine wp_region_held (S := fun x => x.cell? ⟨L.tb, 43, none⟩ = some (.slice (some ⟨L.gb, 0, none⟩) s.cols s.cols) ∧ x.cell? ⟨L.tb, 27, none⟩ = some (.int .i64 (cc : Int))) mixedC ?_
    refine takeL (i := 0) (d := 7) (v := .pointer (some ⟨L.tb, 0, none⟩)) rfl rfl (by kernel_rfl) (by kernel_rfl) (by kernel_rfl) (fun _ _ _ h => h) (Or.inl ⟨by rfl, by intro x hSx; go_simp; try (first | rfl | go_num)⟩) HH ?_
    simp only [List.set_cons_zero, List.set_cons_succ]
    refine takeL (i := 1) (d := 8) (v := .pointer (some ⟨L.tb, 0, none⟩)) rfl rfl (by kernel_rfl) (by kernel_rfl) (by kernel_rfl) (fun _ _ _ h => h) (Or.inl ⟨by rfl, by intro x hSx; go_simp; try (first | rfl | go_num)⟩) HH ?_
    simp only [List.set_cons_zero, List.set_cons_succ]
    refine takeL (i := 2) (d := 9) (v := .pointer (some ⟨L.tb, 43, none⟩)) rfl rfl (by kernel_rfl) (by kernel_rfl) (by kernel_rfl) (fun _ _ _ h => h) (Or.inl ⟨by rfl, by intro x hSx; go_simp; try (first | rfl | go_num)⟩) HH ?_
    simp only [List.set_cons_zero, List.set_cons_succ]
    refine takeL (i := 3) (d := 10) (v := .slice (some ⟨L.gb, 0, none⟩) s.cols s.cols) rfl rfl (by kernel_rfl) (by kernel_rfl) (by kernel_rfl) (fun _ _ _ h => h) (Or.inl ⟨by rfl, by intro x hSx; have hSc := hSx.1; go_simp; try (first | rfl | go_num)⟩) HH ?_
    simp only [List.set_cons_zero, List.set_cons_succ]
    refine takeL (i := 4) (d := 11) (v := .pointer (some ⟨L.tb, 0, none⟩)) rfl rfl (by kernel_rfl) (by kernel_rfl) (by kernel_rfl) (fun _ _ _ h => h) (Or.inl ⟨by rfl, by intro x hSx; go_simp; try (first | rfl | go_num)⟩) HH ?_
    simp only [List.set_cons_zero, List.set_cons_succ]
    refine takeL (i := 5) (d := 12) (v := .pointer (some ⟨L.tb, 0, none⟩)) rfl rfl (by kernel_rfl) (by kernel_rfl) (by kernel_rfl) (fun _ _ _ h => h) (Or.inl ⟨by rfl, by intro x hSx; go_simp; try (first | rfl | go_num)⟩) HH ?_
    simp only [List.set_cons_zero, List.set_cons_succ]
    refine takeL (i := 6) (d := 13) (v := .pointer (some ⟨L.tb, 26, none⟩)) rfl rfl (by kernel_rfl) (by kernel_rfl) (by kernel_rfl) (fun _ _ _ h => h) (Or.inl ⟨by rfl, by intro x hSx; go_simp; try (first | rfl | go_num)⟩) HH ?_
    simp only [List.set_cons_zero, List.set_cons_succ]
    refine takeL (i := 7) (d := 14) (v := .pointer (some ⟨L.tb, 26, none⟩)) rfl rfl (by kernel_rfl) (by kernel_rfl) (by kernel_rfl) (fun _ _ _ h => h) (Or.inl ⟨by rfl, by intro x hSx; go_simp; try (first | rfl | go_num)⟩) HH ?_
    simp only [List.set_cons_zero, List.set_cons_succ]
    refine takeL (i := 8) (d := 15) (v := .pointer (some ⟨L.tb, 27, none⟩)) rfl rfl (by kernel_rfl) (by kernel_rfl) (by kernel_rfl) (fun _ _ _ h => h) (Or.inl ⟨by rfl, by intro x hSx; go_simp; try (first | rfl | go_num)⟩) HH ?_
    simp only [List.set_cons_zero, List.set_cons_succ]
    refine takeL (i := 9) (d := 16) (v := .int .i64 (cc : Int)) rfl rfl (by kernel_rfl) (by kernel_rfl) (by kernel_rfl) (fun _ _ _ h => h) (Or.inl ⟨by rfl, by intro x hSx; have hSc := hSx.2; go_simp; try (first | rfl | go_num)⟩) HH ?_
    simp only [List.set_cons_zero, List.set_cons_succ]
    refine takeL (i := 10) (d := 17) (v := .pointer (some ⟨L.gb, cc, none⟩)) rfl rfl (by kernel_rfl) (by kernel_rfl) (by kernel_rfl) (fun _ _ _ h => h) (Or.inl ⟨by rfl, by intro x hSx; go_simp; try (first | rfl | go_num)⟩) HH ?_
    simp only [List.set_cons_zero, List.set_cons_succ]
    refine wpAnyH_all (rs := [11]) (by kernel_rfl) (by simp) ?_
    intro i hi'
    rw [List.mem_singleton] at hi'
    subst hi'
    refine wpOp_step rfl fun Kq hKq => ?_
    rw [if_pos (by rfl)]
    refine wp_bsetO 4 info4s (.tmp 17) _ rfl rfl L.gb cc (s.tabs.map Value.bool) ((s.tabs.set cc false).map Value.bool) (.bool false) (by rw [List.length_map]; exact htl) rfl rfl rfl rfl (by rw [List.map_set]) 4 HT0.tab ?_
    intro u3 g3 k3
    have T3 := HT0.setTab g3 k3
    refine hKq _ _ ⟨⟨T3.c 43 _ rfl, by rw [← hcc]; exact T3.c 27 _ rfl⟩, ?_⟩
    clear hKq
    refine wpAnyH_done (by kernel_rfl) ?_ _
    have HF : Hid (TAt u3 L { s with tabs := s.tabs.set cc false } ∧ Ch L.own w u3) := ⟨T3, (⟨k3.os, k3.tape, k3.output, k3.size, k3.block⟩ : Ch (· = L.gb) w u3).mono fun k _ e => .inr (.inr (.inr (.inl e)))⟩
    clear T3 k3 g3 HT0 HH
    go_wp2_with fail
    go_end0
    exact ⟨rfl, HF.out.1, HF.out.2⟩
  · rw [show s.clearTabs 3 = { s with tabs := List.replicate s.tabs.length false } from rfl]
    go_enter Tryd.func125, Tryd.ntmps125
    go_wp2_with (refine wp_tclear rfl (.tmp 23) rfl rfl L s rfl HT.out HI.out ?_)
    intro u' t' c'
    go_wp2_with fail
    go_end0
    exact ⟨rfl, t', c'⟩
  · have e : s.clearTabs what = s := by
      unfold TS.clearTabs
      simp only [if_neg (show ¬ what = 0 by omega), if_neg (show ¬ what = 3 by omega)]
    rw [e]
    have b0 : (what == 0) = false := by simp; omega
    have b1 : (what == 3) = false := by simp; omega
    clear e hw
    go_enter Tryd.func125, Tryd.ntmps125
    go_wp2_with fail
    go_end0
    exact ⟨rfl, HT.out, Ch.refl _ _⟩
end Go.Proofs.YtheibfffilomcaaDoor

/- The walk of set. -/
namespace Go.Proofs.YtheibfffilomcaaDoor
open Go.RowKit

theorem sets_snoc (on : Bool) : ∀ (l : List Int) (s : TS) (x : Int), s.sets on (l ++ [x]) = (s.sets on l).set1 x on
  | [], _, _ => rfl
  | y :: l, s, x => by
    show (s.set1 y on).sets on (l ++ [x]) = _
    rw [sets_snoc on l]; rfl
theorem TS.Inv.set1 {s : TS} (h : s.Inv) (n : Int) (on : Bool) : (s.set1 n on).Inv := by
  unfold TS.set1
  split
  · exact TS.Inv.home (h.upd rfl rfl rfl rfl rfl rfl rfl h.row0 h.row1 h.col0 h.col1 h.top0 h.tb h.bot h.sh)
  · split
    · exact h.upd rfl rfl rfl rfl rfl rfl rfl h.row0 h.row1 h.col0 h.col1 h.top0 h.tb h.bot h.sh
    · split
      · exact h.upd rfl rfl rfl rfl rfl rfl rfl h.row0 h.row1 h.col0 h.col1 h.top0 h.tb h.bot (by show (if on then (1 : Int) else 0) = 0 ∨ (if on then (1 : Int) else 0) = 1; cases on <;> simp)
      · exact h
theorem TS.Inv.sets {s : TS} (on : Bool) : ∀ (l : List Int), s.Inv → (s.sets on l).Inv := by
  intro l
  induction l generalizing s with
  | nil => exact id
  | cons x l ih => exact fun h => ih (h.set1 x on)

set_option maxRecDepth 100000 in
set_option maxHeartbeats 1000000 in
theorem set_any (L : Lay) (s : TS) (w : World) (ht : TAt w L s) (hi : s.Inv) (on : Bool) (eb eo cap : Nat) (ns : List Int) (hns : ns.length ≤ 16) (hc : ∀ j x, ns[j]? = some x → w.cell? ⟨eb, eo + j, none⟩ = some (.int .i64 x)) (hno : ¬ L.own eb) (hlt : eb < w.heap.size) :
    Calls Tryd.prog 88 #[.pointer (some ⟨L.tb, 0, none⟩), .slice (some ⟨eb, eo, none⟩) ns.length cap, .bool on] w fun e w' => e = .returned (.tuple #[]) ∧ TAt w' L (s.sets on ns) ∧ Ch L.own w w' := by
  have HT : Hid (TAt w L s) := ht
  have HI : Hid s.Inv := hi
  have HC : Hid _ := hc
  clear ht hi hc
  go_enter Tryd.func88, Tryd.ntmps88
  go_wp2_with fail
  go_loopw [10] (fun i wr => ∃ k : Nat, k ≤ ns.length ∧ i = .int .i64 k ∧ TAt wr L (s.sets on (ns.take k)) ∧ Ch L.own w wr) (fun i _ => ns.length - (intOf i).toNat)
  case atStart => exact ⟨0, Nat.zero_le _, rfl, HT.out, Ch.refl _ _⟩
  case round =>
    clear HT
    obtain ⟨k, hk, rfl, R, C⟩ := hrel
    by_cases hlt2 : k < ns.length
    · have ik : (k : Int) < (ns.length : Int) := by omega
      obtain ⟨x, hx⟩ : ∃ x, ns[k]? = some x := ⟨_, List.getElem?_eq_getElem hlt2⟩
      have hcell : wr.cell? ⟨eb, eo + k, none⟩ = some (.int .i64 x) := (World.cell?_of_block (C.block eb hlt hno)).trans (HC.out k x hx)
      have hts : s.sets on (ns.take (k + 1)) = (s.sets on (ns.take k)).set1 x on := by
        obtain ⟨h1, h2⟩ := List.getElem?_eq_some_iff.1 hx
        rw [List.take_succ_eq_append_getElem h1, h2, sets_snoc]
      have HIk : Hid (s.sets on (ns.take k)).Inv := TS.Inv.sets on _ HI.out
      have HTS : Hid _ := hts
      generalize s.sets on (ns.take k) = t at *
      have d28 := R.c 28 _ rfl
      have d37 := R.c 37 _ rfl
      have d40 := R.c 40 _ rfl
      have d42 := R.c 42 _ rfl
      have g28 := R.f 28
      have g37 := R.f 37
      have g40 := R.f 40
      have g42 := R.f 42
      have HR : Hid (TAt wr L t) := R
      have HC2 : Hid (Ch L.own w wr) := C
      clear R C hts hx
      have vk : IntKind.i64.wrap ((k : Int) + 1) = (k : Int) + 1 := IntWalk.i64_in _ (by omega)
      rcases (show x = 6 ∨ x = 7 ∨ x = 47 ∨ ¬ (x = 6 ∨ x = 7 ∨ x = 47) by omega) with rfl | rfl | rfl | hx
      · have l1 := home_any L { t with origin := on } _ (HR.out.set (s' := { t with origin := on }) 37 (.bool on) rfl rfl rfl rfl rfl) (HIk.out.upd rfl rfl rfl rfl rfl rfl rfl HIk.out.row0 HIk.out.row1 HIk.out.col0 HIk.out.col1 HIk.out.top0 HIk.out.tb HIk.out.bot HIk.out.sh)
        go_wp2_with (go_at_call 127; refine l1.mono ?_; rintro e w1 ⟨rfl, h1, c1⟩)
        go_roundw
        case rel => exact ⟨k + 1, by omega, by go_num, by rw [HTS.out]; exact h1, HC2.out.trans (((Ch.refl _ _).tset _ _).trans c1)⟩
        case measure => simp [intOf]; omega
      · cases hw : t.waits with
        | true =>
          rw [hw] at d28
          go_wp2_with fail
          go_roundw
          case rel => exact ⟨k + 1, by omega, by go_num, by rw [HTS.out, show t.set1 7 on = { t with wrap := on, waits := t.waits && on } from rfl, hw, Bool.true_and]; exact (HR.out.set (s' := { t with wrap := on }) 40 (.bool on) rfl rfl rfl rfl rfl).set 28 (.bool on) rfl rfl rfl rfl rfl, HC2.out.trans (((Ch.refl _ _).tset _ _).tset _ _)⟩
          case measure => simp [intOf]; omega
        | false =>
          rw [hw] at d28
          go_wp2_with fail
          go_roundw
          case rel => exact ⟨k + 1, by omega, by go_num, by rw [HTS.out, show t.set1 7 on = { t with wrap := on, waits := t.waits && on } from rfl, hw, Bool.false_and]; exact (HR.out.set (s' := { t with wrap := on }) 40 (.bool on) rfl rfl rfl rfl rfl).set 28 (.bool false) rfl rfl rfl rfl rfl, HC2.out.trans (((Ch.refl _ _).tset _ _).tset _ _)⟩
          case measure => simp [intOf]; omega
      · cases on with
        | true =>
          go_wp2_with fail
          go_roundw
          case rel => exact ⟨k + 1, by omega, by go_num, by rw [HTS.out, show t.set1 47 true = { t with shown := 1 } from rfl]; exact (HR.out.set (s' := { t with shown := 0 }) 42 (.int .i64 0) rfl rfl rfl rfl rfl).set 42 (.int .i64 1) rfl rfl rfl rfl rfl, HC2.out.trans (((Ch.refl _ _).tset _ _).tset _ _)⟩
          case measure => simp [intOf]; omega
        | false =>
          go_wp2_with fail
          go_roundw
          case rel => exact ⟨k + 1, by omega, by go_num, by rw [HTS.out, show t.set1 47 false = { t with shown := 0 } from rfl]; exact HR.out.set (s' := { t with shown := 0 }) 42 (.int .i64 0) rfl rfl rfl rfl rfl, HC2.out.trans ((Ch.refl _ _).tset _ _)⟩
          case measure => simp [intOf]; omega
      · have e : t.set1 x on = t := by
          unfold TS.set1
          simp only [if_neg (show ¬ x = 6 by omega), if_neg (show ¬ x = 7 by omega), if_neg (show ¬ x = 47 by omega)]
        have b1 : (x == 6) = false := by simp; omega
        have b2 : (x == 7) = false := by simp; omega
        have b3 : (x == 47) = false := by simp; omega
        have HE : Hid _ := e
        clear e hx
        go_wp2_with fail
        go_roundw
        case rel => exact ⟨k + 1, by omega, by go_num, by rw [HTS.out, HE.out]; exact HR.out, HC2.out⟩
        case measure => simp [intOf]; omega
    · have hkn : k = ns.length := by omega
      subst hkn
      rw [List.take_length] at R
      have HR : Hid _ := R
      have HC2 : Hid _ := C
      clear R C
      go_wp2_with fail
      go_end0
      exact ⟨rfl, HR.out, HC2.out⟩
end Go.Proofs.YtheibfffilomcaaDoor

/- The walk of adjust. -/
namespace Go.Proofs.YtheibfffilomcaaDoor
open Go.RowKit

theorem turns_snoc : ∀ (l : List Int) (s : TS) (x : Int), s.turns (l ++ [x]) = ({ (s.turns l) with pen := TS.turn (s.turns l).pen (TS.amount x) } : TS)
  | [], _, _ => rfl
  | y :: l, s, x => by
    show ({ s with pen := TS.turn s.pen (TS.amount y) } : TS).turns (l ++ [x]) = _
    rw [turns_snoc l]; rfl
theorem TS.Inv.turns {s : TS} : ∀ (l : List Int), s.Inv → (s.turns l).Inv := by
  intro l
  induction l generalizing s with
  | nil => exact id
  | cons x l ih => exact fun h => ih (h.upd rfl rfl rfl rfl rfl rfl rfl h.row0 h.row1 h.col0 h.col1 h.top0 h.tb h.bot h.sh)
theorem penV_one (p : PenS) : ∀ v ∈ penV p, v.oneCell' = true := by
  intro v hv
  simp only [penV, List.mem_cons, List.not_mem_nil, or_false] at hv
  rcases hv with rfl | rfl | rfl | rfl | rfl <;> rfl
/-- A pen read, in a region that draws its order. -/
theorem wp_load47L {o : Oper} {l : List Value} {ds : List Deferred} {u : World} {K : Act → World → Prop} {Q : Exit → Act → World → Prop} (d : Nat) (x : Operand) (ho : o.op = .load 47 x) (hd : o.dst = some d) (b j : Nat) (p : PenS) (hx : Act.eval ⟨l.toArray, ds⟩ x = .pointer (some ⟨b, j, none⟩)) (hc : u.rangeAt b j (penV p))
    (h : K ⟨(l.set d (.agg (penA p))).toArray, ds⟩ u) : Oper.wp Tryd.prog o ⟨l.toArray, ds⟩ u K Q := by
  refine wp_load_mid 47 x ho b j hx (penV p) _ hc Tryd.underlying47 rfl info47 ?_
  rw [hd]
  simpa [Act.put, penA] using h

set_option maxRecDepth 100000 in
set_option maxHeartbeats 2000000 in
theorem adjust_any (L : Lay) (s : TS) (w : World) (ht : TAt w L s) (hi : s.Inv) (ev : List Int) (hev : ev.length = 21) (ct : Nat) (hct : ev.getD 4 0 = (ct : Int)) (hct2 : ct ≤ 16) (hps : ∀ x ∈ ev.drop 5, -1 ≤ x ∧ x ≤ 65535) :
    Calls Tryd.prog 87 #[.pointer (some ⟨L.tb, 0, none⟩), .agg (intA ev)] w fun e w' => e = .returned (.tuple #[]) ∧ TAt w' L (s.adjust (ev.getD 3 0) (ev.drop 5) ct) ∧ Ch L.own w w' := by
  have HTW : Hid (TAt w L s) := ht
  have HT0 := ht.sm ((Ch.refl (fun _ => False) w).alloc (.cells (intA ev) 75))
  have HEB : Hid ((w.alloc (.cells (intA ev) 75)).heap[w.heap.size]? = some (.cells (intA ev) 75 (0, 0))) := heap_alloc_new _ _
  have e3 := evcell (j := 3) HEB.out (by omega)
  have e4 := evcell (j := 4) HEB.out (by omega)
  have e5 := evcell (j := 5) HEB.out (by omega)
  have e6 := evcell (j := 6) HEB.out (by omega)
  have g0 : (ev.drop 5).getD 0 0 = ev.getD 5 0 := by simp [List.getD]
  have g1 : (ev.drop 5).getD 1 0 = ev.getD 6 0 := by simp [List.getD]
  have hb5 : -1 ≤ ev.getD 5 0 ∧ ev.getD 5 0 ≤ 65535 := by rw [← g0]; refine hps _ ?_; simp [List.getD, List.getElem?_eq_getElem (show 5 < ev.length by omega)]; exact List.mem_iff_getElem.2 ⟨0, by simp; omega, by simp⟩
  have hb6 : -1 ≤ ev.getD 6 0 ∧ ev.getD 6 0 ≤ 65535 := by rw [← g1]; refine hps _ ?_; simp [List.getD, List.getElem?_eq_getElem (show 6 < ev.length by omega)]; exact List.mem_iff_getElem.2 ⟨1, by simp; omega, by simp⟩
  rw [hct] at e4
  have HCW : Hid (Ch L.own w (w.alloc (.cells (intA ev) 75))) := (Ch.refl _ _).alloc _
  have HLO : Hid (¬ L.own w.heap.size) := fun h => by have := ht.own_lt h; omega
  have HLW : Hid (w.heap.size < (w.alloc (.cells (intA ev) 75)).heap.size) := by show _ < _; simp
  have hlt := ht.lt
  have hX : s.adjust (ev.getD 3 0) (ev.drop 5) ct = if ev.getD 3 0 = 114 then s.setRegion (TS.times (ev.getD 5 0) - 1) (TS.amount (ev.getD 6 0) - 1) else if ev.getD 3 0 = 103 then s.clearTabs (TS.amount (ev.getD 5 0)) else if ev.getD 3 0 = 109 then s.turns ((ev.drop 5).take ct)
      else if ev.getD 3 0 = 104 ∨ ev.getD 3 0 = 108 then (if ev.getD 5 0 = 4 then { s with insert := decide (ev.getD 3 0 = 104) } else s) else s := by unfold TS.adjust; rw [g0, g1]
  generalize s.adjust (ev.getD 3 0) (ev.drop 5) ct = X at *
  generalize ev.getD 3 0 = f at *
  generalize ev.getD 5 0 = p0 at *
  generalize ev.getD 6 0 = p1 at *
  have HI : Hid s.Inv := hi
  have HT : Hid _ := HT0
  have ht0 : 1 ≤ TS.times p0 ∧ TS.times p0 ≤ 65535 := by unfold TS.times; omega
  have ha1 : 0 ≤ TS.amount p1 ∧ TS.amount p1 ≤ 65535 := by unfold TS.amount; omega
  clear ht hi HT0 g0 g1
  rcases (show f = 114 ∨ f = 103 ∨ f = 109 ∨ f = 104 ∨ f = 108 ∨ ¬ (f = 114 ∨ f = 103 ∨ f = 109 ∨ f = 104 ∨ f = 108) by omega) with rfl | rfl | rfl | rfl | rfl | hf
  · have HX : Hid (X = s.setRegion (TS.times p0 - 1) (TS.amount p1 - 1)) := hX
    have v1 : IntKind.i64.wrap (TS.times p0 - 1) = TS.times p0 - 1 := IntWalk.i64_in _ (by omega)
    have v2 : IntKind.i64.wrap (TS.amount p1 - 1) = TS.amount p1 - 1 := IntWalk.i64_in _ (by omega)
    clear hX
    go_enter Tryd.func87, Tryd.ntmps87
    go_wp2_with fail
    generalize hW : w.alloc (Obj.cells (intA ev) 75) = W at *
    generalize hlb : w.heap.size = lb at *
    have HT1 : TAt ({ W with drawn := W.drawn + 1 } : World) L s := HT.out.sm ((Ch.refl _ _).drewN 1)
    have HH : World.cell? ({ W with drawn := W.drawn + 1 } : World) ⟨lb, 5, none⟩ = some (.int .i64 p0) ∧ World.cell? ({ W with drawn := W.drawn + 1 } : World) ⟨lb, 6, none⟩ = some (.int .i64 p1) := ⟨e5, e6⟩
    refine wp_region_held (S := fun x => x.cell? ⟨lb, 5, none⟩ = some (.int .i64 p0) ∧ x.cell? ⟨lb, 6, none⟩ = some (.int .i64 p1)) mixedC ?_
    refine takeL (i := 0) (d := 10) (v := .pointer (some ⟨L.tb, 0, none⟩)) rfl rfl (by kernel_rfl) (by kernel_rfl) (by kernel_rfl) (fun _ _ _ h => h) (Or.inl ⟨by rfl, by intro x hSx; go_simp; try (first | rfl | go_num)⟩) HH ?_
    simp only [List.set_cons_zero, List.set_cons_succ]
    refine takeL (i := 1) (d := 11) (v := .pointer (some ⟨lb, 5, none⟩)) rfl rfl (by kernel_rfl) (by kernel_rfl) (by kernel_rfl) (fun _ _ _ h => h) (Or.inl ⟨by rfl, by intro x hSx; go_simp; try (first | rfl | go_num)⟩) HH ?_
    simp only [List.set_cons_zero, List.set_cons_succ]
    refine takeL (i := 2) (d := 12) (v := .pointer (some ⟨lb, 5, none⟩)) rfl rfl (by kernel_rfl) (by kernel_rfl) (by kernel_rfl) (fun _ _ _ h => h) (Or.inl ⟨by rfl, by intro x hSx; go_simp; try (first | rfl | go_num)⟩) HH ?_
    simp only [List.set_cons_zero, List.set_cons_succ]
    refine takeL (i := 3) (d := 13) (v := .int .i64 p0) rfl rfl (by kernel_rfl) (by kernel_rfl) (by kernel_rfl) (fun _ _ _ h => h) (Or.inl ⟨by rfl, by intro x hSx; have hSc := hSx.1; go_simp; try (first | rfl | go_num)⟩) HH ?_
    simp only [List.set_cons_zero, List.set_cons_succ]
    refine takeL (i := 6) (d := 16) (v := .pointer (some ⟨lb, 5, none⟩)) rfl rfl (by kernel_rfl) (by kernel_rfl) (by kernel_rfl) (fun _ _ _ h => h) (Or.inl ⟨by rfl, by intro x hSx; go_simp; try (first | rfl | go_num)⟩) HH ?_
    simp only [List.set_cons_zero, List.set_cons_succ]
    refine takeL (i := 7) (d := 17) (v := .pointer (some ⟨lb, 6, none⟩)) rfl rfl (by kernel_rfl) (by kernel_rfl) (by kernel_rfl) (fun _ _ _ h => h) (Or.inl ⟨by rfl, by intro x hSx; go_simp; try (first | rfl | go_num)⟩) HH ?_
    simp only [List.set_cons_zero, List.set_cons_succ]
    refine takeL (i := 8) (d := 18) (v := .int .i64 p1) rfl rfl (by kernel_rfl) (by kernel_rfl) (by kernel_rfl) (fun _ _ _ h => h) (Or.inl ⟨by rfl, by intro x hSx; have hSc := hSx.2; go_simp; try (first | rfl | go_num)⟩) HH ?_
    simp only [List.set_cons_zero, List.set_cons_succ]
    refine wpAnyH_all (rs := [4]) (by kernel_rfl) (by simp) ?_
    intro i hi'
    rw [List.mem_singleton] at hi'
    subst hi'
    refine wpOp_step rfl fun Kq hKq => ?_
    rw [if_pos (by rfl)]
    refine wp_callL (f := 112) 14 [.tmp 13] #[3] rfl rfl [.int .i64 p0] rfl (by kernel_rfl) (fun v w' => v = .int .i64 (TS.times p0) ∧ w' = _) ((times_any _ _).mono fun e w' h => ⟨_, h.1, rfl, h.2⟩) ?_
    rintro v2 w9 ⟨rfl, rfl⟩
    refine hKq _ _ ⟨HH, ?_⟩
    clear hKq
    simp only [List.set_cons_zero, List.set_cons_succ]
    refine takeL (i := 5) (d := 15) (v := .int .i64 (TS.times p0 - 1)) rfl rfl (by kernel_rfl) (by kernel_rfl) (by kernel_rfl) (fun _ _ _ h => h) (Or.inl ⟨by rfl, by intro x hSx; go_simp; try (first | rfl | go_num)⟩) HH ?_
    simp only [List.set_cons_zero, List.set_cons_succ]
    refine wpAnyH_all (rs := [9]) (by kernel_rfl) (by simp) ?_
    intro i hi'
    rw [List.mem_singleton] at hi'
    subst hi'
    refine wpOp_step rfl fun Kq hKq => ?_
    rw [if_pos (by rfl)]
    refine wp_callL (f := 116) 19 [.tmp 18] #[3] rfl rfl [.int .i64 p1] rfl (by kernel_rfl) (fun v w' => v = .int .i64 (TS.amount p1) ∧ w' = _) ((amount_any _ _).mono fun e w' h => ⟨_, h.1, rfl, h.2⟩) ?_
    rintro v2 w9 ⟨rfl, rfl⟩
    refine hKq _ _ ⟨HH, ?_⟩
    clear hKq
    simp only [List.set_cons_zero, List.set_cons_succ]
    refine takeL (i := 10) (d := 20) (v := .int .i64 (TS.amount p1 - 1)) rfl rfl (by kernel_rfl) (by kernel_rfl) (by kernel_rfl) (fun _ _ _ h => h) (Or.inl ⟨by rfl, by intro x hSx; go_simp; try (first | rfl | go_num)⟩) HH ?_
    simp only [List.set_cons_zero, List.set_cons_succ]
    refine wpAnyH_all (rs := [11]) (by kernel_rfl) (by simp) ?_
    intro i hi'
    rw [List.mem_singleton] at hi'
    subst hi'
    refine wpOp_step rfl fun Kq hKq => ?_
    rw [if_pos (by rfl)]
    refine wp_callL (f := 124) 21 [.tmp 10, .tmp 15, .tmp 20] #[86, 3, 3] rfl rfl [.pointer (some ⟨L.tb, 0, none⟩), .int .i64 (TS.times p0 - 1), .int .i64 (TS.amount p1 - 1)] rfl (by kernel_rfl) (fun v w' => v = .tuple #[] ∧ TAt w' L X ∧ Ch L.own W w') ((setRegion_any L s _ HT1 HI.out (TS.times p0 - 1) (TS.amount p1 - 1) (by omega)).mono fun e w' h => ⟨_, h.1, rfl, by rw [HX.out]; exact h.2.1, ⟨h.2.2.os, h.2.2.tape, h.2.2.output, h.2.2.size, h.2.2.block⟩⟩) ?_
    rintro v2 w9 ⟨rfl, t9, c9⟩
    refine hKq _ _ ⟨⟨(World.cell?_of_block (c9.block lb HLW.out HLO.out)).trans e5, (World.cell?_of_block (c9.block lb HLW.out HLO.out)).trans e6⟩, ?_⟩
    clear hKq
    simp only [List.set_cons_zero, List.set_cons_succ]
    refine wpAnyH_done (by kernel_rfl) ?_ _
    have HF : Hid (TAt w9 L X ∧ Ch L.own w w9) := ⟨t9, HCW.out.trans c9⟩
    clear t9 c9 HT1 HH
    go_wp2_with fail
    go_end0
    exact ⟨rfl, HF.out.1, HF.out.2⟩
  · have HX : Hid (X = s.clearTabs (TS.amount p0)) := hX
    clear hX
    have l1 := clearTabs_any L s _ HT.out HI.out (TS.amount p0)
    go_enter Tryd.func87, Tryd.ntmps87
    go_wp2_with (first | (go_at_call 116; refine (amount_any p0 _).mono ?_; rintro e w1 ⟨rfl, hw1⟩; have hw2 := hw1.symm; subst hw2) | (go_at_call 125; refine l1.mono ?_; rintro e w2 ⟨rfl, h2, c2⟩))
    go_end0
    exact ⟨rfl, by rw [HX.out]; exact h2, HCW.out.trans c2⟩
  · have HX : Hid (X = s.turns ((ev.drop 5).take ct)) := hX
    clear hX
    have i1 : (ct : Int) ≤ 16 := by omega
    have hlen : ((ev.drop 5).take ct).length = ct := by rw [List.length_take, List.length_drop]; omega
    have hcs : ∀ j x, ((ev.drop 5).take ct)[j]? = some x → (w.alloc (.cells (intA ev) 75)).cell? ⟨w.heap.size, 5 + j, none⟩ = some (.int .i64 x) := fun j x hx => by
      rw [List.getElem?_take] at hx
      split at hx
      · rw [List.getElem?_drop] at hx
        have := evcell (j := 5 + j) HEB.out (List.getElem?_eq_some_iff.1 hx).1
        rw [this]; simp [List.getD, hx]
      · cases hx
    have hbs : ∀ x ∈ (ev.drop 5).take ct, 0 ≤ TS.amount x ∧ TS.amount x ≤ 70000 := fun x hx => by have := hps x (List.mem_of_mem_take hx); unfold TS.amount; omega
    generalize (ev.drop 5).take ct = ns at *
    have HCS : Hid _ := hcs
    have HBS : Hid _ := hbs
    clear hcs hbs hps
    go_enter Tryd.func87, Tryd.ntmps87
    go_wp2_with fail
    generalize hW : w.alloc (Obj.cells (intA ev) 75) = W at *
    generalize hlb : w.heap.size = lb at *
    go_loopw [37] (fun i wr => ∃ k : Nat, k ≤ ct ∧ i = .int .i64 k ∧ TAt wr L (s.turns (ns.take k)) ∧ Ch L.own W wr) (fun i _ => ct - (intOf i).toNat)
    case atStart => exact ⟨0, Nat.zero_le _, rfl, HT.out, Ch.refl _ _⟩
    case round =>
      obtain ⟨k, hk, rfl, R, C⟩ := hrel
      by_cases hlt2 : k < ct
      · have ik : (k : Int) < (ct : Int) := by omega
        obtain ⟨x, hx⟩ : ∃ x, ns[k]? = some x := ⟨_, List.getElem?_eq_getElem (by omega)⟩
        have hcell : wr.cell? ⟨lb, 5 + k, none⟩ = some (.int .i64 x) := (World.cell?_of_block (C.block lb HLW.out HLO.out)).trans (HCS.out k x hx)
        have hxa := HBS.out x (List.mem_of_getElem? hx)
        have hts : s.turns (ns.take (k + 1)) = ({ (s.turns (ns.take k)) with pen := TS.turn (s.turns (ns.take k)).pen (TS.amount x) } : TS) := by
          obtain ⟨h1, h2⟩ := List.getElem?_eq_some_iff.1 hx
          rw [List.take_succ_eq_append_getElem h1, h2, turns_snoc]
        have HTS : Hid _ := hts
        generalize s.turns (ns.take k) = t at *
        have HR : Hid (TAt wr L t) := R
        have HC2 : Hid (Ch L.own W wr) := C
        clear R C hts hx
        have vk : IntKind.i64.wrap ((k : Int) + 1) = (k : Int) + 1 := IntWalk.i64_in _ (by omega)
        go_wp2_with fail
        have RG : World.rangeAt ({ wr with drawn := wr.drawn + 1 } : World) L.tb 29 (penV t.pen) := (HR.out.sm ((Ch.refl _ _).drewN 1)).range' 29 _ rfl
        refine wp_region_held (S := fun _ => True) mixedC ?_
        refine takeL (i := 0) (d := 41) (v := .pointer (some ⟨L.tb, 0, none⟩)) rfl rfl (by kernel_rfl) (by kernel_rfl) (by kernel_rfl) (fun _ _ _ h => h) (Or.inl ⟨by rfl, by intro x hSx; go_simp; try (first | rfl | go_num)⟩) trivial ?_
        simp only [List.set_cons_zero, List.set_cons_succ]
        refine takeL (i := 1) (d := 42) (v := .pointer (some ⟨L.tb, 0, none⟩)) rfl rfl (by kernel_rfl) (by kernel_rfl) (by kernel_rfl) (fun _ _ _ h => h) (Or.inl ⟨by rfl, by intro x hSx; go_simp; try (first | rfl | go_num)⟩) trivial ?_
        simp only [List.set_cons_zero, List.set_cons_succ]
        refine takeL (i := 2) (d := 43) (v := .pointer (some ⟨L.tb, 0, none⟩)) rfl rfl (by kernel_rfl) (by kernel_rfl) (by kernel_rfl) (fun _ _ _ h => h) (Or.inl ⟨by rfl, by intro x hSx; go_simp; try (first | rfl | go_num)⟩) trivial ?_
        simp only [List.set_cons_zero, List.set_cons_succ]
        refine takeL (i := 3) (d := 44) (v := .pointer (some ⟨L.tb, 26, none⟩)) rfl rfl (by kernel_rfl) (by kernel_rfl) (by kernel_rfl) (fun _ _ _ h => h) (Or.inl ⟨by rfl, by intro x hSx; go_simp; try (first | rfl | go_num)⟩) trivial ?_
        simp only [List.set_cons_zero, List.set_cons_succ]
        refine takeL (i := 4) (d := 45) (v := .pointer (some ⟨L.tb, 26, none⟩)) rfl rfl (by kernel_rfl) (by kernel_rfl) (by kernel_rfl) (fun _ _ _ h => h) (Or.inl ⟨by rfl, by intro x hSx; go_simp; try (first | rfl | go_num)⟩) trivial ?_
        simp only [List.set_cons_zero, List.set_cons_succ]
        refine takeL (i := 5) (d := 46) (v := .pointer (some ⟨L.tb, 29, none⟩)) rfl rfl (by kernel_rfl) (by kernel_rfl) (by kernel_rfl) (fun _ _ _ h => h) (Or.inl ⟨by rfl, by intro x hSx; go_simp; try (first | rfl | go_num)⟩) trivial ?_
        simp only [List.set_cons_zero, List.set_cons_succ]
        refine takeL (i := 7) (d := 48) (v := .int .i64 x) rfl rfl (by kernel_rfl) (by kernel_rfl) (by kernel_rfl) (fun _ _ _ h => h) (Or.inl ⟨by rfl, by intro x hSx; go_simp; try (first | rfl | go_num)⟩) trivial ?_
        simp only [List.set_cons_zero, List.set_cons_succ]
        refine wpAnyH_all (rs := [6, 8]) (by kernel_rfl) (by simp) ?_
        intro i hi'
        simp only [List.mem_cons, List.not_mem_nil, or_false] at hi'
        rcases hi' with rfl | rfl
        · refine wpOp_step rfl fun Kq hKq => ?_
          rw [if_pos (by rfl)]
          refine wp_load47L 47 (.tmp 46) rfl rfl L.tb 29 t.pen rfl (RG) ?_
          refine hKq _ _ ⟨trivial, ?_⟩
          clear hKq
          simp only [List.set_cons_zero, List.set_cons_succ]
          refine wpAnyH_all (rs := [8]) (by kernel_rfl) (by simp) ?_
          intro i hi'
          rw [List.mem_singleton] at hi'
          subst hi'
          refine wpOp_step rfl fun Kq hKq => ?_
          rw [if_pos (by rfl)]
          refine wp_callL (f := 116) 49 [.tmp 48] #[3] rfl rfl [.int .i64 x] rfl (by kernel_rfl) (fun v w' => v = .int .i64 (TS.amount x) ∧ w' = _) ((amount_any _ _).mono fun e w' h => ⟨_, h.1, rfl, h.2⟩) ?_
          rintro v2 w9 ⟨rfl, rfl⟩
          refine hKq _ _ ⟨trivial, ?_⟩
          clear hKq
          simp only [List.set_cons_zero, List.set_cons_succ]
          refine wpAnyH_all (rs := [9]) (by kernel_rfl) (by simp) ?_
          intro i hi'
          rw [List.mem_singleton] at hi'
          subst hi'
          refine wpOp_step rfl fun Kq hKq => ?_
          rw [if_pos (by rfl)]
          refine wp_callL (f := 126) 50 [.tmp 47, .tmp 49] #[47, 3] rfl rfl [.agg (penA t.pen), .int .i64 (TS.amount x)] rfl (by kernel_rfl) (fun v w' => v = .agg (penA (TS.turn t.pen (TS.amount x))) ∧ Sm wr w') ((turn_any t.pen (TS.amount x) _ hxa).mono fun e w' h => ⟨_, h.1, rfl, ⟨h.2.os, h.2.tape, h.2.output, h.2.size, fun k hk _ => h.2.block k hk⟩⟩) ?_
          rintro v2 w8 ⟨rfl, sm8⟩
          refine hKq _ _ ⟨trivial, ?_⟩
          clear hKq
          simp only [List.set_cons_zero, List.set_cons_succ]
          refine takeL (i := 10) (d := 51) (v := .pointer (some ⟨L.tb, 0, none⟩)) rfl rfl (by kernel_rfl) (by kernel_rfl) (by kernel_rfl) (fun _ _ _ h => h) (Or.inl ⟨by rfl, by intro x hSx; go_simp; try (first | rfl | go_num)⟩) trivial ?_
          simp only [List.set_cons_zero, List.set_cons_succ]
          refine takeL (i := 11) (d := 52) (v := .pointer (some ⟨L.tb, 26, none⟩)) rfl rfl (by kernel_rfl) (by kernel_rfl) (by kernel_rfl) (fun _ _ _ h => h) (Or.inl ⟨by rfl, by intro x hSx; go_simp; try (first | rfl | go_num)⟩) trivial ?_
          simp only [List.set_cons_zero, List.set_cons_succ]
          refine takeL (i := 12) (d := 53) (v := .pointer (some ⟨L.tb, 26, none⟩)) rfl rfl (by kernel_rfl) (by kernel_rfl) (by kernel_rfl) (fun _ _ _ h => h) (Or.inl ⟨by rfl, by intro x hSx; go_simp; try (first | rfl | go_num)⟩) trivial ?_
          simp only [List.set_cons_zero, List.set_cons_succ]
          refine takeL (i := 13) (d := 54) (v := .pointer (some ⟨L.tb, 29, none⟩)) rfl rfl (by kernel_rfl) (by kernel_rfl) (by kernel_rfl) (fun _ _ _ h => h) (Or.inl ⟨by rfl, by intro x hSx; go_simp; try (first | rfl | go_num)⟩) trivial ?_
          simp only [List.set_cons_zero, List.set_cons_succ]
          refine wpAnyH_all (rs := [14]) (by kernel_rfl) (by simp) ?_
          intro i hi'
          rw [List.mem_singleton] at hi'
          subst hi'
          refine wpOp_step rfl fun Kq hKq => ?_
          rw [if_pos (by rfl)]
          refine wp_tstoreO 47 (.tmp 54) (.tmp 50) rfl rfl L t { t with pen := TS.turn t.pen (TS.amount x) } 29 (penV (TS.turn t.pen (TS.amount x))) info47 rfl rfl (penV_one _) (HR.out.sm sm8) (by show 29 + 5 ≤ 44; omega) rfl rfl rfl rfl rfl ?_
          intro u7 t7 c7 _
          refine hKq _ _ ⟨trivial, ?_⟩
          clear hKq
          refine wpAnyH_done (by kernel_rfl) ?_ _
          have HF : Hid (TAt u7 L { t with pen := TS.turn t.pen (TS.amount x) } ∧ Ch L.own W u7) := ⟨t7, HC2.out.trans ((Sm.ch sm8).trans c7)⟩
          clear t7 c7 sm8 HR HC2
          go_wp2_with fail
          go_roundw
          case rel => exact ⟨k + 1, by omega, by go_num, by rw [HTS.out]; exact HF.out.1, HF.out.2⟩
          case measure => simp [intOf]; omega
        · refine wpOp_step rfl fun Kq hKq => ?_
          rw [if_pos (by rfl)]
          refine wp_callL (f := 116) 49 [.tmp 48] #[3] rfl rfl [.int .i64 x] rfl (by kernel_rfl) (fun v w' => v = .int .i64 (TS.amount x) ∧ w' = _) ((amount_any _ _).mono fun e w' h => ⟨_, h.1, rfl, h.2⟩) ?_
          rintro v2 w9 ⟨rfl, rfl⟩
          refine hKq _ _ ⟨trivial, ?_⟩
          clear hKq
          simp only [List.set_cons_zero, List.set_cons_succ]
          refine wpAnyH_all (rs := [6]) (by kernel_rfl) (by simp) ?_
          intro i hi'
          rw [List.mem_singleton] at hi'
          subst hi'
          refine wpOp_step rfl fun Kq hKq => ?_
          rw [if_pos (by rfl)]
          refine wp_load47L 47 (.tmp 46) rfl rfl L.tb 29 t.pen rfl (RG) ?_
          refine hKq _ _ ⟨trivial, ?_⟩
          clear hKq
          simp only [List.set_cons_zero, List.set_cons_succ]
          refine wpAnyH_all (rs := [9]) (by kernel_rfl) (by simp) ?_
          intro i hi'
          rw [List.mem_singleton] at hi'
          subst hi'
          refine wpOp_step rfl fun Kq hKq => ?_
          rw [if_pos (by rfl)]
          refine wp_callL (f := 126) 50 [.tmp 47, .tmp 49] #[47, 3] rfl rfl [.agg (penA t.pen), .int .i64 (TS.amount x)] rfl (by kernel_rfl) (fun v w' => v = .agg (penA (TS.turn t.pen (TS.amount x))) ∧ Sm wr w') ((turn_any t.pen (TS.amount x) _ hxa).mono fun e w' h => ⟨_, h.1, rfl, ⟨h.2.os, h.2.tape, h.2.output, h.2.size, fun k hk _ => h.2.block k hk⟩⟩) ?_
          rintro v2 w8 ⟨rfl, sm8⟩
          refine hKq _ _ ⟨trivial, ?_⟩
          clear hKq
          simp only [List.set_cons_zero, List.set_cons_succ]
          refine takeL (i := 10) (d := 51) (v := .pointer (some ⟨L.tb, 0, none⟩)) rfl rfl (by kernel_rfl) (by kernel_rfl) (by kernel_rfl) (fun _ _ _ h => h) (Or.inl ⟨by rfl, by intro x hSx; go_simp; try (first | rfl | go_num)⟩) trivial ?_
          simp only [List.set_cons_zero, List.set_cons_succ]
          refine takeL (i := 11) (d := 52) (v := .pointer (some ⟨L.tb, 26, none⟩)) rfl rfl (by kernel_rfl) (by kernel_rfl) (by kernel_rfl) (fun _ _ _ h => h) (Or.inl ⟨by rfl, by intro x hSx; go_simp; try (first | rfl | go_num)⟩) trivial ?_
          simp only [List.set_cons_zero, List.set_cons_succ]
          refine takeL (i := 12) (d := 53) (v := .pointer (some ⟨L.tb, 26, none⟩)) rfl rfl (by kernel_rfl) (by kernel_rfl) (by kernel_rfl) (fun _ _ _ h => h) (Or.inl ⟨by rfl, by intro x hSx; go_simp; try (first | rfl | go_num)⟩) trivial ?_
          simp only [List.set_cons_zero, List.set_cons_succ]
          refine takeL (i := 13) (d := 54) (v := .pointer (some ⟨L.tb, 29, none⟩)) rfl rfl (by kernel_rfl) (by kernel_rfl) (by kernel_rfl) (fun _ _ _ h => h) (Or.inl ⟨by rfl, by intro x hSx; go_simp; try (first | rfl | go_num)⟩) trivial ?_
          simp only [List.set_cons_zero, List.set_cons_succ]
          refine wpAnyH_all (rs := [14]) (by kernel_rfl) (by simp) ?_
          intro i hi'
          rw [List.mem_singleton] at hi'
          subst hi'
          refine wpOp_step rfl fun Kq hKq => ?_
          rw [if_pos (by rfl)]
          refine wp_tstoreO 47 (.tmp 54) (.tmp 50) rfl rfl L t { t with pen := TS.turn t.pen (TS.amount x) } 29 (penV (TS.turn t.pen (TS.amount x))) info47 rfl rfl (penV_one _) (HR.out.sm sm8) (by show 29 + 5 ≤ 44; omega) rfl rfl rfl rfl rfl ?_
          intro u7 t7 c7 _
          refine hKq _ _ ⟨trivial, ?_⟩
          clear hKq
          refine wpAnyH_done (by kernel_rfl) ?_ _
          have HF : Hid (TAt u7 L { t with pen := TS.turn t.pen (TS.amount x) } ∧ Ch L.own W u7) := ⟨t7, HC2.out.trans ((Sm.ch sm8).trans c7)⟩
          clear t7 c7 sm8 HR HC2
          go_wp2_with fail
          go_roundw
          case rel => exact ⟨k + 1, by omega, by go_num, by rw [HTS.out]; exact HF.out.1, HF.out.2⟩
          case measure => simp [intOf]; omega
      · have hkn : k = ct := by omega
        have hnt : ns.take k = ns := List.take_of_length_le (by omega)
        rw [hnt] at R
        subst hkn
        have HR : Hid _ := R
        have HC2 : Hid (Ch L.own w wr) := HCW.out.trans C
        clear R C
        go_wp2_with fail
        go_end0
        exact ⟨rfl, by rw [HX.out]; exact HR.out, HC2.out⟩
  · have HX : Hid (X = if p0 = 4 then { s with insert := true } else s) := by show X = _; rw [hX]; rfl
    have d41 := HT.out.c 41 _ rfl
    have g41 := HT.out.f 41
    clear hX
    by_cases hp : p0 = 4
    · rw [if_pos hp] at HX
      have bp : (p0 == 4) = true := by simp [hp]
      clear hp
      go_enter Tryd.func87, Tryd.ntmps87
      go_wp2_with fail
      go_end0
      exact ⟨rfl, by rw [HX.out]; exact (HTW.out.set (s' := { s with insert := true }) 41 (.bool true) rfl rfl rfl rfl rfl).sm ((Ch.refl _ _).alloc _), ((Ch.refl _ _).tset _ _).alloc _⟩
    · rw [if_neg hp] at HX
      have bp : (p0 == 4) = false := by simp [hp]
      clear hp
      go_enter Tryd.func87, Tryd.ntmps87
      go_wp2_with fail
      go_end0
      exact ⟨rfl, by rw [HX.out]; exact HT.out, HCW.out⟩
  · have HX : Hid (X = if p0 = 4 then { s with insert := false } else s) := by show X = _; rw [hX]; rfl
    have d41 := HT.out.c 41 _ rfl
    have g41 := HT.out.f 41
    clear hX
    by_cases hp : p0 = 4
    · rw [if_pos hp] at HX
      have bp : (p0 == 4) = true := by simp [hp]
      clear hp
      go_enter Tryd.func87, Tryd.ntmps87
      go_wp2_with fail
      go_end0
      exact ⟨rfl, by rw [HX.out]; exact (HTW.out.set (s' := { s with insert := false }) 41 (.bool false) rfl rfl rfl rfl rfl).sm ((Ch.refl _ _).alloc _), ((Ch.refl _ _).tset _ _).alloc _⟩
    · rw [if_neg hp] at HX
      have bp : (p0 == 4) = false := by simp [hp]
      clear hp
      go_enter Tryd.func87, Tryd.ntmps87
      go_wp2_with fail
      go_end0
      exact ⟨rfl, by rw [HX.out]; exact HT.out, HCW.out⟩
  · rw [if_neg (by omega), if_neg (by omega), if_neg (by omega), if_neg (by omega)] at hX
    have HX : Hid _ := hX
    have b1 : (f == 114) = false := by simp; omega
    have b2 : (f == 103) = false := by simp; omega
    have b3 : (f == 109) = false := by simp; omega
    have b4 : (f == 104) = false := by simp; omega
    have b5 : (f == 108) = false := by simp; omega
    clear hX hf
    go_enter Tryd.func87, Tryd.ntmps87
    go_wp2_with fail
    go_end0
    exact ⟨rfl, by rw [HX.out]; exact HT.out, HCW.out⟩
end Go.Proofs.YtheibfffilomcaaDoor

