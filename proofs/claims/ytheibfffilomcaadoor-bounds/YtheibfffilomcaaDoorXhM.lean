/- Xd Xe Xf Xg Xh together. -/
import Derived.Test.YtheibfffilomcaaDoorXcM
import Derived.Test.YtheibfffilomcaaDoorWd

/- The walks of New, Look, Cell, Saved, Tab. -/
namespace Go.Proofs.YtheibfffilomcaaDoor
open Go.RowKit

def TS.cellAt (t : TS) (n i k : Nat) : CellS := ((if n = 0 then t.s0 else t.s1).getD i []).getD k blankS
def TS.savedAt (t : TS) (n : Nat) : SpotS := if n = 0 then t.v0 else t.v1
def stV (s : TS) : List Value := spotV s.spot ++ [.int .i64 s.top, .int .i64 s.bottom, .bool s.wrap, .bool s.insert, .int .i64 s.shown]
theorem info56 : (Tryd.prog.info? 56).map (·.size) = some 17 := by kernel_rfl
theorem stV_one (s : TS) : ∀ v ∈ stV s, v.oneCell' = true := by
  intro v hv
  have : (stV s).all (·.oneCell') = true := rfl
  exact List.all_eq_true.1 this v hv
/-- A block handed back. -/
theorem results_b {fn : Func} {p : Tmp} {ty : TypeId} {fs : Array Field} (h : fn.results = #[.cell p ty]) (tmps : Array Value) (w : World) (g : Nat) (cs : List Value) (t : TypeId) (fr : Nat × Nat) (hu : Tryd.prog.underlying ty = some (.struct fs)) (hi : (Tryd.prog.info? ty).map (·.size) = some cs.length)
    (hp : tmps.getD p undef = .pointer (some ⟨g, 0, none⟩)) (hg : w.heap[g]? = some (.cells cs.toArray t fr)) : (results fn tmps).run Tryd.prog w = .ok (.agg cs.toArray) w :=
  results_cell_row h tmps w g t cs.toArray fr _ hp hg hu rfl (by simpa using hi)
theorem results_b2 {fn : Func} {p q : Tmp} {ty : TypeId} {fs : Array Field} (h : fn.results = #[.cell p ty, .tmp q]) (tmps : Array Value) (w : World) (g : Nat) (cs : List Value) (t : TypeId) (fr : Nat × Nat) (hu : Tryd.prog.underlying ty = some (.struct fs)) (hi : (Tryd.prog.info? ty).map (·.size) = some cs.length)
    (hp : tmps.getD p undef = .pointer (some ⟨g, 0, none⟩)) (hg : w.heap[g]? = some (.cells cs.toArray t fr)) : (results fn tmps).run Tryd.prog w = .ok (.tuple #[.agg cs.toArray, tmps.getD q undef]) w := by
  have hp' : tmps[p]?.getD undef = .pointer (some ⟨g, 0, none⟩) := by simpa using hp
  simp [results, h, hp', asAddr, run_loadVar_row w g t ty cs.toArray fr _ hg hu rfl (by simpa using hi)]

theorem hasScreen_any (L : Lay) (n : Int) (w : World) : Calls Tryd.prog 39 #[.pointer (some ⟨L.tb, 0, none⟩), .int .i64 n] w fun e w' => e = .returned (.bool (decide (0 ≤ n ∧ n < 2))) ∧ w' = w := by
  by_cases h1 : 0 ≤ n
  · by_cases h2 : n < 2
    · rw [decide_eq_true (⟨h1, h2⟩ : 0 ≤ n ∧ n < 2)]
      go_enter Tryd.func39, Tryd.ntmps39
      go_wp2_with fail
      go_ret
      exact ⟨rfl, rfl⟩
    · rw [decide_eq_false (fun h : 0 ≤ n ∧ n < 2 => h2 h.2)]
      have d2 : decide (n < 2) = false := by simp; omega
      go_enter Tryd.func39, Tryd.ntmps39
      go_wp2_with fail
      go_ret
      exact ⟨rfl, rfl⟩
  · rw [decide_eq_false (fun h : 0 ≤ n ∧ n < 2 => h1 h.1)]
    have d1 : decide (0 ≤ n) = false := by simp; omega
    go_enter Tryd.func39, Tryd.ntmps39
    go_wp2_with fail
    go_ret
    exact ⟨rfl, rfl⟩
theorem hasRow_any (L : Lay) (s : TS) (n : Int) (w : World) (ht : TAt w L s) (hi : s.Inv) : Calls Tryd.prog 40 #[.pointer (some ⟨L.tb, 0, none⟩), .int .i64 n] w fun e w' => e = .returned (.bool (decide (0 ≤ n ∧ n < (s.rows : Int)))) ∧ w' = w := by
  have l1 := lastRow_any L s w ht hi
  clear ht hi
  by_cases h1 : 0 ≤ n
  · by_cases h2 : n < (s.rows : Int)
    · rw [decide_eq_true (⟨h1, h2⟩ : 0 ≤ n ∧ n < (s.rows : Int))]
      have h3 : n ≤ (s.rows : Int) - 1 := by omega
      clear h2
      go_enter Tryd.func40, Tryd.ntmps40
      go_wp2_with (go_at_call 55; refine l1.mono ?_; rintro e w1 ⟨rfl, hw1⟩; have hw2 := hw1.symm; subst hw2)
      go_ret
      exact ⟨rfl, rfl⟩
    · rw [decide_eq_false (fun h : 0 ≤ n ∧ n < (s.rows : Int) => h2 h.2)]
      have d2 : decide (n ≤ (s.rows : Int) - 1) = false := by simp; omega
      clear h2
      go_enter Tryd.func40, Tryd.ntmps40
      go_wp2_with (go_at_call 55; refine l1.mono ?_; rintro e w1 ⟨rfl, hw1⟩; have hw2 := hw1.symm; subst hw2)
      go_ret
      exact ⟨rfl, rfl⟩
  · rw [decide_eq_false (fun h : 0 ≤ n ∧ n < (s.rows : Int) => h1 h.1)]
    have d1 : decide (0 ≤ n) = false := by simp; omega
    go_enter Tryd.func40, Tryd.ntmps40
    go_wp2_with fail
    go_ret
    exact ⟨rfl, rfl⟩
theorem hasCol_any (L : Lay) (s : TS) (n : Int) (w : World) (ht : TAt w L s) (hi : s.Inv) : Calls Tryd.prog 41 #[.pointer (some ⟨L.tb, 0, none⟩), .int .i64 n] w fun e w' => e = .returned (.bool (decide (0 ≤ n ∧ n < (s.cols : Int)))) ∧ w' = w := by
  have l1 := lastCol_any L s w ht hi
  clear ht hi
  by_cases h1 : 0 ≤ n
  · by_cases h2 : n < (s.cols : Int)
    · rw [decide_eq_true (⟨h1, h2⟩ : 0 ≤ n ∧ n < (s.cols : Int))]
      have h3 : n ≤ (s.cols : Int) - 1 := by omega
      clear h2
      go_enter Tryd.func41, Tryd.ntmps41
      go_wp2_with (go_at_call 56; refine l1.mono ?_; rintro e w1 ⟨rfl, hw1⟩; have hw2 := hw1.symm; subst hw2)
      go_ret
      exact ⟨rfl, rfl⟩
    · rw [decide_eq_false (fun h : 0 ≤ n ∧ n < (s.cols : Int) => h2 h.2)]
      have d2 : decide (n ≤ (s.cols : Int) - 1) = false := by simp; omega
      clear h2
      go_enter Tryd.func41, Tryd.ntmps41
      go_wp2_with (go_at_call 56; refine l1.mono ?_; rintro e w1 ⟨rfl, hw1⟩; have hw2 := hw1.symm; subst hw2)
      go_ret
      exact ⟨rfl, rfl⟩
  · rw [decide_eq_false (fun h : 0 ≤ n ∧ n < (s.cols : Int) => h1 h.1)]
    have d1 : decide (0 ≤ n) = false := by simp; omega
    go_enter Tryd.func41, Tryd.ntmps41
    go_wp2_with fail
    go_ret
    exact ⟨rfl, rfl⟩

theorem state_any (L : Lay) (s : TS) (w : World) (ht : TAt w L s) : Calls Tryd.prog 43 #[.pointer (some ⟨L.tb, 0, none⟩)] w fun e w' => e = .returned (.agg (stV s).toArray) ∧ Sm w w' := by
  have HR : Hid (w.rangeAt L.tb 26 (stV s)) := ht.range' 26 _ rfl
  have hlt := ht.lt
  clear ht
  go_enter Tryd.func43, Tryd.ntmps43
  go_wp2_with (first | (refine wpList_load_mid rfl 56 (.tmp 5) rfl L.tb 26 rfl (stV s) _ (World.rangeAt_alloc HR.out _) Tryd.underlying56 rfl info56 ?_) | (refine wp_blkset _ rfl 56 (.tmp 2) (.tmp 6) rfl w.heap.size [.int .i64 0, .int .i64 0, .bool false, .bool false, .bool false, .bool false, .int .i64 0, .int .i64 0, .int .i64 0, .int .i64 0, .int .i64 0, .bool false, .int .i64 0, .int .i64 0, .bool false, .bool false, .int .i64 0] (stV s) rfl _ rfl rfl 56 (heap_alloc_new _ _) rfl info56 (stV_one s) ?_))
  intro u2 g2 k2 z2
  go_wp2_with fail
  exact bodyPost_ret (results_b Tryd.results43 _ _ w.heap.size (stV s) 56 (0, 0) Tryd.underlying56 info56 rfl g2) rfl ⟨rfl, ((Ch.refl _ _).alloc _).trans' k2 (fun k hk e => by omega)⟩
theorem look_any (fb : Nat) (L : Lay) (x : FS) (w : World) (h : FAt w fb L x) : Calls Tryd.prog 22 #[.pointer (some ⟨fb, 0, none⟩)] w fun e w' => e = .returned (.agg (stV x.t).toArray) ∧ Sm w w' := by
  have hpt := h.pt
  have hfl := h.lt
  have l1 : ∀ o, _ := fun o => state_any L x.t (w.alloc o) (h.te.sm ((Ch.refl _ _).alloc _))
  clear h
  go_enter Tryd.func22, Tryd.ntmps22
  go_wp2_with (first | (go_at_call 43; refine (l1 _).mono ?_; rintro e w1 ⟨rfl, s1⟩) | (refine wp_blkset _ rfl 56 (.tmp 2) (.tmp 7) rfl w.heap.size [.int .i64 0, .int .i64 0, .bool false, .bool false, .bool false, .bool false, .int .i64 0, .int .i64 0, .int .i64 0, .int .i64 0, .int .i64 0, .bool false, .int .i64 0, .int .i64 0, .bool false, .bool false, .int .i64 0] (stV x.t) rfl _ rfl rfl 56 ((s1.block _ (by simp) id).trans (heap_alloc_new _ _)) rfl info56 (stV_one x.t) ?_))
  intro u2 g2 k2 z2
  go_wp2_with fail
  exact bodyPost_ret (results_b Tryd.results22 _ _ w.heap.size (stV x.t) 56 (0, 0) Tryd.underlying56 info56 rfl g2) rfl ⟨rfl, (((Ch.refl _ _).alloc _).trans s1).trans' k2 (fun k hk e => by omega)⟩

theorem tsaved_any (L : Lay) (s : TS) (n : Nat) (hn : n < 2) (w : World) (ht : TAt w L s) : Calls Tryd.prog 48 #[.pointer (some ⟨L.tb, 0, none⟩), .int .i64 (n : Int)] w fun e w' => e = .returned (.agg (spotV (s.savedAt n)).toArray) ∧ Sm w w' := by
  have hlt := ht.lt
  rcases (show n = 0 ∨ n = 1 by omega) with rfl | rfl
  · rw [show s.savedAt 0 = s.v0 from rfl]
    have HR : Hid (w.rangeAt L.tb 1 (spotV s.v0)) := ht.range' 1 _ rfl
    clear ht
    go_enter Tryd.func48, Tryd.ntmps48
    go_wp2_with (first | (refine wpList_load_mid rfl 54 (.tmp 10) rfl L.tb 1 rfl (spotV s.v0) _ (World.rangeAt_alloc HR.out _) Tryd.underlying54 rfl info54s ?_) | (refine wp_blkset _ rfl 54 (.tmp 4) (.tmp 11) rfl w.heap.size [.int .i64 0, .int .i64 0, .bool false, .bool false, .bool false, .bool false, .int .i64 0, .int .i64 0, .int .i64 0, .int .i64 0, .int .i64 0, .bool false] (spotV s.v0) rfl _ rfl rfl 54 (heap_alloc_new _ _) rfl info54s (spotV_one _) ?_))
    intro u2 g2 k2 z2
    go_wp2_with fail
    exact bodyPost_ret (results_b Tryd.results48 _ _ w.heap.size (spotV s.v0) 54 (0, 0) Tryd.underlying54 info54s rfl g2) rfl ⟨rfl, ((Ch.refl _ _).alloc _).trans' k2 (fun k hk e => by omega)⟩
  · rw [show s.savedAt 1 = s.v1 from rfl]
    have HR : Hid (w.rangeAt L.tb 14 (spotV s.v1)) := ht.range' 14 _ rfl
    clear ht
    go_enter Tryd.func48, Tryd.ntmps48
    go_wp2_with (first | (refine wpList_load_mid rfl 54 (.tmp 10) rfl L.tb 14 rfl (spotV s.v1) _ (World.rangeAt_alloc HR.out _) Tryd.underlying54 rfl info54s ?_) | (refine wp_blkset _ rfl 54 (.tmp 4) (.tmp 11) rfl w.heap.size [.int .i64 0, .int .i64 0, .bool false, .bool false, .bool false, .bool false, .int .i64 0, .int .i64 0, .int .i64 0, .int .i64 0, .int .i64 0, .bool false] (spotV s.v1) rfl _ rfl rfl 54 (heap_alloc_new _ _) rfl info54s (spotV_one _) ?_))
    intro u2 g2 k2 z2
    go_wp2_with fail
    exact bodyPost_ret (results_b Tryd.results48 _ _ w.heap.size (spotV s.v1) 54 (0, 0) Tryd.underlying54 info54s rfl g2) rfl ⟨rfl, ((Ch.refl _ _).alloc _).trans' k2 (fun k hk e => by omega)⟩
theorem saved_any (fb : Nat) (L : Lay) (x : FS) (n : Nat) (hn : n < 2) (w : World) (h : FAt w fb L x) : Calls Tryd.prog 28 #[.pointer (some ⟨fb, 0, none⟩), .int .i64 (n : Int)] w fun e w' => e = .returned (.tuple #[.agg (spotV (x.t.savedAt n)).toArray, .int .i64 0]) ∧ Sm w w' := by
  have hpt := h.pt
  have hfl := h.lt
  have l0 : ∀ o, _ := fun o => hasScreen_any L (n : Int) (w.alloc o)
  rw [decide_eq_true (show 0 ≤ (n : Int) ∧ (n : Int) < 2 by omega)] at l0
  have l1 : ∀ o, _ := fun o => tsaved_any L x.t n hn (w.alloc o) (h.te.sm ((Ch.refl _ _).alloc _))
  generalize x.t.savedAt n = p at *
  clear h
  go_enter Tryd.func28, Tryd.ntmps28
  go_wp2_with (first | (go_at_call 39; refine (l0 _).mono ?_; rintro e w1 ⟨rfl, hw1⟩; subst hw1) | (go_at_call 48; refine (l1 _).mono ?_; rintro e w1 ⟨rfl, s1⟩) | (refine wp_blkset _ rfl 54 (.tmp 4) (.tmp 19) rfl w.heap.size [.int .i64 0, .int .i64 0, .bool false, .bool false, .bool false, .bool false, .int .i64 0, .int .i64 0, .int .i64 0, .int .i64 0, .int .i64 0, .bool false] (spotV p) rfl _ rfl rfl 54 ((s1.block _ (by simp) id).trans (heap_alloc_new _ _)) rfl info54s (spotV_one p) ?_))
  intro u2 g2 k2 z2
  go_wp2_with fail
  exact bodyPost_ret (results_b2 Tryd.results28 _ _ w.heap.size (spotV p) 54 (0, 0) Tryd.underlying54 info54s rfl g2) rfl ⟨rfl, (((Ch.refl _ _).alloc _).trans s1).trans' k2 (fun k hk e => by omega)⟩
end Go.Proofs.YtheibfffilomcaaDoor

/- The walks of Cell, Tab, New. -/
namespace Go.Proofs.YtheibfffilomcaaDoor
open Go.RowKit

theorem tcell_any (L : Lay) (s : TS) (n i k : Nat) (hn : n < 2) (hi : i < s.rows) (hk : k < s.cols) (w : World) (ht : TAt w L s) (hI : s.Inv) : Calls Tryd.prog 42 #[.pointer (some ⟨L.tb, 0, none⟩), .int .i64 (n : Int), .int .i64 (i : Int), .int .i64 (k : Int)] w fun e w' => e = .returned (.agg (cellA (s.cellAt n i k))) ∧ Sm w w' := by
  have hlt := ht.lt
  have ii : (i : Int) < (s.rows : Int) := by omega
  have ik : (k : Int) < (s.cols : Int) := by omega
  obtain ⟨sb, off, g, c0, hcell, hsb, hrow, hget, hoff⟩ : ∃ sb off g, w.cell? ⟨L.tb, off, none⟩ = some (.slice (some ⟨sb, 0, none⟩) s.rows s.rows) ∧ w.cell? ⟨sb, i, none⟩ = some (.slice (some ⟨g, 0, none⟩) s.cols s.cols) ∧ sb < w.heap.size ∧
      RowAt (w.alloc (.cells (cellA zeroC) 49)) g ((if n = 0 then s.s0 else s.s1).getD i []) ∧ ((if n = 0 then s.s0 else s.s1).getD i [])[k]? = some (s.cellAt n i k) ∧ off = n * 13 := by
    have key : ∀ (S : Sheet) (r : List CellS), r.length = s.cols → r = S.getD i [] → r[k]? = some ((S.getD i []).getD k blankS) := fun S r hr e => by
      rw [← e]; simp [List.getD, List.getElem?_eq_getElem (show k < r.length by omega)]
    rcases (show n = 0 ∨ n = 1 by omega) with rfl | rfl
    · obtain ⟨g, _, h2, h3, h4⟩ := ht.h0.get (i := i) (by rw [hI.l0]; exact hi)
      exact ⟨L.sb0, 0, g, ht.c 0 _ rfl, h2, ht.h0.lt, h3.kept (Below.heap_alloc _ _ _ h3.lt), key s.s0 _ h4 rfl, rfl⟩
    · obtain ⟨g, _, h2, h3, h4⟩ := ht.h1.get (i := i) (by rw [hI.l1]; exact hi)
      exact ⟨L.sb1, 13, g, ht.c 13 _ rfl, h2, ht.h1.lt, h3.kept (Below.heap_alloc _ _ _ h3.lt), key s.s1 _ h4 rfl, rfl⟩
  generalize s.cellAt n i k = c at *
  generalize (if n = 0 then s.s0 else s.s1).getD i [] = r at *
  have HR : Hid (RowAt (w.alloc (.cells (cellA zeroC) 49)) g r) := hrow
  have HG : Hid (r[k]? = some c) := hget
  clear ht hI hrow hget
  rcases (show n = 0 ∨ n = 1 by omega) with rfl | rfl
  · subst hoff
    go_enter Tryd.func42, Tryd.ntmps42
    go_wp2_with (first | (refine wp_cload _ rfl (.tmp 20) rfl g (k * 7) k r c rfl rfl HR.out HG.out ?_) | (refine wp_blkset _ rfl 49 (.tmp 8) (.tmp 21) rfl w.heap.size (cellV zeroC) (cellV c) rfl _ rfl rfl 49 (heap_alloc_new _ _) rfl info49 (cellV_one c) ?_))
    intro u2 g2 k2 z2
    go_wp2_with fail
    exact bodyPost_ret (results_b Tryd.results42 _ _ w.heap.size (cellV c) 49 (0, 0) Tryd.underlying49 info49 rfl g2) rfl ⟨rfl, ((Ch.refl _ _).alloc _).trans' k2 (fun k hk e => by omega)⟩
  · subst hoff
    go_enter Tryd.func42, Tryd.ntmps42
    go_wp2_with (first | (refine wp_cload _ rfl (.tmp 20) rfl g (k * 7) k r c rfl rfl HR.out HG.out ?_) | (refine wp_blkset _ rfl 49 (.tmp 8) (.tmp 21) rfl w.heap.size (cellV zeroC) (cellV c) rfl _ rfl rfl 49 (heap_alloc_new _ _) rfl info49 (cellV_one c) ?_))
    intro u2 g2 k2 z2
    go_wp2_with fail
    exact bodyPost_ret (results_b Tryd.results42 _ _ w.heap.size (cellV c) 49 (0, 0) Tryd.underlying49 info49 rfl g2) rfl ⟨rfl, ((Ch.refl _ _).alloc _).trans' k2 (fun k hk e => by omega)⟩

theorem cell_in (fb : Nat) (L : Lay) (x : FS) (n i k : Nat) (hn : n < 2) (hi : i < x.t.rows) (hk : k < x.t.cols) (w : World) (h : FAt w fb L x) (hI : x.t.Inv) : Calls Tryd.prog 21 #[.pointer (some ⟨fb, 0, none⟩), .int .i64 (n : Int), .int .i64 (i : Int), .int .i64 (k : Int)] w fun e w' => e = .returned (.tuple #[.agg (cellA (x.t.cellAt n i k)), .int .i64 0]) ∧ Sm w w' := by
  have hpt := h.pt
  have hfl := h.lt
  have T : ∀ o, TAt (w.alloc o) L x.t := fun o => h.te.sm ((Ch.refl _ _).alloc _)
  have l0 : ∀ o, _ := fun o => hasScreen_any L (n : Int) (w.alloc o)
  rw [decide_eq_true (show 0 ≤ (n : Int) ∧ (n : Int) < 2 by omega)] at l0
  have l2 : ∀ o, _ := fun o => hasRow_any L x.t (i : Int) (w.alloc o) (T o) hI
  rw [decide_eq_true (show 0 ≤ (i : Int) ∧ (i : Int) < (x.t.rows : Int) by omega)] at l2
  have l3 : ∀ o, _ := fun o => hasCol_any L x.t (k : Int) (w.alloc o) (T o) hI
  rw [decide_eq_true (show 0 ≤ (k : Int) ∧ (k : Int) < (x.t.cols : Int) by omega)] at l3
  have l1 : ∀ o, _ := fun o => tcell_any L x.t n i k hn hi hk (w.alloc o) (T o) hI
  generalize x.t.cellAt n i k = c at *
  clear h hI T
  go_enter Tryd.func21, Tryd.ntmps21
  go_wp2_with (first | (go_at_call 39; refine (l0 _).mono ?_; rintro e w1 ⟨rfl, hw1⟩; subst hw1) | (go_at_call 40; refine (l2 _).mono ?_; rintro e w1 ⟨rfl, hw1⟩; subst hw1) | (go_at_call 41; refine (l3 _).mono ?_; rintro e w1 ⟨rfl, hw1⟩; subst hw1) | (go_at_call 42; refine (l1 _).mono ?_; rintro e w1 ⟨rfl, s1⟩) | (refine wp_blkset _ rfl 49 (.tmp 8) (.tmp 43) rfl w.heap.size (cellV zeroC) (cellV c) rfl _ rfl rfl 49 ((s1.block _ (by simp) id).trans (heap_alloc_new _ _)) rfl info49 (cellV_one c) ?_))
  intro u2 g2 k2 z2
  go_wp2_with fail
  exact bodyPost_ret (results_b2 Tryd.results21 _ _ w.heap.size (cellV c) 49 (0, 0) Tryd.underlying49 info49 rfl g2) rfl ⟨rfl, (((Ch.refl _ _).alloc _).trans s1).trans' k2 (fun k hk e => by omega)⟩

theorem ttab_any (L : Lay) (s : TS) (k : Nat) (hk : k < s.cols) (w : World) (ht : TAt w L s) (hI : s.Inv) : Calls Tryd.prog 57 #[.pointer (some ⟨L.tb, 0, none⟩), .int .i64 (k : Int)] w fun e w' => e = .returned (.bool (s.tabs.getD k false)) ∧ w' = w := by
  have c43 := ht.c 43 _ rfl
  have ik : (k : Int) < (s.cols : Int) := by omega
  have hcell : w.cell? ⟨L.gb, k, none⟩ = some (.bool (s.tabs.getD k false)) := by
    rw [cell_of_row _ _ _ _ _ _ ht.tab]
    have : k < s.tabs.length := by rw [hI.lt]; exact hk
    simp [List.getD, List.getElem?_eq_getElem this]
  generalize s.tabs.getD k false = b at *
  clear ht hI
  go_enter Tryd.func57, Tryd.ntmps57
  go_wp2_with fail
  go_ret
  exact ⟨rfl, rfl⟩
theorem tab_in (fb : Nat) (L : Lay) (x : FS) (k : Nat) (hk : k < x.t.cols) (w : World) (h : FAt w fb L x) (hI : x.t.Inv) : Calls Tryd.prog 44 #[.pointer (some ⟨fb, 0, none⟩), .int .i64 (k : Int)] w fun e w' => e = .returned (.tuple #[.bool (x.t.tabs.getD k false), .int .i64 0]) ∧ w' = w := by
  have hpt := h.pt
  have l3 := hasCol_any L x.t (k : Int) w h.te hI
  rw [decide_eq_true (show 0 ≤ (k : Int) ∧ (k : Int) < (x.t.cols : Int) by omega)] at l3
  have l1 := ttab_any L x.t k hk w h.te hI
  generalize x.t.tabs.getD k false = b at *
  clear h hI
  go_enter Tryd.func44, Tryd.ntmps44
  go_wp2_with (first | (go_at_call 41; refine l3.mono ?_; rintro e w1 ⟨rfl, hw1⟩; have hw2 := hw1.symm; subst hw2) | (go_at_call 57; refine l1.mono ?_; rintro e w1 ⟨rfl, hw1⟩; have hw2 := hw1.symm; subst hw2))
  go_ret2
  exact ⟨rfl, rfl⟩

theorem FS.Ok.fresh {rows cols : Nat} (hr : 1 ≤ rows ∧ rows ≤ 12) (hc : 1 ≤ cols ∧ cols ≤ 40) : (FS.fresh rows cols).Ok := ⟨RS.ok.zero, MS.ok.zero, TS.Inv.fresh hr hc⟩
theorem isSize_any (rows cols : Nat) (w : World) (hr : 1 ≤ rows ∧ rows ≤ 12) (hc : 1 ≤ cols ∧ cols ≤ 40) : Calls Tryd.prog 58 #[.int .i64 (rows : Int), .int .i64 (cols : Int)] w fun e w' => e = .returned (.bool true) ∧ w' = w := by
  have d1 : (1 : Int) ≤ (rows : Int) := by omega
  have d2 : (rows : Int) ≤ 12 := by omega
  have d3 : (1 : Int) ≤ (cols : Int) := by omega
  have d4 : (cols : Int) ≤ 40 := by omega
  go_enter Tryd.func58, Tryd.ntmps58
  go_wp2_with fail
  go_ret
  exact ⟨rfl, rfl⟩
set_option maxRecDepth 100000 in
theorem afresh_any (rows cols : Nat) (w : World) (hr : 1 ≤ rows ∧ rows ≤ 12) (hc : 1 ≤ cols ∧ cols ≤ 40) (hs : 2 < w.heap.size) : Calls Tryd.prog 59 #[.int .i64 (rows : Int), .int .i64 (cols : Int)] w fun e w' => ∃ fb L, e = .returned (.pointer (some ⟨fb, 0, none⟩)) ∧ FAt w' fb L (FS.fresh rows cols) ∧ w.heap.size ≤ fb ∧ (∀ k, L.own k → w.heap.size ≤ k) ∧ Below w.heap.size w w' := by
  have l1 := tnew_any rows cols w hr hc
  go_enter Tryd.func59, Tryd.ntmps59
  go_wp2_with (go_at_call 69; refine l1.mono ?_; rintro e w1 ⟨L, rfl, t1, o1, b1⟩)
  go_ret
  refine ⟨w1.heap.size, L, rfl, ?_, b1.size, o1, b1.alloc b1.size _⟩
  have hb := heap_alloc_new w1 (.cells #[.int .i64 0, .int .u8 0, .int .u8 0, .int .i64 0, .int .i64 0, .int .i64 0, .int .i64 0, .int .i64 0, .int .i64 0, .int .i64 0, .int .i64 0, .int .i64 0, .int .i64 0, .int .i64 0, .int .i64 0, .int .i64 0, .int .i64 0, .int .i64 0, .int .i64 0, .int .i64 0, .int .i64 0, .int .i64 0, .int .i64 0, .pointer (some ⟨L.tb, 0, none⟩)] 88)
  have cell : ∀ j v, (#[.int .i64 0, .int .u8 0, .int .u8 0, .int .i64 0, .int .i64 0, .int .i64 0, .int .i64 0, .int .i64 0, .int .i64 0, .int .i64 0, .int .i64 0, .int .i64 0, .int .i64 0, .int .i64 0, .int .i64 0, .int .i64 0, .int .i64 0, .int .i64 0, .int .i64 0, .int .i64 0, .int .i64 0, .int .i64 0, .int .i64 0, .pointer (some ⟨L.tb, 0, none⟩)] : Array Value)[j]? = some v → World.cell? (w1.alloc (.cells #[.int .i64 0, .int .u8 0, .int .u8 0, .int .i64 0, .int .i64 0, .int .i64 0, .int .i64 0, .int .i64 0, .int .i64 0, .int .i64 0, .int .i64 0, .int .i64 0, .int .i64 0, .int .i64 0, .int .i64 0, .int .i64 0, .int .i64 0, .int .i64 0, .int .i64 0, .int .i64 0, .int .i64 0, .int .i64 0, .int .i64 0, .pointer (some ⟨L.tb, 0, none⟩)] 88)) ⟨w1.heap.size, j, none⟩ = some v := fun j v hv => by rw [cell_of_row _ _ _ _ _ _ hb]; exact hv
  refine ⟨⟨cell 0 _ rfl, cell 1 _ rfl, cell 2 _ rfl, cell 3 _ rfl, fun j _ => frozen_of_row _ _ _ _ _ hb⟩, ⟨rfl, fun j v hv => ?_, fun j _ => frozen_of_row _ _ _ _ _ hb⟩, cell 23 _ rfl, t1.sm ((Ch.refl _ _).alloc _), fun e => by have := t1.own_lt e; omega, fun k hk => by have := o1 k hk; omega⟩
  have hj : j < 19 := (List.getElem?_eq_some_iff.1 hv).1
  have hv0 : v = .int .i64 0 := by
    rcases (show j = 0 ∨ j = 1 ∨ j = 2 ∨ j = 3 ∨ j = 4 ∨ j = 5 ∨ j = 6 ∨ j = 7 ∨ j = 8 ∨ j = 9 ∨ j = 10 ∨ j = 11 ∨ j = 12 ∨ j = 13 ∨ j = 14 ∨ j = 15 ∨ j = 16 ∨ j = 17 ∨ j = 18 by omega) with rfl | rfl | rfl | rfl | rfl | rfl | rfl | rfl | rfl | rfl | rfl | rfl | rfl | rfl | rfl | rfl | rfl | rfl | rfl <;> exact (Option.some.inj hv).symm
  subst hv0
  rcases (show j = 0 ∨ j = 1 ∨ j = 2 ∨ j = 3 ∨ j = 4 ∨ j = 5 ∨ j = 6 ∨ j = 7 ∨ j = 8 ∨ j = 9 ∨ j = 10 ∨ j = 11 ∨ j = 12 ∨ j = 13 ∨ j = 14 ∨ j = 15 ∨ j = 16 ∨ j = 17 ∨ j = 18 by omega) with rfl | rfl | rfl | rfl | rfl | rfl | rfl | rfl | rfl | rfl | rfl | rfl | rfl | rfl | rfl | rfl | rfl | rfl | rfl <;> exact cell _ _ rfl
set_option maxRecDepth 100000 in
theorem new_any (rows cols : Nat) (w : World) (hr : 1 ≤ rows ∧ rows ≤ 12) (hc : 1 ≤ cols ∧ cols ≤ 40) (hs : 2 < w.heap.size) : Calls Tryd.prog 45 #[.int .i64 (rows : Int), .int .i64 (cols : Int)] w fun e w' => ∃ fb L, e = .returned (.tuple #[.pointer (some ⟨fb, 0, none⟩), .int .i64 0]) ∧ FAt w' fb L (FS.fresh rows cols) ∧ w.heap.size ≤ fb ∧ (∀ k, L.own k → w.heap.size ≤ k) ∧ Below w.heap.size w w' := by
  have l0 := isSize_any rows cols w hr hc
  have l1 := afresh_any rows cols w hr hc hs
  go_enter Tryd.func45, Tryd.ntmps45
  go_wp2_with (first | (go_at_call 58; refine l0.mono ?_; rintro e w1 ⟨rfl, hw1⟩; have hw2 := hw1.symm; subst hw2) | (go_at_call 59; refine l1.mono ?_; rintro e w1 ⟨fb, L, rfl, h1⟩))
  go_ret2
  exact ⟨fb, L, rfl, h1⟩
end Go.Proofs.YtheibfffilomcaaDoor

/- The walks of the sizes; what a terminal begun shows. -/
namespace Go.Proofs.YtheibfffilomcaaDoor
open Go.RowKit

/-- The size that two raw numbers speak of. -/
def szR (a : Int) : Nat := 1 + (pickN a 12).toNat
def szC (a : Int) : Nat := 1 + (pickN a 40).toNat
theorem pickN_bd (c n : Int) (hn : 1 ≤ n) : 0 ≤ pickN c n ∧ pickN c n < n := by
  unfold pickN
  split
  · exact ⟨Int.emod_nonneg _ (by omega), Int.emod_lt_of_pos _ (by omega)⟩
  · exact ⟨Int.emod_nonneg _ (by omega), Int.emod_lt_of_pos _ (by omega)⟩
theorem szR_bd (a : Int) : 1 ≤ szR a ∧ szR a ≤ 12 := by have := pickN_bd a 12 (by omega); unfold szR; omega
theorem szC_bd (a : Int) : 1 ≤ szC a ∧ szC a ≤ 40 := by have := pickN_bd a 40 (by omega); unfold szC; omega
theorem srows_any (a b : Int) (w : World) (ha : -9223372036854775808 ≤ a ∧ a ≤ 9223372036854775807) : Calls Tryd.prog 19 #[.agg #[.int .i64 a, .int .i64 b]] w fun e w' => e = .returned (.int .i64 (szR a : Int)) ∧ Below w.heap.size w w' := by
  have hb := pickN_bd a 12 (by omega)
  have l1 : ∀ u, _ := fun u => pick_any a 12 u ha.1 ha.2 (by omega) (by omega)
  have v1 : IntKind.i64.wrap (1 + pickN a 12) = 1 + pickN a 12 := IntWalk.i64_in _ (by omega)
  have HS : Hid ((szR a : Int) = 1 + pickN a 12) := by show _ = _; unfold szR; omega
  generalize pickN a 12 = p at *
  go_enter Tryd.func19, Tryd.ntmps19
  go_wp2_with (go_at_call 15; refine (l1 _).mono ?_; rintro e w1 ⟨rfl, hw1⟩; subst hw1)
  go_ret
  exact ⟨by rw [HS.out]; rfl, (Below.refl _ _).alloc (Nat.le_refl _) _⟩
theorem scols_any (a b : Int) (w : World) (ha : -9223372036854775808 ≤ b ∧ b ≤ 9223372036854775807) : Calls Tryd.prog 20 #[.agg #[.int .i64 a, .int .i64 b]] w fun e w' => e = .returned (.int .i64 (szC b : Int)) ∧ Below w.heap.size w w' := by
  have hb := pickN_bd b 40 (by omega)
  have l1 : ∀ u, _ := fun u => pick_any b 40 u ha.1 ha.2 (by omega) (by omega)
  have v1 : IntKind.i64.wrap (1 + pickN b 40) = 1 + pickN b 40 := IntWalk.i64_in _ (by omega)
  have HS : Hid ((szC b : Int) = 1 + pickN b 40) := by show _ = _; unfold szC; omega
  generalize pickN b 40 = p at *
  go_enter Tryd.func20, Tryd.ntmps20
  go_wp2_with (go_at_call 15; refine (l1 _).mono ?_; rintro e w1 ⟨rfl, hw1⟩; subst hw1)
  go_ret
  exact ⟨by rw [HS.out]; rfl, (Below.refl _ _).alloc (Nat.le_refl _) _⟩

theorem begun4 (rows cols : Nat) : (FS.fresh rows cols).feed [27, 91, 49, 109] = ⟨.zero, .zero, { TS.fresh rows cols with pen := ⟨true, false, false, 0, 0⟩ }⟩ := by kernel_rfl
theorem begun5 (rows cols : Nat) (hr : 1 ≤ rows) (hc : 1 ≤ cols) : ((FS.fresh rows cols).feed [27, 91, 49, 109, 81]).t.cellAt 0 0 0 = ⟨81, ⟨true, false, false, 0, 0⟩, 0⟩ := by
  rw [show [27, 91, 49, 109, 81] = [27, 91, 49, 109] ++ [(81 : Int)] from rfl, feed_append, begun4]
  have e1 : (FS.feed ⟨.zero, .zero, { TS.fresh rows cols with pen := ⟨true, false, false, 0, 0⟩ }⟩ [81]).t = TS.print { TS.fresh rows cols with pen := ⟨true, false, false, 0, 0⟩ } 81 1 := by kernel_rfl
  rw [e1]
  unfold TS.print
  rw [if_neg (by show ¬ (1 = 0 ∨ cols < 1); omega)]
  have e2 : TS.print1 { TS.fresh rows cols with pen := ⟨true, false, false, 0, 0⟩ } = { TS.fresh rows cols with pen := ⟨true, false, false, 0, 0⟩ } := rfl
  rw [e2, if_neg (by show ¬ ((cols : Int) < 0 + 1); omega)]
  have e3 : (TS.print2 { TS.fresh rows cols with pen := ⟨true, false, false, 0, 0⟩ } 81 1).cellAt 0 0 0 = (((List.replicate rows (blankR cols)).set 0 (putR ((List.replicate rows (blankR cols)).getD 0 []) 0 81 1 ⟨true, false, false, 0, 0⟩)).getD 0 []).getD 0 blankS := rfl
  rw [e3]
  obtain ⟨r, rfl⟩ : ∃ r, rows = r + 1 := ⟨rows - 1, by omega⟩
  obtain ⟨c, rfl⟩ : ∃ c, cols = c + 1 := ⟨cols - 1, by omega⟩
  have h0 : (List.replicate (r + 1) (blankR (c + 1))).getD 0 [] = blankR (c + 1) := rfl
  rw [h0, List.replicate_succ, List.set_cons_zero]
  show (putR (blankR (c + 1)) 0 81 1 ⟨true, false, false, 0, 0⟩).getD 0 blankS = _
  have hp : putR (blankR (c + 1)) 0 81 1 ⟨true, false, false, 0, 0⟩ = (splitR (splitR (blankR (c + 1)) 0) (0 + 1)).set 0 ⟨81, ⟨true, false, false, 0, 0⟩, 0⟩ := rfl
  have hl : 0 < ((splitR (splitR (blankR (c + 1)) 0) (0 + 1)).set 0 (⟨81, ⟨true, false, false, 0, 0⟩, 0⟩ : CellS)).length := by rw [List.length_set, splitR_length, splitR_length]; simp [blankR]
  rw [hp]
  simp [List.getD, splitR_length, blankR]
end Go.Proofs.YtheibfffilomcaaDoor

/- The walk of begun. -/
namespace Go.Proofs.YtheibfffilomcaaDoor
open Go.RowKit

theorem info41 : (Tryd.prog.info? 41).map (·.size) = some 2 := by kernel_rfl
set_option maxRecDepth 100000 in
set_option maxHeartbeats 2000000 in
theorem begun_any (a b : Int) (w : World) (ha : -9223372036854775808 ≤ a ∧ a ≤ 9223372036854775807) (hb : -9223372036854775808 ≤ b ∧ b ≤ 9223372036854775807) (htb : Tabs w) :
    Calls Tryd.prog 25 #[.agg #[.int .i64 a, .int .i64 b]] w fun e w' => ∃ fb L, e = .returned (.tuple #[.pointer (some ⟨fb, 0, none⟩), .bool true]) ∧ FAt w' fb L (FS.fresh (szR a) (szC b)) ∧ w.heap.size ≤ fb ∧ (∀ k, L.own k → w.heap.size ≤ k) ∧ Below w.heap.size w w' := by
  have hw2 : 2 < w.heap.size := by obtain ⟨t, fr, h⟩ := htb.st; exact blk_lt h
  go_enter Tryd.func25, Tryd.ntmps25
  go_wp2_with fail
  have HG : (w.alloc (Obj.cells #[.int .i64 a, .int .i64 b] 41)).heap[w.heap.size]? = some (.cells #[.int .i64 a, .int .i64 b] 41 (0, 0)) := heap_alloc_new _ _
  have BW : Below w.heap.size w (w.alloc (Obj.cells #[.int .i64 a, .int .i64 b] 41)) := (Below.refl _ _).alloc (Nat.le_refl _) _
  have htW := htb.ch ((Ch.refl (fun _ => False) w).alloc (.cells #[.int .i64 a, .int .i64 b] 41)) (fun _ _ h => h)
  generalize hWW : w.alloc (Obj.cells #[.int .i64 a, .int .i64 b] 41) = W at *
  obtain ⟨lb, hlb⟩ : ∃ lb, lb = w.heap.size := ⟨_, rfl⟩
  rw [← hlb] at HG ⊢
  have hW2 : 2 < W.heap.size := by have := BW.size; omega
  have SS : ∀ u : World, u.heap[lb]? = some (.cells #[.int .i64 a, .int .i64 b] 41 (0, 0)) → u.rangeAt lb 0 [.int .i64 a, .int .i64 b] := fun u hu j v hv => by
    rw [cell_of_row _ _ _ _ _ _ hu, Nat.zero_add]; simpa using hv
  have HH := SS ({ W with drawn := World.drawn W + 1 } : World) HG
  refine wp_region_held (S := fun x => x.rangeAt lb 0 [.int .i64 a, .int .i64 b]) mixedC ?_
  refine takeL (i := 0) (d := 11) (v := .agg #[.int .i64 a, .int .i64 b]) rfl rfl (by kernel_rfl) (by kernel_rfl) (by kernel_rfl) (fun _ _ _ h => h) (yieldsIf_load_mid (by rfl) 41 (.tmp 1) rfl lb 0 rfl [.int .i64 a, .int .i64 b] _ (fun x h => h) Tryd.underlying41 rfl info41) HH ?_
  simp only [List.set_cons_zero, List.set_cons_succ]
  refine takeL (i := 2) (d := 13) (v := .agg #[.int .i64 a, .int .i64 b]) rfl rfl (by kernel_rfl) (by kernel_rfl) (by kernel_rfl) (fun _ _ _ h => h) (yieldsIf_load_mid (by rfl) 41 (.tmp 1) rfl lb 0 rfl [.int .i64 a, .int .i64 b] _ (fun x h => h) Tryd.underlying41 rfl info41) HH ?_
  simp only [List.set_cons_zero, List.set_cons_succ]
  refine wpAnyH_all (rs := [1]) (by kernel_rfl) (by simp) ?_
  intro i hi'
  rw [List.mem_singleton] at hi'
  subst hi'
  refine wpOp_step rfl fun Kq hKq => ?_
  rw [if_pos (by rfl)]
  refine wp_callL (f := 19) 12 [.tmp 11] #[41] rfl rfl [.agg #[.int .i64 a, .int .i64 b]] rfl (by kernel_rfl) (fun v w' => v = .int .i64 (szR a : Int) ∧ Below (World.heap W).size W w') ((srows_any a b _ ha).mono fun e w' h => ⟨_, h.1, rfl, ⟨h.2.os, h.2.tape, h.2.output, h.2.size, h.2.block⟩⟩) ?_
  rintro v2 q1 ⟨rfl, bq1⟩
  have hq1 := SS q1 ((bq1.block lb (blk_lt HG)).trans HG)
  refine hKq _ _ ⟨hq1, ?_⟩
  clear hKq
  simp only [List.set_cons_zero, List.set_cons_succ]
  refine wpAnyH_all (rs := [3]) (by kernel_rfl) (by simp) ?_
  intro i hi'
  rw [List.mem_singleton] at hi'
  subst hi'
  refine wpOp_step rfl fun Kq hKq => ?_
  rw [if_pos (by rfl)]
  refine wp_callL (f := 20) 14 [.tmp 13] #[41] rfl rfl [.agg #[.int .i64 a, .int .i64 b]] rfl (by kernel_rfl) (fun v w' => v = .int .i64 (szC b : Int) ∧ Below (World.heap W).size W w') ((scols_any a b _ hb).mono fun e w' h => ⟨_, h.1, rfl, bq1.trans (h.2.mono bq1.size)⟩) ?_
  rintro v2 q2 ⟨rfl, bq2⟩
  have hq2 := SS q2 ((bq2.block lb (blk_lt HG)).trans HG)
  refine hKq _ _ ⟨hq2, ?_⟩
  clear hKq
  simp only [List.set_cons_zero, List.set_cons_succ]
  refine wpAnyH_all (rs := [4]) (by kernel_rfl) (by simp) ?_
  intro i hi'
  rw [List.mem_singleton] at hi'
  subst hi'
  refine wpOp_step rfl fun Kq hKq => ?_
  rw [if_pos (by rfl)]
  refine wp_callL (f := 45) 15 [.tmp 12, .tmp 14] #[3, 3] rfl rfl [.int .i64 (szR a : Int), .int .i64 (szC b : Int)] rfl (by kernel_rfl) (fun v w' => ∃ fb L, v = .tuple #[.pointer (some ⟨fb, 0, none⟩), .int .i64 0] ∧ FAt w' fb L (FS.fresh (szR a) (szC b)) ∧ (World.heap W).size ≤ fb ∧ (∀ k, L.own k → (World.heap W).size ≤ k) ∧ Below (World.heap W).size W w') ((new_any (szR a) (szC b) q2 (szR_bd a) (szC_bd b) (by have := bq2.size; have := hW2; omega)).mono fun e w' ⟨fb, L, r1, r2, r3, r4, r5⟩ => ⟨_, r1, fb, L, rfl, r2, Nat.le_trans bq2.size r3, fun k hk => Nat.le_trans bq2.size (r4 k hk), bq2.trans (r5.mono bq2.size)⟩) ?_
  rintro v2 q3 ⟨fb1, L1, rfl, F1, hfb1, hL1, b1⟩
  have hq3 := SS q3 ((b1.block lb (blk_lt HG)).trans HG)
  refine hKq _ _ ⟨hq3, ?_⟩
  clear hKq
  simp only [List.set_cons_zero, List.set_cons_succ]
  refine takeL (i := 5) (d := 10) (v := .tuple #[.pointer (some ⟨fb1, 0, none⟩), .int .i64 0]) rfl rfl (by kernel_rfl) (by kernel_rfl) (by kernel_rfl) (fun _ _ _ h => h) (Or.inl ⟨by rfl, by intro x hSx; go_simp; try (first | rfl | go_num)⟩) hq3 ?_
  simp only [List.set_cons_zero, List.set_cons_succ]
  refine takeL (i := 6) (d := 16) (v := .pointer (some ⟨fb1, 0, none⟩)) rfl rfl (by kernel_rfl) (by kernel_rfl) (by kernel_rfl) (fun _ _ _ h => h) (Or.inl ⟨by rfl, by intro x hSx; go_simp; try (first | rfl | go_num)⟩) hq3 ?_
  simp only [List.set_cons_zero, List.set_cons_succ]
  refine takeL (i := 7) (d := 17) (v := .int .i64 0) rfl rfl (by kernel_rfl) (by kernel_rfl) (by kernel_rfl) (fun _ _ _ h => h) (Or.inl ⟨by rfl, by intro x hSx; go_simp; try (first | rfl | go_num)⟩) hq3 ?_
  simp only [List.set_cons_zero, List.set_cons_succ]
  refine takeL (i := 8) (d := 4) (v := .pointer (some ⟨fb1, 0, none⟩)) rfl rfl (by kernel_rfl) (by kernel_rfl) (by kernel_rfl) (fun _ _ _ h => h) (Or.inl ⟨by rfl, by intro x hSx; go_simp; try (first | rfl | go_num)⟩) hq3 ?_
  simp only [List.set_cons_zero, List.set_cons_succ]
  refine takeL (i := 9) (d := 5) (v := .int .i64 0) rfl rfl (by kernel_rfl) (by kernel_rfl) (by kernel_rfl) (fun _ _ _ h => h) (Or.inl ⟨by rfl, by intro x hSx; go_simp; try (first | rfl | go_num)⟩) hq3 ?_
  simp only [List.set_cons_zero, List.set_cons_succ]
  refine wpAnyH_done (by kernel_rfl) ?_ _
  have g1 := (b1.block lb (blk_lt HG)).trans HG
  clear bq1 bq2 hq1 hq2 hq3 HH SS
  have HF1 : Hid (FAt q3 fb1 L1 (FS.fresh (szR a) (szC b))) := F1
  have HB1 : Hid (Below W.heap.size W q3) := b1
  clear F1 b1
  have hW2' := hW2
  have hW2 : 2 < q3.heap.size := by have := HB1.out.size; omega
  go_wp2_with fail
  have SS : ∀ u : World, u.heap[lb]? = some (.cells #[.int .i64 a, .int .i64 b] 41 (0, 0)) → u.rangeAt lb 0 [.int .i64 a, .int .i64 b] := fun u hu j v hv => by
    rw [cell_of_row _ _ _ _ _ _ hu, Nat.zero_add]; simpa using hv
  have HH := SS ({ q3 with drawn := World.drawn q3 + 1 } : World) g1
  refine wp_region_held (S := fun x => x.rangeAt lb 0 [.int .i64 a, .int .i64 b]) mixedC ?_
  refine takeL (i := 0) (d := 19) (v := .agg #[.int .i64 a, .int .i64 b]) rfl rfl (by kernel_rfl) (by kernel_rfl) (by kernel_rfl) (fun _ _ _ h => h) (yieldsIf_load_mid (by rfl) 41 (.tmp 1) rfl lb 0 rfl [.int .i64 a, .int .i64 b] _ (fun x h => h) Tryd.underlying41 rfl info41) HH ?_
  simp only [List.set_cons_zero, List.set_cons_succ]
  refine takeL (i := 2) (d := 21) (v := .agg #[.int .i64 a, .int .i64 b]) rfl rfl (by kernel_rfl) (by kernel_rfl) (by kernel_rfl) (fun _ _ _ h => h) (yieldsIf_load_mid (by rfl) 41 (.tmp 1) rfl lb 0 rfl [.int .i64 a, .int .i64 b] _ (fun x h => h) Tryd.underlying41 rfl info41) HH ?_
  simp only [List.set_cons_zero, List.set_cons_succ]
  refine wpAnyH_all (rs := [1]) (by kernel_rfl) (by simp) ?_
  intro i hi'
  rw [List.mem_singleton] at hi'
  subst hi'
  refine wpOp_step rfl fun Kq hKq => ?_
  rw [if_pos (by rfl)]
  refine wp_callL (f := 19) 20 [.tmp 19] #[41] rfl rfl [.agg #[.int .i64 a, .int .i64 b]] rfl (by kernel_rfl) (fun v w' => v = .int .i64 (szR a : Int) ∧ Below (World.heap q3).size q3 w') ((srows_any a b _ ha).mono fun e w' h => ⟨_, h.1, rfl, ⟨h.2.os, h.2.tape, h.2.output, h.2.size, h.2.block⟩⟩) ?_
  rintro v2 p1 ⟨rfl, bp1⟩
  have hp1 := SS p1 ((bp1.block lb (blk_lt g1)).trans g1)
  refine hKq _ _ ⟨hp1, ?_⟩
  clear hKq
  simp only [List.set_cons_zero, List.set_cons_succ]
  refine wpAnyH_all (rs := [3]) (by kernel_rfl) (by simp) ?_
  intro i hi'
  rw [List.mem_singleton] at hi'
  subst hi'
  refine wpOp_step rfl fun Kq hKq => ?_
  rw [if_pos (by rfl)]
  refine wp_callL (f := 20) 22 [.tmp 21] #[41] rfl rfl [.agg #[.int .i64 a, .int .i64 b]] rfl (by kernel_rfl) (fun v w' => v = .int .i64 (szC b : Int) ∧ Below (World.heap q3).size q3 w') ((scols_any a b _ hb).mono fun e w' h => ⟨_, h.1, rfl, bp1.trans (h.2.mono bp1.size)⟩) ?_
  rintro v2 p2 ⟨rfl, bp2⟩
  have hp2 := SS p2 ((bp2.block lb (blk_lt g1)).trans g1)
  refine hKq _ _ ⟨hp2, ?_⟩
  clear hKq
  simp only [List.set_cons_zero, List.set_cons_succ]
  refine wpAnyH_all (rs := [4]) (by kernel_rfl) (by simp) ?_
  intro i hi'
  rw [List.mem_singleton] at hi'
  subst hi'
  refine wpOp_step rfl fun Kq hKq => ?_
  rw [if_pos (by rfl)]
  refine wp_callL (f := 45) 23 [.tmp 20, .tmp 22] #[3, 3] rfl rfl [.int .i64 (szR a : Int), .int .i64 (szC b : Int)] rfl (by kernel_rfl) (fun v w' => ∃ fb L, v = .tuple #[.pointer (some ⟨fb, 0, none⟩), .int .i64 0] ∧ FAt w' fb L (FS.fresh (szR a) (szC b)) ∧ (World.heap q3).size ≤ fb ∧ (∀ k, L.own k → (World.heap q3).size ≤ k) ∧ Below (World.heap q3).size q3 w') ((new_any (szR a) (szC b) p2 (szR_bd a) (szC_bd b) (by have := bp2.size; have := hW2; omega)).mono fun e w' ⟨fb, L, r1, r2, r3, r4, r5⟩ => ⟨_, r1, fb, L, rfl, r2, Nat.le_trans bp2.size r3, fun k hk => Nat.le_trans bp2.size (r4 k hk), bp2.trans (r5.mono bp2.size)⟩) ?_
  rintro v2 p3 ⟨fb2, L2, rfl, F2, hfb2, hL2, b2⟩
  have hp3 := SS p3 ((b2.block lb (blk_lt g1)).trans g1)
  refine hKq _ _ ⟨hp3, ?_⟩
  clear hKq
  simp only [List.set_cons_zero, List.set_cons_succ]
  refine takeL (i := 5) (d := 18) (v := .tuple #[.pointer (some ⟨fb2, 0, none⟩), .int .i64 0]) rfl rfl (by kernel_rfl) (by kernel_rfl) (by kernel_rfl) (fun _ _ _ h => h) (Or.inl ⟨by rfl, by intro x hSx; go_simp; try (first | rfl | go_num)⟩) hp3 ?_
  simp only [List.set_cons_zero, List.set_cons_succ]
  refine takeL (i := 6) (d := 24) (v := .pointer (some ⟨fb2, 0, none⟩)) rfl rfl (by kernel_rfl) (by kernel_rfl) (by kernel_rfl) (fun _ _ _ h => h) (Or.inl ⟨by rfl, by intro x hSx; go_simp; try (first | rfl | go_num)⟩) hp3 ?_
  simp only [List.set_cons_zero, List.set_cons_succ]
  refine takeL (i := 7) (d := 25) (v := .int .i64 0) rfl rfl (by kernel_rfl) (by kernel_rfl) (by kernel_rfl) (fun _ _ _ h => h) (Or.inl ⟨by rfl, by intro x hSx; go_simp; try (first | rfl | go_num)⟩) hp3 ?_
  simp only [List.set_cons_zero, List.set_cons_succ]
  refine takeL (i := 8) (d := 6) (v := .pointer (some ⟨fb2, 0, none⟩)) rfl rfl (by kernel_rfl) (by kernel_rfl) (by kernel_rfl) (fun _ _ _ h => h) (Or.inl ⟨by rfl, by intro x hSx; go_simp; try (first | rfl | go_num)⟩) hp3 ?_
  simp only [List.set_cons_zero, List.set_cons_succ]
  refine takeL (i := 9) (d := 7) (v := .int .i64 0) rfl rfl (by kernel_rfl) (by kernel_rfl) (by kernel_rfl) (fun _ _ _ h => h) (Or.inl ⟨by rfl, by intro x hSx; go_simp; try (first | rfl | go_num)⟩) hp3 ?_
  simp only [List.set_cons_zero, List.set_cons_succ]
  refine wpAnyH_done (by kernel_rfl) ?_ _
  have g2 := (b2.block lb (blk_lt g1)).trans g1
  clear bp1 bp2 hp1 hp2 hp3 HH SS
  have hl1 : ∀ k, (k = fb1 ∨ L1.own k) → k < q3.heap.size := fun k hk => by
    rcases hk with e | e
    · rw [e]; exact HF1.out.lt
    · exact HF1.out.te.own_lt e
  have FN : FAt p3 fb1 L1 (FS.fresh (szR a) (szC b)) := HF1.out.kept (P := fun _ => False) (Ch.of_below b2) id (fun _ _ => id)
  have TQ : Tabs q3 := htW.ch (P := fun _ => False) (Ch.of_below HB1.out) (fun _ _ => id)
  have TP : Tabs p3 := TQ.ch (P := fun _ => False) (Ch.of_below b2) (fun _ _ => id)
  have OK0 := FS.Ok.fresh (szR_bd a) (szC_bd b)
  have lf := feed_any fb1 L1 (FS.fresh (szR a) (szC b)) ⟨#[27, 91, 49, 109, 81]⟩ p3 FN OK0 TP (by omega) (by decide)
  rw [show bl ⟨#[27, 91, 49, 109, 81]⟩ = [27, 91, 49, 109, 81] from rfl] at lf
  have OK1 : ((FS.fresh (szR a) (szC b)).feed [27, 91, 49, 109, 81]).Ok := OK0.feed _ (by intro x hx; simp at hx; omega)
  have lcell : ∀ u L v cs, FI p3 fb1 L1 v cs ((FS.fresh (szR a) (szC b)).feed [27, 91, 49, 109, 81]) u L → _ := fun u L v cs hF => cell_in fb1 L _ 0 0 0 (by omega) OK1.t.r1 OK1.t.c1 u hF.f OK1.t
  simp only [begun5 (szR a) (szC b) (szR_bd a).1 (szC_bd b).1, Int.natCast_zero] at lcell
  have HF2 : Hid (FAt p3 fb2 L2 (FS.fresh (szR a) (szC b))) := F2
  have HB2 : Hid (Below q3.heap.size q3 p3) := b2
  have HLC : Hid _ := lcell
  have hne12 : fb2 ≠ fb1 := by have := hl1 fb1 (.inl rfl); omega
  clear F2 b2 FN TQ TP OK0 OK1 lcell
  generalize (FS.fresh (szR a) (szC b)).feed [27, 91, 49, 109, 81] = X at *
  go_wp2_with (first | (go_at_call 26; refine lf.mono ?_; rintro e w4 ⟨rfl, v4, cs4, L4, FI4⟩) | (go_at_call 21; refine (HLC.out _ _ _ _ FI4).mono ?_; rintro e w5 ⟨rfl, s5⟩) | (refine wp_blkset _ rfl 49 (.tmp 8) (.tmp 45) rfl w5.heap.size (cellV zeroC) (cellV ⟨81, ⟨true, false, false, 0, 0⟩, 0⟩) rfl _ rfl rfl 49 (heap_alloc_new _ _) rfl info49 (cellV_one _) ?_))
  intro u6 g6 k6 z6
  have C6 : Ch (fun k => k = fb1 ∨ L1.own k) p3 u6 := (FI4.ch.trans (Sm.ch s5)).trans' (((Ch.refl (fun _ => False) w5).alloc _).trans' (R := fun k => k = w5.heap.size) k6 (fun k hk e => by omega) |>.mono (R := fun k => False) (fun _ _ h => h)) (fun _ _ h => h.elim)
  have F6 : FAt u6 fb2 L2 (FS.fresh (szR a) (szC b)) := HF2.out.kept C6 (fun h => by have := hl1 fb2 h; omega) (fun k hk h => by have := hl1 k h; have := hL2 k hk; omega)
  have B6 : Below w.heap.size w u6 := by
    have hs3 := HB1.out.size
    have hsp := HB2.out.size
    have hsw := BW.size
    exact (((BW.trans (HB1.out.mono (by omega))).trans (HB2.out.mono (by omega))).trans (C6.below (by omega) (fun k hk h => by
      rcases h with e | e
      · omega
      · have := hL1 k e; omega)))
  have HF6 : Hid _ := F6
  have HB6 : Hid _ := B6
  have hown6 : ∀ k, L2.own k → w.heap.size ≤ k := fun k hk => by have := hL2 k hk; have := HB1.out.size; have := BW.size; omega
  have hfb6 : w.heap.size ≤ fb2 := by have := HB1.out.size; have := BW.size; omega
  clear F6 B6 C6 FI4 s5 lf HLC k6 HF1 HB1 HF2 HB2 g1 g2 hl1
  go_wp2_with fail
  have RG : ∀ u : World, u.heap = u6.heap → u.rangeAt w5.heap.size 0 (cellV ⟨81, ⟨true, false, false, 0, 0⟩, 0⟩) := fun u hu j v hv => by
    rw [cell_of_row u _ _ _ _ _ (by rw [hu]; exact g6), Nat.zero_add]; simpa using hv
  have HH := RG ({ u6 with drawn := u6.drawn + 1 } : World) rfl
  refine wp_region_held (S := fun x => x.rangeAt w5.heap.size 0 (cellV ⟨81, ⟨true, false, false, 0, 0⟩, 0⟩)) mixedC ?_
  refine takeL (i := 0) (d := 47) (v := .pointer (some ⟨fb2, 0, none⟩)) rfl rfl (by kernel_rfl) (by kernel_rfl) (by kernel_rfl) (fun _ _ _ h => h) (Or.inl ⟨by rfl, by intro x hSx; go_simp; try (first | rfl | go_num)⟩) HH ?_
  simp only [List.set_cons_zero, List.set_cons_succ]
  refine takeL (i := 1) (d := 48) (v := .int .i64 0) rfl rfl (by kernel_rfl) (by kernel_rfl) (by kernel_rfl) (fun _ _ _ h => h) (Or.inl ⟨by rfl, by intro x hSx; go_simp; try (first | rfl | go_num)⟩) HH ?_
  simp only [List.set_cons_zero, List.set_cons_succ]
  refine takeL (i := 2) (d := 49) (v := .bool true) rfl rfl (by kernel_rfl) (by kernel_rfl) (by kernel_rfl) (fun _ _ _ h => h) (Or.inl ⟨by rfl, by intro x hSx; go_simp; try (first | rfl | go_num)⟩) HH ?_
  simp only [List.set_cons_zero, List.set_cons_succ]
  refine takeL (i := 3) (d := 50) (v := .bool true) rfl rfl (by kernel_rfl) (by kernel_rfl) (by kernel_rfl) (fun _ _ _ h => h) (Or.inl ⟨by rfl, by intro x hSx; go_simp; try (first | rfl | go_num)⟩) HH ?_
  simp only [List.set_cons_zero, List.set_cons_succ]
  refine takeL (i := 4) (d := 51) (v := .agg (cellA ⟨81, ⟨true, false, false, 0, 0⟩, 0⟩)) rfl rfl (by kernel_rfl) (by kernel_rfl) (by kernel_rfl) (fun _ _ _ h => h) (yieldsIf_load_mid (by rfl) 49 (.tmp 8) rfl w5.heap.size 0 rfl (cellV ⟨81, ⟨true, false, false, 0, 0⟩, 0⟩) _ (fun x h => h) Tryd.underlying49 rfl info49) HH ?_
  simp only [List.set_cons_zero, List.set_cons_succ]
  refine takeL (i := 5) (d := 52) (v := .agg #[.bool true, .bool false, .bool false, .int .i64 0, .int .i64 0]) rfl rfl (by kernel_rfl) (by kernel_rfl) (by kernel_rfl) (fun _ _ _ h => h) (Or.inl ⟨by rfl, by intro x hSx; go_simp; try (first | rfl | go_num)⟩) HH ?_
  simp only [List.set_cons_zero, List.set_cons_succ]
  refine takeL (i := 6) (d := 53) (v := .agg (cellA ⟨81, ⟨true, false, false, 0, 0⟩, 0⟩)) rfl rfl (by kernel_rfl) (by kernel_rfl) (by kernel_rfl) (fun _ _ _ h => h) (Or.inl ⟨by rfl, by intro x hSx; go_simp; try (first | rfl | go_num)⟩) HH ?_
  simp only [List.set_cons_zero, List.set_cons_succ]
  refine takeL (i := 7) (d := 54) (v := .bool true) rfl rfl (by kernel_rfl) (by kernel_rfl) (by kernel_rfl) (fun _ _ _ h => h) (Or.inl ⟨by rfl, fun x _ => run_eqlC (.tmp 51) (.tmp 53) rfl ⟨81, ⟨true, false, false, 0, 0⟩, 0⟩ ⟨81, ⟨true, false, false, 0, 0⟩, 0⟩ rfl rfl x⟩) HH ?_
  simp only [List.set_cons_zero, List.set_cons_succ]
  refine takeL (i := 8) (d := 55) (v := .bool true) rfl rfl (by kernel_rfl) (by kernel_rfl) (by kernel_rfl) (fun _ _ _ h => h) (Or.inl ⟨by rfl, by intro x hSx; go_simp; try (first | rfl | go_num)⟩) HH ?_
  simp only [List.set_cons_zero, List.set_cons_succ]
  refine takeL (i := 9) (d := 2) (v := .pointer (some ⟨fb2, 0, none⟩)) rfl rfl (by kernel_rfl) (by kernel_rfl) (by kernel_rfl) (fun _ _ _ h => h) (Or.inl ⟨by rfl, by intro x hSx; go_simp; try (first | rfl | go_num)⟩) HH ?_
  simp only [List.set_cons_zero, List.set_cons_succ]
  refine takeL (i := 10) (d := 3) (v := .bool true) rfl rfl (by kernel_rfl) (by kernel_rfl) (by kernel_rfl) (fun _ _ _ h => h) (Or.inl ⟨by rfl, by intro x hSx; go_simp; try (first | rfl | go_num)⟩) HH ?_
  simp only [List.set_cons_zero, List.set_cons_succ]
  refine wpAnyH_done (by kernel_rfl) ?_ _
  go_wp2_with fail
  go_ret2
  exact ⟨fb2, L2, rfl, HF6.out.kept (P := fun _ => False) ((Ch.refl _ _).drewN 1) id (fun _ _ => id), hfb6, hown6, HB6.out.drew⟩
end Go.Proofs.YtheibfffilomcaaDoor

/- The walk of fed. -/
namespace Go.Proofs.YtheibfffilomcaaDoor
open Go.RowKit

/-- Texts that are only read. -/
def SlTx (w : World) (ao : Option Addr) (T : List ByteArray) : Prop := ∀ j t, T[j]? = some t → ∃ b o, ao = some ⟨b, o, none⟩ ∧ b < w.heap.size ∧ w.cell? ⟨b, o + j, none⟩ = some (.string t)
theorem SlTx.below {w w' : World} {ao : Option Addr} {T : List ByteArray} (h : SlTx w ao T) (b : Below w.heap.size w w') : SlTx w' ao T := fun j t hj => by
  obtain ⟨x, o, h1, h2, h3⟩ := h j t hj
  exact ⟨x, o, h1, Nat.lt_of_lt_of_le h2 b.size, (World.cell?_of_block (b.block x h2)).trans h3⟩
def allB (T : List ByteArray) : List Int := T.flatMap bl
theorem allB_byte (T : List ByteArray) : ∀ b ∈ allB T, 0 ≤ b ∧ b < 256 := fun b hb => by
  obtain ⟨t, _, ht⟩ := List.mem_flatMap.1 hb
  exact bl_byte t b ht
theorem allB_snoc (T : List ByteArray) (t : ByteArray) : allB (T ++ [t]) = allB T ++ bl t := by simp [allB]

/-- A terminal of a size to which texts were fed, all of it above a border. -/
structure FedAt (B : Nat) (w : World) (fb : Nat) (L : Lay) (rows cols : Nat) (l : List Int) : Prop where
  f : FAt w fb L ((FS.fresh rows cols).feed l)
  fb : B ≤ fb
  own : ∀ k, L.own k → B ≤ k
theorem FedAt.feed {B : Nat} {w0 w w' : World} {fb : Nat} {L : Lay} {rows cols : Nat} {l : List Int} {t : List Int} (h : FedAt B w fb L rows cols l) (hB : B ≤ w.heap.size) (b0 : Below B w0 w) {v : Value} {cs : List Int} {L' : Lay} (n : FI w fb L v cs (((FS.fresh rows cols).feed l).feed t) w' L') : FedAt B w' fb L' rows cols (l ++ t) ∧ Below B w0 w' := by
  refine ⟨⟨by rw [feed_append]; exact n.f, h.fb, fun k hk => ?_⟩, b0.trans (n.ch.below hB (fun k hk e => ?_))⟩
  · rcases n.gr k hk with q | q
    · exact h.own k q
    · omega
  · rcases e with e | e
    · have := h.fb; omega
    · have := h.own k e; omega

set_option maxRecDepth 100000 in
set_option maxHeartbeats 1000000 in
theorem fed_any (a b : Int) (ao : Option Addr) (cap : Nat) (T : List ByteArray) (w : World) (ha : -9223372036854775808 ≤ a ∧ a ≤ 9223372036854775807) (hb : -9223372036854775808 ≤ b ∧ b ≤ 9223372036854775807) (htb : Tabs w) (hT : SlTx w ao T) (hTl : T.length ≤ 281474976710656) (hTs : ∀ t ∈ T, t.size ≤ 281474976710656) :
    Calls Tryd.prog 18 #[.agg #[.int .i64 a, .int .i64 b], .slice ao T.length cap] w fun e w' => ∃ fb L, e = .returned (.tuple #[.pointer (some ⟨fb, 0, none⟩), .bool true]) ∧ FedAt w.heap.size w' fb L (szR a) (szC b) (allB T) ∧ Below w.heap.size w w' := by
  have hw2 : 2 < w.heap.size := by obtain ⟨t, fr, h⟩ := htb.st; exact blk_lt h
  have BW : Below w.heap.size w (w.alloc (.cells #[.int .i64 a, .int .i64 b] 41)) := (Below.refl _ _).alloc (Nat.le_refl _) _
  have l1 := begun_any a b (w.alloc (.cells #[.int .i64 a, .int .i64 b] 41)) ha hb (htb.ch ((Ch.refl (fun _ => False) w).alloc _) (fun _ _ h => h))
  have HTX : Hid _ := hT
  have HTS : Hid _ := hTs
  have HTB : Hid _ := htb
  clear hT hTs htb
  go_enter Tryd.func18, Tryd.ntmps18
  go_wp2_with (go_at_call 25; refine l1.mono ?_; rintro e w1 ⟨fb, L1, rfl, F1, hfb1, hL1, b1⟩)
  have hsW : (w.alloc (.cells #[.int .i64 a, .int .i64 b] 41)).heap.size = w.heap.size + 1 := by simp
  have BB : Below w.heap.size w w1 := BW.trans (b1.mono (by omega))
  have A1 : FedAt w.heap.size w1 fb L1 (szR a) (szC b) (allB []) := ⟨F1, by omega, fun k hk => by have := hL1 k hk; omega⟩
  have HA1 : Hid _ := A1
  have HBB : Hid _ := BB
  clear A1 BB F1 b1 hL1 l1 BW
  go_loopw [8] (fun i wr => ∃ (k : Nat) (L : Lay), k ≤ T.length ∧ i = .int .i64 k ∧ FedAt w.heap.size wr fb L (szR a) (szC b) (allB (T.take k)) ∧ Below w.heap.size w wr) (fun i _ => T.length - (intOf i).toNat)
  case atStart => exact ⟨0, L1, Nat.zero_le _, rfl, HA1.out, HBB.out⟩
  case round =>
    clear HA1 HBB
    obtain ⟨k, L, hk, rfl, A, B⟩ := hrel
    have HA : Hid (FedAt w.heap.size wr fb L (szR a) (szC b) (allB (T.take k))) := A
    have HB : Hid (Below w.heap.size w wr) := B
    clear A B
    by_cases hlt : k < T.length
    · have ik : (k : Int) < (T.length : Int) := by omega
      obtain ⟨t, ht⟩ : ∃ t, T[k]? = some t := ⟨_, List.getElem?_eq_getElem hlt⟩
      obtain ⟨xb, xo, rfl, hxl, hxc⟩ := HTX.out k t ht
      have hcell : wr.cell? ⟨xb, xo + k, none⟩ = some (.string t) := (World.cell?_of_block (HB.out.block xb hxl)).trans hxc
      have vk : IntKind.i64.wrap ((k : Int) + 1) = (k : Int) + 1 := IntWalk.i64_in _ (by omega)
      have hOK : ((FS.fresh (szR a) (szC b)).feed (allB (T.take k))).Ok := (FS.Ok.fresh (szR_bd a) (szC_bd b)).feed _ (allB_byte _)
      have hTW : Tabs wr := HTB.out.kept (fun j hj => HB.out.block j (by omega))
      have lf := feed_any fb L _ t wr HA.out.f hOK hTW (by have := HA.out.fb; omega) (HTS.out t (List.mem_of_getElem? ht))
      have HTK : Hid (allB (T.take (k + 1)) = allB (T.take k) ++ bl t) := by
        obtain ⟨h1, h2⟩ := List.getElem?_eq_some_iff.1 ht
        show _ = _
        rw [List.take_succ_eq_append_getElem h1, h2, allB_snoc]
      clear hOK hTW hxc ht
      go_wp2_with (go_at_call 26; refine lf.mono ?_; rintro e w2 ⟨rfl, v2, cs2, L2, F2⟩)
      have R := HA.out.feed HB.out.size HB.out F2
      go_roundw
      case rel => exact ⟨k + 1, L2, by omega, by go_num, by rw [HTK.out]; exact R.1, R.2⟩
      case measure => simp [intOf]; omega
    · have hkn : k = T.length := by omega
      have dk : decide ((k : Int) < (T.length : Int)) = false := by simp; omega
      have HTK : Hid (T.take k = T) := by show _ = _; rw [hkn, List.take_length]
      go_wp2_with fail
      go_ret2
      exact ⟨fb, L, rfl, HTK.out ▸ HA.out, HB.out⟩
end Go.Proofs.YtheibfffilomcaaDoor

