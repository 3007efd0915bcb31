/- Zg Zh Zi together. -/
import Derived.Test.YtheibfffilomcaaGreatDoorZfM

/- The walks of toWait, toSpot, takeBack. -/
namespace Go.Proofs.YtheibfffilomcaaGreatDoor
open Go.RowKit

def TS.sheetAt (s : TS) (n : Nat) : Sheet := if n = 0 then s.s0 else s.s1
/-- The cells of a terminal are such as may be written. -/
structure CellsOk (s : TS) : Prop where
  ok : ∀ n i k, i < s.rows → k < s.cols → (s.cellAt n i k).part = 2 ∨ (s.cellAt n i k).Ok
  tl : ∀ n i k, i < s.rows → k < s.cols → (s.cellAt n i k).part = 2 → 1 ≤ k
theorem cellAt_eq (s : TS) (n i k : Nat) : WS.cellAt (s.sheetAt n) (i : Int) (k : Int) = s.cellAt n i k := rfl

set_option maxRecDepth 100000 in
set_option maxHeartbeats 2000000 in
theorem toWait_wr (wb : Nat) (L : Lay) (s : TS) (hI : s.Inv) (hO : CellsOk s) (n pr pc r : Nat) (hn : n < 2) (hpr : pr < s.rows) (hpc : pc < s.cols) (hr : r < 90) (p : SpotS) (hp1 : p.row = pr) (hp2 : p.col = pc) (x : WS) (w : World) (h : Wr w wb L s x) (hx : x.tx.length ≤ 400000000) :
    Calls Tryz.prog 207 #[.pointer (some ⟨wb, 0, none⟩), .int .i64 (n : Int), .agg (spotV p).toArray, .int .i64 (r : Int)] w fun e w' => e = .returned (.tuple #[]) ∧ WrAt w' wb L.tb (x.toWait (s.sheetAt n) p r) ∧ Wk wb w w' := by
  have hlt := h.lt
  have hc2 := hI.c2
  obtain ⟨W, hW⟩ : ∃ W, W = w.alloc (.cells (spotV p).toArray 82) := ⟨_, rfl⟩
  have GW : W.heap[w.heap.size]? = some (.cells (spotV p).toArray 82 (0, 0)) := by rw [hW]; exact heap_alloc_new _ _
  have BW : Below w.heap.size w W := by rw [hW]; exact (Below.refl _ _).alloc (Nat.le_refl _) _
  have c1 : (w.alloc (.cells (spotV p).toArray 82)).cell? ⟨w.heap.size, 1, none⟩ = some (.int .i64 (pc : Int)) := by rw [← hp2]; exact (cell_of_row _ _ _ _ _ _ (heap_alloc_new w _)).trans rfl
  have HX : Hid (Wr W wb L s x) := h.keep BW
  have HK : Hid (Wk wb w W) := Wk.of_below BW (Nat.le_of_lt hlt)
  have HG : Hid _ := GW
  have HW : Hid _ := hW
  obtain ⟨nb, hnb⟩ : ∃ nb, nb = w.heap.size := ⟨_, rfl⟩
  have e0 : WS.cellAt (s.sheetAt n) p.row p.col = s.cellAt n pr pc := by rw [hp1, hp2]; rfl
  have e1 : 1 ≤ pc → WS.cellAt (s.sheetAt n) p.row (p.col - 1) = s.cellAt n pr (pc - 1) := fun h1 => by
    rw [hp1, hp2, show (pc : Int) - 1 = ((pc - 1 : Nat) : Int) by omega]; rfl
  have HE0 : Hid _ := e0
  have HE1 : Hid _ := e1
  have HP : Hid (p.row = pr ∧ p.col = pc) := ⟨hp1, hp2⟩
  have HHS : ∀ (x : WS) (y : World), Wr y wb L s x → y.heap[nb]? = some (.cells (spotV p).toArray 82 (0, 0)) → y.cell? ⟨wb, 0, none⟩ = some (.pointer (some ⟨L.tb, 0, none⟩)) ∧ y.cell? ⟨nb, 0, none⟩ = some (.int .i64 (pr : Int)) := fun x y hy hg => ⟨hy.c0, by rw [← HP.out.1]; exact (cell_of_row _ _ _ _ _ _ hg).trans rfl⟩
  have HI : Hid _ := hI
  have HO : Hid _ := hO
  rw [← hnb] at HG
  have hwn : wb < nb := by omega
  have HNB : Hid (nb = w.heap.size) := hnb
  clear h hW BW e0 e1 hp1 hp2 GW hI hO hnb
  go_enter Tryz.func207, Tryz.ntmps207
  go_wp2_with fail
  rw [← HW.out, ← HNB.out]
  have HH := HHS x ({ W with drawn := W.drawn + 1 } : World) (HX.out.keep ⟨rfl, rfl, rfl, Nat.le_refl _, fun _ _ => rfl⟩) HG.out
  refine wp_region_held (S := fun y => y.cell? ⟨wb, 0, none⟩ = some (.pointer (some ⟨L.tb, 0, none⟩)) ∧ y.cell? ⟨nb, 0, none⟩ = some (.int .i64 (pr : Int))) mixedC ?_
  refine takeL (i := 0) (d := 11) (v := .pointer (some ⟨wb, 0, none⟩)) rfl rfl (by kernel_rfl) (by kernel_rfl) (by kernel_rfl) (fun _ _ _ h => h) (Or.inl ⟨by rfl, by intro x hSx; go_simp; try (first | rfl | go_num)⟩) HH ?_
  simp only [List.set_cons_zero, List.set_cons_succ]
  refine takeL (i := 1) (d := 12) (v := .pointer (some ⟨wb, 0, none⟩)) rfl rfl (by kernel_rfl) (by kernel_rfl) (by kernel_rfl) (fun _ _ _ h => h) (Or.inl ⟨by rfl, by intro x hSx; go_simp; try (first | rfl | go_num)⟩) HH ?_
  simp only [List.set_cons_zero, List.set_cons_succ]
  refine takeL (i := 2) (d := 13) (v := .pointer (some ⟨wb, 0, none⟩)) rfl rfl (by kernel_rfl) (by kernel_rfl) (by kernel_rfl) (fun _ _ _ h => h) (Or.inl ⟨by rfl, by intro x hSx; go_simp; try (first | rfl | go_num)⟩) HH ?_
  simp only [List.set_cons_zero, List.set_cons_succ]
  refine takeL (i := 3) (d := 14) (v := .pointer (some ⟨L.tb, 0, none⟩)) rfl rfl (by kernel_rfl) (by kernel_rfl) (by kernel_rfl) (fun _ _ _ h => h) (Or.inl ⟨by rfl, by intro x hSx; have hSc := hSx.1; go_simp; try (first | rfl | go_num)⟩) HH ?_
  simp only [List.set_cons_zero, List.set_cons_succ]
  refine takeL (i := 4) (d := 15) (v := .int .i64 (n : Int)) rfl rfl (by kernel_rfl) (by kernel_rfl) (by kernel_rfl) (fun _ _ _ h => h) (Or.inl ⟨by rfl, by intro x hSx; go_simp; try (first | rfl | go_num)⟩) HH ?_
  simp only [List.set_cons_zero, List.set_cons_succ]
  refine takeL (i := 5) (d := 16) (v := .pointer (some ⟨nb, 0, none⟩)) rfl rfl (by kernel_rfl) (by kernel_rfl) (by kernel_rfl) (fun _ _ _ h => h) (Or.inl ⟨by rfl, by intro x hSx; go_simp; try (first | rfl | go_num)⟩) HH ?_
  simp only [List.set_cons_zero, List.set_cons_succ]
  refine takeL (i := 6) (d := 17) (v := .int .i64 (pr : Int)) rfl rfl (by kernel_rfl) (by kernel_rfl) (by kernel_rfl) (fun _ _ _ h => h) (Or.inl ⟨by rfl, by intro x hSx; have hSc := hSx.2; go_simp; try (first | rfl | go_num)⟩) HH ?_
  simp only [List.set_cons_zero, List.set_cons_succ]
  refine takeL (i := 7) (d := 18) (v := .int .i64 (pc : Int)) rfl rfl (by kernel_rfl) (by kernel_rfl) (by kernel_rfl) (fun _ _ _ h => h) (Or.inl ⟨by rfl, by intro x hSx; go_simp; try (first | rfl | go_num)⟩) HH ?_
  simp only [List.set_cons_zero, List.set_cons_succ]
  refine wpAnyH_all (rs := [8]) (by kernel_rfl) (by simp) ?_
  intro i hi'
  rw [List.mem_singleton] at hi'
  subst hi'
  refine wpOp_step rfl fun Kq hKq => ?_
  rw [if_pos (by rfl)]
  have X0 : Wr ({ W with drawn := W.drawn + 1 } : World) wb L s x := HX.out.keep ⟨rfl, rfl, rfl, Nat.le_refl _, fun _ _ => rfl⟩
  refine wp_callL (f := 81) 19 [.tmp 14, .tmp 15, .tmp 17, .tmp 18] #[72, 3, 3, 3] rfl rfl [.pointer (some ⟨L.tb, 0, none⟩), .int .i64 (n : Int), .int .i64 (pr : Int), .int .i64 (pc : Int)] rfl (by kernel_rfl) (fun v w' => v = .agg (cellA (s.cellAt n pr pc)) ∧ Below W.heap.size W w') ((tcell_any L s n pr pc hn hpr hpc _ X0.te HI.out).mono fun e w' h => ⟨_, h.1, rfl, ⟨h.2.os, h.2.tape, h.2.output, h.2.size, fun k hk => h.2.block k hk id⟩⟩) ?_
  rintro v2 y2 ⟨rfl, b2⟩
  have HX2 : Hid (Wr y2 wb L s x) := HX.out.keep b2
  have HG2 : Hid (y2.heap[nb]? = some (.cells (spotV p).toArray 82 (0, 0))) := (b2.block nb (blk_lt HG.out)).trans HG.out
  have HK2 : Hid (Wk wb w y2) := HK.out.trans (Wk.of_below b2 (Nat.le_of_lt HX.out.lt))
  have HH2 := HHS x y2 HX2.out HG2.out
  refine hKq _ _ ⟨HH2, ?_⟩
  clear hKq
  simp only [List.set_cons_zero, List.set_cons_succ]
  have hO1 := HO.out.ok n pr pc hpr hpc
  have hO2 := HO.out.tl n pr pc hpr hpc
  generalize hcc : s.cellAt n pr pc = c at *
  have HCC : Hid _ := hcc
  clear hcc
  refine takeL (i := 9) (d := 20) (v := .int .i64 c.part) rfl rfl (by kernel_rfl) (by kernel_rfl) (by kernel_rfl) (fun _ _ _ h => h) (Or.inl ⟨by rfl, by intro x hSx; go_simp; try (first | rfl | go_num)⟩) HH2 ?_
  simp only [List.set_cons_zero, List.set_cons_succ]
  refine takeL (i := 10) (d := 21) (v := .bool (c.part == 2)) rfl rfl (by kernel_rfl) (by kernel_rfl) (by kernel_rfl) (fun _ _ _ h => h) (Or.inl ⟨by rfl, by intro x hSx; go_simp; try (first | rfl | go_num)⟩) HH2 ?_
  simp only [List.set_cons_zero, List.set_cons_succ]
  refine wpAnyH_done (by kernel_rfl) ?_ _
  clear HH HH2 X0 HX HG HK b2
  by_cases hp2 : c.part = 2
  · have hb : (c.part == 2) = true := by simpa using hp2
    have hq := hO2 hp2
    obtain ⟨q, hqe⟩ : ∃ q, q = pc - 1 := ⟨_, rfl⟩
    have hqi : (q : Int) = (pc : Int) - 1 := by omega
    have vq : IntKind.i64.wrap ((pc : Int) - 1) = (q : Int) := by rw [← hqi]; exact IntWalk.i64_in _ (by omega)
    have HFE : Hid (x.toWait (s.sheetAt n) p r = (x.place r q).cell (s.cellAt n pr q)) := by
      show _ = _
      unfold WS.toWait
      rw [HE0.out, if_pos hp2, HE1.out hq, HP.out.2, hqi, hqe]
    have hqc : q < s.cols := by omega
    rw [hb]
    clear hp2 hb hqi hqe hO1 hO2
    have l3 := place_wr wb L.tb x r q (by omega) (by omega) y2 HX2.out.wr (by omega)
    have hpl := place_len x r q
    go_wp2_with fail
    refine l3.mono ?_
    rintro e y3 ⟨rfl, h3, k3⟩
    have HX3 : Hid (Wr y3 wb L s (x.place r q)) := HX2.out.step k3 h3
    have HG3 : Hid (y3.heap[nb]? = some (.cells (spotV p).toArray 82 (0, 0))) := k3.at HG2.out (by omega) (by decide)
    have HK3 : Hid (Wk wb w y3) := HK2.out.trans k3
    clear l3 h3 k3 HX2 HG2 HK2
    have X3 : Wr ({ y3 with drawn := y3.drawn + 1 } : World) wb L s (x.place r q) := HX3.out.keep ⟨rfl, rfl, rfl, Nat.le_refl _, fun _ _ => rfl⟩
    have HH3 := HHS _ ({ y3 with drawn := y3.drawn + 1 } : World) X3 HG3.out
    go_wp2_with fail
    refine wp_region_held (S := fun y => y.cell? ⟨wb, 0, none⟩ = some (.pointer (some ⟨L.tb, 0, none⟩)) ∧ y.cell? ⟨nb, 0, none⟩ = some (.int .i64 (pr : Int))) mixedC ?_
    refine takeL (i := 0) (d := 28) (v := .pointer (some ⟨wb, 0, none⟩)) rfl rfl (by kernel_rfl) (by kernel_rfl) (by kernel_rfl) (fun _ _ _ h => h) (Or.inl ⟨by rfl, by intro x hSx; go_simp; try (first | rfl | go_num)⟩) HH3 ?_
    simp only [List.set_cons_zero, List.set_cons_succ]
    refine takeL (i := 1) (d := 29) (v := .pointer (some ⟨wb, 0, none⟩)) rfl rfl (by kernel_rfl) (by kernel_rfl) (by kernel_rfl) (fun _ _ _ h => h) (Or.inl ⟨by rfl, by intro x hSx; go_simp; try (first | rfl | go_num)⟩) HH3 ?_
    simp only [List.set_cons_zero, List.set_cons_succ]
    refine takeL (i := 2) (d := 30) (v := .pointer (some ⟨wb, 0, none⟩)) rfl rfl (by kernel_rfl) (by kernel_rfl) (by kernel_rfl) (fun _ _ _ h => h) (Or.inl ⟨by rfl, by intro x hSx; go_simp; try (first | rfl | go_num)⟩) HH3 ?_
    simp only [List.set_cons_zero, List.set_cons_succ]
    refine takeL (i := 3) (d := 31) (v := .pointer (some ⟨wb, 0, none⟩)) rfl rfl (by kernel_rfl) (by kernel_rfl) (by kernel_rfl) (fun _ _ _ h => h) (Or.inl ⟨by rfl, by intro x hSx; go_simp; try (first | rfl | go_num)⟩) HH3 ?_
    simp only [List.set_cons_zero, List.set_cons_succ]
    refine takeL (i := 4) (d := 32) (v := .pointer (some ⟨L.tb, 0, none⟩)) rfl rfl (by kernel_rfl) (by kernel_rfl) (by kernel_rfl) (fun _ _ _ h => h) (Or.inl ⟨by rfl, by intro x hSx; have hSc := hSx.1; go_simp; try (first | rfl | go_num)⟩) HH3 ?_
    simp only [List.set_cons_zero, List.set_cons_succ]
    refine takeL (i := 5) (d := 33) (v := .int .i64 (n : Int)) rfl rfl (by kernel_rfl) (by kernel_rfl) (by kernel_rfl) (fun _ _ _ h => h) (Or.inl ⟨by rfl, by intro x hSx; go_simp; try (first | rfl | go_num)⟩) HH3 ?_
    simp only [List.set_cons_zero, List.set_cons_succ]
    refine takeL (i := 6) (d := 34) (v := .pointer (some ⟨nb, 0, none⟩)) rfl rfl (by kernel_rfl) (by kernel_rfl) (by kernel_rfl) (fun _ _ _ h => h) (Or.inl ⟨by rfl, by intro x hSx; go_simp; try (first | rfl | go_num)⟩) HH3 ?_
    simp only [List.set_cons_zero, List.set_cons_succ]
    refine takeL (i := 7) (d := 35) (v := .int .i64 (pr : Int)) rfl rfl (by kernel_rfl) (by kernel_rfl) (by kernel_rfl) (fun _ _ _ h => h) (Or.inl ⟨by rfl, by intro x hSx; have hSc := hSx.2; go_simp; try (first | rfl | go_num)⟩) HH3 ?_
    simp only [List.set_cons_zero, List.set_cons_succ]
    refine takeL (i := 8) (d := 36) (v := .int .i64 (q : Int)) rfl rfl (by kernel_rfl) (by kernel_rfl) (by kernel_rfl) (fun _ _ _ h => h) (Or.inl ⟨by rfl, by intro x hSx; go_simp; try (first | rfl | go_num)⟩) HH3 ?_
    simp only [List.set_cons_zero, List.set_cons_succ]
    refine wpAnyH_all (rs := [9]) (by kernel_rfl) (by simp) ?_
    intro i hi'
    rw [List.mem_singleton] at hi'
    subst hi'
    refine wpOp_step rfl fun Kq hKq => ?_
    rw [if_pos (by rfl)]
    refine wp_callL (f := 81) 37 [.tmp 32, .tmp 33, .tmp 35, .tmp 36] #[72, 3, 3, 3] rfl rfl [.pointer (some ⟨L.tb, 0, none⟩), .int .i64 (n : Int), .int .i64 (pr : Int), .int .i64 (q : Int)] rfl (by kernel_rfl) (fun v w' => v = .agg (cellA (s.cellAt n pr q)) ∧ Below y3.heap.size y3 w') ((tcell_any L s n pr q hn hpr (by omega) _ X3.te HI.out).mono fun e w' h => ⟨_, h.1, rfl, ⟨h.2.os, h.2.tape, h.2.output, h.2.size, fun k hk => h.2.block k hk id⟩⟩) ?_
    rintro v4 y4 ⟨rfl, b4⟩
    have HX4 : Hid (Wr y4 wb L s (x.place r q)) := HX3.out.keep b4
    have HG4 : Hid (y4.heap[nb]? = some (.cells (spotV p).toArray 82 (0, 0))) := (b4.block nb (blk_lt HG3.out)).trans HG3.out
    have HK4 : Hid (Wk wb w y4) := HK3.out.trans (Wk.of_below b4 (Nat.le_of_lt HX3.out.lt))
    refine hKq _ _ ⟨HHS _ y4 HX4.out HG4.out, ?_⟩
    clear hKq
    simp only [List.set_cons_zero, List.set_cons_succ]
    have hO3 := HO.out.ok n pr q hpr (by omega)
    refine wpAnyH_all (rs := [10]) (by kernel_rfl) (by simp) ?_
    intro i hi'
    rw [List.mem_singleton] at hi'
    subst hi'
    refine wpOp_step rfl fun Kq hKq => ?_
    rw [if_pos (by rfl)]
    refine wp_callL (f := 231) 38 [.tmp 28, .tmp 37] #[185, 101] rfl rfl [.pointer (some ⟨wb, 0, none⟩), .agg (cellA (s.cellAt n pr q))] rfl (by kernel_rfl) (fun v w' => WrAt w' wb L.tb ((x.place r q).cell (s.cellAt n pr q)) ∧ Wk wb y4 w') ((cell_wr wb L.tb (x.place r q) (s.cellAt n pr q) hO3 y4 HX4.out.wr (by omega)).mono fun e w' h => ⟨_, h.1, h.2⟩) ?_
    rintro v5 y5 ⟨h5, k5⟩
    have HX5 : Hid (Wr y5 wb L s ((x.place r q).cell (s.cellAt n pr q))) := HX4.out.step k5 h5
    have HK5 : Hid (Wk wb w y5) := HK4.out.trans k5
    refine hKq _ _ ⟨HHS _ y5 HX5.out (k5.at HG4.out (by omega) (by decide)), ?_⟩
    clear hKq
    refine wpAnyH_done (by kernel_rfl) ?_ _
    clear h5 k5 HX4 HG4 HK4 HX3 HG3 HK3 b4 X3 HH3
    go_wp2_with fail
    go_end0
    exact ⟨rfl, by rw [HFE.out]; exact HX5.out.wr, HK5.out⟩
  · have hb : (c.part == 2) = false := by simpa using hp2
    have HFE : Hid (x.toWait (s.sheetAt n) p r = (x.place r pc).cell (s.cellAt n pr pc)) := by
      show _ = _
      unfold WS.toWait
      rw [HE0.out, if_neg hp2, HP.out.2, HCC.out]
    rw [hb]
    clear hp2 hb hO1 hO2
    have l3 := place_wr wb L.tb x r pc (by omega) (by omega) y2 HX2.out.wr (by omega)
    have hpl := place_len x r pc
    go_wp2_with fail
    refine l3.mono ?_
    rintro e y3 ⟨rfl, h3, k3⟩
    have HX3 : Hid (Wr y3 wb L s (x.place r pc)) := HX2.out.step k3 h3
    have HG3 : Hid (y3.heap[nb]? = some (.cells (spotV p).toArray 82 (0, 0))) := k3.at HG2.out (by omega) (by decide)
    have HK3 : Hid (Wk wb w y3) := HK2.out.trans k3
    clear l3 h3 k3 HX2 HG2 HK2
    have X3 : Wr ({ y3 with drawn := y3.drawn + 1 } : World) wb L s (x.place r pc) := HX3.out.keep ⟨rfl, rfl, rfl, Nat.le_refl _, fun _ _ => rfl⟩
    have HH3 := HHS _ ({ y3 with drawn := y3.drawn + 1 } : World) X3 HG3.out
    go_wp2_with fail
    refine wp_region_held (S := fun y => y.cell? ⟨wb, 0, none⟩ = some (.pointer (some ⟨L.tb, 0, none⟩)) ∧ y.cell? ⟨nb, 0, none⟩ = some (.int .i64 (pr : Int))) mixedC ?_
    refine takeL (i := 0) (d := 28) (v := .pointer (some ⟨wb, 0, none⟩)) rfl rfl (by kernel_rfl) (by kernel_rfl) (by kernel_rfl) (fun _ _ _ h => h) (Or.inl ⟨by rfl, by intro x hSx; go_simp; try (first | rfl | go_num)⟩) HH3 ?_
    simp only [List.set_cons_zero, List.set_cons_succ]
    refine takeL (i := 1) (d := 29) (v := .pointer (some ⟨wb, 0, none⟩)) rfl rfl (by kernel_rfl) (by kernel_rfl) (by kernel_rfl) (fun _ _ _ h => h) (Or.inl ⟨by rfl, by intro x hSx; go_simp; try (first | rfl | go_num)⟩) HH3 ?_
    simp only [List.set_cons_zero, List.set_cons_succ]
    refine takeL (i := 2) (d := 30) (v := .pointer (some ⟨wb, 0, none⟩)) rfl rfl (by kernel_rfl) (by kernel_rfl) (by kernel_rfl) (fun _ _ _ h => h) (Or.inl ⟨by rfl, by intro x hSx; go_simp; try (first | rfl | go_num)⟩) HH3 ?_
    simp only [List.set_cons_zero, List.set_cons_succ]
    refine takeL (i := 3) (d := 31) (v := .pointer (some ⟨wb, 0, none⟩)) rfl rfl (by kernel_rfl) (by kernel_rfl) (by kernel_rfl) (fun _ _ _ h => h) (Or.inl ⟨by rfl, by intro x hSx; go_simp; try (first | rfl | go_num)⟩) HH3 ?_
    simp only [List.set_cons_zero, List.set_cons_succ]
    refine takeL (i := 4) (d := 32) (v := .pointer (some ⟨L.tb, 0, none⟩)) rfl rfl (by kernel_rfl) (by kernel_rfl) (by kernel_rfl) (fun _ _ _ h => h) (Or.inl ⟨by rfl, by intro x hSx; have hSc := hSx.1; go_simp; try (first | rfl | go_num)⟩) HH3 ?_
    simp only [List.set_cons_zero, List.set_cons_succ]
    refine takeL (i := 5) (d := 33) (v := .int .i64 (n : Int)) rfl rfl (by kernel_rfl) (by kernel_rfl) (by kernel_rfl) (fun _ _ _ h => h) (Or.inl ⟨by rfl, by intro x hSx; go_simp; try (first | rfl | go_num)⟩) HH3 ?_
    simp only [List.set_cons_zero, List.set_cons_succ]
    refine takeL (i := 6) (d := 34) (v := .pointer (some ⟨nb, 0, none⟩)) rfl rfl (by kernel_rfl) (by kernel_rfl) (by kernel_rfl) (fun _ _ _ h => h) (Or.inl ⟨by rfl, by intro x hSx; go_simp; try (first | rfl | go_num)⟩) HH3 ?_
    simp only [List.set_cons_zero, List.set_cons_succ]
    refine takeL (i := 7) (d := 35) (v := .int .i64 (pr : Int)) rfl rfl (by kernel_rfl) (by kernel_rfl) (by kernel_rfl) (fun _ _ _ h => h) (Or.inl ⟨by rfl, by intro x hSx; have hSc := hSx.2; go_simp; try (first | rfl | go_num)⟩) HH3 ?_
    simp only [List.set_cons_zero, List.set_cons_succ]
    refine takeL (i := 8) (d := 36) (v := .int .i64 (pc : Int)) rfl rfl (by kernel_rfl) (by kernel_rfl) (by kernel_rfl) (fun _ _ _ h => h) (Or.inl ⟨by rfl, by intro x hSx; go_simp; try (first | rfl | go_num)⟩) HH3 ?_
    simp only [List.set_cons_zero, List.set_cons_succ]
    refine wpAnyH_all (rs := [9]) (by kernel_rfl) (by simp) ?_
    intro i hi'
    rw [List.mem_singleton] at hi'
    subst hi'
    refine wpOp_step rfl fun Kq hKq => ?_
    rw [if_pos (by rfl)]
    refine wp_callL (f := 81) 37 [.tmp 32, .tmp 33, .tmp 35, .tmp 36] #[72, 3, 3, 3] rfl rfl [.pointer (some ⟨L.tb, 0, none⟩), .int .i64 (n : Int), .int .i64 (pr : Int), .int .i64 (pc : Int)] rfl (by kernel_rfl) (fun v w' => v = .agg (cellA (s.cellAt n pr pc)) ∧ Below y3.heap.size y3 w') ((tcell_any L s n pr pc hn hpr (by omega) _ X3.te HI.out).mono fun e w' h => ⟨_, h.1, rfl, ⟨h.2.os, h.2.tape, h.2.output, h.2.size, fun k hk => h.2.block k hk id⟩⟩) ?_
    rintro v4 y4 ⟨rfl, b4⟩
    have HX4 : Hid (Wr y4 wb L s (x.place r pc)) := HX3.out.keep b4
    have HG4 : Hid (y4.heap[nb]? = some (.cells (spotV p).toArray 82 (0, 0))) := (b4.block nb (blk_lt HG3.out)).trans HG3.out
    have HK4 : Hid (Wk wb w y4) := HK3.out.trans (Wk.of_below b4 (Nat.le_of_lt HX3.out.lt))
    refine hKq _ _ ⟨HHS _ y4 HX4.out HG4.out, ?_⟩
    clear hKq
    simp only [List.set_cons_zero, List.set_cons_succ]
    have hO3 := HO.out.ok n pr pc hpr (by omega)
    refine wpAnyH_all (rs := [10]) (by kernel_rfl) (by simp) ?_
    intro i hi'
    rw [List.mem_singleton] at hi'
    subst hi'
    refine wpOp_step rfl fun Kq hKq => ?_
    rw [if_pos (by rfl)]
    refine wp_callL (f := 231) 38 [.tmp 28, .tmp 37] #[185, 101] rfl rfl [.pointer (some ⟨wb, 0, none⟩), .agg (cellA (s.cellAt n pr pc))] rfl (by kernel_rfl) (fun v w' => WrAt w' wb L.tb ((x.place r pc).cell (s.cellAt n pr pc)) ∧ Wk wb y4 w') ((cell_wr wb L.tb (x.place r pc) (s.cellAt n pr pc) hO3 y4 HX4.out.wr (by omega)).mono fun e w' h => ⟨_, h.1, h.2⟩) ?_
    rintro v5 y5 ⟨h5, k5⟩
    have HX5 : Hid (Wr y5 wb L s ((x.place r pc).cell (s.cellAt n pr pc))) := HX4.out.step k5 h5
    have HK5 : Hid (Wk wb w y5) := HK4.out.trans k5
    refine hKq _ _ ⟨HHS _ y5 HX5.out (k5.at HG4.out (by omega) (by decide)), ?_⟩
    clear hKq
    refine wpAnyH_done (by kernel_rfl) ?_ _
    clear h5 k5 HX4 HG4 HK4 HX3 HG3 HK3 b4 X3 HH3
    go_wp2_with fail
    go_end0
    exact ⟨rfl, by rw [HFE.out]; exact HX5.out.wr, HK5.out⟩
end Go.Proofs.YtheibfffilomcaaGreatDoor

/- The walks of toSpot and takeBack. -/
namespace Go.Proofs.YtheibfffilomcaaGreatDoor
open Go.RowKit

theorem bl_st {s : ByteArray} {l : List Int} (x : WS) (h : bl s = l) : x.put (bl s) = x.put l := by rw [h]
theorem seq_len (x : WS) (l : List Int) : (x.seq l).tx.length = x.tx.length + 2 + l.length := by
  show (x.tx ++ ([27, 91] ++ l)).length = _
  simp only [List.length_append, List.length_cons, List.length_nil]
  omega
theorem put_len (x : WS) (l : List Int) : (x.put l).tx.length = x.tx.length + l.length := by
  show (x.tx ++ l).length = _
  rw [List.length_append]
theorem toWait_len (x : WS) (S : Sheet) (p : SpotS) (r : Int) : (x.toWait S p r).tx.length ≤ x.tx.length + 32 := by
  unfold WS.toWait
  split
  · have := cell_len (x.place r (p.col - 1)) (WS.cellAt S p.row (p.col - 1))
    have := place_len x r (p.col - 1)
    omega
  · have := cell_len (x.place r p.col) (WS.cellAt S p.row p.col)
    have := place_len x r p.col
    omega
/-- A spot in memory. -/
theorem spot_cells {y : World} {nb : Nat} {p : SpotS} (h : y.heap[nb]? = some (.cells (spotV p).toArray 82 (0, 0))) :
    y.cell? ⟨nb, 0, none⟩ = some (.int .i64 p.row) ∧ y.cell? ⟨nb, 1, none⟩ = some (.int .i64 p.col) ∧ y.cell? ⟨nb, 2, none⟩ = some (.bool p.waits) ∧ y.cell? ⟨nb, 8, none⟩ = some (.int .i64 p.first) ∧ y.cell? ⟨nb, 9, none⟩ = some (.int .i64 p.second) ∧ y.cell? ⟨nb, 10, none⟩ = some (.int .i64 p.use) ∧ y.cell? ⟨nb, 11, none⟩ = some (.bool p.origin) :=
  ⟨(cell_of_row _ _ _ _ _ _ h).trans rfl, (cell_of_row _ _ _ _ _ _ h).trans rfl, (cell_of_row _ _ _ _ _ _ h).trans rfl, (cell_of_row _ _ _ _ _ _ h).trans rfl, (cell_of_row _ _ _ _ _ _ h).trans rfl, (cell_of_row _ _ _ _ _ _ h).trans rfl, (cell_of_row _ _ _ _ _ _ h).trans rfl⟩

set_option maxRecDepth 100000 in
set_option maxHeartbeats 4000000 in
theorem toSpot_wr (wb : Nat) (L : Lay) (s : TS) (hI : s.Inv) (hO : CellsOk s) (n pr pc r : Nat) (top : Int) (hn : n < 2) (hpr : pr < s.rows) (hpc : pc < s.cols) (hr : r < 90) (p : SpotS) (hp1 : p.row = pr) (hp2 : p.col = pc) (hpp : p.pen.Ok) (hf : p.first = 0 ∨ p.first = 1) (hs : p.second = 0 ∨ p.second = 1) (hu : p.use = 0 ∨ p.use = 1)
    (hrr : (if p.origin then p.row - top else p.row) = r) (x : WS) (w : World) (h : Wr w wb L s x) (hx : x.tx.length ≤ 300000000) :
    Calls Tryz.prog 153 #[.pointer (some ⟨wb, 0, none⟩), .int .i64 (n : Int), .agg (spotV p).toArray, .int .i64 top] w fun e w' => e = .returned (.tuple #[]) ∧ WrAt w' wb L.tb (x.toSpot (s.sheetAt n) p top) ∧ Wk wb w w' := by
  have hlt := h.lt
  have hc2 := hI.c2
  have hr2 := hI.r2
  obtain ⟨W, hW⟩ : ∃ W, W = w.alloc (.cells (spotV p).toArray 82) := ⟨_, rfl⟩
  have GW : W.heap[w.heap.size]? = some (.cells (spotV p).toArray 82 (0, 0)) := by rw [hW]; exact heap_alloc_new _ _
  have BW : Below w.heap.size w W := by rw [hW]; exact (Below.refl _ _).alloc (Nat.le_refl _) _
  have HX0 : Hid (Wr W wb L s x) := h.keep BW
  have HK0 : Hid (Wk wb w W) := Wk.of_below BW (Nat.le_of_lt hlt)
  have HG0 : Hid (W.heap[w.heap.size]? = some (.cells (spotV p).toArray 82 (0, 0))) := GW
  have HW : Hid _ := hW
  have HI : Hid _ := hI
  have HO : Hid _ := hO
  have HP1 : Hid (p.row = pr) := hp1
  have HP2 : Hid (p.col = pc) := hp2
  have HRR : Hid ((if p.origin then p.row - top else p.row) = r) := hrr
  have i1 := (spot_cells (heap_alloc_new w (.cells (spotV p).toArray 82))).1
  have i2 := (spot_cells (heap_alloc_new w (.cells (spotV p).toArray 82))).2.2.2.2.2.2
  have i3 := (spot_cells (heap_alloc_new w (.cells (spotV p).toArray 82))).2.2.1
  rw [hp1] at i1
  have c41 := (spot_cells (heap_alloc_new w (.cells (spotV p).toArray 82))).2.1
  rw [hp2] at c41
  have XS : ∀ y : World, y.heap[w.heap.size]? = some (.cells (spotV p).toArray 82 (0, 0)) → y.rangeAt w.heap.size 3 (penV p.pen) := fun y hy => range_of hy 3 _ rfl
  have XC : ∀ y : World, y.heap[w.heap.size]? = some (.cells (spotV p).toArray 82 (0, 0)) → _ := fun y hy => spot_cells hy
  clear h hW GW BW hI hO hp1 hp2 hrr
  go_enter Tryz.func153, Tryz.ntmps153
  cases ho : p.origin with
  | false =>
    rw [ho] at i2
    have hri : (pr : Int) = (r : Int) := by have := HRR.out; rw [ho] at this; rw [← this, ← HP1.out]; rfl
    rw [hri] at i1
    cases hw : p.waits with
    | false =>
      rw [hw] at i3
      have l9 := place_wr wb L.tb (x) r pc (by omega) (by omega) W HX0.out.wr (by omega)
      rw [HW.out] at l9
      go_wp2_with fail
      refine l9.mono ?_
      rintro e z1 ⟨rfl, h9, k9⟩
      rw [← HW.out] at k9
      have HXz1 : Hid (Wr z1 wb L s ((x).place r pc)) := HX0.out.step k9 h9
      have HGz1 : Hid (z1.heap[w.heap.size]? = some (.cells (spotV p).toArray 82 (0, 0))) := k9.at HG0.out (by omega) (by decide)
      have HKz1 : Hid (Wk wb w z1) := HK0.out.trans k9
      have n2 := place_len (x) r pc
      clear h9 k9 HX0 HG0 HK0
      have l9 := turn_wr wb L.tb ((x).place r pc) p.pen hpp z1 HXz1.out.wr (by omega)
      go_wp2_with (refine wpList_load_mid rfl 80 (.tmp 31) rfl w.heap.size 3 rfl (penV p.pen) _ (XS _ HGz1.out) Tryz.underlying80 rfl info47 ?_)
      refine l9.mono ?_
      rintro e z3 ⟨rfl, h9, k9⟩
      have HXz3 : Hid (Wr z3 wb L s (((x).place r pc).turn p.pen)) := HXz1.out.step k9 h9
      have HGz3 : Hid (z3.heap[w.heap.size]? = some (.cells (spotV p).toArray 82 (0, 0))) := k9.at HGz1.out (by omega) (by decide)
      have HKz3 : Hid (Wk wb w z3) := HKz1.out.trans k9
      have n4 := turn_len ((x).place r pc) p.pen
      clear h9 k9 HXz1 HGz1 HKz1
      rcases hf with hf | hf
      · have q_first := (XC z3 HGz3.out).2.2.2.1
        rw [hf] at q_first
        rcases hs with hs | hs
        · have q_second := (XC z3 HGz3.out).2.2.2.2.1
          rw [hs] at q_second
          rcases hu with hu | hu
          · have q_use := (XC z3 HGz3.out).2.2.2.2.2.1
            rw [hu] at q_use
            go_wp2_with fail
            go_end0
            have he : x.toSpot (s.sheetAt n) p top = ((x).place r pc).turn p.pen := by
              unfold WS.toSpot WS.to1 WS.to2 WS.to4 WS.to5 WS.to6
              rw [HRR.out, ho, hw, hf, hs, hu, HP2.out]
              rfl
            exact ⟨rfl, by rw [he]; exact HXz3.out.wr, HKz3.out⟩
          · have q_use := (XC z3 HGz3.out).2.2.2.2.2.1
            rw [hu] at q_use
            have l9 := writeString_any wb L.tb (((x).place r pc).turn p.pen) { data := #[14] } z3 HXz3.out.wr (by omega) (by decide)
            rw [bl_st _ (show bl ({ data := #[14] } : ByteArray) = [14] by rfl)] at l9
            go_wp2_with fail
            refine l9.mono ?_
            rintro e z5 ⟨⟨v9, rfl⟩, h9, k9⟩
            have HXz5 : Hid (Wr z5 wb L s ((((x).place r pc).turn p.pen).put [14])) := HXz3.out.step k9 h9
            have HGz5 : Hid (z5.heap[w.heap.size]? = some (.cells (spotV p).toArray 82 (0, 0))) := k9.at HGz3.out (by omega) (by decide)
            have HKz5 : Hid (Wk wb w z5) := HKz3.out.trans k9

            clear h9 k9 HXz3 HGz3 HKz3
            go_wp2_with fail
            go_end0
            have he : x.toSpot (s.sheetAt n) p top = (((x).place r pc).turn p.pen).put [14] := by
              unfold WS.toSpot WS.to1 WS.to2 WS.to4 WS.to5 WS.to6
              rw [HRR.out, ho, hw, hf, hs, hu, HP2.out]
              rfl
            exact ⟨rfl, by rw [he]; exact HXz5.out.wr, HKz5.out⟩
        · have q_second := (XC z3 HGz3.out).2.2.2.2.1
          rw [hs] at q_second
          have l9 := writeString_any wb L.tb (((x).place r pc).turn p.pen) { data := #[27, 41, 48] } z3 HXz3.out.wr (by omega) (by decide)
          rw [bl_st _ (show bl ({ data := #[27, 41, 48] } : ByteArray) = [27, 41, 48] by rfl)] at l9
          go_wp2_with fail
          refine l9.mono ?_
          rintro e z6 ⟨⟨v9, rfl⟩, h9, k9⟩
          have HXz6 : Hid (Wr z6 wb L s ((((x).place r pc).turn p.pen).put [27, 41, 48])) := HXz3.out.step k9 h9
          have HGz6 : Hid (z6.heap[w.heap.size]? = some (.cells (spotV p).toArray 82 (0, 0))) := k9.at HGz3.out (by omega) (by decide)
          have HKz6 : Hid (Wk wb w z6) := HKz3.out.trans k9
          have n7 := put_len (((x).place r pc).turn p.pen) [27, 41, 48]
          simp only [List.length_cons, List.length_nil] at n7
          clear h9 k9 HXz3 HGz3 HKz3
          rcases hu with hu | hu
          · have q_use := (XC z6 HGz6.out).2.2.2.2.2.1
            rw [hu] at q_use
            go_wp2_with fail
            go_end0
            have he : x.toSpot (s.sheetAt n) p top = (((x).place r pc).turn p.pen).put [27, 41, 48] := by
              unfold WS.toSpot WS.to1 WS.to2 WS.to4 WS.to5 WS.to6
              rw [HRR.out, ho, hw, hf, hs, hu, HP2.out]
              rfl
            exact ⟨rfl, by rw [he]; exact HXz6.out.wr, HKz6.out⟩
          · have q_use := (XC z6 HGz6.out).2.2.2.2.2.1
            rw [hu] at q_use
            have l9 := writeString_any wb L.tb ((((x).place r pc).turn p.pen).put [27, 41, 48]) { data := #[14] } z6 HXz6.out.wr (by omega) (by decide)
            rw [bl_st _ (show bl ({ data := #[14] } : ByteArray) = [14] by rfl)] at l9
            go_wp2_with fail
            refine l9.mono ?_
            rintro e z8 ⟨⟨v9, rfl⟩, h9, k9⟩
            have HXz8 : Hid (Wr z8 wb L s (((((x).place r pc).turn p.pen).put [27, 41, 48]).put [14])) := HXz6.out.step k9 h9
            have HGz8 : Hid (z8.heap[w.heap.size]? = some (.cells (spotV p).toArray 82 (0, 0))) := k9.at HGz6.out (by omega) (by decide)
            have HKz8 : Hid (Wk wb w z8) := HKz6.out.trans k9

            clear h9 k9 HXz6 HGz6 HKz6
            go_wp2_with fail
            go_end0
            have he : x.toSpot (s.sheetAt n) p top = ((((x).place r pc).turn p.pen).put [27, 41, 48]).put [14] := by
              unfold WS.toSpot WS.to1 WS.to2 WS.to4 WS.to5 WS.to6
              rw [HRR.out, ho, hw, hf, hs, hu, HP2.out]
              rfl
            exact ⟨rfl, by rw [he]; exact HXz8.out.wr, HKz8.out⟩
      · have q_first := (XC z3 HGz3.out).2.2.2.1
        rw [hf] at q_first
        have l9 := writeString_any wb L.tb (((x).place r pc).turn p.pen) { data := #[27, 40, 48] } z3 HXz3.out.wr (by omega) (by decide)
        rw [bl_st _ (show bl ({ data := #[27, 40, 48] } : ByteArray) = [27, 40, 48] by rfl)] at l9
        go_wp2_with fail
        refine l9.mono ?_
        rintro e z9 ⟨⟨v9, rfl⟩, h9, k9⟩
        have HXz9 : Hid (Wr z9 wb L s ((((x).place r pc).turn p.pen).put [27, 40, 48])) := HXz3.out.step k9 h9
        have HGz9 : Hid (z9.heap[w.heap.size]? = some (.cells (spotV p).toArray 82 (0, 0))) := k9.at HGz3.out (by omega) (by decide)
        have HKz9 : Hid (Wk wb w z9) := HKz3.out.trans k9
        have n10 := put_len (((x).place r pc).turn p.pen) [27, 40, 48]
        simp only [List.length_cons, List.length_nil] at n10
        clear h9 k9 HXz3 HGz3 HKz3
        rcases hs with hs | hs
        · have q_second := (XC z9 HGz9.out).2.2.2.2.1
          rw [hs] at q_second
          rcases hu with hu | hu
          · have q_use := (XC z9 HGz9.out).2.2.2.2.2.1
            rw [hu] at q_use
            go_wp2_with fail
            go_end0
            have he : x.toSpot (s.sheetAt n) p top = (((x).place r pc).turn p.pen).put [27, 40, 48] := by
              unfold WS.toSpot WS.to1 WS.to2 WS.to4 WS.to5 WS.to6
              rw [HRR.out, ho, hw, hf, hs, hu, HP2.out]
              rfl
            exact ⟨rfl, by rw [he]; exact HXz9.out.wr, HKz9.out⟩
          · have q_use := (XC z9 HGz9.out).2.2.2.2.2.1
            rw [hu] at q_use
            have l9 := writeString_any wb L.tb ((((x).place r pc).turn p.pen).put [27, 40, 48]) { data := #[14] } z9 HXz9.out.wr (by omega) (by decide)
            rw [bl_st _ (show bl ({ data := #[14] } : ByteArray) = [14] by rfl)] at l9
            go_wp2_with fail
            refine l9.mono ?_
            rintro e z11 ⟨⟨v9, rfl⟩, h9, k9⟩
            have HXz11 : Hid (Wr z11 wb L s (((((x).place r pc).turn p.pen).put [27, 40, 48]).put [14])) := HXz9.out.step k9 h9
            have HGz11 : Hid (z11.heap[w.heap.size]? = some (.cells (spotV p).toArray 82 (0, 0))) := k9.at HGz9.out (by omega) (by decide)
            have HKz11 : Hid (Wk wb w z11) := HKz9.out.trans k9

            clear h9 k9 HXz9 HGz9 HKz9
            go_wp2_with fail
            go_end0
            have he : x.toSpot (s.sheetAt n) p top = ((((x).place r pc).turn p.pen).put [27, 40, 48]).put [14] := by
              unfold WS.toSpot WS.to1 WS.to2 WS.to4 WS.to5 WS.to6
              rw [HRR.out, ho, hw, hf, hs, hu, HP2.out]
              rfl
            exact ⟨rfl, by rw [he]; exact HXz11.out.wr, HKz11.out⟩
        · have q_second := (XC z9 HGz9.out).2.2.2.2.1
          rw [hs] at q_second
          have l9 := writeString_any wb L.tb ((((x).place r pc).turn p.pen).put [27, 40, 48]) { data := #[27, 41, 48] } z9 HXz9.out.wr (by omega) (by decide)
          rw [bl_st _ (show bl ({ data := #[27, 41, 48] } : ByteArray) = [27, 41, 48] by rfl)] at l9
          go_wp2_with fail
          refine l9.mono ?_
          rintro e z12 ⟨⟨v9, rfl⟩, h9, k9⟩
          have HXz12 : Hid (Wr z12 wb L s (((((x).place r pc).turn p.pen).put [27, 40, 48]).put [27, 41, 48])) := HXz9.out.step k9 h9
          have HGz12 : Hid (z12.heap[w.heap.size]? = some (.cells (spotV p).toArray 82 (0, 0))) := k9.at HGz9.out (by omega) (by decide)
          have HKz12 : Hid (Wk wb w z12) := HKz9.out.trans k9
          have n13 := put_len ((((x).place r pc).turn p.pen).put [27, 40, 48]) [27, 41, 48]
          simp only [List.length_cons, List.length_nil] at n13
          clear h9 k9 HXz9 HGz9 HKz9
          rcases hu with hu | hu
          · have q_use := (XC z12 HGz12.out).2.2.2.2.2.1
            rw [hu] at q_use
            go_wp2_with fail
            go_end0
            have he : x.toSpot (s.sheetAt n) p top = ((((x).place r pc).turn p.pen).put [27, 40, 48]).put [27, 41, 48] := by
              unfold WS.toSpot WS.to1 WS.to2 WS.to4 WS.to5 WS.to6
              rw [HRR.out, ho, hw, hf, hs, hu, HP2.out]
              rfl
            exact ⟨rfl, by rw [he]; exact HXz12.out.wr, HKz12.out⟩
          · have q_use := (XC z12 HGz12.out).2.2.2.2.2.1
            rw [hu] at q_use
            have l9 := writeString_any wb L.tb (((((x).place r pc).turn p.pen).put [27, 40, 48]).put [27, 41, 48]) { data := #[14] } z12 HXz12.out.wr (by omega) (by decide)
            rw [bl_st _ (show bl ({ data := #[14] } : ByteArray) = [14] by rfl)] at l9
            go_wp2_with fail
            refine l9.mono ?_
            rintro e z14 ⟨⟨v9, rfl⟩, h9, k9⟩
            have HXz14 : Hid (Wr z14 wb L s ((((((x).place r pc).turn p.pen).put [27, 40, 48]).put [27, 41, 48]).put [14])) := HXz12.out.step k9 h9
            have HGz14 : Hid (z14.heap[w.heap.size]? = some (.cells (spotV p).toArray 82 (0, 0))) := k9.at HGz12.out (by omega) (by decide)
            have HKz14 : Hid (Wk wb w z14) := HKz12.out.trans k9

            clear h9 k9 HXz12 HGz12 HKz12
            go_wp2_with fail
            go_end0
            have he : x.toSpot (s.sheetAt n) p top = (((((x).place r pc).turn p.pen).put [27, 40, 48]).put [27, 41, 48]).put [14] := by
              unfold WS.toSpot WS.to1 WS.to2 WS.to4 WS.to5 WS.to6
              rw [HRR.out, ho, hw, hf, hs, hu, HP2.out]
              rfl
            exact ⟨rfl, by rw [he]; exact HXz14.out.wr, HKz14.out⟩
    | true =>
      rw [hw] at i3
      have l9 := toWait_wr wb L s HI.out HO.out n pr pc r hn hpr hpc hr p HP1.out HP2.out (x) W HX0.out (by omega)
      rw [HW.out] at l9
      go_wp2_with (refine wpList_load_row rfl 82 (.tmp 6) rfl w.heap.size rfl 82 _ (0, 0) _ (heap_alloc_new _ _) Tryz.underlying82 rfl info54s ?_)
      refine l9.mono ?_
      rintro e z15 ⟨rfl, h9, k9⟩
      rw [← HW.out] at k9
      have HXz15 : Hid (Wr z15 wb L s ((x).toWait (s.sheetAt n) p r)) := HX0.out.step k9 h9
      have HGz15 : Hid (z15.heap[w.heap.size]? = some (.cells (spotV p).toArray 82 (0, 0))) := k9.at HG0.out (by omega) (by decide)
      have HKz15 : Hid (Wk wb w z15) := HK0.out.trans k9
      have n16 := toWait_len (x) (s.sheetAt n) p r
      clear h9 k9 HX0 HG0 HK0
      have l9 := turn_wr wb L.tb ((x).toWait (s.sheetAt n) p r) p.pen hpp z15 HXz15.out.wr (by omega)
      go_wp2_with (refine wpList_load_mid rfl 80 (.tmp 31) rfl w.heap.size 3 rfl (penV p.pen) _ (XS _ HGz15.out) Tryz.underlying80 rfl info47 ?_)
      refine l9.mono ?_
      rintro e z17 ⟨rfl, h9, k9⟩
      have HXz17 : Hid (Wr z17 wb L s (((x).toWait (s.sheetAt n) p r).turn p.pen)) := HXz15.out.step k9 h9
      have HGz17 : Hid (z17.heap[w.heap.size]? = some (.cells (spotV p).toArray 82 (0, 0))) := k9.at HGz15.out (by omega) (by decide)
      have HKz17 : Hid (Wk wb w z17) := HKz15.out.trans k9
      have n18 := turn_len ((x).toWait (s.sheetAt n) p r) p.pen
      clear h9 k9 HXz15 HGz15 HKz15
      rcases hf with hf | hf
      · have q_first := (XC z17 HGz17.out).2.2.2.1
        rw [hf] at q_first
        rcases hs with hs | hs
        · have q_second := (XC z17 HGz17.out).2.2.2.2.1
          rw [hs] at q_second
          rcases hu with hu | hu
          · have q_use := (XC z17 HGz17.out).2.2.2.2.2.1
            rw [hu] at q_use
            go_wp2_with fail
            go_end0
            have he : x.toSpot (s.sheetAt n) p top = ((x).toWait (s.sheetAt n) p r).turn p.pen := by
              unfold WS.toSpot WS.to1 WS.to2 WS.to4 WS.to5 WS.to6
              rw [HRR.out, ho, hw, hf, hs, hu]
              rfl
            exact ⟨rfl, by rw [he]; exact HXz17.out.wr, HKz17.out⟩
          · have q_use := (XC z17 HGz17.out).2.2.2.2.2.1
            rw [hu] at q_use
            have l9 := writeString_any wb L.tb (((x).toWait (s.sheetAt n) p r).turn p.pen) { data := #[14] } z17 HXz17.out.wr (by omega) (by decide)
            rw [bl_st _ (show bl ({ data := #[14] } : ByteArray) = [14] by rfl)] at l9
            go_wp2_with fail
            refine l9.mono ?_
            rintro e z19 ⟨⟨v9, rfl⟩, h9, k9⟩
            have HXz19 : Hid (Wr z19 wb L s ((((x).toWait (s.sheetAt n) p r).turn p.pen).put [14])) := HXz17.out.step k9 h9
            have HGz19 : Hid (z19.heap[w.heap.size]? = some (.cells (spotV p).toArray 82 (0, 0))) := k9.at HGz17.out (by omega) (by decide)
            have HKz19 : Hid (Wk wb w z19) := HKz17.out.trans k9

            clear h9 k9 HXz17 HGz17 HKz17
            go_wp2_with fail
            go_end0
            have he : x.toSpot (s.sheetAt n) p top = (((x).toWait (s.sheetAt n) p r).turn p.pen).put [14] := by
              unfold WS.toSpot WS.to1 WS.to2 WS.to4 WS.to5 WS.to6
              rw [HRR.out, ho, hw, hf, hs, hu]
              rfl
            exact ⟨rfl, by rw [he]; exact HXz19.out.wr, HKz19.out⟩
        · have q_second := (XC z17 HGz17.out).2.2.2.2.1
          rw [hs] at q_second
          have l9 := writeString_any wb L.tb (((x).toWait (s.sheetAt n) p r).turn p.pen) { data := #[27, 41, 48] } z17 HXz17.out.wr (by omega) (by decide)
          rw [bl_st _ (show bl ({ data := #[27, 41, 48] } : ByteArray) = [27, 41, 48] by rfl)] at l9
          go_wp2_with fail
          refine l9.mono ?_
          rintro e z20 ⟨⟨v9, rfl⟩, h9, k9⟩
          have HXz20 : Hid (Wr z20 wb L s ((((x).toWait (s.sheetAt n) p r).turn p.pen).put [27, 41, 48])) := HXz17.out.step k9 h9
          have HGz20 : Hid (z20.heap[w.heap.size]? = some (.cells (spotV p).toArray 82 (0, 0))) := k9.at HGz17.out (by omega) (by decide)
          have HKz20 : Hid (Wk wb w z20) := HKz17.out.trans k9
          have n21 := put_len (((x).toWait (s.sheetAt n) p r).turn p.pen) [27, 41, 48]
          simp only [List.length_cons, List.length_nil] at n21
          clear h9 k9 HXz17 HGz17 HKz17
          rcases hu with hu | hu
          · have q_use := (XC z20 HGz20.out).2.2.2.2.2.1
            rw [hu] at q_use
            go_wp2_with fail
            go_end0
            have he : x.toSpot (s.sheetAt n) p top = (((x).toWait (s.sheetAt n) p r).turn p.pen).put [27, 41, 48] := by
              unfold WS.toSpot WS.to1 WS.to2 WS.to4 WS.to5 WS.to6
              rw [HRR.out, ho, hw, hf, hs, hu]
              rfl
            exact ⟨rfl, by rw [he]; exact HXz20.out.wr, HKz20.out⟩
          · have q_use := (XC z20 HGz20.out).2.2.2.2.2.1
            rw [hu] at q_use
            have l9 := writeString_any wb L.tb ((((x).toWait (s.sheetAt n) p r).turn p.pen).put [27, 41, 48]) { data := #[14] } z20 HXz20.out.wr (by omega) (by decide)
            rw [bl_st _ (show bl ({ data := #[14] } : ByteArray) = [14] by rfl)] at l9
            go_wp2_with fail
            refine l9.mono ?_
            rintro e z22 ⟨⟨v9, rfl⟩, h9, k9⟩
            have HXz22 : Hid (Wr z22 wb L s (((((x).toWait (s.sheetAt n) p r).turn p.pen).put [27, 41, 48]).put [14])) := HXz20.out.step k9 h9
            have HGz22 : Hid (z22.heap[w.heap.size]? = some (.cells (spotV p).toArray 82 (0, 0))) := k9.at HGz20.out (by omega) (by decide)
            have HKz22 : Hid (Wk wb w z22) := HKz20.out.trans k9

            clear h9 k9 HXz20 HGz20 HKz20
            go_wp2_with fail
            go_end0
            have he : x.toSpot (s.sheetAt n) p top = ((((x).toWait (s.sheetAt n) p r).turn p.pen).put [27, 41, 48]).put [14] := by
              unfold WS.toSpot WS.to1 WS.to2 WS.to4 WS.to5 WS.to6
              rw [HRR.out, ho, hw, hf, hs, hu]
              rfl
            exact ⟨rfl, by rw [he]; exact HXz22.out.wr, HKz22.out⟩
      · have q_first := (XC z17 HGz17.out).2.2.2.1
        rw [hf] at q_first
        have l9 := writeString_any wb L.tb (((x).toWait (s.sheetAt n) p r).turn p.pen) { data := #[27, 40, 48] } z17 HXz17.out.wr (by omega) (by decide)
        rw [bl_st _ (show bl ({ data := #[27, 40, 48] } : ByteArray) = [27, 40, 48] by rfl)] at l9
        go_wp2_with fail
        refine l9.mono ?_
        rintro e z23 ⟨⟨v9, rfl⟩, h9, k9⟩
        have HXz23 : Hid (Wr z23 wb L s ((((x).toWait (s.sheetAt n) p r).turn p.pen).put [27, 40, 48])) := HXz17.out.step k9 h9
        have HGz23 : Hid (z23.heap[w.heap.size]? = some (.cells (spotV p).toArray 82 (0, 0))) := k9.at HGz17.out (by omega) (by decide)
        have HKz23 : Hid (Wk wb w z23) := HKz17.out.trans k9
        have n24 := put_len (((x).toWait (s.sheetAt n) p r).turn p.pen) [27, 40, 48]
        simp only [List.length_cons, List.length_nil] at n24
        clear h9 k9 HXz17 HGz17 HKz17
        rcases hs with hs | hs
        · have q_second := (XC z23 HGz23.out).2.2.2.2.1
          rw [hs] at q_second
          rcases hu with hu | hu
          · have q_use := (XC z23 HGz23.out).2.2.2.2.2.1
            rw [hu] at q_use
            go_wp2_with fail
            go_end0
            have he : x.toSpot (s.sheetAt n) p top = (((x).toWait (s.sheetAt n) p r).turn p.pen).put [27, 40, 48] := by
              unfold WS.toSpot WS.to1 WS.to2 WS.to4 WS.to5 WS.to6
              rw [HRR.out, ho, hw, hf, hs, hu]
              rfl
            exact ⟨rfl, by rw [he]; exact HXz23.out.wr, HKz23.out⟩
          · have q_use := (XC z23 HGz23.out).2.2.2.2.2.1
            rw [hu] at q_use
            have l9 := writeString_any wb L.tb ((((x).toWait (s.sheetAt n) p r).turn p.pen).put [27, 40, 48]) { data := #[14] } z23 HXz23.out.wr (by omega) (by decide)
            rw [bl_st _ (show bl ({ data := #[14] } : ByteArray) = [14] by rfl)] at l9
            go_wp2_with fail
            refine l9.mono ?_
            rintro e z25 ⟨⟨v9, rfl⟩, h9, k9⟩
            have HXz25 : Hid (Wr z25 wb L s (((((x).toWait (s.sheetAt n) p r).turn p.pen).put [27, 40, 48]).put [14])) := HXz23.out.step k9 h9
            have HGz25 : Hid (z25.heap[w.heap.size]? = some (.cells (spotV p).toArray 82 (0, 0))) := k9.at HGz23.out (by omega) (by decide)
            have HKz25 : Hid (Wk wb w z25) := HKz23.out.trans k9

            clear h9 k9 HXz23 HGz23 HKz23
            go_wp2_with fail
            go_end0
            have he : x.toSpot (s.sheetAt n) p top = ((((x).toWait (s.sheetAt n) p r).turn p.pen).put [27, 40, 48]).put [14] := by
              unfold WS.toSpot WS.to1 WS.to2 WS.to4 WS.to5 WS.to6
              rw [HRR.out, ho, hw, hf, hs, hu]
              rfl
            exact ⟨rfl, by rw [he]; exact HXz25.out.wr, HKz25.out⟩
        · have q_second := (XC z23 HGz23.out).2.2.2.2.1
          rw [hs] at q_second
          have l9 := writeString_any wb L.tb ((((x).toWait (s.sheetAt n) p r).turn p.pen).put [27, 40, 48]) { data := #[27, 41, 48] } z23 HXz23.out.wr (by omega) (by decide)
          rw [bl_st _ (show bl ({ data := #[27, 41, 48] } : ByteArray) = [27, 41, 48] by rfl)] at l9
          go_wp2_with fail
          refine l9.mono ?_
          rintro e z26 ⟨⟨v9, rfl⟩, h9, k9⟩
          have HXz26 : Hid (Wr z26 wb L s (((((x).toWait (s.sheetAt n) p r).turn p.pen).put [27, 40, 48]).put [27, 41, 48])) := HXz23.out.step k9 h9
          have HGz26 : Hid (z26.heap[w.heap.size]? = some (.cells (spotV p).toArray 82 (0, 0))) := k9.at HGz23.out (by omega) (by decide)
          have HKz26 : Hid (Wk wb w z26) := HKz23.out.trans k9
          have n27 := put_len ((((x).toWait (s.sheetAt n) p r).turn p.pen).put [27, 40, 48]) [27, 41, 48]
          simp only [List.length_cons, List.length_nil] at n27
          clear h9 k9 HXz23 HGz23 HKz23
          rcases hu with hu | hu
          · have q_use := (XC z26 HGz26.out).2.2.2.2.2.1
            rw [hu] at q_use
            go_wp2_with fail
            go_end0
            have he : x.toSpot (s.sheetAt n) p top = ((((x).toWait (s.sheetAt n) p r).turn p.pen).put [27, 40, 48]).put [27, 41, 48] := by
              unfold WS.toSpot WS.to1 WS.to2 WS.to4 WS.to5 WS.to6
              rw [HRR.out, ho, hw, hf, hs, hu]
              rfl
            exact ⟨rfl, by rw [he]; exact HXz26.out.wr, HKz26.out⟩
          · have q_use := (XC z26 HGz26.out).2.2.2.2.2.1
            rw [hu] at q_use
            have l9 := writeString_any wb L.tb (((((x).toWait (s.sheetAt n) p r).turn p.pen).put [27, 40, 48]).put [27, 41, 48]) { data := #[14] } z26 HXz26.out.wr (by omega) (by decide)
            rw [bl_st _ (show bl ({ data := #[14] } : ByteArray) = [14] by rfl)] at l9
            go_wp2_with fail
            refine l9.mono ?_
            rintro e z28 ⟨⟨v9, rfl⟩, h9, k9⟩
            have HXz28 : Hid (Wr z28 wb L s ((((((x).toWait (s.sheetAt n) p r).turn p.pen).put [27, 40, 48]).put [27, 41, 48]).put [14])) := HXz26.out.step k9 h9
            have HGz28 : Hid (z28.heap[w.heap.size]? = some (.cells (spotV p).toArray 82 (0, 0))) := k9.at HGz26.out (by omega) (by decide)
            have HKz28 : Hid (Wk wb w z28) := HKz26.out.trans k9

            clear h9 k9 HXz26 HGz26 HKz26
            go_wp2_with fail
            go_end0
            have he : x.toSpot (s.sheetAt n) p top = (((((x).toWait (s.sheetAt n) p r).turn p.pen).put [27, 40, 48]).put [27, 41, 48]).put [14] := by
              unfold WS.toSpot WS.to1 WS.to2 WS.to4 WS.to5 WS.to6
              rw [HRR.out, ho, hw, hf, hs, hu]
              rfl
            exact ⟨rfl, by rw [he]; exact HXz28.out.wr, HKz28.out⟩
  | true =>
    have hri : (pr : Int) - top = (r : Int) := by have := HRR.out; rw [ho] at this; rw [← this, ← HP1.out]; rfl
    have vr : IntKind.i64.wrap ((pr : Int) - top) = (r : Int) := by rw [hri]; exact IntWalk.i64_in _ (by omega)
    rw [ho] at i2
    have l9 := sequence_wr wb L.tb x { data := #[63, 54, 104] } W HX0.out.wr (by omega) (by decide)
    rw [show bl ({ data := #[63, 54, 104] } : ByteArray) = [63, 54, 104] by rfl, HW.out] at l9
    go_wp2_with fail
    refine l9.mono ?_
    rintro e z29 ⟨rfl, h9, k9⟩
    rw [← HW.out] at k9
    have HXz29 : Hid (Wr z29 wb L s (x.seq [63, 54, 104])) := HX0.out.step k9 h9
    have HGz29 : Hid (z29.heap[w.heap.size]? = some (.cells (spotV p).toArray 82 (0, 0))) := k9.at HG0.out (by omega) (by decide)
    have HKz29 : Hid (Wk wb w z29) := HK0.out.trans k9
    have n30 := seq_len x [63, 54, 104]
    simp only [List.length_cons, List.length_nil] at n30
    clear h9 k9 HX0 HG0 HK0
    cases hw : p.waits with
    | false =>
      have q_waits := (XC z29 HGz29.out).2.2.1
      rw [hw] at q_waits
      have q_col := (XC z29 HGz29.out).2.1
      rw [HP2.out] at q_col
      have l9 := place_wr wb L.tb (x.seq [63, 54, 104]) r pc (by omega) (by omega) z29 HXz29.out.wr (by omega)
      go_wp2_with fail
      refine l9.mono ?_
      rintro e z31 ⟨rfl, h9, k9⟩
      have HXz31 : Hid (Wr z31 wb L s ((x.seq [63, 54, 104]).place r pc)) := HXz29.out.step k9 h9
      have HGz31 : Hid (z31.heap[w.heap.size]? = some (.cells (spotV p).toArray 82 (0, 0))) := k9.at HGz29.out (by omega) (by decide)
      have HKz31 : Hid (Wk wb w z31) := HKz29.out.trans k9
      have n32 := place_len (x.seq [63, 54, 104]) r pc
      clear h9 k9 HXz29 HGz29 HKz29
      have l9 := turn_wr wb L.tb ((x.seq [63, 54, 104]).place r pc) p.pen hpp z31 HXz31.out.wr (by omega)
      go_wp2_with (refine wpList_load_mid rfl 80 (.tmp 31) rfl w.heap.size 3 rfl (penV p.pen) _ (XS _ HGz31.out) Tryz.underlying80 rfl info47 ?_)
      refine l9.mono ?_
      rintro e z33 ⟨rfl, h9, k9⟩
      have HXz33 : Hid (Wr z33 wb L s (((x.seq [63, 54, 104]).place r pc).turn p.pen)) := HXz31.out.step k9 h9
      have HGz33 : Hid (z33.heap[w.heap.size]? = some (.cells (spotV p).toArray 82 (0, 0))) := k9.at HGz31.out (by omega) (by decide)
      have HKz33 : Hid (Wk wb w z33) := HKz31.out.trans k9
      have n34 := turn_len ((x.seq [63, 54, 104]).place r pc) p.pen
      clear h9 k9 HXz31 HGz31 HKz31
      rcases hf with hf | hf
      · have q_first := (XC z33 HGz33.out).2.2.2.1
        rw [hf] at q_first
        rcases hs with hs | hs
        · have q_second := (XC z33 HGz33.out).2.2.2.2.1
          rw [hs] at q_second
          rcases hu with hu | hu
          · have q_use := (XC z33 HGz33.out).2.2.2.2.2.1
            rw [hu] at q_use
            go_wp2_with fail
            go_end0
            have he : x.toSpot (s.sheetAt n) p top = ((x.seq [63, 54, 104]).place r pc).turn p.pen := by
              unfold WS.toSpot WS.to1 WS.to2 WS.to4 WS.to5 WS.to6
              rw [HRR.out, ho, hw, hf, hs, hu, HP2.out]
              rfl
            exact ⟨rfl, by rw [he]; exact HXz33.out.wr, HKz33.out⟩
          · have q_use := (XC z33 HGz33.out).2.2.2.2.2.1
            rw [hu] at q_use
            have l9 := writeString_any wb L.tb (((x.seq [63, 54, 104]).place r pc).turn p.pen) { data := #[14] } z33 HXz33.out.wr (by omega) (by decide)
            rw [bl_st _ (show bl ({ data := #[14] } : ByteArray) = [14] by rfl)] at l9
            go_wp2_with fail
            refine l9.mono ?_
            rintro e z35 ⟨⟨v9, rfl⟩, h9, k9⟩
            have HXz35 : Hid (Wr z35 wb L s ((((x.seq [63, 54, 104]).place r pc).turn p.pen).put [14])) := HXz33.out.step k9 h9
            have HGz35 : Hid (z35.heap[w.heap.size]? = some (.cells (spotV p).toArray 82 (0, 0))) := k9.at HGz33.out (by omega) (by decide)
            have HKz35 : Hid (Wk wb w z35) := HKz33.out.trans k9

            clear h9 k9 HXz33 HGz33 HKz33
            go_wp2_with fail
            go_end0
            have he : x.toSpot (s.sheetAt n) p top = (((x.seq [63, 54, 104]).place r pc).turn p.pen).put [14] := by
              unfold WS.toSpot WS.to1 WS.to2 WS.to4 WS.to5 WS.to6
              rw [HRR.out, ho, hw, hf, hs, hu, HP2.out]
              rfl
            exact ⟨rfl, by rw [he]; exact HXz35.out.wr, HKz35.out⟩
        · have q_second := (XC z33 HGz33.out).2.2.2.2.1
          rw [hs] at q_second
          have l9 := writeString_any wb L.tb (((x.seq [63, 54, 104]).place r pc).turn p.pen) { data := #[27, 41, 48] } z33 HXz33.out.wr (by omega) (by decide)
          rw [bl_st _ (show bl ({ data := #[27, 41, 48] } : ByteArray) = [27, 41, 48] by rfl)] at l9
          go_wp2_with fail
          refine l9.mono ?_
          rintro e z36 ⟨⟨v9, rfl⟩, h9, k9⟩
          have HXz36 : Hid (Wr z36 wb L s ((((x.seq [63, 54, 104]).place r pc).turn p.pen).put [27, 41, 48])) := HXz33.out.step k9 h9
          have HGz36 : Hid (z36.heap[w.heap.size]? = some (.cells (spotV p).toArray 82 (0, 0))) := k9.at HGz33.out (by omega) (by decide)
          have HKz36 : Hid (Wk wb w z36) := HKz33.out.trans k9
          have n37 := put_len (((x.seq [63, 54, 104]).place r pc).turn p.pen) [27, 41, 48]
          simp only [List.length_cons, List.length_nil] at n37
          clear h9 k9 HXz33 HGz33 HKz33
          rcases hu with hu | hu
          · have q_use := (XC z36 HGz36.out).2.2.2.2.2.1
            rw [hu] at q_use
            go_wp2_with fail
            go_end0
            have he : x.toSpot (s.sheetAt n) p top = (((x.seq [63, 54, 104]).place r pc).turn p.pen).put [27, 41, 48] := by
              unfold WS.toSpot WS.to1 WS.to2 WS.to4 WS.to5 WS.to6
              rw [HRR.out, ho, hw, hf, hs, hu, HP2.out]
              rfl
            exact ⟨rfl, by rw [he]; exact HXz36.out.wr, HKz36.out⟩
          · have q_use := (XC z36 HGz36.out).2.2.2.2.2.1
            rw [hu] at q_use
            have l9 := writeString_any wb L.tb ((((x.seq [63, 54, 104]).place r pc).turn p.pen).put [27, 41, 48]) { data := #[14] } z36 HXz36.out.wr (by omega) (by decide)
            rw [bl_st _ (show bl ({ data := #[14] } : ByteArray) = [14] by rfl)] at l9
            go_wp2_with fail
            refine l9.mono ?_
            rintro e z38 ⟨⟨v9, rfl⟩, h9, k9⟩
            have HXz38 : Hid (Wr z38 wb L s (((((x.seq [63, 54, 104]).place r pc).turn p.pen).put [27, 41, 48]).put [14])) := HXz36.out.step k9 h9
            have HGz38 : Hid (z38.heap[w.heap.size]? = some (.cells (spotV p).toArray 82 (0, 0))) := k9.at HGz36.out (by omega) (by decide)
            have HKz38 : Hid (Wk wb w z38) := HKz36.out.trans k9

            clear h9 k9 HXz36 HGz36 HKz36
            go_wp2_with fail
            go_end0
            have he : x.toSpot (s.sheetAt n) p top = ((((x.seq [63, 54, 104]).place r pc).turn p.pen).put [27, 41, 48]).put [14] := by
              unfold WS.toSpot WS.to1 WS.to2 WS.to4 WS.to5 WS.to6
              rw [HRR.out, ho, hw, hf, hs, hu, HP2.out]
              rfl
            exact ⟨rfl, by rw [he]; exact HXz38.out.wr, HKz38.out⟩
      · have q_first := (XC z33 HGz33.out).2.2.2.1
        rw [hf] at q_first
        have l9 := writeString_any wb L.tb (((x.seq [63, 54, 104]).place r pc).turn p.pen) { data := #[27, 40, 48] } z33 HXz33.out.wr (by omega) (by decide)
        rw [bl_st _ (show bl ({ data := #[27, 40, 48] } : ByteArray) = [27, 40, 48] by rfl)] at l9
        go_wp2_with fail
        refine l9.mono ?_
        rintro e z39 ⟨⟨v9, rfl⟩, h9, k9⟩
        have HXz39 : Hid (Wr z39 wb L s ((((x.seq [63, 54, 104]).place r pc).turn p.pen).put [27, 40, 48])) := HXz33.out.step k9 h9
        have HGz39 : Hid (z39.heap[w.heap.size]? = some (.cells (spotV p).toArray 82 (0, 0))) := k9.at HGz33.out (by omega) (by decide)
        have HKz39 : Hid (Wk wb w z39) := HKz33.out.trans k9
        have n40 := put_len (((x.seq [63, 54, 104]).place r pc).turn p.pen) [27, 40, 48]
        simp only [List.length_cons, List.length_nil] at n40
        clear h9 k9 HXz33 HGz33 HKz33
        rcases hs with hs | hs
        · have q_second := (XC z39 HGz39.out).2.2.2.2.1
          rw [hs] at q_second
          rcases hu with hu | hu
          · have q_use := (XC z39 HGz39.out).2.2.2.2.2.1
            rw [hu] at q_use
            go_wp2_with fail
            go_end0
            have he : x.toSpot (s.sheetAt n) p top = (((x.seq [63, 54, 104]).place r pc).turn p.pen).put [27, 40, 48] := by
              unfold WS.toSpot WS.to1 WS.to2 WS.to4 WS.to5 WS.to6
              rw [HRR.out, ho, hw, hf, hs, hu, HP2.out]
              rfl
            exact ⟨rfl, by rw [he]; exact HXz39.out.wr, HKz39.out⟩
          · have q_use := (XC z39 HGz39.out).2.2.2.2.2.1
            rw [hu] at q_use
            have l9 := writeString_any wb L.tb ((((x.seq [63, 54, 104]).place r pc).turn p.pen).put [27, 40, 48]) { data := #[14] } z39 HXz39.out.wr (by omega) (by decide)
            rw [bl_st _ (show bl ({ data := #[14] } : ByteArray) = [14] by rfl)] at l9
            go_wp2_with fail
            refine l9.mono ?_
            rintro e z41 ⟨⟨v9, rfl⟩, h9, k9⟩
            have HXz41 : Hid (Wr z41 wb L s (((((x.seq [63, 54, 104]).place r pc).turn p.pen).put [27, 40, 48]).put [14])) := HXz39.out.step k9 h9
            have HGz41 : Hid (z41.heap[w.heap.size]? = some (.cells (spotV p).toArray 82 (0, 0))) := k9.at HGz39.out (by omega) (by decide)
            have HKz41 : Hid (Wk wb w z41) := HKz39.out.trans k9

            clear h9 k9 HXz39 HGz39 HKz39
            go_wp2_with fail
            go_end0
            have he : x.toSpot (s.sheetAt n) p top = ((((x.seq [63, 54, 104]).place r pc).turn p.pen).put [27, 40, 48]).put [14] := by
              unfold WS.toSpot WS.to1 WS.to2 WS.to4 WS.to5 WS.to6
              rw [HRR.out, ho, hw, hf, hs, hu, HP2.out]
              rfl
            exact ⟨rfl, by rw [he]; exact HXz41.out.wr, HKz41.out⟩
        · have q_second := (XC z39 HGz39.out).2.2.2.2.1
          rw [hs] at q_second
          have l9 := writeString_any wb L.tb ((((x.seq [63, 54, 104]).place r pc).turn p.pen).put [27, 40, 48]) { data := #[27, 41, 48] } z39 HXz39.out.wr (by omega) (by decide)
          rw [bl_st _ (show bl ({ data := #[27, 41, 48] } : ByteArray) = [27, 41, 48] by rfl)] at l9
          go_wp2_with fail
          refine l9.mono ?_
          rintro e z42 ⟨⟨v9, rfl⟩, h9, k9⟩
          have HXz42 : Hid (Wr z42 wb L s (((((x.seq [63, 54, 104]).place r pc).turn p.pen).put [27, 40, 48]).put [27, 41, 48])) := HXz39.out.step k9 h9
          have HGz42 : Hid (z42.heap[w.heap.size]? = some (.cells (spotV p).toArray 82 (0, 0))) := k9.at HGz39.out (by omega) (by decide)
          have HKz42 : Hid (Wk wb w z42) := HKz39.out.trans k9
          have n43 := put_len ((((x.seq [63, 54, 104]).place r pc).turn p.pen).put [27, 40, 48]) [27, 41, 48]
          simp only [List.length_cons, List.length_nil] at n43
          clear h9 k9 HXz39 HGz39 HKz39
          rcases hu with hu | hu
          · have q_use := (XC z42 HGz42.out).2.2.2.2.2.1
            rw [hu] at q_use
            go_wp2_with fail
            go_end0
            have he : x.toSpot (s.sheetAt n) p top = ((((x.seq [63, 54, 104]).place r pc).turn p.pen).put [27, 40, 48]).put [27, 41, 48] := by
              unfold WS.toSpot WS.to1 WS.to2 WS.to4 WS.to5 WS.to6
              rw [HRR.out, ho, hw, hf, hs, hu, HP2.out]
              rfl
            exact ⟨rfl, by rw [he]; exact HXz42.out.wr, HKz42.out⟩
          · have q_use := (XC z42 HGz42.out).2.2.2.2.2.1
            rw [hu] at q_use
            have l9 := writeString_any wb L.tb (((((x.seq [63, 54, 104]).place r pc).turn p.pen).put [27, 40, 48]).put [27, 41, 48]) { data := #[14] } z42 HXz42.out.wr (by omega) (by decide)
            rw [bl_st _ (show bl ({ data := #[14] } : ByteArray) = [14] by rfl)] at l9
            go_wp2_with fail
            refine l9.mono ?_
            rintro e z44 ⟨⟨v9, rfl⟩, h9, k9⟩
            have HXz44 : Hid (Wr z44 wb L s ((((((x.seq [63, 54, 104]).place r pc).turn p.pen).put [27, 40, 48]).put [27, 41, 48]).put [14])) := HXz42.out.step k9 h9
            have HGz44 : Hid (z44.heap[w.heap.size]? = some (.cells (spotV p).toArray 82 (0, 0))) := k9.at HGz42.out (by omega) (by decide)
            have HKz44 : Hid (Wk wb w z44) := HKz42.out.trans k9

            clear h9 k9 HXz42 HGz42 HKz42
            go_wp2_with fail
            go_end0
            have he : x.toSpot (s.sheetAt n) p top = (((((x.seq [63, 54, 104]).place r pc).turn p.pen).put [27, 40, 48]).put [27, 41, 48]).put [14] := by
              unfold WS.toSpot WS.to1 WS.to2 WS.to4 WS.to5 WS.to6
              rw [HRR.out, ho, hw, hf, hs, hu, HP2.out]
              rfl
            exact ⟨rfl, by rw [he]; exact HXz44.out.wr, HKz44.out⟩
    | true =>
      have q_waits := (XC z29 HGz29.out).2.2.1
      rw [hw] at q_waits
      have q_col := (XC z29 HGz29.out).2.1
      rw [HP2.out] at q_col
      have l9 := toWait_wr wb L s HI.out HO.out n pr pc r hn hpr hpc hr p HP1.out HP2.out (x.seq [63, 54, 104]) z29 HXz29.out (by omega)
      go_wp2_with (refine wpList_load_row rfl 82 (.tmp 6) rfl w.heap.size rfl 82 _ (0, 0) _ HGz29.out Tryz.underlying82 rfl info54s ?_)
      refine l9.mono ?_
      rintro e z45 ⟨rfl, h9, k9⟩
      have HXz45 : Hid (Wr z45 wb L s ((x.seq [63, 54, 104]).toWait (s.sheetAt n) p r)) := HXz29.out.step k9 h9
      have HGz45 : Hid (z45.heap[w.heap.size]? = some (.cells (spotV p).toArray 82 (0, 0))) := k9.at HGz29.out (by omega) (by decide)
      have HKz45 : Hid (Wk wb w z45) := HKz29.out.trans k9
      have n46 := toWait_len (x.seq [63, 54, 104]) (s.sheetAt n) p r
      clear h9 k9 HXz29 HGz29 HKz29
      have l9 := turn_wr wb L.tb ((x.seq [63, 54, 104]).toWait (s.sheetAt n) p r) p.pen hpp z45 HXz45.out.wr (by omega)
      go_wp2_with (refine wpList_load_mid rfl 80 (.tmp 31) rfl w.heap.size 3 rfl (penV p.pen) _ (XS _ HGz45.out) Tryz.underlying80 rfl info47 ?_)
      refine l9.mono ?_
      rintro e z47 ⟨rfl, h9, k9⟩
      have HXz47 : Hid (Wr z47 wb L s (((x.seq [63, 54, 104]).toWait (s.sheetAt n) p r).turn p.pen)) := HXz45.out.step k9 h9
      have HGz47 : Hid (z47.heap[w.heap.size]? = some (.cells (spotV p).toArray 82 (0, 0))) := k9.at HGz45.out (by omega) (by decide)
      have HKz47 : Hid (Wk wb w z47) := HKz45.out.trans k9
      have n48 := turn_len ((x.seq [63, 54, 104]).toWait (s.sheetAt n) p r) p.pen
      clear h9 k9 HXz45 HGz45 HKz45
      rcases hf with hf | hf
      · have q_first := (XC z47 HGz47.out).2.2.2.1
        rw [hf] at q_first
        rcases hs with hs | hs
        · have q_second := (XC z47 HGz47.out).2.2.2.2.1
          rw [hs] at q_second
          rcases hu with hu | hu
          · have q_use := (XC z47 HGz47.out).2.2.2.2.2.1
            rw [hu] at q_use
            go_wp2_with fail
            go_end0
            have he : x.toSpot (s.sheetAt n) p top = ((x.seq [63, 54, 104]).toWait (s.sheetAt n) p r).turn p.pen := by
              unfold WS.toSpot WS.to1 WS.to2 WS.to4 WS.to5 WS.to6
              rw [HRR.out, ho, hw, hf, hs, hu]
              rfl
            exact ⟨rfl, by rw [he]; exact HXz47.out.wr, HKz47.out⟩
          · have q_use := (XC z47 HGz47.out).2.2.2.2.2.1
            rw [hu] at q_use
            have l9 := writeString_any wb L.tb (((x.seq [63, 54, 104]).toWait (s.sheetAt n) p r).turn p.pen) { data := #[14] } z47 HXz47.out.wr (by omega) (by decide)
            rw [bl_st _ (show bl ({ data := #[14] } : ByteArray) = [14] by rfl)] at l9
            go_wp2_with fail
            refine l9.mono ?_
            rintro e z49 ⟨⟨v9, rfl⟩, h9, k9⟩
            have HXz49 : Hid (Wr z49 wb L s ((((x.seq [63, 54, 104]).toWait (s.sheetAt n) p r).turn p.pen).put [14])) := HXz47.out.step k9 h9
            have HGz49 : Hid (z49.heap[w.heap.size]? = some (.cells (spotV p).toArray 82 (0, 0))) := k9.at HGz47.out (by omega) (by decide)
            have HKz49 : Hid (Wk wb w z49) := HKz47.out.trans k9

            clear h9 k9 HXz47 HGz47 HKz47
            go_wp2_with fail
            go_end0
            have he : x.toSpot (s.sheetAt n) p top = (((x.seq [63, 54, 104]).toWait (s.sheetAt n) p r).turn p.pen).put [14] := by
              unfold WS.toSpot WS.to1 WS.to2 WS.to4 WS.to5 WS.to6
              rw [HRR.out, ho, hw, hf, hs, hu]
              rfl
            exact ⟨rfl, by rw [he]; exact HXz49.out.wr, HKz49.out⟩
        · have q_second := (XC z47 HGz47.out).2.2.2.2.1
          rw [hs] at q_second
          have l9 := writeString_any wb L.tb (((x.seq [63, 54, 104]).toWait (s.sheetAt n) p r).turn p.pen) { data := #[27, 41, 48] } z47 HXz47.out.wr (by omega) (by decide)
          rw [bl_st _ (show bl ({ data := #[27, 41, 48] } : ByteArray) = [27, 41, 48] by rfl)] at l9
          go_wp2_with fail
          refine l9.mono ?_
          rintro e z50 ⟨⟨v9, rfl⟩, h9, k9⟩
          have HXz50 : Hid (Wr z50 wb L s ((((x.seq [63, 54, 104]).toWait (s.sheetAt n) p r).turn p.pen).put [27, 41, 48])) := HXz47.out.step k9 h9
          have HGz50 : Hid (z50.heap[w.heap.size]? = some (.cells (spotV p).toArray 82 (0, 0))) := k9.at HGz47.out (by omega) (by decide)
          have HKz50 : Hid (Wk wb w z50) := HKz47.out.trans k9
          have n51 := put_len (((x.seq [63, 54, 104]).toWait (s.sheetAt n) p r).turn p.pen) [27, 41, 48]
          simp only [List.length_cons, List.length_nil] at n51
          clear h9 k9 HXz47 HGz47 HKz47
          rcases hu with hu | hu
          · have q_use := (XC z50 HGz50.out).2.2.2.2.2.1
            rw [hu] at q_use
            go_wp2_with fail
            go_end0
            have he : x.toSpot (s.sheetAt n) p top = (((x.seq [63, 54, 104]).toWait (s.sheetAt n) p r).turn p.pen).put [27, 41, 48] := by
              unfold WS.toSpot WS.to1 WS.to2 WS.to4 WS.to5 WS.to6
              rw [HRR.out, ho, hw, hf, hs, hu]
              rfl
            exact ⟨rfl, by rw [he]; exact HXz50.out.wr, HKz50.out⟩
          · have q_use := (XC z50 HGz50.out).2.2.2.2.2.1
            rw [hu] at q_use
            have l9 := writeString_any wb L.tb ((((x.seq [63, 54, 104]).toWait (s.sheetAt n) p r).turn p.pen).put [27, 41, 48]) { data := #[14] } z50 HXz50.out.wr (by omega) (by decide)
            rw [bl_st _ (show bl ({ data := #[14] } : ByteArray) = [14] by rfl)] at l9
            go_wp2_with fail
            refine l9.mono ?_
            rintro e z52 ⟨⟨v9, rfl⟩, h9, k9⟩
            have HXz52 : Hid (Wr z52 wb L s (((((x.seq [63, 54, 104]).toWait (s.sheetAt n) p r).turn p.pen).put [27, 41, 48]).put [14])) := HXz50.out.step k9 h9
            have HGz52 : Hid (z52.heap[w.heap.size]? = some (.cells (spotV p).toArray 82 (0, 0))) := k9.at HGz50.out (by omega) (by decide)
            have HKz52 : Hid (Wk wb w z52) := HKz50.out.trans k9

            clear h9 k9 HXz50 HGz50 HKz50
            go_wp2_with fail
            go_end0
            have he : x.toSpot (s.sheetAt n) p top = ((((x.seq [63, 54, 104]).toWait (s.sheetAt n) p r).turn p.pen).put [27, 41, 48]).put [14] := by
              unfold WS.toSpot WS.to1 WS.to2 WS.to4 WS.to5 WS.to6
              rw [HRR.out, ho, hw, hf, hs, hu]
              rfl
            exact ⟨rfl, by rw [he]; exact HXz52.out.wr, HKz52.out⟩
      · have q_first := (XC z47 HGz47.out).2.2.2.1
        rw [hf] at q_first
        have l9 := writeString_any wb L.tb (((x.seq [63, 54, 104]).toWait (s.sheetAt n) p r).turn p.pen) { data := #[27, 40, 48] } z47 HXz47.out.wr (by omega) (by decide)
        rw [bl_st _ (show bl ({ data := #[27, 40, 48] } : ByteArray) = [27, 40, 48] by rfl)] at l9
        go_wp2_with fail
        refine l9.mono ?_
        rintro e z53 ⟨⟨v9, rfl⟩, h9, k9⟩
        have HXz53 : Hid (Wr z53 wb L s ((((x.seq [63, 54, 104]).toWait (s.sheetAt n) p r).turn p.pen).put [27, 40, 48])) := HXz47.out.step k9 h9
        have HGz53 : Hid (z53.heap[w.heap.size]? = some (.cells (spotV p).toArray 82 (0, 0))) := k9.at HGz47.out (by omega) (by decide)
        have HKz53 : Hid (Wk wb w z53) := HKz47.out.trans k9
        have n54 := put_len (((x.seq [63, 54, 104]).toWait (s.sheetAt n) p r).turn p.pen) [27, 40, 48]
        simp only [List.length_cons, List.length_nil] at n54
        clear h9 k9 HXz47 HGz47 HKz47
        rcases hs with hs | hs
        · have q_second := (XC z53 HGz53.out).2.2.2.2.1
          rw [hs] at q_second
          rcases hu with hu | hu
          · have q_use := (XC z53 HGz53.out).2.2.2.2.2.1
            rw [hu] at q_use
            go_wp2_with fail
            go_end0
            have he : x.toSpot (s.sheetAt n) p top = (((x.seq [63, 54, 104]).toWait (s.sheetAt n) p r).turn p.pen).put [27, 40, 48] := by
              unfold WS.toSpot WS.to1 WS.to2 WS.to4 WS.to5 WS.to6
              rw [HRR.out, ho, hw, hf, hs, hu]
              rfl
            exact ⟨rfl, by rw [he]; exact HXz53.out.wr, HKz53.out⟩
          · have q_use := (XC z53 HGz53.out).2.2.2.2.2.1
            rw [hu] at q_use
            have l9 := writeString_any wb L.tb ((((x.seq [63, 54, 104]).toWait (s.sheetAt n) p r).turn p.pen).put [27, 40, 48]) { data := #[14] } z53 HXz53.out.wr (by omega) (by decide)
            rw [bl_st _ (show bl ({ data := #[14] } : ByteArray) = [14] by rfl)] at l9
            go_wp2_with fail
            refine l9.mono ?_
            rintro e z55 ⟨⟨v9, rfl⟩, h9, k9⟩
            have HXz55 : Hid (Wr z55 wb L s (((((x.seq [63, 54, 104]).toWait (s.sheetAt n) p r).turn p.pen).put [27, 40, 48]).put [14])) := HXz53.out.step k9 h9
            have HGz55 : Hid (z55.heap[w.heap.size]? = some (.cells (spotV p).toArray 82 (0, 0))) := k9.at HGz53.out (by omega) (by decide)
            have HKz55 : Hid (Wk wb w z55) := HKz53.out.trans k9

            clear h9 k9 HXz53 HGz53 HKz53
            go_wp2_with fail
            go_end0
            have he : x.toSpot (s.sheetAt n) p top = ((((x.seq [63, 54, 104]).toWait (s.sheetAt n) p r).turn p.pen).put [27, 40, 48]).put [14] := by
              unfold WS.toSpot WS.to1 WS.to2 WS.to4 WS.to5 WS.to6
              rw [HRR.out, ho, hw, hf, hs, hu]
              rfl
            exact ⟨rfl, by rw [he]; exact HXz55.out.wr, HKz55.out⟩
        · have q_second := (XC z53 HGz53.out).2.2.2.2.1
          rw [hs] at q_second
          have l9 := writeString_any wb L.tb ((((x.seq [63, 54, 104]).toWait (s.sheetAt n) p r).turn p.pen).put [27, 40, 48]) { data := #[27, 41, 48] } z53 HXz53.out.wr (by omega) (by decide)
          rw [bl_st _ (show bl ({ data := #[27, 41, 48] } : ByteArray) = [27, 41, 48] by rfl)] at l9
          go_wp2_with fail
          refine l9.mono ?_
          rintro e z56 ⟨⟨v9, rfl⟩, h9, k9⟩
          have HXz56 : Hid (Wr z56 wb L s (((((x.seq [63, 54, 104]).toWait (s.sheetAt n) p r).turn p.pen).put [27, 40, 48]).put [27, 41, 48])) := HXz53.out.step k9 h9
          have HGz56 : Hid (z56.heap[w.heap.size]? = some (.cells (spotV p).toArray 82 (0, 0))) := k9.at HGz53.out (by omega) (by decide)
          have HKz56 : Hid (Wk wb w z56) := HKz53.out.trans k9
          have n57 := put_len ((((x.seq [63, 54, 104]).toWait (s.sheetAt n) p r).turn p.pen).put [27, 40, 48]) [27, 41, 48]
          simp only [List.length_cons, List.length_nil] at n57
          clear h9 k9 HXz53 HGz53 HKz53
          rcases hu with hu | hu
          · have q_use := (XC z56 HGz56.out).2.2.2.2.2.1
            rw [hu] at q_use
            go_wp2_with fail
            go_end0
            have he : x.toSpot (s.sheetAt n) p top = ((((x.seq [63, 54, 104]).toWait (s.sheetAt n) p r).turn p.pen).put [27, 40, 48]).put [27, 41, 48] := by
              unfold WS.toSpot WS.to1 WS.to2 WS.to4 WS.to5 WS.to6
              rw [HRR.out, ho, hw, hf, hs, hu]
              rfl
            exact ⟨rfl, by rw [he]; exact HXz56.out.wr, HKz56.out⟩
          · have q_use := (XC z56 HGz56.out).2.2.2.2.2.1
            rw [hu] at q_use
            have l9 := writeString_any wb L.tb (((((x.seq [63, 54, 104]).toWait (s.sheetAt n) p r).turn p.pen).put [27, 40, 48]).put [27, 41, 48]) { data := #[14] } z56 HXz56.out.wr (by omega) (by decide)
            rw [bl_st _ (show bl ({ data := #[14] } : ByteArray) = [14] by rfl)] at l9
            go_wp2_with fail
            refine l9.mono ?_
            rintro e z58 ⟨⟨v9, rfl⟩, h9, k9⟩
            have HXz58 : Hid (Wr z58 wb L s ((((((x.seq [63, 54, 104]).toWait (s.sheetAt n) p r).turn p.pen).put [27, 40, 48]).put [27, 41, 48]).put [14])) := HXz56.out.step k9 h9
            have HGz58 : Hid (z58.heap[w.heap.size]? = some (.cells (spotV p).toArray 82 (0, 0))) := k9.at HGz56.out (by omega) (by decide)
            have HKz58 : Hid (Wk wb w z58) := HKz56.out.trans k9

            clear h9 k9 HXz56 HGz56 HKz56
            go_wp2_with fail
            go_end0
            have he : x.toSpot (s.sheetAt n) p top = (((((x.seq [63, 54, 104]).toWait (s.sheetAt n) p r).turn p.pen).put [27, 40, 48]).put [27, 41, 48]).put [14] := by
              unfold WS.toSpot WS.to1 WS.to2 WS.to4 WS.to5 WS.to6
              rw [HRR.out, ho, hw, hf, hs, hu]
              rfl
            exact ⟨rfl, by rw [he]; exact HXz58.out.wr, HKz58.out⟩
end Go.Proofs.YtheibfffilomcaaGreatDoor

/- The walks of takeBack, saved, screen. -/
namespace Go.Proofs.YtheibfffilomcaaGreatDoor
open Go.RowKit

theorem eqSpotG (d : Nat) (p q : SpotS) (w : World) : (Op.equalIn (d + 3) 82 (.agg (spotV p).toArray) (.agg (spotV q).toArray)).run Tryz.prog w = .ok (decide (p = q)) w := by
  have hu : Tryz.prog.underlying 82 = some (.struct (Tryz.prog.fieldsOf 82)) := by kernel_rfl
  have hp : Tryz.prog.stoodInHeld 82 = false := by kernel_rfl
  rw [run_equalIn_struct w (d + 2) 82 _ _ hu hp]
  rw [eq_fields (d + 2) _ _ w _ [(3, 0, p.row == q.row), (3, 1, p.col == q.col), (4, 2, p.waits == q.waits), (80, 3, decide (p.pen = q.pen)), (3, 8, p.first == q.first), (3, 9, p.second == q.second), (3, 10, p.use == q.use), (4, 11, p.origin == q.origin)] (of_decide_eq_true (by kernel_rfl)) (by kernel_rfl) ?_]
  · refine congrArg (fun z => Result.ok z w) ?_
    obtain ⟨a1, a2, a3, a4, a5, a6, a7, a8⟩ := p
    obtain ⟨b1, b2, b3, b4, b5, b6, b7, b8⟩ := q
    simp only [List.all_cons, List.all_nil, SpotS.mk.injEq, Bool.and_true]
    rw [Bool.eq_iff_iff]
    simp
  · intro x hx
    simp only [List.mem_cons, List.not_mem_nil, or_false] at hx
    rcases hx with rfl | rfl | rfl | rfl | rfl | rfl | rfl | rfl
    · exact ⟨_, _, partI _ 0 p.row rfl w, partI _ 0 q.row rfl w, eqI (d + 1) _ _ w⟩
    · exact ⟨_, _, partI _ 1 p.col rfl w, partI _ 1 q.col rfl w, eqI (d + 1) _ _ w⟩
    · exact ⟨_, _, partB _ 2 p.waits rfl w, partB _ 2 q.waits rfl w, eqB (d + 1) _ _ w⟩
    · refine ⟨_, _, part47 _ 3 w, part47 _ 3 w, ?_⟩
      exact eqP d p.pen q.pen w
    · exact ⟨_, _, partI _ 8 p.first rfl w, partI _ 8 q.first rfl w, eqI (d + 1) _ _ w⟩
    · exact ⟨_, _, partI _ 9 p.second rfl w, partI _ 9 q.second rfl w, eqI (d + 1) _ _ w⟩
    · exact ⟨_, _, partI _ 10 p.use rfl w, partI _ 10 q.use rfl w, eqI (d + 1) _ _ w⟩
    · exact ⟨_, _, partB _ 11 p.origin rfl w, partB _ 11 q.origin rfl w, eqB (d + 1) _ _ w⟩
theorem eqlSpot (p q : SpotS) (w : World) : (binOp .eql 82 (.agg (spotV p).toArray) (.agg (spotV q).toArray)).run Tryz.prog w = .ok (.bool (decide (p = q))) w := by
  rw [run_eql_struct, eqSpotG 9997]; rfl
theorem wp_eqlSpot {ops : Array Oper} {rest : List Oper} {o : Oper} {a : Act} {u : World} {Q : Exit → Act → World → Prop} (hgd : o.guard = none) (x y : Operand) (ho : o.op = .binOp .eql 82 x y 82) (p q : SpotS) (hx : a.eval x = .agg (spotV p).toArray) (arr : Array Value) (hy : a.eval y = .agg arr) (harr : arr = (spotV q).toArray) (b : Bool) (hb : decide (p = q) = b)
    (h : wpList Tryz.prog ops Q rest (a.put o.dst (.bool b)) u) : wpList Tryz.prog ops Q (o :: rest) a u := by
  subst harr hb
  refine wpList_plain hgd fun K hK => ?_
  have R := hK _ _ h
  unfold Oper.wp execOp
  simp only [ho, hx, hy, Sem.run_bind, guardS 82 (.inr (.inl rfl)), eqlSpot, Result.andThen_ok, Sem.run_pure]
  exact R
def zeroSp : List Value := [.int .i64 0, .int .i64 0, .bool false, .bool false, .bool false, .bool false, .int .i64 0, .int .i64 0, .int .i64 0, .int .i64 0, .int .i64 0, .bool false]

set_option maxRecDepth 100000 in
set_option maxHeartbeats 4000000 in
theorem takeBack_wr (wb : Nat) (L : Lay) (s : TS) (p : SpotS) (hf : p.first = 0 ∨ p.first = 1) (hs : p.second = 0 ∨ p.second = 1) (hu : p.use = 0 ∨ p.use = 1) (x : WS) (w : World) (h : Wr w wb L s x) (hx : x.tx.length ≤ 300001000) :
    Calls Tryz.prog 232 #[.pointer (some ⟨wb, 0, none⟩), .agg (spotV p).toArray] w fun e w' => e = .returned (.tuple #[]) ∧ WrAt w' wb L.tb (x.takeBack p) ∧ Wk wb w w' := by
  have hlt := h.lt
  obtain ⟨W, hW⟩ : ∃ W, W = w.alloc (.cells (spotV p).toArray 82) := ⟨_, rfl⟩
  have GW : W.heap[w.heap.size]? = some (.cells (spotV p).toArray 82 (0, 0)) := by rw [hW]; exact heap_alloc_new _ _
  have BW : Below w.heap.size w W := by rw [hW]; exact (Below.refl _ _).alloc (Nat.le_refl _) _
  have HX0 : Hid (Wr W wb L s x) := h.keep BW
  have HK0 : Hid (Wk wb w W) := Wk.of_below BW (Nat.le_of_lt hlt)
  have HG0 : Hid (W.heap[w.heap.size]? = some (.cells (spotV p).toArray 82 (0, 0))) := GW
  have HW : Hid _ := hW
  have i2 := (spot_cells (heap_alloc_new w (.cells (spotV p).toArray 82))).2.2.2.2.2.2
  have XC : ∀ y : World, y.heap[w.heap.size]? = some (.cells (spotV p).toArray 82 (0, 0)) → _ := fun y hy => spot_cells hy
  have j1 := (spot_cells (heap_alloc_new w (.cells (spotV p).toArray 82))).2.2.2.1
  have j2 := (spot_cells (heap_alloc_new w (.cells (spotV p).toArray 82))).2.2.2.2.1
  have j3 := (spot_cells (heap_alloc_new w (.cells (spotV p).toArray 82))).2.2.2.2.2.1
  clear h hW GW BW
  go_enter Tryz.func232, Tryz.ntmps232
  cases ho : p.origin with
  | false =>
    rw [ho] at i2
    rcases hf with hf | hf
    · rw [hf] at j1
      rcases hs with hs | hs
      · rw [hs] at j2
        rcases hu with hu | hu
        · rw [hu] at j3
          go_wp2_with fail
          rw [← HW.out]
          go_end0
          have he : x.takeBack p = x := by
            unfold WS.takeBack WS.bk1 WS.bk2 WS.bk3 WS.bk4
            rw [ho, hf, hs, hu]
            rfl
          exact ⟨rfl, by rw [he]; exact HX0.out.wr, HK0.out⟩
        · rw [hu] at j3
          have l9 := writeString_any wb L.tb (x) { data := #[15] } W HX0.out.wr (by omega) (by decide)
          rw [bl_st _ (show bl ({ data := #[15] } : ByteArray) = [15] by rfl)] at l9
          rw [HW.out] at l9
          go_wp2_with fail
          refine l9.mono ?_
          rintro e z1 ⟨⟨v9, rfl⟩, h9, k9⟩
          rw [← HW.out] at k9
          have HXz1 : Hid (Wr z1 wb L s ((x).put [15])) := HX0.out.step k9 h9
          have HGz1 : Hid (z1.heap[w.heap.size]? = some (.cells (spotV p).toArray 82 (0, 0))) := k9.at HG0.out (by omega) (by decide)
          have HKz1 : Hid (Wk wb w z1) := HK0.out.trans k9
          have n2 := put_len (x) [15]
          simp only [List.length_cons, List.length_nil] at n2
          clear h9 k9 HX0 HG0 HK0
          go_wp2_with fail
          go_end0
          have he : x.takeBack p = (x).put [15] := by
            unfold WS.takeBack WS.bk1 WS.bk2 WS.bk3 WS.bk4
            rw [ho, hf, hs, hu]
            rfl
          exact ⟨rfl, by rw [he]; exact HXz1.out.wr, HKz1.out⟩
      · rw [hs] at j2
        have l9 := writeString_any wb L.tb (x) { data := #[27, 41, 66] } W HX0.out.wr (by omega) (by decide)
        rw [bl_st _ (show bl ({ data := #[27, 41, 66] } : ByteArray) = [27, 41, 66] by rfl)] at l9
        rw [HW.out] at l9
        go_wp2_with fail
        refine l9.mono ?_
        rintro e z3 ⟨⟨v9, rfl⟩, h9, k9⟩
        rw [← HW.out] at k9
        have HXz3 : Hid (Wr z3 wb L s ((x).put [27, 41, 66])) := HX0.out.step k9 h9
        have HGz3 : Hid (z3.heap[w.heap.size]? = some (.cells (spotV p).toArray 82 (0, 0))) := k9.at HG0.out (by omega) (by decide)
        have HKz3 : Hid (Wk wb w z3) := HK0.out.trans k9
        have n4 := put_len (x) [27, 41, 66]
        simp only [List.length_cons, List.length_nil] at n4
        clear h9 k9 HX0 HG0 HK0
        rcases hu with hu | hu
        · have q_use := (XC z3 HGz3.out).2.2.2.2.2.1
          rw [hu] at q_use
          go_wp2_with fail
          go_end0
          have he : x.takeBack p = (x).put [27, 41, 66] := by
            unfold WS.takeBack WS.bk1 WS.bk2 WS.bk3 WS.bk4
            rw [ho, hf, hs, hu]
            rfl
          exact ⟨rfl, by rw [he]; exact HXz3.out.wr, HKz3.out⟩
        · have q_use := (XC z3 HGz3.out).2.2.2.2.2.1
          rw [hu] at q_use
          have l9 := writeString_any wb L.tb ((x).put [27, 41, 66]) { data := #[15] } z3 HXz3.out.wr (by omega) (by decide)
          rw [bl_st _ (show bl ({ data := #[15] } : ByteArray) = [15] by rfl)] at l9
          go_wp2_with fail
          refine l9.mono ?_
          rintro e z5 ⟨⟨v9, rfl⟩, h9, k9⟩
          have HXz5 : Hid (Wr z5 wb L s (((x).put [27, 41, 66]).put [15])) := HXz3.out.step k9 h9
          have HGz5 : Hid (z5.heap[w.heap.size]? = some (.cells (spotV p).toArray 82 (0, 0))) := k9.at HGz3.out (by omega) (by decide)
          have HKz5 : Hid (Wk wb w z5) := HKz3.out.trans k9
          have n6 := put_len ((x).put [27, 41, 66]) [15]
          simp only [List.length_cons, List.length_nil] at n6
          clear h9 k9 HXz3 HGz3 HKz3
          go_wp2_with fail
          go_end0
          have he : x.takeBack p = ((x).put [27, 41, 66]).put [15] := by
            unfold WS.takeBack WS.bk1 WS.bk2 WS.bk3 WS.bk4
            rw [ho, hf, hs, hu]
            rfl
          exact ⟨rfl, by rw [he]; exact HXz5.out.wr, HKz5.out⟩
    · rw [hf] at j1
      have l9 := writeString_any wb L.tb (x) { data := #[27, 40, 66] } W HX0.out.wr (by omega) (by decide)
      rw [bl_st _ (show bl ({ data := #[27, 40, 66] } : ByteArray) = [27, 40, 66] by rfl)] at l9
      rw [HW.out] at l9
      go_wp2_with fail
      refine l9.mono ?_
      rintro e z7 ⟨⟨v9, rfl⟩, h9, k9⟩
      rw [← HW.out] at k9
      have HXz7 : Hid (Wr z7 wb L s ((x).put [27, 40, 66])) := HX0.out.step k9 h9
      have HGz7 : Hid (z7.heap[w.heap.size]? = some (.cells (spotV p).toArray 82 (0, 0))) := k9.at HG0.out (by omega) (by decide)
      have HKz7 : Hid (Wk wb w z7) := HK0.out.trans k9
      have n8 := put_len (x) [27, 40, 66]
      simp only [List.length_cons, List.length_nil] at n8
      clear h9 k9 HX0 HG0 HK0
      rcases hs with hs | hs
      · have q_second := (XC z7 HGz7.out).2.2.2.2.1
        rw [hs] at q_second
        rcases hu with hu | hu
        · have q_use := (XC z7 HGz7.out).2.2.2.2.2.1
          rw [hu] at q_use
          go_wp2_with fail
          go_end0
          have he : x.takeBack p = (x).put [27, 40, 66] := by
            unfold WS.takeBack WS.bk1 WS.bk2 WS.bk3 WS.bk4
            rw [ho, hf, hs, hu]
            rfl
          exact ⟨rfl, by rw [he]; exact HXz7.out.wr, HKz7.out⟩
        · have q_use := (XC z7 HGz7.out).2.2.2.2.2.1
          rw [hu] at q_use
          have l9 := writeString_any wb L.tb ((x).put [27, 40, 66]) { data := #[15] } z7 HXz7.out.wr (by omega) (by decide)
          rw [bl_st _ (show bl ({ data := #[15] } : ByteArray) = [15] by rfl)] at l9
          go_wp2_with fail
          refine l9.mono ?_
          rintro e z9 ⟨⟨v9, rfl⟩, h9, k9⟩
          have HXz9 : Hid (Wr z9 wb L s (((x).put [27, 40, 66]).put [15])) := HXz7.out.step k9 h9
          have HGz9 : Hid (z9.heap[w.heap.size]? = some (.cells (spotV p).toArray 82 (0, 0))) := k9.at HGz7.out (by omega) (by decide)
          have HKz9 : Hid (Wk wb w z9) := HKz7.out.trans k9
          have n10 := put_len ((x).put [27, 40, 66]) [15]
          simp only [List.length_cons, List.length_nil] at n10
          clear h9 k9 HXz7 HGz7 HKz7
          go_wp2_with fail
          go_end0
          have he : x.takeBack p = ((x).put [27, 40, 66]).put [15] := by
            unfold WS.takeBack WS.bk1 WS.bk2 WS.bk3 WS.bk4
            rw [ho, hf, hs, hu]
            rfl
          exact ⟨rfl, by rw [he]; exact HXz9.out.wr, HKz9.out⟩
      · have q_second := (XC z7 HGz7.out).2.2.2.2.1
        rw [hs] at q_second
        have l9 := writeString_any wb L.tb ((x).put [27, 40, 66]) { data := #[27, 41, 66] } z7 HXz7.out.wr (by omega) (by decide)
        rw [bl_st _ (show bl ({ data := #[27, 41, 66] } : ByteArray) = [27, 41, 66] by rfl)] at l9
        go_wp2_with fail
        refine l9.mono ?_
        rintro e z11 ⟨⟨v9, rfl⟩, h9, k9⟩
        have HXz11 : Hid (Wr z11 wb L s (((x).put [27, 40, 66]).put [27, 41, 66])) := HXz7.out.step k9 h9
        have HGz11 : Hid (z11.heap[w.heap.size]? = some (.cells (spotV p).toArray 82 (0, 0))) := k9.at HGz7.out (by omega) (by decide)
        have HKz11 : Hid (Wk wb w z11) := HKz7.out.trans k9
        have n12 := put_len ((x).put [27, 40, 66]) [27, 41, 66]
        simp only [List.length_cons, List.length_nil] at n12
        clear h9 k9 HXz7 HGz7 HKz7
        rcases hu with hu | hu
        · have q_use := (XC z11 HGz11.out).2.2.2.2.2.1
          rw [hu] at q_use
          go_wp2_with fail
          go_end0
          have he : x.takeBack p = ((x).put [27, 40, 66]).put [27, 41, 66] := by
            unfold WS.takeBack WS.bk1 WS.bk2 WS.bk3 WS.bk4
            rw [ho, hf, hs, hu]
            rfl
          exact ⟨rfl, by rw [he]; exact HXz11.out.wr, HKz11.out⟩
        · have q_use := (XC z11 HGz11.out).2.2.2.2.2.1
          rw [hu] at q_use
          have l9 := writeString_any wb L.tb (((x).put [27, 40, 66]).put [27, 41, 66]) { data := #[15] } z11 HXz11.out.wr (by omega) (by decide)
          rw [bl_st _ (show bl ({ data := #[15] } : ByteArray) = [15] by rfl)] at l9
          go_wp2_with fail
          refine l9.mono ?_
          rintro e z13 ⟨⟨v9, rfl⟩, h9, k9⟩
          have HXz13 : Hid (Wr z13 wb L s ((((x).put [27, 40, 66]).put [27, 41, 66]).put [15])) := HXz11.out.step k9 h9
          have HGz13 : Hid (z13.heap[w.heap.size]? = some (.cells (spotV p).toArray 82 (0, 0))) := k9.at HGz11.out (by omega) (by decide)
          have HKz13 : Hid (Wk wb w z13) := HKz11.out.trans k9
          have n14 := put_len (((x).put [27, 40, 66]).put [27, 41, 66]) [15]
          simp only [List.length_cons, List.length_nil] at n14
          clear h9 k9 HXz11 HGz11 HKz11
          go_wp2_with fail
          go_end0
          have he : x.takeBack p = (((x).put [27, 40, 66]).put [27, 41, 66]).put [15] := by
            unfold WS.takeBack WS.bk1 WS.bk2 WS.bk3 WS.bk4
            rw [ho, hf, hs, hu]
            rfl
          exact ⟨rfl, by rw [he]; exact HXz13.out.wr, HKz13.out⟩
  | true =>
    rw [ho] at i2
    have l9 := sequence_wr wb L.tb (x) { data := #[63, 54, 108] } W HX0.out.wr (by omega) (by decide)
    rw [show bl ({ data := #[63, 54, 108] } : ByteArray) = [63, 54, 108] by rfl] at l9
    rw [HW.out] at l9
    go_wp2_with fail
    refine l9.mono ?_
    rintro e z15 ⟨rfl, h9, k9⟩
    rw [← HW.out] at k9
    have HXz15 : Hid (Wr z15 wb L s ((x).seq [63, 54, 108])) := HX0.out.step k9 h9
    have HGz15 : Hid (z15.heap[w.heap.size]? = some (.cells (spotV p).toArray 82 (0, 0))) := k9.at HG0.out (by omega) (by decide)
    have HKz15 : Hid (Wk wb w z15) := HK0.out.trans k9
    have n16 := seq_len (x) [63, 54, 108]
    simp only [List.length_cons, List.length_nil] at n16
    clear h9 k9 HX0 HG0 HK0
    rcases hf with hf | hf
    · have q_first := (XC z15 HGz15.out).2.2.2.1
      rw [hf] at q_first
      rcases hs with hs | hs
      · have q_second := (XC z15 HGz15.out).2.2.2.2.1
        rw [hs] at q_second
        rcases hu with hu | hu
        · have q_use := (XC z15 HGz15.out).2.2.2.2.2.1
          rw [hu] at q_use
          go_wp2_with fail
          go_end0
          have he : x.takeBack p = (x).seq [63, 54, 108] := by
            unfold WS.takeBack WS.bk1 WS.bk2 WS.bk3 WS.bk4
            rw [ho, hf, hs, hu]
            rfl
          exact ⟨rfl, by rw [he]; exact HXz15.out.wr, HKz15.out⟩
        · have q_use := (XC z15 HGz15.out).2.2.2.2.2.1
          rw [hu] at q_use
          have l9 := writeString_any wb L.tb ((x).seq [63, 54, 108]) { data := #[15] } z15 HXz15.out.wr (by omega) (by decide)
          rw [bl_st _ (show bl ({ data := #[15] } : ByteArray) = [15] by rfl)] at l9
          go_wp2_with fail
          refine l9.mono ?_
          rintro e z17 ⟨⟨v9, rfl⟩, h9, k9⟩
          have HXz17 : Hid (Wr z17 wb L s (((x).seq [63, 54, 108]).put [15])) := HXz15.out.step k9 h9
          have HGz17 : Hid (z17.heap[w.heap.size]? = some (.cells (spotV p).toArray 82 (0, 0))) := k9.at HGz15.out (by omega) (by decide)
          have HKz17 : Hid (Wk wb w z17) := HKz15.out.trans k9
          have n18 := put_len ((x).seq [63, 54, 108]) [15]
          simp only [List.length_cons, List.length_nil] at n18
          clear h9 k9 HXz15 HGz15 HKz15
          go_wp2_with fail
          go_end0
          have he : x.takeBack p = ((x).seq [63, 54, 108]).put [15] := by
            unfold WS.takeBack WS.bk1 WS.bk2 WS.bk3 WS.bk4
            rw [ho, hf, hs, hu]
            rfl
          exact ⟨rfl, by rw [he]; exact HXz17.out.wr, HKz17.out⟩
      · have q_second := (XC z15 HGz15.out).2.2.2.2.1
        rw [hs] at q_second
        have l9 := writeString_any wb L.tb ((x).seq [63, 54, 108]) { data := #[27, 41, 66] } z15 HXz15.out.wr (by omega) (by decide)
        rw [bl_st _ (show bl ({ data := #[27, 41, 66] } : ByteArray) = [27, 41, 66] by rfl)] at l9
        go_wp2_with fail
        refine l9.mono ?_
        rintro e z19 ⟨⟨v9, rfl⟩, h9, k9⟩
        have HXz19 : Hid (Wr z19 wb L s (((x).seq [63, 54, 108]).put [27, 41, 66])) := HXz15.out.step k9 h9
        have HGz19 : Hid (z19.heap[w.heap.size]? = some (.cells (spotV p).toArray 82 (0, 0))) := k9.at HGz15.out (by omega) (by decide)
        have HKz19 : Hid (Wk wb w z19) := HKz15.out.trans k9
        have n20 := put_len ((x).seq [63, 54, 108]) [27, 41, 66]
        simp only [List.length_cons, List.length_nil] at n20
        clear h9 k9 HXz15 HGz15 HKz15
        rcases hu with hu | hu
        · have q_use := (XC z19 HGz19.out).2.2.2.2.2.1
          rw [hu] at q_use
          go_wp2_with fail
          go_end0
          have he : x.takeBack p = ((x).seq [63, 54, 108]).put [27, 41, 66] := by
            unfold WS.takeBack WS.bk1 WS.bk2 WS.bk3 WS.bk4
            rw [ho, hf, hs, hu]
            rfl
          exact ⟨rfl, by rw [he]; exact HXz19.out.wr, HKz19.out⟩
        · have q_use := (XC z19 HGz19.out).2.2.2.2.2.1
          rw [hu] at q_use
          have l9 := writeString_any wb L.tb (((x).seq [63, 54, 108]).put [27, 41, 66]) { data := #[15] } z19 HXz19.out.wr (by omega) (by decide)
          rw [bl_st _ (show bl ({ data := #[15] } : ByteArray) = [15] by rfl)] at l9
          go_wp2_with fail
          refine l9.mono ?_
          rintro e z21 ⟨⟨v9, rfl⟩, h9, k9⟩
          have HXz21 : Hid (Wr z21 wb L s ((((x).seq [63, 54, 108]).put [27, 41, 66]).put [15])) := HXz19.out.step k9 h9
          have HGz21 : Hid (z21.heap[w.heap.size]? = some (.cells (spotV p).toArray 82 (0, 0))) := k9.at HGz19.out (by omega) (by decide)
          have HKz21 : Hid (Wk wb w z21) := HKz19.out.trans k9
          have n22 := put_len (((x).seq [63, 54, 108]).put [27, 41, 66]) [15]
          simp only [List.length_cons, List.length_nil] at n22
          clear h9 k9 HXz19 HGz19 HKz19
          go_wp2_with fail
          go_end0
          have he : x.takeBack p = (((x).seq [63, 54, 108]).put [27, 41, 66]).put [15] := by
            unfold WS.takeBack WS.bk1 WS.bk2 WS.bk3 WS.bk4
            rw [ho, hf, hs, hu]
            rfl
          exact ⟨rfl, by rw [he]; exact HXz21.out.wr, HKz21.out⟩
    · have q_first := (XC z15 HGz15.out).2.2.2.1
      rw [hf] at q_first
      have l9 := writeString_any wb L.tb ((x).seq [63, 54, 108]) { data := #[27, 40, 66] } z15 HXz15.out.wr (by omega) (by decide)
      rw [bl_st _ (show bl ({ data := #[27, 40, 66] } : ByteArray) = [27, 40, 66] by rfl)] at l9
      go_wp2_with fail
      refine l9.mono ?_
      rintro e z23 ⟨⟨v9, rfl⟩, h9, k9⟩
      have HXz23 : Hid (Wr z23 wb L s (((x).seq [63, 54, 108]).put [27, 40, 66])) := HXz15.out.step k9 h9
      have HGz23 : Hid (z23.heap[w.heap.size]? = some (.cells (spotV p).toArray 82 (0, 0))) := k9.at HGz15.out (by omega) (by decide)
      have HKz23 : Hid (Wk wb w z23) := HKz15.out.trans k9
      have n24 := put_len ((x).seq [63, 54, 108]) [27, 40, 66]
      simp only [List.length_cons, List.length_nil] at n24
      clear h9 k9 HXz15 HGz15 HKz15
      rcases hs with hs | hs
      · have q_second := (XC z23 HGz23.out).2.2.2.2.1
        rw [hs] at q_second
        rcases hu with hu | hu
        · have q_use := (XC z23 HGz23.out).2.2.2.2.2.1
          rw [hu] at q_use
          go_wp2_with fail
          go_end0
          have he : x.takeBack p = ((x).seq [63, 54, 108]).put [27, 40, 66] := by
            unfold WS.takeBack WS.bk1 WS.bk2 WS.bk3 WS.bk4
            rw [ho, hf, hs, hu]
            rfl
          exact ⟨rfl, by rw [he]; exact HXz23.out.wr, HKz23.out⟩
        · have q_use := (XC z23 HGz23.out).2.2.2.2.2.1
          rw [hu] at q_use
          have l9 := writeString_any wb L.tb (((x).seq [63, 54, 108]).put [27, 40, 66]) { data := #[15] } z23 HXz23.out.wr (by omega) (by decide)
          rw [bl_st _ (show bl ({ data := #[15] } : ByteArray) = [15] by rfl)] at l9
          go_wp2_with fail
          refine l9.mono ?_
          rintro e z25 ⟨⟨v9, rfl⟩, h9, k9⟩
          have HXz25 : Hid (Wr z25 wb L s ((((x).seq [63, 54, 108]).put [27, 40, 66]).put [15])) := HXz23.out.step k9 h9
          have HGz25 : Hid (z25.heap[w.heap.size]? = some (.cells (spotV p).toArray 82 (0, 0))) := k9.at HGz23.out (by omega) (by decide)
          have HKz25 : Hid (Wk wb w z25) := HKz23.out.trans k9
          have n26 := put_len (((x).seq [63, 54, 108]).put [27, 40, 66]) [15]
          simp only [List.length_cons, List.length_nil] at n26
          clear h9 k9 HXz23 HGz23 HKz23
          go_wp2_with fail
          go_end0
          have he : x.takeBack p = (((x).seq [63, 54, 108]).put [27, 40, 66]).put [15] := by
            unfold WS.takeBack WS.bk1 WS.bk2 WS.bk3 WS.bk4
            rw [ho, hf, hs, hu]
            rfl
          exact ⟨rfl, by rw [he]; exact HXz25.out.wr, HKz25.out⟩
      · have q_second := (XC z23 HGz23.out).2.2.2.2.1
        rw [hs] at q_second
        have l9 := writeString_any wb L.tb (((x).seq [63, 54, 108]).put [27, 40, 66]) { data := #[27, 41, 66] } z23 HXz23.out.wr (by omega) (by decide)
        rw [bl_st _ (show bl ({ data := #[27, 41, 66] } : ByteArray) = [27, 41, 66] by rfl)] at l9
        go_wp2_with fail
        refine l9.mono ?_
        rintro e z27 ⟨⟨v9, rfl⟩, h9, k9⟩
        have HXz27 : Hid (Wr z27 wb L s ((((x).seq [63, 54, 108]).put [27, 40, 66]).put [27, 41, 66])) := HXz23.out.step k9 h9
        have HGz27 : Hid (z27.heap[w.heap.size]? = some (.cells (spotV p).toArray 82 (0, 0))) := k9.at HGz23.out (by omega) (by decide)
        have HKz27 : Hid (Wk wb w z27) := HKz23.out.trans k9
        have n28 := put_len (((x).seq [63, 54, 108]).put [27, 40, 66]) [27, 41, 66]
        simp only [List.length_cons, List.length_nil] at n28
        clear h9 k9 HXz23 HGz23 HKz23
        rcases hu with hu | hu
        · have q_use := (XC z27 HGz27.out).2.2.2.2.2.1
          rw [hu] at q_use
          go_wp2_with fail
          go_end0
          have he : x.takeBack p = (((x).seq [63, 54, 108]).put [27, 40, 66]).put [27, 41, 66] := by
            unfold WS.takeBack WS.bk1 WS.bk2 WS.bk3 WS.bk4
            rw [ho, hf, hs, hu]
            rfl
          exact ⟨rfl, by rw [he]; exact HXz27.out.wr, HKz27.out⟩
        · have q_use := (XC z27 HGz27.out).2.2.2.2.2.1
          rw [hu] at q_use
          have l9 := writeString_any wb L.tb ((((x).seq [63, 54, 108]).put [27, 40, 66]).put [27, 41, 66]) { data := #[15] } z27 HXz27.out.wr (by omega) (by decide)
          rw [bl_st _ (show bl ({ data := #[15] } : ByteArray) = [15] by rfl)] at l9
          go_wp2_with fail
          refine l9.mono ?_
          rintro e z29 ⟨⟨v9, rfl⟩, h9, k9⟩
          have HXz29 : Hid (Wr z29 wb L s (((((x).seq [63, 54, 108]).put [27, 40, 66]).put [27, 41, 66]).put [15])) := HXz27.out.step k9 h9
          have HGz29 : Hid (z29.heap[w.heap.size]? = some (.cells (spotV p).toArray 82 (0, 0))) := k9.at HGz27.out (by omega) (by decide)
          have HKz29 : Hid (Wk wb w z29) := HKz27.out.trans k9
          have n30 := put_len ((((x).seq [63, 54, 108]).put [27, 40, 66]).put [27, 41, 66]) [15]
          simp only [List.length_cons, List.length_nil] at n30
          clear h9 k9 HXz27 HGz27 HKz27
          go_wp2_with fail
          go_end0
          have he : x.takeBack p = ((((x).seq [63, 54, 108]).put [27, 40, 66]).put [27, 41, 66]).put [15] := by
            unfold WS.takeBack WS.bk1 WS.bk2 WS.bk3 WS.bk4
            rw [ho, hf, hs, hu]
            rfl
          exact ⟨rfl, by rw [he]; exact HXz29.out.wr, HKz29.out⟩

/-- What a terminal's spots are like. -/
structure SpotOk (s : TS) (p : SpotS) : Prop where
  r : 0 ≤ p.row ∧ p.row < (s.rows : Int)
  c : 0 ≤ p.col ∧ p.col < (s.cols : Int)
  fit : p.Fit s.cols
theorem toSpot_len (x : WS) (S : Sheet) (p : SpotS) (top : Int) : (x.toSpot S p top).tx.length ≤ x.tx.length + 80 := by
  have a1 : (x.to1 p).tx.length ≤ x.tx.length + 5 := by
    unfold WS.to1; split
    · rw [seq_len]; simp
    · omega
  have a2 : ∀ y : WS, ∀ r, (y.to2 S p r).tx.length ≤ y.tx.length + 32 := fun y r => by
    unfold WS.to2; split
    · exact toWait_len _ _ _ _
    · have := place_len y r p.col; omega
  have a4 : ∀ y : WS, (y.to4 p).tx.length ≤ y.tx.length + 3 := fun y => by unfold WS.to4; split; rw [put_len]; simp; omega
  have a5 : ∀ y : WS, (y.to5 p).tx.length ≤ y.tx.length + 3 := fun y => by unfold WS.to5; split; rw [put_len]; simp; omega
  have a6 : ∀ y : WS, (y.to6 p).tx.length ≤ y.tx.length + 1 := fun y => by unfold WS.to6; split; rw [put_len]; simp; omega
  unfold WS.toSpot
  have b2 := a2 (x.to1 p) (if p.origin then p.row - top else p.row)
  have b3 := turn_len ((x.to1 p).to2 S p (if p.origin then p.row - top else p.row)) p.pen
  have b4 := a4 (((x.to1 p).to2 S p (if p.origin then p.row - top else p.row)).turn p.pen)
  have b5 := a5 ((((x.to1 p).to2 S p (if p.origin then p.row - top else p.row)).turn p.pen).to4 p)
  have b6 := a6 (((((x.to1 p).to2 S p (if p.origin then p.row - top else p.row)).turn p.pen).to4 p).to5 p)
  omega
theorem takeBack_len (x : WS) (p : SpotS) : (x.takeBack p).tx.length ≤ x.tx.length + 20 := by
  have a1 : (x.bk1 p).tx.length ≤ x.tx.length + 5 := by
    unfold WS.bk1; split
    · rw [seq_len]; simp
    · omega
  have a4 : ∀ y : WS, (y.bk2 p).tx.length ≤ y.tx.length + 3 := fun y => by unfold WS.bk2; split; rw [put_len]; simp; omega
  have a5 : ∀ y : WS, (y.bk3 p).tx.length ≤ y.tx.length + 3 := fun y => by unfold WS.bk3; split; rw [put_len]; simp; omega
  have a6 : ∀ y : WS, (y.bk4 p).tx.length ≤ y.tx.length + 1 := fun y => by unfold WS.bk4; split; rw [put_len]; simp; omega
  unfold WS.takeBack
  have b4 := a4 (x.bk1 p)
  have b5 := a5 ((x.bk1 p).bk2 p)
  have b6 := a6 (((x.bk1 p).bk2 p).bk3 p)
  omega
theorem saved_len (x : WS) (S : Sheet) (p : SpotS) : (x.saved S p).tx.length ≤ x.tx.length + 102 := by
  unfold WS.saved
  split
  · omega
  · have h1 := toSpot_len x S p 0
    have h2 := takeBack_len ((x.toSpot S p 0).put [27, 55]) p
    rw [put_len] at h2
    simp only [List.length_cons, List.length_nil] at h2
    omega

set_option maxRecDepth 100000 in
set_option maxHeartbeats 2000000 in
theorem saved_wr (wb : Nat) (L : Lay) (s : TS) (hI : s.Inv) (hO : CellsOk s) (n : Nat) (hn : n < 2) (hp : SpotOk s (s.savedAt n)) (x : WS) (w : World) (h : Wr w wb L s x) (hx : x.tx.length ≤ 200000000) :
    Calls Tryz.prog 203 #[.pointer (some ⟨wb, 0, none⟩), .int .i64 (n : Int)] w fun e w' => e = .returned (.tuple #[]) ∧ WrAt w' wb L.tb (x.saved (s.sheetAt n) (s.savedAt n)) ∧ Wk wb w w' := by
  have c0 := h.c0
  have hlt := h.lt
  have l1 := tsaved_any L s n hn w h.te
  have HX0 : Hid _ := h
  have HI : Hid _ := hI
  have HO : Hid _ := hO
  generalize s.savedAt n = p at *
  clear h hI hO
  go_enter Tryz.func203, Tryz.ntmps203
  go_wp2_with fail
  refine l1.mono ?_
  rintro e x1 ⟨rfl, q1⟩
  go_wp2_with (refine wp_blkset _ rfl 82 (.tmp 4) (.tmp 10) rfl x1.heap.size zeroSp (spotV p) rfl _ rfl rfl 82 (heap_alloc_new _ _) rfl info54s (spotV_one _) ?_)
  intro y1 g1 k1 z1
  have hq1 : w.heap.size ≤ x1.heap.size := q1.size
  have B1 : Below w.heap.size w y1 := (q1.bel.alloc q1.size (.cells zeroSp.toArray 82)).trans (k1.below (by simp; omega) (fun k hk e => by omega))
  have HX1 : Hid (Wr y1 wb L s x) := HX0.out.keep B1
  have HK1 : Hid (Wk wb w y1) := Wk.of_below B1 (Nat.le_of_lt hlt)
  obtain ⟨nb, hnb⟩ : ∃ nb, nb = x1.heap.size := ⟨_, rfl⟩
  rw [← hnb]
  rw [← hnb] at g1
  have hwn : wb < nb := by omega
  have HG1 : Hid (y1.heap[nb]? = some (.cells (spotV p).toArray 82 (0, 0))) := g1
  clear g1 k1 z1 q1 B1 HX0 c0 l1 hnb
  by_cases hp0 : p = spot0
  · have HD : Hid (decide (p = spot0) = true) := decide_eq_true hp0
    have HFE : Hid (x.saved (s.sheetAt n) p = x) := by show _ = _; unfold WS.saved; rw [if_pos hp0]
    clear hp0
    go_wp2_with (first | (refine wpList_load_row rfl 82 (.tmp 4) rfl nb rfl 82 _ (0, 0) _ HG1.out Tryz.underlying82 rfl info54s ?_) | (refine wp_eqlSpot rfl (.tmp 11) (.tmp 12) rfl p spot0 rfl _ rfl rfl true HD.out ?_))
    refine bodyPost_ret (results_none rfl _ _ _) rfl ?_
    exact ⟨rfl, by rw [HFE.out]; exact HX1.out.wr, HK1.out⟩
  · have HD : Hid (decide (p = spot0) = false) := decide_eq_false hp0
    have HFE : Hid (x.saved (s.sheetAt n) p = ((x.toSpot (s.sheetAt n) p 0).put [27, 55]).takeBack p) := by show _ = _; unfold WS.saved; rw [if_neg hp0]
    obtain ⟨⟨pr0, pr1⟩, ⟨pc0, pc1⟩, hfit⟩ := hp
    have hr2 := HI.out.r2
    have hrr : (if p.origin then p.row - 0 else p.row) = ((p.row.toNat : Nat) : Int) := by split <;> omega
    have l2 := toSpot_wr wb L s HI.out HO.out n p.row.toNat p.col.toNat p.row.toNat 0 hn (by omega) (by omega) (by omega) p (by omega) (by omega) hfit.p hfit.f hfit.sc hfit.u hrr x y1 HX1.out (by omega)
    have hfi : Hid _ := hfit
    clear hp0 hrr hfit pr0 pr1 pc0 pc1
    go_wp2_with (first | (refine wpList_load_row rfl 82 (.tmp 4) rfl nb rfl 82 _ (0, 0) _ HG1.out Tryz.underlying82 rfl info54s ?_) | (refine wp_eqlSpot rfl (.tmp 11) (.tmp 12) rfl p spot0 rfl _ rfl rfl false HD.out ?_))
    refine l2.mono ?_
    rintro e y2 ⟨rfl, h2, k2⟩
    have HX2 : Hid (Wr y2 wb L s (x.toSpot (s.sheetAt n) p 0)) := HX1.out.step k2 h2
    have HG2 : Hid (y2.heap[nb]? = some (.cells (spotV p).toArray 82 (0, 0))) := k2.at HG1.out (by omega) (by decide)
    have HK2 : Hid (Wk wb w y2) := HK1.out.trans k2
    have n2 := toSpot_len x (s.sheetAt n) p 0
    have l3 := writeString_any wb L.tb (x.toSpot (s.sheetAt n) p 0) { data := #[27, 55] } y2 h2 (by omega) (by decide)
    rw [bl_st _ (show bl ({ data := #[27, 55] } : ByteArray) = [27, 55] by rfl)] at l3
    clear l2 h2 k2 HX1 HG1 HK1
    go_wp2_with fail
    refine l3.mono ?_
    rintro e y3 ⟨⟨v3, rfl⟩, h3, k3⟩
    have HX3 : Hid (Wr y3 wb L s ((x.toSpot (s.sheetAt n) p 0).put [27, 55])) := HX2.out.step k3 h3
    have HG3 : Hid (y3.heap[nb]? = some (.cells (spotV p).toArray 82 (0, 0))) := k3.at HG2.out (by omega) (by decide)
    have HK3 : Hid (Wk wb w y3) := HK2.out.trans k3
    have n3 := put_len (x.toSpot (s.sheetAt n) p 0) [27, 55]
    simp only [List.length_cons, List.length_nil] at n3
    have l4 := takeBack_wr wb L s p hfi.out.f hfi.out.sc hfi.out.u ((x.toSpot (s.sheetAt n) p 0).put [27, 55]) y3 HX3.out (by omega)
    clear l3 h3 k3 HX2 HG2 HK2
    go_wp2_with (refine wpList_load_row rfl 82 (.tmp 4) rfl nb rfl 82 _ (0, 0) _ HG3.out Tryz.underlying82 rfl info54s ?_)
    refine l4.mono ?_
    rintro e y4 ⟨rfl, h4, k4⟩
    have HF : Hid (WrAt y4 wb L.tb (x.saved (s.sheetAt n) p) ∧ Wk wb w y4) := ⟨by rw [HFE.out]; exact h4, HK3.out.trans k4⟩
    clear h4 k4
    go_wp2_with fail
    go_end0
    exact ⟨rfl, HF.out.1, HF.out.2⟩

theorem rows_len (n : Nat) : ∀ (T : Sheet) (x : WS) (i : Nat), (∀ r ∈ T, r.length ≤ n) → (WS.rowsN x i T).tx.length ≤ x.tx.length + 32 * n * T.length := by
  intro T
  induction T with
  | nil => intro x i _; exact Nat.le_add_right _ _
  | cons r T ih =>
    intro x i hT
    have h1 := ih (WS.runs i x 0 blankS r) (i + 1) (fun q hq => hT q (by simp [hq]))
    have h2 := runs_len i r x 0 blankS
    have h3 := Nat.mul_le_mul_left 32 (hT r (by simp))
    show (WS.rowsN (WS.runs i x 0 blankS r) (i + 1) T).tx.length ≤ _
    rw [List.length_cons, Nat.mul_succ]
    omega
theorem rowsN_take : ∀ (T : Sheet) (x : WS) (i k : Nat) (r : List CellS), T[k]? = some r → WS.rowsN x i (T.take (k + 1)) = WS.runs ((i + k : Nat) : Int) (WS.rowsN x i (T.take k)) 0 blankS r := by
  intro T
  induction T with
  | nil => intro x i k r h; simp at h
  | cons q T ih =>
    intro x i k r h
    cases k with
    | zero => simp at h; subst h; rfl
    | succ k =>
      have := ih (WS.runs i x 0 blankS q) (i + 1) k r (by simpa using h)
      show WS.rowsN (WS.runs i x 0 blankS q) (i + 1) (T.take (k + 1)) = _
      rw [this, show i + 1 + k = i + (k + 1) by omega]
      rfl
/-- What is asked of a terminal's screens. -/
structure ScrOk (s : TS) : Prop where
  c : CellsOk s
  r : ∀ n, n < 2 → ∀ q ∈ s.sheetAt n, q.length = s.cols ∧ ∀ c ∈ q, c.part = 2 ∨ c.Ok
  l : ∀ n, n < 2 → (s.sheetAt n).length = s.rows
  v : ∀ n, n < 2 → SpotOk s (s.savedAt n)

set_option maxRecDepth 100000 in
set_option maxHeartbeats 2000000 in
theorem screen_wr (wb : Nat) (L : Lay) (s : TS) (hI : s.Inv) (hO : ScrOk s) (n : Nat) (hn : n < 2) (x : WS) (w : World) (h : Wr w wb L s x) (hx : x.tx.length ≤ 100000000) :
    Calls Tryz.prog 144 #[.pointer (some ⟨wb, 0, none⟩), .int .i64 (n : Int)] w fun e w' => e = .returned (.tuple #[]) ∧ WrAt w' wb L.tb (x.screen (s.sheetAt n) (s.savedAt n)) ∧ Wk wb w w' := by
  have c0 := h.c0
  have l1 := size_any L s w h.te hI
  have hr2 := hI.r2
  have hc2 := hI.c2
  have HX0 : Hid _ := h
  have HI : Hid _ := hI
  have HO : Hid _ := hO
  have HL : Hid ((s.sheetAt n).length = s.rows) := hO.l n hn
  clear h hI hO
  go_enter Tryz.func144, Tryz.ntmps144
  go_wp2_with (go_at_call 147; refine l1.mono ?_; rintro e w1 ⟨rfl, hw1⟩; have hw2 := hw1.symm; subst hw2)
  go_loopw [16] (fun j wr => ∃ k : Nat, k ≤ s.rows ∧ j = .int .i64 k ∧ Hid (Wr wr wb L s (WS.rowsN x 0 ((s.sheetAt n).take k))) ∧ Hid (Wk wb w wr)) (fun j _ => s.rows - (intOf j).toNat)
  case atStart => exact ⟨0, Nat.zero_le _, rfl, HX0.out, Wk.refl _ _⟩
  case round =>
    clear l1 c0
    obtain ⟨k, hk, rfl, HX, HK⟩ := hrel
    have hlen : (WS.rowsN x 0 ((s.sheetAt n).take k)).tx.length ≤ x.tx.length + 20000 := by
      have h1 := rows_len 40 ((s.sheetAt n).take k) x 0 (fun r hr => by have := (HO.out.r n hn r (List.mem_of_mem_take hr)).1; omega)
      have h2 : ((s.sheetAt n).take k).length ≤ 12 := by rw [List.length_take, HL.out]; omega
      have := Nat.mul_le_mul_left (32 * 40) h2
      omega
    by_cases hkr : k < s.rows
    · have ikr : (k : Int) < (s.rows : Int) := by omega
      have vk : IntKind.i64.wrap ((k : Int) + 1) = (k : Int) + 1 := IntWalk.i64_in _ (by omega)
      obtain ⟨r, hr⟩ : ∃ r, (s.sheetAt n)[k]? = some r := ⟨_, List.getElem?_eq_getElem (by rw [HL.out]; exact hkr)⟩
      obtain ⟨q1, q2⟩ := HO.out.r n hn r (List.mem_of_getElem? hr)
      have hRe : r = (if n = 0 then s.s0 else s.s1).getD k [] := by
        have : (s.sheetAt n).getD k [] = r := by simp [List.getD, hr]
        rw [← this]; rfl
      have l2 := runs_wr wb L s HI.out n k hn hkr r hRe q1 q2 _ wr HX.out (by omega)
      have HE : Hid (WS.rowsN x 0 ((s.sheetAt n).take (k + 1)) = WS.runs k (WS.rowsN x 0 ((s.sheetAt n).take k)) 0 blankS r) := by
        have := rowsN_take (s.sheetAt n) x 0 k r hr
        rw [Nat.zero_add] at this; exact this
      clear hr q1 q2 hRe
      go_wp2_with fail
      refine l2.mono ?_
      rintro e y2 ⟨rfl, h2, k2⟩
      have HX2 : Hid (Wr y2 wb L s (WS.rowsN x 0 ((s.sheetAt n).take (k + 1)))) := HX.out.step k2 (by rw [HE.out]; exact h2)
      have HK2 : Hid (Wk wb w y2) := HK.out.trans k2
      clear h2 k2 l2 HX HK
      go_wp2_with fail
      go_roundw
      case rel => exact ⟨k + 1, by omega, by go_num, HX2, HK2⟩
      case measure => simp [intOf]; omega
    · have ikr : ¬ (k : Int) < (s.rows : Int) := by omega
      have hke : (s.sheetAt n).take k = s.sheetAt n := List.take_of_length_le (by rw [HL.out]; omega)
      rw [hke] at HX hlen
      have l2 := saved_wr wb L s HI.out HO.out.c n hn (HO.out.v n hn) _ wr HX.out (by omega)
      clear hke
      go_wp2_with fail
      refine l2.mono ?_
      rintro e y2 ⟨rfl, h2, k2⟩
      have HF : Hid (WrAt y2 wb L.tb (x.screen (s.sheetAt n) (s.savedAt n)) ∧ Wk wb w y2) := ⟨h2, HK.out.trans k2⟩
      clear h2 k2
      go_wp2_with fail
      go_end0
      exact ⟨rfl, HF.out.1, HF.out.2⟩
end Go.Proofs.YtheibfffilomcaaGreatDoor

