/- Bounds: the walk of the whole. -/
import Derived.Test.YtheibfffilomcaaDoorKb2M
import Derived.Deep.DeepCutAuto
namespace Go.Proofs.YtheibfffilomcaaDoor
open Go.RowKit

/-- What a round's look found right. -/
structure Rt (a b : Int) (s : TS) : Prop where
  inv : s.Inv
  fit : s.Fit
  rows : s.rows = szR a
  cols : s.cols = szC b

set_option maxRecDepth 100000 in
set_option maxHeartbeats 4000000 in
theorem bounds_walk (a b : Int) (ao : Option Addr) (n cap : Nat) (T : List ByteArray) (w : World) (ha : -9223372036854775808 ≤ a ∧ a ≤ 9223372036854775807) (hb : -9223372036854775808 ≤ b ∧ b ≤ 9223372036854775807) (htb : Tabs w) (hT : SlTx w ao T) (hn : T.length = n ∧ n ≤ 140737488355328) (hTs : ∀ s ∈ T, s.size ≤ 140737488355328) :
    Calls Tryd.prog 8 #[.agg #[.int .i64 a, .int .i64 b], .slice ao n cap] w fun e w' => e = .returned (.bool true) ∧ Below w.heap.size w w' := by
  obtain ⟨rfl, hTl⟩ := hn
  have hw2 : 2 < w.heap.size := by obtain ⟨t, fr, h⟩ := htb.st; exact blk_lt h
  have hrb := szR_bd a
  have hcb := szC_bd b
  obtain ⟨W, hW⟩ : ∃ W, W = w.alloc (.cells #[.int .i64 a, .int .i64 b] 41) := ⟨_, rfl⟩
  have GW : W.heap[w.heap.size]? = some (.cells #[.int .i64 a, .int .i64 b] 41 (0, 0)) := by rw [hW]; exact heap_alloc_new _ _
  have BW : Below w.heap.size w W := by rw [hW]; exact (Below.refl _ _).alloc (Nat.le_refl _) _
  have hszW : W.heap.size = w.heap.size + 1 := by rw [hW]; simp
  have htW : Tabs W := by rw [hW]; exact htb.ch ((Ch.refl (fun _ => False) w).alloc _) (fun _ _ h => h)
  have l1 := begun_any a b W ha hb htW
  have SZ : ∀ u : World, Below W.heap.size W u → u.rangeAt w.heap.size 0 [.int .i64 a, .int .i64 b] := fun u hu j v hv => by
    rw [cell_of_row _ _ _ _ _ _ ((hu.block _ (by omega)).trans GW), Nat.zero_add]; simpa using hv
  have HTX : Hid (SlTx W ao T) := hT.below (BW.mono (Nat.le_refl _))
  have HTS : Hid _ := hTs
  have HTB : Hid (Tabs W) := htW
  have HBW : Hid (Below w.heap.size w W) := BW
  have HW : Hid _ := hW
  have HSZ : Hid _ := SZ
  clear hT hTs htb htW BW hW GW SZ
  go_enter Tryd.func8, Tryd.ntmps8
  go_wp2_with fail
  rw [← HW.out]
  refine l1.mono ?_
  rintro e w1 ⟨fb, L1, rfl, F1, hfb1, hL1, b1⟩
  have A1 : FedAt W.heap.size w1 fb L1 (szR a) (szC b) (allB []) := ⟨F1, hfb1, hL1⟩
  have HA1 : Hid _ := A1
  have HBB : Hid _ := b1
  clear A1 F1 b1 hL1 l1
  go_wp2_with fail
  go_loopw [6, 7] (fun okv i wr => ∃ (k : Nat) (L : Lay), okv = .bool true ∧ k ≤ T.length ∧ i = .int .i64 k ∧ FedAt W.heap.size wr fb L (szR a) (szC b) (allB (T.take k)) ∧ Below W.heap.size W wr) (fun _ i _ => T.length - (intOf i).toNat)
  case atStart => exact ⟨0, L1, rfl, Nat.zero_le _, rfl, HA1.out, HBB.out⟩
  case round =>
    clear HA1 HBB
    obtain ⟨k, L, rfl, hk, rfl, A, B⟩ := hrel
    have HA : Hid (FedAt W.heap.size wr fb L (szR a) (szC b) (allB (T.take k))) := A
    have HB : Hid (Below W.heap.size W wr) := B
    clear A B
    by_cases hlt : k < T.length
    · have ik : (k : Int) < (T.length : Int) := by omega
      obtain ⟨t, ht⟩ : ∃ t, T[k]? = some t := ⟨_, List.getElem?_eq_getElem hlt⟩
      obtain ⟨xb, xo, rfl, hxl, hxc⟩ := HTX.out k t ht
      have hcell : wr.cell? ⟨xb, xo + k, none⟩ = some (.string t) := (World.cell?_of_block (HB.out.block xb hxl)).trans hxc
      have vk : IntKind.i64.wrap ((k : Int) + 1) = (k : Int) + 1 := IntWalk.i64_in _ (by omega)
      have hOK : ((FS.fresh (szR a) (szC b)).feed (allB (T.take k))).Ok := (FS.Ok.fresh (szR_bd a) (szC_bd b)).feed _ (allB_byte _)
      have hTW : Tabs wr := HTB.out.kept (fun j hj => HB.out.block j (by omega))
      have lf := feed_any fb L _ t wr HA.out.f hOK hTW (by have := HA.out.fb; omega) (by have := HTS.out t (List.mem_of_getElem? ht); omega)
      have HTK : Hid (allB (T.take (k + 1)) = allB (T.take k) ++ bl t) := by
        obtain ⟨h1, h2⟩ := List.getElem?_eq_some_iff.1 ht
        show _ = _
        rw [List.take_succ_eq_append_getElem h1, h2, allB_snoc]
      clear hOK hTW hxc ht
      go_wp2_with fail
      refine lf.mono ?_
      rintro e w2 ⟨rfl, v2, cs2, L2, F2⟩
      have R := HA.out.feed HB.out.size HB.out F2
      rw [← HTK.out] at R
      obtain ⟨X, hX⟩ : ∃ X, X = (FS.fresh (szR a) (szC b)).feed (allB (T.take (k + 1))) := ⟨_, rfl⟩
      have HR : Hid (FedAt W.heap.size w2 fb L2 (szR a) (szC b) (allB (T.take (k + 1))) ∧ Below W.heap.size W w2) := R
      have FX : FAt w2 fb L2 X := hX ▸ R.1.f
      have RT : Rt a b X.t := by
        rw [hX]
        exact ⟨((FS.Ok.fresh (szR_bd a) (szC_bd b)).feed _ (allB_byte _)).t, fresh_fit _ _ (szR_bd a) (szC_bd b) _ (allB_byte _), fresh_rows _ _ _, fresh_cols _ _ _⟩
      have hb2 : Below W.heap.size W w2 := R.2
      clear hX R F2 lf
      have l2 := look_any fb L2 X w2 FX
      go_wp2_with fail
      refine l2.mono ?_
      rintro e w3 ⟨rfl, s3⟩
      go_wp2_with (refine wp_blkset _ rfl 56 (.tmp 8) (.tmp 34) rfl w3.heap.size [.int .i64 0, .int .i64 0, .bool false, .bool false, .bool false, .bool false, .int .i64 0, .int .i64 0, .int .i64 0, .int .i64 0, .int .i64 0, .bool false, .int .i64 0, .int .i64 0, .bool false, .bool false, .int .i64 0] (stV X.t) rfl _ rfl rfl 56 (heap_alloc_new _ _) rfl info56 (stV_one X.t) ?_)
      intro y3 g3 k3 z3
      obtain ⟨g, hg⟩ : ∃ g, g = w3.heap.size := ⟨_, rfl⟩
      rw [← hg] at g3 k3 ⊢
      have hgw : w2.heap.size ≤ g := by rw [hg]; exact s3.size
      have S3 : Sm w2 y3 := sm_new (s3.alloc _) k3 hgw
      have B3 : Below W.heap.size W y3 := hb2.trans (S3.below hb2.size (fun _ _ h => h))
      clear k3 z3 s3 l2 hg
      go_upto_region 7 with fail
      go_cut [6] (fun s6 wc => s6 = .bool true ∧ Sm y3 wc)
      case first =>
        have RG : y3.rangeAt g 0 (spotV X.t.spot) := fun j v hv => by
          rw [cell_of_row _ _ _ _ _ _ g3, Nat.zero_add]
          have hj : j < 12 := (List.getElem?_eq_some_iff.1 hv).1
          rw [← hv]
          simp only [stV, List.getElem?_toArray]
          rw [List.getElem?_append_left hj]
        have SZ3 := HSZ.out y3 B3
        have lr : ∀ u, _ := fun u => right_any a b X.t.spot u ha hb RT.inv.row0 (by rw [← RT.rows]; exact RT.inv.row1) RT.inv.col0 (by rw [← RT.cols]; exact RT.inv.col1) RT.fit.f RT.fit.sc RT.fit.u (fun h => by rw [← RT.cols]; exact RT.fit.w h)
        have hgl := blk_lt g3
        have RTC : Hid (Rt a b X.t) := RT
        have HG3 : Hid _ := g3
        clear RT FX g3
        go_wp2_with (first | (refine wpList_load_mid rfl 41 (.tmp 2) rfl w.heap.size 0 rfl [.int .i64 a, .int .i64 b] _ SZ3 Tryd.underlying41 rfl info41 ?_) | (refine wpList_load_mid rfl 54 (.tmp 36) rfl g 0 rfl (spotV X.t.spot) _ RG Tryd.underlying54 rfl info54s ?_))
        refine (lr y3).mono ?_
        rintro e z ⟨rfl, qz⟩
        have gz := (qz.block g hgl id).trans HG3.out
        have c2 : z.cell? ⟨g, 2, none⟩ = some (.bool X.t.waits) := (cell_of_row _ _ _ _ _ _ gz).trans rfl
        have c14 : z.cell? ⟨g, 14, none⟩ = some (.bool X.t.wrap) := (cell_of_row _ _ _ _ _ _ gz).trans rfl
        have c11 : z.cell? ⟨g, 11, none⟩ = some (.bool X.t.origin) := (cell_of_row _ _ _ _ _ _ gz).trans rfl
        have c0 : z.cell? ⟨g, 0, none⟩ = some (.int .i64 X.t.row) := (cell_of_row _ _ _ _ _ _ gz).trans rfl
        have c12 : z.cell? ⟨g, 12, none⟩ = some (.int .i64 X.t.top) := (cell_of_row _ _ _ _ _ _ gz).trans rfl
        have c13 : z.cell? ⟨g, 13, none⟩ = some (.int .i64 X.t.bottom) := (cell_of_row _ _ _ _ _ _ gz).trans rfl
        clear gz lr SZ3 RG
        have hwr := RTC.out.fit.wr
        have ho := RTC.out.fit.o
        rcases hwv : X.t.waits with _ | _
        all_goals rcases hov : X.t.origin with _ | _
        all_goals rw [hwv] at c2
        all_goals rw [hov] at c11
        · clear hwr ho
          go_wp2_with fail
          go_meet
          exact ⟨rfl, qz⟩
        · have h1 := (ho hov).1
          have h2 := (ho hov).2
          clear hwr ho
          go_wp2_with fail
          go_meet
          exact ⟨rfl, qz⟩
        · rw [hwr hwv] at c14
          clear hwr ho
          go_wp2_with fail
          go_meet
          exact ⟨rfl, qz⟩
        · rw [hwr hwv] at c14
          have h1 := (ho hov).1
          have h2 := (ho hov).2
          clear hwr ho
          go_wp2_with fail
          go_meet
          exact ⟨rfl, qz⟩
      case rest =>
        obtain ⟨rfl, S4⟩ := hcut
        clear HA HB
        have hgl := blk_lt g3
        have g4 := (S4.block g hgl id).trans g3
        have B4 : Below W.heap.size W wc := B3.trans (S4.below B3.size (fun _ _ h => h))
        go_upto_region 8 with fail
        go_cut [6] (fun s6 wd => s6 = .bool true ∧ Sm y3 wd)
        case first =>
          have SS : ∀ u : World, Below wc.heap.size wc u → u.rangeAt w.heap.size 0 [.int .i64 a, .int .i64 b] ∧ u.rangeAt g 0 (stV X.t) := fun u hu => ⟨HSZ.out u (B4.trans (hu.mono B4.size)), fun j v hv => by
            rw [cell_of_row _ _ _ _ _ _ ((hu.block g (blk_lt g4)).trans g4), Nat.zero_add]; simpa using hv⟩
          have HH := SS ({ wc with drawn := World.drawn wc + 1 } : World) (Below.refl _ _).drew
          have a1 : 0 ≤ X.t.top := RT.inv.top0
          have a2 : X.t.bottom < (szR a : Int) := by rw [← RT.rows]; exact RT.inv.bot
          have a3 : 0 ≤ X.t.shown := by rcases RT.inv.sh with h | h <;> omega
          have a4 : X.t.shown ≤ 1 := by rcases RT.inv.sh with h | h <;> omega
          have htb := RT.inv.tb
          by_cases hlt : X.t.top < X.t.bottom
          · clear htb
            refine wp_region_held (S := fun x => x.rangeAt w.heap.size 0 [.int .i64 a, .int .i64 b] ∧ x.rangeAt g 0 (stV X.t)) mixedC ?_
            refine takeL (i := 0) (d := 71) (v := .bool true) rfl rfl (by kernel_rfl) (by kernel_rfl) (by kernel_rfl) (fun _ _ _ h => h) (Or.inl ⟨by rfl, by intro x hSx; go_simp; try (first | rfl | go_num)⟩) HH ?_
            simp only [List.set_cons_zero, List.set_cons_succ]
            refine takeL (i := 1) (d := 72) (v := .bool true) rfl rfl (by kernel_rfl) (by kernel_rfl) (by kernel_rfl) (fun _ _ _ h => h) (Or.inl ⟨by rfl, by intro x hSx; go_simp; try (first | rfl | go_num)⟩) HH ?_
            simp only [List.set_cons_zero, List.set_cons_succ]
            refine takeL (i := 2) (d := 73) (v := .pointer (some ⟨g, 12, none⟩)) rfl rfl (by kernel_rfl) (by kernel_rfl) (by kernel_rfl) (fun _ _ _ h => h) (Or.inl ⟨by rfl, by intro x hSx; go_simp; try (first | rfl | go_num)⟩) HH ?_
            simp only [List.set_cons_zero, List.set_cons_succ]
            refine takeL (i := 3) (d := 74) (v := .int .i64 X.t.top) rfl rfl (by kernel_rfl) (by kernel_rfl) (by kernel_rfl) (fun _ _ _ h => h) (Or.inl ⟨by rfl, by intro x hSx; have hSc : x.cell? ⟨g, 12, none⟩ = some (.int .i64 X.t.top) := hSx.2 12 _ rfl; go_simp; try (first | rfl | go_num)⟩) HH ?_
            simp only [List.set_cons_zero, List.set_cons_succ]
            refine takeL (i := 4) (d := 75) (v := .bool true) rfl rfl (by kernel_rfl) (by kernel_rfl) (by kernel_rfl) (fun _ _ _ h => h) (Or.inl ⟨by rfl, by intro x hSx; go_simp; first | done | (simp; exact a1) | exact a1⟩) HH ?_
            simp only [List.set_cons_zero, List.set_cons_succ]
            refine takeL (i := 5) (d := 76) (v := .bool true) rfl rfl (by kernel_rfl) (by kernel_rfl) (by kernel_rfl) (fun _ _ _ h => h) (Or.inl ⟨by rfl, by intro x hSx; go_simp; try (first | rfl | go_num)⟩) HH ?_
            simp only [List.set_cons_zero, List.set_cons_succ]
            refine takeL (i := 6) (d := 77) (v := .bool true) rfl rfl (by kernel_rfl) (by kernel_rfl) (by kernel_rfl) (fun _ _ _ h => h) (Or.inl ⟨by rfl, by intro x hSx; go_simp; try (first | rfl | go_num)⟩) HH ?_
            simp only [List.set_cons_zero, List.set_cons_succ]
            refine takeL (i := 7) (d := 78) (v := .pointer (some ⟨g, 13, none⟩)) rfl rfl (by kernel_rfl) (by kernel_rfl) (by kernel_rfl) (fun _ _ _ h => h) (Or.inl ⟨by rfl, by intro x hSx; go_simp; try (first | rfl | go_num)⟩) HH ?_
            simp only [List.set_cons_zero, List.set_cons_succ]
            refine takeL (i := 8) (d := 79) (v := .int .i64 X.t.bottom) rfl rfl (by kernel_rfl) (by kernel_rfl) (by kernel_rfl) (fun _ _ _ h => h) (Or.inl ⟨by rfl, by intro x hSx; have hSc : x.cell? ⟨g, 13, none⟩ = some (.int .i64 X.t.bottom) := hSx.2 13 _ rfl; go_simp; try (first | rfl | go_num)⟩) HH ?_
            simp only [List.set_cons_zero, List.set_cons_succ]
            refine takeL (i := 9) (d := 80) (v := .agg #[.int .i64 a, .int .i64 b]) rfl rfl (by kernel_rfl) (by kernel_rfl) (by kernel_rfl) (fun _ _ _ h => h) (yieldsIf_load_mid (by rfl) 41 (.tmp 2) rfl w.heap.size 0 rfl [.int .i64 a, .int .i64 b] _ (fun x h => h.1) Tryd.underlying41 rfl info41) HH ?_
            simp only [List.set_cons_zero, List.set_cons_succ]
            refine wpAnyH_all (rs := [10]) (by kernel_rfl) (by simp) ?_
            intro i hi'
            rw [List.mem_singleton] at hi'
            subst hi'
            refine wpOp_step rfl fun Kq hKq => ?_
            rw [if_pos (by rfl)]
            refine wp_callL (f := 19) 81 [.tmp 80] #[41] rfl rfl [.agg #[.int .i64 a, .int .i64 b]] rfl (by kernel_rfl) (fun v w' => v = .int .i64 (szR a : Int) ∧ Below (World.heap wc).size wc w') ((srows_any a b _ ha).mono fun e w' h => ⟨_, h.1, rfl, ⟨h.2.os, h.2.tape, h.2.output, h.2.size, h.2.block⟩⟩) ?_
            rintro v2 q1 ⟨rfl, bq1⟩
            have hq1 := SS q1 bq1
            refine hKq _ _ ⟨hq1, ?_⟩
            clear hKq
            simp only [List.set_cons_zero, List.set_cons_succ]
            refine takeL (i := 11) (d := 82) (v := .bool true) rfl rfl (by kernel_rfl) (by kernel_rfl) (by kernel_rfl) (fun _ _ _ h => h) (Or.inl ⟨by rfl, by intro x hSx; go_simp; first | done | (simp; exact a2) | exact a2⟩) hq1 ?_
            simp only [List.set_cons_zero, List.set_cons_succ]
            refine takeL (i := 12) (d := 83) (v := .bool true) rfl rfl (by kernel_rfl) (by kernel_rfl) (by kernel_rfl) (fun _ _ _ h => h) (Or.inl ⟨by rfl, by intro x hSx; go_simp; try (first | rfl | go_num)⟩) hq1 ?_
            simp only [List.set_cons_zero, List.set_cons_succ]
            refine takeL (i := 13) (d := 84) (v := .bool true) rfl rfl (by kernel_rfl) (by kernel_rfl) (by kernel_rfl) (fun _ _ _ h => h) (Or.inl ⟨by rfl, by intro x hSx; go_simp; try (first | rfl | go_num)⟩) hq1 ?_
            simp only [List.set_cons_zero, List.set_cons_succ]
            refine takeL (i := 14) (d := 85) (v := .pointer (some ⟨g, 12, none⟩)) rfl rfl (by kernel_rfl) (by kernel_rfl) (by kernel_rfl) (fun _ _ _ h => h) (Or.inl ⟨by rfl, by intro x hSx; go_simp; try (first | rfl | go_num)⟩) hq1 ?_
            simp only [List.set_cons_zero, List.set_cons_succ]
            refine takeL (i := 15) (d := 86) (v := .int .i64 X.t.top) rfl rfl (by kernel_rfl) (by kernel_rfl) (by kernel_rfl) (fun _ _ _ h => h) (Or.inl ⟨by rfl, by intro x hSx; have hSc : x.cell? ⟨g, 12, none⟩ = some (.int .i64 X.t.top) := hSx.2 12 _ rfl; go_simp; try (first | rfl | go_num)⟩) hq1 ?_
            simp only [List.set_cons_zero, List.set_cons_succ]
            refine takeL (i := 16) (d := 87) (v := .pointer (some ⟨g, 13, none⟩)) rfl rfl (by kernel_rfl) (by kernel_rfl) (by kernel_rfl) (fun _ _ _ h => h) (Or.inl ⟨by rfl, by intro x hSx; go_simp; try (first | rfl | go_num)⟩) hq1 ?_
            simp only [List.set_cons_zero, List.set_cons_succ]
            refine takeL (i := 17) (d := 88) (v := .int .i64 X.t.bottom) rfl rfl (by kernel_rfl) (by kernel_rfl) (by kernel_rfl) (fun _ _ _ h => h) (Or.inl ⟨by rfl, by intro x hSx; have hSc : x.cell? ⟨g, 13, none⟩ = some (.int .i64 X.t.bottom) := hSx.2 13 _ rfl; go_simp; try (first | rfl | go_num)⟩) hq1 ?_
            simp only [List.set_cons_zero, List.set_cons_succ]
            refine takeL (i := 18) (d := 89) (v := .bool true) rfl rfl (by kernel_rfl) (by kernel_rfl) (by kernel_rfl) (fun _ _ _ h => h) (Or.inl ⟨by rfl, by intro x hSx; go_simp; first | done | (simp; exact hlt) | exact hlt⟩) hq1 ?_
            simp only [List.set_cons_zero, List.set_cons_succ]
            refine takeL (i := 19) (d := 90) (v := .bool true) rfl rfl (by kernel_rfl) (by kernel_rfl) (by kernel_rfl) (fun _ _ _ h => h) (Or.inl ⟨by rfl, by intro x hSx; go_simp; try (first | rfl | go_num)⟩) hq1 ?_
            simp only [List.set_cons_zero, List.set_cons_succ]
            refine takeL (i := 20) (d := 91) (v := undef) rfl rfl (by kernel_rfl) (by kernel_rfl) (by kernel_rfl) (fun _ _ _ h => h) (Or.inr ⟨by rfl, rfl⟩) hq1 ?_
            simp only [List.set_cons_zero, List.set_cons_succ]
            refine takeL (i := 21) (d := 92) (v := undef) rfl rfl (by kernel_rfl) (by kernel_rfl) (by kernel_rfl) (fun _ _ _ h => h) (Or.inr ⟨by rfl, rfl⟩) hq1 ?_
            simp only [List.set_cons_zero, List.set_cons_succ]
            refine takeL (i := 22) (d := 93) (v := undef) rfl rfl (by kernel_rfl) (by kernel_rfl) (by kernel_rfl) (fun _ _ _ h => h) (Or.inr ⟨by rfl, rfl⟩) hq1 ?_
            simp only [List.set_cons_zero, List.set_cons_succ]
            refine takeL (i := 23) (d := 94) (v := undef) rfl rfl (by kernel_rfl) (by kernel_rfl) (by kernel_rfl) (fun _ _ _ h => h) (Or.inr ⟨by rfl, rfl⟩) hq1 ?_
            simp only [List.set_cons_zero, List.set_cons_succ]
            refine takeL (i := 24) (d := 95) (v := undef) rfl rfl (by kernel_rfl) (by kernel_rfl) (by kernel_rfl) (fun _ _ _ h => h) (Or.inr ⟨by rfl, rfl⟩) hq1 ?_
            simp only [List.set_cons_zero, List.set_cons_succ]
            refine takeL (i := 25) (d := 96) (v := undef) rfl rfl (by kernel_rfl) (by kernel_rfl) (by kernel_rfl) (fun _ _ _ h => h) (Or.inr ⟨by rfl, rfl⟩) hq1 ?_
            simp only [List.set_cons_zero, List.set_cons_succ]
            refine takeL (i := 26) (d := 97) (v := undef) rfl rfl (by kernel_rfl) (by kernel_rfl) (by kernel_rfl) (fun _ _ _ h => h) (Or.inr ⟨by rfl, rfl⟩) hq1 ?_
            simp only [List.set_cons_zero, List.set_cons_succ]
            refine takeL (i := 27) (d := 98) (v := undef) rfl rfl (by kernel_rfl) (by kernel_rfl) (by kernel_rfl) (fun _ _ _ h => h) (Or.inr ⟨by rfl, rfl⟩) hq1 ?_
            simp only [List.set_cons_zero, List.set_cons_succ]
            refine takeL (i := 28) (d := 99) (v := undef) rfl rfl (by kernel_rfl) (by kernel_rfl) (by kernel_rfl) (fun _ _ _ h => h) (Or.inr ⟨by rfl, rfl⟩) hq1 ?_
            simp only [List.set_cons_zero, List.set_cons_succ]
            refine takeL (i := 29) (d := 100) (v := undef) rfl rfl (by kernel_rfl) (by kernel_rfl) (by kernel_rfl) (fun _ _ _ h => h) (Or.inr ⟨by rfl, rfl⟩) hq1 ?_
            simp only [List.set_cons_zero, List.set_cons_succ]
            refine takeL (i := 30) (d := 101) (v := undef) rfl rfl (by kernel_rfl) (by kernel_rfl) (by kernel_rfl) (fun _ _ _ h => h) (Or.inr ⟨by rfl, rfl⟩) hq1 ?_
            simp only [List.set_cons_zero, List.set_cons_succ]
            refine takeL (i := 31) (d := 102) (v := undef) rfl rfl (by kernel_rfl) (by kernel_rfl) (by kernel_rfl) (fun _ _ _ h => h) (Or.inr ⟨by rfl, rfl⟩) hq1 ?_
            simp only [List.set_cons_zero, List.set_cons_succ]
            refine takeL (i := 32) (d := 103) (v := undef) rfl rfl (by kernel_rfl) (by kernel_rfl) (by kernel_rfl) (fun _ _ _ h => h) (Or.inr ⟨by rfl, rfl⟩) hq1 ?_
            simp only [List.set_cons_zero, List.set_cons_succ]
            refine takeL (i := 33) (d := 104) (v := .bool true) rfl rfl (by kernel_rfl) (by kernel_rfl) (by kernel_rfl) (fun _ _ _ h => h) (Or.inl ⟨by rfl, by intro x hSx; go_simp; try (first | rfl | go_num)⟩) hq1 ?_
            simp only [List.set_cons_zero, List.set_cons_succ]
            refine takeL (i := 34) (d := 105) (v := .bool true) rfl rfl (by kernel_rfl) (by kernel_rfl) (by kernel_rfl) (fun _ _ _ h => h) (Or.inl ⟨by rfl, by intro x hSx; go_simp; try (first | rfl | go_num)⟩) hq1 ?_
            simp only [List.set_cons_zero, List.set_cons_succ]
            refine takeL (i := 35) (d := 106) (v := .bool true) rfl rfl (by kernel_rfl) (by kernel_rfl) (by kernel_rfl) (fun _ _ _ h => h) (Or.inl ⟨by rfl, by intro x hSx; go_simp; try (first | rfl | go_num)⟩) hq1 ?_
            simp only [List.set_cons_zero, List.set_cons_succ]
            refine takeL (i := 36) (d := 107) (v := .pointer (some ⟨g, 16, none⟩)) rfl rfl (by kernel_rfl) (by kernel_rfl) (by kernel_rfl) (fun _ _ _ h => h) (Or.inl ⟨by rfl, by intro x hSx; go_simp; try (first | rfl | go_num)⟩) hq1 ?_
            simp only [List.set_cons_zero, List.set_cons_succ]
            refine takeL (i := 37) (d := 108) (v := .int .i64 X.t.shown) rfl rfl (by kernel_rfl) (by kernel_rfl) (by kernel_rfl) (fun _ _ _ h => h) (Or.inl ⟨by rfl, by intro x hSx; have hSc : x.cell? ⟨g, 16, none⟩ = some (.int .i64 X.t.shown) := hSx.2 16 _ rfl; go_simp; try (first | rfl | go_num)⟩) hq1 ?_
            simp only [List.set_cons_zero, List.set_cons_succ]
            refine takeL (i := 38) (d := 109) (v := .bool true) rfl rfl (by kernel_rfl) (by kernel_rfl) (by kernel_rfl) (fun _ _ _ h => h) (Or.inl ⟨by rfl, by intro x hSx; go_simp; first | done | (simp; exact a3) | exact a3⟩) hq1 ?_
            simp only [List.set_cons_zero, List.set_cons_succ]
            refine takeL (i := 39) (d := 110) (v := .bool true) rfl rfl (by kernel_rfl) (by kernel_rfl) (by kernel_rfl) (fun _ _ _ h => h) (Or.inl ⟨by rfl, by intro x hSx; go_simp; try (first | rfl | go_num)⟩) hq1 ?_
            simp only [List.set_cons_zero, List.set_cons_succ]
            refine takeL (i := 40) (d := 111) (v := .bool true) rfl rfl (by kernel_rfl) (by kernel_rfl) (by kernel_rfl) (fun _ _ _ h => h) (Or.inl ⟨by rfl, by intro x hSx; go_simp; try (first | rfl | go_num)⟩) hq1 ?_
            simp only [List.set_cons_zero, List.set_cons_succ]
            refine takeL (i := 41) (d := 112) (v := .pointer (some ⟨g, 16, none⟩)) rfl rfl (by kernel_rfl) (by kernel_rfl) (by kernel_rfl) (fun _ _ _ h => h) (Or.inl ⟨by rfl, by intro x hSx; go_simp; try (first | rfl | go_num)⟩) hq1 ?_
            simp only [List.set_cons_zero, List.set_cons_succ]
            refine takeL (i := 42) (d := 113) (v := .int .i64 X.t.shown) rfl rfl (by kernel_rfl) (by kernel_rfl) (by kernel_rfl) (fun _ _ _ h => h) (Or.inl ⟨by rfl, by intro x hSx; have hSc : x.cell? ⟨g, 16, none⟩ = some (.int .i64 X.t.shown) := hSx.2 16 _ rfl; go_simp; try (first | rfl | go_num)⟩) hq1 ?_
            simp only [List.set_cons_zero, List.set_cons_succ]
            refine takeL (i := 43) (d := 114) (v := .bool true) rfl rfl (by kernel_rfl) (by kernel_rfl) (by kernel_rfl) (fun _ _ _ h => h) (Or.inl ⟨by rfl, by intro x hSx; go_simp; first | done | (simp; exact a4) | exact a4⟩) hq1 ?_
            simp only [List.set_cons_zero, List.set_cons_succ]
            refine takeL (i := 44) (d := 115) (v := .bool true) rfl rfl (by kernel_rfl) (by kernel_rfl) (by kernel_rfl) (fun _ _ _ h => h) (Or.inl ⟨by rfl, by intro x hSx; go_simp; try (first | rfl | go_num)⟩) hq1 ?_
            simp only [List.set_cons_zero, List.set_cons_succ]
            refine takeL (i := 45) (d := 6) (v := .bool true) rfl rfl (by kernel_rfl) (by kernel_rfl) (by kernel_rfl) (fun _ _ _ h => h) (Or.inl ⟨by rfl, by intro x hSx; go_simp; try (first | rfl | go_num)⟩) hq1 ?_
            simp only [List.set_cons_zero, List.set_cons_succ]
            refine wpAnyH_done (by kernel_rfl) ?_ _
            go_wp2_with fail
            go_meet
            exact ⟨rfl, S4.trans (Ch.of_below bq1)⟩
          · have a5 : (szR a : Int) = 1 := by rcases RT.fit.tb with h | h; exact absurd h hlt; rw [← RT.rows, h]; rfl
            have a6 : X.t.top = 0 := by omega
            have a7 : X.t.bottom = 0 := by omega
            refine wp_region_held (S := fun x => x.rangeAt w.heap.size 0 [.int .i64 a, .int .i64 b] ∧ x.rangeAt g 0 (stV X.t)) mixedC ?_
            refine takeL (i := 0) (d := 71) (v := .bool true) rfl rfl (by kernel_rfl) (by kernel_rfl) (by kernel_rfl) (fun _ _ _ h => h) (Or.inl ⟨by rfl, by intro x hSx; go_simp; try (first | rfl | go_num)⟩) HH ?_
            simp only [List.set_cons_zero, List.set_cons_succ]
            refine takeL (i := 1) (d := 72) (v := .bool true) rfl rfl (by kernel_rfl) (by kernel_rfl) (by kernel_rfl) (fun _ _ _ h => h) (Or.inl ⟨by rfl, by intro x hSx; go_simp; try (first | rfl | go_num)⟩) HH ?_
            simp only [List.set_cons_zero, List.set_cons_succ]
            refine takeL (i := 2) (d := 73) (v := .pointer (some ⟨g, 12, none⟩)) rfl rfl (by kernel_rfl) (by kernel_rfl) (by kernel_rfl) (fun _ _ _ h => h) (Or.inl ⟨by rfl, by intro x hSx; go_simp; try (first | rfl | go_num)⟩) HH ?_
            simp only [List.set_cons_zero, List.set_cons_succ]
            refine takeL (i := 3) (d := 74) (v := .int .i64 X.t.top) rfl rfl (by kernel_rfl) (by kernel_rfl) (by kernel_rfl) (fun _ _ _ h => h) (Or.inl ⟨by rfl, by intro x hSx; have hSc : x.cell? ⟨g, 12, none⟩ = some (.int .i64 X.t.top) := hSx.2 12 _ rfl; go_simp; try (first | rfl | go_num)⟩) HH ?_
            simp only [List.set_cons_zero, List.set_cons_succ]
            refine takeL (i := 4) (d := 75) (v := .bool true) rfl rfl (by kernel_rfl) (by kernel_rfl) (by kernel_rfl) (fun _ _ _ h => h) (Or.inl ⟨by rfl, by intro x hSx; go_simp; first | done | (simp; exact a1) | exact a1⟩) HH ?_
            simp only [List.set_cons_zero, List.set_cons_succ]
            refine takeL (i := 5) (d := 76) (v := .bool true) rfl rfl (by kernel_rfl) (by kernel_rfl) (by kernel_rfl) (fun _ _ _ h => h) (Or.inl ⟨by rfl, by intro x hSx; go_simp; try (first | rfl | go_num)⟩) HH ?_
            simp only [List.set_cons_zero, List.set_cons_succ]
            refine takeL (i := 6) (d := 77) (v := .bool true) rfl rfl (by kernel_rfl) (by kernel_rfl) (by kernel_rfl) (fun _ _ _ h => h) (Or.inl ⟨by rfl, by intro x hSx; go_simp; try (first | rfl | go_num)⟩) HH ?_
            simp only [List.set_cons_zero, List.set_cons_succ]
            refine takeL (i := 7) (d := 78) (v := .pointer (some ⟨g, 13, none⟩)) rfl rfl (by kernel_rfl) (by kernel_rfl) (by kernel_rfl) (fun _ _ _ h => h) (Or.inl ⟨by rfl, by intro x hSx; go_simp; try (first | rfl | go_num)⟩) HH ?_
            simp only [List.set_cons_zero, List.set_cons_succ]
            refine takeL (i := 8) (d := 79) (v := .int .i64 X.t.bottom) rfl rfl (by kernel_rfl) (by kernel_rfl) (by kernel_rfl) (fun _ _ _ h => h) (Or.inl ⟨by rfl, by intro x hSx; have hSc : x.cell? ⟨g, 13, none⟩ = some (.int .i64 X.t.bottom) := hSx.2 13 _ rfl; go_simp; try (first | rfl | go_num)⟩) HH ?_
            simp only [List.set_cons_zero, List.set_cons_succ]
            refine takeL (i := 9) (d := 80) (v := .agg #[.int .i64 a, .int .i64 b]) rfl rfl (by kernel_rfl) (by kernel_rfl) (by kernel_rfl) (fun _ _ _ h => h) (yieldsIf_load_mid (by rfl) 41 (.tmp 2) rfl w.heap.size 0 rfl [.int .i64 a, .int .i64 b] _ (fun x h => h.1) Tryd.underlying41 rfl info41) HH ?_
            simp only [List.set_cons_zero, List.set_cons_succ]
            refine wpAnyH_all (rs := [10]) (by kernel_rfl) (by simp) ?_
            intro i hi'
            rw [List.mem_singleton] at hi'
            subst hi'
            refine wpOp_step rfl fun Kq hKq => ?_
            rw [if_pos (by rfl)]
            refine wp_callL (f := 19) 81 [.tmp 80] #[41] rfl rfl [.agg #[.int .i64 a, .int .i64 b]] rfl (by kernel_rfl) (fun v w' => v = .int .i64 (szR a : Int) ∧ Below (World.heap wc).size wc w') ((srows_any a b _ ha).mono fun e w' h => ⟨_, h.1, rfl, ⟨h.2.os, h.2.tape, h.2.output, h.2.size, h.2.block⟩⟩) ?_
            rintro v2 q1 ⟨rfl, bq1⟩
            have hq1 := SS q1 bq1
            refine hKq _ _ ⟨hq1, ?_⟩
            clear hKq
            simp only [List.set_cons_zero, List.set_cons_succ]
            refine takeL (i := 11) (d := 82) (v := .bool true) rfl rfl (by kernel_rfl) (by kernel_rfl) (by kernel_rfl) (fun _ _ _ h => h) (Or.inl ⟨by rfl, by intro x hSx; go_simp; first | done | (simp; exact a2) | exact a2⟩) hq1 ?_
            simp only [List.set_cons_zero, List.set_cons_succ]
            refine takeL (i := 12) (d := 83) (v := .bool true) rfl rfl (by kernel_rfl) (by kernel_rfl) (by kernel_rfl) (fun _ _ _ h => h) (Or.inl ⟨by rfl, by intro x hSx; go_simp; try (first | rfl | go_num)⟩) hq1 ?_
            simp only [List.set_cons_zero, List.set_cons_succ]
            refine takeL (i := 13) (d := 84) (v := .bool true) rfl rfl (by kernel_rfl) (by kernel_rfl) (by kernel_rfl) (fun _ _ _ h => h) (Or.inl ⟨by rfl, by intro x hSx; go_simp; try (first | rfl | go_num)⟩) hq1 ?_
            simp only [List.set_cons_zero, List.set_cons_succ]
            refine takeL (i := 14) (d := 85) (v := .pointer (some ⟨g, 12, none⟩)) rfl rfl (by kernel_rfl) (by kernel_rfl) (by kernel_rfl) (fun _ _ _ h => h) (Or.inl ⟨by rfl, by intro x hSx; go_simp; try (first | rfl | go_num)⟩) hq1 ?_
            simp only [List.set_cons_zero, List.set_cons_succ]
            refine takeL (i := 15) (d := 86) (v := .int .i64 X.t.top) rfl rfl (by kernel_rfl) (by kernel_rfl) (by kernel_rfl) (fun _ _ _ h => h) (Or.inl ⟨by rfl, by intro x hSx; have hSc : x.cell? ⟨g, 12, none⟩ = some (.int .i64 X.t.top) := hSx.2 12 _ rfl; go_simp; try (first | rfl | go_num)⟩) hq1 ?_
            simp only [List.set_cons_zero, List.set_cons_succ]
            refine takeL (i := 16) (d := 87) (v := .pointer (some ⟨g, 13, none⟩)) rfl rfl (by kernel_rfl) (by kernel_rfl) (by kernel_rfl) (fun _ _ _ h => h) (Or.inl ⟨by rfl, by intro x hSx; go_simp; try (first | rfl | go_num)⟩) hq1 ?_
            simp only [List.set_cons_zero, List.set_cons_succ]
            refine takeL (i := 17) (d := 88) (v := .int .i64 X.t.bottom) rfl rfl (by kernel_rfl) (by kernel_rfl) (by kernel_rfl) (fun _ _ _ h => h) (Or.inl ⟨by rfl, by intro x hSx; have hSc : x.cell? ⟨g, 13, none⟩ = some (.int .i64 X.t.bottom) := hSx.2 13 _ rfl; go_simp; try (first | rfl | go_num)⟩) hq1 ?_
            simp only [List.set_cons_zero, List.set_cons_succ]
            refine takeL (i := 18) (d := 89) (v := .bool false) rfl rfl (by kernel_rfl) (by kernel_rfl) (by kernel_rfl) (fun _ _ _ h => h) (Or.inl ⟨by rfl, by intro x hSx; go_simp; first | done | (simp; omega) | omega⟩) hq1 ?_
            simp only [List.set_cons_zero, List.set_cons_succ]
            refine takeL (i := 19) (d := 90) (v := .bool false) rfl rfl (by kernel_rfl) (by kernel_rfl) (by kernel_rfl) (fun _ _ _ h => h) (Or.inl ⟨by rfl, by intro x hSx; go_simp; try (first | rfl | go_num)⟩) hq1 ?_
            simp only [List.set_cons_zero, List.set_cons_succ]
            refine takeL (i := 20) (d := 91) (v := .agg #[.int .i64 a, .int .i64 b]) rfl rfl (by kernel_rfl) (by kernel_rfl) (by kernel_rfl) (fun _ _ _ h => h) (yieldsIf_load_mid (by rfl) 41 (.tmp 2) rfl w.heap.size 0 rfl [.int .i64 a, .int .i64 b] _ (fun x h => h.1) Tryd.underlying41 rfl info41) hq1 ?_
            simp only [List.set_cons_zero, List.set_cons_succ]
            refine wpAnyH_all (rs := [21]) (by kernel_rfl) (by simp) ?_
            intro i hi'
            rw [List.mem_singleton] at hi'
            subst hi'
            refine wpOp_step rfl fun Kq hKq => ?_
            rw [if_pos (by rfl)]
            refine wp_callL (f := 19) 92 [.tmp 91] #[41] rfl rfl [.agg #[.int .i64 a, .int .i64 b]] rfl (by kernel_rfl) (fun v w' => v = .int .i64 (szR a : Int) ∧ Below (World.heap wc).size wc w') ((srows_any a b _ ha).mono fun e w' h => ⟨_, h.1, rfl, bq1.trans (h.2.mono bq1.size)⟩) ?_
            rintro v2 q2 ⟨rfl, bq2⟩
            have hq2 := SS q2 bq2
            refine hKq _ _ ⟨hq2, ?_⟩
            clear hKq
            simp only [List.set_cons_zero, List.set_cons_succ]
            refine takeL (i := 22) (d := 93) (v := .bool true) rfl rfl (by kernel_rfl) (by kernel_rfl) (by kernel_rfl) (fun _ _ _ h => h) (Or.inl ⟨by rfl, by intro x hSx; go_simp; first | done | (simp; exact a5) | exact a5⟩) hq2 ?_
            simp only [List.set_cons_zero, List.set_cons_succ]
            refine takeL (i := 23) (d := 94) (v := .bool true) rfl rfl (by kernel_rfl) (by kernel_rfl) (by kernel_rfl) (fun _ _ _ h => h) (Or.inl ⟨by rfl, by intro x hSx; go_simp; try (first | rfl | go_num)⟩) hq2 ?_
            simp only [List.set_cons_zero, List.set_cons_succ]
            refine takeL (i := 24) (d := 95) (v := .pointer (some ⟨g, 12, none⟩)) rfl rfl (by kernel_rfl) (by kernel_rfl) (by kernel_rfl) (fun _ _ _ h => h) (Or.inl ⟨by rfl, by intro x hSx; go_simp; try (first | rfl | go_num)⟩) hq2 ?_
            simp only [List.set_cons_zero, List.set_cons_succ]
            refine takeL (i := 25) (d := 96) (v := .int .i64 X.t.top) rfl rfl (by kernel_rfl) (by kernel_rfl) (by kernel_rfl) (fun _ _ _ h => h) (Or.inl ⟨by rfl, by intro x hSx; have hSc : x.cell? ⟨g, 12, none⟩ = some (.int .i64 X.t.top) := hSx.2 12 _ rfl; go_simp; try (first | rfl | go_num)⟩) hq2 ?_
            simp only [List.set_cons_zero, List.set_cons_succ]
            refine takeL (i := 26) (d := 97) (v := .bool true) rfl rfl (by kernel_rfl) (by kernel_rfl) (by kernel_rfl) (fun _ _ _ h => h) (Or.inl ⟨by rfl, by intro x hSx; go_simp; first | done | (simp; exact a6) | exact a6⟩) hq2 ?_
            simp only [List.set_cons_zero, List.set_cons_succ]
            refine takeL (i := 27) (d := 98) (v := .bool true) rfl rfl (by kernel_rfl) (by kernel_rfl) (by kernel_rfl) (fun _ _ _ h => h) (Or.inl ⟨by rfl, by intro x hSx; go_simp; try (first | rfl | go_num)⟩) hq2 ?_
            simp only [List.set_cons_zero, List.set_cons_succ]
            refine takeL (i := 28) (d := 99) (v := .bool true) rfl rfl (by kernel_rfl) (by kernel_rfl) (by kernel_rfl) (fun _ _ _ h => h) (Or.inl ⟨by rfl, by intro x hSx; go_simp; try (first | rfl | go_num)⟩) hq2 ?_
            simp only [List.set_cons_zero, List.set_cons_succ]
            refine takeL (i := 29) (d := 100) (v := .pointer (some ⟨g, 13, none⟩)) rfl rfl (by kernel_rfl) (by kernel_rfl) (by kernel_rfl) (fun _ _ _ h => h) (Or.inl ⟨by rfl, by intro x hSx; go_simp; try (first | rfl | go_num)⟩) hq2 ?_
            simp only [List.set_cons_zero, List.set_cons_succ]
            refine takeL (i := 30) (d := 101) (v := .int .i64 X.t.bottom) rfl rfl (by kernel_rfl) (by kernel_rfl) (by kernel_rfl) (fun _ _ _ h => h) (Or.inl ⟨by rfl, by intro x hSx; have hSc : x.cell? ⟨g, 13, none⟩ = some (.int .i64 X.t.bottom) := hSx.2 13 _ rfl; go_simp; try (first | rfl | go_num)⟩) hq2 ?_
            simp only [List.set_cons_zero, List.set_cons_succ]
            refine takeL (i := 31) (d := 102) (v := .bool true) rfl rfl (by kernel_rfl) (by kernel_rfl) (by kernel_rfl) (fun _ _ _ h => h) (Or.inl ⟨by rfl, by intro x hSx; go_simp; first | done | (simp; exact a7) | exact a7⟩) hq2 ?_
            simp only [List.set_cons_zero, List.set_cons_succ]
            refine takeL (i := 32) (d := 103) (v := .bool true) rfl rfl (by kernel_rfl) (by kernel_rfl) (by kernel_rfl) (fun _ _ _ h => h) (Or.inl ⟨by rfl, by intro x hSx; go_simp; try (first | rfl | go_num)⟩) hq2 ?_
            simp only [List.set_cons_zero, List.set_cons_succ]
            refine takeL (i := 33) (d := 104) (v := .bool true) rfl rfl (by kernel_rfl) (by kernel_rfl) (by kernel_rfl) (fun _ _ _ h => h) (Or.inl ⟨by rfl, by intro x hSx; go_simp; try (first | rfl | go_num)⟩) hq2 ?_
            simp only [List.set_cons_zero, List.set_cons_succ]
            refine takeL (i := 34) (d := 105) (v := .bool true) rfl rfl (by kernel_rfl) (by kernel_rfl) (by kernel_rfl) (fun _ _ _ h => h) (Or.inl ⟨by rfl, by intro x hSx; go_simp; try (first | rfl | go_num)⟩) hq2 ?_
            simp only [List.set_cons_zero, List.set_cons_succ]
            refine takeL (i := 35) (d := 106) (v := .bool true) rfl rfl (by kernel_rfl) (by kernel_rfl) (by kernel_rfl) (fun _ _ _ h => h) (Or.inl ⟨by rfl, by intro x hSx; go_simp; try (first | rfl | go_num)⟩) hq2 ?_
            simp only [List.set_cons_zero, List.set_cons_succ]
            refine takeL (i := 36) (d := 107) (v := .pointer (some ⟨g, 16, none⟩)) rfl rfl (by kernel_rfl) (by kernel_rfl) (by kernel_rfl) (fun _ _ _ h => h) (Or.inl ⟨by rfl, by intro x hSx; go_simp; try (first | rfl | go_num)⟩) hq2 ?_
            simp only [List.set_cons_zero, List.set_cons_succ]
            refine takeL (i := 37) (d := 108) (v := .int .i64 X.t.shown) rfl rfl (by kernel_rfl) (by kernel_rfl) (by kernel_rfl) (fun _ _ _ h => h) (Or.inl ⟨by rfl, by intro x hSx; have hSc : x.cell? ⟨g, 16, none⟩ = some (.int .i64 X.t.shown) := hSx.2 16 _ rfl; go_simp; try (first | rfl | go_num)⟩) hq2 ?_
            simp only [List.set_cons_zero, List.set_cons_succ]
            refine takeL (i := 38) (d := 109) (v := .bool true) rfl rfl (by kernel_rfl) (by kernel_rfl) (by kernel_rfl) (fun _ _ _ h => h) (Or.inl ⟨by rfl, by intro x hSx; go_simp; first | done | (simp; exact a3) | exact a3⟩) hq2 ?_
            simp only [List.set_cons_zero, List.set_cons_succ]
            refine takeL (i := 39) (d := 110) (v := .bool true) rfl rfl (by kernel_rfl) (by kernel_rfl) (by kernel_rfl) (fun _ _ _ h => h) (Or.inl ⟨by rfl, by intro x hSx; go_simp; try (first | rfl | go_num)⟩) hq2 ?_
            simp only [List.set_cons_zero, List.set_cons_succ]
            refine takeL (i := 40) (d := 111) (v := .bool true) rfl rfl (by kernel_rfl) (by kernel_rfl) (by kernel_rfl) (fun _ _ _ h => h) (Or.inl ⟨by rfl, by intro x hSx; go_simp; try (first | rfl | go_num)⟩) hq2 ?_
            simp only [List.set_cons_zero, List.set_cons_succ]
            refine takeL (i := 41) (d := 112) (v := .pointer (some ⟨g, 16, none⟩)) rfl rfl (by kernel_rfl) (by kernel_rfl) (by kernel_rfl) (fun _ _ _ h => h) (Or.inl ⟨by rfl, by intro x hSx; go_simp; try (first | rfl | go_num)⟩) hq2 ?_
            simp only [List.set_cons_zero, List.set_cons_succ]
            refine takeL (i := 42) (d := 113) (v := .int .i64 X.t.shown) rfl rfl (by kernel_rfl) (by kernel_rfl) (by kernel_rfl) (fun _ _ _ h => h) (Or.inl ⟨by rfl, by intro x hSx; have hSc : x.cell? ⟨g, 16, none⟩ = some (.int .i64 X.t.shown) := hSx.2 16 _ rfl; go_simp; try (first | rfl | go_num)⟩) hq2 ?_
            simp only [List.set_cons_zero, List.set_cons_succ]
            refine takeL (i := 43) (d := 114) (v := .bool true) rfl rfl (by kernel_rfl) (by kernel_rfl) (by kernel_rfl) (fun _ _ _ h => h) (Or.inl ⟨by rfl, by intro x hSx; go_simp; first | done | (simp; exact a4) | exact a4⟩) hq2 ?_
            simp only [List.set_cons_zero, List.set_cons_succ]
            refine takeL (i := 44) (d := 115) (v := .bool true) rfl rfl (by kernel_rfl) (by kernel_rfl) (by kernel_rfl) (fun _ _ _ h => h) (Or.inl ⟨by rfl, by intro x hSx; go_simp; try (first | rfl | go_num)⟩) hq2 ?_
            simp only [List.set_cons_zero, List.set_cons_succ]
            refine takeL (i := 45) (d := 6) (v := .bool true) rfl rfl (by kernel_rfl) (by kernel_rfl) (by kernel_rfl) (fun _ _ _ h => h) (Or.inl ⟨by rfl, by intro x hSx; go_simp; try (first | rfl | go_num)⟩) hq2 ?_
            simp only [List.set_cons_zero, List.set_cons_succ]
            refine wpAnyH_done (by kernel_rfl) ?_ _
            go_wp2_with fail
            go_meet
            exact ⟨rfl, S4.trans (Ch.of_below bq2)⟩
        case rest =>
          obtain ⟨rfl, S5⟩ := hcut
          have HR2 : Hid (∀ u, Sm y3 u → FAt u fb L2 X) := fun u hu => FX.kept (S3.trans hu) id (fun _ _ => id)
          have HSZ2 : Hid (∀ u, Sm y3 u → u.rangeAt w.heap.size 0 [.int .i64 a, .int .i64 b]) := fun u hu => HSZ.out u (B3.trans (hu.below B3.size (fun _ _ h => h)))
          have kS : ∀ n : Nat, n < 2 → ∀ u, Sm y3 u → _ := fun n hn u hu => saved_any fb L2 X n hn u (HR2.out u hu)
          have kR : ∀ u, _ := fun u => srows_any a b u ha
          have kC : ∀ u, _ := fun u => scols_any a b u hb
          have kP : ∀ (n : Nat) (u : World), Calls Tryd.prog 27 #[.agg #[.int .i64 a, .int .i64 b], .agg (spotV (X.t.savedAt n)).toArray] u fun e w' => e = .returned (.bool true) ∧ Sm u w' := fun n u => by
            have hv : ∀ v : SpotS, (v = X.t.v0 ∨ v = X.t.v1) → Calls Tryd.prog 27 #[.agg #[.int .i64 a, .int .i64 b], .agg (spotV v).toArray] u fun e w' => e = .returned (.bool true) ∧ Sm u w' := fun v hv => by
              have i1 : (0 ≤ v.row ∧ v.row < (X.t.rows : Int)) ∧ (0 ≤ v.col ∧ v.col < (X.t.cols : Int)) ∧ v.Fit X.t.cols := by
                rcases hv with rfl | rfl
                · exact ⟨RT.inv.v0r, RT.inv.v0c, RT.fit.v0⟩
                · exact ⟨RT.inv.v1r, RT.inv.v1c, RT.fit.v1⟩
              rw [RT.rows, RT.cols] at i1
              exact right_any a b v u ha hb i1.1.1 i1.1.2 i1.2.1.1 i1.2.1.2 i1.2.2.f i1.2.2.sc i1.2.2.u i1.2.2.w
            unfold TS.savedAt
            by_cases h : n = 0
            · rw [if_pos h]; exact hv _ (.inl rfl)
            · rw [if_neg h]; exact hv _ (.inr rfl)
          have kW : ∀ n i : Nat, n < 2 → i < szR a → ∀ u, Sm y3 u → Calls Tryd.prog 29 #[.pointer (some ⟨fb, 0, none⟩), .int .i64 (n : Int), .int .i64 (i : Int), .int .i64 (szC b : Int)] u fun e w' => e = .returned (.bool true) ∧ Sm u w' := fun n i hn hi u hu => by
            have hsp : Spans u := HTB.out.sp.kept ((B3.trans (hu.below B3.size (fun _ _ h => h))).block 0 (by omega))
            have hG : GoodS X.t.cols (if n = 0 then X.t.s0 else X.t.s1) := by split; exact RT.fit.g0; exact RT.fit.g1
            have hL : (if n = 0 then X.t.s0 else X.t.s1).length = X.t.rows := by split; exact RT.inv.l0; exact RT.inv.l1
            have hi' : i < X.t.rows := by rw [RT.rows]; exact hi
            have := brow_any fb L2 X n i hn hi' u (HR2.out u hu) RT.inv hsp (by have := hu.size; have := B3.size; omega) (hG.getD (by rw [hL]; exact hi')).1 (hG.getD (by rw [hL]; exact hi')).2
            rw [RT.cols] at this
            exact this
          have HEND : Hid (∀ u, Sm y3 u → FedAt W.heap.size u fb L2 (szR a) (szC b) (allB (T.take (k + 1))) ∧ Below W.heap.size W u) := fun u hu => ⟨⟨HR.out.1.f.kept (S3.trans hu) id (fun _ _ => id), HR.out.1.fb, HR.out.1.own⟩, B3.trans (hu.below B3.size (fun _ _ h => h))⟩
          clear RT FX HTX HTS HTB HSZ HR g3 g4 B3 B4 S3 S4 hb2 HTK
          go_wp2_with fail
          go_loopw [6, 9] (fun okv nv wq => ∃ n : Nat, okv = .bool true ∧ n ≤ 2 ∧ nv = .int .i64 n ∧ Sm y3 wq) (fun _ nv _ => 2 - (intOf nv).toNat)
          case atStart => exact ⟨0, rfl, by omega, rfl, S5⟩
          case round =>
            clear S5
            obtain ⟨n, rfl, hn, rfl, S6⟩ := hrel
            by_cases hn2 : n < 2
            · have i2 : (n : Int) < 2 := by omega
              have vn : IntKind.i64.wrap ((n : Int) + 1) = (n : Int) + 1 := IntWalk.i64_in _ (by omega)
              go_wp2_with fail
              refine (kS n hn2 _ S6).mono ?_
              rintro e x1 ⟨rfl, q1⟩
              go_wp2_with (refine wp_blkset _ rfl 54 (.tmp 10) (.tmp 127) rfl x1.heap.size [.int .i64 0, .int .i64 0, .bool false, .bool false, .bool false, .bool false, .int .i64 0, .int .i64 0, .int .i64 0, .int .i64 0, .int .i64 0, .bool false] (spotV (X.t.savedAt n)) rfl _ rfl rfl 54 (heap_alloc_new _ _) rfl info54s (spotV_one _) ?_)
              intro y1 g1 k1 z1
              have Sy1 : Sm y3 y1 := sm_new ((S6.trans q1).alloc _) k1 (by have := S6.size; have := q1.size; omega)
              have RS1 : y1.rangeAt x1.heap.size 0 (spotV (X.t.savedAt n)) := fun j v hv => by
                rw [cell_of_row _ _ _ _ _ _ g1, Nat.zero_add]; simpa using hv
              clear k1 z1 q1 g1 S6
              have l5 := kP n
              have SZ5 := HSZ2.out y1 Sy1
              generalize X.t.savedAt n = sv at *
              go_wp2_with (first | (refine gb_load_size (by rfl) (.tmp 2) rfl w.heap.size rfl [.int .i64 a, .int .i64 b] rfl SZ5 ?_) | (refine gb_load_spot (by rfl) (.tmp 10) rfl x1.heap.size rfl sv RS1 ?_) | (go_at_call 27; refine (l5 _).mono ?_; rintro e z5 ⟨rfl, q5⟩))
              have S7 : Sm y3 z5 := Sy1.trans q5
              clear q5 Sy1 RS1 SZ5 l5
              go_loopw [6, 12] (fun okv rv wq => ∃ r : Nat, okv = .bool true ∧ r ≤ szR a ∧ rv = .int .i64 r ∧ Sm y3 wq) (fun _ rv _ => szR a - (intOf rv).toNat)
              case atStart => exact ⟨0, rfl, Nat.zero_le _, rfl, S7⟩
              case round =>
                clear S7
                obtain ⟨r, rfl, hr, rfl, S8⟩ := hrel
                have SZ8 := HSZ2.out _ S8
                by_cases hr2 : r < szR a
                · have ir : (r : Int) < (szR a : Int) := by omega
                  have vr : IntKind.i64.wrap ((r : Int) + 1) = (r : Int) + 1 := IntWalk.i64_in _ (by omega)
                  go_wp2_with (first | (refine gb_load_size (by rfl) (.tmp 2) rfl w.heap.size rfl [.int .i64 a, .int .i64 b] rfl SZ8 ?_))
                  refine (kR _).mono ?_
                  rintro e z8 ⟨rfl, b8⟩
                  have S9 : Sm y3 z8 := S8.trans (Ch.of_below b8)
                  have SZ9 := HSZ2.out _ S9
                  clear b8 S8 SZ8
                  go_wp2_with (refine wpList_load_mid rfl 41 (.tmp 2) rfl w.heap.size 0 rfl [.int .i64 a, .int .i64 b] _ SZ9 Tryd.underlying41 rfl info41 ?_)
                  refine (kC _).mono ?_
                  rintro e z9 ⟨rfl, b9⟩
                  have S10 : Sm y3 z9 := S9.trans (Ch.of_below b9)
                  clear b9 S9 SZ9
                  go_wp2_with fail
                  refine (kW n r hn2 hr2 _ S10).mono ?_
                  rintro e z10 ⟨rfl, q10⟩
                  go_wp2_with fail
                  go_roundw
                  case rel => exact ⟨r + 1, rfl, by omega, by go_num, S10.trans q10⟩
                  case measure => simp [intOf]; omega
                · have ir : decide ((r : Int) < (szR a : Int)) = false := by simp; omega
                  go_wp2_with (first | (refine gb_load_size (by rfl) (.tmp 2) rfl w.heap.size rfl [.int .i64 a, .int .i64 b] rfl SZ8 ?_))
                  refine (kR _).mono ?_
                  rintro e z8 ⟨rfl, b8⟩
                  have S9 : Sm y3 z8 := S8.trans (Ch.of_below b8)
                  clear b8 S8 SZ8
                  go_wp2_with fail
                  go_roundw
                  case rel => exact ⟨n + 1, rfl, by omega, by go_num, S9⟩
                  case measure => simp [intOf]; omega
            · have i2 : decide ((n : Int) < 2) = false := by simp; omega
              go_wp2_with fail
              go_roundw
              case rel => exact ⟨k + 1, L2, rfl, by omega, by go_num, (HEND.out _ S6).1, (HEND.out _ S6).2⟩
              case measure => simp [intOf]; omega
    · have dk : decide ((k : Int) < (T.length : Int)) = false := by simp; omega
      go_wp2_with fail
      go_ret
      exact ⟨rfl, HBW.out.trans (HB.out.mono (by omega))⟩
end Go.Proofs.YtheibfffilomcaaDoor
