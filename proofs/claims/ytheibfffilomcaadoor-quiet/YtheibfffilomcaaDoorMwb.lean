/- The walks of the machine of modes: its numbers. -/
import Derived.Test.YtheibfffilomcaaDoorMwa
namespace Go.Proofs.YtheibfffilomcaaDoor
open Go.RowKit

theorem Km.set {mb mo : Nat} {w : World} (j : Nat) (x : Value) (hj : j < 19) : Km mb mo w (w.setCell ⟨mb, mo + j, none⟩ x) := by
  refine ⟨rfl, rfl, rfl, by simp [World.setCell], fun k _ hn => Below.heap_setCell _ _ _ _ hn, fun o ho => cell_set_other _ _ _ _ _ (by omega), fun o => ?_⟩
  simp
theorem MAt.set {w : World} {mb mo : Nat} {s s' : MS} (h : MAt w mb mo s) (j : Nat) (x : Int) (hj : j < 19) (hl : s'.l = s.l.set j x) (hp : s'.ps.length = 16) : MAt (w.setCell ⟨mb, mo + j, none⟩ (.int .i64 x)) mb mo s' := by
  refine ⟨hp, fun i v hv => ?_, fun i hi => ?_⟩
  · rw [hl] at hv
    have hlen := h.l_len
    have hi : i < 19 := by
      have := (List.getElem?_eq_some_iff.1 hv).1
      simp [intC, hlen] at this
      exact this
    by_cases hij : j = i
    · subst hij
      have hv' : (intC (s.l.set j x))[j]? = some (.int .i64 x) := by
        rw [intC_get _ _ (by simp [hlen]; exact hj)]
        simp [List.getD, hlen, hj]
      rw [hv'] at hv
      cases hv
      exact World.cell?_setCell_same _ _ _ (h.at j hj)
    · rw [cell_set_other _ _ _ _ _ (by omega)]
      have : (intC (s.l.set j x))[i]? = (intC s.l)[i]? := by
        simp only [intC, List.getElem?_map, List.getElem?_set_ne hij]
      rw [this] at hv
      exact h.rng i v hv
  · simp only [World.frozen?_setCell]
    exact h.fr i hi
theorem MAt.setP {w : World} {mb mo : Nat} {s : MS} (h : MAt w mb mo s) (k : Nat) (x : Int) (hk : k < 16) : MAt (w.setCell ⟨mb, mo + 3 + k, none⟩ (.int .i64 x)) mb mo ⟨s.md, s.mr, s.ct, s.ps.set k x⟩ := by
  have := h.set (s' := ⟨s.md, s.mr, s.ct, s.ps.set k x⟩) (3 + k) x (by omega) (by simp [MS.l, show 3 + k = k + 1 + 1 + 1 by omega]) (by simp [h.len])
  rw [← Nat.add_assoc] at this
  exact this
theorem MAt.setC {w : World} {mb mo : Nat} {s : MS} (h : MAt w mb mo s) (x : Int) : MAt (w.setCell ⟨mb, mo + 2, none⟩ (.int .i64 x)) mb mo ⟨s.md, s.mr, x, s.ps⟩ :=
  h.set (s' := ⟨s.md, s.mr, x, s.ps⟩) 2 x (by omega) rfl h.len
theorem MAt.setR {w : World} {mb mo : Nat} {s : MS} (h : MAt w mb mo s) (x : Int) : MAt (w.setCell ⟨mb, mo + 1, none⟩ (.int .i64 x)) mb mo ⟨s.md, x, s.ct, s.ps⟩ :=
  h.set (s' := ⟨s.md, x, s.ct, s.ps⟩) 1 x (by omega) rfl h.len
theorem MAt.setM {w : World} {mb mo : Nat} {s : MS} (h : MAt w mb mo s) (x : Int) : MAt (w.setCell ⟨mb, mo, none⟩ (.int .i64 x)) mb mo ⟨x, s.mr, s.ct, s.ps⟩ :=
  h.set (s' := ⟨x, s.mr, s.ct, s.ps⟩) 0 x (by omega) rfl h.len
theorem MAt.drew {w : World} {mb mo : Nat} {s : MS} (h : MAt w mb mo s) : MAt w.drew mb mo s := h.kept rfl
theorem Km.drew {mb mo : Nat} {w u : World} (h : Km mb mo w u) : Km mb mo w u.drew := ⟨h.os, h.tape, h.output, h.size, h.block, h.cell, h.frozen⟩

set_option maxHeartbeats 1000000 in
theorem begNum_walk (mb mo : Nat) (s : MS) (w : World) (h : MAt w mb mo s) (h0 : 0 ≤ s.ct) (h1 : s.ct ≤ 17) :
    Calls Tryd.prog 94 #[.pointer (some ⟨mb, mo, none⟩)] w fun e w' => e = .returned (.tuple #[]) ∧ MAt w' mb mo s.begNum ∧ Km mb mo w w' := by
  obtain ⟨k, hk⟩ := Int.eq_ofNat_of_zero_le h0
  have c2 := h.c2
  have f2 := h.fr 2 (by omega)
  rw [hk] at c2
  by_cases hlt : k < 16
  · have cp := h.cp k hlt
    have fp := h.fr (3 + k) (by omega)
    rw [← Nat.add_assoc] at fp
    have hmin : min ((k : Int) + 1) 17 = (k : Int) + 1 := by omega
    have e : s.begNum = ⟨s.md, s.mr, (k : Int) + 1, s.ps.set k (-1)⟩ := by
      unfold MS.begNum
      rw [hk, if_pos (by omega), hmin]; rfl
    have i1 : (k : Int) < 16 := by omega
    have R : MAt ((w.setCell ⟨mb, mo + 3 + k, none⟩ (.int .i64 (-1))).setCell ⟨mb, mo + 2, none⟩ (.int .i64 ((k : Int) + 1))) mb mo s.begNum := by
      rw [e]; exact (h.setP k (-1) hlt).setC _
    have K : Km mb mo w ((w.setCell ⟨mb, mo + 3 + k, none⟩ (.int .i64 (-1))).setCell ⟨mb, mo + 2, none⟩ (.int .i64 ((k : Int) + 1))) := by
      have k1 : Km mb mo w (w.setCell ⟨mb, mo + (3 + k), none⟩ (.int .i64 (-1))) := Km.set (3 + k) _ (by omega)
      rw [← Nat.add_assoc] at k1
      exact k1.trans (Km.set 2 _ (by omega))
    clear e hk
    go_enter Tryd.func94, Tryd.ntmps94
    go_wp2_with fail
    go_region
    all_goals go_wp2_with fail
    all_goals go_end0
    all_goals exact ⟨rfl, R.drew, K.drew⟩
  · have hmin : min ((k : Int) + 1) 17 = 17 := by omega
    have e : s.begNum = ⟨s.md, s.mr, 17, s.ps⟩ := by
      unfold MS.begNum
      rw [hk, if_neg (by omega), hmin]
    have i1 : ¬ (k : Int) < 16 := by omega
    have R : MAt (w.setCell ⟨mb, mo + 2, none⟩ (.int .i64 17)) mb mo s.begNum := by
      rw [e]; exact h.setC _
    have K : Km mb mo w (w.setCell ⟨mb, mo + 2, none⟩ (.int .i64 17)) := Km.set 2 _ (by omega)
    have hk17 : k ≤ 17 := by omega
    clear e hk
    rcases (show k = 16 ∨ k = 17 by omega) with rfl | rfl
    · clear i1 hmin
      go_enter Tryd.func94, Tryd.ntmps94
      go_wp2_with fail
      go_end0
      exact ⟨rfl, R, K⟩
    · clear i1 hmin
      go_enter Tryd.func94, Tryd.ntmps94
      go_wp2_with fail
      go_end0
      exact ⟨rfl, R, K⟩

theorem max0 {x : Int} (h : -1 ≤ x) (h' : x ≤ 65535) : 0 ≤ max x 0 ∧ max x 0 ≤ 65535 := by omega

set_option maxHeartbeats 1000000 in
theorem joinDig_walk (mb mo : Nat) (s : MS) (d : Int) (w : World) (h : MAt w mb mo s) (hs : s.ok) (h1 : 1 ≤ s.ct) (hd0 : 0 ≤ d) (hd1 : d ≤ 9) :
    Calls Tryd.prog 96 #[.pointer (some ⟨mb, mo, none⟩), .int .i64 d] w fun e w' => e = .returned (.tuple #[]) ∧ MAt w' mb mo (s.joinDig d) ∧ Km mb mo w w' := by
  have c2 := h.c2
  have h17 := hs.c1
  by_cases hgt : 16 < s.ct
  · have e : s.joinDig d = s := by simp [MS.joinDig, hgt]
    rw [e]; clear e
    go_enter Tryd.func96, Tryd.ntmps96
    go_wp2_with fail
    refine bodyPost_ret (results_none rfl _ _ _) rfl ?_
    exact ⟨rfl, h, Km.refl _ _ _⟩
  · obtain ⟨k, hk⟩ := Int.eq_ofNat_of_zero_le (show 0 ≤ s.ct - 1 by omega)
    have hk1 : s.ct = (k : Int) + 1 := by omega
    have hk16 : k < 16 := by omega
    have cp := h.cp k hk16
    have fp := h.fr (3 + k) (by omega)
    rw [← Nat.add_assoc] at fp
    have hx := getD_bd hs.p k
    have e : s.joinDig d = ⟨s.md, s.mr, s.ct, s.ps.set k (min (max (s.ps.getD k 0) 0 * 10 + d) 65535)⟩ := by
      unfold MS.joinDig
      rw [if_neg hgt, hk]; rfl
    have R : MAt (w.setCell ⟨mb, mo + 3 + k, none⟩ (.int .i64 (min (max (s.ps.getD k 0) 0 * 10 + d) 65535))) mb mo (s.joinDig d) := by
      rw [e]; exact h.setP k _ hk16
    have K : Km mb mo w (w.setCell ⟨mb, mo + 3 + k, none⟩ (.int .i64 (min (max (s.ps.getD k 0) 0 * 10 + d) 65535))) := by
      have k1 : Km mb mo w (w.setCell ⟨mb, mo + (3 + k), none⟩ (.int .i64 (min (max (s.ps.getD k 0) 0 * 10 + d) 65535))) := Km.set (3 + k) _ (by omega)
      rw [← Nat.add_assoc] at k1
      exact k1
    rw [hk1] at c2
    have i1 : (k : Int) < 16 := by omega
    have hg2 : ¬ 16 < (k : Int) + 1 := by omega
    generalize s.ps.getD k 0 = x at *
    clear e hk hk1 hgt h17
    rcases (show x < 0 ∨ x = 0 ∨ 0 < x by omega) with hx0 | rfl | hx0
    · have ez : min (max x 0 * 10 + d) 65535 = d := by omega
      rw [ez] at R K
      clear ez
      have hd : d ≤ 65535 := by omega
      go_enter Tryd.func96, Tryd.ntmps96
      go_wp2_with fail
      go_region
      all_goals go_wp2_with fail
      all_goals go_region
      all_goals go_wp2_with fail
      all_goals go_end0
      all_goals exact ⟨rfl, R.kept rfl, K.trans ⟨rfl, rfl, rfl, Nat.le_refl _, fun _ _ _ => rfl, fun _ _ => rfl, fun _ => rfl⟩⟩
    · have ez : min (max 0 0 * 10 + d) 65535 = d := by omega
      rw [ez] at R K
      clear ez
      have hd : d ≤ 65535 := by omega
      go_enter Tryd.func96, Tryd.ntmps96
      go_wp2_with fail
      go_region
      all_goals go_wp2_with fail
      all_goals go_region
      all_goals go_wp2_with fail
      all_goals go_end0
      all_goals exact ⟨rfl, R.kept rfl, K.trans ⟨rfl, rfl, rfl, Nat.le_refl _, fun _ _ _ => rfl, fun _ _ => rfl, fun _ => rfl⟩⟩
    · have hx1 : 0 ≤ x := by omega
      by_cases hbig : x * 10 + d ≤ 65535
      · have ez : min (max x 0 * 10 + d) 65535 = x * 10 + d := by omega
        rw [ez] at R K
        clear ez
        go_enter Tryd.func96, Tryd.ntmps96
        go_wp2_with fail
        go_region
        all_goals go_wp2_with fail
        all_goals go_region
        all_goals go_wp2_with fail
        all_goals go_end0
        all_goals exact ⟨rfl, R.kept rfl, K.trans ⟨rfl, rfl, rfl, Nat.le_refl _, fun _ _ _ => rfl, fun _ _ => rfl, fun _ => rfl⟩⟩
      · have ez : min (max x 0 * 10 + d) 65535 = 65535 := by omega
        rw [ez] at R K
        clear ez
        go_enter Tryd.func96, Tryd.ntmps96
        go_wp2_with fail
        go_region
        all_goals go_wp2_with fail
        all_goals go_region
        all_goals go_wp2_with fail
        all_goals go_end0
        all_goals exact ⟨rfl, R.kept rfl, K.trans ⟨rfl, rfl, rfl, Nat.le_refl _, fun _ _ _ => rfl, fun _ _ => rfl, fun _ => rfl⟩⟩

end Go.Proofs.YtheibfffilomcaaDoor
