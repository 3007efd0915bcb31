/- Mwa Mwb Mwc together. -/
import Derived.Test.YtheibfffilomcaaGreatDoorMdef
import Derived.StillTail
import Derived.StillTactics

/- The walks of the machine of modes: its small functions. -/
namespace Go.Proofs.YtheibfffilomcaaGreatDoor
open Go.RowKit

set_option maxHeartbeats 400000 in
theorem final_any (c : Int) (w : World) : Calls Tryz.prog 97 #[.int .i64 c] w fun e w' => e = .returned (.bool (finalN c)) ∧ w = w' := by
  by_cases c1 : 64 ≤ c
  · by_cases c2 : c ≤ 126
    · have e : finalN c = true := by simp [finalN, c1, c2]
      rw [e]; clear e
      go_enter Tryz.func97, Tryz.ntmps97
      go_wp2
      go_ret
      exact ⟨rfl, rfl⟩
    · have e : finalN c = false := by simp [finalN, c2]
      have d2 : decide (c ≤ 126) = false := by simp [c2]
      rw [e]; clear e
      go_enter Tryz.func97, Tryz.ntmps97
      go_wp2
      go_ret
      exact ⟨rfl, rfl⟩
  · have e : finalN c = false := by simp [finalN, c1]
    have d2 : decide (64 ≤ c) = false := by simp [c1]
    rw [e]; clear e
    go_enter Tryz.func97, Tryz.ntmps97
    go_wp2
    go_ret
    exact ⟨rfl, rfl⟩
theorem final_is (c : Int) (t : Bool) (w : World) (h : finalN c = t) : Calls Tryz.prog 97 #[.int .i64 c] w fun e w' => e = .returned (.bool t) ∧ w = w' := h ▸ final_any c w

set_option maxHeartbeats 400000 in
theorem mark2_any (c : Int) (w : World) : Calls Tryz.prog 95 #[.int .i64 c] w fun e w' => e = .returned (.bool (markN c)) ∧ w = w' := by
  by_cases h0 : c = 63
  · have e : markN c = true := by simp [markN, h0]
    rw [e]; clear e
    subst h0
    go_enter Tryz.func95, Tryz.ntmps95
    go_wp2
    go_ret
    exact ⟨rfl, rfl⟩
  · by_cases h1 : c = 62
    · have e : markN c = true := by simp [markN, h1]
      rw [e]; clear e
      subst h1
      clear h0
      go_enter Tryz.func95, Tryz.ntmps95
      go_wp2
      go_ret
      exact ⟨rfl, rfl⟩
    · by_cases h2 : c = 61
      · have e : markN c = true := by simp [markN, h2]
        rw [e]; clear e
        subst h2
        clear h0 h1
        go_enter Tryz.func95, Tryz.ntmps95
        go_wp2
        go_ret
        exact ⟨rfl, rfl⟩
      · by_cases h3 : c = 60
        · have e : markN c = true := by simp [markN, h3]
          rw [e]; clear e
          subst h3
          clear h0 h1 h2
          go_enter Tryz.func95, Tryz.ntmps95
          go_wp2
          go_ret
          exact ⟨rfl, rfl⟩
        · have e : markN c = false := by simp [markN, h0, h1, h2, h3]
          have b0 : (c == 63) = false := by simp [h0]
          have b1 : (c == 62) = false := by simp [h1]
          have b2 : (c == 61) = false := by simp [h2]
          have b3 : (c == 60) = false := by simp [h3]
          rw [e]; clear e h0 h1 h2 h3
          go_enter Tryz.func95, Tryz.ntmps95
          go_wp2
          go_ret
          exact ⟨rfl, rfl⟩
theorem mark2_is (c : Int) (t : Bool) (w : World) (h : markN c = t) : Calls Tryz.prog 95 #[.int .i64 c] w fun e w' => e = .returned (.bool t) ∧ w = w' := h ▸ mark2_any c w

set_option maxHeartbeats 400000 in
theorem text_any (c : Int) (w : World) : Calls Tryz.prog 163 #[.int .i64 c] w fun e w' => e = .returned (.bool (textN c)) ∧ w = w' := by
  by_cases h0 : c = 93
  · have e : textN c = true := by simp [textN, h0]
    rw [e]; clear e
    subst h0
    go_enter Tryz.func163, Tryz.ntmps163
    go_wp2
    go_ret
    exact ⟨rfl, rfl⟩
  · by_cases h1 : c = 80
    · have e : textN c = true := by simp [textN, h1]
      rw [e]; clear e
      subst h1
      clear h0
      go_enter Tryz.func163, Tryz.ntmps163
      go_wp2
      go_ret
      exact ⟨rfl, rfl⟩
    · by_cases h2 : c = 88
      · have e : textN c = true := by simp [textN, h2]
        rw [e]; clear e
        subst h2
        clear h0 h1
        go_enter Tryz.func163, Tryz.ntmps163
        go_wp2
        go_ret
        exact ⟨rfl, rfl⟩
      · by_cases h3 : c = 94
        · have e : textN c = true := by simp [textN, h3]
          rw [e]; clear e
          subst h3
          clear h0 h1 h2
          go_enter Tryz.func163, Tryz.ntmps163
          go_wp2
          go_ret
          exact ⟨rfl, rfl⟩
        · by_cases h4 : c = 95
          · have e : textN c = true := by simp [textN, h4]
            rw [e]; clear e
            subst h4
            clear h0 h1 h2 h3
            go_enter Tryz.func163, Tryz.ntmps163
            go_wp2
            go_ret
            exact ⟨rfl, rfl⟩
          · have e : textN c = false := by simp [textN, h0, h1, h2, h3, h4]
            have b0 : (c == 93) = false := by simp [h0]
            have b1 : (c == 80) = false := by simp [h1]
            have b2 : (c == 88) = false := by simp [h2]
            have b3 : (c == 94) = false := by simp [h3]
            have b4 : (c == 95) = false := by simp [h4]
            rw [e]; clear e h0 h1 h2 h3 h4
            go_enter Tryz.func163, Tryz.ntmps163
            go_wp2
            go_ret
            exact ⟨rfl, rfl⟩
theorem text_is (c : Int) (t : Bool) (w : World) (h : textN c = t) : Calls Tryz.prog 163 #[.int .i64 c] w fun e w' => e = .returned (.bool t) ∧ w = w' := h ▸ text_any c w

set_option maxHeartbeats 1000000 in
theorem skip_walk (mb mo : Nat) (s : MS) (c : Int) (w : World) (h : MAt w mb mo s) :
    Calls Tryz.prog 53 #[.pointer (some ⟨mb, mo, none⟩), .int .i64 c] w fun e w' => e = .returned (.tuple #[]) ∧ MAt w' mb mo (s.skip c) ∧ Km mb mo w w' := by
  by_cases h1 : c = 7
  · have e : s.skip c = .zero := by simp [MS.skip, h1]
    rw [e]; clear e
    subst h1
    go_enter Tryz.func53, Tryz.ntmps53
    go_wp2_with (refine wp_mset _ rfl (.tmp 12) (.tmp 11) rfl mb mo s .zero rfl _ rfl ?a1 z16_length h ?_)
    case a1 => rfl
    intro u hm hk _
    go_wp2_with fail
    go_end0
    exact ⟨rfl, hm, hk⟩
  · by_cases h2 : c = 156
    · have e : s.skip c = .zero := by simp [MS.skip, h2]
      rw [e]; clear e
      subst h2
      go_enter Tryz.func53, Tryz.ntmps53
      go_wp2_with (refine wp_mset _ rfl (.tmp 12) (.tmp 11) rfl mb mo s .zero rfl _ rfl ?a1 z16_length h ?_)
      case a1 => rfl
      intro u hm hk _
      go_wp2_with fail
      go_end0
      exact ⟨rfl, hm, hk⟩
    · have e : s.skip c = s := by simp [MS.skip, h1, h2]
      rw [e]; clear e
      have b1 : (c == 7) = false := by simp [h1]
      have b2 : (c == 156) = false := by simp [h2]
      clear h1 h2
      go_enter Tryz.func53, Tryz.ntmps53
      go_wp2_with fail
      go_end0
      exact ⟨rfl, h, Km.refl _ _ _⟩

end Go.Proofs.YtheibfffilomcaaGreatDoor

/- The walks of the machine of modes: its numbers. -/
namespace Go.Proofs.YtheibfffilomcaaGreatDoor
open Go.RowKit

theorem Km.set {mb mo : Nat} {w : World} (j : Nat) (x : Value) (hj : j < 19) : Km mb mo w (w.setCell ⟨mb, mo + j, none⟩ x) := by
  refine ⟨rfl, rfl, rfl, by simp [World.setCell], fun k _ hn => Below.heap_setCell _ _ _ _ hn, fun o ho => cell_set_other _ _ _ _ _ (by omega), fun o => ?_⟩
  simp
theorem MAt.set {w : World} {mb mo : Nat} {s s' : MS} (h : MAt w mb mo s) (j : Nat) (x : Int) (hj : j < 19) (hl : s'.l = s.l.set j x) (hp : s'.ps.length = 16) : MAt (w.setCell ⟨mb, mo + j, none⟩ (.int .i64 x)) mb mo s' := by
  refine ⟨hp, fun i v hv => ?_, fun i hi => ?_⟩
  · rw [hl] at hv
    have hlen := h.l_len
    have hi : i < 19 := by
      have := (List.getElem?_eq_some_iff.1 hv).1
      simp [intC, hlen] at this
      exact this
    by_cases hij : j = i
    · subst hij
      have hv' : (intC (s.l.set j x))[j]? = some (.int .i64 x) := by
        rw [intC_get _ _ (by simp [hlen]; exact hj)]
        simp [List.getD, hlen, hj]
      rw [hv'] at hv
      cases hv
      exact World.cell?_setCell_same _ _ _ (h.at j hj)
    · rw [cell_set_other _ _ _ _ _ (by omega)]
      have : (intC (s.l.set j x))[i]? = (intC s.l)[i]? := by
        simp only [intC, List.getElem?_map, List.getElem?_set_ne hij]
      rw [this] at hv
      exact h.rng i v hv
  · simp only [World.frozen?_setCell]
    exact h.fr i hi
theorem MAt.setP {w : World} {mb mo : Nat} {s : MS} (h : MAt w mb mo s) (k : Nat) (x : Int) (hk : k < 16) : MAt (w.setCell ⟨mb, mo + 3 + k, none⟩ (.int .i64 x)) mb mo ⟨s.md, s.mr, s.ct, s.ps.set k x⟩ := by
  have := h.set (s' := ⟨s.md, s.mr, s.ct, s.ps.set k x⟩) (3 + k) x (by omega) (by simp [MS.l, show 3 + k = k + 1 + 1 + 1 by omega]) (by simp [h.len])
  rw [← Nat.add_assoc] at this
  exact this
theorem MAt.setC {w : World} {mb mo : Nat} {s : MS} (h : MAt w mb mo s) (x : Int) : MAt (w.setCell ⟨mb, mo + 2, none⟩ (.int .i64 x)) mb mo ⟨s.md, s.mr, x, s.ps⟩ :=
  h.set (s' := ⟨s.md, s.mr, x, s.ps⟩) 2 x (by omega) rfl h.len
theorem MAt.setR {w : World} {mb mo : Nat} {s : MS} (h : MAt w mb mo s) (x : Int) : MAt (w.setCell ⟨mb, mo + 1, none⟩ (.int .i64 x)) mb mo ⟨s.md, x, s.ct, s.ps⟩ :=
  h.set (s' := ⟨s.md, x, s.ct, s.ps⟩) 1 x (by omega) rfl h.len
theorem MAt.setM {w : World} {mb mo : Nat} {s : MS} (h : MAt w mb mo s) (x : Int) : MAt (w.setCell ⟨mb, mo, none⟩ (.int .i64 x)) mb mo ⟨x, s.mr, s.ct, s.ps⟩ :=
  h.set (s' := ⟨x, s.mr, s.ct, s.ps⟩) 0 x (by omega) rfl h.len
theorem MAt.drew {w : World} {mb mo : Nat} {s : MS} (h : MAt w mb mo s) : MAt w.drew mb mo s := h.kept rfl
theorem Km.drew {mb mo : Nat} {w u : World} (h : Km mb mo w u) : Km mb mo w u.drew := ⟨h.os, h.tape, h.output, h.size, h.block, h.cell, h.frozen⟩

set_option maxHeartbeats 1000000 in
theorem begNum_walk (mb mo : Nat) (s : MS) (w : World) (h : MAt w mb mo s) (h0 : 0 ≤ s.ct) (h1 : s.ct ≤ 17) :
    Calls Tryz.prog 162 #[.pointer (some ⟨mb, mo, none⟩)] w fun e w' => e = .returned (.tuple #[]) ∧ MAt w' mb mo s.begNum ∧ Km mb mo w w' := by
  obtain ⟨k, hk⟩ := Int.eq_ofNat_of_zero_le h0
  have c2 := h.c2
  have f2 := h.fr 2 (by omega)
  rw [hk] at c2
  by_cases hlt : k < 16
  · have cp := h.cp k hlt
    have fp := h.fr (3 + k) (by omega)
    rw [← Nat.add_assoc] at fp
    have hmin : min ((k : Int) + 1) 17 = (k : Int) + 1 := by omega
    have e : s.begNum = ⟨s.md, s.mr, (k : Int) + 1, s.ps.set k (-1)⟩ := by
      unfold MS.begNum
      rw [hk, if_pos (by omega), hmin]; rfl
    have i1 : (k : Int) < 16 := by omega
    have R : MAt ((w.setCell ⟨mb, mo + 3 + k, none⟩ (.int .i64 (-1))).setCell ⟨mb, mo + 2, none⟩ (.int .i64 ((k : Int) + 1))) mb mo s.begNum := by
      rw [e]; exact (h.setP k (-1) hlt).setC _
    have K : Km mb mo w ((w.setCell ⟨mb, mo + 3 + k, none⟩ (.int .i64 (-1))).setCell ⟨mb, mo + 2, none⟩ (.int .i64 ((k : Int) + 1))) := by
      have k1 : Km mb mo w (w.setCell ⟨mb, mo + (3 + k), none⟩ (.int .i64 (-1))) := Km.set (3 + k) _ (by omega)
      rw [← Nat.add_assoc] at k1
      exact k1.trans (Km.set 2 _ (by omega))
    clear e hk
    go_enter Tryz.func162, Tryz.ntmps162
    go_wp2_with fail
    go_region
    all_goals go_wp2_with fail
    all_goals go_end0
    all_goals exact ⟨rfl, R.drew, K.drew⟩
  · have hmin : min ((k : Int) + 1) 17 = 17 := by omega
    have e : s.begNum = ⟨s.md, s.mr, 17, s.ps⟩ := by
      unfold MS.begNum
      rw [hk, if_neg (by omega), hmin]
    have i1 : ¬ (k : Int) < 16 := by omega
    have R : MAt (w.setCell ⟨mb, mo + 2, none⟩ (.int .i64 17)) mb mo s.begNum := by
      rw [e]; exact h.setC _
    have K : Km mb mo w (w.setCell ⟨mb, mo + 2, none⟩ (.int .i64 17)) := Km.set 2 _ (by omega)
    have hk17 : k ≤ 17 := by omega
    clear e hk
    rcases (show k = 16 ∨ k = 17 by omega) with rfl | rfl
    · clear i1 hmin
      go_enter Tryz.func162, Tryz.ntmps162
      go_wp2_with fail
      go_end0
      exact ⟨rfl, R, K⟩
    · clear i1 hmin
      go_enter Tryz.func162, Tryz.ntmps162
      go_wp2_with fail
      go_end0
      exact ⟨rfl, R, K⟩

theorem max0 {x : Int} (h : -1 ≤ x) (h' : x ≤ 65535) : 0 ≤ max x 0 ∧ max x 0 ≤ 65535 := by omega

set_option maxHeartbeats 1000000 in
theorem joinDig_walk (mb mo : Nat) (s : MS) (d : Int) (w : World) (h : MAt w mb mo s) (hs : s.ok) (h1 : 1 ≤ s.ct) (hd0 : 0 ≤ d) (hd1 : d ≤ 9) :
    Calls Tryz.prog 164 #[.pointer (some ⟨mb, mo, none⟩), .int .i64 d] w fun e w' => e = .returned (.tuple #[]) ∧ MAt w' mb mo (s.joinDig d) ∧ Km mb mo w w' := by
  have c2 := h.c2
  have h17 := hs.c1
  by_cases hgt : 16 < s.ct
  · have e : s.joinDig d = s := by simp [MS.joinDig, hgt]
    rw [e]; clear e
    go_enter Tryz.func164, Tryz.ntmps164
    go_wp2_with fail
    refine bodyPost_ret (results_none rfl _ _ _) rfl ?_
    exact ⟨rfl, h, Km.refl _ _ _⟩
  · obtain ⟨k, hk⟩ := Int.eq_ofNat_of_zero_le (show 0 ≤ s.ct - 1 by omega)
    have hk1 : s.ct = (k : Int) + 1 := by omega
    have hk16 : k < 16 := by omega
    have cp := h.cp k hk16
    have fp := h.fr (3 + k) (by omega)
    rw [← Nat.add_assoc] at fp
    have hx := getD_bd hs.p k
    have e : s.joinDig d = ⟨s.md, s.mr, s.ct, s.ps.set k (min (max (s.ps.getD k 0) 0 * 10 + d) 65535)⟩ := by
      unfold MS.joinDig
      rw [if_neg hgt, hk]; rfl
    have R : MAt (w.setCell ⟨mb, mo + 3 + k, none⟩ (.int .i64 (min (max (s.ps.getD k 0) 0 * 10 + d) 65535))) mb mo (s.joinDig d) := by
      rw [e]; exact h.setP k _ hk16
    have K : Km mb mo w (w.setCell ⟨mb, mo + 3 + k, none⟩ (.int .i64 (min (max (s.ps.getD k 0) 0 * 10 + d) 65535))) := by
      have k1 : Km mb mo w (w.setCell ⟨mb, mo + (3 + k), none⟩ (.int .i64 (min (max (s.ps.getD k 0) 0 * 10 + d) 65535))) := Km.set (3 + k) _ (by omega)
      rw [← Nat.add_assoc] at k1
      exact k1
    rw [hk1] at c2
    have i1 : (k : Int) < 16 := by omega
    have hg2 : ¬ 16 < (k : Int) + 1 := by omega
    generalize s.ps.getD k 0 = x at *
    clear e hk hk1 hgt h17
    rcases (show x < 0 ∨ x = 0 ∨ 0 < x by omega) with hx0 | rfl | hx0
    · have ez : min (max x 0 * 10 + d) 65535 = d := by omega
      rw [ez] at R K
      clear ez
      have hd : d ≤ 65535 := by omega
      go_enter Tryz.func164, Tryz.ntmps164
      go_wp2_with fail
      go_region
      all_goals go_wp2_with fail
      all_goals go_region
      all_goals go_wp2_with fail
      all_goals go_end0
      all_goals exact ⟨rfl, R.kept rfl, K.trans ⟨rfl, rfl, rfl, Nat.le_refl _, fun _ _ _ => rfl, fun _ _ => rfl, fun _ => rfl⟩⟩
    · have ez : min (max 0 0 * 10 + d) 65535 = d := by omega
      rw [ez] at R K
      clear ez
      have hd : d ≤ 65535 := by omega
      go_enter Tryz.func164, Tryz.ntmps164
      go_wp2_with fail
      go_region
      all_goals go_wp2_with fail
      all_goals go_region
      all_goals go_wp2_with fail
      all_goals go_end0
      all_goals exact ⟨rfl, R.kept rfl, K.trans ⟨rfl, rfl, rfl, Nat.le_refl _, fun _ _ _ => rfl, fun _ _ => rfl, fun _ => rfl⟩⟩
    · have hx1 : 0 ≤ x := by omega
      by_cases hbig : x * 10 + d ≤ 65535
      · have ez : min (max x 0 * 10 + d) 65535 = x * 10 + d := by omega
        rw [ez] at R K
        clear ez
        go_enter Tryz.func164, Tryz.ntmps164
        go_wp2_with fail
        go_region
        all_goals go_wp2_with fail
        all_goals go_region
        all_goals go_wp2_with fail
        all_goals go_end0
        all_goals exact ⟨rfl, R.kept rfl, K.trans ⟨rfl, rfl, rfl, Nat.le_refl _, fun _ _ _ => rfl, fun _ _ => rfl, fun _ => rfl⟩⟩
      · have ez : min (max x 0 * 10 + d) 65535 = 65535 := by omega
        rw [ez] at R K
        clear ez
        go_enter Tryz.func164, Tryz.ntmps164
        go_wp2_with fail
        go_region
        all_goals go_wp2_with fail
        all_goals go_region
        all_goals go_wp2_with fail
        all_goals go_end0
        all_goals exact ⟨rfl, R.kept rfl, K.trans ⟨rfl, rfl, rfl, Nat.le_refl _, fun _ _ _ => rfl, fun _ _ => rfl, fun _ => rfl⟩⟩

end Go.Proofs.YtheibfffilomcaaGreatDoor

/- The walks of the machine of modes: the event of a sequence. -/
namespace Go.Proofs.YtheibfffilomcaaGreatDoor
open Go.RowKit

theorem len16 {l : List Int} (h : l.length = 16) : ∃ p0 p1 p2 p3 p4 p5 p6 p7 p8 p9 p10 p11 p12 p13 p14 p15, l = [p0, p1, p2, p3, p4, p5, p6, p7, p8, p9, p10, p11, p12, p13, p14, p15] := by
  match l, h with
  | [p0, p1, p2, p3, p4, p5, p6, p7, p8, p9, p10, p11, p12, p13, p14, p15], _ => exact ⟨_, _, _, _, _, _, _, _, _, _, _, _, _, _, _, _, rfl⟩

theorem mixed : Tryz.prog.follows .mixedOrders = true := by kernel_rfl

/-- A struct or an array read whole, in a region that leaves its order open. -/
theorem wpStill_load_mid {P : Program} {ops : Array Oper} {w : World} {Q : Act → Prop} {a : Act} {o : Oper} {rest : List Oper} (hgd : o.guard = none) (ty : TypeId) (x : Operand) (ho : o.op = .load ty x) (b off : Nat)
    (hx : a.eval x = .pointer (some ⟨b, off, none⟩)) (cs : List Value) (d : TypeDesc) (hc : w.rangeAt b off cs) (hu : P.underlying ty = some d) (hd : d.isRow = true) (hi : (P.info? ty).map (·.size) = some cs.length)
    (h : wpStill P ops w Q rest (a.put o.dst (.agg cs.toArray))) : wpStill P ops w Q (o :: rest) a := by
  refine wpStill_step fun K hK => ?_
  have hw : Region.wanted o (yielded ops a.tmps) = true := by simp [Region.wanted, hgd]
  rw [if_pos hw]
  unfold Oper.still execOp
  simp only [ho, hx, Instr.loadAt, Instr.sureAddr, Sem.run_bind, Sem.run_pure, Result.andThen_ok, run_loadVar_mid w b off ty cs d hc hu hd hi, Oper.stillUpon]
  exact ⟨trivial, hK _ h⟩

theorem there_row {w : World} {g : Nat} {ev : List Int} {t : TypeId} (h : w.heap[g]? = some (.cells (intA ev) t (0, 0))) : w.there g 0 ev.length := fun j hj => by
  refine ⟨?_, frozen_of_row w g _ _ t h⟩
  rw [cell_of_row _ _ _ _ _ _ h]
  simp [intA, intC, hj]
theorem info42 : (Tryz.prog.info? 44).map (·.size) = some 16 := by kernel_rfl

set_option maxRecDepth 100000 in
set_option maxHeartbeats 2000000 in
theorem seqEv_walk (mb mo : Nat) (s : MS) (f : Int) (w : World) (h : MAt w mb mo s) (hs : s.ok) (h1 : 1 ≤ s.ct) :
    Calls Tryz.prog 165 #[.pointer (some ⟨mb, mo, none⟩), .int .i64 f] w fun e w' => e = .returned (.agg (intA (s.seqEv f))) ∧ Below w.heap.size w w' := by
  have c1 := h.c1
  have c2 := h.c2
  have hlt := h.lt
  have h17 := hs.c1
  have rg : w.rangeAt mb (mo + 3) (intC s.ps) := fun j v hv => by
    have hj : j < 16 := by
      have := (List.getElem?_eq_some_iff.1 hv).1
      simpa [intC, h.len] using this
    rw [intC_get _ _ (by rw [h.len]; exact hj)] at hv
    rw [h.cp j hj]; exact hv
  obtain ⟨p0, p1, p2, p3, p4, p5, p6, p7, p8, p9, p10, p11, p12, p13, p14, p15, hp⟩ := len16 h.len
  have e : s.seqEv f = [4, 0, s.mr, f, min s.ct 16, p0, p1, p2, p3, p4, p5, p6, p7, p8, p9, p10, p11, p12, p13, p14, p15] := by unfold MS.seqEv; rw [hp]; rfl
  rw [hp] at rg
  have rg' : w.rangeAt mb (mo + 3) [.int .i64 p0, .int .i64 p1, .int .i64 p2, .int .i64 p3, .int .i64 p4, .int .i64 p5, .int .i64 p6, .int .i64 p7, .int .i64 p8, .int .i64 p9, .int .i64 p10, .int .i64 p11, .int .i64 p12, .int .i64 p13, .int .i64 p14, .int .i64 p15] := rg
  have HE : Hid _ := e
  clear e rg hp
  have hu := Tryz.underlying44
  have hi := info42
  go_enter Tryz.func165, Tryz.ntmps165
  go_wp2_with fail
  generalize hW : w.alloc (Obj.cells #[.int .i64 0, .int .i64 0, .int .i64 0, .int .i64 0, .int .i64 0, .int .i64 0, .int .i64 0, .int .i64 0, .int .i64 0, .int .i64 0, .int .i64 0, .int .i64 0, .int .i64 0, .int .i64 0, .int .i64 0, .int .i64 0, .int .i64 0, .int .i64 0, .int .i64 0, .int .i64 0, .int .i64 0] 46) = W
  have hWz : W = w.alloc (.cells (intA noEv) 46) := hW.symm
  have d1 : W.cell? ⟨mb, mo + 1, none⟩ = some (.int .i64 s.mr) := by rw [hWz]; exact (World.cell?_of_block (Below.heap_alloc _ _ _ hlt)).trans c1
  have d2 : W.cell? ⟨mb, mo + 2, none⟩ = some (.int .i64 s.ct) := by rw [hWz]; exact (World.cell?_of_block (Below.heap_alloc _ _ _ hlt)).trans c2
  have d3 : W.rangeAt mb (mo + 3) [.int .i64 p0, .int .i64 p1, .int .i64 p2, .int .i64 p3, .int .i64 p4, .int .i64 p5, .int .i64 p6, .int .i64 p7, .int .i64 p8, .int .i64 p9, .int .i64 p10, .int .i64 p11, .int .i64 p12, .int .i64 p13, .int .i64 p14, .int .i64 p15] := by rw [hWz]; exact World.rangeAt_alloc rg' _
  have hg : W.heap[w.heap.size]? = some (.cells (intA noEv) 46 (0, 0)) := by rw [hWz]; exact heap_alloc_new _ _
  have d4 : W.there w.heap.size 0 21 := there_row hg
  have bl0 : Below w.heap.size w W := by rw [hWz]; exact (Below.refl _ _).alloc (Nat.le_refl _) _
  have HG : Hid _ := hg
  clear hW hWz rg' c1 c2 hg
  clear hu hi
  have hmin : min s.ct 16 = if 16 < s.ct then 16 else s.ct := by split <;> omega
  have ev : s.seqEv f = [4, 0, s.mr, f, if 16 < s.ct then 16 else s.ct, p0, p1, p2, p3, p4, p5, p6, p7, p8, p9, p10, p11, p12, p13, p14, p15] := by rw [HE.out, hmin]
  have HV : Hid _ := ev
  clear ev hmin
  refine wp_region_still_tail 15 mixed (by kernel_rfl) ?_
  simp only [List.take_succ_cons, List.take_zero, List.drop_succ_cons, List.drop_zero]
  iterate 13 still_step
  refine wpStill_load_mid rfl 44 (.tmp 17) rfl mb (mo + 3) rfl [.int .i64 p0, .int .i64 p1, .int .i64 p2, .int .i64 p3, .int .i64 p4, .int .i64 p5, .int .i64 p6, .int .i64 p7, .int .i64 p8, .int .i64 p9, .int .i64 p10, .int .i64 p11, .int .i64 p12, .int .i64 p13, .int .i64 p14, .int .i64 p15] _ d3 Tryz.underlying44 rfl info42 ?_
  still_step
  refine wpStill_nil ?_
  refine wp_eset _ rfl (.tmp 4) (.tmp 19) rfl w.heap.size noEv [4, 0, s.mr, f, if 16 < s.ct then 16 else s.ct, p0, p1, p2, p3, p4, p5, p6, p7, p8, p9, p10, p11, p12, p13, p14, p15] rfl _ rfl rfl rfl 46 HG.out rfl ?_
  intro u hg hgr hz
  have bl1 : Below w.heap.size w u := (bl0.drew).grown hgr bl0.size (fun k e => by simp at e; omega)
  clear d1 d2 d3 d4
  go_wp2_with fail
  all_goals refine bodyPost_ret (results_ev1 Tryz.results165 _ u w.heap.size _ rfl 46 (0, 0) rfl hg) rfl ?_
  all_goals rw [HV.out]
  all_goals exact ⟨rfl, bl1⟩

end Go.Proofs.YtheibfffilomcaaGreatDoor

