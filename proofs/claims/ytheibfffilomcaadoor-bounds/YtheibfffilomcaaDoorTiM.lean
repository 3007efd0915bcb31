/- Tc Td Te Tf Tg Th Ti together. -/
import Derived.Test.YtheibfffilomcaaDoorTb
import Derived.Deep.QuietTactic
import Derived.BigQuiet
import Derived.Test.YtheibfffilomcaaDoorWid

/- Walks of package terminal: where things are. -/
namespace Go.Proofs.YtheibfffilomcaaDoor
open Go.RowKit

theorem TAt.drewN {w : World} {L : Lay} {s : TS} (h : TAt w L s) (n : Nat) : TAt (w.drewN n) L s := h.sm ((Ch.refl _ _).drewN n)
theorem Sm.of_drewN {w w' : World} (h : ∃ m, w' = w.drewN m) : Sm w w' := by obtain ⟨m, rfl⟩ := h; exact (Ch.refl _ _).drewN m
theorem same_drewN (w : World) : ∃ m, w = w.drewN m := ⟨0, rfl⟩

theorem lastRow_any (L : Lay) (s : TS) (w : World) (ht : TAt w L s) (hi : s.Inv) : Calls Tryd.prog 55 #[.pointer (some ⟨L.tb, 0, none⟩)] w fun e w' => e = .returned (.int .i64 ((s.rows : Int) - 1)) ∧ w' = w := by
  have c0 := ht.c 0 _ rfl
  have h1 := hi.r1
  have h2 := hi.r2
  have v1 : IntKind.i64.wrap ((s.rows : Int) - 1) = (s.rows : Int) - 1 := IntWalk.i64_in _ (by omega)
  clear ht hi
  go_enter Tryd.func55, Tryd.ntmps55
  go_wp2_with fail
  go_ret
  exact ⟨rfl, rfl⟩
theorem lastCol_any (L : Lay) (s : TS) (w : World) (ht : TAt w L s) (hi : s.Inv) : Calls Tryd.prog 56 #[.pointer (some ⟨L.tb, 0, none⟩)] w fun e w' => e = .returned (.int .i64 ((s.cols : Int) - 1)) ∧ w' = w := by
  have c0 := ht.c 43 _ rfl
  have h1 := hi.c1
  have h2 := hi.c2
  have v1 : IntKind.i64.wrap ((s.cols : Int) - 1) = (s.cols : Int) - 1 := IntWalk.i64_in _ (by omega)
  clear ht hi
  go_enter Tryd.func56, Tryd.ntmps56
  go_wp2_with fail
  go_ret
  exact ⟨rfl, rfl⟩
theorem bring_any (n lo hi : Int) (w : World) : Calls Tryd.prog 103 #[.int .i64 n, .int .i64 lo, .int .i64 hi] w fun e w' => e = .returned (.int .i64 (TS.bringI n lo hi)) ∧ w' = w := by
  generalize hX : TS.bringI n lo hi = X
  have HX : Hid _ := hX
  clear hX
  go_enter Tryd.func103, Tryd.ntmps103
  go_wp2_with fail
  all_goals go_ret
  all_goals refine ⟨?_, rfl⟩
  all_goals rw [← HX.out]; unfold TS.bringI
  all_goals refine congrArg (fun z => Ending.returned (Value.int .i64 z)) ?_
  all_goals omega
theorem times_any (n : Int) (w : World) : Calls Tryd.prog 112 #[.int .i64 n] w fun e w' => e = .returned (.int .i64 (TS.times n)) ∧ w' = w := by
  generalize hX : TS.times n = X
  have HX : Hid _ := hX
  clear hX
  go_enter Tryd.func112, Tryd.ntmps112
  go_wp2_with fail
  all_goals go_ret
  all_goals refine ⟨?_, rfl⟩
  all_goals rw [← HX.out]; unfold TS.times
  all_goals refine congrArg (fun z => Ending.returned (Value.int .i64 z)) ?_
  all_goals omega
theorem amount_any (n : Int) (w : World) : Calls Tryd.prog 116 #[.int .i64 n] w fun e w' => e = .returned (.int .i64 (TS.amount n)) ∧ w' = w := by
  generalize hX : TS.amount n = X
  have HX : Hid _ := hX
  clear hX
  go_enter Tryd.func116, Tryd.ntmps116
  go_wp2_with fail
  all_goals go_ret
  all_goals refine ⟨?_, rfl⟩
  all_goals rw [← HX.out]; unfold TS.amount
  all_goals refine congrArg (fun z => Ending.returned (Value.int .i64 z)) ?_
  all_goals omega
theorem shown_any (L : Lay) (s : TS) (w : World) (ht : TAt w L s) (hi : s.Inv) : Calls Tryd.prog 98 #[.pointer (some ⟨L.tb, 0, none⟩)] w fun e w' => e = .returned (.pointer (some ⟨L.tb, if s.shown = 0 then 0 else 13, none⟩)) ∧ ∃ m, w' = w.drewN m := by
  have c0 := ht.c 42 _ rfl
  rcases hi.sh with h | h
  · rw [if_pos h]
    rw [h] at c0
    clear ht hi
    go_enter Tryd.func98, Tryd.ntmps98
    go_wp2_with fail
    go_quiet (fail)
    go_wp2_with fail
    go_ret
    exact ⟨rfl, _, rfl⟩
  · rw [if_neg (by omega)]
    rw [h] at c0
    clear ht hi
    go_enter Tryd.func98, Tryd.ntmps98
    go_wp2_with fail
    go_quiet (fail)
    go_wp2_with fail
    go_ret
    exact ⟨rfl, _, rfl⟩
end Go.Proofs.YtheibfffilomcaaDoor

/- Walks of package terminal: the cursor's row, the region, places. -/
namespace Go.Proofs.YtheibfffilomcaaDoor
open Go.RowKit

/-- The cursor's row lies in a block. -/
theorem TAt.rowg {w : World} {L : Lay} {s : TS} (ht : TAt w L s) (hi : s.Inv) : ∃ g, (L.gs s)[s.row.toNat]? = some g ∧ RowAt w g s.rowNow ∧ s.rowNow.length = s.cols := by
  obtain ⟨g, h1, _, h3, h4⟩ := ht.cur.get (i := s.row.toNat) (by rw [hi.lcur]; have := hi.row0; have := hi.row1; omega)
  exact ⟨g, h1, h3, h4⟩

theorem row_any (L : Lay) (s : TS) (w : World) (ht : TAt w L s) (hi : s.Inv) (g : Nat) (hg : (L.gs s)[s.row.toNat]? = some g) : Calls Tryd.prog 75 #[.pointer (some ⟨L.tb, 0, none⟩)] w fun e w' => e = .returned (.slice (some ⟨g, 0, none⟩) s.cols s.cols) ∧ ∃ m, w' = w.drewN m := by
  have c26 := ht.c 26 _ rfl
  have hcell := ht.cur.slice hg
  have hsh : ∀ n, _ := fun n => shown_any L s (w.drewN n) (ht.drewN n) hi
  have hr0 := hi.row0
  have hr1 := hi.row1
  obtain ⟨q, hq⟩ : ∃ q : Nat, s.row = (q : Int) := ⟨s.row.toNat, by omega⟩
  rw [hq] at c26 hr1
  rw [hq] at hcell hg
  simp only [Int.toNat_natCast] at hcell hg
  unfold Lay.sb at hcell
  have hq1 : q < s.rows := by omega
  rcases hi.sh with h | h
  · have c0 := ht.c 0 _ rfl
    rw [if_pos h] at hcell
    simp only [if_pos h] at hsh
    clear ht hi hr0 h hq hg
    go_enter Tryd.func75, Tryd.ntmps75
    go_wp2_with fail
    go_quiet ((go_at_call 98; exact Calls.quiet_of (hsh _)))
    go_wp2_with fail
    go_ret
    exact ⟨rfl, _, rfl⟩
  · have c0 := ht.c 13 _ rfl
    rw [if_neg (by omega)] at hcell
    simp only [if_neg (show ¬ s.shown = 0 by omega)] at hsh
    clear ht hi hr0 h hq hg
    go_enter Tryd.func75, Tryd.ntmps75
    go_wp2_with fail
    go_quiet ((go_at_call 98; exact Calls.quiet_of (hsh _)))
    go_wp2_with fail
    go_ret
    exact ⟨rfl, _, rfl⟩

theorem toCol_any (L : Lay) (s : TS) (w : World) (ht : TAt w L s) (hi : s.Inv) (c : Int) : Calls Tryd.prog 79 #[.pointer (some ⟨L.tb, 0, none⟩), .int .i64 c] w fun e w' => e = .returned (.tuple #[]) ∧ TAt w' L (s.toCol c) ∧ Ch L.own w w' := by
  have c27 := ht.c 27 _ rfl
  have f27 := ht.f 27
  have l1 := lastCol_any L s w ht hi
  have HT : Hid (TAt w L s) := ht
  clear ht
  go_enter Tryd.func79, Tryd.ntmps79
  go_wp2_with (first | (go_at_call 56; refine l1.mono ?_; rintro e w1 ⟨rfl, rfl⟩) | (go_at_call 103; refine (bring_any c 0 ((s.cols : Int) - 1) _).mono ?_; rintro e w1 ⟨rfl, rfl⟩))
  go_end0
  exact ⟨rfl, HT.out.set 27 _ rfl rfl rfl rfl rfl, (Ch.refl _ _).tset _ _⟩
theorem toRow_any (L : Lay) (s : TS) (w : World) (ht : TAt w L s) (hi : s.Inv) (c : Int) : Calls Tryd.prog 106 #[.pointer (some ⟨L.tb, 0, none⟩), .int .i64 c] w fun e w' => e = .returned (.tuple #[]) ∧ TAt w' L (s.toRow c) ∧ Ch L.own w w' := by
  have c26 := ht.c 26 _ rfl
  have f26 := ht.f 26
  have l1 := lastRow_any L s w ht hi
  have HT : Hid (TAt w L s) := ht
  clear ht
  go_enter Tryd.func106, Tryd.ntmps106
  go_wp2_with (first | (go_at_call 55; refine l1.mono ?_; rintro e w1 ⟨rfl, rfl⟩) | (go_at_call 103; refine (bring_any c 0 ((s.rows : Int) - 1) _).mono ?_; rintro e w1 ⟨rfl, rfl⟩))
  go_end0
  exact ⟨rfl, HT.out.set 26 _ rfl rfl rfl rfl rfl, (Ch.refl _ _).tset _ _⟩
end Go.Proofs.YtheibfffilomcaaDoor

/- Walks of package terminal: the region; moves of the cursor. -/
namespace Go.Proofs.YtheibfffilomcaaDoor
open Go.RowKit

theorem region_any (L : Lay) (s : TS) (w : World) (ht : TAt w L s) (hi : s.Inv) : Calls Tryd.prog 104 #[.pointer (some ⟨L.tb, 0, none⟩)] w fun e w' => e = .returned (.slice (some ⟨L.sb s, s.top.toNat, none⟩) s.height (s.rows - s.top.toNat)) ∧ ∃ m, w' = w.drewN m := by
  have c38 := ht.c 38 _ rfl
  have c39 := ht.c 39 _ rfl
  have hsh : ∀ n, _ := fun n => shown_any L s (w.drewN n) (ht.drewN n) hi
  obtain ⟨p, hp⟩ : ∃ p : Nat, s.top = (p : Int) := ⟨s.top.toNat, by have := hi.top0; have := hi.row0; omega⟩
  obtain ⟨b, hb⟩ : ∃ b : Nat, s.bottom = (b : Int) := ⟨s.bottom.toNat, by have := hi.top0; have := hi.tb; omega⟩
  have hpb : p ≤ b := by have := hi.tb; omega
  have hbr : b < s.rows := by have := hi.bot; omega
  have hr2 := hi.r2
  have hh : s.height = b + 1 - p := by unfold TS.height; omega
  rw [hp] at c38
  rw [hb] at c39
  rw [hh, hp, Int.toNat_natCast]
  have i1 : s.rows ≠ p := by omega
  have i2 : (p : Int) ≤ (b : Int) + 1 := by omega
  have i3 : (b : Int) + 1 ≤ (s.rows : Int) := by omega
  have v1 : IntKind.i64.wrap ((b : Int) + 1) = (b : Int) + 1 := IntWalk.i64_in _ (by omega)
  have t1 : ((b : Int) + 1).toNat = b + 1 := by omega
  have j1 : (0 : Int) ≤ (b : Int) + 1 := by omega
  unfold Lay.sb
  rcases hi.sh with h | h
  · have c0 := ht.c 0 _ rfl
    rw [if_pos h]
    simp only [if_pos h] at hsh
    clear ht hi h hp hb hh
    go_enter Tryd.func104, Tryd.ntmps104
    go_wp2_with fail
    go_quiet ((go_at_call 98; exact Calls.quiet_of (hsh _)))
    go_wp2_with fail
    go_ret
    exact ⟨rfl, _, rfl⟩
  · have c0 := ht.c 13 _ rfl
    rw [if_neg (show ¬ s.shown = 0 by omega)]
    simp only [if_neg (show ¬ s.shown = 0 by omega)] at hsh
    clear ht hi h hp hb hh
    go_enter Tryd.func104, Tryd.ntmps104
    go_wp2_with fail
    go_quiet ((go_at_call 98; exact Calls.quiet_of (hsh _)))
    go_wp2_with fail
    go_ret
    exact ⟨rfl, _, rfl⟩

theorem toBottom_any (L : Lay) (s : TS) (w : World) (ht : TAt w L s) (hi : s.Inv) (hin : s.row ≤ s.bottom) : Calls Tryd.prog 122 #[.pointer (some ⟨L.tb, 0, none⟩)] w fun e w' => e = .returned (.slice (some ⟨L.sb s, s.row.toNat, none⟩) s.below (s.rows - s.row.toNat)) ∧ ∃ m, w' = w.drewN m := by
  have c26 := ht.c 26 _ rfl
  have c39 := ht.c 39 _ rfl
  have hsh : ∀ n, _ := fun n => shown_any L s (w.drewN n) (ht.drewN n) hi
  obtain ⟨p, hp⟩ : ∃ p : Nat, s.row = (p : Int) := ⟨s.row.toNat, by have := hi.top0; have := hi.row0; omega⟩
  obtain ⟨b, hb⟩ : ∃ b : Nat, s.bottom = (b : Int) := ⟨s.bottom.toNat, by have := hi.top0; have := hi.tb; omega⟩
  have hpb : p ≤ b := by have := hi.tb; omega
  have hbr : b < s.rows := by have := hi.bot; omega
  have hr2 := hi.r2
  have hh : s.below = b + 1 - p := by unfold TS.below; omega
  rw [hp] at c26
  rw [hb] at c39
  rw [hh, hp, Int.toNat_natCast]
  have i1 : s.rows ≠ p := by omega
  have i2 : (p : Int) ≤ (b : Int) + 1 := by omega
  have i3 : (b : Int) + 1 ≤ (s.rows : Int) := by omega
  have v1 : IntKind.i64.wrap ((b : Int) + 1) = (b : Int) + 1 := IntWalk.i64_in _ (by omega)
  have t1 : ((b : Int) + 1).toNat = b + 1 := by omega
  have j1 : (0 : Int) ≤ (b : Int) + 1 := by omega
  unfold Lay.sb
  rcases hi.sh with h | h
  · have c0 := ht.c 0 _ rfl
    rw [if_pos h]
    simp only [if_pos h] at hsh
    clear ht hi h hp hb hh
    go_enter Tryd.func122, Tryd.ntmps122
    go_wp2_with fail
    go_quiet ((go_at_call 98; exact Calls.quiet_of (hsh _)))
    go_wp2_with fail
    go_ret
    exact ⟨rfl, _, rfl⟩
  · have c0 := ht.c 13 _ rfl
    rw [if_neg (show ¬ s.shown = 0 by omega)]
    simp only [if_neg (show ¬ s.shown = 0 by omega)] at hsh
    clear ht hi h hp hb hh
    go_enter Tryd.func122, Tryd.ntmps122
    go_wp2_with fail
    go_quiet ((go_at_call 98; exact Calls.quiet_of (hsh _)))
    go_wp2_with fail
    go_ret
    exact ⟨rfl, _, rfl⟩

theorem rise_any (L : Lay) (s : TS) (w : World) (ht : TAt w L s) (hi : s.Inv) (n : Int) (hn : 0 ≤ n ∧ n ≤ 70000) : Calls Tryd.prog 113 #[.pointer (some ⟨L.tb, 0, none⟩), .int .i64 n] w fun e w' => e = .returned (.tuple #[]) ∧ TAt w' L (s.rise n) ∧ Ch L.own w w' := by
  have c26 := ht.c 26 _ rfl
  have c38 := ht.c 38 _ rfl
  have f26 := ht.f 26
  have hr0 := hi.row0
  have hr1 := hi.row1
  have hr2 := hi.r2
  have v1 : IntKind.i64.wrap (s.row - n) = s.row - n := IntWalk.i64_in _ (by omega)
  have hX : s.rise n = { s with row := max (s.row - n) (if s.top ≤ s.row then s.top else 0) } := rfl
  generalize s.rise n = X at *
  have HX : Hid _ := hX
  have HT : Hid (TAt w L s) := ht
  clear ht hX hi
  by_cases hq : s.top ≤ s.row
  · rw [if_pos hq] at HX
    go_enter Tryd.func113, Tryd.ntmps113
    go_wp2_with fail
    go_quiet (fail)
    go_wp2_with fail
    all_goals go_end0
    all_goals refine ⟨rfl, ?_, ((Ch.refl _ _).drewN _).tset _ _⟩
    all_goals rw [HX.out]
    all_goals refine (HT.out.drewN _).set 26 _ ?_ rfl rfl rfl rfl
    · rw [Int.max_eq_right (by omega)]; rfl
    · rw [Int.max_eq_left (by omega)]; rfl
  · rw [if_neg hq] at HX
    have dq : decide (s.top ≤ s.row) = false := by simp [hq]
    go_enter Tryd.func113, Tryd.ntmps113
    go_wp2_with fail
    go_quiet (fail)
    go_wp2_with fail
    all_goals go_end0
    all_goals refine ⟨rfl, ?_, ((Ch.refl _ _).drewN _).tset _ _⟩
    all_goals rw [HX.out]
    all_goals refine (HT.out.drewN _).set 26 _ ?_ rfl rfl rfl rfl
    · rw [Int.max_eq_right (by omega)]; rfl
    · rw [Int.max_eq_left (by omega)]; rfl
end Go.Proofs.YtheibfffilomcaaDoor

/- Walks of package terminal: sink, toCountedRow, home. -/
namespace Go.Proofs.YtheibfffilomcaaDoor
open Go.RowKit

/-- One cell of the terminal's own block written, in a region that draws its order. -/
theorem wp_tsetO {o : Oper} {a : Act} {u : World} {K : Act → World → Prop} {Q : Exit → Act → World → Prop} (ty : TypeId) (hsz : (Tryd.prog.info? ty).map (·.size) = some 1) (x y : Operand) (ho : o.op = .store ty x y) (hd : o.dst = none) (L : Lay) (s s' : TS) (j : Nat) (v : Value)
    (hx : a.eval x = .pointer (some ⟨L.tb, j, none⟩)) (hy : a.eval y = v) (hv : v.cells = #[v]) (h1 : v.oneCell' = true) (ht : TAt u L s) (hj : j < 44) (hL : (termV L s).set j v = termV L s') (hc : s'.cols = s.cols) (h0 : s'.s0 = s.s0) (h1' : s'.s1 = s.s1) (htb : s'.tabs = s.tabs)
    (h : ∀ u', TAt u' L s' → Ch L.own u u' → (∀ i, i ≠ j → u'.cell? ⟨L.tb, i, none⟩ = u.cell? ⟨L.tb, i, none⟩) → K a u') : Oper.wp Tryd.prog o a u K Q := by
  have hc0 : u.cell? ⟨L.tb, j, none⟩ = some ((termV L s)[j]'hj) := ht.c j _ (List.getElem?_eq_getElem hj)
  have hf := ht.f j
  have R := h (u.setCell ⟨L.tb, j, none⟩ v) (ht.set j v hL hc h0 h1' htb) ((Ch.refl _ _).tset _ _) (fun i hi => World.cell?_setCell_other _ _ _ _ (by simp))
  have hs : (sizeOf ty).run Tryd.prog u = .ok 1 u := by
    cases hq : Tryd.prog.info? ty with
    | none => simp [hq] at hsz
    | some i =>
      have : i.size = 1 := by simpa [hq] using hsz
      simp [sizeOf, typeInfo, hq, this]
  have hst : (storeVar ty ⟨L.tb, j, none⟩ v).run Tryd.prog u = .ok () (u.setCell ⟨L.tb, j, none⟩ v) := by
    have e0 : ∀ i, i < [v].length → i = 0 := fun i hi => by simpa using hi
    have h2 := run_storeCells_cells (P := Tryd.prog) L.tb j [v] 0 u (fun i hi => by rw [e0 i hi, Nat.add_zero, hc0]; rfl) (fun i hi => by rw [e0 i hi]; exact hf) (fun z hz => by rw [List.mem_singleton] at hz; rw [hz]; exact h1)
    simp only [storeVar, Sem.run_bind, hs, Result.andThen_ok, hv, Sem.run_ite]
    simpa [World.setCells] using h2
  unfold Oper.wp execOp
  simp only [ho, hx, hy, Instr.storeAt, Instr.sureAddr, Sem.run_bind, Sem.run_pure, Result.andThen_ok, hst]
  rw [Oper.upon_skip, hd]
  exact R

theorem sink_any (L : Lay) (s : TS) (w : World) (ht : TAt w L s) (hi : s.Inv) (n : Int) (hn : 0 ≤ n ∧ n ≤ 70000) : Calls Tryd.prog 114 #[.pointer (some ⟨L.tb, 0, none⟩), .int .i64 n] w fun e w' => e = .returned (.tuple #[]) ∧ TAt w' L (s.sink n) ∧ Ch L.own w w' := by
  have c26 := ht.c 26 _ rfl
  have c39 := ht.c 39 _ rfl
  have f26 := ht.f 26
  have hr0 := hi.row0
  have hr1 := hi.row1
  have hr2 := hi.r2
  have l1 := lastRow_any L s w ht hi
  have v1 : IntKind.i64.wrap (s.row + n) = s.row + n := IntWalk.i64_in _ (by omega)
  have hX : s.sink n = { s with row := min (s.row + n) (if s.row ≤ s.bottom then s.bottom else (s.rows : Int) - 1) } := rfl
  generalize s.sink n = X at *
  have HX : Hid _ := hX
  have HT : Hid (TAt w L s) := ht
  clear ht hX hi
  by_cases hq : s.row ≤ s.bottom
  · rw [if_pos hq] at HX
    go_enter Tryd.func114, Tryd.ntmps114
    go_wp2_with (go_at_call 55; refine l1.mono ?_; rintro e w1 ⟨rfl, rfl⟩)
    go_quiet (fail)
    go_wp2_with fail
    all_goals go_end0
    all_goals refine ⟨rfl, ?_, ((Ch.refl _ _).drewN _).tset _ _⟩
    all_goals rw [HX.out]
    all_goals refine (HT.out.drewN _).set 26 _ ?_ rfl rfl rfl rfl
    · rw [Int.min_eq_right (by omega)]; rfl
    · rw [Int.min_eq_left (by omega)]; rfl
  · rw [if_neg hq] at HX
    have dq : decide (s.row ≤ s.bottom) = false := by simp [hq]
    go_enter Tryd.func114, Tryd.ntmps114
    go_wp2_with (go_at_call 55; refine l1.mono ?_; rintro e w1 ⟨rfl, rfl⟩)
    go_quiet (fail)
    go_wp2_with fail
    all_goals go_end0
    all_goals refine ⟨rfl, ?_, ((Ch.refl _ _).drewN _).tset _ _⟩
    all_goals rw [HX.out]
    all_goals refine (HT.out.drewN _).set 26 _ ?_ rfl rfl rfl rfl
    · rw [Int.min_eq_right (by omega)]; rfl
    · rw [Int.min_eq_left (by omega)]; rfl

set_option maxRecDepth 100000 in
set_option maxHeartbeats 1000000 in
theorem toCounted_any (L : Lay) (s : TS) (w : World) (ht : TAt w L s) (hi : s.Inv) (r : Int) (hr : -10 ≤ r ∧ r ≤ 70000) : Calls Tryd.prog 115 #[.pointer (some ⟨L.tb, 0, none⟩), .int .i64 r] w fun e w' => e = .returned (.tuple #[]) ∧ TAt w' L (s.toCounted r) ∧ Ch L.own w w' := by
  have c37 := ht.c 37 _ rfl
  have hX : s.toCounted r = if s.origin then { s with row := TS.bringI (s.top + r) s.top s.bottom } else s.toRow r := rfl
  generalize s.toCounted r = X at *
  have h1 := hi.top0
  have h2 := hi.tb
  have h3 := hi.bot
  have h4 := hi.r2
  have v1 : IntKind.i64.wrap (s.top + r) = s.top + r := IntWalk.i64_in _ (by omega)
  cases ho : s.origin with
  | true =>
    rw [ho] at c37
    rw [if_pos ho] at hX
    have HX : Hid _ := hX
    have HT : Hid (TAt w L s) := ht
    clear ht hX hi ho
    go_enter Tryd.func115, Tryd.ntmps115
    go_wp2_with fail
    have HT0 : TAt ({ w with drawn := w.drawn + 1 } : World) L s := HT.out.sm ((Ch.refl _ _).drewN 1)
    have HH : World.cell? ({ w with drawn := w.drawn + 1 } : World) ⟨L.tb, 38, none⟩ = some (.int .i64 s.top) ∧ World.cell? ({ w with drawn := w.drawn + 1 } : World) ⟨L.tb, 39, none⟩ = some (.int .i64 s.bottom) := ⟨HT0.c 38 _ rfl, HT0.c 39 _ rfl⟩
    refine wp_region_held (S := fun x => x.cell? ⟨L.tb, 38, none⟩ = some (.int .i64 s.top) ∧ x.cell? ⟨L.tb, 39, none⟩ = some (.int .i64 s.bottom)) mixedC ?_
    refine takeL (i := 0) (d := 10) (v := .pointer (some ⟨L.tb, 0, none⟩)) rfl rfl (by kernel_rfl) (by kernel_rfl) (by kernel_rfl) (fun _ _ _ h => h) (Or.inl ⟨by rfl, by intro x hSx; go_simp; try (first | rfl | go_num)⟩) HH ?_
    simp only [List.set_cons_zero, List.set_cons_succ]
    refine takeL (i := 1) (d := 11) (v := .pointer (some ⟨L.tb, 0, none⟩)) rfl rfl (by kernel_rfl) (by kernel_rfl) (by kernel_rfl) (fun _ _ _ h => h) (Or.inl ⟨by rfl, by intro x hSx; go_simp; try (first | rfl | go_num)⟩) HH ?_
    simp only [List.set_cons_zero, List.set_cons_succ]
    refine takeL (i := 2) (d := 12) (v := .pointer (some ⟨L.tb, 0, none⟩)) rfl rfl (by kernel_rfl) (by kernel_rfl) (by kernel_rfl) (fun _ _ _ h => h) (Or.inl ⟨by rfl, by intro x hSx; go_simp; try (first | rfl | go_num)⟩) HH ?_
    simp only [List.set_cons_zero, List.set_cons_succ]
    refine takeL (i := 3) (d := 13) (v := .pointer (some ⟨L.tb, 26, none⟩)) rfl rfl (by kernel_rfl) (by kernel_rfl) (by kernel_rfl) (fun _ _ _ h => h) (Or.inl ⟨by rfl, by intro x hSx; go_simp; try (first | rfl | go_num)⟩) HH ?_
    simp only [List.set_cons_zero, List.set_cons_succ]
    refine takeL (i := 4) (d := 14) (v := .pointer (some ⟨L.tb, 38, none⟩)) rfl rfl (by kernel_rfl) (by kernel_rfl) (by kernel_rfl) (fun _ _ _ h => h) (Or.inl ⟨by rfl, by intro x hSx; go_simp; try (first | rfl | go_num)⟩) HH ?_
    simp only [List.set_cons_zero, List.set_cons_succ]
    refine takeL (i := 5) (d := 15) (v := .int .i64 s.top) rfl rfl (by kernel_rfl) (by kernel_rfl) (by kernel_rfl) (fun _ _ _ h => h) (Or.inl ⟨by rfl, by intro x hSx; have hSc := hSx.1; go_simp; try (first | rfl | go_num)⟩) HH ?_
    simp only [List.set_cons_zero, List.set_cons_succ]
    refine takeL (i := 6) (d := 16) (v := .int .i64 r) rfl rfl (by kernel_rfl) (by kernel_rfl) (by kernel_rfl) (fun _ _ _ h => h) (Or.inl ⟨by rfl, by intro x hSx; go_simp; try (first | rfl | go_num)⟩) HH ?_
    simp only [List.set_cons_zero, List.set_cons_succ]
    refine takeL (i := 7) (d := 17) (v := .int .i64 (s.top + r)) rfl rfl (by kernel_rfl) (by kernel_rfl) (by kernel_rfl) (fun _ _ _ h => h) (Or.inl ⟨by rfl, by intro x hSx; go_simp; try (first | rfl | go_num)⟩) HH ?_
    simp only [List.set_cons_zero, List.set_cons_succ]
    refine takeL (i := 8) (d := 18) (v := .pointer (some ⟨L.tb, 0, none⟩)) rfl rfl (by kernel_rfl) (by kernel_rfl) (by kernel_rfl) (fun _ _ _ h => h) (Or.inl ⟨by rfl, by intro x hSx; go_simp; try (first | rfl | go_num)⟩) HH ?_
    simp only [List.set_cons_zero, List.set_cons_succ]
    refine takeL (i := 9) (d := 19) (v := .pointer (some ⟨L.tb, 0, none⟩)) rfl rfl (by kernel_rfl) (by kernel_rfl) (by kernel_rfl) (fun _ _ _ h => h) (Or.inl ⟨by rfl, by intro x hSx; go_simp; try (first | rfl | go_num)⟩) HH ?_
    simp only [List.set_cons_zero, List.set_cons_succ]
    refine takeL (i := 10) (d := 20) (v := .pointer (some ⟨L.tb, 26, none⟩)) rfl rfl (by kernel_rfl) (by kernel_rfl) (by kernel_rfl) (fun _ _ _ h => h) (Or.inl ⟨by rfl, by intro x hSx; go_simp; try (first | rfl | go_num)⟩) HH ?_
    simp only [List.set_cons_zero, List.set_cons_succ]
    refine takeL (i := 11) (d := 21) (v := .pointer (some ⟨L.tb, 38, none⟩)) rfl rfl (by kernel_rfl) (by kernel_rfl) (by kernel_rfl) (fun _ _ _ h => h) (Or.inl ⟨by rfl, by intro x hSx; go_simp; try (first | rfl | go_num)⟩) HH ?_
    simp only [List.set_cons_zero, List.set_cons_succ]
    refine takeL (i := 12) (d := 22) (v := .int .i64 s.top) rfl rfl (by kernel_rfl) (by kernel_rfl) (by kernel_rfl) (fun _ _ _ h => h) (Or.inl ⟨by rfl, by intro x hSx; have hSc := hSx.1; go_simp; try (first | rfl | go_num)⟩) HH ?_
    simp only [List.set_cons_zero, List.set_cons_succ]
    refine takeL (i := 13) (d := 23) (v := .pointer (some ⟨L.tb, 0, none⟩)) rfl rfl (by kernel_rfl) (by kernel_rfl) (by kernel_rfl) (fun _ _ _ h => h) (Or.inl ⟨by rfl, by intro x hSx; go_simp; try (first | rfl | go_num)⟩) HH ?_
    simp only [List.set_cons_zero, List.set_cons_succ]
    refine takeL (i := 14) (d := 24) (v := .pointer (some ⟨L.tb, 0, none⟩)) rfl rfl (by kernel_rfl) (by kernel_rfl) (by kernel_rfl) (fun _ _ _ h => h) (Or.inl ⟨by rfl, by intro x hSx; go_simp; try (first | rfl | go_num)⟩) HH ?_
    simp only [List.set_cons_zero, List.set_cons_succ]
    refine takeL (i := 15) (d := 25) (v := .pointer (some ⟨L.tb, 26, none⟩)) rfl rfl (by kernel_rfl) (by kernel_rfl) (by kernel_rfl) (fun _ _ _ h => h) (Or.inl ⟨by rfl, by intro x hSx; go_simp; try (first | rfl | go_num)⟩) HH ?_
    simp only [List.set_cons_zero, List.set_cons_succ]
    refine takeL (i := 16) (d := 26) (v := .pointer (some ⟨L.tb, 39, none⟩)) rfl rfl (by kernel_rfl) (by kernel_rfl) (by kernel_rfl) (fun _ _ _ h => h) (Or.inl ⟨by rfl, by intro x hSx; go_simp; try (first | rfl | go_num)⟩) HH ?_
    simp only [List.set_cons_zero, List.set_cons_succ]
    refine takeL (i := 17) (d := 27) (v := .int .i64 s.bottom) rfl rfl (by kernel_rfl) (by kernel_rfl) (by kernel_rfl) (fun _ _ _ h => h) (Or.inl ⟨by rfl, by intro x hSx; have hSc := hSx.2; go_simp; try (first | rfl | go_num)⟩) HH ?_
    simp only [List.set_cons_zero, List.set_cons_succ]
    refine wpAnyH_all (rs := [18]) (by kernel_rfl) (by simp) ?_
    intro i hi
    rw [List.mem_singleton] at hi
    subst hi
    refine wpOp_step rfl fun Kq hKq => ?_
    rw [if_pos (by rfl)]
    refine wp_callL (f := 103) 28 [.tmp 17, .tmp 22, .tmp 27] #[3, 3, 3] rfl rfl [.int .i64 (s.top + r), .int .i64 s.top, .int .i64 s.bottom] rfl (by kernel_rfl) (fun v w' => v = .int .i64 (TS.bringI (s.top + r) s.top s.bottom) ∧ w' = _) ((bring_any _ _ _ _).mono fun e w' h => ⟨_, h.1, rfl, h.2⟩) ?_
    rintro v2 w1 ⟨rfl, rfl⟩
    refine hKq _ _ ⟨HH, ?_⟩
    clear hKq
    simp only [List.set_cons_zero, List.set_cons_succ]
    refine takeL (i := 19) (d := 29) (v := .pointer (some ⟨L.tb, 0, none⟩)) rfl rfl (by kernel_rfl) (by kernel_rfl) (by kernel_rfl) (fun _ _ _ h => h) (Or.inl ⟨by rfl, by intro x hSx; go_simp; try (first | rfl | go_num)⟩) HH ?_
    simp only [List.set_cons_zero, List.set_cons_succ]
    refine takeL (i := 20) (d := 30) (v := .pointer (some ⟨L.tb, 26, none⟩)) rfl rfl (by kernel_rfl) (by kernel_rfl) (by kernel_rfl) (fun _ _ _ h => h) (Or.inl ⟨by rfl, by intro x hSx; go_simp; try (first | rfl | go_num)⟩) HH ?_
    simp only [List.set_cons_zero, List.set_cons_succ]
    refine takeL (i := 21) (d := 31) (v := .pointer (some ⟨L.tb, 26, none⟩)) rfl rfl (by kernel_rfl) (by kernel_rfl) (by kernel_rfl) (fun _ _ _ h => h) (Or.inl ⟨by rfl, by intro x hSx; go_simp; try (first | rfl | go_num)⟩) HH ?_
    simp only [List.set_cons_zero, List.set_cons_succ]
    refine takeL (i := 22) (d := 32) (v := .pointer (some ⟨L.tb, 26, none⟩)) rfl rfl (by kernel_rfl) (by kernel_rfl) (by kernel_rfl) (fun _ _ _ h => h) (Or.inl ⟨by rfl, by intro x hSx; go_simp; try (first | rfl | go_num)⟩) HH ?_
    simp only [List.set_cons_zero, List.set_cons_succ]
    refine wpAnyH_all (rs := [23]) (by kernel_rfl) (by simp) ?_
    intro i hi
    rw [List.mem_singleton] at hi
    subst hi
    refine wpOp_step rfl fun Kq hKq => ?_
    rw [if_pos (by rfl)]
    refine wp_tsetO 3 info3s (.tmp 32) (.tmp 28) rfl rfl L s X 26 (.int .i64 (TS.bringI (s.top + r) s.top s.bottom)) rfl rfl rfl rfl HT0 (by omega) (by rw [HX.out]; rfl) (by rw [HX.out]) (by rw [HX.out]) (by rw [HX.out]) (by rw [HX.out]) ?_
    intro u' ht' cu' hcell
    refine hKq _ _ ⟨⟨(hcell 38 (by omega)).trans HH.1, (hcell 39 (by omega)).trans HH.2⟩, ?_⟩
    clear hKq HH hcell
    refine wpAnyH_done (by kernel_rfl) ?_ _
    have HF : Hid (TAt u' L X ∧ Ch L.own w u') := ⟨ht', ⟨cu'.os, cu'.tape, cu'.output, cu'.size, cu'.block⟩⟩
    clear ht' cu' HT0
    go_wp2_with fail
    go_end0
    exact ⟨rfl, HF.out.1, HF.out.2⟩
  | false =>
    rw [ho] at c37
    rw [if_neg (by rw [ho]; simp)] at hX
    have l1 := toRow_any L s w ht hi r
    have HX : Hid _ := hX
    clear ht hX hi ho
    go_enter Tryd.func115, Tryd.ntmps115
    go_wp2_with (go_at_call 106; refine l1.mono ?_; rintro e w1 ⟨rfl, h1, c1⟩)
    go_end0
    exact ⟨rfl, by rw [HX.out]; exact h1, c1⟩

theorem TS.Inv.upd {s t : TS} (h : s.Inv) (e1 : t.rows = s.rows) (e2 : t.cols = s.cols) (e3 : t.s0 = s.s0) (e4 : t.s1 = s.s1) (e5 : t.tabs = s.tabs) (e6 : t.v0 = s.v0) (e7 : t.v1 = s.v1) (r0 : 0 ≤ t.row) (r1 : t.row < (s.rows : Int)) (c0 : 0 ≤ t.col) (c1 : t.col < (s.cols : Int))
    (t0 : 0 ≤ t.top) (t1 : t.top ≤ t.bottom) (t2 : t.bottom < (s.rows : Int)) (sh : t.shown = 0 ∨ t.shown = 1) : t.Inv :=
  ⟨e1 ▸ h.r1, e1 ▸ h.r2, e2 ▸ h.c1, e2 ▸ h.c2, r0, by rw [e1]; exact r1, c0, by rw [e2]; exact c1, t0, t1, by rw [e1]; exact t2, sh, by rw [e3, e1]; exact h.l0, by rw [e4, e1]; exact h.l1, by rw [e5, e2]; exact h.lt,
   by rw [e6, e1]; exact h.v0r, by rw [e6, e2]; exact h.v0c, by rw [e7, e1]; exact h.v1r, by rw [e7, e2]; exact h.v1c⟩
theorem TS.Inv.toCol {s : TS} (h : s.Inv) (c : Int) : (s.toCol c).Inv :=
  h.upd rfl rfl rfl rfl rfl rfl rfl h.row0 h.row1 (by show 0 ≤ TS.bringI _ _ _; unfold TS.bringI; have := h.c1; omega) (by show TS.bringI _ _ _ < _; unfold TS.bringI; have := h.c1; omega) h.top0 h.tb h.bot h.sh
theorem TS.Inv.toRow {s : TS} (h : s.Inv) (c : Int) : (s.toRow c).Inv :=
  h.upd rfl rfl rfl rfl rfl rfl rfl (by show 0 ≤ TS.bringI _ _ _; unfold TS.bringI; have := h.r1; omega) (by show TS.bringI _ _ _ < _; unfold TS.bringI; have := h.r1; omega) h.col0 h.col1 h.top0 h.tb h.bot h.sh
theorem TS.Inv.toCounted {s : TS} (h : s.Inv) (c : Int) : (s.toCounted c).Inv := by
  unfold TS.toCounted
  split
  · exact h.upd rfl rfl rfl rfl rfl rfl rfl (by show 0 ≤ TS.bringI _ _ _; unfold TS.bringI; have := h.top0; omega) (by show TS.bringI _ _ _ < _; unfold TS.bringI; have := h.tb; have := h.bot; omega) h.col0 h.col1 h.top0 h.tb h.bot h.sh
  · exact h.toRow c
theorem TS.Inv.rise {s : TS} (h : s.Inv) (n : Int) (hn : 0 ≤ n) : (s.rise n).Inv :=
  h.upd rfl rfl rfl rfl rfl rfl rfl (by show 0 ≤ max _ _; have := h.top0; split <;> omega) (by show max _ _ < _; have := h.row1; have := h.r1; split <;> omega) h.col0 h.col1 h.top0 h.tb h.bot h.sh
theorem TS.Inv.sink {s : TS} (h : s.Inv) (n : Int) (hn : 0 ≤ n) : (s.sink n).Inv :=
  h.upd rfl rfl rfl rfl rfl rfl rfl (by show 0 ≤ min _ _; have := h.row0; have := h.top0; have := h.tb; have := h.r1; split <;> omega) (by show min _ _ < _; have := h.bot; have := h.r1; split <;> omega) h.col0 h.col1 h.top0 h.tb h.bot h.sh
theorem TS.Inv.unwait {s : TS} (h : s.Inv) : s.unwait.Inv := h.upd rfl rfl rfl rfl rfl rfl rfl h.row0 h.row1 h.col0 h.col1 h.top0 h.tb h.bot h.sh
theorem TS.Inv.home {s : TS} (h : s.Inv) : s.home.Inv := ((h.toCounted 0).toCol 0).unwait
theorem TS.Inv.scrollUp {s : TS} (h : s.Inv) (n : Nat) : (s.scrollUp n).Inv := h.setCur (by rw [upS_length]; exact h.lcur)
theorem TS.Inv.scrollDown {s : TS} (h : s.Inv) (n : Nat) : (s.scrollDown n).Inv := h.setCur (by rw [downS_length]; exact h.lcur)
theorem TS.Inv.down {s : TS} (h : s.Inv) : s.down.Inv := by
  unfold TS.down
  split
  · exact h.scrollUp 1
  · exact h.toRow _
theorem TS.Inv.up {s : TS} (h : s.Inv) : s.up.Inv := by
  unfold TS.up
  split
  · exact h.scrollDown 1
  · exact h.toRow _
theorem TS.Inv.nextLine {s : TS} (h : s.Inv) : s.nextLine.Inv := (h.toCol 0).down
theorem TS.Inv.setRowNow {s : TS} (h : s.Inv) (r : List CellS) : (s.setRowNow r).Inv := h.setCur (by rw [List.length_set]; exact h.lcur)

theorem home_any (L : Lay) (s : TS) (w : World) (ht : TAt w L s) (hi : s.Inv) : Calls Tryd.prog 127 #[.pointer (some ⟨L.tb, 0, none⟩)] w fun e w' => e = .returned (.tuple #[]) ∧ TAt w' L s.home ∧ Ch L.own w w' := by
  have l1 := toCounted_any L s w ht hi 0 (by omega)
  have l2 : ∀ u, TAt u L (s.toCounted 0) → _ := fun u hu => toCol_any L (s.toCounted 0) u hu (hi.toCounted 0) 0
  clear ht
  go_enter Tryd.func127, Tryd.ntmps127
  go_wp2_with (first | (go_at_call 115; refine l1.mono ?_; rintro e w1 ⟨rfl, h1, c1⟩) | (go_at_call 79; refine (l2 _ h1).mono ?_; rintro e w2 ⟨rfl, h2, c2⟩; have c28 := h2.c 28 _ rfl; have f28 := h2.f 28))
  go_end0
  exact ⟨rfl, h2.set 28 _ rfl rfl rfl rfl rfl, (c1.trans c2).tset _ _⟩
end Go.Proofs.YtheibfffilomcaaDoor

/- Walks of package terminal: down, up, nextLine, save. -/
namespace Go.Proofs.YtheibfffilomcaaDoor
open Go.RowKit

theorem height_ok {s : TS} (hi : s.Inv) : s.top.toNat + s.height ≤ s.rows ∧ 1 ≤ s.height ∧ s.height ≤ s.rows - s.top.toNat := by
  unfold TS.height
  have := hi.top0; have := hi.tb; have := hi.bot
  omega
theorem below_ok {s : TS} (hi : s.Inv) (h : s.row ≤ s.bottom) : s.row.toNat + s.below ≤ s.rows ∧ 1 ≤ s.below ∧ s.below ≤ s.rows - s.row.toNat := by
  unfold TS.below
  have := hi.row0; have := hi.bot
  omega
theorem gs_ch {L : Lay} {s : TS} {w w' : World} (c : Ch (· ∈ L.gs s) w w') : Ch L.own w w' := c.mono (fun _ _ h => Lay.gs_own h)
theorem own_drewN {L : Lay} {w : World} {m : Nat} : Ch L.own w (w.drewN m) := (Ch.refl _ _).drewN m

/-- The region scrolled up, or down, by n. -/
theorem scrollUp_any (L : Lay) (s : TS) (u : World) (ht : TAt u L s) (hi : s.Inv) (n : Nat) (hn : 1 ≤ n ∧ n ≤ 70000) : Calls Tryd.prog 105 #[.slice (some ⟨L.sb s, s.top.toNat, none⟩) s.height (s.rows - s.top.toNat), .int .i64 (n : Int)] u fun e w' => e = .returned (.tuple #[]) ∧ TAt w' L (s.scrollUp n) ∧ Ch L.own u w' := by
  obtain ⟨h1, h2, h3⟩ := height_ok hi
  have := hi.r2; have := hi.c2
  exact (up_any (L.sb s) s.top.toNat s.height n (s.rows - s.top.toNat) s.cols (L.gs s) s.cur u ht.cur (by rw [hi.lcur]; exact h1) h2 (by omega) hn.2 hn.1 (by omega) h3).mono fun e w' h => ⟨h.1, ht.setCur h.2.2 h.2.1, gs_ch h.2.2⟩
theorem scrollDown_any (L : Lay) (s : TS) (u : World) (ht : TAt u L s) (hi : s.Inv) (n : Nat) (hn : 1 ≤ n ∧ n ≤ 70000) : Calls Tryd.prog 123 #[.slice (some ⟨L.sb s, s.top.toNat, none⟩) s.height (s.rows - s.top.toNat), .int .i64 (n : Int)] u fun e w' => e = .returned (.tuple #[]) ∧ TAt w' L (s.scrollDown n) ∧ Ch L.own u w' := by
  obtain ⟨h1, h2, h3⟩ := height_ok hi
  have := hi.r2; have := hi.c2
  exact (down_any (L.sb s) s.top.toNat s.height n (s.rows - s.top.toNat) s.cols (L.gs s) s.cur u ht.cur (by rw [hi.lcur]; exact h1) h2 (by omega) hn.2 hn.1 (by omega) h3).mono fun e w' h => ⟨h.1, ht.setCur h.2.2 h.2.1, gs_ch h.2.2⟩

theorem tdown_any (L : Lay) (s : TS) (w : World) (ht : TAt w L s) (hi : s.Inv) : Calls Tryd.prog 81 #[.pointer (some ⟨L.tb, 0, none⟩)] w fun e w' => e = .returned (.tuple #[]) ∧ TAt w' L s.down ∧ Ch L.own w w' := by
  have c26 := ht.c 26 _ rfl
  have c39 := ht.c 39 _ rfl
  have hr0 := hi.row0
  have hr1 := hi.row1
  have hr2 := hi.r2
  have v1 : IntKind.i64.wrap (s.row + 1) = s.row + 1 := IntWalk.i64_in _ (by omega)
  have hX : s.down = if s.row = s.bottom then s.scrollUp 1 else s.toRow (s.row + 1) := rfl
  generalize s.down = X at *
  have l1 : ∀ m, _ := fun m => region_any L s (w.drewN m) (ht.drewN m) hi
  have l2 : ∀ m, _ := fun m => scrollUp_any L s (w.drewN m) (ht.drewN m) hi 1 (by omega)
  have l3 : ∀ m, _ := fun m => toRow_any L s (w.drewN m) (ht.drewN m) hi (s.row + 1)
  simp only [Int.natCast_one] at l2
  by_cases hq : s.row = s.bottom
  · rw [if_pos hq] at hX
    have HX : Hid _ := hX
    have bq : (s.row == s.bottom) = true := by simp [hq]
    clear ht hX hi hq
    go_enter Tryd.func81, Tryd.ntmps81
    go_wp2_with fail
    go_quiet (fail)
    go_wp2_with (first | (go_at_call 104; refine (l1 _).mono ?_; rintro e w1 ⟨rfl, m1, rfl⟩; rw [World.drewN_drewN]) | (go_at_call 105; refine (l2 _).mono ?_; rintro e w2 ⟨rfl, h2, c2⟩))
    go_end0
    exact ⟨rfl, by rw [HX.out]; exact h2, own_drewN.trans c2⟩
  · rw [if_neg hq] at hX
    have HX : Hid _ := hX
    have bq : (s.row == s.bottom) = false := by simp [hq]
    clear ht hX hi hq
    go_enter Tryd.func81, Tryd.ntmps81
    go_wp2_with fail
    go_quiet (fail)
    go_wp2_with (go_at_call 106; refine (l3 _).mono ?_; rintro e w2 ⟨rfl, h2, c2⟩)
    go_end0
    exact ⟨rfl, by rw [HX.out]; exact h2, own_drewN.trans c2⟩
theorem tup_any (L : Lay) (s : TS) (w : World) (ht : TAt w L s) (hi : s.Inv) : Calls Tryd.prog 109 #[.pointer (some ⟨L.tb, 0, none⟩)] w fun e w' => e = .returned (.tuple #[]) ∧ TAt w' L s.up ∧ Ch L.own w w' := by
  have c26 := ht.c 26 _ rfl
  have c38 := ht.c 38 _ rfl
  have hr0 := hi.row0
  have hr1 := hi.row1
  have hr2 := hi.r2
  have v1 : IntKind.i64.wrap (s.row - 1) = s.row - 1 := IntWalk.i64_in _ (by omega)
  have hX : s.up = if s.row = s.top then s.scrollDown 1 else s.toRow (s.row - 1) := rfl
  generalize s.up = X at *
  have l1 : ∀ m, _ := fun m => region_any L s (w.drewN m) (ht.drewN m) hi
  have l2 : ∀ m, _ := fun m => scrollDown_any L s (w.drewN m) (ht.drewN m) hi 1 (by omega)
  have l3 : ∀ m, _ := fun m => toRow_any L s (w.drewN m) (ht.drewN m) hi (s.row - 1)
  simp only [Int.natCast_one] at l2
  by_cases hq : s.row = s.top
  · rw [if_pos hq] at hX
    have HX : Hid _ := hX
    have bq : (s.row == s.top) = true := by simp [hq]
    clear ht hX hi hq
    go_enter Tryd.func109, Tryd.ntmps109
    go_wp2_with fail
    go_quiet (fail)
    go_wp2_with (first | (go_at_call 104; refine (l1 _).mono ?_; rintro e w1 ⟨rfl, m1, rfl⟩; rw [World.drewN_drewN]) | (go_at_call 123; refine (l2 _).mono ?_; rintro e w2 ⟨rfl, h2, c2⟩))
    go_end0
    exact ⟨rfl, by rw [HX.out]; exact h2, own_drewN.trans c2⟩
  · rw [if_neg hq] at hX
    have HX : Hid _ := hX
    have bq : (s.row == s.top) = false := by simp [hq]
    clear ht hX hi hq
    go_enter Tryd.func109, Tryd.ntmps109
    go_wp2_with fail
    go_quiet (fail)
    go_wp2_with (go_at_call 106; refine (l3 _).mono ?_; rintro e w2 ⟨rfl, h2, c2⟩)
    go_end0
    exact ⟨rfl, by rw [HX.out]; exact h2, own_drewN.trans c2⟩
theorem nextLine_any (L : Lay) (s : TS) (w : World) (ht : TAt w L s) (hi : s.Inv) : Calls Tryd.prog 74 #[.pointer (some ⟨L.tb, 0, none⟩)] w fun e w' => e = .returned (.tuple #[]) ∧ TAt w' L s.nextLine ∧ Ch L.own w w' := by
  have l1 := toCol_any L s w ht hi 0
  have l2 : ∀ u, TAt u L (s.toCol 0) → _ := fun u hu => tdown_any L (s.toCol 0) u hu (hi.toCol 0)
  clear ht
  go_enter Tryd.func74, Tryd.ntmps74
  go_wp2_with (first | (go_at_call 79; refine l1.mono ?_; rintro e w1 ⟨rfl, h1, c1⟩) | (go_at_call 81; refine (l2 _ h1).mono ?_; rintro e w2 ⟨rfl, h2, c2⟩))
  go_end0
  exact ⟨rfl, h2, c1.trans c2⟩
end Go.Proofs.YtheibfffilomcaaDoor

/- Walks of Line and spelt. -/
namespace Go.Proofs.YtheibfffilomcaaDoor
open Go.RowKit

def strokesN : List (Int × Int) := [(106, 9496), (107, 9488), (108, 9484), (109, 9492), (110, 9532), (113, 9472), (116, 9500), (117, 9508), (118, 9524), (119, 9516), (120, 9474)]
def firstL (c : Int) : List (Int × Int) → Int
  | [] => c
  | (a, b) :: r => if a = c then b else firstL c r
theorem line_first (c : Int) : firstL c strokesN = TS.lineOf c := by
  simp only [firstL, strokesN, TS.lineOf, eq_comm (a := c)]
def strokesArr : Array Value := #[.int .i64 106, .int .i64 9496, .int .i64 107, .int .i64 9488, .int .i64 108, .int .i64 9484, .int .i64 109, .int .i64 9492, .int .i64 110, .int .i64 9532, .int .i64 113, .int .i64 9472, .int .i64 116, .int .i64 9500, .int .i64 117, .int .i64 9508, .int .i64 118, .int .i64 9524, .int .i64 119, .int .i64 9516, .int .i64 120, .int .i64 9474]
def Strokes (w : World) : Prop := ∃ t fr, w.heap[2]? = some (.cells strokesArr t fr)
theorem Strokes.kept {w w' : World} (h : Strokes w) (hb : w'.heap[2]? = w.heap[2]?) : Strokes w' := by
  obtain ⟨t, fr, h⟩ := h
  exact ⟨t, fr, hb.trans h⟩
theorem info148 : (Tryd.prog.info? 151).map (·.size) = some strokesArr.size := by kernel_rfl
theorem lidx0 (w : World) : (Instr.index 151 (.agg strokesArr) (.int .i64 0)).run Tryd.prog w = .ok (.agg #[.int .i64 106, .int .i64 9496]) w := by kernel_rfl
theorem lidx1 (w : World) : (Instr.index 151 (.agg strokesArr) (.int .i64 1)).run Tryd.prog w = .ok (.agg #[.int .i64 107, .int .i64 9488]) w := by kernel_rfl
theorem lidx2 (w : World) : (Instr.index 151 (.agg strokesArr) (.int .i64 2)).run Tryd.prog w = .ok (.agg #[.int .i64 108, .int .i64 9484]) w := by kernel_rfl
theorem lidx3 (w : World) : (Instr.index 151 (.agg strokesArr) (.int .i64 3)).run Tryd.prog w = .ok (.agg #[.int .i64 109, .int .i64 9492]) w := by kernel_rfl
theorem lidx4 (w : World) : (Instr.index 151 (.agg strokesArr) (.int .i64 4)).run Tryd.prog w = .ok (.agg #[.int .i64 110, .int .i64 9532]) w := by kernel_rfl
theorem lidx5 (w : World) : (Instr.index 151 (.agg strokesArr) (.int .i64 5)).run Tryd.prog w = .ok (.agg #[.int .i64 113, .int .i64 9472]) w := by kernel_rfl
theorem lidx6 (w : World) : (Instr.index 151 (.agg strokesArr) (.int .i64 6)).run Tryd.prog w = .ok (.agg #[.int .i64 116, .int .i64 9500]) w := by kernel_rfl
theorem lidx7 (w : World) : (Instr.index 151 (.agg strokesArr) (.int .i64 7)).run Tryd.prog w = .ok (.agg #[.int .i64 117, .int .i64 9508]) w := by kernel_rfl
theorem lidx8 (w : World) : (Instr.index 151 (.agg strokesArr) (.int .i64 8)).run Tryd.prog w = .ok (.agg #[.int .i64 118, .int .i64 9524]) w := by kernel_rfl
theorem lidx9 (w : World) : (Instr.index 151 (.agg strokesArr) (.int .i64 9)).run Tryd.prog w = .ok (.agg #[.int .i64 119, .int .i64 9516]) w := by kernel_rfl
theorem lidx10 (w : World) : (Instr.index 151 (.agg strokesArr) (.int .i64 10)).run Tryd.prog w = .ok (.agg #[.int .i64 120, .int .i64 9474]) w := by kernel_rfl
theorem stroke_k (k : Nat) (hk : k < 11) : ∃ a b : Int, (∀ w, (Instr.index 151 (.agg strokesArr) (.int .i64 k)).run Tryd.prog w = .ok (.agg #[.int .i64 a, .int .i64 b]) w) ∧ strokesN.drop k = (a, b) :: strokesN.drop (k + 1) := by
  match k, hk with
  | 0, _ => exact ⟨_, _, lidx0, rfl⟩
  | 1, _ => exact ⟨_, _, lidx1, rfl⟩
  | 2, _ => exact ⟨_, _, lidx2, rfl⟩
  | 3, _ => exact ⟨_, _, lidx3, rfl⟩
  | 4, _ => exact ⟨_, _, lidx4, rfl⟩
  | 5, _ => exact ⟨_, _, lidx5, rfl⟩
  | 6, _ => exact ⟨_, _, lidx6, rfl⟩
  | 7, _ => exact ⟨_, _, lidx7, rfl⟩
  | 8, _ => exact ⟨_, _, lidx8, rfl⟩
  | 9, _ => exact ⟨_, _, lidx9, rfl⟩
  | 10, _ => exact ⟨_, _, lidx10, rfl⟩
  | n + 11, h => omega
theorem firstL_hit {c a b : Int} {l r : List (Int × Int)} (e : l = (a, b) :: r) (h : a = c) : firstL c l = b := by rw [e]; simp only [firstL]; rw [if_pos h]
theorem firstL_miss {c a b : Int} {l r : List (Int × Int)} (e : l = (a, b) :: r) (h : ¬ a = c) : firstL c l = firstL c r := by rw [e]; simp only [firstL]; rw [if_neg h]

set_option maxHeartbeats 1000000 in
theorem line_walk (c : Int) (w : World) (hsp : Strokes w) : Calls Tryd.prog 102 #[.int .i64 c] w fun e w' => e = .returned (.int .i64 (TS.lineOf c)) ∧ Below w.heap.size w w' := by
  obtain ⟨lt, lfr, hleads⟩ := hsp
  have HL : Hid (w.heap[2]? = some (.cells strokesArr lt lfr)) := hleads
  clear hleads
  rw [← line_first]
  go_enter Tryd.func102, Tryd.ntmps102
  go_wp2_with (refine wpList_load_row rfl 151 _ rfl 2 rfl lt strokesArr lfr _ HL.out Tryd.underlying151 rfl info148 ?_)
  go_loopw [6] (fun i wr => ∃ k : Nat, k ≤ 11 ∧ i = .int .i64 k ∧ Below w.heap.size w wr ∧ Hid (firstL c (strokesN.drop k) = firstL c strokesN)) (fun i _ => 11 - (intOf i).toNat)
  case atStart => exact ⟨0, Nat.zero_le _, rfl, Below.refl _ _, rfl⟩
  case round =>
    obtain ⟨k, hk, rfl, hbel, hno⟩ := hrel
    by_cases hlt : k < 11
    · obtain ⟨a, b, hidx, hdr⟩ := stroke_k k hlt
      have HD : Hid _ := hdr
      clear hdr
      by_cases hac : a = c
      · have bq : (a == c) = true := by simp [hac]
        have HA : Hid (a = c) := hac
        clear hac
        go_wp2_with fail
        go_ret
        exact ⟨by rw [← hno.out, firstL_hit HD.out HA.out]; rfl, hbel.alloc hbel.size _⟩
      · have bq : (a == c) = false := by simp [hac]
        go_wp2_with fail
        go_roundw
        case rel => exact ⟨k + 1, by omega, by go_num, hbel.alloc hbel.size _, by rw [← hno.out, firstL_miss HD.out hac]; rfl⟩
        case measure => simp [intOf]; omega
    · have hk8 : k = 11 := by omega
      subst hk8
      go_wp2_with fail
      go_ret
      exact ⟨by rw [← hno.out]; rfl, hbel⟩

theorem spelt_any (L : Lay) (s : TS) (w : World) (ht : TAt w L s) (hst : Strokes w) (c : Int) : Calls Tryd.prog 78 #[.pointer (some ⟨L.tb, 0, none⟩), .int .i64 c] w fun e w' => e = .returned (.int .i64 (s.spelt c)) ∧ Sm w w' := by
  have c34 := ht.c 34 _ rfl
  have c35 := ht.c 35 _ rfl
  have c36 := ht.c 36 _ rfl
  have l1 := line_walk c w hst
  have hX : s.spelt c = if (if s.use = 1 then s.second else s.first) = 1 then TS.lineOf c else c := rfl
  generalize s.spelt c = X at *
  clear ht hst
  by_cases hu : s.use = 1
  · rw [if_pos hu] at hX
    have bu : (s.use == 1) = true := by simp [hu]
    by_cases ha : s.second = 1
    · rw [if_pos ha] at hX
      have ba : (s.second == 1) = true := by simp [ha]
      have HX : Hid _ := hX
      clear hX hu ha
      go_enter Tryd.func78, Tryd.ntmps78
      go_wp2_with (go_at_call 102; refine l1.mono ?_; rintro e w1 ⟨rfl, b1⟩)
      go_ret
      exact ⟨by rw [HX.out]; rfl, Ch.of_below b1⟩
    · rw [if_neg ha] at hX
      have ba : (s.second == 1) = false := by simp [ha]
      have HX : Hid _ := hX
      clear hX hu ha
      go_enter Tryd.func78, Tryd.ntmps78
      go_wp2_with fail
      go_ret
      exact ⟨by rw [HX.out]; rfl, Ch.refl _ _⟩
  · rw [if_neg hu] at hX
    have bu : (s.use == 1) = false := by simp [hu]
    by_cases ha : s.first = 1
    · rw [if_pos ha] at hX
      have ba : (s.first == 1) = true := by simp [ha]
      have HX : Hid _ := hX
      clear hX hu ha
      go_enter Tryd.func78, Tryd.ntmps78
      go_wp2_with (go_at_call 102; refine l1.mono ?_; rintro e w1 ⟨rfl, b1⟩)
      go_ret
      exact ⟨by rw [HX.out]; rfl, Ch.of_below b1⟩
    · rw [if_neg ha] at hX
      have ba : (s.first == 1) = false := by simp [ha]
      have HX : Hid _ := hX
      clear hX hu ha
      go_enter Tryd.func78, Tryd.ntmps78
      go_wp2_with fail
      go_ret
      exact ⟨by rw [HX.out]; rfl, Ch.refl _ _⟩
end Go.Proofs.YtheibfffilomcaaDoor

/- The walk of print. -/
namespace Go.Proofs.YtheibfffilomcaaDoor
open Go.RowKit

theorem TAt.range {w : World} {L : Lay} {s : TS} (h : TAt w L s) (j : Nat) (cs : List Value) (hcs : ((termV L s).drop j).take cs.length = cs) : w.rangeAt L.tb j cs := fun i v hv => by
  refine h.c (j + i) v ?_
  rw [← hcs] at hv
  rw [List.getElem?_take] at hv
  split at hv
  · rwa [List.getElem?_drop] at hv
  · cases hv
theorem TAt.row_ne {w : World} {L : Lay} {s : TS} (h : TAt w L s) {i g : Nat} (hg : (L.gs s)[i]? = some g) : L.tb ≠ g := fun e => by
  have hm := List.mem_of_getElem? hg
  unfold Lay.gs at hm
  split at hm
  · exact h.sep.tx (e ▸ hm)
  · exact h.sep.ty (e ▸ hm)
theorem TAt.setRowNow {w w' : World} {L : Lay} {s : TS} (h : TAt w L s) {g : Nat} (hg : (L.gs s)[s.row.toNat]? = some g) {r : List CellS} (hr : RowAt w' g r) (hl : r.length = s.cols) (c : Ch (· = g) w w') : TAt w' L (s.setRowNow r) :=
  h.setCur (c.mono fun _ _ e => e ▸ List.mem_of_getElem? hg) (h.cur.set hg hr hl c)
theorem TS.setRowNow_rest (s : TS) (r : List CellS) : (s.setRowNow r).col = s.col ∧ (s.setRowNow r).cols = s.cols ∧ (s.setRowNow r).wrap = s.wrap := by
  unfold TS.setRowNow TS.setCur
  split <;> exact ⟨rfl, rfl, rfl⟩
theorem TS.nextLine_rest (s : TS) (h : s.Inv) : s.nextLine.col = 0 ∧ s.nextLine.cols = s.cols ∧ s.nextLine.wrap = s.wrap := by
  have h0 : TS.bringI 0 0 ((s.cols : Int) - 1) = 0 := by unfold TS.bringI; have := h.c1; omega
  unfold TS.nextLine TS.down
  split
  · unfold TS.scrollUp
    refine ⟨(TS.setCur_rest _ _).2.2.2.2.1.trans h0, (TS.setCur_rest _ _).2.1, ?_⟩
    unfold TS.setCur; split <;> rfl
  · exact ⟨h0, rfl, rfl⟩
/-- The terminal's blocks stand behind the tables. -/
def Lay.Hi (L : Lay) : Prop := ∀ k, L.own k → 2 < k

set_option maxRecDepth 100000 in
set_option maxHeartbeats 4000000 in
theorem print_any (L : Lay) (s : TS) (w : World) (ht : TAt w L s) (hi : s.Inv) (hL : L.Hi) (hsp : Spans w) (hst : Strokes w) (c : Int) (wd : Nat) (hwid : widN c = (wd : Int)) (hw2 : wd ≤ 2) :
    Calls Tryd.prog 62 #[.pointer (some ⟨L.tb, 0, none⟩), .int .i64 c] w fun e w' => e = .returned (.tuple #[]) ∧ TAt w' L (s.print c wd) ∧ Ch L.own w w' := by
  have l0 := width_walk c w hsp
  rw [hwid] at l0
  have hc1 := hi.c1
  have hc2 := hi.c2
  have HT : Hid (TAt w L s) := ht
  have HHI : Hid L.Hi := hL
  have HST0 : Hid (Strokes w) := hst
  have HI : Hid s.Inv := hi
  generalize hX : s.print c wd = X at *
  unfold TS.print at hX
  by_cases h0 : wd = 0
  · rw [if_pos (Or.inl h0)] at hX
    have HX : Hid _ := hX
    subst h0
    clear ht hi hL hsp hst hwid hX
    go_enter Tryd.func62, Tryd.ntmps62
    go_wp2_with (go_at_call 31; refine l0.mono ?_; rintro e u0 ⟨rfl, b0⟩)
    exact bodyPost_ret (results_none Tryd.results62 _ _ _) rfl ⟨rfl, by rw [← HX.out]; exact HT.out.sm (Ch.of_below b0), Ch.of_below b0⟩
  · have b1 : ((wd : Int) == 0) = false := by simp; omega
    by_cases h1 : s.cols < wd
    · rw [if_pos (Or.inr h1)] at hX
      have HX : Hid _ := hX
      have d1 : decide ((s.cols : Int) < (wd : Int)) = true := by simp; omega
      have d2 : (s.cols : Int) < (wd : Int) := by omega
      clear ht hi hL hsp hst hwid hX
      go_enter Tryd.func62, Tryd.ntmps62
      go_wp2_with (go_at_call 31; refine l0.mono ?_; rintro e u0 ⟨rfl, b0⟩; have H0 : TAt u0 L s := HT.out.sm (Ch.of_below b0); have c43 := H0.c 43 _ rfl)
      exact bodyPost_ret (results_none Tryd.results62 _ _ _) rfl ⟨rfl, by rw [← HX.out]; exact HT.out.sm (Ch.of_below b0), Ch.of_below b0⟩
    · rw [if_neg (by omega)] at hX
      have d1 : decide ((s.cols : Int) < (wd : Int)) = false := by simp; omega
      have d2 : ¬ (s.cols : Int) < (wd : Int) := by omega
      have HWD : Hid (wd = 1 ∨ wd = 2) := by show wd = 1 ∨ wd = 2; omega
      clear hwid hsp hst
      cases hwt : s.waits with
      | true =>
        have e1 : s.print1 = s.unwait.nextLine := by unfold TS.print1; rw [if_pos hwt]
        obtain ⟨n1, n2, n3⟩ := TS.nextLine_rest s.unwait HI.out.unwait
        have n2' : s.unwait.nextLine.cols = s.cols := n2
        rw [e1, n1, if_neg (by omega)] at hX
        have HX : Hid _ := hX
        have hI1 : s.unwait.nextLine.Inv := hi.unwait.nextLine
        clear hX ht hi hL
        go_enter Tryd.func62, Tryd.ntmps62
        go_wp2_with (first | (go_at_call 31; refine l0.mono ?_; rintro e u0 ⟨rfl, b0⟩; have H0 : TAt u0 L s := HT.out.sm (Ch.of_below b0); have c43 := H0.c 43 _ rfl; have c28 := H0.c 28 _ rfl; have f28 := H0.f 28; rw [hwt] at c28) | (go_at_call 74; refine (nextLine_any L s.unwait _ (H0.set 28 _ rfl rfl rfl rfl rfl) HI.out.unwait).mono ?_; rintro e u1 ⟨rfl, h1', c1⟩))
        have c27 := h1'.c 27 _ rfl
        have c43 := h1'.c 43 _ rfl
        rw [n1] at c27
        rw [n2'] at c43
        have vz : IntKind.i64.wrap (0 + (wd : Int)) = (wd : Int) := by rw [Int.zero_add]; exact IntWalk.i64_in _ (by omega)
        have vz' : IntKind.i64.wrap (wd : Int) = (wd : Int) := IntWalk.i64_in _ (by omega)
        have CHx : Hid (Ch L.own w u1) := (((Ch.of_below b0).trans ((Ch.refl _ _).tset _ _)).trans c1)
        clear c28 f28 H0 c1
        go_quiet (fail)
        obtain ⟨cc, hcc⟩ : ∃ cc : Nat, (s.unwait.nextLine).col = (cc : Int) := ⟨(s.unwait.nextLine).col.toNat, by have := (hI1).col0; omega⟩
        have HCC : Hid ((s.unwait.nextLine).col = (cc : Int)) := hcc
        have HCL : Hid (cc < (s.unwait.nextLine).cols) := by have := (hI1).col1; show cc < (s.unwait.nextLine).cols; omega
        have HFT : Hid (cc + wd ≤ (s.unwait.nextLine).cols) := by show cc + wd ≤ (s.unwait.nextLine).cols; omega
        have HIt : Hid ((s.unwait.nextLine).Inv) := hI1
        have HU : Hid (TAt (u1.drewN nq) L (s.unwait.nextLine)) := h1'.drewN nq
        have CHU : Hid (Ch L.own w (u1.drewN nq)) := CHx.out.drewN nq
        have HST : Hid (Strokes (u1.drewN nq)) := HST0.out.kept (CHU.out.block 2 (Nat.lt_trans (HHI.out _ (.inl rfl)) HT.out.lt) (fun h => by have := HHI.out _ h; omega))
        have HXX : Hid (X = (s.unwait.nextLine).print2 c wd) := HX.out.symm
        clear hcc CHx c27 c43 HX e1 n1 n2 n2' n3 hI1 h1'
        generalize s.unwait.nextLine = t at *
        generalize World.drewN u1 nq = U at *
        have d41 := HU.out.c 41 _ rfl
        cases hin : t.insert with
        | true =>
          rw [hin] at d41
          have HIN : Hid (t.insert = true) := hin
          clear hin
          go_wp2_with fail
          obtain ⟨g, hg, hrow, hlen⟩ := HU.out.rowg HIt.out
          have HU0 : TAt ({ U with drawn := U.drawn + 1 } : World) L t := HU.out.sm ((Ch.refl _ _).drewN 1)
          have HH : World.cell? ({ U with drawn := U.drawn + 1 } : World) ⟨L.tb, 27, none⟩ = some (.int .i64 (cc : Int)) := by rw [← HCC.out]; exact HU0.c 27 _ rfl
          have HG : Hid _ := hg
          have HRW : Hid (RowAt U g t.rowNow) := hrow
          have HLN : Hid _ := hlen
          clear hg hrow hlen
          refine wp_region_held (S := fun x => x.cell? ⟨L.tb, 27, none⟩ = some (.int .i64 (cc : Int))) mixedC ?_
          refine takeL (i := 0) (d := 59) (v := .pointer (some ⟨L.tb, 0, none⟩)) rfl rfl (by kernel_rfl) (by kernel_rfl) (by kernel_rfl) (fun _ _ _ h => h) (Or.inl ⟨by rfl, by intro x hSx; go_simp; try (first | rfl | go_num)⟩) HH ?_
          simp only [List.set_cons_zero, List.set_cons_succ]
          refine takeL (i := 2) (d := 61) (v := .pointer (some ⟨L.tb, 0, none⟩)) rfl rfl (by kernel_rfl) (by kernel_rfl) (by kernel_rfl) (fun _ _ _ h => h) (Or.inl ⟨by rfl, by intro x hSx; go_simp; try (first | rfl | go_num)⟩) HH ?_
          simp only [List.set_cons_zero, List.set_cons_succ]
          refine takeL (i := 3) (d := 62) (v := .pointer (some ⟨L.tb, 0, none⟩)) rfl rfl (by kernel_rfl) (by kernel_rfl) (by kernel_rfl) (fun _ _ _ h => h) (Or.inl ⟨by rfl, by intro x hSx; go_simp; try (first | rfl | go_num)⟩) HH ?_
          simp only [List.set_cons_zero, List.set_cons_succ]
          refine takeL (i := 4) (d := 63) (v := .pointer (some ⟨L.tb, 26, none⟩)) rfl rfl (by kernel_rfl) (by kernel_rfl) (by kernel_rfl) (fun _ _ _ h => h) (Or.inl ⟨by rfl, by intro x hSx; go_simp; try (first | rfl | go_num)⟩) HH ?_
          simp only [List.set_cons_zero, List.set_cons_succ]
          refine takeL (i := 5) (d := 64) (v := .pointer (some ⟨L.tb, 26, none⟩)) rfl rfl (by kernel_rfl) (by kernel_rfl) (by kernel_rfl) (fun _ _ _ h => h) (Or.inl ⟨by rfl, by intro x hSx; go_simp; try (first | rfl | go_num)⟩) HH ?_
          simp only [List.set_cons_zero, List.set_cons_succ]
          refine takeL (i := 6) (d := 65) (v := .pointer (some ⟨L.tb, 27, none⟩)) rfl rfl (by kernel_rfl) (by kernel_rfl) (by kernel_rfl) (fun _ _ _ h => h) (Or.inl ⟨by rfl, by intro x hSx; go_simp; try (first | rfl | go_num)⟩) HH ?_
          simp only [List.set_cons_zero, List.set_cons_succ]
          refine takeL (i := 7) (d := 66) (v := .int .i64 (cc : Int)) rfl rfl (by kernel_rfl) (by kernel_rfl) (by kernel_rfl) (fun _ _ _ h => h) (Or.inl ⟨by rfl, by intro x hSx; have hSc := hSx; go_simp; try (first | rfl | go_num)⟩) HH ?_
          simp only [List.set_cons_zero, List.set_cons_succ]
          refine takeL (i := 8) (d := 67) (v := .int .i64 (wd : Int)) rfl rfl (by kernel_rfl) (by kernel_rfl) (by kernel_rfl) (fun _ _ _ h => h) (Or.inl ⟨by rfl, by intro x hSx; go_simp; try (first | rfl | go_num)⟩) HH ?_
          simp only [List.set_cons_zero, List.set_cons_succ]
          refine wpAnyH_all (rs := [1]) (by kernel_rfl) (by simp) ?_
          intro i hi'
          rw [List.mem_singleton] at hi'
          subst hi'
          refine wpOp_step rfl fun Kq hKq => ?_
          rw [if_pos (by rfl)]
          refine wp_callL (f := 75) 60 [.tmp 59] #[86] rfl rfl [.pointer (some ⟨L.tb, 0, none⟩)] rfl (by kernel_rfl) (fun v w' => v = .slice (some ⟨g, 0, none⟩) t.cols t.cols ∧ ∃ m, w' = World.drewN _ m) ((row_any L t _ HU0 HIt.out g HG.out).mono fun e w' h => ⟨_, h.1, rfl, h.2⟩) ?_
          rintro v2 w2 ⟨rfl, mm, rfl⟩
          refine hKq _ _ ⟨HH, ?_⟩
          clear hKq
          simp only [List.set_cons_zero, List.set_cons_succ]
          refine wpAnyH_all (rs := [9]) (by kernel_rfl) (by simp) ?_
          intro i hi'
          rw [List.mem_singleton] at hi'
          subst hi'
          refine wpOp_step rfl fun Kq hKq => ?_
          rw [if_pos (by rfl)]
          refine wp_callL (f := 76) 68 [.tmp 60, .tmp 66, .tmp 67] #[108, 3, 3] rfl rfl [.slice (some ⟨g, 0, none⟩) t.cols t.cols, .int .i64 (cc : Int), .int .i64 (wd : Int)] rfl (by kernel_rfl) (fun v w' => v = .tuple #[] ∧ RowAt w' g (insertR t.rowNow cc wd) ∧ Ch (· = g) U w') ((insert_any g cc wd t.cols t.rowNow (World.drewN ({ U with drawn := U.drawn + 1 } : World) mm) HRW.out HLN.out HCL.out (by have := HWD.out; omega) (by have := HIt.out.c2; omega)).mono fun e w' h => ⟨_, h.1, rfl, h.2.1, ⟨h.2.2.os, h.2.2.tape, h.2.2.output, h.2.2.size, h.2.2.block⟩⟩) ?_
          rintro v3 U2 ⟨rfl, r2, k2⟩
          have HU2' : TAt U2 L (t.insNow wd) := by
            unfold TS.insNow
            rw [HCC.out, Int.toNat_natCast]
            exact HU.out.setRowNow HG.out r2 (by rw [insertR_length _ _ _ (by rw [HLN.out]; exact Nat.le_of_lt HCL.out)]; exact HLN.out) k2
          have hne : L.tb ≠ g := HU.out.row_ne HG.out
          refine hKq _ _ ⟨by rw [World.cell?_of_block (k2.block _ HU.out.lt hne)]; exact HH, ?_⟩
          clear hKq
          simp only [List.set_cons_zero, List.set_cons_succ]
          have CH2' : Ch L.own U U2 := k2.mono fun k _ e => e ▸ Lay.gs_own (List.mem_of_getElem? HG.out)
          have HI2' : (t.insNow wd).Inv := HIt.out.setRowNow _
          have HX2 : Hid (X = ((t.insNow wd).putNow c wd).step wd) := by show X = _; rw [HXX.out]; unfold TS.print2; rw [if_pos HIN.out]
          obtain ⟨e1, e2, e3⟩ := TS.setRowNow_rest t (insertR t.rowNow t.col.toNat wd)
          have HCC2 : Hid ((t.insNow wd).col = (cc : Int)) := e1.trans HCC.out
          have HCL2 : Hid (cc < (t.insNow wd).cols) := by have := HCL.out; rw [show (t.insNow wd).cols = t.cols from e2]; exact this
          have HFT2 : Hid (cc + wd ≤ (t.insNow wd).cols) := by have := HFT.out; rw [show (t.insNow wd).cols = t.cols from e2]; exact this
          have HST2 : Hid (Strokes U2) := HST.out.kept (CH2'.block 2 (Nat.lt_trans (HHI.out _ (.inl rfl)) HU.out.lt) (fun h => by have := HHI.out _ h; omega))
          have HU2 : Hid _ := HU2'
          have CH2 : Hid (Ch L.own w U2) := CHU.out.trans CH2'
          have HI2 : Hid _ := HI2'
          clear HU2' CH2' HI2' HU HIt HU0 HH HG HRW HLN r2 k2 hne e1 e2 e3 HXX HIN HCC HCL HFT HST CHU
          generalize t.insNow wd = t2 at *
          refine wpAnyH_done (by kernel_rfl) ?_ _
          go_wp2_with fail
          obtain ⟨g, hg, hrow, hlen⟩ := HU2.out.rowg HI2.out
          have HU0 : TAt ({ U2 with drawn := U2.drawn + 1 } : World) L t2 := HU2.out.sm ((Ch.refl _ _).drewN 1)
          have HH : World.cell? ({ U2 with drawn := U2.drawn + 1 } : World) ⟨L.tb, 27, none⟩ = some (.int .i64 (cc : Int)) ∧ World.rangeAt ({ U2 with drawn := U2.drawn + 1 } : World) L.tb 29 (penV t2.pen) := ⟨by rw [← HCC2.out]; exact HU0.c 27 _ rfl, HU0.range 29 _ rfl⟩
          have HG : Hid _ := hg
          have HRW : Hid (RowAt U2 g t2.rowNow) := hrow
          have HLN : Hid _ := hlen
          clear hg hrow hlen
          refine wp_region_held (S := fun x => x.cell? ⟨L.tb, 27, none⟩ = some (.int .i64 (cc : Int)) ∧ x.rangeAt L.tb 29 (penV t2.pen)) mixedC ?_
          refine takeL (i := 0) (d := 69) (v := .pointer (some ⟨L.tb, 0, none⟩)) rfl rfl (by kernel_rfl) (by kernel_rfl) (by kernel_rfl) (fun _ _ _ h => h) (Or.inl ⟨by rfl, by intro x hSx; go_simp; try (first | rfl | go_num)⟩) HH ?_
          simp only [List.set_cons_zero, List.set_cons_succ]
          refine takeL (i := 2) (d := 71) (v := .pointer (some ⟨L.tb, 0, none⟩)) rfl rfl (by kernel_rfl) (by kernel_rfl) (by kernel_rfl) (fun _ _ _ h => h) (Or.inl ⟨by rfl, by intro x hSx; go_simp; try (first | rfl | go_num)⟩) HH ?_
          simp only [List.set_cons_zero, List.set_cons_succ]
          refine takeL (i := 3) (d := 72) (v := .pointer (some ⟨L.tb, 0, none⟩)) rfl rfl (by kernel_rfl) (by kernel_rfl) (by kernel_rfl) (fun _ _ _ h => h) (Or.inl ⟨by rfl, by intro x hSx; go_simp; try (first | rfl | go_num)⟩) HH ?_
          simp only [List.set_cons_zero, List.set_cons_succ]
          refine takeL (i := 4) (d := 73) (v := .pointer (some ⟨L.tb, 26, none⟩)) rfl rfl (by kernel_rfl) (by kernel_rfl) (by kernel_rfl) (fun _ _ _ h => h) (Or.inl ⟨by rfl, by intro x hSx; go_simp; try (first | rfl | go_num)⟩) HH ?_
          simp only [List.set_cons_zero, List.set_cons_succ]
          refine takeL (i := 5) (d := 74) (v := .pointer (some ⟨L.tb, 26, none⟩)) rfl rfl (by kernel_rfl) (by kernel_rfl) (by kernel_rfl) (fun _ _ _ h => h) (Or.inl ⟨by rfl, by intro x hSx; go_simp; try (first | rfl | go_num)⟩) HH ?_
          simp only [List.set_cons_zero, List.set_cons_succ]
          refine takeL (i := 6) (d := 75) (v := .pointer (some ⟨L.tb, 27, none⟩)) rfl rfl (by kernel_rfl) (by kernel_rfl) (by kernel_rfl) (fun _ _ _ h => h) (Or.inl ⟨by rfl, by intro x hSx; go_simp; try (first | rfl | go_num)⟩) HH ?_
          simp only [List.set_cons_zero, List.set_cons_succ]
          refine takeL (i := 7) (d := 76) (v := .int .i64 (cc : Int)) rfl rfl (by kernel_rfl) (by kernel_rfl) (by kernel_rfl) (fun _ _ _ h => h) (Or.inl ⟨by rfl, by intro x hSx; have hSc := hSx.1; go_simp; try (first | rfl | go_num)⟩) HH ?_
          simp only [List.set_cons_zero, List.set_cons_succ]
          refine takeL (i := 8) (d := 77) (v := .pointer (some ⟨L.tb, 0, none⟩)) rfl rfl (by kernel_rfl) (by kernel_rfl) (by kernel_rfl) (fun _ _ _ h => h) (Or.inl ⟨by rfl, by intro x hSx; go_simp; try (first | rfl | go_num)⟩) HH ?_
          simp only [List.set_cons_zero, List.set_cons_succ]
          refine takeL (i := 9) (d := 78) (v := .int .i64 c) rfl rfl (by kernel_rfl) (by kernel_rfl) (by kernel_rfl) (fun _ _ _ h => h) (Or.inl ⟨by rfl, by intro x hSx; go_simp; try (first | rfl | go_num)⟩) HH ?_
          simp only [List.set_cons_zero, List.set_cons_succ]
          refine takeL (i := 11) (d := 80) (v := .int .i64 (wd : Int)) rfl rfl (by kernel_rfl) (by kernel_rfl) (by kernel_rfl) (fun _ _ _ h => h) (Or.inl ⟨by rfl, by intro x hSx; go_simp; try (first | rfl | go_num)⟩) HH ?_
          simp only [List.set_cons_zero, List.set_cons_succ]
          refine takeL (i := 12) (d := 81) (v := .pointer (some ⟨L.tb, 0, none⟩)) rfl rfl (by kernel_rfl) (by kernel_rfl) (by kernel_rfl) (fun _ _ _ h => h) (Or.inl ⟨by rfl, by intro x hSx; go_simp; try (first | rfl | go_num)⟩) HH ?_
          simp only [List.set_cons_zero, List.set_cons_succ]
          refine takeL (i := 13) (d := 82) (v := .pointer (some ⟨L.tb, 0, none⟩)) rfl rfl (by kernel_rfl) (by kernel_rfl) (by kernel_rfl) (fun _ _ _ h => h) (Or.inl ⟨by rfl, by intro x hSx; go_simp; try (first | rfl | go_num)⟩) HH ?_
          simp only [List.set_cons_zero, List.set_cons_succ]
          refine takeL (i := 14) (d := 83) (v := .pointer (some ⟨L.tb, 26, none⟩)) rfl rfl (by kernel_rfl) (by kernel_rfl) (by kernel_rfl) (fun _ _ _ h => h) (Or.inl ⟨by rfl, by intro x hSx; go_simp; try (first | rfl | go_num)⟩) HH ?_
          simp only [List.set_cons_zero, List.set_cons_succ]
          refine takeL (i := 15) (d := 84) (v := .pointer (some ⟨L.tb, 26, none⟩)) rfl rfl (by kernel_rfl) (by kernel_rfl) (by kernel_rfl) (fun _ _ _ h => h) (Or.inl ⟨by rfl, by intro x hSx; go_simp; try (first | rfl | go_num)⟩) HH ?_
          simp only [List.set_cons_zero, List.set_cons_succ]
          refine takeL (i := 16) (d := 85) (v := .pointer (some ⟨L.tb, 29, none⟩)) rfl rfl (by kernel_rfl) (by kernel_rfl) (by kernel_rfl) (fun _ _ _ h => h) (Or.inl ⟨by rfl, by intro x hSx; go_simp; try (first | rfl | go_num)⟩) HH ?_
          simp only [List.set_cons_zero, List.set_cons_succ]
          refine takeL (i := 17) (d := 86) (v := .agg (penA t2.pen)) rfl rfl (by kernel_rfl) (by kernel_rfl) (by kernel_rfl) (fun _ _ _ h => h) (yieldsIf_load_mid (by rfl) 47 (.tmp 85) rfl L.tb 29 rfl (penV t2.pen) _ (fun x h => h.2) Tryd.underlying47 rfl info47) HH ?_
          simp only [List.set_cons_zero, List.set_cons_succ]
          refine wpAnyH_all (rs := [1]) (by kernel_rfl) (by simp) ?_
          intro i hi'
          rw [List.mem_singleton] at hi'
          subst hi'
          refine wpOp_step rfl fun Kq hKq => ?_
          rw [if_pos (by rfl)]
          refine wp_callL (f := 75) 70 [.tmp 69] #[86] rfl rfl [.pointer (some ⟨L.tb, 0, none⟩)] rfl (by kernel_rfl) (fun v w' => v = .slice (some ⟨g, 0, none⟩) t2.cols t2.cols ∧ ∃ m, w' = World.drewN _ m) ((row_any L t2 _ HU0 HI2.out g HG.out).mono fun e w' h => ⟨_, h.1, rfl, h.2⟩) ?_
          rintro v2 wA ⟨rfl, mm, rfl⟩
          refine hKq _ _ ⟨HH, ?_⟩
          clear hKq
          simp only [List.set_cons_zero, List.set_cons_succ]
          refine wpAnyH_all (rs := [10]) (by kernel_rfl) (by simp) ?_
          intro i hi'
          rw [List.mem_singleton] at hi'
          subst hi'
          refine wpOp_step rfl fun Kq hKq => ?_
          rw [if_pos (by rfl)]
          refine wp_callL (f := 78) 79 [.tmp 77, .tmp 78] #[86, 3] rfl rfl [.pointer (some ⟨L.tb, 0, none⟩), .int .i64 c] rfl (by kernel_rfl) (fun v w' => v = .int .i64 (t2.spelt c) ∧ Sm _ w') ((spelt_any L t2 _ (HU0.drewN mm) (HST2.out.kept rfl) c).mono fun e w' h => ⟨_, h.1, rfl, h.2⟩) ?_
          rintro v4 wB ⟨rfl, smB⟩
          have SMX : Sm U2 wB := (((Ch.refl _ U2).drewN 1).drewN mm).trans smB
          have hbx := SMX.block _ HU2.out.lt id
          refine hKq _ _ ⟨⟨by rw [World.cell?_of_block hbx]; exact HH.1, fun j v hv => by rw [World.cell?_of_block hbx]; exact HH.2 j v hv⟩, ?_⟩
          clear hKq smB hbx
          simp only [List.set_cons_zero, List.set_cons_succ]
          refine wpAnyH_all (rs := [18]) (by kernel_rfl) (by simp) ?_
          intro i hi'
          rw [List.mem_singleton] at hi'
          subst hi'
          refine wpOp_step rfl fun Kq hKq => ?_
          rw [if_pos (by rfl)]
          refine wp_callL (f := 77) 87 [.tmp 70, .tmp 76, .tmp 79, .tmp 80, .tmp 86] #[108, 3, 3, 3, 47] rfl rfl [.slice (some ⟨g, 0, none⟩) t2.cols t2.cols, .int .i64 (cc : Int), .int .i64 (t2.spelt c), .int .i64 (wd : Int), .agg (penA t2.pen)] rfl (by kernel_rfl) (fun v w' => v = .tuple #[] ∧ RowAt w' g (putR t2.rowNow cc (t2.spelt c) wd t2.pen) ∧ Ch (· = g) U2 w') ((put_any g cc wd t2.cols (t2.spelt c) t2.pen t2.rowNow _ (HRW.out.kept (SMX.block g HRW.out.lt id)) HLN.out HWD.out HFT2.out (by have := HI2.out.c2; omega)).mono fun e w' h => ⟨_, h.1, rfl, h.2.1, (Sm.ch SMX).trans h.2.2⟩) ?_
          rintro v3 U3 ⟨rfl, r3, k3⟩
          have HU3' : TAt U3 L (t2.putNow c wd) := by
            unfold TS.putNow
            rw [HCC2.out, Int.toNat_natCast]
            exact HU2.out.setRowNow HG.out r3 (by rw [putR_length]; exact HLN.out) k3
          have hne : L.tb ≠ g := HU2.out.row_ne HG.out
          have hb3 := k3.block _ HU2.out.lt hne
          refine hKq _ _ ⟨⟨by rw [World.cell?_of_block hb3]; exact HH.1, fun j v hv => by rw [World.cell?_of_block hb3]; exact HH.2 j v hv⟩, ?_⟩
          clear hKq
          simp only [List.set_cons_zero, List.set_cons_succ]
          have CH3' : Ch L.own U2 U3 := k3.mono fun k _ e => e ▸ Lay.gs_own (List.mem_of_getElem? HG.out)
          have HI3' : (t2.putNow c wd).Inv := HI2.out.setRowNow _
          obtain ⟨e1, e2, e3⟩ := TS.setRowNow_rest t2 (putR t2.rowNow t2.col.toNat (t2.spelt c) wd t2.pen)
          have HCC3 : Hid ((t2.putNow c wd).col = (cc : Int)) := e1.trans HCC2.out
          have CH3 : Hid (Ch L.own w U3) := CH2.out.trans CH3'
          have HX3 : Hid (X = (t2.putNow c wd).step wd) := HX2.out
          have vw : IntKind.i64.wrap ((cc : Int) + (wd : Int)) = (cc : Int) + (wd : Int) := IntWalk.i64_in _ (by have := HFT2.out; have := HI2.out.c2; omega)
          have d27 := HU3'.c 27 _ rfl
          have d40 := HU3'.c 40 _ rfl
          have HU3 : Hid _ := HU3'
          have HI3 : Hid _ := HI3'
          clear HU3' HI3' CH3' HU2 HI2 HU0 HH HG HRW HLN r3 k3 hne hb3 SMX e1 e2 e3 HX2 HCC2 HCL2 HST2 CH2
          generalize t2.putNow c wd = t3 at *
          rw [HCC3.out] at d27
          refine wpAnyH_done (by kernel_rfl) ?_ _
          have l5 := toCol_any L t3 U3 HU3.out HI3.out ((cc : Int) + (wd : Int))
          have hst : t3.step wd = { t3.toCol ((cc : Int) + (wd : Int)) with waits := t3.wrap && decide ((t3.cols : Int) - 1 < (cc : Int) + (wd : Int)) } := by unfold TS.step; rw [HCC3.out]
          have HSTEP : Hid _ := hst
          clear hst
          cases hwr : t3.wrap with
          | true =>
            go_wp2_with (first | (go_at_call 79; refine l5.mono ?_; rintro e U4 ⟨rfl, h4, c4⟩; have d40 := h4.c 40 _ rfl; have d28 := h4.c 28 _ rfl; have f28 := h4.f 28; rw [show (t3.toCol ((cc : Int) + (wd : Int))).wrap = true from hwr] at d40) | (go_at_call 56; refine (lastCol_any L _ U4 h4 (HI3.out.toCol _)).mono ?_; rintro e w5 ⟨rfl, rfl⟩))
            go_end0
            refine ⟨rfl, ?_, (CH3.out.trans c4).tset _ _⟩
            rw [HX3.out, HSTEP.out, hwr]
            exact h4.set 28 _ rfl rfl rfl rfl rfl
          | false =>
            go_wp2_with (go_at_call 79; refine l5.mono ?_; rintro e U4 ⟨rfl, h4, c4⟩; have d40 := h4.c 40 _ rfl; have d28 := h4.c 28 _ rfl; have f28 := h4.f 28; rw [show (t3.toCol ((cc : Int) + (wd : Int))).wrap = false from hwr] at d40)
            go_end0
            refine ⟨rfl, ?_, (CH3.out.trans c4).tset _ _⟩
            rw [HX3.out, HSTEP.out, hwr]
            exact h4.set 28 _ rfl rfl rfl rfl rfl
        | false =>
          rw [hin] at d41
          have HIN : Hid (t.insert = false) := hin
          clear hin
          go_wp2_with fail
          have HX2 : Hid (X = (t.putNow c wd).step wd) := by show X = _; rw [HXX.out]; unfold TS.print2; rw [if_neg (by rw [HIN.out]; simp)]
          obtain ⟨g, hg, hrow, hlen⟩ := HU.out.rowg HIt.out
          have HU0 : TAt ({ U with drawn := U.drawn + 1 } : World) L t := HU.out.sm ((Ch.refl _ _).drewN 1)
          have HH : World.cell? ({ U with drawn := U.drawn + 1 } : World) ⟨L.tb, 27, none⟩ = some (.int .i64 (cc : Int)) ∧ World.rangeAt ({ U with drawn := U.drawn + 1 } : World) L.tb 29 (penV t.pen) := ⟨by rw [← HCC.out]; exact HU0.c 27 _ rfl, HU0.range 29 _ rfl⟩
          have HG : Hid _ := hg
          have HRW : Hid (RowAt U g t.rowNow) := hrow
          have HLN : Hid _ := hlen
          clear hg hrow hlen
          refine wp_region_held (S := fun x => x.cell? ⟨L.tb, 27, none⟩ = some (.int .i64 (cc : Int)) ∧ x.rangeAt L.tb 29 (penV t.pen)) mixedC ?_
          refine takeL (i := 0) (d := 69) (v := .pointer (some ⟨L.tb, 0, none⟩)) rfl rfl (by kernel_rfl) (by kernel_rfl) (by kernel_rfl) (fun _ _ _ h => h) (Or.inl ⟨by rfl, by intro x hSx; go_simp; try (first | rfl | go_num)⟩) HH ?_
          simp only [List.set_cons_zero, List.set_cons_succ]
          refine takeL (i := 2) (d := 71) (v := .pointer (some ⟨L.tb, 0, none⟩)) rfl rfl (by kernel_rfl) (by kernel_rfl) (by kernel_rfl) (fun _ _ _ h => h) (Or.inl ⟨by rfl, by intro x hSx; go_simp; try (first | rfl | go_num)⟩) HH ?_
          simp only [List.set_cons_zero, List.set_cons_succ]
          refine takeL (i := 3) (d := 72) (v := .pointer (some ⟨L.tb, 0, none⟩)) rfl rfl (by kernel_rfl) (by kernel_rfl) (by kernel_rfl) (fun _ _ _ h => h) (Or.inl ⟨by rfl, by intro x hSx; go_simp; try (first | rfl | go_num)⟩) HH ?_
          simp only [List.set_cons_zero, List.set_cons_succ]
          refine takeL (i := 4) (d := 73) (v := .pointer (some ⟨L.tb, 26, none⟩)) rfl rfl (by kernel_rfl) (by kernel_rfl) (by kernel_rfl) (fun _ _ _ h => h) (Or.inl ⟨by rfl, by intro x hSx; go_simp; try (first | rfl | go_num)⟩) HH ?_
          simp only [List.set_cons_zero, List.set_cons_succ]
          refine takeL (i := 5) (d := 74) (v := .pointer (some ⟨L.tb, 26, none⟩)) rfl rfl (by kernel_rfl) (by kernel_rfl) (by kernel_rfl) (fun _ _ _ h => h) (Or.inl ⟨by rfl, by intro x hSx; go_simp; try (first | rfl | go_num)⟩) HH ?_
          simp only [List.set_cons_zero, List.set_cons_succ]
          refine takeL (i := 6) (d := 75) (v := .pointer (some ⟨L.tb, 27, none⟩)) rfl rfl (by kernel_rfl) (by kernel_rfl) (by kernel_rfl) (fun _ _ _ h => h) (Or.inl ⟨by rfl, by intro x hSx; go_simp; try (first | rfl | go_num)⟩) HH ?_
          simp only [List.set_cons_zero, List.set_cons_succ]
          refine takeL (i := 7) (d := 76) (v := .int .i64 (cc : Int)) rfl rfl (by kernel_rfl) (by kernel_rfl) (by kernel_rfl) (fun _ _ _ h => h) (Or.inl ⟨by rfl, by intro x hSx; have hSc := hSx.1; go_simp; try (first | rfl | go_num)⟩) HH ?_
          simp only [List.set_cons_zero, List.set_cons_succ]
          refine takeL (i := 8) (d := 77) (v := .pointer (some ⟨L.tb, 0, none⟩)) rfl rfl (by kernel_rfl) (by kernel_rfl) (by kernel_rfl) (fun _ _ _ h => h) (Or.inl ⟨by rfl, by intro x hSx; go_simp; try (first | rfl | go_num)⟩) HH ?_
          simp only [List.set_cons_zero, List.set_cons_succ]
          refine takeL (i := 9) (d := 78) (v := .int .i64 c) rfl rfl (by kernel_rfl) (by kernel_rfl) (by kernel_rfl) (fun _ _ _ h => h) (Or.inl ⟨by rfl, by intro x hSx; go_simp; try (first | rfl | go_num)⟩) HH ?_
          simp only [List.set_cons_zero, List.set_cons_succ]
          refine takeL (i := 11) (d := 80) (v := .int .i64 (wd : Int)) rfl rfl (by kernel_rfl) (by kernel_rfl) (by kernel_rfl) (fun _ _ _ h => h) (Or.inl ⟨by rfl, by intro x hSx; go_simp; try (first | rfl | go_num)⟩) HH ?_
          simp only [List.set_cons_zero, List.set_cons_succ]
          refine takeL (i := 12) (d := 81) (v := .pointer (some ⟨L.tb, 0, none⟩)) rfl rfl (by kernel_rfl) (by kernel_rfl) (by kernel_rfl) (fun _ _ _ h => h) (Or.inl ⟨by rfl, by intro x hSx; go_simp; try (first | rfl | go_num)⟩) HH ?_
          simp only [List.set_cons_zero, List.set_cons_succ]
          refine takeL (i := 13) (d := 82) (v := .pointer (some ⟨L.tb, 0, none⟩)) rfl rfl (by kernel_rfl) (by kernel_rfl) (by kernel_rfl) (fun _ _ _ h => h) (Or.inl ⟨by rfl, by intro x hSx; go_simp; try (first | rfl | go_num)⟩) HH ?_
          simp only [List.set_cons_zero, List.set_cons_succ]
          refine takeL (i := 14) (d := 83) (v := .pointer (some ⟨L.tb, 26, none⟩)) rfl rfl (by kernel_rfl) (by kernel_rfl) (by kernel_rfl) (fun _ _ _ h => h) (Or.inl ⟨by rfl, by intro x hSx; go_simp; try (first | rfl | go_num)⟩) HH ?_
          simp only [List.set_cons_zero, List.set_cons_succ]
          refine takeL (i := 15) (d := 84) (v := .pointer (some ⟨L.tb, 26, none⟩)) rfl rfl (by kernel_rfl) (by kernel_rfl) (by kernel_rfl) (fun _ _ _ h => h) (Or.inl ⟨by rfl, by intro x hSx; go_simp; try (first | rfl | go_num)⟩) HH ?_
          simp only [List.set_cons_zero, List.set_cons_succ]
          refine takeL (i := 16) (d := 85) (v := .pointer (some ⟨L.tb, 29, none⟩)) rfl rfl (by kernel_rfl) (by kernel_rfl) (by kernel_rfl) (fun _ _ _ h => h) (Or.inl ⟨by rfl, by intro x hSx; go_simp; try (first | rfl | go_num)⟩) HH ?_
          simp only [List.set_cons_zero, List.set_cons_succ]
          refine takeL (i := 17) (d := 86) (v := .agg (penA t.pen)) rfl rfl (by kernel_rfl) (by kernel_rfl) (by kernel_rfl) (fun _ _ _ h => h) (yieldsIf_load_mid (by rfl) 47 (.tmp 85) rfl L.tb 29 rfl (penV t.pen) _ (fun x h => h.2) Tryd.underlying47 rfl info47) HH ?_
          simp only [List.set_cons_zero, List.set_cons_succ]
          refine wpAnyH_all (rs := [1]) (by kernel_rfl) (by simp) ?_
          intro i hi'
          rw [List.mem_singleton] at hi'
          subst hi'
          refine wpOp_step rfl fun Kq hKq => ?_
          rw [if_pos (by rfl)]
          refine wp_callL (f := 75) 70 [.tmp 69] #[86] rfl rfl [.pointer (some ⟨L.tb, 0, none⟩)] rfl (by kernel_rfl) (fun v w' => v = .slice (some ⟨g, 0, none⟩) t.cols t.cols ∧ ∃ m, w' = World.drewN _ m) ((row_any L t _ HU0 HIt.out g HG.out).mono fun e w' h => ⟨_, h.1, rfl, h.2⟩) ?_
          rintro v2 wA ⟨rfl, mm, rfl⟩
          refine hKq _ _ ⟨HH, ?_⟩
          clear hKq
          simp only [List.set_cons_zero, List.set_cons_succ]
          refine wpAnyH_all (rs := [10]) (by kernel_rfl) (by simp) ?_
          intro i hi'
          rw [List.mem_singleton] at hi'
          subst hi'
          refine wpOp_step rfl fun Kq hKq => ?_
          rw [if_pos (by rfl)]
          refine wp_callL (f := 78) 79 [.tmp 77, .tmp 78] #[86, 3] rfl rfl [.pointer (some ⟨L.tb, 0, none⟩), .int .i64 c] rfl (by kernel_rfl) (fun v w' => v = .int .i64 (t.spelt c) ∧ Sm _ w') ((spelt_any L t _ (HU0.drewN mm) (HST.out.kept rfl) c).mono fun e w' h => ⟨_, h.1, rfl, h.2⟩) ?_
          rintro v4 wB ⟨rfl, smB⟩
          have SMX : Sm U wB := (((Ch.refl _ U).drewN 1).drewN mm).trans smB
          have hbx := SMX.block _ HU.out.lt id
          refine hKq _ _ ⟨⟨by rw [World.cell?_of_block hbx]; exact HH.1, fun j v hv => by rw [World.cell?_of_block hbx]; exact HH.2 j v hv⟩, ?_⟩
          clear hKq smB hbx
          simp only [List.set_cons_zero, List.set_cons_succ]
          refine wpAnyH_all (rs := [18]) (by kernel_rfl) (by simp) ?_
          intro i hi'
          rw [List.mem_singleton] at hi'
          subst hi'
          refine wpOp_step rfl fun Kq hKq => ?_
          rw [if_pos (by rfl)]
          refine wp_callL (f := 77) 87 [.tmp 70, .tmp 76, .tmp 79, .tmp 80, .tmp 86] #[108, 3, 3, 3, 47] rfl rfl [.slice (some ⟨g, 0, none⟩) t.cols t.cols, .int .i64 (cc : Int), .int .i64 (t.spelt c), .int .i64 (wd : Int), .agg (penA t.pen)] rfl (by kernel_rfl) (fun v w' => v = .tuple #[] ∧ RowAt w' g (putR t.rowNow cc (t.spelt c) wd t.pen) ∧ Ch (· = g) U w') ((put_any g cc wd t.cols (t.spelt c) t.pen t.rowNow _ (HRW.out.kept (SMX.block g HRW.out.lt id)) HLN.out HWD.out HFT.out (by have := HIt.out.c2; omega)).mono fun e w' h => ⟨_, h.1, rfl, h.2.1, (Sm.ch SMX).trans h.2.2⟩) ?_
          rintro v3 U3 ⟨rfl, r3, k3⟩
          have HU3' : TAt U3 L (t.putNow c wd) := by
            unfold TS.putNow
            rw [HCC.out, Int.toNat_natCast]
            exact HU.out.setRowNow HG.out r3 (by rw [putR_length]; exact HLN.out) k3
          have hne : L.tb ≠ g := HU.out.row_ne HG.out
          have hb3 := k3.block _ HU.out.lt hne
          refine hKq _ _ ⟨⟨by rw [World.cell?_of_block hb3]; exact HH.1, fun j v hv => by rw [World.cell?_of_block hb3]; exact HH.2 j v hv⟩, ?_⟩
          clear hKq
          simp only [List.set_cons_zero, List.set_cons_succ]
          have CH3' : Ch L.own U U3 := k3.mono fun k _ e => e ▸ Lay.gs_own (List.mem_of_getElem? HG.out)
          have HI3' : (t.putNow c wd).Inv := HIt.out.setRowNow _
          obtain ⟨e1, e2, e3⟩ := TS.setRowNow_rest t (putR t.rowNow t.col.toNat (t.spelt c) wd t.pen)
          have HCC3 : Hid ((t.putNow c wd).col = (cc : Int)) := e1.trans HCC.out
          have CH3 : Hid (Ch L.own w U3) := CHU.out.trans CH3'
          have HX3 : Hid (X = (t.putNow c wd).step wd) := HX2.out
          have vw : IntKind.i64.wrap ((cc : Int) + (wd : Int)) = (cc : Int) + (wd : Int) := IntWalk.i64_in _ (by have := HFT.out; have := HIt.out.c2; omega)
          have d27 := HU3'.c 27 _ rfl
          have d40 := HU3'.c 40 _ rfl
          have HU3 : Hid _ := HU3'
          have HI3 : Hid _ := HI3'
          clear HU3' HI3' CH3' HU HIt HU0 HH HG HRW HLN r3 k3 hne hb3 SMX e1 e2 e3 HX2 HCC HCL HST CHU
          generalize t.putNow c wd = t3 at *
          rw [HCC3.out] at d27
          refine wpAnyH_done (by kernel_rfl) ?_ _
          have l5 := toCol_any L t3 U3 HU3.out HI3.out ((cc : Int) + (wd : Int))
          have hst : t3.step wd = { t3.toCol ((cc : Int) + (wd : Int)) with waits := t3.wrap && decide ((t3.cols : Int) - 1 < (cc : Int) + (wd : Int)) } := by unfold TS.step; rw [HCC3.out]
          have HSTEP : Hid _ := hst
          clear hst
          cases hwr : t3.wrap with
          | true =>
            go_wp2_with (first | (go_at_call 79; refine l5.mono ?_; rintro e U4 ⟨rfl, h4, c4⟩; have d40 := h4.c 40 _ rfl; have d28 := h4.c 28 _ rfl; have f28 := h4.f 28; rw [show (t3.toCol ((cc : Int) + (wd : Int))).wrap = true from hwr] at d40) | (go_at_call 56; refine (lastCol_any L _ U4 h4 (HI3.out.toCol _)).mono ?_; rintro e w5 ⟨rfl, rfl⟩))
            go_end0
            refine ⟨rfl, ?_, (CH3.out.trans c4).tset _ _⟩
            rw [HX3.out, HSTEP.out, hwr]
            exact h4.set 28 _ rfl rfl rfl rfl rfl
          | false =>
            go_wp2_with (go_at_call 79; refine l5.mono ?_; rintro e U4 ⟨rfl, h4, c4⟩; have d40 := h4.c 40 _ rfl; have d28 := h4.c 28 _ rfl; have f28 := h4.f 28; rw [show (t3.toCol ((cc : Int) + (wd : Int))).wrap = false from hwr] at d40)
            go_end0
            refine ⟨rfl, ?_, (CH3.out.trans c4).tset _ _⟩
            rw [HX3.out, HSTEP.out, hwr]
            exact h4.set 28 _ rfl rfl rfl rfl rfl
      | false =>
        have e1 : s.print1 = s := by unfold TS.print1; rw [if_neg (by rw [hwt]; simp)]
        rw [e1] at hX
        have hcol0 := hi.col0
        have hcol1 := hi.col1
        have vz : IntKind.i64.wrap (s.col + (wd : Int)) = s.col + (wd : Int) := IntWalk.i64_in _ (by omega)
        by_cases hf : (s.cols : Int) < s.col + (wd : Int)
        · rw [if_pos hf] at hX
          have dq : decide ((s.cols : Int) < s.col + (wd : Int)) = true := by simp; omega
          cases hwr : s.wrap with
          | false =>
            rw [if_neg (by rw [hwr]; simp)] at hX
            have HX : Hid _ := hX
            clear hX ht hi hL
            go_enter Tryd.func62, Tryd.ntmps62
            go_wp2_with (go_at_call 31; refine l0.mono ?_; rintro e u0 ⟨rfl, b0⟩; have H0 : TAt u0 L s := HT.out.sm (Ch.of_below b0); have c43 := H0.c 43 _ rfl; have c28 := H0.c 28 _ rfl; have f28 := H0.f 28; rw [hwt] at c28)
            have c27 := H0.c 27 _ rfl
            have c40 := H0.c 40 _ rfl
            rw [hwr] at c40
            go_quiet (fail)
            go_wp2_with fail
            exact bodyPost_ret (results_none Tryd.results62 _ _ _) rfl ⟨rfl, by rw [← HX.out]; exact H0.drewN nq, (Ch.of_below b0).drewN nq⟩
          | true =>
            rw [if_pos hwr] at hX
            have HX : Hid _ := hX
            obtain ⟨n1, n2, n3⟩ := TS.nextLine_rest s HI.out
            have hI1 : s.nextLine.Inv := hi.nextLine
            clear hX ht hi hL
            cases hin0 : s.nextLine.insert with
            | true =>
              go_enter Tryd.func62, Tryd.ntmps62
              go_wp2_with (go_at_call 31; refine l0.mono ?_; rintro e u0 ⟨rfl, b0⟩; have H0 : TAt u0 L s := HT.out.sm (Ch.of_below b0); have c43 := H0.c 43 _ rfl; have c28 := H0.c 28 _ rfl; have f28 := H0.f 28; rw [hwt] at c28)
              have c27 := H0.c 27 _ rfl
              have c40 := H0.c 40 _ rfl
              rw [hwr] at c40
              go_quiet (fail)
              have H0' : Hid _ := H0.drewN nq
              go_wp2_with (go_at_call 74; refine (nextLine_any L s _ H0'.out HI.out).mono ?_; rintro e u1 ⟨rfl, h1', c1⟩; have d41 := h1'.c 41 _ rfl; rw [hin0] at d41)
              obtain ⟨cc, hcc⟩ : ∃ cc : Nat, (s.nextLine).col = (cc : Int) := ⟨(s.nextLine).col.toNat, by have := (hI1).col0; omega⟩
              have HCC : Hid ((s.nextLine).col = (cc : Int)) := hcc
              have HCL : Hid (cc < (s.nextLine).cols) := by have := (hI1).col1; show cc < (s.nextLine).cols; omega
              have HFT : Hid (cc + wd ≤ (s.nextLine).cols) := by show cc + wd ≤ (s.nextLine).cols; omega
              have HIt : Hid ((s.nextLine).Inv) := hI1
              have HU : Hid (TAt (u1) L (s.nextLine)) := h1'
              have CHU : Hid (Ch L.own w (u1)) := (((Ch.of_below b0).drewN nq).trans c1)
              have HST : Hid (Strokes (u1)) := HST0.out.kept (CHU.out.block 2 (Nat.lt_trans (HHI.out _ (.inl rfl)) HT.out.lt) (fun h => by have := HHI.out _ h; omega))
              have HXX : Hid (X = (s.nextLine).print2 c wd) := HX.out.symm
              have HIN : Hid (s.nextLine.insert = true) := hin0
              clear hcc c27 c40 HX e1 hI1 H0 H0' c28 f28 c43 h1' n1 n2 n3 hin0 c1
              generalize s.nextLine = t at *
              generalize u1 = U at *
              obtain ⟨g, hg, hrow, hlen⟩ := HU.out.rowg HIt.out
              have HU0 : TAt ({ U with drawn := U.drawn + 1 } : World) L t := HU.out.sm ((Ch.refl _ _).drewN 1)
              have HH : World.cell? ({ U with drawn := U.drawn + 1 } : World) ⟨L.tb, 27, none⟩ = some (.int .i64 (cc : Int)) := by rw [← HCC.out]; exact HU0.c 27 _ rfl
              have HG : Hid _ := hg
              have HRW : Hid (RowAt U g t.rowNow) := hrow
              have HLN : Hid _ := hlen
              clear hg hrow hlen
              refine wp_region_held (S := fun x => x.cell? ⟨L.tb, 27, none⟩ = some (.int .i64 (cc : Int))) mixedC ?_
              refine takeL (i := 0) (d := 59) (v := .pointer (some ⟨L.tb, 0, none⟩)) rfl rfl (by kernel_rfl) (by kernel_rfl) (by kernel_rfl) (fun _ _ _ h => h) (Or.inl ⟨by rfl, by intro x hSx; go_simp; try (first | rfl | go_num)⟩) HH ?_
              simp only [List.set_cons_zero, List.set_cons_succ]
              refine takeL (i := 2) (d := 61) (v := .pointer (some ⟨L.tb, 0, none⟩)) rfl rfl (by kernel_rfl) (by kernel_rfl) (by kernel_rfl) (fun _ _ _ h => h) (Or.inl ⟨by rfl, by intro x hSx; go_simp; try (first | rfl | go_num)⟩) HH ?_
              simp only [List.set_cons_zero, List.set_cons_succ]
              refine takeL (i := 3) (d := 62) (v := .pointer (some ⟨L.tb, 0, none⟩)) rfl rfl (by kernel_rfl) (by kernel_rfl) (by kernel_rfl) (fun _ _ _ h => h) (Or.inl ⟨by rfl, by intro x hSx; go_simp; try (first | rfl | go_num)⟩) HH ?_
              simp only [List.set_cons_zero, List.set_cons_succ]
              refine takeL (i := 4) (d := 63) (v := .pointer (some ⟨L.tb, 26, none⟩)) rfl rfl (by kernel_rfl) (by kernel_rfl) (by kernel_rfl) (fun _ _ _ h => h) (Or.inl ⟨by rfl, by intro x hSx; go_simp; try (first | rfl | go_num)⟩) HH ?_
              simp only [List.set_cons_zero, List.set_cons_succ]
              refine takeL (i := 5) (d := 64) (v := .pointer (some ⟨L.tb, 26, none⟩)) rfl rfl (by kernel_rfl) (by kernel_rfl) (by kernel_rfl) (fun _ _ _ h => h) (Or.inl ⟨by rfl, by intro x hSx; go_simp; try (first | rfl | go_num)⟩) HH ?_
              simp only [List.set_cons_zero, List.set_cons_succ]
              refine takeL (i := 6) (d := 65) (v := .pointer (some ⟨L.tb, 27, none⟩)) rfl rfl (by kernel_rfl) (by kernel_rfl) (by kernel_rfl) (fun _ _ _ h => h) (Or.inl ⟨by rfl, by intro x hSx; go_simp; try (first | rfl | go_num)⟩) HH ?_
              simp only [List.set_cons_zero, List.set_cons_succ]
              refine takeL (i := 7) (d := 66) (v := .int .i64 (cc : Int)) rfl rfl (by kernel_rfl) (by kernel_rfl) (by kernel_rfl) (fun _ _ _ h => h) (Or.inl ⟨by rfl, by intro x hSx; have hSc := hSx; go_simp; try (first | rfl | go_num)⟩) HH ?_
              simp only [List.set_cons_zero, List.set_cons_succ]
              refine takeL (i := 8) (d := 67) (v := .int .i64 (wd : Int)) rfl rfl (by kernel_rfl) (by kernel_rfl) (by kernel_rfl) (fun _ _ _ h => h) (Or.inl ⟨by rfl, by intro x hSx; go_simp; try (first | rfl | go_num)⟩) HH ?_
              simp only [List.set_cons_zero, List.set_cons_succ]
              refine wpAnyH_all (rs := [1]) (by kernel_rfl) (by simp) ?_
              intro i hi'
              rw [List.mem_singleton] at hi'
              subst hi'
              refine wpOp_step rfl fun Kq hKq => ?_
              rw [if_pos (by rfl)]
              refine wp_callL (f := 75) 60 [.tmp 59] #[86] rfl rfl [.pointer (some ⟨L.tb, 0, none⟩)] rfl (by kernel_rfl) (fun v w' => v = .slice (some ⟨g, 0, none⟩) t.cols t.cols ∧ ∃ m, w' = World.drewN _ m) ((row_any L t _ HU0 HIt.out g HG.out).mono fun e w' h => ⟨_, h.1, rfl, h.2⟩) ?_
              rintro v2 w2 ⟨rfl, mm, rfl⟩
              refine hKq _ _ ⟨HH, ?_⟩
              clear hKq
              simp only [List.set_cons_zero, List.set_cons_succ]
              refine wpAnyH_all (rs := [9]) (by kernel_rfl) (by simp) ?_
              intro i hi'
              rw [List.mem_singleton] at hi'
              subst hi'
              refine wpOp_step rfl fun Kq hKq => ?_
              rw [if_pos (by rfl)]
              refine wp_callL (f := 76) 68 [.tmp 60, .tmp 66, .tmp 67] #[108, 3, 3] rfl rfl [.slice (some ⟨g, 0, none⟩) t.cols t.cols, .int .i64 (cc : Int), .int .i64 (wd : Int)] rfl (by kernel_rfl) (fun v w' => v = .tuple #[] ∧ RowAt w' g (insertR t.rowNow cc wd) ∧ Ch (· = g) U w') ((insert_any g cc wd t.cols t.rowNow (World.drewN ({ U with drawn := U.drawn + 1 } : World) mm) HRW.out HLN.out HCL.out (by have := HWD.out; omega) (by have := HIt.out.c2; omega)).mono fun e w' h => ⟨_, h.1, rfl, h.2.1, ⟨h.2.2.os, h.2.2.tape, h.2.2.output, h.2.2.size, h.2.2.block⟩⟩) ?_
              rintro v3 U2 ⟨rfl, r2, k2⟩
              have HU2' : TAt U2 L (t.insNow wd) := by
                unfold TS.insNow
                rw [HCC.out, Int.toNat_natCast]
                exact HU.out.setRowNow HG.out r2 (by rw [insertR_length _ _ _ (by rw [HLN.out]; exact Nat.le_of_lt HCL.out)]; exact HLN.out) k2
              have hne : L.tb ≠ g := HU.out.row_ne HG.out
              refine hKq _ _ ⟨by rw [World.cell?_of_block (k2.block _ HU.out.lt hne)]; exact HH, ?_⟩
              clear hKq
              simp only [List.set_cons_zero, List.set_cons_succ]
              have CH2' : Ch L.own U U2 := k2.mono fun k _ e => e ▸ Lay.gs_own (List.mem_of_getElem? HG.out)
              have HI2' : (t.insNow wd).Inv := HIt.out.setRowNow _
              have HX2 : Hid (X = ((t.insNow wd).putNow c wd).step wd) := by show X = _; rw [HXX.out]; unfold TS.print2; rw [if_pos HIN.out]
              obtain ⟨e1, e2, e3⟩ := TS.setRowNow_rest t (insertR t.rowNow t.col.toNat wd)
              have HCC2 : Hid ((t.insNow wd).col = (cc : Int)) := e1.trans HCC.out
              have HCL2 : Hid (cc < (t.insNow wd).cols) := by have := HCL.out; rw [show (t.insNow wd).cols = t.cols from e2]; exact this
              have HFT2 : Hid (cc + wd ≤ (t.insNow wd).cols) := by have := HFT.out; rw [show (t.insNow wd).cols = t.cols from e2]; exact this
              have HST2 : Hid (Strokes U2) := HST.out.kept (CH2'.block 2 (Nat.lt_trans (HHI.out _ (.inl rfl)) HU.out.lt) (fun h => by have := HHI.out _ h; omega))
              have HU2 : Hid _ := HU2'
              have CH2 : Hid (Ch L.own w U2) := CHU.out.trans CH2'
              have HI2 : Hid _ := HI2'
              clear HU2' CH2' HI2' HU HIt HU0 HH HG HRW HLN r2 k2 hne e1 e2 e3 HXX HIN HCC HCL HFT HST CHU
              generalize t.insNow wd = t2 at *
              refine wpAnyH_done (by kernel_rfl) ?_ _
              go_wp2_with fail
              obtain ⟨g, hg, hrow, hlen⟩ := HU2.out.rowg HI2.out
              have HU0 : TAt ({ U2 with drawn := U2.drawn + 1 } : World) L t2 := HU2.out.sm ((Ch.refl _ _).drewN 1)
              have HH : World.cell? ({ U2 with drawn := U2.drawn + 1 } : World) ⟨L.tb, 27, none⟩ = some (.int .i64 (cc : Int)) ∧ World.rangeAt ({ U2 with drawn := U2.drawn + 1 } : World) L.tb 29 (penV t2.pen) := ⟨by rw [← HCC2.out]; exact HU0.c 27 _ rfl, HU0.range 29 _ rfl⟩
              have HG : Hid _ := hg
              have HRW : Hid (RowAt U2 g t2.rowNow) := hrow
              have HLN : Hid _ := hlen
              clear hg hrow hlen
              refine wp_region_held (S := fun x => x.cell? ⟨L.tb, 27, none⟩ = some (.int .i64 (cc : Int)) ∧ x.rangeAt L.tb 29 (penV t2.pen)) mixedC ?_
              refine takeL (i := 0) (d := 69) (v := .pointer (some ⟨L.tb, 0, none⟩)) rfl rfl (by kernel_rfl) (by kernel_rfl) (by kernel_rfl) (fun _ _ _ h => h) (Or.inl ⟨by rfl, by intro x hSx; go_simp; try (first | rfl | go_num)⟩) HH ?_
              simp only [List.set_cons_zero, List.set_cons_succ]
              refine takeL (i := 2) (d := 71) (v := .pointer (some ⟨L.tb, 0, none⟩)) rfl rfl (by kernel_rfl) (by kernel_rfl) (by kernel_rfl) (fun _ _ _ h => h) (Or.inl ⟨by rfl, by intro x hSx; go_simp; try (first | rfl | go_num)⟩) HH ?_
              simp only [List.set_cons_zero, List.set_cons_succ]
              refine takeL (i := 3) (d := 72) (v := .pointer (some ⟨L.tb, 0, none⟩)) rfl rfl (by kernel_rfl) (by kernel_rfl) (by kernel_rfl) (fun _ _ _ h => h) (Or.inl ⟨by rfl, by intro x hSx; go_simp; try (first | rfl | go_num)⟩) HH ?_
              simp only [List.set_cons_zero, List.set_cons_succ]
              refine takeL (i := 4) (d := 73) (v := .pointer (some ⟨L.tb, 26, none⟩)) rfl rfl (by kernel_rfl) (by kernel_rfl) (by kernel_rfl) (fun _ _ _ h => h) (Or.inl ⟨by rfl, by intro x hSx; go_simp; try (first | rfl | go_num)⟩) HH ?_
              simp only [List.set_cons_zero, List.set_cons_succ]
              refine takeL (i := 5) (d := 74) (v := .pointer (some ⟨L.tb, 26, none⟩)) rfl rfl (by kernel_rfl) (by kernel_rfl) (by kernel_rfl) (fun _ _ _ h => h) (Or.inl ⟨by rfl, by intro x hSx; go_simp; try (first | rfl | go_num)⟩) HH ?_
              simp only [List.set_cons_zero, List.set_cons_succ]
              refine takeL (i := 6) (d := 75) (v := .pointer (some ⟨L.tb, 27, none⟩)) rfl rfl (by kernel_rfl) (by kernel_rfl) (by kernel_rfl) (fun _ _ _ h => h) (Or.inl ⟨by rfl, by intro x hSx; go_simp; try (first | rfl | go_num)⟩) HH ?_
              simp only [List.set_cons_zero, List.set_cons_succ]
              refine takeL (i := 7) (d := 76) (v := .int .i64 (cc : Int)) rfl rfl (by kernel_rfl) (by kernel_rfl) (by kernel_rfl) (fun _ _ _ h => h) (Or.inl ⟨by rfl, by intro x hSx; have hSc := hSx.1; go_simp; try (first | rfl | go_num)⟩) HH ?_
              simp only [List.set_cons_zero, List.set_cons_succ]
              refine takeL (i := 8) (d := 77) (v := .pointer (some ⟨L.tb, 0, none⟩)) rfl rfl (by kernel_rfl) (by kernel_rfl) (by kernel_rfl) (fun _ _ _ h => h) (Or.inl ⟨by rfl, by intro x hSx; go_simp; try (first | rfl | go_num)⟩) HH ?_
              simp only [List.set_cons_zero, List.set_cons_succ]
              refine takeL (i := 9) (d := 78) (v := .int .i64 c) rfl rfl (by kernel_rfl) (by kernel_rfl) (by kernel_rfl) (fun _ _ _ h => h) (Or.inl ⟨by rfl, by intro x hSx; go_simp; try (first | rfl | go_num)⟩) HH ?_
              simp only [List.set_cons_zero, List.set_cons_succ]
              refine takeL (i := 11) (d := 80) (v := .int .i64 (wd : Int)) rfl rfl (by kernel_rfl) (by kernel_rfl) (by kernel_rfl) (fun _ _ _ h => h) (Or.inl ⟨by rfl, by intro x hSx; go_simp; try (first | rfl | go_num)⟩) HH ?_
              simp only [List.set_cons_zero, List.set_cons_succ]
              refine takeL (i := 12) (d := 81) (v := .pointer (some ⟨L.tb, 0, none⟩)) rfl rfl (by kernel_rfl) (by kernel_rfl) (by kernel_rfl) (fun _ _ _ h => h) (Or.inl ⟨by rfl, by intro x hSx; go_simp; try (first | rfl | go_num)⟩) HH ?_
              simp only [List.set_cons_zero, List.set_cons_succ]
              refine takeL (i := 13) (d := 82) (v := .pointer (some ⟨L.tb, 0, none⟩)) rfl rfl (by kernel_rfl) (by kernel_rfl) (by kernel_rfl) (fun _ _ _ h => h) (Or.inl ⟨by rfl, by intro x hSx; go_simp; try (first | rfl | go_num)⟩) HH ?_
              simp only [List.set_cons_zero, List.set_cons_succ]
              refine takeL (i := 14) (d := 83) (v := .pointer (some ⟨L.tb, 26, none⟩)) rfl rfl (by kernel_rfl) (by kernel_rfl) (by kernel_rfl) (fun _ _ _ h => h) (Or.inl ⟨by rfl, by intro x hSx; go_simp; try (first | rfl | go_num)⟩) HH ?_
              simp only [List.set_cons_zero, List.set_cons_succ]
              refine takeL (i := 15) (d := 84) (v := .pointer (some ⟨L.tb, 26, none⟩)) rfl rfl (by kernel_rfl) (by kernel_rfl) (by kernel_rfl) (fun _ _ _ h => h) (Or.inl ⟨by rfl, by intro x hSx; go_simp; try (first | rfl | go_num)⟩) HH ?_
              simp only [List.set_cons_zero, List.set_cons_succ]
              refine takeL (i := 16) (d := 85) (v := .pointer (some ⟨L.tb, 29, none⟩)) rfl rfl (by kernel_rfl) (by kernel_rfl) (by kernel_rfl) (fun _ _ _ h => h) (Or.inl ⟨by rfl, by intro x hSx; go_simp; try (first | rfl | go_num)⟩) HH ?_
              simp only [List.set_cons_zero, List.set_cons_succ]
              refine takeL (i := 17) (d := 86) (v := .agg (penA t2.pen)) rfl rfl (by kernel_rfl) (by kernel_rfl) (by kernel_rfl) (fun _ _ _ h => h) (yieldsIf_load_mid (by rfl) 47 (.tmp 85) rfl L.tb 29 rfl (penV t2.pen) _ (fun x h => h.2) Tryd.underlying47 rfl info47) HH ?_
              simp only [List.set_cons_zero, List.set_cons_succ]
              refine wpAnyH_all (rs := [1]) (by kernel_rfl) (by simp) ?_
              intro i hi'
              rw [List.mem_singleton] at hi'
              subst hi'
              refine wpOp_step rfl fun Kq hKq => ?_
              rw [if_pos (by rfl)]
              refine wp_callL (f := 75) 70 [.tmp 69] #[86] rfl rfl [.pointer (some ⟨L.tb, 0, none⟩)] rfl (by kernel_rfl) (fun v w' => v = .slice (some ⟨g, 0, none⟩) t2.cols t2.cols ∧ ∃ m, w' = World.drewN _ m) ((row_any L t2 _ HU0 HI2.out g HG.out).mono fun e w' h => ⟨_, h.1, rfl, h.2⟩) ?_
              rintro v2 wA ⟨rfl, mm, rfl⟩
              refine hKq _ _ ⟨HH, ?_⟩
              clear hKq
              simp only [List.set_cons_zero, List.set_cons_succ]
              refine wpAnyH_all (rs := [10]) (by kernel_rfl) (by simp) ?_
              intro i hi'
              rw [List.mem_singleton] at hi'
              subst hi'
              refine wpOp_step rfl fun Kq hKq => ?_
              rw [if_pos (by rfl)]
              refine wp_callL (f := 78) 79 [.tmp 77, .tmp 78] #[86, 3] rfl rfl [.pointer (some ⟨L.tb, 0, none⟩), .int .i64 c] rfl (by kernel_rfl) (fun v w' => v = .int .i64 (t2.spelt c) ∧ Sm _ w') ((spelt_any L t2 _ (HU0.drewN mm) (HST2.out.kept rfl) c).mono fun e w' h => ⟨_, h.1, rfl, h.2⟩) ?_
              rintro v4 wB ⟨rfl, smB⟩
              have SMX : Sm U2 wB := (((Ch.refl _ U2).drewN 1).drewN mm).trans smB
              have hbx := SMX.block _ HU2.out.lt id
              refine hKq _ _ ⟨⟨by rw [World.cell?_of_block hbx]; exact HH.1, fun j v hv => by rw [World.cell?_of_block hbx]; exact HH.2 j v hv⟩, ?_⟩
              clear hKq smB hbx
              simp only [List.set_cons_zero, List.set_cons_succ]
              refine wpAnyH_all (rs := [18]) (by kernel_rfl) (by simp) ?_
              intro i hi'
              rw [List.mem_singleton] at hi'
              subst hi'
              refine wpOp_step rfl fun Kq hKq => ?_
              rw [if_pos (by rfl)]
              refine wp_callL (f := 77) 87 [.tmp 70, .tmp 76, .tmp 79, .tmp 80, .tmp 86] #[108, 3, 3, 3, 47] rfl rfl [.slice (some ⟨g, 0, none⟩) t2.cols t2.cols, .int .i64 (cc : Int), .int .i64 (t2.spelt c), .int .i64 (wd : Int), .agg (penA t2.pen)] rfl (by kernel_rfl) (fun v w' => v = .tuple #[] ∧ RowAt w' g (putR t2.rowNow cc (t2.spelt c) wd t2.pen) ∧ Ch (· = g) U2 w') ((put_any g cc wd t2.cols (t2.spelt c) t2.pen t2.rowNow _ (HRW.out.kept (SMX.block g HRW.out.lt id)) HLN.out HWD.out HFT2.out (by have := HI2.out.c2; omega)).mono fun e w' h => ⟨_, h.1, rfl, h.2.1, (Sm.ch SMX).trans h.2.2⟩) ?_
              rintro v3 U3 ⟨rfl, r3, k3⟩
              have HU3' : TAt U3 L (t2.putNow c wd) := by
                unfold TS.putNow
                rw [HCC2.out, Int.toNat_natCast]
                exact HU2.out.setRowNow HG.out r3 (by rw [putR_length]; exact HLN.out) k3
              have hne : L.tb ≠ g := HU2.out.row_ne HG.out
              have hb3 := k3.block _ HU2.out.lt hne
              refine hKq _ _ ⟨⟨by rw [World.cell?_of_block hb3]; exact HH.1, fun j v hv => by rw [World.cell?_of_block hb3]; exact HH.2 j v hv⟩, ?_⟩
              clear hKq
              simp only [List.set_cons_zero, List.set_cons_succ]
              have CH3' : Ch L.own U2 U3 := k3.mono fun k _ e => e ▸ Lay.gs_own (List.mem_of_getElem? HG.out)
              have HI3' : (t2.putNow c wd).Inv := HI2.out.setRowNow _
              obtain ⟨e1, e2, e3⟩ := TS.setRowNow_rest t2 (putR t2.rowNow t2.col.toNat (t2.spelt c) wd t2.pen)
              have HCC3 : Hid ((t2.putNow c wd).col = (cc : Int)) := e1.trans HCC2.out
              have CH3 : Hid (Ch L.own w U3) := CH2.out.trans CH3'
              have HX3 : Hid (X = (t2.putNow c wd).step wd) := HX2.out
              have vw : IntKind.i64.wrap ((cc : Int) + (wd : Int)) = (cc : Int) + (wd : Int) := IntWalk.i64_in _ (by have := HFT2.out; have := HI2.out.c2; omega)
              have d27 := HU3'.c 27 _ rfl
              have d40 := HU3'.c 40 _ rfl
              have HU3 : Hid _ := HU3'
              have HI3 : Hid _ := HI3'
              clear HU3' HI3' CH3' HU2 HI2 HU0 HH HG HRW HLN r3 k3 hne hb3 SMX e1 e2 e3 HX2 HCC2 HCL2 HST2 CH2
              generalize t2.putNow c wd = t3 at *
              rw [HCC3.out] at d27
              refine wpAnyH_done (by kernel_rfl) ?_ _
              have l5 := toCol_any L t3 U3 HU3.out HI3.out ((cc : Int) + (wd : Int))
              have hst : t3.step wd = { t3.toCol ((cc : Int) + (wd : Int)) with waits := t3.wrap && decide ((t3.cols : Int) - 1 < (cc : Int) + (wd : Int)) } := by unfold TS.step; rw [HCC3.out]
              have HSTEP : Hid _ := hst
              clear hst
              cases hwr : t3.wrap with
              | true =>
                go_wp2_with (first | (go_at_call 79; refine l5.mono ?_; rintro e U4 ⟨rfl, h4, c4⟩; have d40 := h4.c 40 _ rfl; have d28 := h4.c 28 _ rfl; have f28 := h4.f 28; rw [show (t3.toCol ((cc : Int) + (wd : Int))).wrap = true from hwr] at d40) | (go_at_call 56; refine (lastCol_any L _ U4 h4 (HI3.out.toCol _)).mono ?_; rintro e w5 ⟨rfl, rfl⟩))
                go_end0
                refine ⟨rfl, ?_, (CH3.out.trans c4).tset _ _⟩
                rw [HX3.out, HSTEP.out, hwr]
                exact h4.set 28 _ rfl rfl rfl rfl rfl
              | false =>
                go_wp2_with (go_at_call 79; refine l5.mono ?_; rintro e U4 ⟨rfl, h4, c4⟩; have d40 := h4.c 40 _ rfl; have d28 := h4.c 28 _ rfl; have f28 := h4.f 28; rw [show (t3.toCol ((cc : Int) + (wd : Int))).wrap = false from hwr] at d40)
                go_end0
                refine ⟨rfl, ?_, (CH3.out.trans c4).tset _ _⟩
                rw [HX3.out, HSTEP.out, hwr]
                exact h4.set 28 _ rfl rfl rfl rfl rfl
            | false =>
              go_enter Tryd.func62, Tryd.ntmps62
              go_wp2_with (go_at_call 31; refine l0.mono ?_; rintro e u0 ⟨rfl, b0⟩; have H0 : TAt u0 L s := HT.out.sm (Ch.of_below b0); have c43 := H0.c 43 _ rfl; have c28 := H0.c 28 _ rfl; have f28 := H0.f 28; rw [hwt] at c28)
              have c27 := H0.c 27 _ rfl
              have c40 := H0.c 40 _ rfl
              rw [hwr] at c40
              go_quiet (fail)
              have H0' : Hid _ := H0.drewN nq
              go_wp2_with (go_at_call 74; refine (nextLine_any L s _ H0'.out HI.out).mono ?_; rintro e u1 ⟨rfl, h1', c1⟩; have d41 := h1'.c 41 _ rfl; rw [hin0] at d41)
              obtain ⟨cc, hcc⟩ : ∃ cc : Nat, (s.nextLine).col = (cc : Int) := ⟨(s.nextLine).col.toNat, by have := (hI1).col0; omega⟩
              have HCC : Hid ((s.nextLine).col = (cc : Int)) := hcc
              have HCL : Hid (cc < (s.nextLine).cols) := by have := (hI1).col1; show cc < (s.nextLine).cols; omega
              have HFT : Hid (cc + wd ≤ (s.nextLine).cols) := by show cc + wd ≤ (s.nextLine).cols; omega
              have HIt : Hid ((s.nextLine).Inv) := hI1
              have HU : Hid (TAt (u1) L (s.nextLine)) := h1'
              have CHU : Hid (Ch L.own w (u1)) := (((Ch.of_below b0).drewN nq).trans c1)
              have HST : Hid (Strokes (u1)) := HST0.out.kept (CHU.out.block 2 (Nat.lt_trans (HHI.out _ (.inl rfl)) HT.out.lt) (fun h => by have := HHI.out _ h; omega))
              have HXX : Hid (X = (s.nextLine).print2 c wd) := HX.out.symm
              have HIN : Hid (s.nextLine.insert = false) := hin0
              clear hcc c27 c40 HX e1 hI1 H0 H0' c28 f28 c43 h1' n1 n2 n3 hin0 c1
              generalize s.nextLine = t at *
              generalize u1 = U at *
              have HX2 : Hid (X = (t.putNow c wd).step wd) := by show X = _; rw [HXX.out]; unfold TS.print2; rw [if_neg (by rw [HIN.out]; simp)]
              obtain ⟨g, hg, hrow, hlen⟩ := HU.out.rowg HIt.out
              have HU0 : TAt ({ U with drawn := U.drawn + 1 } : World) L t := HU.out.sm ((Ch.refl _ _).drewN 1)
              have HH : World.cell? ({ U with drawn := U.drawn + 1 } : World) ⟨L.tb, 27, none⟩ = some (.int .i64 (cc : Int)) ∧ World.rangeAt ({ U with drawn := U.drawn + 1 } : World) L.tb 29 (penV t.pen) := ⟨by rw [← HCC.out]; exact HU0.c 27 _ rfl, HU0.range 29 _ rfl⟩
              have HG : Hid _ := hg
              have HRW : Hid (RowAt U g t.rowNow) := hrow
              have HLN : Hid _ := hlen
              clear hg hrow hlen
              refine wp_region_held (S := fun x => x.cell? ⟨L.tb, 27, none⟩ = some (.int .i64 (cc : Int)) ∧ x.rangeAt L.tb 29 (penV t.pen)) mixedC ?_
              refine takeL (i := 0) (d := 69) (v := .pointer (some ⟨L.tb, 0, none⟩)) rfl rfl (by kernel_rfl) (by kernel_rfl) (by kernel_rfl) (fun _ _ _ h => h) (Or.inl ⟨by rfl, by intro x hSx; go_simp; try (first | rfl | go_num)⟩) HH ?_
              simp only [List.set_cons_zero, List.set_cons_succ]
              refine takeL (i := 2) (d := 71) (v := .pointer (some ⟨L.tb, 0, none⟩)) rfl rfl (by kernel_rfl) (by kernel_rfl) (by kernel_rfl) (fun _ _ _ h => h) (Or.inl ⟨by rfl, by intro x hSx; go_simp; try (first | rfl | go_num)⟩) HH ?_
              simp only [List.set_cons_zero, List.set_cons_succ]
              refine takeL (i := 3) (d := 72) (v := .pointer (some ⟨L.tb, 0, none⟩)) rfl rfl (by kernel_rfl) (by kernel_rfl) (by kernel_rfl) (fun _ _ _ h => h) (Or.inl ⟨by rfl, by intro x hSx; go_simp; try (first | rfl | go_num)⟩) HH ?_
              simp only [List.set_cons_zero, List.set_cons_succ]
              refine takeL (i := 4) (d := 73) (v := .pointer (some ⟨L.tb, 26, none⟩)) rfl rfl (by kernel_rfl) (by kernel_rfl) (by kernel_rfl) (fun _ _ _ h => h) (Or.inl ⟨by rfl, by intro x hSx; go_simp; try (first | rfl | go_num)⟩) HH ?_
              simp only [List.set_cons_zero, List.set_cons_succ]
              refine takeL (i := 5) (d := 74) (v := .pointer (some ⟨L.tb, 26, none⟩)) rfl rfl (by kernel_rfl) (by kernel_rfl) (by kernel_rfl) (fun _ _ _ h => h) (Or.inl ⟨by rfl, by intro x hSx; go_simp; try (first | rfl | go_num)⟩) HH ?_
              simp only [List.set_cons_zero, List.set_cons_succ]
              refine takeL (i := 6) (d := 75) (v := .pointer (some ⟨L.tb, 27, none⟩)) rfl rfl (by kernel_rfl) (by kernel_rfl) (by kernel_rfl) (fun _ _ _ h => h) (Or.inl ⟨by rfl, by intro x hSx; go_simp; try (first | rfl | go_num)⟩) HH ?_
              simp only [List.set_cons_zero, List.set_cons_succ]
              refine takeL (i := 7) (d := 76) (v := .int .i64 (cc : Int)) rfl rfl (by kernel_rfl) (by kernel_rfl) (by kernel_rfl) (fun _ _ _ h => h) (Or.inl ⟨by rfl, by intro x hSx; have hSc := hSx.1; go_simp; try (first | rfl | go_num)⟩) HH ?_
              simp only [List.set_cons_zero, List.set_cons_succ]
              refine takeL (i := 8) (d := 77) (v := .pointer (some ⟨L.tb, 0, none⟩)) rfl rfl (by kernel_rfl) (by kernel_rfl) (by kernel_rfl) (fun _ _ _ h => h) (Or.inl ⟨by rfl, by intro x hSx; go_simp; try (first | rfl | go_num)⟩) HH ?_
              simp only [List.set_cons_zero, List.set_cons_succ]
              refine takeL (i := 9) (d := 78) (v := .int .i64 c) rfl rfl (by kernel_rfl) (by kernel_rfl) (by kernel_rfl) (fun _ _ _ h => h) (Or.inl ⟨by rfl, by intro x hSx; go_simp; try (first | rfl | go_num)⟩) HH ?_
              simp only [List.set_cons_zero, List.set_cons_succ]
              refine takeL (i := 11) (d := 80) (v := .int .i64 (wd : Int)) rfl rfl (by kernel_rfl) (by kernel_rfl) (by kernel_rfl) (fun _ _ _ h => h) (Or.inl ⟨by rfl, by intro x hSx; go_simp; try (first | rfl | go_num)⟩) HH ?_
              simp only [List.set_cons_zero, List.set_cons_succ]
              refine takeL (i := 12) (d := 81) (v := .pointer (some ⟨L.tb, 0, none⟩)) rfl rfl (by kernel_rfl) (by kernel_rfl) (by kernel_rfl) (fun _ _ _ h => h) (Or.inl ⟨by rfl, by intro x hSx; go_simp; try (first | rfl | go_num)⟩) HH ?_
              simp only [List.set_cons_zero, List.set_cons_succ]
              refine takeL (i := 13) (d := 82) (v := .pointer (some ⟨L.tb, 0, none⟩)) rfl rfl (by kernel_rfl) (by kernel_rfl) (by kernel_rfl) (fun _ _ _ h => h) (Or.inl ⟨by rfl, by intro x hSx; go_simp; try (first | rfl | go_num)⟩) HH ?_
              simp only [List.set_cons_zero, List.set_cons_succ]
              refine takeL (i := 14) (d := 83) (v := .pointer (some ⟨L.tb, 26, none⟩)) rfl rfl (by kernel_rfl) (by kernel_rfl) (by kernel_rfl) (fun _ _ _ h => h) (Or.inl ⟨by rfl, by intro x hSx; go_simp; try (first | rfl | go_num)⟩) HH ?_
              simp only [List.set_cons_zero, List.set_cons_succ]
              refine takeL (i := 15) (d := 84) (v := .pointer (some ⟨L.tb, 26, none⟩)) rfl rfl (by kernel_rfl) (by kernel_rfl) (by kernel_rfl) (fun _ _ _ h => h) (Or.inl ⟨by rfl, by intro x hSx; go_simp; try (first | rfl | go_num)⟩) HH ?_
              simp only [List.set_cons_zero, List.set_cons_succ]
              refine takeL (i := 16) (d := 85) (v := .pointer (some ⟨L.tb, 29, none⟩)) rfl rfl (by kernel_rfl) (by kernel_rfl) (by kernel_rfl) (fun _ _ _ h => h) (Or.inl ⟨by rfl, by intro x hSx; go_simp; try (first | rfl | go_num)⟩) HH ?_
              simp only [List.set_cons_zero, List.set_cons_succ]
              refine takeL (i := 17) (d := 86) (v := .agg (penA t.pen)) rfl rfl (by kernel_rfl) (by kernel_rfl) (by kernel_rfl) (fun _ _ _ h => h) (yieldsIf_load_mid (by rfl) 47 (.tmp 85) rfl L.tb 29 rfl (penV t.pen) _ (fun x h => h.2) Tryd.underlying47 rfl info47) HH ?_
              simp only [List.set_cons_zero, List.set_cons_succ]
              refine wpAnyH_all (rs := [1]) (by kernel_rfl) (by simp) ?_
              intro i hi'
              rw [List.mem_singleton] at hi'
              subst hi'
              refine wpOp_step rfl fun Kq hKq => ?_
              rw [if_pos (by rfl)]
              refine wp_callL (f := 75) 70 [.tmp 69] #[86] rfl rfl [.pointer (some ⟨L.tb, 0, none⟩)] rfl (by kernel_rfl) (fun v w' => v = .slice (some ⟨g, 0, none⟩) t.cols t.cols ∧ ∃ m, w' = World.drewN _ m) ((row_any L t _ HU0 HIt.out g HG.out).mono fun e w' h => ⟨_, h.1, rfl, h.2⟩) ?_
              rintro v2 wA ⟨rfl, mm, rfl⟩
              refine hKq _ _ ⟨HH, ?_⟩
              clear hKq
              simp only [List.set_cons_zero, List.set_cons_succ]
              refine wpAnyH_all (rs := [10]) (by kernel_rfl) (by simp) ?_
              intro i hi'
              rw [List.mem_singleton] at hi'
              subst hi'
              refine wpOp_step rfl fun Kq hKq => ?_
              rw [if_pos (by rfl)]
              refine wp_callL (f := 78) 79 [.tmp 77, .tmp 78] #[86, 3] rfl rfl [.pointer (some ⟨L.tb, 0, none⟩), .int .i64 c] rfl (by kernel_rfl) (fun v w' => v = .int .i64 (t.spelt c) ∧ Sm _ w') ((spelt_any L t _ (HU0.drewN mm) (HST.out.kept rfl) c).mono fun e w' h => ⟨_, h.1, rfl, h.2⟩) ?_
              rintro v4 wB ⟨rfl, smB⟩
              have SMX : Sm U wB := (((Ch.refl _ U).drewN 1).drewN mm).trans smB
              have hbx := SMX.block _ HU.out.lt id
              refine hKq _ _ ⟨⟨by rw [World.cell?_of_block hbx]; exact HH.1, fun j v hv => by rw [World.cell?_of_block hbx]; exact HH.2 j v hv⟩, ?_⟩
              clear hKq smB hbx
              simp only [List.set_cons_zero, List.set_cons_succ]
              refine wpAnyH_all (rs := [18]) (by kernel_rfl) (by simp) ?_
              intro i hi'
              rw [List.mem_singleton] at hi'
              subst hi'
              refine wpOp_step rfl fun Kq hKq => ?_
              rw [if_pos (by rfl)]
              refine wp_callL (f := 77) 87 [.tmp 70, .tmp 76, .tmp 79, .tmp 80, .tmp 86] #[108, 3, 3, 3, 47] rfl rfl [.slice (some ⟨g, 0, none⟩) t.cols t.cols, .int .i64 (cc : Int), .int .i64 (t.spelt c), .int .i64 (wd : Int), .agg (penA t.pen)] rfl (by kernel_rfl) (fun v w' => v = .tuple #[] ∧ RowAt w' g (putR t.rowNow cc (t.spelt c) wd t.pen) ∧ Ch (· = g) U w') ((put_any g cc wd t.cols (t.spelt c) t.pen t.rowNow _ (HRW.out.kept (SMX.block g HRW.out.lt id)) HLN.out HWD.out HFT.out (by have := HIt.out.c2; omega)).mono fun e w' h => ⟨_, h.1, rfl, h.2.1, (Sm.ch SMX).trans h.2.2⟩) ?_
              rintro v3 U3 ⟨rfl, r3, k3⟩
              have HU3' : TAt U3 L (t.putNow c wd) := by
                unfold TS.putNow
                rw [HCC.out, Int.toNat_natCast]
                exact HU.out.setRowNow HG.out r3 (by rw [putR_length]; exact HLN.out) k3
              have hne : L.tb ≠ g := HU.out.row_ne HG.out
              have hb3 := k3.block _ HU.out.lt hne
              refine hKq _ _ ⟨⟨by rw [World.cell?_of_block hb3]; exact HH.1, fun j v hv => by rw [World.cell?_of_block hb3]; exact HH.2 j v hv⟩, ?_⟩
              clear hKq
              simp only [List.set_cons_zero, List.set_cons_succ]
              have CH3' : Ch L.own U U3 := k3.mono fun k _ e => e ▸ Lay.gs_own (List.mem_of_getElem? HG.out)
              have HI3' : (t.putNow c wd).Inv := HIt.out.setRowNow _
              obtain ⟨e1, e2, e3⟩ := TS.setRowNow_rest t (putR t.rowNow t.col.toNat (t.spelt c) wd t.pen)
              have HCC3 : Hid ((t.putNow c wd).col = (cc : Int)) := e1.trans HCC.out
              have CH3 : Hid (Ch L.own w U3) := CHU.out.trans CH3'
              have HX3 : Hid (X = (t.putNow c wd).step wd) := HX2.out
              have vw : IntKind.i64.wrap ((cc : Int) + (wd : Int)) = (cc : Int) + (wd : Int) := IntWalk.i64_in _ (by have := HFT.out; have := HIt.out.c2; omega)
              have d27 := HU3'.c 27 _ rfl
              have d40 := HU3'.c 40 _ rfl
              have HU3 : Hid _ := HU3'
              have HI3 : Hid _ := HI3'
              clear HU3' HI3' CH3' HU HIt HU0 HH HG HRW HLN r3 k3 hne hb3 SMX e1 e2 e3 HX2 HCC HCL HST CHU
              generalize t.putNow c wd = t3 at *
              rw [HCC3.out] at d27
              refine wpAnyH_done (by kernel_rfl) ?_ _
              have l5 := toCol_any L t3 U3 HU3.out HI3.out ((cc : Int) + (wd : Int))
              have hst : t3.step wd = { t3.toCol ((cc : Int) + (wd : Int)) with waits := t3.wrap && decide ((t3.cols : Int) - 1 < (cc : Int) + (wd : Int)) } := by unfold TS.step; rw [HCC3.out]
              have HSTEP : Hid _ := hst
              clear hst
              cases hwr : t3.wrap with
              | true =>
                go_wp2_with (first | (go_at_call 79; refine l5.mono ?_; rintro e U4 ⟨rfl, h4, c4⟩; have d40 := h4.c 40 _ rfl; have d28 := h4.c 28 _ rfl; have f28 := h4.f 28; rw [show (t3.toCol ((cc : Int) + (wd : Int))).wrap = true from hwr] at d40) | (go_at_call 56; refine (lastCol_any L _ U4 h4 (HI3.out.toCol _)).mono ?_; rintro e w5 ⟨rfl, rfl⟩))
                go_end0
                refine ⟨rfl, ?_, (CH3.out.trans c4).tset _ _⟩
                rw [HX3.out, HSTEP.out, hwr]
                exact h4.set 28 _ rfl rfl rfl rfl rfl
              | false =>
                go_wp2_with (go_at_call 79; refine l5.mono ?_; rintro e U4 ⟨rfl, h4, c4⟩; have d40 := h4.c 40 _ rfl; have d28 := h4.c 28 _ rfl; have f28 := h4.f 28; rw [show (t3.toCol ((cc : Int) + (wd : Int))).wrap = false from hwr] at d40)
                go_end0
                refine ⟨rfl, ?_, (CH3.out.trans c4).tset _ _⟩
                rw [HX3.out, HSTEP.out, hwr]
                exact h4.set 28 _ rfl rfl rfl rfl rfl
        · rw [if_neg hf] at hX
          have HX : Hid _ := hX
          have dq : decide ((s.cols : Int) < s.col + (wd : Int)) = false := by simp; omega
          clear hX ht hi hL
          go_enter Tryd.func62, Tryd.ntmps62
          go_wp2_with (go_at_call 31; refine l0.mono ?_; rintro e u0 ⟨rfl, b0⟩; have H0 : TAt u0 L s := HT.out.sm (Ch.of_below b0); have c43 := H0.c 43 _ rfl; have c28 := H0.c 28 _ rfl; have f28 := H0.f 28; rw [hwt] at c28)
          have c27 := H0.c 27 _ rfl
          go_quiet (fail)
          have hI1 := HI.out
          obtain ⟨cc, hcc⟩ : ∃ cc : Nat, (s).col = (cc : Int) := ⟨(s).col.toNat, by have := (hI1).col0; omega⟩
          have HCC : Hid ((s).col = (cc : Int)) := hcc
          have HCL : Hid (cc < (s).cols) := by have := (hI1).col1; show cc < (s).cols; omega
          have HFT : Hid (cc + wd ≤ (s).cols) := by show cc + wd ≤ (s).cols; omega
          have HIt : Hid ((s).Inv) := hI1
          have HU : Hid (TAt (u0.drewN nq) L (s)) := H0.drewN nq
          have CHU : Hid (Ch L.own w (u0.drewN nq)) := (Ch.of_below b0).drewN nq
          have HST : Hid (Strokes (u0.drewN nq)) := HST0.out.kept (CHU.out.block 2 (Nat.lt_trans (HHI.out _ (.inl rfl)) HT.out.lt) (fun h => by have := HHI.out _ h; omega))
          have HXX : Hid (X = (s).print2 c wd) := HX.out.symm
          clear hcc c27 HX e1 hI1 H0 c28 f28 c43
          generalize s = t at *
          generalize World.drewN u0 nq = U at *
          have d41 := HU.out.c 41 _ rfl
          cases hin : t.insert with
          | true =>
            rw [hin] at d41
            have HIN : Hid (t.insert = true) := hin
            clear hin
            go_wp2_with fail
            obtain ⟨g, hg, hrow, hlen⟩ := HU.out.rowg HIt.out
            have HU0 : TAt ({ U with drawn := U.drawn + 1 } : World) L t := HU.out.sm ((Ch.refl _ _).drewN 1)
            have HH : World.cell? ({ U with drawn := U.drawn + 1 } : World) ⟨L.tb, 27, none⟩ = some (.int .i64 (cc : Int)) := by rw [← HCC.out]; exact HU0.c 27 _ rfl
            have HG : Hid _ := hg
            have HRW : Hid (RowAt U g t.rowNow) := hrow
            have HLN : Hid _ := hlen
            clear hg hrow hlen
            refine wp_region_held (S := fun x => x.cell? ⟨L.tb, 27, none⟩ = some (.int .i64 (cc : Int))) mixedC ?_
            refine takeL (i := 0) (d := 59) (v := .pointer (some ⟨L.tb, 0, none⟩)) rfl rfl (by kernel_rfl) (by kernel_rfl) (by kernel_rfl) (fun _ _ _ h => h) (Or.inl ⟨by rfl, by intro x hSx; go_simp; try (first | rfl | go_num)⟩) HH ?_
            simp only [List.set_cons_zero, List.set_cons_succ]
            refine takeL (i := 2) (d := 61) (v := .pointer (some ⟨L.tb, 0, none⟩)) rfl rfl (by kernel_rfl) (by kernel_rfl) (by kernel_rfl) (fun _ _ _ h => h) (Or.inl ⟨by rfl, by intro x hSx; go_simp; try (first | rfl | go_num)⟩) HH ?_
            simp only [List.set_cons_zero, List.set_cons_succ]
            refine takeL (i := 3) (d := 62) (v := .pointer (some ⟨L.tb, 0, none⟩)) rfl rfl (by kernel_rfl) (by kernel_rfl) (by kernel_rfl) (fun _ _ _ h => h) (Or.inl ⟨by rfl, by intro x hSx; go_simp; try (first | rfl | go_num)⟩) HH ?_
            simp only [List.set_cons_zero, List.set_cons_succ]
            refine takeL (i := 4) (d := 63) (v := .pointer (some ⟨L.tb, 26, none⟩)) rfl rfl (by kernel_rfl) (by kernel_rfl) (by kernel_rfl) (fun _ _ _ h => h) (Or.inl ⟨by rfl, by intro x hSx; go_simp; try (first | rfl | go_num)⟩) HH ?_
            simp only [List.set_cons_zero, List.set_cons_succ]
            refine takeL (i := 5) (d := 64) (v := .pointer (some ⟨L.tb, 26, none⟩)) rfl rfl (by kernel_rfl) (by kernel_rfl) (by kernel_rfl) (fun _ _ _ h => h) (Or.inl ⟨by rfl, by intro x hSx; go_simp; try (first | rfl | go_num)⟩) HH ?_
            simp only [List.set_cons_zero, List.set_cons_succ]
            refine takeL (i := 6) (d := 65) (v := .pointer (some ⟨L.tb, 27, none⟩)) rfl rfl (by kernel_rfl) (by kernel_rfl) (by kernel_rfl) (fun _ _ _ h => h) (Or.inl ⟨by rfl, by intro x hSx; go_simp; try (first | rfl | go_num)⟩) HH ?_
            simp only [List.set_cons_zero, List.set_cons_succ]
            refine takeL (i := 7) (d := 66) (v := .int .i64 (cc : Int)) rfl rfl (by kernel_rfl) (by kernel_rfl) (by kernel_rfl) (fun _ _ _ h => h) (Or.inl ⟨by rfl, by intro x hSx; have hSc := hSx; go_simp; try (first | rfl | go_num)⟩) HH ?_
            simp only [List.set_cons_zero, List.set_cons_succ]
            refine takeL (i := 8) (d := 67) (v := .int .i64 (wd : Int)) rfl rfl (by kernel_rfl) (by kernel_rfl) (by kernel_rfl) (fun _ _ _ h => h) (Or.inl ⟨by rfl, by intro x hSx; go_simp; try (first | rfl | go_num)⟩) HH ?_
            simp only [List.set_cons_zero, List.set_cons_succ]
            refine wpAnyH_all (rs := [1]) (by kernel_rfl) (by simp) ?_
            intro i hi'
            rw [List.mem_singleton] at hi'
            subst hi'
            refine wpOp_step rfl fun Kq hKq => ?_
            rw [if_pos (by rfl)]
            refine wp_callL (f := 75) 60 [.tmp 59] #[86] rfl rfl [.pointer (some ⟨L.tb, 0, none⟩)] rfl (by kernel_rfl) (fun v w' => v = .slice (some ⟨g, 0, none⟩) t.cols t.cols ∧ ∃ m, w' = World.drewN _ m) ((row_any L t _ HU0 HIt.out g HG.out).mono fun e w' h => ⟨_, h.1, rfl, h.2⟩) ?_
            rintro v2 w2 ⟨rfl, mm, rfl⟩
            refine hKq _ _ ⟨HH, ?_⟩
            clear hKq
            simp only [List.set_cons_zero, List.set_cons_succ]
            refine wpAnyH_all (rs := [9]) (by kernel_rfl) (by simp) ?_
            intro i hi'
            rw [List.mem_singleton] at hi'
            subst hi'
            refine wpOp_step rfl fun Kq hKq => ?_
            rw [if_pos (by rfl)]
            refine wp_callL (f := 76) 68 [.tmp 60, .tmp 66, .tmp 67] #[108, 3, 3] rfl rfl [.slice (some ⟨g, 0, none⟩) t.cols t.cols, .int .i64 (cc : Int), .int .i64 (wd : Int)] rfl (by kernel_rfl) (fun v w' => v = .tuple #[] ∧ RowAt w' g (insertR t.rowNow cc wd) ∧ Ch (· = g) U w') ((insert_any g cc wd t.cols t.rowNow (World.drewN ({ U with drawn := U.drawn + 1 } : World) mm) HRW.out HLN.out HCL.out (by have := HWD.out; omega) (by have := HIt.out.c2; omega)).mono fun e w' h => ⟨_, h.1, rfl, h.2.1, ⟨h.2.2.os, h.2.2.tape, h.2.2.output, h.2.2.size, h.2.2.block⟩⟩) ?_
            rintro v3 U2 ⟨rfl, r2, k2⟩
            have HU2' : TAt U2 L (t.insNow wd) := by
              unfold TS.insNow
              rw [HCC.out, Int.toNat_natCast]
              exact HU.out.setRowNow HG.out r2 (by rw [insertR_length _ _ _ (by rw [HLN.out]; exact Nat.le_of_lt HCL.out)]; exact HLN.out) k2
            have hne : L.tb ≠ g := HU.out.row_ne HG.out
            refine hKq _ _ ⟨by rw [World.cell?_of_block (k2.block _ HU.out.lt hne)]; exact HH, ?_⟩
            clear hKq
            simp only [List.set_cons_zero, List.set_cons_succ]
            have CH2' : Ch L.own U U2 := k2.mono fun k _ e => e ▸ Lay.gs_own (List.mem_of_getElem? HG.out)
            have HI2' : (t.insNow wd).Inv := HIt.out.setRowNow _
            have HX2 : Hid (X = ((t.insNow wd).putNow c wd).step wd) := by show X = _; rw [HXX.out]; unfold TS.print2; rw [if_pos HIN.out]
            obtain ⟨e1, e2, e3⟩ := TS.setRowNow_rest t (insertR t.rowNow t.col.toNat wd)
            have HCC2 : Hid ((t.insNow wd).col = (cc : Int)) := e1.trans HCC.out
            have HCL2 : Hid (cc < (t.insNow wd).cols) := by have := HCL.out; rw [show (t.insNow wd).cols = t.cols from e2]; exact this
            have HFT2 : Hid (cc + wd ≤ (t.insNow wd).cols) := by have := HFT.out; rw [show (t.insNow wd).cols = t.cols from e2]; exact this
            have HST2 : Hid (Strokes U2) := HST.out.kept (CH2'.block 2 (Nat.lt_trans (HHI.out _ (.inl rfl)) HU.out.lt) (fun h => by have := HHI.out _ h; omega))
            have HU2 : Hid _ := HU2'
            have CH2 : Hid (Ch L.own w U2) := CHU.out.trans CH2'
            have HI2 : Hid _ := HI2'
            clear HU2' CH2' HI2' HU HIt HU0 HH HG HRW HLN r2 k2 hne e1 e2 e3 HXX HIN HCC HCL HFT HST CHU
            generalize t.insNow wd = t2 at *
            refine wpAnyH_done (by kernel_rfl) ?_ _
            go_wp2_with fail
            obtain ⟨g, hg, hrow, hlen⟩ := HU2.out.rowg HI2.out
            have HU0 : TAt ({ U2 with drawn := U2.drawn + 1 } : World) L t2 := HU2.out.sm ((Ch.refl _ _).drewN 1)
            have HH : World.cell? ({ U2 with drawn := U2.drawn + 1 } : World) ⟨L.tb, 27, none⟩ = some (.int .i64 (cc : Int)) ∧ World.rangeAt ({ U2 with drawn := U2.drawn + 1 } : World) L.tb 29 (penV t2.pen) := ⟨by rw [← HCC2.out]; exact HU0.c 27 _ rfl, HU0.range 29 _ rfl⟩
            have HG : Hid _ := hg
            have HRW : Hid (RowAt U2 g t2.rowNow) := hrow
            have HLN : Hid _ := hlen
            clear hg hrow hlen
            refine wp_region_held (S := fun x => x.cell? ⟨L.tb, 27, none⟩ = some (.int .i64 (cc : Int)) ∧ x.rangeAt L.tb 29 (penV t2.pen)) mixedC ?_
            refine takeL (i := 0) (d := 69) (v := .pointer (some ⟨L.tb, 0, none⟩)) rfl rfl (by kernel_rfl) (by kernel_rfl) (by kernel_rfl) (fun _ _ _ h => h) (Or.inl ⟨by rfl, by intro x hSx; go_simp; try (first | rfl | go_num)⟩) HH ?_
            simp only [List.set_cons_zero, List.set_cons_succ]
            refine takeL (i := 2) (d := 71) (v := .pointer (some ⟨L.tb, 0, none⟩)) rfl rfl (by kernel_rfl) (by kernel_rfl) (by kernel_rfl) (fun _ _ _ h => h) (Or.inl ⟨by rfl, by intro x hSx; go_simp; try (first | rfl | go_num)⟩) HH ?_
            simp only [List.set_cons_zero, List.set_cons_succ]
            refine takeL (i := 3) (d := 72) (v := .pointer (some ⟨L.tb, 0, none⟩)) rfl rfl (by kernel_rfl) (by kernel_rfl) (by kernel_rfl) (fun _ _ _ h => h) (Or.inl ⟨by rfl, by intro x hSx; go_simp; try (first | rfl | go_num)⟩) HH ?_
            simp only [List.set_cons_zero, List.set_cons_succ]
            refine takeL (i := 4) (d := 73) (v := .pointer (some ⟨L.tb, 26, none⟩)) rfl rfl (by kernel_rfl) (by kernel_rfl) (by kernel_rfl) (fun _ _ _ h => h) (Or.inl ⟨by rfl, by intro x hSx; go_simp; try (first | rfl | go_num)⟩) HH ?_
            simp only [List.set_cons_zero, List.set_cons_succ]
            refine takeL (i := 5) (d := 74) (v := .pointer (some ⟨L.tb, 26, none⟩)) rfl rfl (by kernel_rfl) (by kernel_rfl) (by kernel_rfl) (fun _ _ _ h => h) (Or.inl ⟨by rfl, by intro x hSx; go_simp; try (first | rfl | go_num)⟩) HH ?_
            simp only [List.set_cons_zero, List.set_cons_succ]
            refine takeL (i := 6) (d := 75) (v := .pointer (some ⟨L.tb, 27, none⟩)) rfl rfl (by kernel_rfl) (by kernel_rfl) (by kernel_rfl) (fun _ _ _ h => h) (Or.inl ⟨by rfl, by intro x hSx; go_simp; try (first | rfl | go_num)⟩) HH ?_
            simp only [List.set_cons_zero, List.set_cons_succ]
            refine takeL (i := 7) (d := 76) (v := .int .i64 (cc : Int)) rfl rfl (by kernel_rfl) (by kernel_rfl) (by kernel_rfl) (fun _ _ _ h => h) (Or.inl ⟨by rfl, by intro x hSx; have hSc := hSx.1; go_simp; try (first | rfl | go_num)⟩) HH ?_
            simp only [List.set_cons_zero, List.set_cons_succ]
            refine takeL (i := 8) (d := 77) (v := .pointer (some ⟨L.tb, 0, none⟩)) rfl rfl (by kernel_rfl) (by kernel_rfl) (by kernel_rfl) (fun _ _ _ h => h) (Or.inl ⟨by rfl, by intro x hSx; go_simp; try (first | rfl | go_num)⟩) HH ?_
            simp only [List.set_cons_zero, List.set_cons_succ]
            refine takeL (i := 9) (d := 78) (v := .int .i64 c) rfl rfl (by kernel_rfl) (by kernel_rfl) (by kernel_rfl) (fun _ _ _ h => h) (Or.inl ⟨by rfl, by intro x hSx; go_simp; try (first | rfl | go_num)⟩) HH ?_
            simp only [List.set_cons_zero, List.set_cons_succ]
            refine takeL (i := 11) (d := 80) (v := .int .i64 (wd : Int)) rfl rfl (by kernel_rfl) (by kernel_rfl) (by kernel_rfl) (fun _ _ _ h => h) (Or.inl ⟨by rfl, by intro x hSx; go_simp; try (first | rfl | go_num)⟩) HH ?_
            simp only [List.set_cons_zero, List.set_cons_succ]
            refine takeL (i := 12) (d := 81) (v := .pointer (some ⟨L.tb, 0, none⟩)) rfl rfl (by kernel_rfl) (by kernel_rfl) (by kernel_rfl) (fun _ _ _ h => h) (Or.inl ⟨by rfl, by intro x hSx; go_simp; try (first | rfl | go_num)⟩) HH ?_
            simp only [List.set_cons_zero, List.set_cons_succ]
            refine takeL (i := 13) (d := 82) (v := .pointer (some ⟨L.tb, 0, none⟩)) rfl rfl (by kernel_rfl) (by kernel_rfl) (by kernel_rfl) (fun _ _ _ h => h) (Or.inl ⟨by rfl, by intro x hSx; go_simp; try (first | rfl | go_num)⟩) HH ?_
            simp only [List.set_cons_zero, List.set_cons_succ]
            refine takeL (i := 14) (d := 83) (v := .pointer (some ⟨L.tb, 26, none⟩)) rfl rfl (by kernel_rfl) (by kernel_rfl) (by kernel_rfl) (fun _ _ _ h => h) (Or.inl ⟨by rfl, by intro x hSx; go_simp; try (first | rfl | go_num)⟩) HH ?_
            simp only [List.set_cons_zero, List.set_cons_succ]
            refine takeL (i := 15) (d := 84) (v := .pointer (some ⟨L.tb, 26, none⟩)) rfl rfl (by kernel_rfl) (by kernel_rfl) (by kernel_rfl) (fun _ _ _ h => h) (Or.inl ⟨by rfl, by intro x hSx; go_simp; try (first | rfl | go_num)⟩) HH ?_
            simp only [List.set_cons_zero, List.set_cons_succ]
            refine takeL (i := 16) (d := 85) (v := .pointer (some ⟨L.tb, 29, none⟩)) rfl rfl (by kernel_rfl) (by kernel_rfl) (by kernel_rfl) (fun _ _ _ h => h) (Or.inl ⟨by rfl, by intro x hSx; go_simp; try (first | rfl | go_num)⟩) HH ?_
            simp only [List.set_cons_zero, List.set_cons_succ]
            refine takeL (i := 17) (d := 86) (v := .agg (penA t2.pen)) rfl rfl (by kernel_rfl) (by kernel_rfl) (by kernel_rfl) (fun _ _ _ h => h) (yieldsIf_load_mid (by rfl) 47 (.tmp 85) rfl L.tb 29 rfl (penV t2.pen) _ (fun x h => h.2) Tryd.underlying47 rfl info47) HH ?_
            simp only [List.set_cons_zero, List.set_cons_succ]
            refine wpAnyH_all (rs := [1]) (by kernel_rfl) (by simp) ?_
            intro i hi'
            rw [List.mem_singleton] at hi'
            subst hi'
            refine wpOp_step rfl fun Kq hKq => ?_
            rw [if_pos (by rfl)]
            refine wp_callL (f := 75) 70 [.tmp 69] #[86] rfl rfl [.pointer (some ⟨L.tb, 0, none⟩)] rfl (by kernel_rfl) (fun v w' => v = .slice (some ⟨g, 0, none⟩) t2.cols t2.cols ∧ ∃ m, w' = World.drewN _ m) ((row_any L t2 _ HU0 HI2.out g HG.out).mono fun e w' h => ⟨_, h.1, rfl, h.2⟩) ?_
            rintro v2 wA ⟨rfl, mm, rfl⟩
            refine hKq _ _ ⟨HH, ?_⟩
            clear hKq
            simp only [List.set_cons_zero, List.set_cons_succ]
            refine wpAnyH_all (rs := [10]) (by kernel_rfl) (by simp) ?_
            intro i hi'
            rw [List.mem_singleton] at hi'
            subst hi'
            refine wpOp_step rfl fun Kq hKq => ?_
            rw [if_pos (by rfl)]
            refine wp_callL (f := 78) 79 [.tmp 77, .tmp 78] #[86, 3] rfl rfl [.pointer (some ⟨L.tb, 0, none⟩), .int .i64 c] rfl (by kernel_rfl) (fun v w' => v = .int .i64 (t2.spelt c) ∧ Sm _ w') ((spelt_any L t2 _ (HU0.drewN mm) (HST2.out.kept rfl) c).mono fun e w' h => ⟨_, h.1, rfl, h.2⟩) ?_
            rintro v4 wB ⟨rfl, smB⟩
            have SMX : Sm U2 wB := (((Ch.refl _ U2).drewN 1).drewN mm).trans smB
            have hbx := SMX.block _ HU2.out.lt id
            refine hKq _ _ ⟨⟨by rw [World.cell?_of_block hbx]; exact HH.1, fun j v hv => by rw [World.cell?_of_block hbx]; exact HH.2 j v hv⟩, ?_⟩
            clear hKq smB hbx
            simp only [List.set_cons_zero, List.set_cons_succ]
            refine wpAnyH_all (rs := [18]) (by kernel_rfl) (by simp) ?_
            intro i hi'
            rw [List.mem_singleton] at hi'
            subst hi'
            refine wpOp_step rfl fun Kq hKq => ?_
            rw [if_pos (by rfl)]
            refine wp_callL (f := 77) 87 [.tmp 70, .tmp 76, .tmp 79, .tmp 80, .tmp 86] #[108, 3, 3, 3, 47] rfl rfl [.slice (some ⟨g, 0, none⟩) t2.cols t2.cols, .int .i64 (cc : Int), .int .i64 (t2.spelt c), .int .i64 (wd : Int), .agg (penA t2.pen)] rfl (by kernel_rfl) (fun v w' => v = .tuple #[] ∧ RowAt w' g (putR t2.rowNow cc (t2.spelt c) wd t2.pen) ∧ Ch (· = g) U2 w') ((put_any g cc wd t2.cols (t2.spelt c) t2.pen t2.rowNow _ (HRW.out.kept (SMX.block g HRW.out.lt id)) HLN.out HWD.out HFT2.out (by have := HI2.out.c2; omega)).mono fun e w' h => ⟨_, h.1, rfl, h.2.1, (Sm.ch SMX).trans h.2.2⟩) ?_
            rintro v3 U3 ⟨rfl, r3, k3⟩
            have HU3' : TAt U3 L (t2.putNow c wd) := by
              unfold TS.putNow
              rw [HCC2.out, Int.toNat_natCast]
              exact HU2.out.setRowNow HG.out r3 (by rw [putR_length]; exact HLN.out) k3
            have hne : L.tb ≠ g := HU2.out.row_ne HG.out
            have hb3 := k3.block _ HU2.out.lt hne
            refine hKq _ _ ⟨⟨by rw [World.cell?_of_block hb3]; exact HH.1, fun j v hv => by rw [World.cell?_of_block hb3]; exact HH.2 j v hv⟩, ?_⟩
            clear hKq
            simp only [List.set_cons_zero, List.set_cons_succ]
            have CH3' : Ch L.own U2 U3 := k3.mono fun k _ e => e ▸ Lay.gs_own (List.mem_of_getElem? HG.out)
            have HI3' : (t2.putNow c wd).Inv := HI2.out.setRowNow _
            obtain ⟨e1, e2, e3⟩ := TS.setRowNow_rest t2 (putR t2.rowNow t2.col.toNat (t2.spelt c) wd t2.pen)
            have HCC3 : Hid ((t2.putNow c wd).col = (cc : Int)) := e1.trans HCC2.out
            have CH3 : Hid (Ch L.own w U3) := CH2.out.trans CH3'
            have HX3 : Hid (X = (t2.putNow c wd).step wd) := HX2.out
            have vw : IntKind.i64.wrap ((cc : Int) + (wd : Int)) = (cc : Int) + (wd : Int) := IntWalk.i64_in _ (by have := HFT2.out; have := HI2.out.c2; omega)
            have d27 := HU3'.c 27 _ rfl
            have d40 := HU3'.c 40 _ rfl
            have HU3 : Hid _ := HU3'
            have HI3 : Hid _ := HI3'
            clear HU3' HI3' CH3' HU2 HI2 HU0 HH HG HRW HLN r3 k3 hne hb3 SMX e1 e2 e3 HX2 HCC2 HCL2 HST2 CH2
            generalize t2.putNow c wd = t3 at *
            rw [HCC3.out] at d27
            refine wpAnyH_done (by kernel_rfl) ?_ _
            have l5 := toCol_any L t3 U3 HU3.out HI3.out ((cc : Int) + (wd : Int))
            have hst : t3.step wd = { t3.toCol ((cc : Int) + (wd : Int)) with waits := t3.wrap && decide ((t3.cols : Int) - 1 < (cc : Int) + (wd : Int)) } := by unfold TS.step; rw [HCC3.out]
            have HSTEP : Hid _ := hst
            clear hst
            cases hwr : t3.wrap with
            | true =>
              go_wp2_with (first | (go_at_call 79; refine l5.mono ?_; rintro e U4 ⟨rfl, h4, c4⟩; have d40 := h4.c 40 _ rfl; have d28 := h4.c 28 _ rfl; have f28 := h4.f 28; rw [show (t3.toCol ((cc : Int) + (wd : Int))).wrap = true from hwr] at d40) | (go_at_call 56; refine (lastCol_any L _ U4 h4 (HI3.out.toCol _)).mono ?_; rintro e w5 ⟨rfl, rfl⟩))
              go_end0
              refine ⟨rfl, ?_, (CH3.out.trans c4).tset _ _⟩
              rw [HX3.out, HSTEP.out, hwr]
              exact h4.set 28 _ rfl rfl rfl rfl rfl
            | false =>
              go_wp2_with (go_at_call 79; refine l5.mono ?_; rintro e U4 ⟨rfl, h4, c4⟩; have d40 := h4.c 40 _ rfl; have d28 := h4.c 28 _ rfl; have f28 := h4.f 28; rw [show (t3.toCol ((cc : Int) + (wd : Int))).wrap = false from hwr] at d40)
              go_end0
              refine ⟨rfl, ?_, (CH3.out.trans c4).tset _ _⟩
              rw [HX3.out, HSTEP.out, hwr]
              exact h4.set 28 _ rfl rfl rfl rfl rfl
          | false =>
            rw [hin] at d41
            have HIN : Hid (t.insert = false) := hin
            clear hin
            go_wp2_with fail
            have HX2 : Hid (X = (t.putNow c wd).step wd) := by show X = _; rw [HXX.out]; unfold TS.print2; rw [if_neg (by rw [HIN.out]; simp)]
            obtain ⟨g, hg, hrow, hlen⟩ := HU.out.rowg HIt.out
            have HU0 : TAt ({ U with drawn := U.drawn + 1 } : World) L t := HU.out.sm ((Ch.refl _ _).drewN 1)
            have HH : World.cell? ({ U with drawn := U.drawn + 1 } : World) ⟨L.tb, 27, none⟩ = some (.int .i64 (cc : Int)) ∧ World.rangeAt ({ U with drawn := U.drawn + 1 } : World) L.tb 29 (penV t.pen) := ⟨by rw [← HCC.out]; exact HU0.c 27 _ rfl, HU0.range 29 _ rfl⟩
            have HG : Hid _ := hg
            have HRW : Hid (RowAt U g t.rowNow) := hrow
            have HLN : Hid _ := hlen
            clear hg hrow hlen
            refine wp_region_held (S := fun x => x.cell? ⟨L.tb, 27, none⟩ = some (.int .i64 (cc : Int)) ∧ x.rangeAt L.tb 29 (penV t.pen)) mixedC ?_
            refine takeL (i := 0) (d := 69) (v := .pointer (some ⟨L.tb, 0, none⟩)) rfl rfl (by kernel_rfl) (by kernel_rfl) (by kernel_rfl) (fun _ _ _ h => h) (Or.inl ⟨by rfl, by intro x hSx; go_simp; try (first | rfl | go_num)⟩) HH ?_
            simp only [List.set_cons_zero, List.set_cons_succ]
            refine takeL (i := 2) (d := 71) (v := .pointer (some ⟨L.tb, 0, none⟩)) rfl rfl (by kernel_rfl) (by kernel_rfl) (by kernel_rfl) (fun _ _ _ h => h) (Or.inl ⟨by rfl, by intro x hSx; go_simp; try (first | rfl | go_num)⟩) HH ?_
            simp only [List.set_cons_zero, List.set_cons_succ]
            refine takeL (i := 3) (d := 72) (v := .pointer (some ⟨L.tb, 0, none⟩)) rfl rfl (by kernel_rfl) (by kernel_rfl) (by kernel_rfl) (fun _ _ _ h => h) (Or.inl ⟨by rfl, by intro x hSx; go_simp; try (first | rfl | go_num)⟩) HH ?_
            simp only [List.set_cons_zero, List.set_cons_succ]
            refine takeL (i := 4) (d := 73) (v := .pointer (some ⟨L.tb, 26, none⟩)) rfl rfl (by kernel_rfl) (by kernel_rfl) (by kernel_rfl) (fun _ _ _ h => h) (Or.inl ⟨by rfl, by intro x hSx; go_simp; try (first | rfl | go_num)⟩) HH ?_
            simp only [List.set_cons_zero, List.set_cons_succ]
            refine takeL (i := 5) (d := 74) (v := .pointer (some ⟨L.tb, 26, none⟩)) rfl rfl (by kernel_rfl) (by kernel_rfl) (by kernel_rfl) (fun _ _ _ h => h) (Or.inl ⟨by rfl, by intro x hSx; go_simp; try (first | rfl | go_num)⟩) HH ?_
            simp only [List.set_cons_zero, List.set_cons_succ]
            refine takeL (i := 6) (d := 75) (v := .pointer (some ⟨L.tb, 27, none⟩)) rfl rfl (by kernel_rfl) (by kernel_rfl) (by kernel_rfl) (fun _ _ _ h => h) (Or.inl ⟨by rfl, by intro x hSx; go_simp; try (first | rfl | go_num)⟩) HH ?_
            simp only [List.set_cons_zero, List.set_cons_succ]
            refine takeL (i := 7) (d := 76) (v := .int .i64 (cc : Int)) rfl rfl (by kernel_rfl) (by kernel_rfl) (by kernel_rfl) (fun _ _ _ h => h) (Or.inl ⟨by rfl, by intro x hSx; have hSc := hSx.1; go_simp; try (first | rfl | go_num)⟩) HH ?_
            simp only [List.set_cons_zero, List.set_cons_succ]
            refine takeL (i := 8) (d := 77) (v := .pointer (some ⟨L.tb, 0, none⟩)) rfl rfl (by kernel_rfl) (by kernel_rfl) (by kernel_rfl) (fun _ _ _ h => h) (Or.inl ⟨by rfl, by intro x hSx; go_simp; try (first | rfl | go_num)⟩) HH ?_
            simp only [List.set_cons_zero, List.set_cons_succ]
            refine takeL (i := 9) (d := 78) (v := .int .i64 c) rfl rfl (by kernel_rfl) (by kernel_rfl) (by kernel_rfl) (fun _ _ _ h => h) (Or.inl ⟨by rfl, by intro x hSx; go_simp; try (first | rfl | go_num)⟩) HH ?_
            simp only [List.set_cons_zero, List.set_cons_succ]
            refine takeL (i := 11) (d := 80) (v := .int .i64 (wd : Int)) rfl rfl (by kernel_rfl) (by kernel_rfl) (by kernel_rfl) (fun _ _ _ h => h) (Or.inl ⟨by rfl, by intro x hSx; go_simp; try (first | rfl | go_num)⟩) HH ?_
            simp only [List.set_cons_zero, List.set_cons_succ]
            refine takeL (i := 12) (d := 81) (v := .pointer (some ⟨L.tb, 0, none⟩)) rfl rfl (by kernel_rfl) (by kernel_rfl) (by kernel_rfl) (fun _ _ _ h => h) (Or.inl ⟨by rfl, by intro x hSx; go_simp; try (first | rfl | go_num)⟩) HH ?_
            simp only [List.set_cons_zero, List.set_cons_succ]
            refine takeL (i := 13) (d := 82) (v := .pointer (some ⟨L.tb, 0, none⟩)) rfl rfl (by kernel_rfl) (by kernel_rfl) (by kernel_rfl) (fun _ _ _ h => h) (Or.inl ⟨by rfl, by intro x hSx; go_simp; try (first | rfl | go_num)⟩) HH ?_
            simp only [List.set_cons_zero, List.set_cons_succ]
            refine takeL (i := 14) (d := 83) (v := .pointer (some ⟨L.tb, 26, none⟩)) rfl rfl (by kernel_rfl) (by kernel_rfl) (by kernel_rfl) (fun _ _ _ h => h) (Or.inl ⟨by rfl, by intro x hSx; go_simp; try (first | rfl | go_num)⟩) HH ?_
            simp only [List.set_cons_zero, List.set_cons_succ]
            refine takeL (i := 15) (d := 84) (v := .pointer (some ⟨L.tb, 26, none⟩)) rfl rfl (by kernel_rfl) (by kernel_rfl) (by kernel_rfl) (fun _ _ _ h => h) (Or.inl ⟨by rfl, by intro x hSx; go_simp; try (first | rfl | go_num)⟩) HH ?_
            simp only [List.set_cons_zero, List.set_cons_succ]
            refine takeL (i := 16) (d := 85) (v := .pointer (some ⟨L.tb, 29, none⟩)) rfl rfl (by kernel_rfl) (by kernel_rfl) (by kernel_rfl) (fun _ _ _ h => h) (Or.inl ⟨by rfl, by intro x hSx; go_simp; try (first | rfl | go_num)⟩) HH ?_
            simp only [List.set_cons_zero, List.set_cons_succ]
            refine takeL (i := 17) (d := 86) (v := .agg (penA t.pen)) rfl rfl (by kernel_rfl) (by kernel_rfl) (by kernel_rfl) (fun _ _ _ h => h) (yieldsIf_load_mid (by rfl) 47 (.tmp 85) rfl L.tb 29 rfl (penV t.pen) _ (fun x h => h.2) Tryd.underlying47 rfl info47) HH ?_
            simp only [List.set_cons_zero, List.set_cons_succ]
            refine wpAnyH_all (rs := [1]) (by kernel_rfl) (by simp) ?_
            intro i hi'
            rw [List.mem_singleton] at hi'
            subst hi'
            refine wpOp_step rfl fun Kq hKq => ?_
            rw [if_pos (by rfl)]
            refine wp_callL (f := 75) 70 [.tmp 69] #[86] rfl rfl [.pointer (some ⟨L.tb, 0, none⟩)] rfl (by kernel_rfl) (fun v w' => v = .slice (some ⟨g, 0, none⟩) t.cols t.cols ∧ ∃ m, w' = World.drewN _ m) ((row_any L t _ HU0 HIt.out g HG.out).mono fun e w' h => ⟨_, h.1, rfl, h.2⟩) ?_
            rintro v2 wA ⟨rfl, mm, rfl⟩
            refine hKq _ _ ⟨HH, ?_⟩
            clear hKq
            simp only [List.set_cons_zero, List.set_cons_succ]
            refine wpAnyH_all (rs := [10]) (by kernel_rfl) (by simp) ?_
            intro i hi'
            rw [List.mem_singleton] at hi'
            subst hi'
            refine wpOp_step rfl fun Kq hKq => ?_
            rw [if_pos (by rfl)]
            refine wp_callL (f := 78) 79 [.tmp 77, .tmp 78] #[86, 3] rfl rfl [.pointer (some ⟨L.tb, 0, none⟩), .int .i64 c] rfl (by kernel_rfl) (fun v w' => v = .int .i64 (t.spelt c) ∧ Sm _ w') ((spelt_any L t _ (HU0.drewN mm) (HST.out.kept rfl) c).mono fun e w' h => ⟨_, h.1, rfl, h.2⟩) ?_
            rintro v4 wB ⟨rfl, smB⟩
            have SMX : Sm U wB := (((Ch.refl _ U).drewN 1).drewN mm).trans smB
            have hbx := SMX.block _ HU.out.lt id
            refine hKq _ _ ⟨⟨by rw [World.cell?_of_block hbx]; exact HH.1, fun j v hv => by rw [World.cell?_of_block hbx]; exact HH.2 j v hv⟩, ?_⟩
            clear hKq smB hbx
            simp only [List.set_cons_zero, List.set_cons_succ]
            refine wpAnyH_all (rs := [18]) (by kernel_rfl) (by simp) ?_
            intro i hi'
            rw [List.mem_singleton] at hi'
            subst hi'
            refine wpOp_step rfl fun Kq hKq => ?_
            rw [if_pos (by rfl)]
            refine wp_callL (f := 77) 87 [.tmp 70, .tmp 76, .tmp 79, .tmp 80, .tmp 86] #[108, 3, 3, 3, 47] rfl rfl [.slice (some ⟨g, 0, none⟩) t.cols t.cols, .int .i64 (cc : Int), .int .i64 (t.spelt c), .int .i64 (wd : Int), .agg (penA t.pen)] rfl (by kernel_rfl) (fun v w' => v = .tuple #[] ∧ RowAt w' g (putR t.rowNow cc (t.spelt c) wd t.pen) ∧ Ch (· = g) U w') ((put_any g cc wd t.cols (t.spelt c) t.pen t.rowNow _ (HRW.out.kept (SMX.block g HRW.out.lt id)) HLN.out HWD.out HFT.out (by have := HIt.out.c2; omega)).mono fun e w' h => ⟨_, h.1, rfl, h.2.1, (Sm.ch SMX).trans h.2.2⟩) ?_
            rintro v3 U3 ⟨rfl, r3, k3⟩
            have HU3' : TAt U3 L (t.putNow c wd) := by
              unfold TS.putNow
              rw [HCC.out, Int.toNat_natCast]
              exact HU.out.setRowNow HG.out r3 (by rw [putR_length]; exact HLN.out) k3
            have hne : L.tb ≠ g := HU.out.row_ne HG.out
            have hb3 := k3.block _ HU.out.lt hne
            refine hKq _ _ ⟨⟨by rw [World.cell?_of_block hb3]; exact HH.1, fun j v hv => by rw [World.cell?_of_block hb3]; exact HH.2 j v hv⟩, ?_⟩
            clear hKq
            simp only [List.set_cons_zero, List.set_cons_succ]
            have CH3' : Ch L.own U U3 := k3.mono fun k _ e => e ▸ Lay.gs_own (List.mem_of_getElem? HG.out)
            have HI3' : (t.putNow c wd).Inv := HIt.out.setRowNow _
            obtain ⟨e1, e2, e3⟩ := TS.setRowNow_rest t (putR t.rowNow t.col.toNat (t.spelt c) wd t.pen)
            have HCC3 : Hid ((t.putNow c wd).col = (cc : Int)) := e1.trans HCC.out
            have CH3 : Hid (Ch L.own w U3) := CHU.out.trans CH3'
            have HX3 : Hid (X = (t.putNow c wd).step wd) := HX2.out
            have vw : IntKind.i64.wrap ((cc : Int) + (wd : Int)) = (cc : Int) + (wd : Int) := IntWalk.i64_in _ (by have := HFT.out; have := HIt.out.c2; omega)
            have d27 := HU3'.c 27 _ rfl
            have d40 := HU3'.c 40 _ rfl
            have HU3 : Hid _ := HU3'
            have HI3 : Hid _ := HI3'
            clear HU3' HI3' CH3' HU HIt HU0 HH HG HRW HLN r3 k3 hne hb3 SMX e1 e2 e3 HX2 HCC HCL HST CHU
            generalize t.putNow c wd = t3 at *
            rw [HCC3.out] at d27
            refine wpAnyH_done (by kernel_rfl) ?_ _
            have l5 := toCol_any L t3 U3 HU3.out HI3.out ((cc : Int) + (wd : Int))
            have hst : t3.step wd = { t3.toCol ((cc : Int) + (wd : Int)) with waits := t3.wrap && decide ((t3.cols : Int) - 1 < (cc : Int) + (wd : Int)) } := by unfold TS.step; rw [HCC3.out]
            have HSTEP : Hid _ := hst
            clear hst
            cases hwr : t3.wrap with
            | true =>
              go_wp2_with (first | (go_at_call 79; refine l5.mono ?_; rintro e U4 ⟨rfl, h4, c4⟩; have d40 := h4.c 40 _ rfl; have d28 := h4.c 28 _ rfl; have f28 := h4.f 28; rw [show (t3.toCol ((cc : Int) + (wd : Int))).wrap = true from hwr] at d40) | (go_at_call 56; refine (lastCol_any L _ U4 h4 (HI3.out.toCol _)).mono ?_; rintro e w5 ⟨rfl, rfl⟩))
              go_end0
              refine ⟨rfl, ?_, (CH3.out.trans c4).tset _ _⟩
              rw [HX3.out, HSTEP.out, hwr]
              exact h4.set 28 _ rfl rfl rfl rfl rfl
            | false =>
              go_wp2_with (go_at_call 79; refine l5.mono ?_; rintro e U4 ⟨rfl, h4, c4⟩; have d40 := h4.c 40 _ rfl; have d28 := h4.c 28 _ rfl; have f28 := h4.f 28; rw [show (t3.toCol ((cc : Int) + (wd : Int))).wrap = false from hwr] at d40)
              go_end0
              refine ⟨rfl, ?_, (CH3.out.trans c4).tset _ _⟩
              rw [HX3.out, HSTEP.out, hwr]
              exact h4.set 28 _ rfl rfl rfl rfl rfl
end Go.Proofs.YtheibfffilomcaaDoor

