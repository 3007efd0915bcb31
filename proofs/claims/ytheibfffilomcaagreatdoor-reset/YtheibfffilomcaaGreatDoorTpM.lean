/- Tj Tk Tl Tm Tn To Tp together. -/
import Derived.Test.YtheibfffilomcaaGreatDoorTiM

/- Walks of package terminal: nextTab, control, alphabetOf. -/
namespace Go.Proofs.YtheibfffilomcaaGreatDoor
open Go.RowKit

theorem tabStop_hit (tabs : List Bool) (k : Nat) (h : tabs[k]? = some true) : TS.tabStop tabs k = (k : Int) := by
  have hl := (List.getElem?_eq_some_iff.1 h)
  obtain ⟨hl, hv⟩ := hl
  unfold TS.tabStop
  rw [← List.getElem_cons_drop hl, hv, List.findIdx?_cons]
  simp
theorem tabStop_miss (tabs : List Bool) (k : Nat) (h : tabs[k]? = some false) : TS.tabStop tabs k = TS.tabStop tabs (k + 1) := by
  obtain ⟨hl, hv⟩ := (List.getElem?_eq_some_iff.1 h)
  unfold TS.tabStop
  rw [← List.getElem_cons_drop hl, hv, List.findIdx?_cons]
  cases (List.drop (k + 1) tabs).findIdx? id with
  | none => rfl
  | some i => simp; omega
theorem tabStop_end (tabs : List Bool) (k : Nat) (h : tabs.length ≤ k) : TS.tabStop tabs k = (tabs.length : Int) - 1 := by
  unfold TS.tabStop
  rw [List.drop_eq_nil_of_le h]; rfl

theorem nextTab_any (L : Lay) (s : TS) (w : World) (ht : TAt w L s) (hi : s.Inv) : Calls Tryz.prog 106 #[.pointer (some ⟨L.tb, 0, none⟩)] w fun e w' => e = .returned (.tuple #[]) ∧ TAt w' L s.nextTab ∧ Ch L.own w w' := by
  have c27 := ht.c 27 _ rfl
  have c43 := ht.c 43 _ rfl
  obtain ⟨cc, hcc⟩ : ∃ cc : Nat, s.col = (cc : Int) := ⟨s.col.toNat, by have := hi.col0; omega⟩
  have hcl : cc < s.cols := by have := hi.col1; omega
  have hc2 := hi.c2
  have hlt := hi.lt
  rw [hcc] at c27
  have hX : s.nextTab = s.toCol (TS.tabStop s.tabs (cc + 1)) := by unfold TS.nextTab; rw [hcc, Int.toNat_natCast]
  generalize s.nextTab = X at *
  have HX : Hid _ := hX
  have HT : Hid (TAt w L s) := ht
  have HI : Hid s.Inv := hi
  have v1 : IntKind.i64.wrap ((cc : Int) + 1) = (cc : Int) + 1 := IntWalk.i64_in _ (by omega)
  clear hX ht hi hcc
  go_enter Tryz.func106, Tryz.ntmps106
  go_wp2_with fail
  go_loopw [2] (fun i wr => ∃ k : Nat, k ≤ s.cols ∧ i = .int .i64 k ∧ Hid (TS.tabStop s.tabs k = TS.tabStop s.tabs (cc + 1)) ∧ wr = w) (fun i _ => s.cols - (intOf i).toNat)
  case atStart => exact ⟨cc + 1, by omega, by go_num, rfl, rfl⟩
  case round =>
    obtain ⟨k, hk, rfl, hno, rfl⟩ := hrel
    by_cases hlt2 : k < s.cols
    · have ik : (k : Int) < (s.cols : Int) := by omega
      have hkt : k < s.tabs.length := by omega
      have hcell : wr.cell? ⟨L.gb, k, none⟩ = some (.bool s.tabs[k]) := by rw [cell_of_row _ _ _ _ _ _ HT.out.tab]; simp [hkt]
      have vk : IntKind.i64.wrap ((k : Int) + 1) = (k : Int) + 1 := IntWalk.i64_in _ (by omega)
      cases hb : s.tabs[k] with
      | true =>
        rw [hb] at hcell
        have e1 := tabStop_hit s.tabs k (by rw [List.getElem?_eq_getElem hkt, hb])
        have HE : Hid _ := hno.out.symm.trans e1
        clear e1 hno hb
        go_wp2_with (go_at_call 104; refine (toCol_any L s wr HT.out HI.out k).mono ?_; rintro e w1 ⟨rfl, h1, c1⟩)
        exact bodyPost_ret (results_none Tryz.results106 _ _ _) rfl ⟨rfl, by rw [HX.out, HE.out]; exact h1, c1⟩
      | false =>
        rw [hb] at hcell
        have e1 := tabStop_miss s.tabs k (by rw [List.getElem?_eq_getElem hkt, hb])
        have HE : Hid (TS.tabStop s.tabs (k + 1) = TS.tabStop s.tabs (cc + 1)) := e1.symm.trans hno.out
        clear e1 hno hb
        go_wp2_with fail
        go_roundw
        case rel => exact ⟨k + 1, by omega, by go_num, HE, trivial⟩
        case measure => simp [intOf]; omega
    · have hkn : k = s.cols := by omega
      have e1 := tabStop_end s.tabs k (by omega)
      have HE : Hid (TS.tabStop s.tabs (cc + 1) = (s.cols : Int) - 1) := by rw [← hno.out, e1, hlt]; exact rfl
      subst hkn
      clear e1 hno
      go_wp2_with (first | (go_at_call 105; refine (lastCol_any L s wr HT.out HI.out).mono ?_; rintro e w1 ⟨rfl, rfl⟩) | (go_at_call 104; refine (toCol_any L s _ HT.out HI.out ((s.cols : Int) - 1)).mono ?_; rintro e w2 ⟨rfl, h1, c1⟩))
      go_end0
      exact ⟨rfl, by rw [HX.out, HE.out]; exact h1, c1⟩

theorem alphabet_any (f b : Int) (w : World) : Calls Tryz.prog 109 #[.int .i64 f, .int .i64 b] w fun e w' => e = .returned (.int .i64 (TS.alphabetOf f b)) ∧ w' = w := by
  by_cases h1 : f = 66
  · subst h1
    go_enter Tryz.func109, Tryz.ntmps109
    go_wp2_with fail
    go_ret
    exact ⟨rfl, rfl⟩
  · by_cases h2 : f = 48
    · subst h2
      go_enter Tryz.func109, Tryz.ntmps109
      go_wp2_with fail
      go_ret
      exact ⟨rfl, rfl⟩
    · have e : TS.alphabetOf f b = b := by unfold TS.alphabetOf; rw [if_neg h1, if_neg h2]
      rw [e]
      have b1 : (f == 66) = false := by simp [h1]
      have b2 : (f == 48) = false := by simp [h2]
      clear e h1 h2
      go_enter Tryz.func109, Tryz.ntmps109
      go_wp2_with fail
      go_ret
      exact ⟨rfl, rfl⟩

theorem control_any (L : Lay) (s : TS) (w : World) (ht : TAt w L s) (hi : s.Inv) (c : Int) : Calls Tryz.prog 56 #[.pointer (some ⟨L.tb, 0, none⟩), .int .i64 c] w fun e w' => e = .returned (.tuple #[]) ∧ TAt w' L (s.control c) ∧ Ch L.own w w' := by
  have c28 := ht.c 28 _ rfl
  have f28 := ht.f 28
  have HT : Hid (TAt w L s) := ht
  have hu := ht.set (s' := s.unwait) 28 (.bool false) rfl rfl rfl rfl rfl
  have HU : Hid _ := hu
  have HI : Hid s.Inv := hi
  have d27 := hu.c 27 _ rfl
  have d36 := ht.c 36 _ rfl
  have g36 := ht.f 36
  have hcol0 := hi.col0
  have hcol1 := hi.col1
  have hc2 := hi.c2
  have CU : Hid (Ch L.own w (w.setCell ⟨L.tb, 28, none⟩ (.bool false))) := (Ch.refl _ _).tset _ _
  clear ht hu hi
  rcases (show c = 8 ∨ c = 9 ∨ c = 10 ∨ c = 11 ∨ c = 12 ∨ c = 13 ∨ c = 14 ∨ c = 15 ∨ (c < 8 ∨ 15 < c) by omega) with rfl | rfl | rfl | rfl | rfl | rfl | rfl | rfl | hc
  · rw [show s.control 8 = s.unwait.toCol (s.col - 1) from rfl]
    have v1 : IntKind.i64.wrap (s.unwait.col - 1) = s.col - 1 := IntWalk.i64_in _ (by show _ ≤ s.col - 1 ∧ s.col - 1 ≤ _; omega)
    go_enter Tryz.func56, Tryz.ntmps56
    go_wp2_with (go_at_call 104; refine (toCol_any L s.unwait _ HU.out HI.out.unwait (s.col - 1)).mono ?_; rintro e w1 ⟨rfl, h1, c1⟩)
    go_end0
    exact ⟨rfl, h1, CU.out.trans c1⟩
  · rw [show s.control 9 = s.unwait.nextTab from rfl]
    go_enter Tryz.func56, Tryz.ntmps56
    go_wp2_with (go_at_call 106; refine (nextTab_any L s.unwait _ HU.out HI.out.unwait).mono ?_; rintro e w1 ⟨rfl, h1, c1⟩)
    go_end0
    exact ⟨rfl, h1, CU.out.trans c1⟩
  · rw [show s.control 10 = s.unwait.down from rfl]
    go_enter Tryz.func56, Tryz.ntmps56
    go_wp2_with (go_at_call 107; refine (tdown_any L s.unwait _ HU.out HI.out.unwait).mono ?_; rintro e w1 ⟨rfl, h1, c1⟩)
    go_end0
    exact ⟨rfl, h1, CU.out.trans c1⟩
  · rw [show s.control 11 = s.unwait.down from rfl]
    go_enter Tryz.func56, Tryz.ntmps56
    go_wp2_with (go_at_call 107; refine (tdown_any L s.unwait _ HU.out HI.out.unwait).mono ?_; rintro e w1 ⟨rfl, h1, c1⟩)
    go_end0
    exact ⟨rfl, h1, CU.out.trans c1⟩
  · rw [show s.control 12 = s.unwait.down from rfl]
    go_enter Tryz.func56, Tryz.ntmps56
    go_wp2_with (go_at_call 107; refine (tdown_any L s.unwait _ HU.out HI.out.unwait).mono ?_; rintro e w1 ⟨rfl, h1, c1⟩)
    go_end0
    exact ⟨rfl, h1, CU.out.trans c1⟩
  · rw [show s.control 13 = s.unwait.toCol 0 from rfl]
    go_enter Tryz.func56, Tryz.ntmps56
    go_wp2_with (go_at_call 104; refine (toCol_any L s.unwait _ HU.out HI.out.unwait 0).mono ?_; rintro e w1 ⟨rfl, h1, c1⟩)
    go_end0
    exact ⟨rfl, h1, CU.out.trans c1⟩
  · rw [show s.control 14 = { s with use := 1 } from rfl]
    go_enter Tryz.func56, Tryz.ntmps56
    go_wp2_with fail
    go_end0
    exact ⟨rfl, HT.out.set 36 _ rfl rfl rfl rfl rfl, (Ch.refl _ _).tset _ _⟩
  · rw [show s.control 15 = { s with use := 0 } from rfl]
    go_enter Tryz.func56, Tryz.ntmps56
    go_wp2_with fail
    go_end0
    exact ⟨rfl, HT.out.set 36 _ rfl rfl rfl rfl rfl, (Ch.refl _ _).tset _ _⟩
  · have e : s.control c = s := by
      unfold TS.control
      simp only [if_neg (show ¬ (8 ≤ c ∧ c ≤ 13) by omega), if_neg (show ¬ c = 8 by omega), if_neg (show ¬ c = 9 by omega), if_neg (show ¬ (c = 10 ∨ c = 11 ∨ c = 12) by omega), if_neg (show ¬ c = 13 by omega), if_neg (show ¬ c = 14 by omega), if_neg (show ¬ c = 15 by omega)]
    rw [e]
    have b8 : (c == 8) = false := by simp; omega
    have b9 : (c == 9) = false := by simp; omega
    have b10 : (c == 10) = false := by simp; omega
    have b11 : (c == 11) = false := by simp; omega
    have b12 : (c == 12) = false := by simp; omega
    have b13 : (c == 13) = false := by simp; omega
    have b14 : (c == 14) = false := by simp; omega
    have b15 : (c == 15) = false := by simp; omega
    rcases hc with hc | hc
    · have d8 : decide (8 ≤ c) = false := by simp; omega
      clear e
      go_enter Tryz.func56, Tryz.ntmps56
      go_wp2_with fail
      go_end0
      exact ⟨rfl, HT.out, Ch.refl _ _⟩
    · have d8 : decide (8 ≤ c) = true := by simp; omega
      have d8' : 8 ≤ c := by omega
      have d13 : decide (c ≤ 13) = false := by simp; omega
      clear e
      go_enter Tryz.func56, Tryz.ntmps56
      go_wp2_with fail
      go_end0
      exact ⟨rfl, HT.out, Ch.refl _ _⟩
end Go.Proofs.YtheibfffilomcaaGreatDoor

/- Walks of package terminal: save, restore; laws for stores of several cells. -/
namespace Go.Proofs.YtheibfffilomcaaGreatDoor
open Go.RowKit

theorem TAt.range' {w : World} {L : Lay} {s : TS} (h : TAt w L s) (j : Nat) (cs : List Value) (hcs : ((termV L s).drop j).take cs.length = cs) : w.rangeAt L.tb j cs := fun i v hv => by
  refine h.c (j + i) v ?_
  rw [← hcs] at hv
  rw [List.getElem?_take] at hv
  split at hv
  · rwa [List.getElem?_drop] at hv
  · cases hv
theorem blk_setCells {w : World} {b o : Nat} {vs cur : List Value} {t : TypeId} (h : w.heap[b]? = some (.cells cur.toArray t (0, 0))) (hl : o + vs.length ≤ cur.length) :
    (w.setCells b o vs).heap[b]? = some (.cells (cur.take o ++ (vs ++ cur.drop (o + vs.length))).toArray t (0, 0)) := by
  obtain ⟨cs', q1, q2, q3⟩ := setCells_rowC b vs o w cur.toArray t h
  rw [q1]
  congr 2
  apply Array.ext_getElem?
  intro i
  rw [q3, List.getElem?_toArray, List.getElem?_toArray, List.size_toArray]
  by_cases hi : o ≤ i ∧ i < o + vs.length ∧ i < cur.length
  · rw [if_pos hi, List.getElem?_append_right (by rw [List.length_take]; omega), List.length_take, show min o cur.length = o by omega, List.getElem?_append_left (by omega)]
  · rw [if_neg hi]
    by_cases h1 : i < o
    · rw [List.getElem?_append_left (by rw [List.length_take]; omega), List.getElem?_take, if_pos h1]
    · rw [List.getElem?_append_right (by rw [List.length_take]; omega), List.length_take, show min o cur.length = o by omega]
      by_cases h2 : i < o + vs.length
      · omega
      · rw [List.getElem?_append_right (by omega), List.getElem?_drop, show o + vs.length + (i - o - vs.length) = i by omega]
theorem blk_there {w : World} {b o n : Nat} {cur : List Value} {t : TypeId} (h : w.heap[b]? = some (.cells cur.toArray t (0, 0))) (hl : o + n ≤ cur.length) : w.there b o n := fun j hj => ⟨by rw [cell_of_row _ _ _ _ _ _ h]; simp [show o + j < cur.length by omega], frozen_of_row _ _ _ _ _ h⟩

/-- Several cells of the terminal's own block written. -/
theorem TAt.sets {w : World} {L : Lay} {s s' : TS} (h : TAt w L s) (j : Nat) (cs : List Value) (hl : j + cs.length ≤ 44) (hj : (termV L s).take j ++ (cs ++ (termV L s).drop (j + cs.length)) = termV L s') (hc : s'.cols = s.cols) (h0 : s'.s0 = s.s0) (h1 : s'.s1 = s.s1) (ht : s'.tabs = s.tabs) :
    TAt (w.setCells L.tb j cs) L s' ∧ Ch L.own w (w.setCells L.tb j cs) := by
  have hz := size_setCells L.tb cs j w
  have c : Ch (· = L.tb) w (w.setCells L.tb j cs) := ⟨hz.2.1, hz.2.2.1, hz.2.2.2, by omega, fun i _ hn => heap_setCells L.tb _ _ _ i hn⟩
  exact ⟨h.put (by rw [← hj]; exact blk_setCells h.blk hl) c hc h0 h1 ht, c.mono fun k _ e => .inl e⟩
theorem wp_tstoreO {o : Oper} {a : Act} {u : World} {K : Act → World → Prop} {Q : Exit → Act → World → Prop} (ty : TypeId) (x y : Operand) (ho : o.op = .store ty x y) (hd : o.dst = none) (L : Lay) (s s' : TS) (j : Nat) (cs : List Value) (hsz : (Tryz.prog.info? ty).map (·.size) = some cs.length)
    (hx : a.eval x = .pointer (some ⟨L.tb, j, none⟩)) (hy : a.eval y = .agg cs.toArray) (h1 : ∀ v ∈ cs, v.oneCell' = true) (ht : TAt u L s) (hl : j + cs.length ≤ 44) (hL : (termV L s).take j ++ (cs ++ (termV L s).drop (j + cs.length)) = termV L s') (hc : s'.cols = s.cols) (h0 : s'.s0 = s.s0) (h1' : s'.s1 = s.s1) (htb : s'.tabs = s.tabs)
    (h : ∀ u', TAt u' L s' → Ch L.own u u' → (∀ i, i < j ∨ j + cs.length ≤ i → u'.cell? ⟨L.tb, i, none⟩ = u.cell? ⟨L.tb, i, none⟩) → K a u') : Oper.wp Tryz.prog o a u K Q := by
  obtain ⟨t1, c1⟩ := ht.sets j cs hl hL hc h0 h1' htb
  refine wp_store_mid ty x y ho L.tb j cs.toArray hx hy (by simpa using blk_there ht.blk hl) (by simpa using hsz) (all_oneCell_toArray h1) ?_
  rw [hd]
  exact h _ (by simpa using t1) (by simpa using c1) (fun i hi => by simpa using World.cell?_setCells_out L.tb cs j u ⟨L.tb, i, none⟩ (fun _ _ => hi))
theorem wp_tstore {ops : Array Oper} {rest : List Oper} {o : Oper} {a : Act} {u : World} {Q : Exit → Act → World → Prop} (hgd : o.guard = none) (ty : TypeId) (x y : Operand) (ho : o.op = .store ty x y) (hd : o.dst = none) (L : Lay) (s s' : TS) (j : Nat) (cs : List Value) (hsz : (Tryz.prog.info? ty).map (·.size) = some cs.length)
    (hx : a.eval x = .pointer (some ⟨L.tb, j, none⟩)) (hy : a.eval y = .agg cs.toArray) (h1 : ∀ v ∈ cs, v.oneCell' = true) (ht : TAt u L s) (hl : j + cs.length ≤ 44) (hL : (termV L s).take j ++ (cs ++ (termV L s).drop (j + cs.length)) = termV L s') (hc : s'.cols = s.cols) (h0 : s'.s0 = s.s0) (h1' : s'.s1 = s.s1) (htb : s'.tabs = s.tabs)
    (h : ∀ u', TAt u' L s' → Ch L.own u u' → wpList Tryz.prog ops Q rest a u') : wpList Tryz.prog ops Q (o :: rest) a u :=
  wpList_plain hgd fun _ hK => wp_tstoreO ty x y ho hd L s s' j cs hsz hx hy h1 ht hl hL hc h0 h1' htb (fun u' t1 c1 _ => hK _ _ (h u' t1 c1))

def spotV (p : SpotS) : List Value := [.int .i64 p.row, .int .i64 p.col, .bool p.waits, .bool p.pen.b, .bool p.pen.u, .bool p.pen.t, .int .i64 p.pen.f, .int .i64 p.pen.k, .int .i64 p.first, .int .i64 p.second, .int .i64 p.use, .bool p.origin]
theorem spotV_one (p : SpotS) : ∀ v ∈ spotV p, v.oneCell' = true := by
  intro v hv
  simp only [spotV, List.mem_cons, List.not_mem_nil, or_false] at hv
  rcases hv with rfl | rfl | rfl | rfl | rfl | rfl | rfl | rfl | rfl | rfl | rfl | rfl <;> rfl
theorem info54s : (Tryz.prog.info? 82).map (·.size) = some 12 := by kernel_rfl

set_option maxRecDepth 100000 in
set_option maxHeartbeats 1000000 in
theorem save_any (L : Lay) (s : TS) (w : World) (ht : TAt w L s) (hi : s.Inv) : Calls Tryz.prog 175 #[.pointer (some ⟨L.tb, 0, none⟩)] w fun e w' => e = .returned (.tuple #[]) ∧ TAt w' L s.save ∧ Ch L.own w w' := by
  obtain ⟨k, hk, hX⟩ : ∃ k : Nat, (if s.shown = 0 then 0 else 13) = k ∧ ((k = 0 ∧ s.save = { s with v0 := s.spot }) ∨ (k = 13 ∧ s.save = { s with v1 := s.spot })) := by
    by_cases h : s.shown = 0
    · exact ⟨0, by rw [if_pos h], .inl ⟨rfl, by unfold TS.save; rw [if_pos h]⟩⟩
    · exact ⟨13, by rw [if_neg h], .inr ⟨rfl, by unfold TS.save; rw [if_neg h]⟩⟩
  generalize s.save = X at *
  have HX : Hid _ := hX
  have HT : Hid (TAt w L s) := ht
  have HT0 : TAt ({ w with drawn := w.drawn + 1 } : World) L s := HT.out.sm ((Ch.refl _ _).drewN 1)
  have l1 := shown_any L s ({ w with drawn := w.drawn + 1 } : World) HT0 hi
  rw [hk] at l1
  have HH : World.rangeAt ({ w with drawn := w.drawn + 1 } : World) L.tb 26 (spotV s.spot) := HT0.range' 26 _ rfl
  clear ht hX hi hk
  go_enter Tryz.func175, Tryz.ntmps175
  go_wp2_with fail
  refine wp_region_held (S := fun x => x.rangeAt L.tb 26 (spotV s.spot)) mixedC ?_
  refine takeL (i := 0) (d := 2) (v := .pointer (some ⟨L.tb, 0, none⟩)) rfl rfl (by kernel_rfl) (by kernel_rfl) (by kernel_rfl) (fun _ _ _ h => h) (Or.inl ⟨by rfl, by intro x hSx; go_simp; try (first | rfl | go_num)⟩) HH ?_
  simp only [List.set_cons_zero, List.set_cons_succ]
  refine takeL (i := 2) (d := 4) (v := .pointer (some ⟨L.tb, 0, none⟩)) rfl rfl (by kernel_rfl) (by kernel_rfl) (by kernel_rfl) (fun _ _ _ h => h) (Or.inl ⟨by rfl, by intro x hSx; go_simp; try (first | rfl | go_num)⟩) HH ?_
  simp only [List.set_cons_zero, List.set_cons_succ]
  refine takeL (i := 3) (d := 5) (v := .pointer (some ⟨L.tb, 0, none⟩)) rfl rfl (by kernel_rfl) (by kernel_rfl) (by kernel_rfl) (fun _ _ _ h => h) (Or.inl ⟨by rfl, by intro x hSx; go_simp; try (first | rfl | go_num)⟩) HH ?_
  simp only [List.set_cons_zero, List.set_cons_succ]
  refine takeL (i := 4) (d := 6) (v := .pointer (some ⟨L.tb, 26, none⟩)) rfl rfl (by kernel_rfl) (by kernel_rfl) (by kernel_rfl) (fun _ _ _ h => h) (Or.inl ⟨by rfl, by intro x hSx; go_simp; try (first | rfl | go_num)⟩) HH ?_
  simp only [List.set_cons_zero, List.set_cons_succ]
  refine takeL (i := 5) (d := 7) (v := .pointer (some ⟨L.tb, 26, none⟩)) rfl rfl (by kernel_rfl) (by kernel_rfl) (by kernel_rfl) (fun _ _ _ h => h) (Or.inl ⟨by rfl, by intro x hSx; go_simp; try (first | rfl | go_num)⟩) HH ?_
  simp only [List.set_cons_zero, List.set_cons_succ]
  refine takeL (i := 6) (d := 8) (v := .agg (spotV s.spot).toArray) rfl rfl (by kernel_rfl) (by kernel_rfl) (by kernel_rfl) (fun _ _ _ h => h) (yieldsIf_load_mid (by rfl) 82 (.tmp 7) rfl L.tb 26 rfl (spotV s.spot) _ (fun x h => h) Tryz.underlying82 rfl info54s) HH ?_
  simp only [List.set_cons_zero, List.set_cons_succ]
  refine wpAnyH_all (rs := [1]) (by kernel_rfl) (by simp) ?_
  intro i hi'
  rw [List.mem_singleton] at hi'
  subst hi'
  refine wpOp_step rfl fun Kq hKq => ?_
  rw [if_pos (by rfl)]
  refine wp_callL (f := 166) 3 [.tmp 2] #[72] rfl rfl [.pointer (some ⟨L.tb, 0, none⟩)] rfl (by kernel_rfl) (fun v w' => v = .pointer (some ⟨L.tb, k, none⟩) ∧ ∃ m, w' = World.drewN _ m) (l1.mono fun e w' h => ⟨_, h.1, rfl, h.2⟩) ?_
  rintro v2 w1 ⟨rfl, m1, rfl⟩
  refine hKq _ _ ⟨HH, ?_⟩
  clear hKq
  simp only [List.set_cons_zero, List.set_cons_succ]
  refine takeL (i := 7) (d := 9) (v := .pointer (some ⟨L.tb, k, none⟩)) rfl rfl (by kernel_rfl) (by kernel_rfl) (by kernel_rfl) (fun _ _ _ h => h) (Or.inl ⟨by rfl, by intro x hSx; go_simp; try (first | rfl | go_num)⟩) HH ?_
  simp only [List.set_cons_zero, List.set_cons_succ]
  refine takeL (i := 8) (d := 10) (v := .pointer (some ⟨L.tb, k + 1, none⟩)) rfl rfl (by kernel_rfl) (by kernel_rfl) (by kernel_rfl) (fun _ _ _ h => h) (Or.inl ⟨by rfl, by intro x hSx; go_simp; try (first | rfl | go_num)⟩) HH ?_
  simp only [List.set_cons_zero, List.set_cons_succ]
  refine wpAnyH_all (rs := [9]) (by kernel_rfl) (by simp) ?_
  intro i hi'
  rw [List.mem_singleton] at hi'
  subst hi'
  refine wpOp_step rfl fun Kq hKq => ?_
  rw [if_pos (by rfl)]
  rcases HX.out with ⟨rfl, hX⟩ | ⟨rfl, hX⟩
  · refine wp_tstoreO 82 (.tmp 10) (.tmp 8) rfl rfl L s X 1 (spotV s.spot) info54s rfl rfl (spotV_one _) (HT0.drewN m1) (by show 1 + 12 ≤ 44; omega) (by rw [hX]; rfl) (by rw [hX]) (by rw [hX]) (by rw [hX]) (by rw [hX]) ?_
    intro u' ht' cu' hcell
    refine hKq _ _ ⟨fun j v hv => ?_, ?_⟩
    · rw [hcell (26 + j) (Or.inr (by show 1 + 12 ≤ 26 + j; omega))]; exact HH j v hv
    clear hKq hcell
    refine wpAnyH_done (by kernel_rfl) ?_ _
    have HF : Hid (TAt u' L X ∧ Ch L.own w u') := ⟨ht', ⟨cu'.os, cu'.tape, cu'.output, cu'.size, cu'.block⟩⟩
    clear ht' cu' HT0 HH hX HX
    go_wp2_with fail
    go_end0
    exact ⟨rfl, HF.out.1, HF.out.2⟩
  · refine wp_tstoreO 82 (.tmp 10) (.tmp 8) rfl rfl L s X 14 (spotV s.spot) info54s rfl rfl (spotV_one _) (HT0.drewN m1) (by show 14 + 12 ≤ 44; omega) (by rw [hX]; rfl) (by rw [hX]) (by rw [hX]) (by rw [hX]) (by rw [hX]) ?_
    intro u' ht' cu' hcell
    refine hKq _ _ ⟨fun j v hv => ?_, ?_⟩
    · rw [hcell (26 + j) (Or.inr (by show 14 + 12 ≤ 26 + j; omega))]; exact HH j v hv
    clear hKq hcell
    refine wpAnyH_done (by kernel_rfl) ?_ _
    have HF : Hid (TAt u' L X ∧ Ch L.own w u') := ⟨ht', ⟨cu'.os, cu'.tape, cu'.output, cu'.size, cu'.block⟩⟩
    clear ht' cu' HT0 HH hX HX
    go_wp2_with fail
    go_end0
    exact ⟨rfl, HF.out.1, HF.out.2⟩
end Go.Proofs.YtheibfffilomcaaGreatDoor

/- The walk of restore. -/
namespace Go.Proofs.YtheibfffilomcaaGreatDoor
open Go.RowKit

/-- One cell of a block written, in a region that draws its order. -/
theorem wp_bsetO {o : Oper} {a : Act} {u : World} {K : Act → World → Prop} {Q : Exit → Act → World → Prop} (ty : TypeId) (hsz : (Tryz.prog.info? ty).map (·.size) = some 1) (x y : Operand) (ho : o.op = .store ty x y) (hd : o.dst = none) (g j : Nat) (L L' : List Value) (v : Value) (hj : j < L.length)
    (hx : a.eval x = .pointer (some ⟨g, j, none⟩)) (hy : a.eval y = v) (h1 : v.oneCell' = true) (hv : v.cells = #[v]) (hL : L.set j v = L') (t : TypeId) (hg : u.heap[g]? = some (.cells L.toArray t (0, 0)))
    (h : ∀ u', u'.heap[g]? = some (.cells L'.toArray t (0, 0)) → Ch (· = g) u u' → K a u') : Oper.wp Tryz.prog o a u K Q := by
  have hc : u.cell? ⟨g, j, none⟩ = some L[j] := by rw [cell_of_row _ _ _ _ _ _ hg]; simp [hj]
  have hf := frozen_of_row u g j _ t hg
  have hset : L.toArray.setIfInBounds j v = L'.toArray := by rw [← hL]; simp
  have R := h (u.setCell ⟨g, j, none⟩ v) (by rw [heap_setCell_same u g j _ t _ hg, hset]) ((Ch.refl _ _).set _ _ _ (fun _ => rfl))
  have hs : (sizeOf ty).run Tryz.prog u = .ok 1 u := by
    cases hq : Tryz.prog.info? ty with
    | none => simp [hq] at hsz
    | some i =>
      have : i.size = 1 := by simpa [hq] using hsz
      simp [sizeOf, typeInfo, hq, this]
  have hst : (storeVar ty ⟨g, j, none⟩ v).run Tryz.prog u = .ok () (u.setCell ⟨g, j, none⟩ v) := by
    have e0 : ∀ i, i < [v].length → i = 0 := fun i hi => by simpa using hi
    have h2 := run_storeCells_cells (P := Tryz.prog) g j [v] 0 u (fun i hi => by rw [e0 i hi, Nat.add_zero, hc]; rfl) (fun i hi => by rw [e0 i hi]; exact hf) (fun z hz => by rw [List.mem_singleton] at hz; rw [hz]; exact h1)
    simp only [storeVar, Sem.run_bind, hs, Result.andThen_ok, hv, Sem.run_ite]
    simpa [World.setCells] using h2
  unfold Oper.wp execOp
  simp only [ho, hx, hy, Instr.storeAt, Instr.sureAddr, Sem.run_bind, Sem.run_pure, Result.andThen_ok, hst]
  rw [Oper.upon_skip, hd]
  exact R
/-- A number read, in such a region. -/
theorem wp_load3L {o : Oper} {l : List Value} {ds : List Deferred} {u : World} {K : Act → World → Prop} {Q : Exit → Act → World → Prop} (d : Nat) (x : Operand) (ho : o.op = .load 3 x) (hd : o.dst = some d) (ad : Addr) (v : Int) (hx : Act.eval ⟨l.toArray, ds⟩ x = .pointer (some ad)) (hc : u.cell? ad = some (.int .i64 v))
    (h : K ⟨(l.set d (.int .i64 v)).toArray, ds⟩ u) : Oper.wp Tryz.prog o ⟨l.toArray, ds⟩ u K Q := by
  unfold Oper.wp execOp
  simp only [ho, hx]
  go_simp
  simpa [hd, Act.put] using h
/-- A block written whole. -/
theorem wp_blkset {ops : Array Oper} {rest : List Oper} {o : Oper} {a : Act} {Q : Exit → Act → World → Prop} (u : World) (hgd : o.guard = none) (ty : TypeId) (x y : Operand) (ho : o.op = .store ty x y) (g : Nat) (old new : List Value)
    (hx : a.eval x = .pointer (some ⟨g, 0, none⟩)) (arr : Array Value) (hy : a.eval y = .agg arr) (harr : arr = new.toArray) (t : TypeId) (hg : u.heap[g]? = some (.cells old.toArray t (0, 0))) (hl : old.length = new.length) (hsz : (Tryz.prog.info? ty).map (·.size) = some new.length) (h1 : ∀ v ∈ new, v.oneCell' = true)
    (h : ∀ u', u'.heap[g]? = some (.cells new.toArray t (0, 0)) → Ch (· = g) u u' → u'.heap.size = u.heap.size → wpList Tryz.prog ops Q rest (a.put o.dst undef) u') : wpList Tryz.prog ops Q (o :: rest) a u := by
  subst harr
  refine wpList_store_row hgd ty x y ho g new.toArray hx hy t old.toArray hg (by simpa using hsz) (by simp [hl]) (all_oneCell_toArray h1) ?_
  exact h _ (setRow_heap u g _ _ t _ hg) ⟨rfl, rfl, rfl, by simp, fun k _ hk => setRow_other u g k _ hk⟩ (by simp)

set_option maxRecDepth 100000 in
set_option maxHeartbeats 1000000 in
theorem restore_at (L : Lay) (s : TS) (p : SpotS) (k : Nat) (w : World) (ht : TAt w L s) (hlow : Calls Tryz.prog 166 #[.pointer (some ⟨L.tb, 0, none⟩)] w fun e w' => e = .returned (.pointer (some ⟨L.tb, k, none⟩)) ∧ ∃ m, w' = w.drewN m)
    (hrg : w.rangeAt L.tb (k + 1) [.int .i64 p.row, .int .i64 p.col, .bool p.waits, .bool p.pen.b, .bool p.pen.u, .bool p.pen.t, .int .i64 p.pen.f, .int .i64 p.pen.k, .int .i64 p.first, .int .i64 p.second, .int .i64 p.use, .bool p.origin]) :
    Calls Tryz.prog 176 #[.pointer (some ⟨L.tb, 0, none⟩)] w fun e w' => e = .returned (.tuple #[]) ∧ TAt w' L (s.setSpot { p with waits := p.waits && s.wrap, row := if p.origin then TS.bringI p.row s.top s.bottom else p.row }) ∧ Ch L.own w w' := by
  have hlt := ht.lt
  have HT : Hid (TAt w L s) := ht
  generalize hX : s.setSpot { p with waits := p.waits && s.wrap, row := if p.origin then TS.bringI p.row s.top s.bottom else p.row } = X
  have hne : L.tb ≠ w.heap.size := by omega
  have hnl : ∀ k, L.own k → k ≠ w.heap.size := fun k hk => by have := ht.own_lt hk; omega
  clear ht
  cases hpw : p.waits with
  | true =>
    cases hpo : p.origin with
    | true =>
      have e1 : X = s.setSpot ⟨TS.bringI p.row s.top s.bottom, p.col, s.wrap, p.pen, p.first, p.second, p.use, true⟩ := by rw [← hX, hpw, hpo]; simp
      have HX : Hid _ := e1
      rw [hpw, hpo] at hrg
      have HRG : Hid _ := hrg
      clear hX e1 hrg
      go_enter Tryz.func176, Tryz.ntmps176
      go_wp2_with (first | (go_at_call 166; refine hlow.mono ?_; rintro e w1 ⟨rfl, m1, rfl⟩) | (refine wpList_load_mid rfl 82 (.tmp 6) rfl L.tb (k + 1) rfl [.int .i64 p.row, .int .i64 p.col, .bool true, .bool p.pen.b, .bool p.pen.u, .bool p.pen.t, .int .i64 p.pen.f, .int .i64 p.pen.k, .int .i64 p.first, .int .i64 p.second, .int .i64 p.use, .bool true] _ HRG.out Tryz.underlying82 rfl info54s ?_) | (refine wp_blkset _ rfl 82 (.tmp 2) (.tmp 7) rfl w.heap.size [.int .i64 0, .int .i64 0, .bool false, .bool false, .bool false, .bool false, .int .i64 0, .int .i64 0, .int .i64 0, .int .i64 0, .int .i64 0, .bool false] [.int .i64 p.row, .int .i64 p.col, .bool true, .bool p.pen.b, .bool p.pen.u, .bool p.pen.t, .int .i64 p.pen.f, .int .i64 p.pen.k, .int .i64 p.first, .int .i64 p.second, .int .i64 p.use, .bool true] rfl _ rfl rfl 82 (heap_alloc_new (w.drewN m1) _) rfl info54s (by simp [Value.oneCell']) ?_))
      intro u2 g2 k2 z2
      have T2 : TAt u2 L s := (HT.out.kept (P := fun k => k = w.heap.size) (((Ch.refl _ _).drewN m1).alloc _ |>.trans k2) (fun k hk => hnl k hk))
      have C2' : Ch L.own w u2 := ((((Ch.refl (fun k => k = w.heap.size) w).drewN m1).alloc _).trans k2).mono (fun k hk e => by omega)
      have q2 : u2.cell? ⟨w.heap.size, 2, none⟩ = some (.bool true) := by rw [cell_of_row _ _ _ _ _ _ g2]; rfl
      have c40 := T2.c 40 _ rfl
      have HT2 : Hid _ := T2
      have HC2 : Hid _ := C2'
      have HG2 : Hid _ := g2
      clear T2 C2' g2 k2 HRG hlow
      go_wp2_with (refine wp_bset _ rfl 4 info4s (.tmp 17) _ rfl w.heap.size 2 [.int .i64 p.row, .int .i64 p.col, .bool true, .bool p.pen.b, .bool p.pen.u, .bool p.pen.t, .int .i64 p.pen.f, .int .i64 p.pen.k, .int .i64 p.first, .int .i64 p.second, .int .i64 p.use, .bool true] [.int .i64 p.row, .int .i64 p.col, .bool s.wrap, .bool p.pen.b, .bool p.pen.u, .bool p.pen.t, .int .i64 p.pen.f, .int .i64 p.pen.k, .int .i64 p.first, .int .i64 p.second, .int .i64 p.use, .bool true] (.bool s.wrap) (by show 2 < 12; omega) rfl rfl rfl rfl rfl 82 HG2.out ?_)
      intro u3 g3 k3 z3
      have T3 : TAt u3 L s := HT2.out.kept k3 (fun k hk => hnl k hk)
      have C3' : Ch L.own w u3 := HC2.out.trans' k3 (fun k hk e => by omega)
      have q7 : u3.cell? ⟨w.heap.size, 7, none⟩ = some (.int .i64 p.pen.k) := by rw [cell_of_row _ _ _ _ _ _ g3]; rfl
      have q11 : u3.cell? ⟨w.heap.size, 11, none⟩ = some (.bool true) := by rw [cell_of_row _ _ _ _ _ _ g3]; rfl
      have HT3 : Hid _ := T3
      have HC3 : Hid _ := C3'
      have HG3 : Hid _ := g3
      clear T3 C3' g3 k3 HT2 HC2 HG2 q2 c40
      go_wp2_with fail
      have HT0 : TAt ({ u3 with drawn := u3.drawn + 1 } : World) L s := HT3.out.sm ((Ch.refl _ _).drewN 1)
      have HH : World.cell? ({ u3 with drawn := u3.drawn + 1 } : World) ⟨L.tb, 38, none⟩ = some (.int .i64 s.top) ∧ World.cell? ({ u3 with drawn := u3.drawn + 1 } : World) ⟨L.tb, 39, none⟩ = some (.int .i64 s.bottom) := ⟨HT0.c 38 _ rfl, HT0.c 39 _ rfl⟩
      have HQ : World.cell? ({ u3 with drawn := u3.drawn + 1 } : World) ⟨w.heap.size, 0, none⟩ = some (.int .i64 p.row) := (cell_of_row u3 _ _ _ _ _ HG3.out).trans rfl
      refine wp_region_held (S := fun x => x.cell? ⟨L.tb, 38, none⟩ = some (.int .i64 s.top) ∧ x.cell? ⟨L.tb, 39, none⟩ = some (.int .i64 s.bottom)) mixedC ?_
      refine takeL (i := 0) (d := 20) (v := .pointer (some ⟨w.heap.size, 0, none⟩)) rfl rfl (by kernel_rfl) (by kernel_rfl) (by kernel_rfl) (fun _ _ _ h => h) (Or.inl ⟨by rfl, by intro x hSx; go_simp; try (first | rfl | go_num)⟩) HH ?_
      simp only [List.set_cons_zero, List.set_cons_succ]
      refine takeL (i := 2) (d := 22) (v := .pointer (some ⟨L.tb, 0, none⟩)) rfl rfl (by kernel_rfl) (by kernel_rfl) (by kernel_rfl) (fun _ _ _ h => h) (Or.inl ⟨by rfl, by intro x hSx; go_simp; try (first | rfl | go_num)⟩) HH ?_
      simp only [List.set_cons_zero, List.set_cons_succ]
      refine takeL (i := 3) (d := 23) (v := .pointer (some ⟨L.tb, 0, none⟩)) rfl rfl (by kernel_rfl) (by kernel_rfl) (by kernel_rfl) (fun _ _ _ h => h) (Or.inl ⟨by rfl, by intro x hSx; go_simp; try (first | rfl | go_num)⟩) HH ?_
      simp only [List.set_cons_zero, List.set_cons_succ]
      refine takeL (i := 4) (d := 24) (v := .pointer (some ⟨L.tb, 26, none⟩)) rfl rfl (by kernel_rfl) (by kernel_rfl) (by kernel_rfl) (fun _ _ _ h => h) (Or.inl ⟨by rfl, by intro x hSx; go_simp; try (first | rfl | go_num)⟩) HH ?_
      simp only [List.set_cons_zero, List.set_cons_succ]
      refine takeL (i := 5) (d := 25) (v := .pointer (some ⟨L.tb, 38, none⟩)) rfl rfl (by kernel_rfl) (by kernel_rfl) (by kernel_rfl) (fun _ _ _ h => h) (Or.inl ⟨by rfl, by intro x hSx; go_simp; try (first | rfl | go_num)⟩) HH ?_
      simp only [List.set_cons_zero, List.set_cons_succ]
      refine takeL (i := 6) (d := 26) (v := .int .i64 s.top) rfl rfl (by kernel_rfl) (by kernel_rfl) (by kernel_rfl) (fun _ _ _ h => h) (Or.inl ⟨by rfl, by intro x hSx; have hSc := hSx.1; go_simp; try (first | rfl | go_num)⟩) HH ?_
      simp only [List.set_cons_zero, List.set_cons_succ]
      refine takeL (i := 7) (d := 27) (v := .pointer (some ⟨L.tb, 0, none⟩)) rfl rfl (by kernel_rfl) (by kernel_rfl) (by kernel_rfl) (fun _ _ _ h => h) (Or.inl ⟨by rfl, by intro x hSx; go_simp; try (first | rfl | go_num)⟩) HH ?_
      simp only [List.set_cons_zero, List.set_cons_succ]
      refine takeL (i := 8) (d := 28) (v := .pointer (some ⟨L.tb, 0, none⟩)) rfl rfl (by kernel_rfl) (by kernel_rfl) (by kernel_rfl) (fun _ _ _ h => h) (Or.inl ⟨by rfl, by intro x hSx; go_simp; try (first | rfl | go_num)⟩) HH ?_
      simp only [List.set_cons_zero, List.set_cons_succ]
      refine takeL (i := 9) (d := 29) (v := .pointer (some ⟨L.tb, 26, none⟩)) rfl rfl (by kernel_rfl) (by kernel_rfl) (by kernel_rfl) (fun _ _ _ h => h) (Or.inl ⟨by rfl, by intro x hSx; go_simp; try (first | rfl | go_num)⟩) HH ?_
      simp only [List.set_cons_zero, List.set_cons_succ]
      refine takeL (i := 10) (d := 30) (v := .pointer (some ⟨L.tb, 39, none⟩)) rfl rfl (by kernel_rfl) (by kernel_rfl) (by kernel_rfl) (fun _ _ _ h => h) (Or.inl ⟨by rfl, by intro x hSx; go_simp; try (first | rfl | go_num)⟩) HH ?_
      simp only [List.set_cons_zero, List.set_cons_succ]
      refine takeL (i := 11) (d := 31) (v := .int .i64 s.bottom) rfl rfl (by kernel_rfl) (by kernel_rfl) (by kernel_rfl) (fun _ _ _ h => h) (Or.inl ⟨by rfl, by intro x hSx; have hSc := hSx.2; go_simp; try (first | rfl | go_num)⟩) HH ?_
      simp only [List.set_cons_zero, List.set_cons_succ]
      refine wpAnyH_all (rs := [1]) (by kernel_rfl) (by simp) ?_
      intro i hi'
      rw [List.mem_singleton] at hi'
      subst hi'
      refine wpOp_step rfl fun Kq hKq => ?_
      rw [if_pos (by rfl)]
      refine wp_load3L 21 (.tmp 20) rfl rfl _ p.row rfl HQ ?_
      refine hKq _ _ ⟨HH, ?_⟩
      clear hKq
      simp only [List.set_cons_zero, List.set_cons_succ]
      refine wpAnyH_all (rs := [12]) (by kernel_rfl) (by simp) ?_
      intro i hi'
      rw [List.mem_singleton] at hi'
      subst hi'
      refine wpOp_step rfl fun Kq hKq => ?_
      rw [if_pos (by rfl)]
      refine wp_callL (f := 171) 32 [.tmp 21, .tmp 26, .tmp 31] #[3, 3, 3] rfl rfl [.int .i64 p.row, .int .i64 s.top, .int .i64 s.bottom] rfl (by kernel_rfl) (fun v w' => v = .int .i64 (TS.bringI p.row s.top s.bottom) ∧ w' = _) ((bring_any _ _ _ _).mono fun e w' h => ⟨_, h.1, rfl, h.2⟩) ?_
      rintro v2 w9 ⟨rfl, rfl⟩
      refine hKq _ _ ⟨HH, ?_⟩
      clear hKq
      simp only [List.set_cons_zero, List.set_cons_succ]
      refine takeL (i := 13) (d := 33) (v := .pointer (some ⟨w.heap.size, 0, none⟩)) rfl rfl (by kernel_rfl) (by kernel_rfl) (by kernel_rfl) (fun _ _ _ h => h) (Or.inl ⟨by rfl, by intro x hSx; go_simp; try (first | rfl | go_num)⟩) HH ?_
      simp only [List.set_cons_zero, List.set_cons_succ]
      refine wpAnyH_all (rs := [14]) (by kernel_rfl) (by simp) ?_
      intro i hi'
      rw [List.mem_singleton] at hi'
      subst hi'
      refine wpOp_step rfl fun Kq hKq => ?_
      rw [if_pos (by rfl)]
      refine wp_bsetO 3 info3s (.tmp 33) (.tmp 32) rfl rfl w.heap.size 0 [.int .i64 p.row, .int .i64 p.col, .bool s.wrap, .bool p.pen.b, .bool p.pen.u, .bool p.pen.t, .int .i64 p.pen.f, .int .i64 p.pen.k, .int .i64 p.first, .int .i64 p.second, .int .i64 p.use, .bool true] [.int .i64 (TS.bringI p.row s.top s.bottom), .int .i64 p.col, .bool s.wrap, .bool p.pen.b, .bool p.pen.u, .bool p.pen.t, .int .i64 p.pen.f, .int .i64 p.pen.k, .int .i64 p.first, .int .i64 p.second, .int .i64 p.use, .bool true] (.int .i64 (TS.bringI p.row s.top s.bottom)) (by show 0 < 12; omega) rfl rfl rfl rfl rfl 82 HG3.out ?_
      intro u4 g4 k4'
      have k4 : Ch (· = w.heap.size) u3 u4 := ⟨k4'.os, k4'.tape, k4'.output, k4'.size, k4'.block⟩
      have T4 : TAt u4 L s := HT3.out.kept k4 (fun k hk => hnl k hk)
      refine hKq _ _ ⟨⟨T4.c 38 _ rfl, T4.c 39 _ rfl⟩, ?_⟩
      clear hKq
      have HT4 : Hid _ := T4
      have HC4 : Hid (Ch L.own w u4) := HC3.out.trans' k4 (fun k hk e => by omega)
      have HG4 : Hid _ := g4
      clear T4 k4 k4' g4 HT3 HC3 HG3 HT0 HH HQ q7 q11
      refine wpAnyH_done (by kernel_rfl) ?_ _
      go_wp2_with (first | (refine wpList_load_row rfl 82 (.tmp 2) rfl w.heap.size rfl 82 _ (0, 0) _ HG4.out Tryz.underlying82 rfl info54s ?_) | (refine wp_tstore rfl 82 (.tmp 38) (.tmp 35) rfl rfl L s X 26 [.int .i64 (TS.bringI p.row s.top s.bottom), .int .i64 p.col, .bool s.wrap, .bool p.pen.b, .bool p.pen.u, .bool p.pen.t, .int .i64 p.pen.f, .int .i64 p.pen.k, .int .i64 p.first, .int .i64 p.second, .int .i64 p.use, .bool true] info54s rfl rfl (by simp [Value.oneCell']) HT4.out (by show 26 + 12 ≤ 44; omega) (by rw [HX.out]; rfl) (by rw [HX.out]; rfl) (by rw [HX.out]; rfl) (by rw [HX.out]; rfl) (by rw [HX.out]; rfl) ?_; intro u9 t9 c9))
      go_end0
      exact ⟨rfl, t9, HC4.out.trans c9⟩
    | false =>
      have e1 : X = s.setSpot ⟨p.row, p.col, s.wrap, p.pen, p.first, p.second, p.use, false⟩ := by rw [← hX, hpw, hpo]; simp
      have HX : Hid _ := e1
      rw [hpw, hpo] at hrg
      have HRG : Hid _ := hrg
      clear hX e1 hrg
      go_enter Tryz.func176, Tryz.ntmps176
      go_wp2_with (first | (go_at_call 166; refine hlow.mono ?_; rintro e w1 ⟨rfl, m1, rfl⟩) | (refine wpList_load_mid rfl 82 (.tmp 6) rfl L.tb (k + 1) rfl [.int .i64 p.row, .int .i64 p.col, .bool true, .bool p.pen.b, .bool p.pen.u, .bool p.pen.t, .int .i64 p.pen.f, .int .i64 p.pen.k, .int .i64 p.first, .int .i64 p.second, .int .i64 p.use, .bool false] _ HRG.out Tryz.underlying82 rfl info54s ?_) | (refine wp_blkset _ rfl 82 (.tmp 2) (.tmp 7) rfl w.heap.size [.int .i64 0, .int .i64 0, .bool false, .bool false, .bool false, .bool false, .int .i64 0, .int .i64 0, .int .i64 0, .int .i64 0, .int .i64 0, .bool false] [.int .i64 p.row, .int .i64 p.col, .bool true, .bool p.pen.b, .bool p.pen.u, .bool p.pen.t, .int .i64 p.pen.f, .int .i64 p.pen.k, .int .i64 p.first, .int .i64 p.second, .int .i64 p.use, .bool false] rfl _ rfl rfl 82 (heap_alloc_new (w.drewN m1) _) rfl info54s (by simp [Value.oneCell']) ?_))
      intro u2 g2 k2 z2
      have T2 : TAt u2 L s := (HT.out.kept (P := fun k => k = w.heap.size) (((Ch.refl _ _).drewN m1).alloc _ |>.trans k2) (fun k hk => hnl k hk))
      have C2' : Ch L.own w u2 := ((((Ch.refl (fun k => k = w.heap.size) w).drewN m1).alloc _).trans k2).mono (fun k hk e => by omega)
      have q2 : u2.cell? ⟨w.heap.size, 2, none⟩ = some (.bool true) := by rw [cell_of_row _ _ _ _ _ _ g2]; rfl
      have c40 := T2.c 40 _ rfl
      have HT2 : Hid _ := T2
      have HC2 : Hid _ := C2'
      have HG2 : Hid _ := g2
      clear T2 C2' g2 k2 HRG hlow
      go_wp2_with (refine wp_bset _ rfl 4 info4s (.tmp 17) _ rfl w.heap.size 2 [.int .i64 p.row, .int .i64 p.col, .bool true, .bool p.pen.b, .bool p.pen.u, .bool p.pen.t, .int .i64 p.pen.f, .int .i64 p.pen.k, .int .i64 p.first, .int .i64 p.second, .int .i64 p.use, .bool false] [.int .i64 p.row, .int .i64 p.col, .bool s.wrap, .bool p.pen.b, .bool p.pen.u, .bool p.pen.t, .int .i64 p.pen.f, .int .i64 p.pen.k, .int .i64 p.first, .int .i64 p.second, .int .i64 p.use, .bool false] (.bool s.wrap) (by show 2 < 12; omega) rfl rfl rfl rfl rfl 82 HG2.out ?_)
      intro u3 g3 k3 z3
      have T3 : TAt u3 L s := HT2.out.kept k3 (fun k hk => hnl k hk)
      have C3' : Ch L.own w u3 := HC2.out.trans' k3 (fun k hk e => by omega)
      have q7 : u3.cell? ⟨w.heap.size, 7, none⟩ = some (.int .i64 p.pen.k) := by rw [cell_of_row _ _ _ _ _ _ g3]; rfl
      have q11 : u3.cell? ⟨w.heap.size, 11, none⟩ = some (.bool false) := by rw [cell_of_row _ _ _ _ _ _ g3]; rfl
      have HT3 : Hid _ := T3
      have HC3 : Hid _ := C3'
      have HG3 : Hid _ := g3
      clear T3 C3' g3 k3 HT2 HC2 HG2 q2 c40
      go_wp2_with (first | (refine wpList_load_row rfl 82 (.tmp 2) rfl w.heap.size rfl 82 _ (0, 0) _ HG3.out Tryz.underlying82 rfl info54s ?_) | (refine wp_tstore rfl 82 (.tmp 38) (.tmp 35) rfl rfl L s X 26 [.int .i64 p.row, .int .i64 p.col, .bool s.wrap, .bool p.pen.b, .bool p.pen.u, .bool p.pen.t, .int .i64 p.pen.f, .int .i64 p.pen.k, .int .i64 p.first, .int .i64 p.second, .int .i64 p.use, .bool false] info54s rfl rfl (by simp [Value.oneCell']) HT3.out (by show 26 + 12 ≤ 44; omega) (by rw [HX.out]; rfl) (by rw [HX.out]; rfl) (by rw [HX.out]; rfl) (by rw [HX.out]; rfl) (by rw [HX.out]; rfl) ?_; intro u9 t9 c9))
      go_end0
      exact ⟨rfl, t9, HC3.out.trans c9⟩
  | false =>
    cases hpo : p.origin with
    | true =>
      have e1 : X = s.setSpot ⟨TS.bringI p.row s.top s.bottom, p.col, false, p.pen, p.first, p.second, p.use, true⟩ := by rw [← hX, hpw, hpo]; simp
      have HX : Hid _ := e1
      rw [hpw, hpo] at hrg
      have HRG : Hid _ := hrg
      clear hX e1 hrg
      go_enter Tryz.func176, Tryz.ntmps176
      go_wp2_with (first | (go_at_call 166; refine hlow.mono ?_; rintro e w1 ⟨rfl, m1, rfl⟩) | (refine wpList_load_mid rfl 82 (.tmp 6) rfl L.tb (k + 1) rfl [.int .i64 p.row, .int .i64 p.col, .bool false, .bool p.pen.b, .bool p.pen.u, .bool p.pen.t, .int .i64 p.pen.f, .int .i64 p.pen.k, .int .i64 p.first, .int .i64 p.second, .int .i64 p.use, .bool true] _ HRG.out Tryz.underlying82 rfl info54s ?_) | (refine wp_blkset _ rfl 82 (.tmp 2) (.tmp 7) rfl w.heap.size [.int .i64 0, .int .i64 0, .bool false, .bool false, .bool false, .bool false, .int .i64 0, .int .i64 0, .int .i64 0, .int .i64 0, .int .i64 0, .bool false] [.int .i64 p.row, .int .i64 p.col, .bool false, .bool p.pen.b, .bool p.pen.u, .bool p.pen.t, .int .i64 p.pen.f, .int .i64 p.pen.k, .int .i64 p.first, .int .i64 p.second, .int .i64 p.use, .bool true] rfl _ rfl rfl 82 (heap_alloc_new (w.drewN m1) _) rfl info54s (by simp [Value.oneCell']) ?_))
      intro u2 g2 k2 z2
      have T2 : TAt u2 L s := (HT.out.kept (P := fun k => k = w.heap.size) (((Ch.refl _ _).drewN m1).alloc _ |>.trans k2) (fun k hk => hnl k hk))
      have C2' : Ch L.own w u2 := ((((Ch.refl (fun k => k = w.heap.size) w).drewN m1).alloc _).trans k2).mono (fun k hk e => by omega)
      have q2 : u2.cell? ⟨w.heap.size, 2, none⟩ = some (.bool false) := by rw [cell_of_row _ _ _ _ _ _ g2]; rfl
      have c40 := T2.c 40 _ rfl
      have HT2 : Hid _ := T2
      have HC2 : Hid _ := C2'
      have HG2 : Hid _ := g2
      clear T2 C2' g2 k2 HRG hlow
      go_wp2_with (refine wp_bset _ rfl 4 info4s (.tmp 17) _ rfl w.heap.size 2 [.int .i64 p.row, .int .i64 p.col, .bool false, .bool p.pen.b, .bool p.pen.u, .bool p.pen.t, .int .i64 p.pen.f, .int .i64 p.pen.k, .int .i64 p.first, .int .i64 p.second, .int .i64 p.use, .bool true] [.int .i64 p.row, .int .i64 p.col, .bool false, .bool p.pen.b, .bool p.pen.u, .bool p.pen.t, .int .i64 p.pen.f, .int .i64 p.pen.k, .int .i64 p.first, .int .i64 p.second, .int .i64 p.use, .bool true] (.bool false) (by show 2 < 12; omega) rfl rfl rfl rfl rfl 82 HG2.out ?_)
      intro u3 g3 k3 z3
      have T3 : TAt u3 L s := HT2.out.kept k3 (fun k hk => hnl k hk)
      have C3' : Ch L.own w u3 := HC2.out.trans' k3 (fun k hk e => by omega)
      have q7 : u3.cell? ⟨w.heap.size, 7, none⟩ = some (.int .i64 p.pen.k) := by rw [cell_of_row _ _ _ _ _ _ g3]; rfl
      have q11 : u3.cell? ⟨w.heap.size, 11, none⟩ = some (.bool true) := by rw [cell_of_row _ _ _ _ _ _ g3]; rfl
      have HT3 : Hid _ := T3
      have HC3 : Hid _ := C3'
      have HG3 : Hid _ := g3
      clear T3 C3' g3 k3 HT2 HC2 HG2 q2 c40
      go_wp2_with fail
      have HT0 : TAt ({ u3 with drawn := u3.drawn + 1 } : World) L s := HT3.out.sm ((Ch.refl _ _).drewN 1)
      have HH : World.cell? ({ u3 with drawn := u3.drawn + 1 } : World) ⟨L.tb, 38, none⟩ = some (.int .i64 s.top) ∧ World.cell? ({ u3 with drawn := u3.drawn + 1 } : World) ⟨L.tb, 39, none⟩ = some (.int .i64 s.bottom) := ⟨HT0.c 38 _ rfl, HT0.c 39 _ rfl⟩
      have HQ : World.cell? ({ u3 with drawn := u3.drawn + 1 } : World) ⟨w.heap.size, 0, none⟩ = some (.int .i64 p.row) := (cell_of_row u3 _ _ _ _ _ HG3.out).trans rfl
      refine wp_region_held (S := fun x => x.cell? ⟨L.tb, 38, none⟩ = some (.int .i64 s.top) ∧ x.cell? ⟨L.tb, 39, none⟩ = some (.int .i64 s.bottom)) mixedC ?_
      refine takeL (i := 0) (d := 20) (v := .pointer (some ⟨w.heap.size, 0, none⟩)) rfl rfl (by kernel_rfl) (by kernel_rfl) (by kernel_rfl) (fun _ _ _ h => h) (Or.inl ⟨by rfl, by intro x hSx; go_simp; try (first | rfl | go_num)⟩) HH ?_
      simp only [List.set_cons_zero, List.set_cons_succ]
      refine takeL (i := 2) (d := 22) (v := .pointer (some ⟨L.tb, 0, none⟩)) rfl rfl (by kernel_rfl) (by kernel_rfl) (by kernel_rfl) (fun _ _ _ h => h) (Or.inl ⟨by rfl, by intro x hSx; go_simp; try (first | rfl | go_num)⟩) HH ?_
      simp only [List.set_cons_zero, List.set_cons_succ]
      refine takeL (i := 3) (d := 23) (v := .pointer (some ⟨L.tb, 0, none⟩)) rfl rfl (by kernel_rfl) (by kernel_rfl) (by kernel_rfl) (fun _ _ _ h => h) (Or.inl ⟨by rfl, by intro x hSx; go_simp; try (first | rfl | go_num)⟩) HH ?_
      simp only [List.set_cons_zero, List.set_cons_succ]
      refine takeL (i := 4) (d := 24) (v := .pointer (some ⟨L.tb, 26, none⟩)) rfl rfl (by kernel_rfl) (by kernel_rfl) (by kernel_rfl) (fun _ _ _ h => h) (Or.inl ⟨by rfl, by intro x hSx; go_simp; try (first | rfl | go_num)⟩) HH ?_
      simp only [List.set_cons_zero, List.set_cons_succ]
      refine takeL (i := 5) (d := 25) (v := .pointer (some ⟨L.tb, 38, none⟩)) rfl rfl (by kernel_rfl) (by kernel_rfl) (by kernel_rfl) (fun _ _ _ h => h) (Or.inl ⟨by rfl, by intro x hSx; go_simp; try (first | rfl | go_num)⟩) HH ?_
      simp only [List.set_cons_zero, List.set_cons_succ]
      refine takeL (i := 6) (d := 26) (v := .int .i64 s.top) rfl rfl (by kernel_rfl) (by kernel_rfl) (by kernel_rfl) (fun _ _ _ h => h) (Or.inl ⟨by rfl, by intro x hSx; have hSc := hSx.1; go_simp; try (first | rfl | go_num)⟩) HH ?_
      simp only [List.set_cons_zero, List.set_cons_succ]
      refine takeL (i := 7) (d := 27) (v := .pointer (some ⟨L.tb, 0, none⟩)) rfl rfl (by kernel_rfl) (by kernel_rfl) (by kernel_rfl) (fun _ _ _ h => h) (Or.inl ⟨by rfl, by intro x hSx; go_simp; try (first | rfl | go_num)⟩) HH ?_
      simp only [List.set_cons_zero, List.set_cons_succ]
      refine takeL (i := 8) (d := 28) (v := .pointer (some ⟨L.tb, 0, none⟩)) rfl rfl (by kernel_rfl) (by kernel_rfl) (by kernel_rfl) (fun _ _ _ h => h) (Or.inl ⟨by rfl, by intro x hSx; go_simp; try (first | rfl | go_num)⟩) HH ?_
      simp only [List.set_cons_zero, List.set_cons_succ]
      refine takeL (i := 9) (d := 29) (v := .pointer (some ⟨L.tb, 26, none⟩)) rfl rfl (by kernel_rfl) (by kernel_rfl) (by kernel_rfl) (fun _ _ _ h => h) (Or.inl ⟨by rfl, by intro x hSx; go_simp; try (first | rfl | go_num)⟩) HH ?_
      simp only [List.set_cons_zero, List.set_cons_succ]
      refine takeL (i := 10) (d := 30) (v := .pointer (some ⟨L.tb, 39, none⟩)) rfl rfl (by kernel_rfl) (by kernel_rfl) (by kernel_rfl) (fun _ _ _ h => h) (Or.inl ⟨by rfl, by intro x hSx; go_simp; try (first | rfl | go_num)⟩) HH ?_
      simp only [List.set_cons_zero, List.set_cons_succ]
      refine takeL (i := 11) (d := 31) (v := .int .i64 s.bottom) rfl rfl (by kernel_rfl) (by kernel_rfl) (by kernel_rfl) (fun _ _ _ h => h) (Or.inl ⟨by rfl, by intro x hSx; have hSc := hSx.2; go_simp; try (first | rfl | go_num)⟩) HH ?_
      simp only [List.set_cons_zero, List.set_cons_succ]
      refine wpAnyH_all (rs := [1]) (by kernel_rfl) (by simp) ?_
      intro i hi'
      rw [List.mem_singleton] at hi'
      subst hi'
      refine wpOp_step rfl fun Kq hKq => ?_
      rw [if_pos (by rfl)]
      refine wp_load3L 21 (.tmp 20) rfl rfl _ p.row rfl HQ ?_
      refine hKq _ _ ⟨HH, ?_⟩
      clear hKq
      simp only [List.set_cons_zero, List.set_cons_succ]
      refine wpAnyH_all (rs := [12]) (by kernel_rfl) (by simp) ?_
      intro i hi'
      rw [List.mem_singleton] at hi'
      subst hi'
      refine wpOp_step rfl fun Kq hKq => ?_
      rw [if_pos (by rfl)]
      refine wp_callL (f := 171) 32 [.tmp 21, .tmp 26, .tmp 31] #[3, 3, 3] rfl rfl [.int .i64 p.row, .int .i64 s.top, .int .i64 s.bottom] rfl (by kernel_rfl) (fun v w' => v = .int .i64 (TS.bringI p.row s.top s.bottom) ∧ w' = _) ((bring_any _ _ _ _).mono fun e w' h => ⟨_, h.1, rfl, h.2⟩) ?_
      rintro v2 w9 ⟨rfl, rfl⟩
      refine hKq _ _ ⟨HH, ?_⟩
      clear hKq
      simp only [List.set_cons_zero, List.set_cons_succ]
      refine takeL (i := 13) (d := 33) (v := .pointer (some ⟨w.heap.size, 0, none⟩)) rfl rfl (by kernel_rfl) (by kernel_rfl) (by kernel_rfl) (fun _ _ _ h => h) (Or.inl ⟨by rfl, by intro x hSx; go_simp; try (first | rfl | go_num)⟩) HH ?_
      simp only [List.set_cons_zero, List.set_cons_succ]
      refine wpAnyH_all (rs := [14]) (by kernel_rfl) (by simp) ?_
      intro i hi'
      rw [List.mem_singleton] at hi'
      subst hi'
      refine wpOp_step rfl fun Kq hKq => ?_
      rw [if_pos (by rfl)]
      refine wp_bsetO 3 info3s (.tmp 33) (.tmp 32) rfl rfl w.heap.size 0 [.int .i64 p.row, .int .i64 p.col, .bool false, .bool p.pen.b, .bool p.pen.u, .bool p.pen.t, .int .i64 p.pen.f, .int .i64 p.pen.k, .int .i64 p.first, .int .i64 p.second, .int .i64 p.use, .bool true] [.int .i64 (TS.bringI p.row s.top s.bottom), .int .i64 p.col, .bool false, .bool p.pen.b, .bool p.pen.u, .bool p.pen.t, .int .i64 p.pen.f, .int .i64 p.pen.k, .int .i64 p.first, .int .i64 p.second, .int .i64 p.use, .bool true] (.int .i64 (TS.bringI p.row s.top s.bottom)) (by show 0 < 12; omega) rfl rfl rfl rfl rfl 82 HG3.out ?_
      intro u4 g4 k4'
      have k4 : Ch (· = w.heap.size) u3 u4 := ⟨k4'.os, k4'.tape, k4'.output, k4'.size, k4'.block⟩
      have T4 : TAt u4 L s := HT3.out.kept k4 (fun k hk => hnl k hk)
      refine hKq _ _ ⟨⟨T4.c 38 _ rfl, T4.c 39 _ rfl⟩, ?_⟩
      clear hKq
      have HT4 : Hid _ := T4
      have HC4 : Hid (Ch L.own w u4) := HC3.out.trans' k4 (fun k hk e => by omega)
      have HG4 : Hid _ := g4
      clear T4 k4 k4' g4 HT3 HC3 HG3 HT0 HH HQ q7 q11
      refine wpAnyH_done (by kernel_rfl) ?_ _
      go_wp2_with (first | (refine wpList_load_row rfl 82 (.tmp 2) rfl w.heap.size rfl 82 _ (0, 0) _ HG4.out Tryz.underlying82 rfl info54s ?_) | (refine wp_tstore rfl 82 (.tmp 38) (.tmp 35) rfl rfl L s X 26 [.int .i64 (TS.bringI p.row s.top s.bottom), .int .i64 p.col, .bool false, .bool p.pen.b, .bool p.pen.u, .bool p.pen.t, .int .i64 p.pen.f, .int .i64 p.pen.k, .int .i64 p.first, .int .i64 p.second, .int .i64 p.use, .bool true] info54s rfl rfl (by simp [Value.oneCell']) HT4.out (by show 26 + 12 ≤ 44; omega) (by rw [HX.out]; rfl) (by rw [HX.out]; rfl) (by rw [HX.out]; rfl) (by rw [HX.out]; rfl) (by rw [HX.out]; rfl) ?_; intro u9 t9 c9))
      go_end0
      exact ⟨rfl, t9, HC4.out.trans c9⟩
    | false =>
      have e1 : X = s.setSpot ⟨p.row, p.col, false, p.pen, p.first, p.second, p.use, false⟩ := by rw [← hX, hpw, hpo]; simp
      have HX : Hid _ := e1
      rw [hpw, hpo] at hrg
      have HRG : Hid _ := hrg
      clear hX e1 hrg
      go_enter Tryz.func176, Tryz.ntmps176
      go_wp2_with (first | (go_at_call 166; refine hlow.mono ?_; rintro e w1 ⟨rfl, m1, rfl⟩) | (refine wpList_load_mid rfl 82 (.tmp 6) rfl L.tb (k + 1) rfl [.int .i64 p.row, .int .i64 p.col, .bool false, .bool p.pen.b, .bool p.pen.u, .bool p.pen.t, .int .i64 p.pen.f, .int .i64 p.pen.k, .int .i64 p.first, .int .i64 p.second, .int .i64 p.use, .bool false] _ HRG.out Tryz.underlying82 rfl info54s ?_) | (refine wp_blkset _ rfl 82 (.tmp 2) (.tmp 7) rfl w.heap.size [.int .i64 0, .int .i64 0, .bool false, .bool false, .bool false, .bool false, .int .i64 0, .int .i64 0, .int .i64 0, .int .i64 0, .int .i64 0, .bool false] [.int .i64 p.row, .int .i64 p.col, .bool false, .bool p.pen.b, .bool p.pen.u, .bool p.pen.t, .int .i64 p.pen.f, .int .i64 p.pen.k, .int .i64 p.first, .int .i64 p.second, .int .i64 p.use, .bool false] rfl _ rfl rfl 82 (heap_alloc_new (w.drewN m1) _) rfl info54s (by simp [Value.oneCell']) ?_))
      intro u2 g2 k2 z2
      have T2 : TAt u2 L s := (HT.out.kept (P := fun k => k = w.heap.size) (((Ch.refl _ _).drewN m1).alloc _ |>.trans k2) (fun k hk => hnl k hk))
      have C2' : Ch L.own w u2 := ((((Ch.refl (fun k => k = w.heap.size) w).drewN m1).alloc _).trans k2).mono (fun k hk e => by omega)
      have q2 : u2.cell? ⟨w.heap.size, 2, none⟩ = some (.bool false) := by rw [cell_of_row _ _ _ _ _ _ g2]; rfl
      have c40 := T2.c 40 _ rfl
      have HT2 : Hid _ := T2
      have HC2 : Hid _ := C2'
      have HG2 : Hid _ := g2
      clear T2 C2' g2 k2 HRG hlow
      go_wp2_with (refine wp_bset _ rfl 4 info4s (.tmp 17) _ rfl w.heap.size 2 [.int .i64 p.row, .int .i64 p.col, .bool false, .bool p.pen.b, .bool p.pen.u, .bool p.pen.t, .int .i64 p.pen.f, .int .i64 p.pen.k, .int .i64 p.first, .int .i64 p.second, .int .i64 p.use, .bool false] [.int .i64 p.row, .int .i64 p.col, .bool false, .bool p.pen.b, .bool p.pen.u, .bool p.pen.t, .int .i64 p.pen.f, .int .i64 p.pen.k, .int .i64 p.first, .int .i64 p.second, .int .i64 p.use, .bool false] (.bool false) (by show 2 < 12; omega) rfl rfl rfl rfl rfl 82 HG2.out ?_)
      intro u3 g3 k3 z3
      have T3 : TAt u3 L s := HT2.out.kept k3 (fun k hk => hnl k hk)
      have C3' : Ch L.own w u3 := HC2.out.trans' k3 (fun k hk e => by omega)
      have q7 : u3.cell? ⟨w.heap.size, 7, none⟩ = some (.int .i64 p.pen.k) := by rw [cell_of_row _ _ _ _ _ _ g3]; rfl
      have q11 : u3.cell? ⟨w.heap.size, 11, none⟩ = some (.bool false) := by rw [cell_of_row _ _ _ _ _ _ g3]; rfl
      have HT3 : Hid _ := T3
      have HC3 : Hid _ := C3'
      have HG3 : Hid _ := g3
      clear T3 C3' g3 k3 HT2 HC2 HG2 q2 c40
      go_wp2_with (first | (refine wpList_load_row rfl 82 (.tmp 2) rfl w.heap.size rfl 82 _ (0, 0) _ HG3.out Tryz.underlying82 rfl info54s ?_) | (refine wp_tstore rfl 82 (.tmp 38) (.tmp 35) rfl rfl L s X 26 [.int .i64 p.row, .int .i64 p.col, .bool false, .bool p.pen.b, .bool p.pen.u, .bool p.pen.t, .int .i64 p.pen.f, .int .i64 p.pen.k, .int .i64 p.first, .int .i64 p.second, .int .i64 p.use, .bool false] info54s rfl rfl (by simp [Value.oneCell']) HT3.out (by show 26 + 12 ≤ 44; omega) (by rw [HX.out]; rfl) (by rw [HX.out]; rfl) (by rw [HX.out]; rfl) (by rw [HX.out]; rfl) (by rw [HX.out]; rfl) ?_; intro u9 t9 c9))
      go_end0
      exact ⟨rfl, t9, HC3.out.trans c9⟩

theorem restore_any (L : Lay) (s : TS) (w : World) (ht : TAt w L s) (hi : s.Inv) : Calls Tryz.prog 176 #[.pointer (some ⟨L.tb, 0, none⟩)] w fun e w' => e = .returned (.tuple #[]) ∧ TAt w' L s.restore ∧ Ch L.own w w' := by
  have l1 := shown_any L s w ht hi
  unfold TS.restore TS.saved
  by_cases h : s.shown = 0
  · rw [if_pos h] at l1 ⊢
    exact restore_at L s s.v0 0 w ht l1 (ht.range' 1 _ rfl)
  · rw [if_neg h] at l1 ⊢
    exact restore_at L s s.v1 13 w ht l1 (ht.range' 14 _ rfl)
end Go.Proofs.YtheibfffilomcaaGreatDoor

/- The walk of terminal.New. -/
namespace Go.Proofs.YtheibfffilomcaaGreatDoor
open Go.RowKit

theorem TAt.setTab {w w' : World} {L : Lay} {s : TS} (h : TAt w L s) {tabs : List Bool} (hb : w'.heap[L.gb]? = some (.cells (tabs.map Value.bool).toArray 4 (0, 0))) (c : Ch (· = L.gb) w w') : TAt w' L { s with tabs := tabs } :=
  ⟨(c.block _ h.lt h.sep.tg).trans h.blk, h.h0.kept c h.sep.s0g (fun _ hg e => h.sep.gx (e ▸ hg)), h.h1.kept c h.sep.s1g (fun _ hg e => h.sep.gy (e ▸ hg)), hb, h.sep⟩
def nilSl : Value := .slice none 0 0
/-- The terminal's own block, half made. -/
def newV (rows cols gb : Nat) (x y : Value) : List Value :=
  [x, .int .i64 0, .int .i64 0, .bool false, .bool false, .bool false, .bool false, .int .i64 0, .int .i64 0, .int .i64 0, .int .i64 0, .int .i64 0, .bool false,
   y, .int .i64 0, .int .i64 0, .bool false, .bool false, .bool false, .bool false, .int .i64 0, .int .i64 0, .int .i64 0, .int .i64 0, .int .i64 0, .bool false,
   .int .i64 0, .int .i64 0, .bool false, .bool false, .bool false, .bool false, .int .i64 0, .int .i64 0, .int .i64 0, .int .i64 0, .int .i64 0, .bool false,
   .int .i64 0, .int .i64 ((rows : Int) - 1), .bool true, .bool false, .int .i64 0, .slice (some ⟨gb, 0, none⟩) cols cols]
def tabsTo (cols n : Nat) : List Bool := (List.range cols).map fun c => decide (0 < c ∧ c % 8 = 0 ∧ c < n)
def bare0 (rows cols : Nat) (t : List Bool) : TS :=
  ⟨rows, cols, List.replicate rows (blankR cols), spot0, List.replicate rows (blankR cols), spot0, 0, 0, false, pen0, 0, 0, 0, false, 0, (rows : Int) - 1, true, false, 0, t⟩

structure StA (w : World) (rows cols : Nat) (x : World) : Prop where
  t : x.heap[w.heap.size + 1]? = some (.cells (newV rows cols w.heap.size nilSl nilSl).toArray 164 (0, 0))
  g : x.heap[w.heap.size]? = some (.cells (List.replicate cols (Value.bool false)).toArray 4 (0, 0))
  b : Below w.heap.size w x
structure StB (w : World) (rows cols sb : Nat) (gs : List Nat) (x : World) : Prop where
  t : x.heap[w.heap.size + 1]? = some (.cells (newV rows cols w.heap.size (.slice (some ⟨sb, 0, none⟩) rows rows) nilSl).toArray 164 (0, 0))
  g : x.heap[w.heap.size]? = some (.cells (List.replicate cols (Value.bool false)).toArray 4 (0, 0))
  b : Below w.heap.size w x
  s : ShAt x sb gs cols (List.replicate rows (blankR cols))
  h : w.heap.size + 1 < sb ∧ ∀ k ∈ gs, w.heap.size + 1 < k

theorem tabs8 {cols : Nat} : (tabsTo cols 8).map Value.bool = List.replicate cols (Value.bool false) := by
  apply List.ext_getElem?
  intro i
  simp only [tabsTo, List.map_map, List.getElem?_map, List.getElem?_replicate]
  by_cases h : i < cols
  · rw [List.getElem?_range h, if_pos h]
    simp only [Option.map_some, Function.comp]
    have : decide (0 < i ∧ i % 8 = 0 ∧ i < 8) = false := by simp; omega
    rw [this]
  · rw [List.getElem?_eq_none (by simp; omega), if_neg h]; rfl
theorem tabs00 {cols : Nat} : tabsTo cols 8 = tabsTo cols 0 := by
  unfold tabsTo
  apply List.map_congr_left
  intro a ha
  rw [decide_eq_decide]; omega
theorem tabs_step (cols k : Nat) (hk : k < cols) : (tabsTo cols k).set k (decide (0 < k ∧ k % 8 = 0)) = tabsTo cols (k + 1) := by
  apply List.ext_getElem?
  intro i
  rw [List.getElem?_set]
  simp only [tabsTo, List.length_map, List.length_range]
  by_cases hi : k = i
  · rw [if_pos hi, if_pos hk, List.getElem?_map, List.getElem?_range (by omega)]
    simp only [Option.map_some]
    have : decide (0 < i ∧ i % 8 = 0 ∧ i < k + 1) = decide (0 < k ∧ k % 8 = 0) := by rw [decide_eq_decide]; omega
    rw [this]
  · rw [if_neg hi, List.getElem?_map, List.getElem?_map]
    by_cases h : i < cols
    · rw [List.getElem?_range h]
      simp only [Option.map_some]
      have : decide (0 < i ∧ i % 8 = 0 ∧ i < k) = decide (0 < i ∧ i % 8 = 0 ∧ i < k + 1) := by rw [decide_eq_decide]; omega
      rw [this]
    · rw [List.getElem?_eq_none (by simp; omega)]; rfl
theorem tabs_end (cols n : Nat) (h : cols ≤ n) : tabsTo cols n = (List.range cols).map fun c => decide (0 < c ∧ c % 8 = 0) := by
  unfold tabsTo
  apply List.map_congr_left
  intro a ha
  rw [List.mem_range] at ha
  rw [decide_eq_decide]; omega
theorem tabsTo_length (cols n : Nat) : (tabsTo cols n).length = cols := by simp [tabsTo]

theorem isTab_any (k : Nat) (hk : k ≤ 100) (w : World) : Calls Tryz.prog 161 #[.int .i64 (k : Int)] w fun e w' => e = .returned (.bool (decide (0 < k ∧ k % 8 = 0))) ∧ w' = w := by
  by_cases h0 : 0 < k
  · have h1 : (0 : Int) < (k : Int) := by omega
    have e8 : ((k : Int) % 8 == 0) = decide (0 < k ∧ k % 8 = 0) := by
      by_cases h : k % 8 = 0
      · rw [decide_eq_true ⟨h0, h⟩]; simp; omega
      · rw [decide_eq_false (fun e => h e.2)]; simp; omega
    have E8 : Hid _ := e8
    clear e8
    go_enter Tryz.func161, Tryz.ntmps161
    go_wp2_with fail
    go_ret
    exact ⟨by rw [← E8.out]; rfl, rfl⟩
  · have h0 : k = 0 := by omega
    subst h0
    go_enter Tryz.func161, Tryz.ntmps161
    go_wp2_with fail
    go_ret
    exact ⟨rfl, rfl⟩

set_option maxRecDepth 100000 in
set_option maxHeartbeats 2000000 in
theorem tnew_any (rows cols : Nat) (w : World) (hr : 1 ≤ rows ∧ rows ≤ 12) (hc : 1 ≤ cols ∧ cols ≤ 40) : Calls Tryz.prog 92 #[.int .i64 (rows : Int), .int .i64 (cols : Int)] w fun e w' => ∃ L : Lay, e = .returned (.pointer (some ⟨L.tb, 0, none⟩)) ∧ TAt w' L (TS.fresh rows cols) ∧ (∀ k, L.own k → w.heap.size ≤ k) ∧ Below w.heap.size w w' := by
  have v1 : IntKind.i64.wrap ((rows : Int) - 1) = (rows : Int) - 1 := IntWalk.i64_in _ (by omega)
  go_enter Tryz.func92, Tryz.ntmps92
  go_wp2_with (refine wp_mkone _ rfl 162 4 _ 1 Tryz.underlying162 info4z (by omega) rfl (.tmp 11) (.tmp 11) rfl cols rfl rfl (by omega) ?_; intro w1 h1 b1 z1)
  have RA : StA w rows cols (w1.alloc (.cells (newV rows cols w.heap.size nilSl nilSl).toArray 164)) := ⟨by rw [← z1]; exact heap_alloc_new _ _, (Below.heap_alloc _ _ _ (by omega)).trans h1, b1.alloc b1.size _⟩
  have HRA : Hid _ := RA
  clear RA h1 b1
  go_loopw [15] (fun i wr => (i = .int .i64 0 ∧ StA w rows cols wr) ∨ (i = .int .i64 1 ∧ ∃ sb gs, StB w rows cols sb gs wr) ∨ (i = .int .i64 2 ∧ ∃ L : Lay, L.tb = w.heap.size + 1 ∧ L.gb = w.heap.size ∧ TAt wr L (bare0 rows cols (tabsTo cols 8)) ∧ (∀ k, L.own k → w.heap.size ≤ k) ∧ Below w.heap.size w wr)) (fun i _ => 2 - (intOf i).toNat)
  case atStart => exact Or.inl ⟨rfl, HRA.out⟩
  case round =>
    clear HRA z1 w1
    rcases hrel with ⟨rfl, R⟩ | ⟨rfl, sb0, gs0, R⟩ | ⟨rfl, L, hLt, hLg, R, hO, hB⟩
    · skip
      have HT0 : World.heap ({ wr with drawn := wr.drawn + 1 } : World) = wr.heap := rfl
      go_wp2_with fail
      refine wp_region_held (S := fun _ => True) mixedC ?_
      refine takeL (i := 0) (d := 18) (v := .pointer (some ⟨w.heap.size + 1, 0, none⟩)) rfl rfl (by kernel_rfl) (by kernel_rfl) (by kernel_rfl) (fun _ _ _ h => h) (Or.inl ⟨by rfl, by intro x hSx; go_simp; try (first | rfl | go_num)⟩) trivial ?_
      simp only [List.set_cons_zero, List.set_cons_succ]
      refine takeL (i := 1) (d := 19) (v := .int .i64 0) rfl rfl (by kernel_rfl) (by kernel_rfl) (by kernel_rfl) (fun _ _ _ h => h) (Or.inl ⟨by rfl, by intro x hSx; go_simp; try (first | rfl | go_num)⟩) trivial ?_
      simp only [List.set_cons_zero, List.set_cons_succ]
      refine takeL (i := 2) (d := 20) (v := .int .i64 (rows : Int)) rfl rfl (by kernel_rfl) (by kernel_rfl) (by kernel_rfl) (fun _ _ _ h => h) (Or.inl ⟨by rfl, by intro x hSx; go_simp; try (first | rfl | go_num)⟩) trivial ?_
      simp only [List.set_cons_zero, List.set_cons_succ]
      refine takeL (i := 3) (d := 21) (v := .int .i64 (cols : Int)) rfl rfl (by kernel_rfl) (by kernel_rfl) (by kernel_rfl) (fun _ _ _ h => h) (Or.inl ⟨by rfl, by intro x hSx; go_simp; try (first | rfl | go_num)⟩) trivial ?_
      simp only [List.set_cons_zero, List.set_cons_succ]
      refine takeL (i := 5) (d := 23) (v := .pointer (some ⟨w.heap.size + 1, 0, none⟩)) rfl rfl (by kernel_rfl) (by kernel_rfl) (by kernel_rfl) (fun _ _ _ h => h) (Or.inl ⟨by rfl, by intro x hSx; go_simp; try (first | rfl | go_num)⟩) trivial ?_
      simp only [List.set_cons_zero, List.set_cons_succ]
      refine takeL (i := 6) (d := 24) (v := .pointer (some ⟨w.heap.size + 1, 0, none⟩)) rfl rfl (by kernel_rfl) (by kernel_rfl) (by kernel_rfl) (fun _ _ _ h => h) (Or.inl ⟨by rfl, by intro x hSx; go_simp; try (first | rfl | go_num)⟩) trivial ?_
      simp only [List.set_cons_zero, List.set_cons_succ]
      refine wpAnyH_all (rs := [4]) (by kernel_rfl) (by simp) ?_
      intro i hi'
      rw [List.mem_singleton] at hi'
      subst hi'
      refine wpOp_step rfl fun Kq hKq => ?_
      rw [if_pos (by rfl)]
      refine wp_callL (f := 160) 22 [.tmp 20, .tmp 21] #[3, 3] rfl rfl [.int .i64 (rows : Int), .int .i64 (cols : Int)] rfl (by kernel_rfl) (fun v w' => ∃ sb gs, v = .slice (some ⟨sb, 0, none⟩) rows rows ∧ wr.heap.size ≤ sb ∧ (∀ g ∈ gs, wr.heap.size ≤ g) ∧ ShAt w' sb gs cols (List.replicate rows (blankR cols)) ∧ Below wr.heap.size wr w') ((newsheet_any rows cols _ (by omega) (by omega)).mono fun e w' ⟨sb, gs, q1, q2, q3, q4, q5⟩ => ⟨_, q1, sb, gs, rfl, q2, q3, q4, ⟨q5.os, q5.tape, q5.output, q5.size, q5.block⟩⟩) ?_
      rintro v2 u2 ⟨sb, gs, rfl, hsb, hgs, hsh, bel⟩
      refine hKq _ _ ⟨trivial, ?_⟩
      clear hKq
      simp only [List.set_cons_zero, List.set_cons_succ]
      refine takeL (i := 7) (d := 25) (v := .pointer (some ⟨w.heap.size + 1, 0, none⟩)) rfl rfl (by kernel_rfl) (by kernel_rfl) (by kernel_rfl) (fun _ _ _ h => h) (Or.inl ⟨by rfl, by intro x hSx; go_simp; try (first | rfl | go_num)⟩) trivial ?_
      simp only [List.set_cons_zero, List.set_cons_succ]
      refine takeL (i := 8) (d := 26) (v := .pointer (some ⟨w.heap.size + 1, 0, none⟩)) rfl rfl (by kernel_rfl) (by kernel_rfl) (by kernel_rfl) (fun _ _ _ h => h) (Or.inl ⟨by rfl, by intro x hSx; go_simp; try (first | rfl | go_num)⟩) trivial ?_
      simp only [List.set_cons_zero, List.set_cons_succ]
      refine wpAnyH_all (rs := [9]) (by kernel_rfl) (by simp) ?_
      intro i hi'
      rw [List.mem_singleton] at hi'
      subst hi'
      refine wpOp_step rfl fun Kq hKq => ?_
      rw [if_pos (by rfl)]
      refine wp_bsetO 158 (by kernel_rfl) (.tmp 26) (.tmp 22) rfl rfl (w.heap.size + 1) 0 (newV rows cols w.heap.size nilSl nilSl) (newV rows cols w.heap.size (.slice (some ⟨sb, 0, none⟩) rows rows) nilSl) (.slice (some ⟨sb, 0, none⟩) rows rows) (by show 0 < 44; omega) rfl rfl rfl rfl rfl 164 ((bel.block _ (blk_lt R.t)).trans R.t) ?_
      intro u3 g3 k3
      refine hKq _ _ ⟨trivial, ?_⟩
      clear hKq
      refine wpAnyH_done (by kernel_rfl) ?_ _
      have hsz := blk_lt R.t
      have F : StB w rows cols sb gs u3 := ⟨g3, (k3.block _ (Nat.lt_of_lt_of_le (by omega) bel.size) (by omega)).trans ((bel.block _ (by omega)).trans R.g), R.b.trans ⟨k3.os.trans bel.os, k3.tape.trans bel.tape, k3.output.trans bel.output, Nat.le_trans bel.size k3.size, fun k hk => (k3.block k (Nat.lt_of_lt_of_le (by omega) bel.size) (by omega)).trans (bel.block k (by omega))⟩, hsh.kept k3 (by omega) (fun g hg => by have := hgs g hg; omega), by omega, fun g hg => by have := hgs g hg; omega⟩
      clear g3 k3 hsh bel R HT0
      go_wp2_with fail
      go_roundw
      case rel => exact Or.inr (Or.inl ⟨by go_num, sb, gs, F⟩)
      case measure => simp [intOf]
    · skip
      have HT0 : World.heap ({ wr with drawn := wr.drawn + 1 } : World) = wr.heap := rfl
      go_wp2_with fail
      refine wp_region_held (S := fun _ => True) mixedC ?_
      refine takeL (i := 0) (d := 18) (v := .pointer (some ⟨w.heap.size + 1, 0, none⟩)) rfl rfl (by kernel_rfl) (by kernel_rfl) (by kernel_rfl) (fun _ _ _ h => h) (Or.inl ⟨by rfl, by intro x hSx; go_simp; try (first | rfl | go_num)⟩) trivial ?_
      simp only [List.set_cons_zero, List.set_cons_succ]
      refine takeL (i := 1) (d := 19) (v := .int .i64 1) rfl rfl (by kernel_rfl) (by kernel_rfl) (by kernel_rfl) (fun _ _ _ h => h) (Or.inl ⟨by rfl, by intro x hSx; go_simp; try (first | rfl | go_num)⟩) trivial ?_
      simp only [List.set_cons_zero, List.set_cons_succ]
      refine takeL (i := 2) (d := 20) (v := .int .i64 (rows : Int)) rfl rfl (by kernel_rfl) (by kernel_rfl) (by kernel_rfl) (fun _ _ _ h => h) (Or.inl ⟨by rfl, by intro x hSx; go_simp; try (first | rfl | go_num)⟩) trivial ?_
      simp only [List.set_cons_zero, List.set_cons_succ]
      refine takeL (i := 3) (d := 21) (v := .int .i64 (cols : Int)) rfl rfl (by kernel_rfl) (by kernel_rfl) (by kernel_rfl) (fun _ _ _ h => h) (Or.inl ⟨by rfl, by intro x hSx; go_simp; try (first | rfl | go_num)⟩) trivial ?_
      simp only [List.set_cons_zero, List.set_cons_succ]
      refine takeL (i := 5) (d := 23) (v := .pointer (some ⟨w.heap.size + 1, 0, none⟩)) rfl rfl (by kernel_rfl) (by kernel_rfl) (by kernel_rfl) (fun _ _ _ h => h) (Or.inl ⟨by rfl, by intro x hSx; go_simp; try (first | rfl | go_num)⟩) trivial ?_
      simp only [List.set_cons_zero, List.set_cons_succ]
      refine takeL (i := 6) (d := 24) (v := .pointer (some ⟨w.heap.size + 1, 0, none⟩)) rfl rfl (by kernel_rfl) (by kernel_rfl) (by kernel_rfl) (fun _ _ _ h => h) (Or.inl ⟨by rfl, by intro x hSx; go_simp; try (first | rfl | go_num)⟩) trivial ?_
      simp only [List.set_cons_zero, List.set_cons_succ]
      refine wpAnyH_all (rs := [4]) (by kernel_rfl) (by simp) ?_
      intro i hi'
      rw [List.mem_singleton] at hi'
      subst hi'
      refine wpOp_step rfl fun Kq hKq => ?_
      rw [if_pos (by rfl)]
      refine wp_callL (f := 160) 22 [.tmp 20, .tmp 21] #[3, 3] rfl rfl [.int .i64 (rows : Int), .int .i64 (cols : Int)] rfl (by kernel_rfl) (fun v w' => ∃ sb gs, v = .slice (some ⟨sb, 0, none⟩) rows rows ∧ wr.heap.size ≤ sb ∧ (∀ g ∈ gs, wr.heap.size ≤ g) ∧ ShAt w' sb gs cols (List.replicate rows (blankR cols)) ∧ Below wr.heap.size wr w') ((newsheet_any rows cols _ (by omega) (by omega)).mono fun e w' ⟨sb, gs, q1, q2, q3, q4, q5⟩ => ⟨_, q1, sb, gs, rfl, q2, q3, q4, ⟨q5.os, q5.tape, q5.output, q5.size, q5.block⟩⟩) ?_
      rintro v2 u2 ⟨sb, gs, rfl, hsb, hgs, hsh, bel⟩
      refine hKq _ _ ⟨trivial, ?_⟩
      clear hKq
      simp only [List.set_cons_zero, List.set_cons_succ]
      refine takeL (i := 7) (d := 25) (v := .pointer (some ⟨w.heap.size + 1, 13, none⟩)) rfl rfl (by kernel_rfl) (by kernel_rfl) (by kernel_rfl) (fun _ _ _ h => h) (Or.inl ⟨by rfl, by intro x hSx; go_simp; try (first | rfl | go_num)⟩) trivial ?_
      simp only [List.set_cons_zero, List.set_cons_succ]
      refine takeL (i := 8) (d := 26) (v := .pointer (some ⟨w.heap.size + 1, 13, none⟩)) rfl rfl (by kernel_rfl) (by kernel_rfl) (by kernel_rfl) (fun _ _ _ h => h) (Or.inl ⟨by rfl, by intro x hSx; go_simp; try (first | rfl | go_num)⟩) trivial ?_
      simp only [List.set_cons_zero, List.set_cons_succ]
      refine wpAnyH_all (rs := [9]) (by kernel_rfl) (by simp) ?_
      intro i hi'
      rw [List.mem_singleton] at hi'
      subst hi'
      refine wpOp_step rfl fun Kq hKq => ?_
      rw [if_pos (by rfl)]
      refine wp_bsetO 158 (by kernel_rfl) (.tmp 26) (.tmp 22) rfl rfl (w.heap.size + 1) 13 (newV rows cols w.heap.size (.slice (some ⟨sb0, 0, none⟩) rows rows) nilSl) (newV rows cols w.heap.size (.slice (some ⟨sb0, 0, none⟩) rows rows) (.slice (some ⟨sb, 0, none⟩) rows rows)) (.slice (some ⟨sb, 0, none⟩) rows rows) (by show 13 < 44; omega) rfl rfl rfl rfl rfl 164 ((bel.block _ (blk_lt R.t)).trans R.t) ?_
      intro u3 g3 k3
      refine hKq _ _ ⟨trivial, ?_⟩
      clear hKq
      refine wpAnyH_done (by kernel_rfl) ?_ _
      have hsz := blk_lt R.t
      have hs0 := R.s.lt
      have hg0 : ∀ g ∈ gs0, g < wr.heap.size := fun g hg => R.s.glt hg
      have hh0 := R.h
      have sh0 : ShAt u3 sb0 gs0 cols (List.replicate rows (blankR cols)) := R.s.kept (P := fun k => k = w.heap.size + 1) ⟨k3.os.trans bel.os, k3.tape.trans bel.tape, k3.output.trans bel.output, Nat.le_trans bel.size k3.size, fun k hk hn => (k3.block k (Nat.lt_of_lt_of_le hk bel.size) hn).trans (bel.block k hk)⟩ (by omega) (fun g hg => by have := hh0.2 g hg; omega)
      have sep : Lay.Sep ⟨w.heap.size + 1, sb0, sb, w.heap.size, gs0, gs⟩ := ⟨by show w.heap.size + 1 ≠ sb0; omega, by show w.heap.size + 1 ≠ sb; omega, by show w.heap.size + 1 ≠ w.heap.size; omega, by show sb0 ≠ sb; omega, by show sb0 ≠ w.heap.size; omega, by show sb ≠ w.heap.size; omega, fun (hm : w.heap.size + 1 ∈ gs0) => by have := hh0.2 _ hm; omega, fun (hm : w.heap.size + 1 ∈ gs) => by have := hgs _ hm; omega, fun (hm : w.heap.size ∈ gs0) => by have := hh0.2 _ hm; omega, fun (hm : w.heap.size ∈ gs) => by have := hgs _ hm; omega, fun (hm : sb0 ∈ gs) => by have := hgs _ hm; omega, fun (hm : sb ∈ gs0) => by have := hg0 _ hm; omega, fun g hg hm => by have := hgs _ hm; have := hg0 _ hg; omega⟩
      have F : TAt u3 ⟨w.heap.size + 1, sb0, sb, w.heap.size, gs0, gs⟩ (bare0 rows cols (tabsTo cols 8)) := ⟨g3, sh0, hsh.kept k3 (by omega) (fun g hg => by have := hgs g hg; omega), by show u3.heap[w.heap.size]? = some (Obj.cells ((tabsTo cols 8).map Value.bool).toArray 4 (0, 0)); rw [tabs8]; exact (k3.block _ (Nat.lt_of_lt_of_le (by omega) bel.size) (by omega)).trans ((bel.block _ (by omega)).trans R.g), sep⟩
      have FB : Below w.heap.size w u3 := R.b.trans ⟨k3.os.trans bel.os, k3.tape.trans bel.tape, k3.output.trans bel.output, Nat.le_trans bel.size k3.size, fun k hk => (k3.block k (Nat.lt_of_lt_of_le (by omega) bel.size) (by omega)).trans (bel.block k (by omega))⟩
      have FO : ∀ k, Lay.own ⟨w.heap.size + 1, sb0, sb, w.heap.size, gs0, gs⟩ k → w.heap.size ≤ k := fun k hk => by
        rcases hk with e | e | e | e | e | e
        · rw [e]; show w.heap.size ≤ w.heap.size + 1; omega
        · rw [e]; show w.heap.size ≤ sb0; omega
        · rw [e]; show w.heap.size ≤ sb; omega
        · rw [e]; exact Nat.le_refl _
        · have := hh0.2 k e; omega
        · have := hgs k e; omega
      clear g3 k3 hsh bel R HT0
      go_wp2_with fail
      go_roundw
      case rel => exact Or.inr (Or.inr ⟨by go_num, ⟨w.heap.size + 1, sb0, sb, w.heap.size, gs0, gs⟩, rfl, rfl, F, FO, FB⟩)
      case measure => simp [intOf]
    · have HR : Hid _ := R
      have HB : Hid _ := hB
      clear R hB
      have c43 := HR.out.c 43 _ rfl
      rw [hLt] at c43
      have c43' : wr.cell? ⟨w.heap.size + 1, 43, none⟩ = some (.slice (some ⟨L.gb, 0, none⟩) cols cols) := c43
      clear c43
      go_wp2_with fail
      go_loopw [33] (fun i wr => ∃ k : Nat, i = .int .i64 (k : Int) ∧ k ≤ cols ∧ TAt wr L (bare0 rows cols (tabsTo cols k)) ∧ Below w.heap.size w wr) (fun i _ => cols - (intOf i).toNat)
      case atStart => exact ⟨0, rfl, by omega, by rw [← tabs00]; exact HR.out, HB.out⟩
      case round =>
        clear HR HB c43'
        obtain ⟨k, rfl, hk, R, hB⟩ := hrel
        by_cases hlt : k < cols
        · have ik : (k : Int) < (cols : Int) := by omega
          have v1 : IntKind.i64.wrap ((k : Int) + 1) = (k : Int) + 1 := IntWalk.i64_in _ (by omega)
          have e8 := tabs_step cols k hlt
          have HS : Hid (((tabsTo cols k).map Value.bool).set k (.bool (decide (0 < k ∧ k % 8 = 0))) = (tabsTo cols (k + 1)).map Value.bool) := by rw [← e8, List.map_set]; exact rfl
          have HR : Hid (TAt ({ wr with drawn := wr.drawn + 1 } : World) L (bare0 rows cols (tabsTo cols k))) := R.sm ((Ch.refl _ _).drewN 1)
          have HB : Hid (Below w.heap.size w wr) := hB
          have HH : World.cell? ({ wr with drawn := wr.drawn + 1 } : World) ⟨w.heap.size + 1, 43, none⟩ = some (.slice (some ⟨w.heap.size, 0, none⟩) cols cols) := by
            have := HR.out.c 43 _ rfl
            rw [hLt, hLg] at this
            exact this
          clear R hB e8
          go_wp2_with fail
          refine wp_region_held (S := fun x => x.cell? ⟨w.heap.size + 1, 43, none⟩ = some (.slice (some ⟨w.heap.size, 0, none⟩) cols cols)) mixedC ?_
          refine takeL (i := 0) (d := 36) (v := .pointer (some ⟨w.heap.size + 1, 0, none⟩)) rfl rfl (by kernel_rfl) (by kernel_rfl) (by kernel_rfl) (fun _ _ _ h => h) (Or.inl ⟨by rfl, by intro x hSx; go_simp; try (first | rfl | go_num)⟩) HH ?_
          simp only [List.set_cons_zero, List.set_cons_succ]
          refine takeL (i := 1) (d := 37) (v := .pointer (some ⟨w.heap.size + 1, 0, none⟩)) rfl rfl (by kernel_rfl) (by kernel_rfl) (by kernel_rfl) (fun _ _ _ h => h) (Or.inl ⟨by rfl, by intro x hSx; go_simp; try (first | rfl | go_num)⟩) HH ?_
          simp only [List.set_cons_zero, List.set_cons_succ]
          refine takeL (i := 2) (d := 38) (v := .pointer (some ⟨w.heap.size + 1, 43, none⟩)) rfl rfl (by kernel_rfl) (by kernel_rfl) (by kernel_rfl) (fun _ _ _ h => h) (Or.inl ⟨by rfl, by intro x hSx; go_simp; try (first | rfl | go_num)⟩) HH ?_
          simp only [List.set_cons_zero, List.set_cons_succ]
          refine takeL (i := 3) (d := 39) (v := .slice (some ⟨w.heap.size, 0, none⟩) cols cols) rfl rfl (by kernel_rfl) (by kernel_rfl) (by kernel_rfl) (fun _ _ _ h => h) (Or.inl ⟨by rfl, by intro x hSx; go_simp; try (first | rfl | go_num)⟩) HH ?_
          simp only [List.set_cons_zero, List.set_cons_succ]
          refine takeL (i := 4) (d := 40) (v := .int .i64 (k : Int)) rfl rfl (by kernel_rfl) (by kernel_rfl) (by kernel_rfl) (fun _ _ _ h => h) (Or.inl ⟨by rfl, by intro x hSx; go_simp; try (first | rfl | go_num)⟩) HH ?_
          simp only [List.set_cons_zero, List.set_cons_succ]
          refine takeL (i := 5) (d := 41) (v := .int .i64 (k : Int)) rfl rfl (by kernel_rfl) (by kernel_rfl) (by kernel_rfl) (fun _ _ _ h => h) (Or.inl ⟨by rfl, by intro x hSx; go_simp; try (first | rfl | go_num)⟩) HH ?_
          simp only [List.set_cons_zero, List.set_cons_succ]
          refine wpAnyH_all (rs := [6]) (by kernel_rfl) (by simp) ?_
          intro i hi'
          rw [List.mem_singleton] at hi'
          subst hi'
          refine wpOp_step rfl fun Kq hKq => ?_
          rw [if_pos (by rfl)]
          refine wp_callL (f := 161) 42 [.tmp 41] #[3] rfl rfl [.int .i64 (k : Int)] rfl (by kernel_rfl) (fun v w' => v = .bool (decide (0 < k ∧ k % 8 = 0)) ∧ w' = ({ wr with drawn := wr.drawn + 1 } : World)) ((isTab_any k (by omega) _).mono fun e w' h => ⟨_, h.1, rfl, h.2⟩) ?_
          rintro v2 w2 ⟨rfl, rfl⟩
          refine hKq _ _ ⟨HH, ?_⟩
          clear hKq
          simp only [List.set_cons_zero, List.set_cons_succ]
          refine takeL (i := 7) (d := 43) (v := .pointer (some ⟨w.heap.size, k, none⟩)) rfl rfl (by kernel_rfl) (by kernel_rfl) (by kernel_rfl) (fun _ _ _ h => h) (Or.inl ⟨by rfl, by intro x hSx; go_simp; try (first | rfl | go_num)⟩) HH ?_
          simp only [List.set_cons_zero, List.set_cons_succ]
          refine wpAnyH_all (rs := [8]) (by kernel_rfl) (by simp) ?_
          intro i hi'
          rw [List.mem_singleton] at hi'
          subst hi'
          refine wpOp_step rfl fun Kq hKq => ?_
          rw [if_pos (by rfl)]
          refine wp_bsetO 4 info4s (.tmp 43) (.tmp 42) rfl rfl w.heap.size k ((tabsTo cols k).map Value.bool) _ (.bool (decide (0 < k ∧ k % 8 = 0))) (by rw [List.length_map, tabsTo_length]; exact hlt) rfl rfl rfl rfl HS.out 4 (by rw [← hLg]; exact HR.out.tab) ?_
          intro u5 g5 k5
          have F : TAt u5 L (bare0 rows cols (tabsTo cols (k + 1))) := HR.out.setTab (by rw [hLg]; exact g5) (by rw [hLg]; exact k5)
          have FB : Below w.heap.size w u5 := HB.out.trans (Ch.below (⟨k5.os, k5.tape, k5.output, k5.size, k5.block⟩ : Ch (· = w.heap.size) wr u5) HB.out.size (fun k hk e => by omega))
          refine hKq _ _ ⟨by have := F.c 43 _ rfl; rw [hLt, hLg] at this; exact this, ?_⟩
          clear hKq
          refine wpAnyH_done (by kernel_rfl) ?_ _
          clear g5 k5 HR HB HS HH
          go_wp2_with fail
          go_roundw
          case rel => exact ⟨k + 1, by go_num, by omega, F, FB⟩
          case measure => simp [intOf]; omega
        · have dq : ¬ (k : Int) < (cols : Int) := by omega
          have ef := tabs_end cols k (by omega)
          have F : TAt wr L (TS.fresh rows cols) := by
            rw [ef] at R; exact R
          have HF : Hid _ := F
          have HB : Hid _ := hB
          clear R hB F ef
          go_wp2_with fail
          go_ret
          exact ⟨L, by rw [hLt]; rfl, HF.out, hO, HB.out⟩
end Go.Proofs.YtheibfffilomcaaGreatDoor

/- The walks of bareEscape and escape. -/
namespace Go.Proofs.YtheibfffilomcaaGreatDoor
open Go.RowKit

/-- The terminal is as s' behind it; what it does not own is kept; what it owns more is new. -/
def Next (L : Lay) (w w' : World) (s' : TS) : Prop := ∃ L' : Lay, L'.tb = L.tb ∧ TAt w' L' s' ∧ Ch L.own w w' ∧ ∀ k, L'.own k → L.own k ∨ w.heap.size ≤ k
theorem Next.of {L : Lay} {w w' : World} {s' : TS} (h : TAt w' L s') (c : Ch L.own w w') : Next L w w' s' := ⟨L, rfl, h, c, fun _ hk => .inl hk⟩
theorem Next.ahead {L : Lay} {w u w' : World} {s' : TS} (c : Ch L.own w u) (h : Next L u w' s') : Next L w w' s' := by
  obtain ⟨L', h1, h2, h3, h4⟩ := h
  exact ⟨L', h1, h2, c.trans h3, fun k hk => (h4 k hk).imp id (fun q => Nat.le_trans c.size q)⟩
theorem TS.Inv.fresh {rows cols : Nat} (hr : 1 ≤ rows ∧ rows ≤ 12) (hc : 1 ≤ cols ∧ cols ≤ 40) : (TS.fresh rows cols).Inv :=
  ⟨hr.1, hr.2, hc.1, hc.2, Int.le_refl _, by show (0 : Int) < (rows : Int); omega, Int.le_refl _, by show (0 : Int) < (cols : Int); omega, Int.le_refl _, by show (0 : Int) ≤ (rows : Int) - 1; omega, by show (rows : Int) - 1 < (rows : Int); omega, .inl rfl,
   by simp [TS.fresh], by simp [TS.fresh], by simp [TS.fresh], ⟨Int.le_refl _, by show (0 : Int) < (rows : Int); omega⟩, ⟨Int.le_refl _, by show (0 : Int) < (cols : Int); omega⟩, ⟨Int.le_refl _, by show (0 : Int) < (rows : Int); omega⟩, ⟨Int.le_refl _, by show (0 : Int) < (cols : Int); omega⟩⟩
theorem termV_one (L : Lay) (s : TS) : ∀ v ∈ termV L s, v.oneCell' = true := by
  intro v hv
  have : (termV L s).all (·.oneCell') = true := rfl
  exact List.all_eq_true.1 this v hv
theorem info117 : (Tryz.prog.info? 164).map (·.size) = some 44 := by kernel_rfl

theorem size_any (L : Lay) (s : TS) (w : World) (ht : TAt w L s) (hi : s.Inv) : Calls Tryz.prog 147 #[.pointer (some ⟨L.tb, 0, none⟩)] w fun e w' => e = .returned (.tuple #[.int .i64 (s.rows : Int), .int .i64 (s.cols : Int)]) ∧ w' = w := by
  have l1 := lastRow_any L s w ht hi
  have l2 := lastCol_any L s w ht hi
  have hr2 := hi.r2
  have hc2 := hi.c2
  have v1 : IntKind.i64.wrap ((s.rows : Int) - 1 + 1) = (s.rows : Int) := by rw [Int.sub_add_cancel]; exact IntWalk.i64_in _ (by omega)
  have v2 : IntKind.i64.wrap ((s.cols : Int) - 1 + 1) = (s.cols : Int) := by rw [Int.sub_add_cancel]; exact IntWalk.i64_in _ (by omega)
  have v3 : IntKind.i64.wrap (s.rows : Int) = (s.rows : Int) := IntWalk.i64_in _ (by omega)
  have v4 : IntKind.i64.wrap (s.cols : Int) = (s.cols : Int) := IntWalk.i64_in _ (by omega)
  clear ht hi
  go_enter Tryz.func147, Tryz.ntmps147
  go_wp2_with (first | (go_at_call 154; refine l1.mono ?_; rintro e w1 ⟨rfl, hw1⟩; have hw2 := hw1.symm; subst hw2) | (go_at_call 105; refine l2.mono ?_; rintro e w1 ⟨rfl, hw1⟩; have hw2 := hw1.symm; subst hw2))
  go_ret2
  exact ⟨rfl, rfl⟩

set_option maxRecDepth 100000 in
set_option maxHeartbeats 1000000 in
theorem bare_any (L : Lay) (s : TS) (w : World) (ht : TAt w L s) (hi : s.Inv) (f : Int) : Calls Tryz.prog 108 #[.pointer (some ⟨L.tb, 0, none⟩), .int .i64 f] w fun e w' => e = .returned (.tuple #[]) ∧ Next L w w' (s.bare f) := by
  have c28 := ht.c 28 _ rfl
  have f28 := ht.f 28
  have HT : Hid (TAt w L s) := ht
  have hu := ht.set (s' := s.unwait) 28 (.bool false) rfl rfl rfl rfl rfl
  have HU : Hid _ := hu
  have HI : Hid s.Inv := hi
  have CU : Hid (Ch L.own w (w.setCell ⟨L.tb, 28, none⟩ (.bool false))) := (Ch.refl _ _).tset _ _
  have hr2 := hi.r2
  have hr1 := hi.r1
  have hc1 := hi.c1
  have hc2 := hi.c2
  have hlt := ht.lt
  clear ht hu hi
  rcases (show f = 55 ∨ f = 56 ∨ f = 68 ∨ f = 77 ∨ f = 69 ∨ f = 72 ∨ f = 99 ∨ ¬ (f = 55 ∨ f = 56 ∨ f = 68 ∨ f = 77 ∨ f = 69 ∨ f = 72 ∨ f = 99) by omega) with rfl | rfl | rfl | rfl | rfl | rfl | rfl | hf
  · rw [show s.bare 55 = s.save from rfl]
    go_enter Tryz.func108, Tryz.ntmps108
    go_wp2_with (go_at_call 175; refine (save_any L s w HT.out HI.out).mono ?_; rintro e w1 ⟨rfl, h1, c1⟩)
    go_end0
    exact ⟨rfl, Next.of h1 (c1)⟩
  · rw [show s.bare 56 = s.restore from rfl]
    go_enter Tryz.func108, Tryz.ntmps108
    go_wp2_with (go_at_call 176; refine (restore_any L s w HT.out HI.out).mono ?_; rintro e w1 ⟨rfl, h1, c1⟩)
    go_end0
    exact ⟨rfl, Next.of h1 (c1)⟩
  · rw [show s.bare 68 = s.unwait.down from rfl]
    go_enter Tryz.func108, Tryz.ntmps108
    go_wp2_with (go_at_call 107; refine (tdown_any L s.unwait _ HU.out HI.out.unwait).mono ?_; rintro e w1 ⟨rfl, h1, c1⟩)
    go_end0
    exact ⟨rfl, Next.of h1 (CU.out.trans c1)⟩
  · rw [show s.bare 77 = s.unwait.up from rfl]
    go_enter Tryz.func108, Tryz.ntmps108
    go_wp2_with (go_at_call 177; refine (tup_any L s.unwait _ HU.out HI.out.unwait).mono ?_; rintro e w1 ⟨rfl, h1, c1⟩)
    go_end0
    exact ⟨rfl, Next.of h1 (CU.out.trans c1)⟩
  · rw [show s.bare 69 = s.unwait.nextLine from rfl]
    go_enter Tryz.func108, Tryz.ntmps108
    go_wp2_with (go_at_call 99; refine (nextLine_any L s.unwait _ HU.out HI.out.unwait).mono ?_; rintro e w1 ⟨rfl, h1, c1⟩)
    go_end0
    exact ⟨rfl, Next.of h1 (CU.out.trans c1)⟩
  · rw [show s.bare 72 = { s with tabs := s.tabs.set s.col.toNat true } from rfl]
    obtain ⟨cc, hcc⟩ : ∃ cc : Nat, s.col = (cc : Int) := ⟨s.col.toNat, by have := HI.out.col0; omega⟩
    have hcl : cc < s.cols := by have := HI.out.col1; omega
    have hcl' : (cc : Int) < (s.cols : Int) := by omega
    rw [show s.col.toNat = cc by rw [hcc]; rfl]
    have htl : cc < s.tabs.length := by rw [HI.out.lt]; exact hcl
    have HT0 : TAt ({ w with drawn := w.drawn + 1 } : World) L s := HT.out.sm ((Ch.refl _ _).drewN 1)
    have HH : World.cell? ({ w with drawn := w.drawn + 1 } : World) ⟨L.tb, 43, none⟩ = some (.slice (some ⟨L.gb, 0, none⟩) s.cols s.cols) ∧ World.cell? ({ w with drawn := w.drawn + 1 } : World) ⟨L.tb, 27, none⟩ = some (.int .i64 (cc : Int)) := ⟨HT0.c 43 _ rfl, by rw [← hcc]; exact HT0.c 27 _ rfl⟩
    go_enter Tryz.func108, Tryz.ntmps108
    go_wp2_with fail
    refine wp_region_held (S := fun x => x.cell? ⟨L.tb, 43, none⟩ = some (.slice (some ⟨L.gb, 0, none⟩) s.cols s.cols) ∧ x.cell? ⟨L.tb, 27, none⟩ = some (.int .i64 (cc : Int))) mixedC ?_
    refine takeL (i := 0) (d := 42) (v := .pointer (some ⟨L.tb, 0, none⟩)) rfl rfl (by kernel_rfl) (by kernel_rfl) (by kernel_rfl) (fun _ _ _ h => h) (Or.inl ⟨by rfl, by intro x hSx; go_simp; try (first | rfl | go_num)⟩) HH ?_
    simp only [List.set_cons_zero, List.set_cons_succ]
    refine takeL (i := 1) (d := 43) (v := .pointer (some ⟨L.tb, 0, none⟩)) rfl rfl (by kernel_rfl) (by kernel_rfl) (by kernel_rfl) (fun _ _ _ h => h) (Or.inl ⟨by rfl, by intro x hSx; go_simp; try (first | rfl | go_num)⟩) HH ?_
    simp only [List.set_cons_zero, List.set_cons_succ]
    refine takeL (i := 2) (d := 44) (v := .pointer (some ⟨L.tb, 43, none⟩)) rfl rfl (by kernel_rfl) (by kernel_rfl) (by kernel_rfl) (fun _ _ _ h => h) (Or.inl ⟨by rfl, by intro x hSx; go_simp; try (first | rfl | go_num)⟩) HH ?_
    simp only [List.set_cons_zero, List.set_cons_succ]
    refine takeL (i := 3) (d := 45) (v := .slice (some ⟨L.gb, 0, none⟩) s.cols s.cols) rfl rfl (by kernel_rfl) (by kernel_rfl) (by kernel_rfl) (fun _ _ _ h => h) (Or.inl ⟨by rfl, by intro x hSx; have hSc := hSx.1; go_simp; try (first | rfl | go_num)⟩) HH ?_
    simp only [List.set_cons_zero, List.set_cons_succ]
    refine takeL (i := 4) (d := 46) (v := .pointer (some ⟨L.tb, 0, none⟩)) rfl rfl (by kernel_rfl) (by kernel_rfl) (by kernel_rfl) (fun _ _ _ h => h) (Or.inl ⟨by rfl, by intro x hSx; go_simp; try (first | rfl | go_num)⟩) HH ?_
    simp only [List.set_cons_zero, List.set_cons_succ]
    refine takeL (i := 5) (d := 47) (v := .pointer (some ⟨L.tb, 0, none⟩)) rfl rfl (by kernel_rfl) (by kernel_rfl) (by kernel_rfl) (fun _ _ _ h => h) (Or.inl ⟨by rfl, by intro x hSx; go_simp; try (first | rfl | go_num)⟩) HH ?_
    simp only [List.set_cons_zero, List.set_cons_succ]
    refine takeL (i := 6) (d := 48) (v := .pointer (some ⟨L.tb, 26, none⟩)) rfl rfl (by kernel_rfl) (by kernel_rfl) (by kernel_rfl) (fun _ _ _ h => h) (Or.inl ⟨by rfl, by intro x hSx; go_simp; try (first | rfl | go_num)⟩) HH ?_
    simp only [List.set_cons_zero, List.set_cons_succ]
    refine takeL (i := 7) (d := 49) (v := .pointer (some ⟨L.tb, 26, none⟩)) rfl rfl (by kernel_rfl) (by kernel_rfl) (by kernel_rfl) (fun _ _ _ h => h) (Or.inl ⟨by rfl, by intro x hSx; go_simp; try (first | rfl | go_num)⟩) HH ?_
    simp only [List.set_cons_zero, List.set_cons_succ]
    refine takeL (i := 8) (d := 50) (v := .pointer (some ⟨L.tb, 27, none⟩)) rfl rfl (by kernel_rfl) (by kernel_rfl) (by kernel_rfl) (fun _ _ _ h => h) (Or.inl ⟨by rfl, by intro x hSx; go_simp; try (first | rfl | go_num)⟩) HH ?_
    simp only [List.set_cons_zero, List.set_cons_succ]
    refine takeL (i := 9) (d := 51) (v := .int .i64 (cc : Int)) rfl rfl (by kernel_rfl) (by kernel_rfl) (by kernel_rfl) (fun _ _ _ h => h) (Or.inl ⟨by rfl, by intro x hSx; have hSc := hSx.2; go_simp; try (first | rfl | go_num)⟩) HH ?_
    simp only [List.set_cons_zero, List.set_cons_succ]
    refine takeL (i := 10) (d := 52) (v := .pointer (some ⟨L.gb, cc, none⟩)) rfl rfl (by kernel_rfl) (by kernel_rfl) (by kernel_rfl) (fun _ _ _ h => h) (Or.inl ⟨by rfl, by intro x hSx; go_simp; try (first | rfl | go_num)⟩) HH ?_
    simp only [List.set_cons_zero, List.set_cons_succ]
    refine wpAnyH_all (rs := [11]) (by kernel_rfl) (by simp) ?_
    intro i hi'
    rw [List.mem_singleton] at hi'
    subst hi'
    refine wpOp_step rfl fun Kq hKq => ?_
    rw [if_pos (by rfl)]
    refine wp_bsetO 4 info4s (.tmp 52) _ rfl rfl L.gb cc (s.tabs.map Value.bool) ((s.tabs.set cc true).map Value.bool) (.bool true) (by rw [List.length_map]; exact htl) rfl rfl rfl rfl (by rw [List.map_set]) 4 HT0.tab ?_
    intro u3 g3 k3
    have T3 := HT0.setTab g3 k3
    refine hKq _ _ ⟨⟨T3.c 43 _ rfl, by rw [← hcc]; exact T3.c 27 _ rfl⟩, ?_⟩
    clear hKq
    refine wpAnyH_done (by kernel_rfl) ?_ _
    have HF : Hid (TAt u3 L { s with tabs := s.tabs.set cc true } ∧ Ch L.own w u3) := ⟨T3, (⟨k3.os, k3.tape, k3.output, k3.size, k3.block⟩ : Ch (· = L.gb) w u3).mono fun k _ e => .inr (.inr (.inr (.inl e)))⟩
    clear T3 k3 g3 HT0 HH
    go_wp2_with fail
    go_end0
    exact ⟨rfl, Next.of HF.out.1 HF.out.2⟩
  · rw [show s.bare 99 = TS.fresh s.rows s.cols from rfl]
    have l1 := size_any L s w HT.out HI.out
    have l3 := tnew_any s.rows s.cols w ⟨hr1, hr2⟩ ⟨hc1, hc2⟩
    clear c28 f28 HU CU
    go_enter Tryz.func108, Tryz.ntmps108
    go_wp2_with (first | (go_at_call 147; refine l1.mono ?_; rintro e w1 ⟨rfl, hw1⟩; have hw2 := hw1.symm; subst hw2) | (go_at_call 92; refine l3.mono ?_; rintro e w3 ⟨L', rfl, t3, o3, b3⟩) | (refine wpList_load_row rfl 164 (.tmp 61) rfl L'.tb rfl 164 _ (0, 0) _ t3.blk Tryz.underlying164 rfl info117 ?_) | (refine wp_blkset _ rfl 164 (.tmp 63) (.tmp 62) rfl L.tb (termV L s) (termV L' (TS.fresh s.rows s.cols)) rfl _ rfl rfl 164 ((b3.block _ hlt).trans HT.out.blk) rfl info117 (termV_one _ _) ?_))
    intro u4 g4 k4 z4
    have hn : ∀ k, L'.own k → k ≠ L.tb := fun k hk => by have := o3 k hk; omega
    have T4 := t3.kept k4 hn
    have hsep := T4.sep
    have T5 : TAt u4 { L' with tb := L.tb } (TS.fresh s.rows s.cols) := ⟨g4, T4.h0, T4.h1, T4.tab, ⟨fun e => hn _ (.inr (.inl rfl)) e.symm, fun e => hn _ (.inr (.inr (.inl rfl))) e.symm, fun e => hn _ (.inr (.inr (.inr (.inl rfl)))) e.symm, hsep.s01, hsep.s0g, hsep.s1g, fun h => hn _ (.inr (.inr (.inr (.inr (.inl h))))) rfl, fun h => hn _ (.inr (.inr (.inr (.inr (.inr h))))) rfl, hsep.gx, hsep.gy, hsep.s0y, hsep.s1x, hsep.xy⟩⟩
    have N : Next L w u4 (TS.fresh s.rows s.cols) := ⟨{ L' with tb := L.tb }, rfl, T5, (Ch.of_below b3).trans (k4.mono fun k _ e => .inl e), fun k hk => by
      rcases hk with e | e | e | e | e | e
      · exact .inl (.inl e)
      · exact .inr (o3 k (.inr (.inl e)))
      · exact .inr (o3 k (.inr (.inr (.inl e))))
      · exact .inr (o3 k (.inr (.inr (.inr (.inl e)))))
      · exact .inr (o3 k (.inr (.inr (.inr (.inr (.inl e))))))
      · exact .inr (o3 k (.inr (.inr (.inr (.inr (.inr e))))))⟩
    clear T4 T5 t3 g4 k4 b3 hsep
    go_wp2_with fail
    go_end0
    exact ⟨rfl, N⟩
  · have e : s.bare f = s := by
      unfold TS.bare
      simp only [if_neg (show ¬ f = 55 by omega), if_neg (show ¬ f = 56 by omega), if_neg (show ¬ f = 68 by omega), if_neg (show ¬ f = 77 by omega), if_neg (show ¬ f = 69 by omega), if_neg (show ¬ f = 72 by omega), if_neg (show ¬ f = 99 by omega)]
    rw [e]
    clear e
    have b55 : (f == 55) = false := by simp; omega
    have b56 : (f == 56) = false := by simp; omega
    have b68 : (f == 68) = false := by simp; omega
    have b77 : (f == 77) = false := by simp; omega
    have b69 : (f == 69) = false := by simp; omega
    have b72 : (f == 72) = false := by simp; omega
    have b99 : (f == 99) = false := by simp; omega
    have HF : Hid _ := hf
    clear hf
    go_enter Tryz.func108, Tryz.ntmps108
    go_wp2_with fail
    go_end0
    exact ⟨rfl, Next.of HT.out (Ch.refl _ _)⟩

/-- An event's cells: its number j. -/
theorem evcell {u : World} {g j : Nat} {ev : List Int} {t : TypeId} {fr : Nat × Nat} (h : u.heap[g]? = some (.cells (intA ev) t fr)) (hj : j < ev.length) : u.cell? ⟨g, j, none⟩ = some (.int .i64 (ev.getD j 0)) := by
  rw [cell_of_row _ _ _ _ _ _ h, intA, List.getElem?_toArray]
  exact intC_get ev j hj
end Go.Proofs.YtheibfffilomcaaGreatDoor

/- The walk of escape. -/
namespace Go.Proofs.YtheibfffilomcaaGreatDoor
open Go.RowKit

set_option maxRecDepth 100000 in
set_option maxHeartbeats 1000000 in
theorem escape_any (L : Lay) (s : TS) (w : World) (ht : TAt w L s) (hi : s.Inv) (ev : List Int) (hev : ev.length = 21) : Calls Tryz.prog 57 #[.pointer (some ⟨L.tb, 0, none⟩), .agg (intA ev)] w fun e w' => e = .returned (.tuple #[]) ∧ Next L w w' (s.escape (ev.getD 2 0) (ev.getD 3 0)) := by
  have HT0 := ht.sm ((Ch.refl (fun _ => False) w).alloc (.cells (intA ev) 46))
  have e2 : (w.alloc (.cells (intA ev) 46)).cell? ⟨w.heap.size, 2, none⟩ = some (.int .i64 (ev.getD 2 0)) := evcell (heap_alloc_new _ _) (by omega)
  have e3 : (w.alloc (.cells (intA ev) 46)).cell? ⟨w.heap.size, 3, none⟩ = some (.int .i64 (ev.getD 3 0)) := evcell (heap_alloc_new _ _) (by omega)
  have HCW : Hid (Ch L.own w (w.alloc (.cells (intA ev) 46))) := (Ch.refl _ _).alloc _
  have HLO : Hid (¬ L.own w.heap.size) := fun h => by have := ht.own_lt h; omega
  have HLW : Hid (w.heap.size < (w.alloc (.cells (intA ev) 46)).heap.size) := by show _ < _; simp
  have hlt := ht.lt
  generalize ev.getD 2 0 = mk at *
  generalize ev.getD 3 0 = fi at *
  have HI : Hid s.Inv := hi
  clear ht hi
  rcases (show mk = 0 ∨ mk = 40 ∨ mk = 41 ∨ ¬ (mk = 0 ∨ mk = 40 ∨ mk = 41) by omega) with rfl | rfl | rfl | hm
  · rw [show s.escape 0 fi = s.bare fi from rfl]
    have l1 := bare_any L s _ HT0 HI.out fi
    have HT : Hid _ := HT0
    clear HT0
    go_enter Tryz.func57, Tryz.ntmps57
    go_wp2_with (go_at_call 108; refine l1.mono ?_; rintro e w1 ⟨rfl, n1⟩)
    go_end0
    exact ⟨rfl, Next.ahead HCW.out n1⟩
  · rw [show s.escape 40 fi = { s with first := TS.alphabetOf fi s.first } from rfl]
    have HT : Hid _ := HT0
    clear HT0
    go_enter Tryz.func57, Tryz.ntmps57
    go_wp2_with fail
    generalize hW : w.alloc (Obj.cells (intA ev) 46) = W at *
    generalize hlb : w.heap.size = lb at *
    have HT0 : TAt ({ W with drawn := W.drawn + 1 } : World) L s := HT.out.sm ((Ch.refl _ _).drewN 1)
    have HH : World.cell? ({ W with drawn := W.drawn + 1 } : World) ⟨lb, 3, none⟩ = some (.int .i64 fi) := e3
    refine wp_region_held (S := fun x => x.cell? ⟨lb, 3, none⟩ = some (.int .i64 fi)) mixedC ?_
    refine takeL (i := 0) (d := 14) (v := .pointer (some ⟨L.tb, 0, none⟩)) rfl rfl (by kernel_rfl) (by kernel_rfl) (by kernel_rfl) (fun _ _ _ h => h) (Or.inl ⟨by rfl, by intro x hSx; go_simp; try (first | rfl | go_num)⟩) HH ?_
    simp only [List.set_cons_zero, List.set_cons_succ]
    refine takeL (i := 1) (d := 15) (v := .pointer (some ⟨lb, 3, none⟩)) rfl rfl (by kernel_rfl) (by kernel_rfl) (by kernel_rfl) (fun _ _ _ h => h) (Or.inl ⟨by rfl, by intro x hSx; go_simp; try (first | rfl | go_num)⟩) HH ?_
    simp only [List.set_cons_zero, List.set_cons_succ]
    refine takeL (i := 2) (d := 16) (v := .int .i64 fi) rfl rfl (by kernel_rfl) (by kernel_rfl) (by kernel_rfl) (fun _ _ _ h => h) (Or.inl ⟨by rfl, by intro x hSx; have hSc := hSx; go_simp; try (first | rfl | go_num)⟩) HH ?_
    simp only [List.set_cons_zero, List.set_cons_succ]
    refine takeL (i := 3) (d := 17) (v := .pointer (some ⟨L.tb, 0, none⟩)) rfl rfl (by kernel_rfl) (by kernel_rfl) (by kernel_rfl) (fun _ _ _ h => h) (Or.inl ⟨by rfl, by intro x hSx; go_simp; try (first | rfl | go_num)⟩) HH ?_
    simp only [List.set_cons_zero, List.set_cons_succ]
    refine takeL (i := 4) (d := 18) (v := .pointer (some ⟨L.tb, 0, none⟩)) rfl rfl (by kernel_rfl) (by kernel_rfl) (by kernel_rfl) (fun _ _ _ h => h) (Or.inl ⟨by rfl, by intro x hSx; go_simp; try (first | rfl | go_num)⟩) HH ?_
    simp only [List.set_cons_zero, List.set_cons_succ]
    refine takeL (i := 5) (d := 19) (v := .pointer (some ⟨L.tb, 26, none⟩)) rfl rfl (by kernel_rfl) (by kernel_rfl) (by kernel_rfl) (fun _ _ _ h => h) (Or.inl ⟨by rfl, by intro x hSx; go_simp; try (first | rfl | go_num)⟩) HH ?_
    simp only [List.set_cons_zero, List.set_cons_succ]
    refine takeL (i := 6) (d := 20) (v := .pointer (some ⟨L.tb, 26, none⟩)) rfl rfl (by kernel_rfl) (by kernel_rfl) (by kernel_rfl) (fun _ _ _ h => h) (Or.inl ⟨by rfl, by intro x hSx; go_simp; try (first | rfl | go_num)⟩) HH ?_
    simp only [List.set_cons_zero, List.set_cons_succ]
    refine takeL (i := 7) (d := 21) (v := .pointer (some ⟨L.tb, 34, none⟩)) rfl rfl (by kernel_rfl) (by kernel_rfl) (by kernel_rfl) (fun _ _ _ h => h) (Or.inl ⟨by rfl, by intro x hSx; go_simp; try (first | rfl | go_num)⟩) HH ?_
    simp only [List.set_cons_zero, List.set_cons_succ]
    refine wpAnyH_all (rs := [8]) (by kernel_rfl) (by simp) ?_
    intro i hi'
    rw [List.mem_singleton] at hi'
    subst hi'
    refine wpOp_step rfl fun Kq hKq => ?_
    rw [if_pos (by rfl)]
    refine wp_load3L 22 (.tmp 21) rfl rfl _ s.first rfl (HT0.c 34 _ rfl) ?_
    refine hKq _ _ ⟨HH, ?_⟩
    clear hKq
    simp only [List.set_cons_zero, List.set_cons_succ]
    refine wpAnyH_all (rs := [9]) (by kernel_rfl) (by simp) ?_
    intro i hi'
    rw [List.mem_singleton] at hi'
    subst hi'
    refine wpOp_step rfl fun Kq hKq => ?_
    rw [if_pos (by rfl)]
    refine wp_callL (f := 109) 23 [.tmp 16, .tmp 22] #[3, 3] rfl rfl [.int .i64 fi, .int .i64 s.first] rfl (by kernel_rfl) (fun v w' => v = .int .i64 (TS.alphabetOf fi s.first) ∧ w' = _) ((alphabet_any _ _ _).mono fun e w' h => ⟨_, h.1, rfl, h.2⟩) ?_
    rintro v2 w9 ⟨rfl, rfl⟩
    refine hKq _ _ ⟨HH, ?_⟩
    clear hKq
    simp only [List.set_cons_zero, List.set_cons_succ]
    refine takeL (i := 10) (d := 24) (v := .pointer (some ⟨L.tb, 0, none⟩)) rfl rfl (by kernel_rfl) (by kernel_rfl) (by kernel_rfl) (fun _ _ _ h => h) (Or.inl ⟨by rfl, by intro x hSx; go_simp; try (first | rfl | go_num)⟩) HH ?_
    simp only [List.set_cons_zero, List.set_cons_succ]
    refine takeL (i := 11) (d := 25) (v := .pointer (some ⟨L.tb, 26, none⟩)) rfl rfl (by kernel_rfl) (by kernel_rfl) (by kernel_rfl) (fun _ _ _ h => h) (Or.inl ⟨by rfl, by intro x hSx; go_simp; try (first | rfl | go_num)⟩) HH ?_
    simp only [List.set_cons_zero, List.set_cons_succ]
    refine takeL (i := 12) (d := 26) (v := .pointer (some ⟨L.tb, 26, none⟩)) rfl rfl (by kernel_rfl) (by kernel_rfl) (by kernel_rfl) (fun _ _ _ h => h) (Or.inl ⟨by rfl, by intro x hSx; go_simp; try (first | rfl | go_num)⟩) HH ?_
    simp only [List.set_cons_zero, List.set_cons_succ]
    refine takeL (i := 13) (d := 27) (v := .pointer (some ⟨L.tb, 34, none⟩)) rfl rfl (by kernel_rfl) (by kernel_rfl) (by kernel_rfl) (fun _ _ _ h => h) (Or.inl ⟨by rfl, by intro x hSx; go_simp; try (first | rfl | go_num)⟩) HH ?_
    simp only [List.set_cons_zero, List.set_cons_succ]
    refine wpAnyH_all (rs := [14]) (by kernel_rfl) (by simp) ?_
    intro i hi'
    rw [List.mem_singleton] at hi'
    subst hi'
    refine wpOp_step rfl fun Kq hKq => ?_
    rw [if_pos (by rfl)]
    refine wp_tsetO 3 info3s (.tmp 27) (.tmp 23) rfl rfl L s { s with first := TS.alphabetOf fi s.first } 34 (.int .i64 (TS.alphabetOf fi s.first)) rfl rfl rfl rfl HT0 (by omega) rfl rfl rfl rfl rfl ?_
    intro u' ht' cu' hcell
    refine hKq _ _ ⟨(World.cell?_of_block (cu'.block lb HLW.out (fun h => HLO.out h))).trans HH, ?_⟩
    clear hKq hcell
    refine wpAnyH_done (by kernel_rfl) ?_ _
    have HF : Hid (TAt u' L { s with first := TS.alphabetOf fi s.first } ∧ Ch L.own W u') := ⟨ht', ⟨cu'.os, cu'.tape, cu'.output, cu'.size, cu'.block⟩⟩
    clear ht' cu' HT0 HH
    go_wp2_with fail
    go_end0
    exact ⟨rfl, Next.ahead HCW.out (Next.of HF.out.1 HF.out.2)⟩
  · rw [show s.escape 41 fi = { s with second := TS.alphabetOf fi s.second } from rfl]
    have HT : Hid _ := HT0
    clear HT0
    go_enter Tryz.func57, Tryz.ntmps57
    go_wp2_with fail
    generalize hW : w.alloc (Obj.cells (intA ev) 46) = W at *
    generalize hlb : w.heap.size = lb at *
    have HT0 : TAt ({ W with drawn := W.drawn + 1 } : World) L s := HT.out.sm ((Ch.refl _ _).drewN 1)
    have HH : World.cell? ({ W with drawn := W.drawn + 1 } : World) ⟨lb, 3, none⟩ = some (.int .i64 fi) := e3
    refine wp_region_held (S := fun x => x.cell? ⟨lb, 3, none⟩ = some (.int .i64 fi)) mixedC ?_
    refine takeL (i := 0) (d := 30) (v := .pointer (some ⟨L.tb, 0, none⟩)) rfl rfl (by kernel_rfl) (by kernel_rfl) (by kernel_rfl) (fun _ _ _ h => h) (Or.inl ⟨by rfl, by intro x hSx; go_simp; try (first | rfl | go_num)⟩) HH ?_
    simp only [List.set_cons_zero, List.set_cons_succ]
    refine takeL (i := 1) (d := 31) (v := .pointer (some ⟨lb, 3, none⟩)) rfl rfl (by kernel_rfl) (by kernel_rfl) (by kernel_rfl) (fun _ _ _ h => h) (Or.inl ⟨by rfl, by intro x hSx; go_simp; try (first | rfl | go_num)⟩) HH ?_
    simp only [List.set_cons_zero, List.set_cons_succ]
    refine takeL (i := 2) (d := 32) (v := .int .i64 fi) rfl rfl (by kernel_rfl) (by kernel_rfl) (by kernel_rfl) (fun _ _ _ h => h) (Or.inl ⟨by rfl, by intro x hSx; have hSc := hSx; go_simp; try (first | rfl | go_num)⟩) HH ?_
    simp only [List.set_cons_zero, List.set_cons_succ]
    refine takeL (i := 3) (d := 33) (v := .pointer (some ⟨L.tb, 0, none⟩)) rfl rfl (by kernel_rfl) (by kernel_rfl) (by kernel_rfl) (fun _ _ _ h => h) (Or.inl ⟨by rfl, by intro x hSx; go_simp; try (first | rfl | go_num)⟩) HH ?_
    simp only [List.set_cons_zero, List.set_cons_succ]
    refine takeL (i := 4) (d := 34) (v := .pointer (some ⟨L.tb, 0, none⟩)) rfl rfl (by kernel_rfl) (by kernel_rfl) (by kernel_rfl) (fun _ _ _ h => h) (Or.inl ⟨by rfl, by intro x hSx; go_simp; try (first | rfl | go_num)⟩) HH ?_
    simp only [List.set_cons_zero, List.set_cons_succ]
    refine takeL (i := 5) (d := 35) (v := .pointer (some ⟨L.tb, 26, none⟩)) rfl rfl (by kernel_rfl) (by kernel_rfl) (by kernel_rfl) (fun _ _ _ h => h) (Or.inl ⟨by rfl, by intro x hSx; go_simp; try (first | rfl | go_num)⟩) HH ?_
    simp only [List.set_cons_zero, List.set_cons_succ]
    refine takeL (i := 6) (d := 36) (v := .pointer (some ⟨L.tb, 26, none⟩)) rfl rfl (by kernel_rfl) (by kernel_rfl) (by kernel_rfl) (fun _ _ _ h => h) (Or.inl ⟨by rfl, by intro x hSx; go_simp; try (first | rfl | go_num)⟩) HH ?_
    simp only [List.set_cons_zero, List.set_cons_succ]
    refine takeL (i := 7) (d := 37) (v := .pointer (some ⟨L.tb, 35, none⟩)) rfl rfl (by kernel_rfl) (by kernel_rfl) (by kernel_rfl) (fun _ _ _ h => h) (Or.inl ⟨by rfl, by intro x hSx; go_simp; try (first | rfl | go_num)⟩) HH ?_
    simp only [List.set_cons_zero, List.set_cons_succ]
    refine wpAnyH_all (rs := [8]) (by kernel_rfl) (by simp) ?_
    intro i hi'
    rw [List.mem_singleton] at hi'
    subst hi'
    refine wpOp_step rfl fun Kq hKq => ?_
    rw [if_pos (by rfl)]
    refine wp_load3L 38 (.tmp 37) rfl rfl _ s.second rfl (HT0.c 35 _ rfl) ?_
    refine hKq _ _ ⟨HH, ?_⟩
    clear hKq
    simp only [List.set_cons_zero, List.set_cons_succ]
    refine wpAnyH_all (rs := [9]) (by kernel_rfl) (by simp) ?_
    intro i hi'
    rw [List.mem_singleton] at hi'
    subst hi'
    refine wpOp_step rfl fun Kq hKq => ?_
    rw [if_pos (by rfl)]
    refine wp_callL (f := 109) 39 [.tmp 32, .tmp 38] #[3, 3] rfl rfl [.int .i64 fi, .int .i64 s.second] rfl (by kernel_rfl) (fun v w' => v = .int .i64 (TS.alphabetOf fi s.second) ∧ w' = _) ((alphabet_any _ _ _).mono fun e w' h => ⟨_, h.1, rfl, h.2⟩) ?_
    rintro v2 w9 ⟨rfl, rfl⟩
    refine hKq _ _ ⟨HH, ?_⟩
    clear hKq
    simp only [List.set_cons_zero, List.set_cons_succ]
    refine takeL (i := 10) (d := 40) (v := .pointer (some ⟨L.tb, 0, none⟩)) rfl rfl (by kernel_rfl) (by kernel_rfl) (by kernel_rfl) (fun _ _ _ h => h) (Or.inl ⟨by rfl, by intro x hSx; go_simp; try (first | rfl | go_num)⟩) HH ?_
    simp only [List.set_cons_zero, List.set_cons_succ]
    refine takeL (i := 11) (d := 41) (v := .pointer (some ⟨L.tb, 26, none⟩)) rfl rfl (by kernel_rfl) (by kernel_rfl) (by kernel_rfl) (fun _ _ _ h => h) (Or.inl ⟨by rfl, by intro x hSx; go_simp; try (first | rfl | go_num)⟩) HH ?_
    simp only [List.set_cons_zero, List.set_cons_succ]
    refine takeL (i := 12) (d := 42) (v := .pointer (some ⟨L.tb, 26, none⟩)) rfl rfl (by kernel_rfl) (by kernel_rfl) (by kernel_rfl) (fun _ _ _ h => h) (Or.inl ⟨by rfl, by intro x hSx; go_simp; try (first | rfl | go_num)⟩) HH ?_
    simp only [List.set_cons_zero, List.set_cons_succ]
    refine takeL (i := 13) (d := 43) (v := .pointer (some ⟨L.tb, 35, none⟩)) rfl rfl (by kernel_rfl) (by kernel_rfl) (by kernel_rfl) (fun _ _ _ h => h) (Or.inl ⟨by rfl, by intro x hSx; go_simp; try (first | rfl | go_num)⟩) HH ?_
    simp only [List.set_cons_zero, List.set_cons_succ]
    refine wpAnyH_all (rs := [14]) (by kernel_rfl) (by simp) ?_
    intro i hi'
    rw [List.mem_singleton] at hi'
    subst hi'
    refine wpOp_step rfl fun Kq hKq => ?_
    rw [if_pos (by rfl)]
    refine wp_tsetO 3 info3s (.tmp 43) (.tmp 39) rfl rfl L s { s with second := TS.alphabetOf fi s.second } 35 (.int .i64 (TS.alphabetOf fi s.second)) rfl rfl rfl rfl HT0 (by omega) rfl rfl rfl rfl rfl ?_
    intro u' ht' cu' hcell
    refine hKq _ _ ⟨(World.cell?_of_block (cu'.block lb HLW.out (fun h => HLO.out h))).trans HH, ?_⟩
    clear hKq hcell
    refine wpAnyH_done (by kernel_rfl) ?_ _
    have HF : Hid (TAt u' L { s with second := TS.alphabetOf fi s.second } ∧ Ch L.own W u') := ⟨ht', ⟨cu'.os, cu'.tape, cu'.output, cu'.size, cu'.block⟩⟩
    clear ht' cu' HT0 HH
    go_wp2_with fail
    go_end0
    exact ⟨rfl, Next.ahead HCW.out (Next.of HF.out.1 HF.out.2)⟩
  · have e : s.escape mk fi = s := by
      unfold TS.escape
      simp only [if_neg (show ¬ mk = 0 by omega), if_neg (show ¬ mk = 40 by omega), if_neg (show ¬ mk = 41 by omega)]
    rw [e]
    have b0 : (mk == 0) = false := by simp; omega
    have b1 : (mk == 40) = false := by simp; omega
    have b2 : (mk == 41) = false := by simp; omega
    have HT : Hid _ := HT0
    clear HT0 e hm
    go_enter Tryz.func57, Tryz.ntmps57
    go_wp2_with fail
    go_end0
    exact ⟨rfl, Next.ahead HCW.out (Next.of HT.out (Ch.refl _ _))⟩
end Go.Proofs.YtheibfffilomcaaGreatDoor

/- The walk of move. -/
namespace Go.Proofs.YtheibfffilomcaaGreatDoor
open Go.RowKit

set_option maxRecDepth 100000 in
set_option maxHeartbeats 1000000 in
theorem move_any (L : Lay) (s : TS) (w : World) (ht : TAt w L s) (hi : s.Inv) (ev : List Int) (hev : ev.length = 21) (h5 : -1 ≤ ev.getD 5 0 ∧ ev.getD 5 0 ≤ 65535) (h6 : -1 ≤ ev.getD 6 0 ∧ ev.getD 6 0 ≤ 65535) : Calls Tryz.prog 111 #[.pointer (some ⟨L.tb, 0, none⟩), .agg (intA ev)] w fun e w' => e = .returned (.tuple #[]) ∧ TAt w' L (s.move (ev.getD 3 0) (ev.getD 5 0) (ev.getD 6 0)) ∧ Ch L.own w w' := by
  have HT0 := ht.sm ((Ch.refl (fun _ => False) w).alloc (.cells (intA ev) 46))
  have e3 : (w.alloc (.cells (intA ev) 46)).cell? ⟨w.heap.size, 3, none⟩ = some (.int .i64 (ev.getD 3 0)) := evcell (heap_alloc_new _ _) (by omega)
  have e5 : (w.alloc (.cells (intA ev) 46)).cell? ⟨w.heap.size, 5, none⟩ = some (.int .i64 (ev.getD 5 0)) := evcell (heap_alloc_new _ _) (by omega)
  have e6 : (w.alloc (.cells (intA ev) 46)).cell? ⟨w.heap.size, 6, none⟩ = some (.int .i64 (ev.getD 6 0)) := evcell (heap_alloc_new _ _) (by omega)
  have HCW : Hid (Ch L.own w (w.alloc (.cells (intA ev) 46))) := (Ch.refl _ _).alloc _
  have hlt := ht.lt
  have HLO : Hid (¬ L.own w.heap.size) := fun h => by have := ht.own_lt h; omega
  generalize ev.getD 3 0 = f at *
  generalize ev.getD 5 0 = p0 at *
  generalize ev.getD 6 0 = p1 at *
  have HI : Hid s.Inv := hi
  have HT : Hid _ := HT0
  have c27 := HT0.c 27 _ rfl
  have hn : 1 ≤ TS.times p0 ∧ TS.times p0 ≤ 65535 := by unfold TS.times; omega
  have hm : 1 ≤ TS.times p1 ∧ TS.times p1 ≤ 65535 := by unfold TS.times; omega
  have lt0 : ∀ u, _ := fun u => times_any p0 u
  have lt1 : ∀ u, _ := fun u => times_any p1 u
  have hco := hi.col0
  have hc1 := hi.col1
  have hc2 := hi.c2
  have va : IntKind.i64.wrap (s.col + TS.times p0) = s.col + TS.times p0 := IntWalk.i64_in _ (by omega)
  have vb : IntKind.i64.wrap (s.col - TS.times p0) = s.col - TS.times p0 := IntWalk.i64_in _ (by omega)
  have vc : IntKind.i64.wrap (TS.times p0 - 1) = TS.times p0 - 1 := IntWalk.i64_in _ (by omega)
  have vd : IntKind.i64.wrap (TS.times p1 - 1) = TS.times p1 - 1 := IntWalk.i64_in _ (by omega)
  clear ht hi HT0
  rcases (show f = 65 ∨ f = 66 ∨ f = 67 ∨ f = 68 ∨ f = 71 ∨ f = 100 ∨ f = 72 ∨ f = 102 ∨ ¬ (f = 65 ∨ f = 66 ∨ f = 67 ∨ f = 68 ∨ f = 71 ∨ f = 100 ∨ f = 72 ∨ f = 102) by omega) with rfl | rfl | rfl | rfl | rfl | rfl | rfl | rfl | hf
  · rw [show s.move 65 p0 p1 = s.rise (TS.times p0) from rfl]
    have l1 := rise_any L s _ HT.out HI.out (TS.times p0) (by omega)
    generalize TS.times p0 = n at *
    generalize TS.times p1 = m at *
    go_enter Tryz.func111, Tryz.ntmps111
    go_wp2_with (first | (go_at_call 179; refine (lt0 _).mono ?_; rintro e w1 ⟨rfl, hw1⟩; have hw2 := hw1.symm; subst hw2) | (go_at_call 180; refine l1.mono ?_; rintro e w9 ⟨rfl, h1, c1⟩))
    go_end0
    exact ⟨rfl, h1, HCW.out.trans c1⟩
  · rw [show s.move 66 p0 p1 = s.sink (TS.times p0) from rfl]
    have l1 := sink_any L s _ HT.out HI.out (TS.times p0) (by omega)
    generalize TS.times p0 = n at *
    generalize TS.times p1 = m at *
    go_enter Tryz.func111, Tryz.ntmps111
    go_wp2_with (first | (go_at_call 179; refine (lt0 _).mono ?_; rintro e w1 ⟨rfl, hw1⟩; have hw2 := hw1.symm; subst hw2) | (go_at_call 181; refine l1.mono ?_; rintro e w9 ⟨rfl, h1, c1⟩))
    go_end0
    exact ⟨rfl, h1, HCW.out.trans c1⟩
  · rw [show s.move 67 p0 p1 = s.toCol (s.col + TS.times p0) from rfl]
    have l1 := toCol_any L s _ HT.out HI.out (s.col + TS.times p0)
    generalize TS.times p0 = n at *
    generalize TS.times p1 = m at *
    go_enter Tryz.func111, Tryz.ntmps111
    go_wp2_with (first | (go_at_call 179; refine (lt0 _).mono ?_; rintro e w1 ⟨rfl, hw1⟩; have hw2 := hw1.symm; subst hw2) | (go_at_call 104; refine l1.mono ?_; rintro e w9 ⟨rfl, h1, c1⟩))
    go_end0
    exact ⟨rfl, h1, HCW.out.trans c1⟩
  · rw [show s.move 68 p0 p1 = s.toCol (s.col - TS.times p0) from rfl]
    have l1 := toCol_any L s _ HT.out HI.out (s.col - TS.times p0)
    generalize TS.times p0 = n at *
    generalize TS.times p1 = m at *
    go_enter Tryz.func111, Tryz.ntmps111
    go_wp2_with (first | (go_at_call 179; refine (lt0 _).mono ?_; rintro e w1 ⟨rfl, hw1⟩; have hw2 := hw1.symm; subst hw2) | (go_at_call 104; refine l1.mono ?_; rintro e w9 ⟨rfl, h1, c1⟩))
    go_end0
    exact ⟨rfl, h1, HCW.out.trans c1⟩
  · rw [show s.move 71 p0 p1 = s.toCol (TS.times p0 - 1) from rfl]
    have l1 := toCol_any L s _ HT.out HI.out (TS.times p0 - 1)
    generalize TS.times p0 = n at *
    generalize TS.times p1 = m at *
    go_enter Tryz.func111, Tryz.ntmps111
    go_wp2_with (first | (go_at_call 179; refine (lt0 _).mono ?_; rintro e w1 ⟨rfl, hw1⟩; have hw2 := hw1.symm; subst hw2) | (go_at_call 104; refine l1.mono ?_; rintro e w9 ⟨rfl, h1, c1⟩))
    go_end0
    exact ⟨rfl, h1, HCW.out.trans c1⟩
  · rw [show s.move 100 p0 p1 = s.toCounted (TS.times p0 - 1) from rfl]
    have l1 := toCounted_any L s _ HT.out HI.out (TS.times p0 - 1) (by omega)
    generalize TS.times p0 = n at *
    generalize TS.times p1 = m at *
    go_enter Tryz.func111, Tryz.ntmps111
    go_wp2_with (first | (go_at_call 179; refine (lt0 _).mono ?_; rintro e w1 ⟨rfl, hw1⟩; have hw2 := hw1.symm; subst hw2) | (go_at_call 182; refine l1.mono ?_; rintro e w9 ⟨rfl, h1, c1⟩))
    go_end0
    exact ⟨rfl, h1, HCW.out.trans c1⟩
  · rw [show s.move 72 p0 p1 = (s.toCounted (TS.times p0 - 1)).toCol (TS.times p1 - 1) from rfl]
    have l1 := toCounted_any L s _ HT.out HI.out (TS.times p0 - 1) (by omega)
    have l2 : ∀ u, TAt u L (s.toCounted (TS.times p0 - 1)) → _ := fun u hu => toCol_any L (s.toCounted (TS.times p0 - 1)) u hu (HI.out.toCounted _) (TS.times p1 - 1)
    generalize TS.times p0 = n at *
    generalize TS.times p1 = m at *
    have HLW : Hid (w.heap.size < (w.alloc (.cells (intA ev) 46)).heap.size) := by show _ < _; simp
    go_enter Tryz.func111, Tryz.ntmps111
    go_wp2_with (first | (go_at_call 179; refine (lt1 _).mono ?_; rintro e w1 ⟨rfl, hw1⟩; have hq := h1; have hw2 := hw1.symm; subst hw2) | (go_at_call 179; refine (lt0 _).mono ?_; rintro e w1 ⟨rfl, hw1⟩; have hw2 := hw1.symm; subst hw2) | (go_at_call 182; refine l1.mono ?_; rintro e w8 ⟨rfl, h1, c1⟩; have e6' := (World.cell?_of_block (c1.block w.heap.size HLW.out HLO.out)).trans e6) | (go_at_call 104; refine (l2 _ h1).mono ?_; rintro e w9 ⟨rfl, h2, c2⟩))
    go_end0
    exact ⟨rfl, h2, HCW.out.trans (c1.trans c2)⟩
  · rw [show s.move 102 p0 p1 = (s.toCounted (TS.times p0 - 1)).toCol (TS.times p1 - 1) from rfl]
    have l1 := toCounted_any L s _ HT.out HI.out (TS.times p0 - 1) (by omega)
    have l2 : ∀ u, TAt u L (s.toCounted (TS.times p0 - 1)) → _ := fun u hu => toCol_any L (s.toCounted (TS.times p0 - 1)) u hu (HI.out.toCounted _) (TS.times p1 - 1)
    generalize TS.times p0 = n at *
    generalize TS.times p1 = m at *
    have HLW : Hid (w.heap.size < (w.alloc (.cells (intA ev) 46)).heap.size) := by show _ < _; simp
    go_enter Tryz.func111, Tryz.ntmps111
    go_wp2_with (first | (go_at_call 179; refine (lt1 _).mono ?_; rintro e w1 ⟨rfl, hw1⟩; have hq := h1; have hw2 := hw1.symm; subst hw2) | (go_at_call 179; refine (lt0 _).mono ?_; rintro e w1 ⟨rfl, hw1⟩; have hw2 := hw1.symm; subst hw2) | (go_at_call 182; refine l1.mono ?_; rintro e w8 ⟨rfl, h1, c1⟩; have e6' := (World.cell?_of_block (c1.block w.heap.size HLW.out HLO.out)).trans e6) | (go_at_call 104; refine (l2 _ h1).mono ?_; rintro e w9 ⟨rfl, h2, c2⟩))
    go_end0
    exact ⟨rfl, h2, HCW.out.trans (c1.trans c2)⟩
  · have e : s.move f p0 p1 = s := by
      unfold TS.move
      simp only [if_neg (show ¬ f = 65 by omega), if_neg (show ¬ f = 66 by omega), if_neg (show ¬ f = 67 by omega), if_neg (show ¬ f = 68 by omega), if_neg (show ¬ f = 71 by omega), if_neg (show ¬ f = 100 by omega), if_neg (show ¬ (f = 72 ∨ f = 102) by omega)]
    rw [e]
    have b65 : (f == 65) = false := by simp; omega
    have b66 : (f == 66) = false := by simp; omega
    have b67 : (f == 67) = false := by simp; omega
    have b68 : (f == 68) = false := by simp; omega
    have b71 : (f == 71) = false := by simp; omega
    have b100 : (f == 100) = false := by simp; omega
    have b72 : (f == 72) = false := by simp; omega
    have b102 : (f == 102) = false := by simp; omega
    clear e hf
    generalize TS.times p0 = n at *
    generalize TS.times p1 = m at *
    go_enter Tryz.func111, Tryz.ntmps111
    go_wp2_with (go_at_call 179; refine (lt0 _).mono ?_; rintro e w1 ⟨rfl, hw1⟩; have hw2 := hw1.symm; subst hw2)
    go_end0
    exact ⟨rfl, HT.out, HCW.out⟩
end Go.Proofs.YtheibfffilomcaaGreatDoor

