/- Walks of package cells: the law of copy, Insert, Remove. -/
import Derived.Test.YtheibfffilomcaaGreatDoorCe
namespace Go.Proofs.YtheibfffilomcaaGreatDoor
open Go.RowKit

theorem run_copyN (w : World) (dT sT ty elem : TypeId) (b o dLen dCap : Nat) (a : Addr) (sLen sCap m : Nat) (cs : List Value)
    (hu : Tryz.prog.underlying dT = some (.slice elem)) (hs : (Tryz.prog.info? elem).map (·.size) = some m) (hn : cs.length = Nat.min sLen dLen * m)
    (hsrc : ∀ j v, cs[j]? = some v → w.cell? (a.add j) = some v) (hc : ∀ j, j < cs.length → (w.cell? ⟨b, o + j, none⟩).isSome = true) (hf : ∀ j, j < cs.length → w.frozen? ⟨b, o + j, none⟩ = false) (h1 : ∀ v ∈ cs, v.oneCell' = true) :
    (Builtin.copy_ #[dT, sT] ty #[.slice (some ⟨b, o, none⟩) dLen dCap, .slice (some a) sLen sCap]).run Tryz.prog w = .ok (goInt (Nat.min sLen dLen)) (w.setCells b o cs) := by
  have hl := run_loadCells_list (P := Tryz.prog) w a cs hsrc
  have hst := run_storeCells_cells (P := Tryz.prog) b o cs 0 w (by simpa using hc) (by simpa using hf) h1
  cases hq : Tryz.prog.info? elem with
  | none => simp [hq] at hs
  | some i =>
    have hi : i.size = m := by simpa [hq] using hs
    simp [Builtin.copy_, run_underlying hu, Builtin.lenOf, Builtin.firstCells, sizeOf, typeInfo, hq, hi, ← hn, hl, hst]

theorem run_copy0 (w : World) (dT sT ty elem : TypeId) (d a : Option Addr) (dLen dCap sLen sCap m : Nat) (hu : Tryz.prog.underlying dT = some (.slice elem)) (hs : (Tryz.prog.info? elem).map (·.size) = some m) (hn : Nat.min sLen dLen = 0) :
    (Builtin.copy_ #[dT, sT] ty #[.slice d dLen dCap, .slice a sLen sCap]).run Tryz.prog w = .ok (goInt 0) w := by
  cases hq : Tryz.prog.info? elem with
  | none => simp [hq] at hs
  | some i =>
    have hl : ∀ (x : Addr), (loadCells x 0).run Tryz.prog w = .ok #[] w := fun x => by simpa using run_loadCells_list (P := Tryz.prog) w x [] (by simp)
    cases d <;> cases a <;> simp [Builtin.copy_, run_underlying hu, Builtin.lenOf, Builtin.firstCells, sizeOf, typeInfo, hq, hn, storeCells, hl]

/-- Cells copied from one row to another (or within one), in a region that draws its order. -/
theorem wp_copyL {o : Oper} {l : List Value} {ds : List Deferred} {u : World} {K : Act → World → Prop} {Q : Exit → Act → World → Prop} (d : Nat) (x y : Operand) (ho : o.op = .call { callee := .builtin .copy, args := #[x, y], argTypes := #[166, 166] }) (hd : o.dst = some d)
    (dp sp : Option Addr) (dn dc sn sc : Nat) (hx : Act.eval ⟨l.toArray, ds⟩ x = .slice dp dn dc) (hy : Act.eval ⟨l.toArray, ds⟩ y = .slice sp sn sc) (g g2 da sa k : Nat) (r r2 : List CellS) (hr : RowAt u g r) (hr2 : RowAt u g2 r2)
    (hk : k = min sn dn) (hd1 : da + k ≤ r.length) (hs1 : sa + k ≤ r2.length) (hp : 0 < k → dp = some ⟨g, da * 7, none⟩ ∧ sp = some ⟨g2, sa * 7, none⟩)
    (h : ∀ u', RowAt u' g (layR r da ((r2.drop sa).take k)) → Ch (· = g) u u' → K ⟨(l.set d (goInt k)).toArray, ds⟩ u') : Oper.wp Tryz.prog o ⟨l.toArray, ds⟩ u K Q := by
  have hql : ((r2.drop sa).take k).length = k := by rw [List.length_take, List.length_drop]; omega
  by_cases h0 : k = 0
  · have hrun := run_copy0 u 166 166 o.type 101 dp sp dn dc sn sc 7 Tryz.underlying166 info49 (show min sn dn = 0 by omega)
    have R := h u (by subst h0; simpa [layR] using hr) (Ch.refl _ _)
    subst h0
    unfold Oper.wp
    simp [execOp, ho, resolve, invoke, builtin, hx, hy, hrun, Result.andThen, Oper.upon_value, Act.put, hd]
    simpa using R
  · obtain ⟨rfl, rfl⟩ := hp (by omega)
    have hadd : ∀ j, (⟨g2, sa * 7, none⟩ : Addr).add j = ⟨g2, sa * 7 + j, none⟩ := fun j => by unfold Addr.add; split <;> simp_all
    have hrun := run_copyN u 166 166 o.type 101 g (da * 7) dn dc ⟨g2, sa * 7, none⟩ sn sc 7 (rowV ((r2.drop sa).take k)) Tryz.underlying166 info49 (by rw [rowV_length, hql, hk])
      (fun j v hv => by
        have hj : j < k * 7 := by have := (List.getElem?_eq_some_iff.1 hv).1; rw [rowV_length, hql] at this; exact this
        rw [← rowV_take, ← rowV_drop, List.getElem?_take, if_pos hj, List.getElem?_drop] at hv
        rw [hadd, hr2.cell]; exact hv)
      (fun j hj => by rw [rowV_length, hql] at hj; rw [hr.cell, List.getElem?_eq_getElem (by rw [rowV_length]; omega)]; rfl)
      (fun j _ => frozen_of_row _ _ _ _ _ hr) (rowV_one _)
    have hz := size_setCells g (rowV ((r2.drop sa).take k)) (da * 7) u
    have R := h _ (row_lay hr da ((r2.drop sa).take k) (by rw [hql]; exact hd1)) ⟨hz.2.1, hz.2.2.1, hz.2.2.2, by omega, fun i _ hn => heap_setCells g _ _ _ i hn⟩
    rw [show Nat.min sn dn = k from hk.symm] at hrun
    unfold Oper.wp
    simp [execOp, ho, resolve, invoke, builtin, hx, hy, hrun, Result.andThen, Oper.upon_value, Act.put, hd]
    simpa using R

set_option maxRecDepth 100000 in
set_option maxHeartbeats 1000000 in
theorem insert_any (g a n len : Nat) (r : List CellS) (w : World) (hr : RowAt w g r) (hlen : r.length = len) (ha : a < len) (hn : n ≤ 70000) (hl : len ≤ 100) :
    Calls Tryz.prog 101 #[.slice (some ⟨g, 0, none⟩) len len, .int .i64 (a : Int), .int .i64 (n : Int)] w fun e w' => e = .returned (.tuple #[]) ∧ RowAt w' g (insertR r a n) ∧ Ch (· = g) w w' := by
  by_cases hm : n < len - a
  · have hi : insertR r a n = insR r a n := by rw [insertR, Nat.min_eq_left (by omega)]
    have hcopy : insR r a n = wipeR (layR (splitR (splitR r a) (len - n)) (a + n) (((splitR (splitR r a) (len - n)).drop a).take (len - (a + n)))) a n := by rw [insR, hlen]
    rw [hi, hcopy]
    have hq : (splitR (splitR r a) (len - n)).length = len := by rw [splitR_length, splitR_length, hlen]
    have s1 := split_any g a len r w hr (by omega)
    have s2 : ∀ u, RowAt u g (splitR r a) → _ := fun u hu => split_any g (len - n) len (splitR r a) u hu (by omega)
    rw [splitR_length, hlen] at s2
    rw [hlen] at s1
    generalize splitR (splitR r a) (len - n) = q at *
    have hly : (layR q (a + n) ((q.drop a).take (len - (a + n)))).length = len := by rw [layR_length _ _ _ (by simp; omega), hq]
    have HQ : Hid _ := hq
    have HL : Hid _ := hly
    have e1 : (len : Int) - (a : Int) = ((len - a : Nat) : Int) := by omega
    have v1 : IntKind.i64.wrap ((len - a : Nat) : Int) = ((len - a : Nat) : Int) := IntWalk.i64_in _ (by omega)
    have e2 : (len : Int) - (n : Int) = ((len - n : Nat) : Int) := by omega
    have v2 : IntKind.i64.wrap ((len - n : Nat) : Int) = ((len - n : Nat) : Int) := IntWalk.i64_in _ (by omega)
    have v3 : IntKind.i64.wrap ((a : Int) + (n : Int)) = (a : Int) + (n : Int) := IntWalk.i64_in _ (by omega)
    have i1 : (n : Int) < ((len - a : Nat) : Int) := by omega
    have i3 : a + n < len := by omega
    have i4 : a < len := ha
    have i5 : len ≠ a := by omega
    have i6 : len ≠ a + n := by omega
    have t1 : ((a : Int) + (n : Int)).toNat = a + n := by omega
    have j1 : (0 : Int) ≤ (a : Int) + (n : Int) := by omega
    have j2 : (a : Int) + (n : Int) ≤ (len : Int) := by omega
    clear hi hcopy hq hly hr
    go_enter Tryz.func101, Tryz.ntmps101
    go_wp2_with (first | (go_at_call 167; refine (s2 _ h1).mono ?_; rintro e w2 ⟨rfl, h2, c2⟩) | (go_at_call 167; refine s1.mono ?_; rintro e w1 ⟨rfl, h1, c1⟩))
    have HR : Hid (RowAt w2 g q) := h2
    have HC : Hid (Ch (· = g) w w2) := c1.trans c2
    clear h1 h2 c1 c2 s1 s2
    have HS : RowAt ({ w2 with drawn := w2.drawn + 1 } : World) g q := HR.out
    refine wp_region_held (S := fun x => RowAt x g q ∨ RowAt x g (layR q (a + n) ((q.drop a).take (len - (a + n))))) mixedC ?_
    refine takeL (i := 0) (d := 21) (v := .slice (some ⟨g, 0, none⟩) len len) rfl rfl (by kernel_rfl) (by kernel_rfl) (by kernel_rfl) (fun _ _ _ h => h) (Or.inl ⟨by rfl, by intro x hSx; go_simp; try (first | rfl | go_num)⟩) (Or.inl HS) ?_
    simp only [List.set_cons_zero, List.set_cons_succ]
    refine takeL (i := 1) (d := 22) (v := .int .i64 (a : Int)) rfl rfl (by kernel_rfl) (by kernel_rfl) (by kernel_rfl) (fun _ _ _ h => h) (Or.inl ⟨by rfl, by intro x hSx; go_simp; try (first | rfl | go_num)⟩) (Or.inl HS) ?_
    simp only [List.set_cons_zero, List.set_cons_succ]
    refine takeL (i := 2) (d := 23) (v := .int .i64 (n : Int)) rfl rfl (by kernel_rfl) (by kernel_rfl) (by kernel_rfl) (fun _ _ _ h => h) (Or.inl ⟨by rfl, by intro x hSx; go_simp; try (first | rfl | go_num)⟩) (Or.inl HS) ?_
    simp only [List.set_cons_zero, List.set_cons_succ]
    refine takeL (i := 3) (d := 24) (v := .int .i64 ((a : Int) + (n : Int))) rfl rfl (by kernel_rfl) (by kernel_rfl) (by kernel_rfl) (fun _ _ _ h => h) (Or.inl ⟨by rfl, by intro x hSx; go_simp; try (first | rfl | go_num)⟩) (Or.inl HS) ?_
    simp only [List.set_cons_zero, List.set_cons_succ]
    refine takeL (i := 4) (d := 25) (v := .slice (some ⟨g, (a + n) * 7, none⟩) (len - (a + n)) (len - (a + n))) rfl rfl (by kernel_rfl) (by kernel_rfl) (by kernel_rfl) (fun _ _ _ h => h) (Or.inl ⟨by rfl, by intro x hSx; go_simp; try (first | rfl | go_num)⟩) (Or.inl HS) ?_
    simp only [List.set_cons_zero, List.set_cons_succ]
    refine takeL (i := 5) (d := 26) (v := .slice (some ⟨g, 0, none⟩) len len) rfl rfl (by kernel_rfl) (by kernel_rfl) (by kernel_rfl) (fun _ _ _ h => h) (Or.inl ⟨by rfl, by intro x hSx; go_simp; try (first | rfl | go_num)⟩) (Or.inl HS) ?_
    simp only [List.set_cons_zero, List.set_cons_succ]
    refine takeL (i := 6) (d := 27) (v := .int .i64 (a : Int)) rfl rfl (by kernel_rfl) (by kernel_rfl) (by kernel_rfl) (fun _ _ _ h => h) (Or.inl ⟨by rfl, by intro x hSx; go_simp; try (first | rfl | go_num)⟩) (Or.inl HS) ?_
    simp only [List.set_cons_zero, List.set_cons_succ]
    refine takeL (i := 7) (d := 28) (v := .slice (some ⟨g, a * 7, none⟩) (len - a) (len - a)) rfl rfl (by kernel_rfl) (by kernel_rfl) (by kernel_rfl) (fun _ _ _ h => h) (Or.inl ⟨by rfl, by intro x hSx; go_simp; try (first | rfl | go_num)⟩) (Or.inl HS) ?_
    simp only [List.set_cons_zero, List.set_cons_succ]
    refine wpAnyH_all (rs := [8]) (by kernel_rfl) (by simp) ?_
    intro i hi
    rw [List.mem_singleton] at hi
    subst hi
    refine wpOp_step rfl fun Kq hKq => ?_
    rw [if_pos (by rfl)]
    refine wp_copyL 29 (.tmp 25) (.tmp 28) rfl rfl _ _ _ _ _ _ rfl rfl g g (a + n) a (len - (a + n)) q q HS HS (by omega) (by rw [HQ.out]; omega) (by rw [HQ.out]; omega) (fun _ => ⟨rfl, rfl⟩) ?_
    intro u3 h3 c3
    refine hKq _ _ ⟨Or.inr h3, ?_⟩
    clear hKq HS HR
    simp only [List.set_cons_zero, List.set_cons_succ]
    have HR3 : Hid (RowAt u3 g (layR q (a + n) ((q.drop a).take (len - (a + n))))) := h3
    have HC3 : Hid (Ch (· = g) w u3) := HC.out.trans ((Ch.refl (· = g) w2).trans ⟨c3.os, c3.tape, c3.output, c3.size, c3.block⟩)
    clear h3 c3 HC
    refine wpAnyH_done (by kernel_rfl) ?_ _
    go_wp2_with (go_at_call 168; refine (wipe_any g (a * 7) a (n) _ _ _ rfl HR3.out (by rw [HL.out]; omega) (by rw [HL.out]; omega)).mono ?_; rintro e w4 ⟨rfl, h4, c4⟩)
    go_end0
    exact ⟨rfl, h4, HC3.out.trans c4⟩
  · obtain ⟨m, hm2⟩ : ∃ m, len = a + m := ⟨len - a, by omega⟩
    rcases (show m < n ∨ m = n by omega) with hmn | hmn
    · have k1 : ¬ n ≤ m := by omega
      have k3 : ¬ (n : Int) ≤ (m : Int) := by omega
      have hi : insertR r a n = insR r a m := by rw [insertR, hlen, Nat.min_eq_right (by omega), hm2, Nat.add_sub_cancel_left]
      have hcopy : insR r a m = wipeR (layR (splitR (splitR r a) a) (a + m) (((splitR (splitR r a) a).drop a).take (len - (a + m)))) a m := by rw [insR, hlen, show len - m = a by omega]
      rw [hi, hcopy]
      have hq : (splitR (splitR r a) a).length = len := by rw [splitR_length, splitR_length, hlen]
      have s1 := split_any g a len r w hr (by omega)
      have s2 : ∀ u, RowAt u g (splitR r a) → _ := fun u hu => split_any g a len (splitR r a) u hu (by omega)
      rw [splitR_length, hlen] at s2
      rw [hlen] at s1
      generalize splitR (splitR r a) a = q at *
      have hly : (layR q (a + m) ((q.drop a).take (len - (a + m)))).length = len := by rw [layR_length _ _ _ (by simp; omega), hq]
      have HQ : Hid _ := hq
      have HL : Hid _ := hly
      have e1 : (len : Int) - (a : Int) = (m : Int) := by omega
      have v1 : IntKind.i64.wrap (m : Int) = (m : Int) := IntWalk.i64_in _ (by omega)
      have e2 : (len : Int) - (m : Int) = (a : Int) := by omega
      have v2 : IntKind.i64.wrap (a : Int) = (a : Int) := IntWalk.i64_in _ (by omega)
      have v3 : IntKind.i64.wrap (len : Int) = (len : Int) := IntWalk.i64_in _ (by omega)
      have i1 : (m : Int) ≤ (n : Int) := by omega
      have i4 : a < len := ha
      have i5 : len ≠ a := by omega
      have i6 : (a : Int) + (m : Int) = (len : Int) := by omega
      have e3 : len - a = m := by omega
      have HM : Hid _ := hm2
      clear hm2
      clear hi hcopy hq hly hr
      go_enter Tryz.func101, Tryz.ntmps101
      go_wp2_with (first | (go_at_call 167; refine (s2 _ h1).mono ?_; rintro e w2 ⟨rfl, h2, c2⟩) | (go_at_call 167; refine s1.mono ?_; rintro e w1 ⟨rfl, h1, c1⟩))
      have HR : Hid (RowAt w2 g q) := h2
      have HC : Hid (Ch (· = g) w w2) := c1.trans c2
      clear h1 h2 c1 c2 s1 s2
      have HS : RowAt ({ w2 with drawn := w2.drawn + 1 } : World) g q := HR.out
      refine wp_region_held (S := fun x => RowAt x g q ∨ RowAt x g (layR q (a + m) ((q.drop a).take (len - (a + m))))) mixedC ?_
      refine takeL (i := 0) (d := 21) (v := .slice (some ⟨g, 0, none⟩) len len) rfl rfl (by kernel_rfl) (by kernel_rfl) (by kernel_rfl) (fun _ _ _ h => h) (Or.inl ⟨by rfl, by intro x hSx; go_simp; try (first | rfl | go_num)⟩) (Or.inl HS) ?_
      simp only [List.set_cons_zero, List.set_cons_succ]
      refine takeL (i := 1) (d := 22) (v := .int .i64 (a : Int)) rfl rfl (by kernel_rfl) (by kernel_rfl) (by kernel_rfl) (fun _ _ _ h => h) (Or.inl ⟨by rfl, by intro x hSx; go_simp; try (first | rfl | go_num)⟩) (Or.inl HS) ?_
      simp only [List.set_cons_zero, List.set_cons_succ]
      refine takeL (i := 2) (d := 23) (v := .int .i64 (m : Int)) rfl rfl (by kernel_rfl) (by kernel_rfl) (by kernel_rfl) (fun _ _ _ h => h) (Or.inl ⟨by rfl, by intro x hSx; go_simp; try (first | rfl | go_num)⟩) (Or.inl HS) ?_
      simp only [List.set_cons_zero, List.set_cons_succ]
      refine takeL (i := 3) (d := 24) (v := .int .i64 (len : Int)) rfl rfl (by kernel_rfl) (by kernel_rfl) (by kernel_rfl) (fun _ _ _ h => h) (Or.inl ⟨by rfl, by intro x hSx; go_simp; try (first | rfl | go_num)⟩) (Or.inl HS) ?_
      simp only [List.set_cons_zero, List.set_cons_succ]
      refine takeL (i := 4) (d := 25) (v := .slice (some ⟨g, 0, none⟩) 0 0) rfl rfl (by kernel_rfl) (by kernel_rfl) (by kernel_rfl) (fun _ _ _ h => h) (Or.inl ⟨by rfl, by intro x hSx; go_simp; try (first | rfl | go_num)⟩) (Or.inl HS) ?_
      simp only [List.set_cons_zero, List.set_cons_succ]
      refine takeL (i := 5) (d := 26) (v := .slice (some ⟨g, 0, none⟩) len len) rfl rfl (by kernel_rfl) (by kernel_rfl) (by kernel_rfl) (fun _ _ _ h => h) (Or.inl ⟨by rfl, by intro x hSx; go_simp; try (first | rfl | go_num)⟩) (Or.inl HS) ?_
      simp only [List.set_cons_zero, List.set_cons_succ]
      refine takeL (i := 6) (d := 27) (v := .int .i64 (a : Int)) rfl rfl (by kernel_rfl) (by kernel_rfl) (by kernel_rfl) (fun _ _ _ h => h) (Or.inl ⟨by rfl, by intro x hSx; go_simp; try (first | rfl | go_num)⟩) (Or.inl HS) ?_
      simp only [List.set_cons_zero, List.set_cons_succ]
      refine takeL (i := 7) (d := 28) (v := .slice (some ⟨g, a * 7, none⟩) m m) rfl rfl (by kernel_rfl) (by kernel_rfl) (by kernel_rfl) (fun _ _ _ h => h) (Or.inl ⟨by rfl, by intro x hSx; go_simp; try (first | rfl | go_num)⟩) (Or.inl HS) ?_
      simp only [List.set_cons_zero, List.set_cons_succ]
      refine wpAnyH_all (rs := [8]) (by kernel_rfl) (by simp) ?_
      intro i hi
      rw [List.mem_singleton] at hi
      subst hi
      refine wpOp_step rfl fun Kq hKq => ?_
      rw [if_pos (by rfl)]
      have hm2 : len = a + m := HM.out
      refine wp_copyL 29 (.tmp 25) (.tmp 28) rfl rfl _ _ _ _ _ _ rfl rfl g g (a + m) a (len - (a + m)) q q HS HS (by omega) (by rw [HQ.out]; omega) (by rw [HQ.out]; omega) (fun h => by omega) ?_
      intro u3 h3 c3
      refine hKq _ _ ⟨Or.inr h3, ?_⟩
      clear hKq HS HR hm2
      simp only [List.set_cons_zero, List.set_cons_succ]
      have HR3 : Hid (RowAt u3 g (layR q (a + m) ((q.drop a).take (len - (a + m))))) := h3
      have HC3 : Hid (Ch (· = g) w u3) := HC.out.trans ((Ch.refl (· = g) w2).trans ⟨c3.os, c3.tape, c3.output, c3.size, c3.block⟩)
      clear h3 c3 HC
      refine wpAnyH_done (by kernel_rfl) ?_ _
      go_wp2_with (go_at_call 168; refine (wipe_any g (a * 7) a m _ _ _ rfl HR3.out (by rw [HL.out]; exact Nat.le_of_eq HM.out.symm) (by rw [HL.out]; omega)).mono ?_; rintro e w4 ⟨rfl, h4, c4⟩)
      go_end0
      exact ⟨rfl, h4, HC3.out.trans c4⟩

    · subst hmn
      have hi : insertR r a m = insR r a m := by rw [insertR, hlen, Nat.min_eq_right (by omega), hm2, Nat.add_sub_cancel_left]
      have hcopy : insR r a m = wipeR (layR (splitR (splitR r a) a) (a + m) (((splitR (splitR r a) a).drop a).take (len - (a + m)))) a m := by rw [insR, hlen, show len - m = a by omega]
      rw [hi, hcopy]
      have hq : (splitR (splitR r a) a).length = len := by rw [splitR_length, splitR_length, hlen]
      have s1 := split_any g a len r w hr (by omega)
      have s2 : ∀ u, RowAt u g (splitR r a) → _ := fun u hu => split_any g a len (splitR r a) u hu (by omega)
      rw [splitR_length, hlen] at s2
      rw [hlen] at s1
      generalize splitR (splitR r a) a = q at *
      have hly : (layR q (a + m) ((q.drop a).take (len - (a + m)))).length = len := by rw [layR_length _ _ _ (by simp; omega), hq]
      have HQ : Hid _ := hq
      have HL : Hid _ := hly
      have e1 : (len : Int) - (a : Int) = (m : Int) := by omega
      have v1 : IntKind.i64.wrap (m : Int) = (m : Int) := IntWalk.i64_in _ (by omega)
      have e2 : (len : Int) - (m : Int) = (a : Int) := by omega
      have v2 : IntKind.i64.wrap (a : Int) = (a : Int) := IntWalk.i64_in _ (by omega)
      have v3 : IntKind.i64.wrap (len : Int) = (len : Int) := IntWalk.i64_in _ (by omega)
      have i4 : a < len := ha
      have i5 : len ≠ a := by omega
      have i6 : (a : Int) + (m : Int) = (len : Int) := by omega
      have e3 : len - a = m := by omega
      have HM : Hid _ := hm2
      clear hm2
      clear hi hcopy hq hly hr
      go_enter Tryz.func101, Tryz.ntmps101
      go_wp2_with (first | (go_at_call 167; refine (s2 _ h1).mono ?_; rintro e w2 ⟨rfl, h2, c2⟩) | (go_at_call 167; refine s1.mono ?_; rintro e w1 ⟨rfl, h1, c1⟩))
      have HR : Hid (RowAt w2 g q) := h2
      have HC : Hid (Ch (· = g) w w2) := c1.trans c2
      clear h1 h2 c1 c2 s1 s2
      have HS : RowAt ({ w2 with drawn := w2.drawn + 1 } : World) g q := HR.out
      refine wp_region_held (S := fun x => RowAt x g q ∨ RowAt x g (layR q (a + m) ((q.drop a).take (len - (a + m))))) mixedC ?_
      refine takeL (i := 0) (d := 21) (v := .slice (some ⟨g, 0, none⟩) len len) rfl rfl (by kernel_rfl) (by kernel_rfl) (by kernel_rfl) (fun _ _ _ h => h) (Or.inl ⟨by rfl, by intro x hSx; go_simp; try (first | rfl | go_num)⟩) (Or.inl HS) ?_
      simp only [List.set_cons_zero, List.set_cons_succ]
      refine takeL (i := 1) (d := 22) (v := .int .i64 (a : Int)) rfl rfl (by kernel_rfl) (by kernel_rfl) (by kernel_rfl) (fun _ _ _ h => h) (Or.inl ⟨by rfl, by intro x hSx; go_simp; try (first | rfl | go_num)⟩) (Or.inl HS) ?_
      simp only [List.set_cons_zero, List.set_cons_succ]
      refine takeL (i := 2) (d := 23) (v := .int .i64 (m : Int)) rfl rfl (by kernel_rfl) (by kernel_rfl) (by kernel_rfl) (fun _ _ _ h => h) (Or.inl ⟨by rfl, by intro x hSx; go_simp; try (first | rfl | go_num)⟩) (Or.inl HS) ?_
      simp only [List.set_cons_zero, List.set_cons_succ]
      refine takeL (i := 3) (d := 24) (v := .int .i64 (len : Int)) rfl rfl (by kernel_rfl) (by kernel_rfl) (by kernel_rfl) (fun _ _ _ h => h) (Or.inl ⟨by rfl, by intro x hSx; go_simp; try (first | rfl | go_num)⟩) (Or.inl HS) ?_
      simp only [List.set_cons_zero, List.set_cons_succ]
      refine takeL (i := 4) (d := 25) (v := .slice (some ⟨g, 0, none⟩) 0 0) rfl rfl (by kernel_rfl) (by kernel_rfl) (by kernel_rfl) (fun _ _ _ h => h) (Or.inl ⟨by rfl, by intro x hSx; go_simp; try (first | rfl | go_num)⟩) (Or.inl HS) ?_
      simp only [List.set_cons_zero, List.set_cons_succ]
      refine takeL (i := 5) (d := 26) (v := .slice (some ⟨g, 0, none⟩) len len) rfl rfl (by kernel_rfl) (by kernel_rfl) (by kernel_rfl) (fun _ _ _ h => h) (Or.inl ⟨by rfl, by intro x hSx; go_simp; try (first | rfl | go_num)⟩) (Or.inl HS) ?_
      simp only [List.set_cons_zero, List.set_cons_succ]
      refine takeL (i := 6) (d := 27) (v := .int .i64 (a : Int)) rfl rfl (by kernel_rfl) (by kernel_rfl) (by kernel_rfl) (fun _ _ _ h => h) (Or.inl ⟨by rfl, by intro x hSx; go_simp; try (first | rfl | go_num)⟩) (Or.inl HS) ?_
      simp only [List.set_cons_zero, List.set_cons_succ]
      refine takeL (i := 7) (d := 28) (v := .slice (some ⟨g, a * 7, none⟩) m m) rfl rfl (by kernel_rfl) (by kernel_rfl) (by kernel_rfl) (fun _ _ _ h => h) (Or.inl ⟨by rfl, by intro x hSx; go_simp; try (first | rfl | go_num)⟩) (Or.inl HS) ?_
      simp only [List.set_cons_zero, List.set_cons_succ]
      refine wpAnyH_all (rs := [8]) (by kernel_rfl) (by simp) ?_
      intro i hi
      rw [List.mem_singleton] at hi
      subst hi
      refine wpOp_step rfl fun Kq hKq => ?_
      rw [if_pos (by rfl)]
      have hm2 : len = a + m := HM.out
      refine wp_copyL 29 (.tmp 25) (.tmp 28) rfl rfl _ _ _ _ _ _ rfl rfl g g (a + m) a (len - (a + m)) q q HS HS (by omega) (by rw [HQ.out]; omega) (by rw [HQ.out]; omega) (fun h => by omega) ?_
      intro u3 h3 c3
      refine hKq _ _ ⟨Or.inr h3, ?_⟩
      clear hKq HS HR hm2
      simp only [List.set_cons_zero, List.set_cons_succ]
      have HR3 : Hid (RowAt u3 g (layR q (a + m) ((q.drop a).take (len - (a + m))))) := h3
      have HC3 : Hid (Ch (· = g) w u3) := HC.out.trans ((Ch.refl (· = g) w2).trans ⟨c3.os, c3.tape, c3.output, c3.size, c3.block⟩)
      clear h3 c3 HC
      refine wpAnyH_done (by kernel_rfl) ?_ _
      go_wp2_with (go_at_call 168; refine (wipe_any g (a * 7) a m _ _ _ rfl HR3.out (by rw [HL.out]; exact Nat.le_of_eq HM.out.symm) (by rw [HL.out]; omega)).mono ?_; rintro e w4 ⟨rfl, h4, c4⟩)
      go_end0
      exact ⟨rfl, h4, HC3.out.trans c4⟩
end Go.Proofs.YtheibfffilomcaaGreatDoor
