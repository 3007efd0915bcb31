/- Walks of package cells: Remove. -/
import Derived.Test.YtheibfffilomcaaGreatDoorCf
namespace Go.Proofs.YtheibfffilomcaaGreatDoor
open Go.RowKit

set_option maxRecDepth 100000 in
set_option maxHeartbeats 1000000 in
theorem remove_any (g a n len : Nat) (r : List CellS) (w : World) (hr : RowAt w g r) (hlen : r.length = len) (ha : a < len) (hn : n ≤ 70000) (hn1 : 1 ≤ n) (hl : len ≤ 100) :
    Calls Tryz.prog 186 #[.slice (some ⟨g, 0, none⟩) len len, .int .i64 (a : Int), .int .i64 (n : Int)] w fun e w' => e = .returned (.tuple #[]) ∧ RowAt w' g (removeR r a n) ∧ Ch (· = g) w w' := by
  by_cases hm : n < len - a
  · have hi : removeR r a n = remR r a n := by rw [removeR, Nat.min_eq_left (by omega)]
    have hcopy : remR r a n = wipeR (layR (splitR (splitR r a) (a + n)) a (((splitR (splitR r a) (a + n)).drop (a + n)).take (len - (a + n)))) (len - n) n := by
      have hd : (((splitR (splitR r a) (a + n)).drop (a + n)).take (len - (a + n))) = (splitR (splitR r a) (a + n)).drop (a + n) := List.take_of_length_le (by rw [List.length_drop, splitR_length, splitR_length, hlen]; omega)
      rw [remR, hlen, hd]
    rw [hi, hcopy]
    have hq : (splitR (splitR r a) (a + n)).length = len := by rw [splitR_length, splitR_length, hlen]
    have s1 := split_any g a len r w hr (by omega)
    have s2 : ∀ u, RowAt u g (splitR r a) → _ := fun u hu => split_any g (a + n) len (splitR r a) u hu (by omega)
    rw [splitR_length, hlen] at s2
    rw [hlen] at s1
    generalize splitR (splitR r a) (a + n) = q at *
    have hly : (layR q a ((q.drop (a + n)).take (len - (a + n)))).length = len := by rw [layR_length _ _ _ (by simp; omega), hq]
    have HQ : Hid _ := hq
    have HL : Hid _ := hly
    have e1 : (len : Int) - (a : Int) = ((len - a : Nat) : Int) := by omega
    have v1 : IntKind.i64.wrap ((len - a : Nat) : Int) = ((len - a : Nat) : Int) := IntWalk.i64_in _ (by omega)
    have e2 : (len : Int) - (n : Int) = ((len - n : Nat) : Int) := by omega
    have v2 : IntKind.i64.wrap ((len - n : Nat) : Int) = ((len - n : Nat) : Int) := IntWalk.i64_in _ (by omega)
    have v3 : IntKind.i64.wrap ((a : Int) + (n : Int)) = (a : Int) + (n : Int) := IntWalk.i64_in _ (by omega)
    have i1 : (n : Int) < ((len - a : Nat) : Int) := by omega
    have i3 : a + n < len := by omega
    have i4 : a < len := ha
    have i5 : len ≠ a := by omega
    have i6 : len ≠ a + n := by omega
    have i7 : len ≠ len - n := by omega
    have i8 : len - (len - n) = n := by omega
    have t1 : ((a : Int) + (n : Int)).toNat = a + n := by omega
    have j1 : (0 : Int) ≤ (a : Int) + (n : Int) := by omega
    have j2 : (a : Int) + (n : Int) ≤ (len : Int) := by omega
    clear hi hcopy hq hly hr
    go_enter Tryz.func186, Tryz.ntmps186
    go_wp2_with (first | (go_at_call 167; refine (s2 _ h1).mono ?_; rintro e w2 ⟨rfl, h2, c2⟩) | (go_at_call 167; refine s1.mono ?_; rintro e w1 ⟨rfl, h1, c1⟩))
    have HR : Hid (RowAt w2 g q) := h2
    have HC : Hid (Ch (· = g) w w2) := c1.trans c2
    clear h1 h2 c1 c2 s1 s2
    have HS : RowAt ({ w2 with drawn := w2.drawn + 1 } : World) g q := HR.out
    refine wp_region_held (S := fun x => RowAt x g q ∨ RowAt x g (layR q a ((q.drop (a + n)).take (len - (a + n))))) mixedC ?_
    refine takeL (i := 0) (d := 20) (v := .slice (some ⟨g, 0, none⟩) len len) rfl rfl (by kernel_rfl) (by kernel_rfl) (by kernel_rfl) (fun _ _ _ h => h) (Or.inl ⟨by rfl, by intro x hSx; go_simp; try (first | rfl | go_num)⟩) (Or.inl HS) ?_
    simp only [List.set_cons_zero, List.set_cons_succ]
    refine takeL (i := 1) (d := 21) (v := .int .i64 (a : Int)) rfl rfl (by kernel_rfl) (by kernel_rfl) (by kernel_rfl) (fun _ _ _ h => h) (Or.inl ⟨by rfl, by intro x hSx; go_simp; try (first | rfl | go_num)⟩) (Or.inl HS) ?_
    simp only [List.set_cons_zero, List.set_cons_succ]
    refine takeL (i := 2) (d := 22) (v := .slice (some ⟨g, a * 7, none⟩) (len - a) (len - a)) rfl rfl (by kernel_rfl) (by kernel_rfl) (by kernel_rfl) (fun _ _ _ h => h) (Or.inl ⟨by rfl, by intro x hSx; go_simp; try (first | rfl | go_num)⟩) (Or.inl HS) ?_
    simp only [List.set_cons_zero, List.set_cons_succ]
    refine takeL (i := 3) (d := 23) (v := .slice (some ⟨g, 0, none⟩) len len) rfl rfl (by kernel_rfl) (by kernel_rfl) (by kernel_rfl) (fun _ _ _ h => h) (Or.inl ⟨by rfl, by intro x hSx; go_simp; try (first | rfl | go_num)⟩) (Or.inl HS) ?_
    simp only [List.set_cons_zero, List.set_cons_succ]
    refine takeL (i := 4) (d := 24) (v := .int .i64 (a : Int)) rfl rfl (by kernel_rfl) (by kernel_rfl) (by kernel_rfl) (fun _ _ _ h => h) (Or.inl ⟨by rfl, by intro x hSx; go_simp; try (first | rfl | go_num)⟩) (Or.inl HS) ?_
    simp only [List.set_cons_zero, List.set_cons_succ]
    refine takeL (i := 5) (d := 25) (v := .int .i64 (n : Int)) rfl rfl (by kernel_rfl) (by kernel_rfl) (by kernel_rfl) (fun _ _ _ h => h) (Or.inl ⟨by rfl, by intro x hSx; go_simp; try (first | rfl | go_num)⟩) (Or.inl HS) ?_
    simp only [List.set_cons_zero, List.set_cons_succ]
    refine takeL (i := 6) (d := 26) (v := .int .i64 ((a : Int) + (n : Int))) rfl rfl (by kernel_rfl) (by kernel_rfl) (by kernel_rfl) (fun _ _ _ h => h) (Or.inl ⟨by rfl, by intro x hSx; go_simp; try (first | rfl | go_num)⟩) (Or.inl HS) ?_
    simp only [List.set_cons_zero, List.set_cons_succ]
    refine takeL (i := 7) (d := 27) (v := .slice (some ⟨g, (a + n) * 7, none⟩) (len - (a + n)) (len - (a + n))) rfl rfl (by kernel_rfl) (by kernel_rfl) (by kernel_rfl) (fun _ _ _ h => h) (Or.inl ⟨by rfl, by intro x hSx; go_simp; try (first | rfl | go_num)⟩) (Or.inl HS) ?_
    simp only [List.set_cons_zero, List.set_cons_succ]
    refine wpAnyH_all (rs := [8]) (by kernel_rfl) (by simp) ?_
    intro i hi
    rw [List.mem_singleton] at hi
    subst hi
    refine wpOp_step rfl fun Kq hKq => ?_
    rw [if_pos (by rfl)]
    refine wp_copyL 28 (.tmp 22) (.tmp 27) rfl rfl _ _ _ _ _ _ rfl rfl g g a (a + n) (len - (a + n)) q q HS HS (by omega) (by rw [HQ.out]; omega) (by rw [HQ.out]; omega) (fun _ => ⟨rfl, rfl⟩) ?_
    intro u3 h3 c3
    refine hKq _ _ ⟨Or.inr h3, ?_⟩
    clear hKq HS HR
    simp only [List.set_cons_zero, List.set_cons_succ]
    have HR3 : Hid (RowAt u3 g (layR q a ((q.drop (a + n)).take (len - (a + n))))) := h3
    have HC3 : Hid (Ch (· = g) w u3) := HC.out.trans ((Ch.refl (· = g) w2).trans ⟨c3.os, c3.tape, c3.output, c3.size, c3.block⟩)
    clear h3 c3 HC
    refine wpAnyH_done (by kernel_rfl) ?_ _
    go_wp2_with (go_at_call 168; refine (wipe_any g ((len - n) * 7) (len - n) n _ _ _ rfl HR3.out (by rw [HL.out]; omega) (by rw [HL.out]; omega)).mono ?_; rintro e w4 ⟨rfl, h4, c4⟩)
    go_end0
    exact ⟨rfl, h4, HC3.out.trans c4⟩
  · obtain ⟨m, hm2⟩ : ∃ m, len = a + m := ⟨len - a, by omega⟩
    rcases (show m < n ∨ m = n by omega) with hmn | hmn
    · have k1 : ¬ n ≤ m := by omega
      have k3 : ¬ (n : Int) ≤ (m : Int) := by omega
      have hi : removeR r a n = remR r a m := by rw [removeR, hlen, Nat.min_eq_right (by omega), hm2, Nat.add_sub_cancel_left]
      have hcopy : remR r a m = wipeR (layR (splitR (splitR r a) len) a (((splitR (splitR r a) len).drop len).take (len - len))) a m := by
        have hd : (((splitR (splitR r a) len).drop len).take (len - len)) = (splitR (splitR r a) len).drop len := List.take_of_length_le (by rw [List.length_drop, splitR_length, splitR_length, hlen]; omega)
        rw [remR, hlen, show a + m = len by omega, show len - m = a by omega, hd]
      rw [hi, hcopy]
      have hq : (splitR (splitR r a) len).length = len := by rw [splitR_length, splitR_length, hlen]
      have s1 := split_any g a len r w hr (by omega)
      have s2 : ∀ u, RowAt u g (splitR r a) → _ := fun u hu => split_any g len len (splitR r a) u hu (by omega)
      rw [splitR_length, hlen] at s2
      rw [hlen] at s1
      generalize splitR (splitR r a) len = q at *
      have hly : (layR q a ((q.drop len).take (len - len))).length = len := by rw [layR_length _ _ _ (by simp; omega), hq]
      have HQ : Hid _ := hq
      have HL : Hid _ := hly
      have e1 : (len : Int) - (a : Int) = (m : Int) := by omega
      have v1 : IntKind.i64.wrap (m : Int) = (m : Int) := IntWalk.i64_in _ (by omega)
      have e2 : (len : Int) - (m : Int) = (a : Int) := by omega
      have v2 : IntKind.i64.wrap (a : Int) = (a : Int) := IntWalk.i64_in _ (by omega)
      have v3 : IntKind.i64.wrap (len : Int) = (len : Int) := IntWalk.i64_in _ (by omega)
      have i4 : a < len := ha
      have i5 : len ≠ a := by omega
      have i6 : (a : Int) + (m : Int) = (len : Int) := by omega
      have e3 : len - a = m := by omega
      have HM : Hid _ := hm2
      clear hm2
      clear hi hcopy hq hly hr
      go_enter Tryz.func186, Tryz.ntmps186
      go_wp2_with (first | (go_at_call 167; refine (s2 _ h1).mono ?_; rintro e w2 ⟨rfl, h2, c2⟩) | (go_at_call 167; refine s1.mono ?_; rintro e w1 ⟨rfl, h1, c1⟩))
      have HR : Hid (RowAt w2 g q) := h2
      have HC : Hid (Ch (· = g) w w2) := c1.trans c2
      clear h1 h2 c1 c2 s1 s2
      have HS : RowAt ({ w2 with drawn := w2.drawn + 1 } : World) g q := HR.out
      refine wp_region_held (S := fun x => RowAt x g q ∨ RowAt x g (layR q a ((q.drop len).take (len - len)))) mixedC ?_
      refine takeL (i := 0) (d := 20) (v := .slice (some ⟨g, 0, none⟩) len len) rfl rfl (by kernel_rfl) (by kernel_rfl) (by kernel_rfl) (fun _ _ _ h => h) (Or.inl ⟨by rfl, by intro x hSx; go_simp; try (first | rfl | go_num)⟩) (Or.inl HS) ?_
      simp only [List.set_cons_zero, List.set_cons_succ]
      refine takeL (i := 1) (d := 21) (v := .int .i64 (a : Int)) rfl rfl (by kernel_rfl) (by kernel_rfl) (by kernel_rfl) (fun _ _ _ h => h) (Or.inl ⟨by rfl, by intro x hSx; go_simp; try (first | rfl | go_num)⟩) (Or.inl HS) ?_
      simp only [List.set_cons_zero, List.set_cons_succ]
      refine takeL (i := 2) (d := 22) (v := .slice (some ⟨g, a * 7, none⟩) m m) rfl rfl (by kernel_rfl) (by kernel_rfl) (by kernel_rfl) (fun _ _ _ h => h) (Or.inl ⟨by rfl, by intro x hSx; go_simp; try (first | rfl | go_num)⟩) (Or.inl HS) ?_
      simp only [List.set_cons_zero, List.set_cons_succ]
      refine takeL (i := 3) (d := 23) (v := .slice (some ⟨g, 0, none⟩) len len) rfl rfl (by kernel_rfl) (by kernel_rfl) (by kernel_rfl) (fun _ _ _ h => h) (Or.inl ⟨by rfl, by intro x hSx; go_simp; try (first | rfl | go_num)⟩) (Or.inl HS) ?_
      simp only [List.set_cons_zero, List.set_cons_succ]
      refine takeL (i := 4) (d := 24) (v := .int .i64 (a : Int)) rfl rfl (by kernel_rfl) (by kernel_rfl) (by kernel_rfl) (fun _ _ _ h => h) (Or.inl ⟨by rfl, by intro x hSx; go_simp; try (first | rfl | go_num)⟩) (Or.inl HS) ?_
      simp only [List.set_cons_zero, List.set_cons_succ]
      refine takeL (i := 5) (d := 25) (v := .int .i64 (m : Int)) rfl rfl (by kernel_rfl) (by kernel_rfl) (by kernel_rfl) (fun _ _ _ h => h) (Or.inl ⟨by rfl, by intro x hSx; go_simp; try (first | rfl | go_num)⟩) (Or.inl HS) ?_
      simp only [List.set_cons_zero, List.set_cons_succ]
      refine takeL (i := 6) (d := 26) (v := .int .i64 (len : Int)) rfl rfl (by kernel_rfl) (by kernel_rfl) (by kernel_rfl) (fun _ _ _ h => h) (Or.inl ⟨by rfl, by intro x hSx; go_simp; try (first | rfl | go_num)⟩) (Or.inl HS) ?_
      simp only [List.set_cons_zero, List.set_cons_succ]
      refine takeL (i := 7) (d := 27) (v := .slice (some ⟨g, 0, none⟩) 0 0) rfl rfl (by kernel_rfl) (by kernel_rfl) (by kernel_rfl) (fun _ _ _ h => h) (Or.inl ⟨by rfl, by intro x hSx; go_simp; try (first | rfl | go_num)⟩) (Or.inl HS) ?_
      simp only [List.set_cons_zero, List.set_cons_succ]
      refine wpAnyH_all (rs := [8]) (by kernel_rfl) (by simp) ?_
      intro i hi
      rw [List.mem_singleton] at hi
      subst hi
      refine wpOp_step rfl fun Kq hKq => ?_
      rw [if_pos (by rfl)]
      have hm2 : len = a + m := HM.out
      refine wp_copyL 28 (.tmp 22) (.tmp 27) rfl rfl _ _ _ _ _ _ rfl rfl g g a len (len - len) q q HS HS (by omega) (by rw [HQ.out]; omega) (by rw [HQ.out]; omega) (fun h => by omega) ?_
      intro u3 h3 c3
      refine hKq _ _ ⟨Or.inr h3, ?_⟩
      clear hKq HS HR hm2
      simp only [List.set_cons_zero, List.set_cons_succ]
      have HR3 : Hid (RowAt u3 g (layR q a ((q.drop len).take (len - len)))) := h3
      have HC3 : Hid (Ch (· = g) w u3) := HC.out.trans ((Ch.refl (· = g) w2).trans ⟨c3.os, c3.tape, c3.output, c3.size, c3.block⟩)
      clear h3 c3 HC
      refine wpAnyH_done (by kernel_rfl) ?_ _
      go_wp2_with (go_at_call 168; refine (wipe_any g (a * 7) a m _ _ _ rfl HR3.out (by rw [HL.out]; exact Nat.le_of_eq HM.out.symm) (by rw [HL.out]; omega)).mono ?_; rintro e w4 ⟨rfl, h4, c4⟩)
      go_end0
      exact ⟨rfl, h4, HC3.out.trans c4⟩
    · subst hmn
      have hi : removeR r a m = remR r a m := by rw [removeR, hlen, Nat.min_eq_right (by omega), hm2, Nat.add_sub_cancel_left]
      have hcopy : remR r a m = wipeR (layR (splitR (splitR r a) len) a (((splitR (splitR r a) len).drop len).take (len - len))) a m := by
        have hd : (((splitR (splitR r a) len).drop len).take (len - len)) = (splitR (splitR r a) len).drop len := List.take_of_length_le (by rw [List.length_drop, splitR_length, splitR_length, hlen]; omega)
        rw [remR, hlen, show a + m = len by omega, show len - m = a by omega, hd]
      rw [hi, hcopy]
      have hq : (splitR (splitR r a) len).length = len := by rw [splitR_length, splitR_length, hlen]
      have s1 := split_any g a len r w hr (by omega)
      have s2 : ∀ u, RowAt u g (splitR r a) → _ := fun u hu => split_any g len len (splitR r a) u hu (by omega)
      rw [splitR_length, hlen] at s2
      rw [hlen] at s1
      generalize splitR (splitR r a) len = q at *
      have hly : (layR q a ((q.drop len).take (len - len))).length = len := by rw [layR_length _ _ _ (by simp; omega), hq]
      have HQ : Hid _ := hq
      have HL : Hid _ := hly
      have e1 : (len : Int) - (a : Int) = (m : Int) := by omega
      have v1 : IntKind.i64.wrap (m : Int) = (m : Int) := IntWalk.i64_in _ (by omega)
      have e2 : (len : Int) - (m : Int) = (a : Int) := by omega
      have v2 : IntKind.i64.wrap (a : Int) = (a : Int) := IntWalk.i64_in _ (by omega)
      have v3 : IntKind.i64.wrap (len : Int) = (len : Int) := IntWalk.i64_in _ (by omega)
      have i4 : a < len := ha
      have i5 : len ≠ a := by omega
      have i6 : (a : Int) + (m : Int) = (len : Int) := by omega
      have e3 : len - a = m := by omega
      have HM : Hid _ := hm2
      clear hm2
      clear hi hcopy hq hly hr
      go_enter Tryz.func186, Tryz.ntmps186
      go_wp2_with (first | (go_at_call 167; refine (s2 _ h1).mono ?_; rintro e w2 ⟨rfl, h2, c2⟩) | (go_at_call 167; refine s1.mono ?_; rintro e w1 ⟨rfl, h1, c1⟩))
      have HR : Hid (RowAt w2 g q) := h2
      have HC : Hid (Ch (· = g) w w2) := c1.trans c2
      clear h1 h2 c1 c2 s1 s2
      have HS : RowAt ({ w2 with drawn := w2.drawn + 1 } : World) g q := HR.out
      refine wp_region_held (S := fun x => RowAt x g q ∨ RowAt x g (layR q a ((q.drop len).take (len - len)))) mixedC ?_
      refine takeL (i := 0) (d := 20) (v := .slice (some ⟨g, 0, none⟩) len len) rfl rfl (by kernel_rfl) (by kernel_rfl) (by kernel_rfl) (fun _ _ _ h => h) (Or.inl ⟨by rfl, by intro x hSx; go_simp; try (first | rfl | go_num)⟩) (Or.inl HS) ?_
      simp only [List.set_cons_zero, List.set_cons_succ]
      refine takeL (i := 1) (d := 21) (v := .int .i64 (a : Int)) rfl rfl (by kernel_rfl) (by kernel_rfl) (by kernel_rfl) (fun _ _ _ h => h) (Or.inl ⟨by rfl, by intro x hSx; go_simp; try (first | rfl | go_num)⟩) (Or.inl HS) ?_
      simp only [List.set_cons_zero, List.set_cons_succ]
      refine takeL (i := 2) (d := 22) (v := .slice (some ⟨g, a * 7, none⟩) m m) rfl rfl (by kernel_rfl) (by kernel_rfl) (by kernel_rfl) (fun _ _ _ h => h) (Or.inl ⟨by rfl, by intro x hSx; go_simp; try (first | rfl | go_num)⟩) (Or.inl HS) ?_
      simp only [List.set_cons_zero, List.set_cons_succ]
      refine takeL (i := 3) (d := 23) (v := .slice (some ⟨g, 0, none⟩) len len) rfl rfl (by kernel_rfl) (by kernel_rfl) (by kernel_rfl) (fun _ _ _ h => h) (Or.inl ⟨by rfl, by intro x hSx; go_simp; try (first | rfl | go_num)⟩) (Or.inl HS) ?_
      simp only [List.set_cons_zero, List.set_cons_succ]
      refine takeL (i := 4) (d := 24) (v := .int .i64 (a : Int)) rfl rfl (by kernel_rfl) (by kernel_rfl) (by kernel_rfl) (fun _ _ _ h => h) (Or.inl ⟨by rfl, by intro x hSx; go_simp; try (first | rfl | go_num)⟩) (Or.inl HS) ?_
      simp only [List.set_cons_zero, List.set_cons_succ]
      refine takeL (i := 5) (d := 25) (v := .int .i64 (m : Int)) rfl rfl (by kernel_rfl) (by kernel_rfl) (by kernel_rfl) (fun _ _ _ h => h) (Or.inl ⟨by rfl, by intro x hSx; go_simp; try (first | rfl | go_num)⟩) (Or.inl HS) ?_
      simp only [List.set_cons_zero, List.set_cons_succ]
      refine takeL (i := 6) (d := 26) (v := .int .i64 (len : Int)) rfl rfl (by kernel_rfl) (by kernel_rfl) (by kernel_rfl) (fun _ _ _ h => h) (Or.inl ⟨by rfl, by intro x hSx; go_simp; try (first | rfl | go_num)⟩) (Or.inl HS) ?_
      simp only [List.set_cons_zero, List.set_cons_succ]
      refine takeL (i := 7) (d := 27) (v := .slice (some ⟨g, 0, none⟩) 0 0) rfl rfl (by kernel_rfl) (by kernel_rfl) (by kernel_rfl) (fun _ _ _ h => h) (Or.inl ⟨by rfl, by intro x hSx; go_simp; try (first | rfl | go_num)⟩) (Or.inl HS) ?_
      simp only [List.set_cons_zero, List.set_cons_succ]
      refine wpAnyH_all (rs := [8]) (by kernel_rfl) (by simp) ?_
      intro i hi
      rw [List.mem_singleton] at hi
      subst hi
      refine wpOp_step rfl fun Kq hKq => ?_
      rw [if_pos (by rfl)]
      have hm2 : len = a + m := HM.out
      refine wp_copyL 28 (.tmp 22) (.tmp 27) rfl rfl _ _ _ _ _ _ rfl rfl g g a len (len - len) q q HS HS (by omega) (by rw [HQ.out]; omega) (by rw [HQ.out]; omega) (fun h => by omega) ?_
      intro u3 h3 c3
      refine hKq _ _ ⟨Or.inr h3, ?_⟩
      clear hKq HS HR hm2
      simp only [List.set_cons_zero, List.set_cons_succ]
      have HR3 : Hid (RowAt u3 g (layR q a ((q.drop len).take (len - len)))) := h3
      have HC3 : Hid (Ch (· = g) w u3) := HC.out.trans ((Ch.refl (· = g) w2).trans ⟨c3.os, c3.tape, c3.output, c3.size, c3.block⟩)
      clear h3 c3 HC
      refine wpAnyH_done (by kernel_rfl) ?_ _
      go_wp2_with (go_at_call 168; refine (wipe_any g (a * 7) a m _ _ _ rfl HR3.out (by rw [HL.out]; exact Nat.le_of_eq HM.out.symm) (by rw [HL.out]; omega)).mono ?_; rintro e w4 ⟨rfl, h4, c4⟩)
      go_end0
      exact ⟨rfl, h4, HC3.out.trans c4⟩
end Go.Proofs.YtheibfffilomcaaGreatDoor
