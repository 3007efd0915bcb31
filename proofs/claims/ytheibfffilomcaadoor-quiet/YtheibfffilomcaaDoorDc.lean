/- Walks of package cells: Down. -/
import Derived.Test.YtheibfffilomcaaDoorDb
namespace Go.Proofs.YtheibfffilomcaaDoor
open Go.RowKit

set_option maxRecDepth 100000 in
set_option maxHeartbeats 1000000 in
theorem down_any (sb a len n cap cols : Nat) (gs : List Nat) (S : Sheet) (w : World) (hs : ShAt w sb gs cols S) (han : a + len ≤ S.length) (hl1 : 1 ≤ len) (hl : len ≤ 100) (hn : n ≤ 70000) (hn1 : 1 ≤ n) (hc : cols ≤ 100) (hcap : len ≤ cap) :
    Calls Tryd.prog 123 #[.slice (some ⟨sb, a, none⟩) len cap, .int .i64 (n : Int)] w fun e w' => e = .returned (.tuple #[]) ∧ ShAt w' sb gs cols (downS S a len n cols) ∧ Ch (· ∈ gs) w w' := by
  have e0 : (len : Int) - 1 = ((len - 1 : Nat) : Int) := by omega
  have v0 : IntKind.i64.wrap ((len - 1 : Nat) : Int) = ((len - 1 : Nat) : Int) := IntWalk.i64_in _ (by omega)
  by_cases hm : n ≤ len
  · have e : downS S a len n cols = clearRows (downRows S a n len (len - n)) a cols n := by rw [downS, Nat.min_eq_left (by omega)]
    rw [e]
    clear e
    have i1 : (n : Int) ≤ (len : Int) := by omega
    have i6 : n ≤ cap := by omega
    have i7 : (n : Int) ≤ (cap : Int) := by omega
    have HS0 : Hid (ShAt w sb gs cols S) := hs
    clear hs
    go_enter Tryd.func123, Tryd.ntmps123
    go_wp2_with fail
    go_loopw [4] (fun i wr => ∃ q j : Nat, q + j = len - 1 ∧ n ≤ q + 1 ∧ i = .int .i64 q ∧ ShAt wr sb gs cols (downRows S a n len j) ∧ Ch (· ∈ gs) w wr) (fun i _ => (intOf i).toNat)
    case atStart => exact ⟨len - 1, 0, rfl, by omega, rfl, HS0.out, Ch.refl _ _⟩
    case round =>
      obtain ⟨q, j, hqj, hnq, rfl, hrk, hch⟩ := hrel
      by_cases hlt : n ≤ q
      · have ik : (n : Int) ≤ (q : Int) := by omega
        obtain ⟨g, hg, hcell, hrow, hlen⟩ := hrk.get (i := a + q) (by rw [downRows_length]; omega)
        obtain ⟨g2, hg2, hcell2, hrow2, hlen2⟩ := hrk.get (i := a + (q - n)) (by rw [downRows_length]; omega)
        have ed : downRows S a n len (j + 1) = (downRows S a n len j).set (a + q) ((downRows S a n len j).getD (a + (q - n)) []) := by rw [downRows, show len - 1 - j = q by omega, show a + q - n = a + (q - n) by omega]
        have HE : Hid _ := ed
        have HS : Hid (ShAt wr sb gs cols (downRows S a n len j)) := hrk
        have HC : Hid (Ch (· ∈ gs) w wr) := hch
        have HR : Hid (RowAt wr g ((downRows S a n len j).getD (a + q) [])) := hrow
        have HL : Hid (((downRows S a n len j).getD (a + q) []).length = cols) := hlen
        have HR2 : Hid (RowAt wr g2 ((downRows S a n len j).getD (a + (q - n)) [])) := hrow2
        have HL2 : Hid (((downRows S a n len j).getD (a + (q - n)) []).length = cols) := hlen2
        have HG : Hid (gs[a + q]? = some g) := hg
        have HQ : Hid (q + j = len - 1) := hqj
        have kl : q < len := by omega
        have kl2 : (q : Int) < (len : Int) := by omega
        have e2 : (q : Int) - (n : Int) = ((q - n : Nat) : Int) := by omega
        have v2 : IntKind.i64.wrap ((q - n : Nat) : Int) = ((q - n : Nat) : Int) := IntWalk.i64_in _ (by omega)
        have e3 : (q : Int) - 1 = ((q - 1 : Nat) : Int) := by omega
        have v3 : IntKind.i64.wrap ((q - 1 : Nat) : Int) = ((q - 1 : Nat) : Int) := IntWalk.i64_in _ (by omega)
        have j3 : q - n < len := by omega
        have j4 : ((q - n : Nat) : Int) < (len : Int) := by omega
        clear hrk hch hrow hlen hrow2 hlen2 hg hg2 ed hqj
        go_wp2_with fail
        have HH : World.cell? ({ wr with drawn := wr.drawn + 1 } : World) ⟨sb, a + q, none⟩ = some (.slice (some ⟨g, 0, none⟩) cols cols) ∧ World.cell? ({ wr with drawn := wr.drawn + 1 } : World) ⟨sb, a + (q - n), none⟩ = some (.slice (some ⟨g2, 0, none⟩) cols cols) := ⟨hcell, hcell2⟩
        refine wp_region_held (S := fun x => x.cell? ⟨sb, a + q, none⟩ = some (.slice (some ⟨g, 0, none⟩) cols cols) ∧ x.cell? ⟨sb, a + (q - n), none⟩ = some (.slice (some ⟨g2, 0, none⟩) cols cols)) mixedC ?_
        refine takeL (i := 0) (d := 17) (v := .slice (some ⟨sb, a, none⟩) len cap) rfl rfl (by kernel_rfl) (by kernel_rfl) (by kernel_rfl) (fun _ _ _ h => h) (Or.inl ⟨by rfl, by intro x hSx; go_simp; try (first | rfl | go_num)⟩) HH ?_
        simp only [List.set_cons_zero, List.set_cons_succ]
        refine takeL (i := 1) (d := 18) (v := .int .i64 (q : Int)) rfl rfl (by kernel_rfl) (by kernel_rfl) (by kernel_rfl) (fun _ _ _ h => h) (Or.inl ⟨by rfl, by intro x hSx; go_simp; try (first | rfl | go_num)⟩) HH ?_
        simp only [List.set_cons_zero, List.set_cons_succ]
        refine takeL (i := 2) (d := 19) (v := .pointer (some ⟨sb, a + q, none⟩)) rfl rfl (by kernel_rfl) (by kernel_rfl) (by kernel_rfl) (fun _ _ _ h => h) (Or.inl ⟨by rfl, by intro x hSx; go_simp; try (first | rfl | go_num)⟩) HH ?_
        simp only [List.set_cons_zero, List.set_cons_succ]
        refine takeL (i := 3) (d := 20) (v := .slice (some ⟨g, 0, none⟩) cols cols) rfl rfl (by kernel_rfl) (by kernel_rfl) (by kernel_rfl) (fun _ _ _ h => h) (Or.inl ⟨by rfl, by intro x hSx; have hSc := hSx.1; go_simp; try (first | rfl | go_num)⟩) HH ?_
        simp only [List.set_cons_zero, List.set_cons_succ]
        refine takeL (i := 4) (d := 21) (v := .slice (some ⟨sb, a, none⟩) len cap) rfl rfl (by kernel_rfl) (by kernel_rfl) (by kernel_rfl) (fun _ _ _ h => h) (Or.inl ⟨by rfl, by intro x hSx; go_simp; try (first | rfl | go_num)⟩) HH ?_
        simp only [List.set_cons_zero, List.set_cons_succ]
        refine takeL (i := 5) (d := 22) (v := .int .i64 (q : Int)) rfl rfl (by kernel_rfl) (by kernel_rfl) (by kernel_rfl) (fun _ _ _ h => h) (Or.inl ⟨by rfl, by intro x hSx; go_simp; try (first | rfl | go_num)⟩) HH ?_
        simp only [List.set_cons_zero, List.set_cons_succ]
        refine takeL (i := 6) (d := 23) (v := .int .i64 (n : Int)) rfl rfl (by kernel_rfl) (by kernel_rfl) (by kernel_rfl) (fun _ _ _ h => h) (Or.inl ⟨by rfl, by intro x hSx; go_simp; try (first | rfl | go_num)⟩) HH ?_
        simp only [List.set_cons_zero, List.set_cons_succ]
        refine takeL (i := 7) (d := 24) (v := .int .i64 ((q - n : Nat) : Int)) rfl rfl (by kernel_rfl) (by kernel_rfl) (by kernel_rfl) (fun _ _ _ h => h) (Or.inl ⟨by rfl, by intro x hSx; go_simp; try (first | rfl | go_num)⟩) HH ?_
        simp only [List.set_cons_zero, List.set_cons_succ]
        refine takeL (i := 8) (d := 25) (v := .pointer (some ⟨sb, a + (q - n), none⟩)) rfl rfl (by kernel_rfl) (by kernel_rfl) (by kernel_rfl) (fun _ _ _ h => h) (Or.inl ⟨by rfl, by intro x hSx; go_simp; try (first | rfl | go_num)⟩) HH ?_
        simp only [List.set_cons_zero, List.set_cons_succ]
        refine takeL (i := 9) (d := 26) (v := .slice (some ⟨g2, 0, none⟩) cols cols) rfl rfl (by kernel_rfl) (by kernel_rfl) (by kernel_rfl) (fun _ _ _ h => h) (Or.inl ⟨by rfl, by intro x hSx; have hSc := hSx.2; go_simp; try (first | rfl | go_num)⟩) HH ?_
        simp only [List.set_cons_zero, List.set_cons_succ]
        refine wpAnyH_all (rs := [10]) (by kernel_rfl) (by simp) ?_
        intro i hi
        rw [List.mem_singleton] at hi
        subst hi
        refine wpOp_step rfl fun Kq hKq => ?_
        rw [if_pos (by rfl)]
        refine wp_copyL 27 (.tmp 20) (.tmp 26) rfl rfl _ _ _ _ _ _ rfl rfl g g2 0 0 cols _ _ HR.out HR2.out (by omega) (by rw [HL.out]; omega) (by rw [HL2.out]; omega) (fun _ => ⟨rfl, rfl⟩) ?_
        intro u3 h3 c3
        rw [lay_all _ _ _ HL.out HL2.out] at h3
        have c3' : Ch (· = g) wr u3 := ⟨c3.os, c3.tape, c3.output, c3.size, c3.block⟩
        have S2 := HS.out.set HG.out h3 HL2.out c3'
        rw [← HE.out] at S2
        have C2 : Ch (· ∈ gs) w u3 := HC.out.trans (c3'.mono fun k _ e => e ▸ List.mem_of_getElem? HG.out)
        have hne : sb ≠ g := fun e => HS.out.out (e ▸ List.mem_of_getElem? HG.out)
        have hb3 := c3'.block sb HS.out.lt hne
        refine hKq _ _ ⟨⟨(World.cell?_of_block hb3).trans hcell, (World.cell?_of_block hb3).trans hcell2⟩, ?_⟩
        clear hKq HS HC HR HL HR2 HL2 HG h3 c3 c3' hb3 HH hcell hcell2 HS0 HE
        simp only [List.set_cons_zero, List.set_cons_succ]
        refine wpAnyH_done (by kernel_rfl) ?_ _
        go_wp2_with fail
        go_roundw
        case rel => exact ⟨q - 1, j + 1, by have := HQ.out; omega, by omega, rfl, S2, C2⟩
        case measure => simp [intOf]; omega
      · have hkn : j = len - n := by omega
        subst hkn
        have ik : ¬ (n : Int) ≤ (q : Int) := by omega
        have HS : Hid (ShAt wr sb gs cols (downRows S a n len (len - n))) := hrk
        have HC : Hid (Ch (· ∈ gs) w wr) := hch
        clear hrk hch HS0 hqj
        go_wp2_with (go_at_call 130; refine (sclear_any sb a n _ cols gs _ _ HS.out (by rw [downRows_length]; omega) (by omega) hc).mono ?_; rintro e w1 ⟨rfl, h1, c1⟩)
        go_end0
        exact ⟨rfl, h1, HC.out.trans c1⟩
  · have e : downS S a len n cols = clearRows S a cols len := by rw [downS, Nat.min_eq_right (by omega), Nat.sub_self]; rfl
    rw [e]
    clear e
    have k3 : ¬ (n : Int) ≤ (len : Int) := by omega
    have k4 : ¬ len ≤ len - 1 := by omega
    have k5 : ¬ (len : Int) ≤ ((len - 1 : Nat) : Int) := by omega
    have HS0 : Hid (ShAt w sb gs cols S) := hs
    clear hs
    go_enter Tryd.func123, Tryd.ntmps123
    go_wp2_with fail
    go_loopw [4] (fun i wr => i = .int .i64 ((len - 1 : Nat) : Int) ∧ wr = w) (fun _ _ => 0)
    case atStart => exact ⟨rfl, rfl⟩
    case round =>
      obtain ⟨rfl, rfl⟩ := hrel
      go_wp2_with (go_at_call 130; refine (sclear_any sb a len _ cols gs _ _ HS0.out (by omega) (by omega) hc).mono ?_; rintro e w1 ⟨rfl, h1, c1⟩)
      go_end0
      exact ⟨rfl, h1, c1⟩
end Go.Proofs.YtheibfffilomcaaDoor
