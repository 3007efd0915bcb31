/- Walks of package cells: Up. -/
import Derived.Test.YtheibfffilomcaaDoorDa
namespace Go.Proofs.YtheibfffilomcaaDoor
open Go.RowKit

set_option maxRecDepth 100000 in
set_option maxHeartbeats 1000000 in
theorem up_any (sb a len n cap cols : Nat) (gs : List Nat) (S : Sheet) (w : World) (hs : ShAt w sb gs cols S) (han : a + len ≤ S.length) (hl1 : 1 ≤ len) (hl : len ≤ 100) (hn : n ≤ 70000) (hn1 : 1 ≤ n) (hc : cols ≤ 100) (hcap : len ≤ cap) :
    Calls Tryd.prog 105 #[.slice (some ⟨sb, a, none⟩) len cap, .int .i64 (n : Int)] w fun e w' => e = .returned (.tuple #[]) ∧ ShAt w' sb gs cols (upS S a len n cols) ∧ Ch (· ∈ gs) w w' := by
  by_cases hm : n < len
  · have e : upS S a len n cols = clearRows (upRows S a n (len - n)) (a + (len - n)) cols n := by rw [upS, Nat.min_eq_left (by omega), show len - (len - n) = n by omega]
    rw [e]
    clear e
    have e1 : (len : Int) - (n : Int) = ((len - n : Nat) : Int) := by omega
    have v1 : IntKind.i64.wrap ((len - n : Nat) : Int) = ((len - n : Nat) : Int) := IntWalk.i64_in _ (by omega)
    have i1 : (n : Int) < (len : Int) := by omega
    have i2 : n ≤ len := by omega
    have i3 : len - (len - n) = n := by omega
    have i4 : cap ≠ len - n := by omega
    have i5 : len - n ≤ len := by omega
    have i6 : len - n ≤ cap := by omega
    have HS0 : Hid (ShAt w sb gs cols S) := hs
    clear hs
    go_enter Tryd.func105, Tryd.ntmps105
    go_wp2_with fail
    go_loopw [14] (fun i wr => ∃ k : Nat, k ≤ len - n ∧ i = .int .i64 k ∧ ShAt wr sb gs cols (upRows S a n k) ∧ Ch (· ∈ gs) w wr) (fun i _ => len - n - (intOf i).toNat)
    case atStart => exact ⟨0, Nat.zero_le _, rfl, HS0.out, Ch.refl _ _⟩
    case round =>
      obtain ⟨k, hk, rfl, hrk, hch⟩ := hrel
      by_cases hlt : k < len - n
      · have ik : (k : Int) < ((len - n : Nat) : Int) := by omega
        obtain ⟨g, hg, hcell, hrow, hlen⟩ := hrk.get (i := a + k) (by rw [upRows_length]; omega)
        obtain ⟨g2, hg2, hcell2, hrow2, hlen2⟩ := hrk.get (i := a + k + n) (by rw [upRows_length]; omega)
        have HS : Hid (ShAt wr sb gs cols (upRows S a n k)) := hrk
        have HC : Hid (Ch (· ∈ gs) w wr) := hch
        have HR : Hid (RowAt wr g ((upRows S a n k).getD (a + k) [])) := hrow
        have HL : Hid (((upRows S a n k).getD (a + k) []).length = cols) := hlen
        have HR2 : Hid (RowAt wr g2 ((upRows S a n k).getD (a + k + n) [])) := hrow2
        have HL2 : Hid (((upRows S a n k).getD (a + k + n) []).length = cols) := hlen2
        have HG : Hid (gs[a + k]? = some g) := hg
        have kl : k < len := by omega
        have kl2 : (k : Int) < (len : Int) := by omega
        have v2 : IntKind.i64.wrap ((k : Int) + (n : Int)) = (k : Int) + (n : Int) := IntWalk.i64_in _ (by omega)
        have t1 : ((k : Int) + (n : Int)).toNat = k + n := by omega
        have j1 : (0 : Int) ≤ (k : Int) + (n : Int) := by omega
        have j2 : (k : Int) + (n : Int) < (len : Int) := by omega
        have j3 : k + n < len := by omega
        have j4 : a + (k + n) = a + k + n := by omega
        clear hrk hch hrow hlen hrow2 hlen2 hg hg2
        go_wp2_with fail
        have HH : World.cell? ({ wr with drawn := wr.drawn + 1 } : World) ⟨sb, a + k, none⟩ = some (.slice (some ⟨g, 0, none⟩) cols cols) ∧ World.cell? ({ wr with drawn := wr.drawn + 1 } : World) ⟨sb, a + k + n, none⟩ = some (.slice (some ⟨g2, 0, none⟩) cols cols) := ⟨hcell, hcell2⟩
        refine wp_region_held (S := fun x => x.cell? ⟨sb, a + k, none⟩ = some (.slice (some ⟨g, 0, none⟩) cols cols) ∧ x.cell? ⟨sb, a + k + n, none⟩ = some (.slice (some ⟨g2, 0, none⟩) cols cols)) mixedC ?_
        refine takeL (i := 0) (d := 17) (v := .slice (some ⟨sb, a, none⟩) len cap) rfl rfl (by kernel_rfl) (by kernel_rfl) (by kernel_rfl) (fun _ _ _ h => h) (Or.inl ⟨by rfl, by intro x hSx; go_simp; try (first | rfl | go_num)⟩) HH ?_
        simp only [List.set_cons_zero, List.set_cons_succ]
        refine takeL (i := 1) (d := 18) (v := .int .i64 (k : Int)) rfl rfl (by kernel_rfl) (by kernel_rfl) (by kernel_rfl) (fun _ _ _ h => h) (Or.inl ⟨by rfl, by intro x hSx; go_simp; try (first | rfl | go_num)⟩) HH ?_
        simp only [List.set_cons_zero, List.set_cons_succ]
        refine takeL (i := 2) (d := 19) (v := .pointer (some ⟨sb, a + k, none⟩)) rfl rfl (by kernel_rfl) (by kernel_rfl) (by kernel_rfl) (fun _ _ _ h => h) (Or.inl ⟨by rfl, by intro x hSx; go_simp; try (first | rfl | go_num)⟩) HH ?_
        simp only [List.set_cons_zero, List.set_cons_succ]
        refine takeL (i := 3) (d := 20) (v := .slice (some ⟨g, 0, none⟩) cols cols) rfl rfl (by kernel_rfl) (by kernel_rfl) (by kernel_rfl) (fun _ _ _ h => h) (Or.inl ⟨by rfl, by intro x hSx; have hSc := hSx.1; go_simp; try (first | rfl | go_num)⟩) HH ?_
        simp only [List.set_cons_zero, List.set_cons_succ]
        refine takeL (i := 4) (d := 21) (v := .slice (some ⟨sb, a, none⟩) len cap) rfl rfl (by kernel_rfl) (by kernel_rfl) (by kernel_rfl) (fun _ _ _ h => h) (Or.inl ⟨by rfl, by intro x hSx; go_simp; try (first | rfl | go_num)⟩) HH ?_
        simp only [List.set_cons_zero, List.set_cons_succ]
        refine takeL (i := 5) (d := 22) (v := .int .i64 (k : Int)) rfl rfl (by kernel_rfl) (by kernel_rfl) (by kernel_rfl) (fun _ _ _ h => h) (Or.inl ⟨by rfl, by intro x hSx; go_simp; try (first | rfl | go_num)⟩) HH ?_
        simp only [List.set_cons_zero, List.set_cons_succ]
        refine takeL (i := 6) (d := 23) (v := .int .i64 (n : Int)) rfl rfl (by kernel_rfl) (by kernel_rfl) (by kernel_rfl) (fun _ _ _ h => h) (Or.inl ⟨by rfl, by intro x hSx; go_simp; try (first | rfl | go_num)⟩) HH ?_
        simp only [List.set_cons_zero, List.set_cons_succ]
        refine takeL (i := 7) (d := 24) (v := .int .i64 ((k : Int) + (n : Int))) rfl rfl (by kernel_rfl) (by kernel_rfl) (by kernel_rfl) (fun _ _ _ h => h) (Or.inl ⟨by rfl, by intro x hSx; go_simp; try (first | rfl | go_num)⟩) HH ?_
        simp only [List.set_cons_zero, List.set_cons_succ]
        refine takeL (i := 8) (d := 25) (v := .pointer (some ⟨sb, a + k + n, none⟩)) rfl rfl (by kernel_rfl) (by kernel_rfl) (by kernel_rfl) (fun _ _ _ h => h) (Or.inl ⟨by rfl, by intro x hSx; go_simp; try (first | rfl | go_num)⟩) HH ?_
        simp only [List.set_cons_zero, List.set_cons_succ]
        refine takeL (i := 9) (d := 26) (v := .slice (some ⟨g2, 0, none⟩) cols cols) rfl rfl (by kernel_rfl) (by kernel_rfl) (by kernel_rfl) (fun _ _ _ h => h) (Or.inl ⟨by rfl, by intro x hSx; have hSc := hSx.2; go_simp; try (first | rfl | go_num)⟩) HH ?_
        simp only [List.set_cons_zero, List.set_cons_succ]
        refine wpAnyH_all (rs := [10]) (by kernel_rfl) (by simp) ?_
        intro i hi
        rw [List.mem_singleton] at hi
        subst hi
        refine wpOp_step rfl fun Kq hKq => ?_
        rw [if_pos (by rfl)]
        refine wp_copyL 27 (.tmp 20) (.tmp 26) rfl rfl _ _ _ _ _ _ rfl rfl g g2 0 0 cols _ _ HR.out HR2.out (by omega) (by rw [HL.out]; omega) (by rw [HL2.out]; omega) (fun _ => ⟨rfl, rfl⟩) ?_
        intro u3 h3 c3
        rw [lay_all _ _ _ HL.out HL2.out] at h3
        have c3' : Ch (· = g) wr u3 := ⟨c3.os, c3.tape, c3.output, c3.size, c3.block⟩
        have S2 := HS.out.set HG.out h3 HL2.out c3'
        have C2 : Ch (· ∈ gs) w u3 := HC.out.trans (c3'.mono fun k _ e => e ▸ List.mem_of_getElem? HG.out)
        have hne : sb ≠ g := fun e => HS.out.out (e ▸ List.mem_of_getElem? HG.out)
        have hb3 := c3'.block sb HS.out.lt hne
        refine hKq _ _ ⟨⟨(World.cell?_of_block hb3).trans hcell, (World.cell?_of_block hb3).trans hcell2⟩, ?_⟩
        clear hKq HS HC HR HL HR2 HL2 HG h3 c3 c3' hb3 HH hcell hcell2 HS0
        simp only [List.set_cons_zero, List.set_cons_succ]
        refine wpAnyH_done (by kernel_rfl) ?_ _
        go_wp2_with fail
        go_roundw
        case rel => exact ⟨k + 1, by omega, by go_num, S2, C2⟩
        case measure => simp [intOf]; omega
      · have hkn : k = len - n := by omega
        subst hkn
        have HS : Hid (ShAt wr sb gs cols (upRows S a n (len - n))) := hrk
        have HC : Hid (Ch (· ∈ gs) w wr) := hch
        clear hrk hch HS0
        go_wp2_with (go_at_call 130; refine (sclear_any sb (a + (len - n)) n _ cols gs _ _ HS.out (by rw [upRows_length]; omega) (by omega) hc).mono ?_; rintro e w1 ⟨rfl, h1, c1⟩)
        go_end0
        exact ⟨rfl, h1, HC.out.trans c1⟩
  · have e : upS S a len n cols = clearRows S a cols len := by rw [upS, Nat.min_eq_right (by omega), Nat.sub_self, Nat.sub_zero]; rfl
    rw [e]
    clear e
    rcases (show len < n ∨ len = n by omega) with hmn | hmn
    · have k1 : ¬ n ≤ len := by omega
      have k3 : ¬ (n : Int) ≤ (len : Int) := by omega
      have v1 : IntKind.i64.wrap 0 = 0 := IntWalk.i64_in _ (by omega)
      have i4 : cap ≠ 0 := by omega
      have HS0 : Hid (ShAt w sb gs cols S) := hs
      clear hs
      go_enter Tryd.func105, Tryd.ntmps105
      go_wp2_with fail
      go_loopw [14] (fun i wr => i = .int .i64 0 ∧ wr = w) (fun _ _ => 0)
      case atStart => exact ⟨rfl, rfl⟩
      case round =>
        obtain ⟨rfl, rfl⟩ := hrel
        go_wp2_with (go_at_call 130; refine (sclear_any sb a len _ cols gs _ _ HS0.out (by omega) (by omega) hc).mono ?_; rintro e w1 ⟨rfl, h1, c1⟩)
        go_end0
        exact ⟨rfl, h1, c1⟩
    · subst hmn
      have v1 : IntKind.i64.wrap 0 = 0 := IntWalk.i64_in _ (by omega)
      have i4 : cap ≠ 0 := by omega
      have HS0 : Hid (ShAt w sb gs cols S) := hs
      clear hs
      go_enter Tryd.func105, Tryd.ntmps105
      go_wp2_with fail
      go_loopw [14] (fun i wr => i = .int .i64 0 ∧ wr = w) (fun _ _ => 0)
      case atStart => exact ⟨rfl, rfl⟩
      case round =>
        obtain ⟨rfl, rfl⟩ := hrel
        go_wp2_with (go_at_call 130; refine (sclear_any sb a len _ cols gs _ _ HS0.out (by omega) (by omega) hc).mono ?_; rintro e w1 ⟨rfl, h1, c1⟩)
        go_end0
        exact ⟨rfl, h1, c1⟩
end Go.Proofs.YtheibfffilomcaaDoor
