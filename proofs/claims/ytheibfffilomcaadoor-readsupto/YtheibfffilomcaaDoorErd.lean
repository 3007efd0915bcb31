/- The walk of the book's read, and of Reads. -/
import Derived.Test.YtheibfffilomcaaDoorElk
import Derived.Test.YtheibfffilomcaaDoorEbo
import Derived.Test.YtheibfffilomcaaDoorDec
namespace Go.Proofs.YtheibfffilomcaaDoor
open Go.RowKit

set_option maxHeartbeats 1000000 in
theorem revents_any (s : ByteArray) (w : World) (hs : s.size ≤ 1048576) :
    Calls Tryd.prog 35 #[.string s] w fun e w' => ∃ v, e = .returned v ∧ EvAt w' w.heap.size v (eventsN (decode (bl s))) ∧ Below w.heap.size w w' := by
  have hdl := decode_len (bl s)
  have hbd := decode_bd (bl s) (bl_byte s)
  rw [bl_length] at hdl
  have hal := events_alike (decode (bl s))
  go_enter Tryd.func35, Tryd.ntmps35
  go_wp2_with fail
  refine (chars_any s true _ (by omega)).mono ?_
  rintro e w1 ⟨v1, rfl, l1, b1⟩
  rw [outN_true] at l1
  obtain ⟨D, hD⟩ : ∃ D, D = decode (bl s) := ⟨_, rfl⟩
  rw [← hD] at l1 hdl hbd hal
  have HD : Hid (D = decode (bl s)) := hD
  have HA : Hid ((RM.zero.evs D).2 = eventsN D) := hal
  clear hD hal
  obtain ⟨a1, c1, rfl, hc1, sl1, _⟩ := l1.sl
  go_wp2_with fail
  refine (read_any a1 D.length c1 D _ rfl (by omega) hbd sl1).mono ?_
  rintro e w2 ⟨v2, rfl, ev, b2⟩
  rw [HA.out] at ev
  have hsz := b1.size
  have ev' : EvAt w2 w.heap.size v2 (eventsN (decode (bl s))) := by rw [← HD.out]; exact ev.mono hsz
  have bb := b1.trans (b2.mono hsz)
  clear ev b1 b2 l1 HD HA
  go_wp2_with fail
  go_ret
  exact ⟨_, rfl, ev', bb⟩

set_option maxRecDepth 100000 in
set_option maxHeartbeats 4000000 in
theorem bookRead_any (bb : Nat) (vi vm : Value) (E : List (Value × Int)) (nx : Int) (s : ByteArray) (w : World) (h : EkAt w bb vi vm E nx) (hle : Leads w) (hs : s.size ≤ 1048576) (hE : E.length ≤ 400000000)
    (h0 : -1000000000 ≤ nx) (h1 : nx ≤ 0) :
    Calls Tryd.prog 14 #[.pointer (some ⟨bb, 0, none⟩), .string s] w fun e w' => ∃ vi' vm' E', e = .returned (.bool true) ∧ EkAt w' bb vi' vm' E' (nx - 2) ∧ E'.length = E.length + 8 ∧ Below bb w w' := by
  have hlt : bb < w.heap.size := h.lt
  have hdl := decode_len (bl s)
  rw [bl_length] at hdl
  have hok := evs_ok MS.ok.zero (decode (bl s)) (decode_bd (bl s) (bl_byte s))
  have hD21 : ∀ e ∈ eventsN (decode (bl s)), e.length = 21 := hok.2.1
  have hDl : (eventsN (decode (bl s))).length ≤ (decode (bl s)).length := hok.2.2
  clear hok
  go_enter Tryd.func14, Tryd.ntmps14
  go_wp2_with fail
  refine (events_any s _ hle (by omega)).mono ?_
  rintro e w1 ⟨v1, rfl, l1, b1⟩
  have hle1 : Leads w1 := hle.kept (b1.block 1 hle.lt)
  go_wp2_with fail
  refine (events_any s _ hle1 (by omega)).mono ?_
  rintro e w2 ⟨v2, rfl, l2, b2⟩
  go_wp2_with fail
  refine (revents_any s _ (by omega)).mono ?_
  rintro e w3 ⟨v3, rfl, l3, b3⟩
  have l1' := (l1.below b2).below b3
  have l2' := l2.below b3
  have B3 := ((h.below b1).below b2).below b3
  obtain ⟨D, hD⟩ : ∃ D, D = eventsN (decode (bl s)) := ⟨_, rfl⟩
  rw [← hD] at l1 l2 l1' l2' l3 hDl hD21
  clear hD
  obtain ⟨a1, c1, rfl, q1⟩ := ev_form l1' hD21
  obtain ⟨a2, c2, rfl, q2⟩ := ev_form l2' hD21
  obtain ⟨a3, c3, rfl, q3⟩ := ev_form l3 hD21
  have Q1 : Hid _ := q1
  have Q2 : Hid _ := q2
  have Q3 : Hid _ := q3
  clear q1 q2 q3
  go_wp2_with fail
  go_loopw [8, 9] (fun t i wr => ∃ k : Nat, k ≤ D.length ∧ t = .bool true ∧ i = .int .i64 k ∧ Below w3.heap.size w3 wr) (fun _ i _ => D.length - (intOf i).toNat)
  case atStart => exact ⟨0, Nat.zero_le _, rfl, rfl, Below.refl _ _⟩
  case round =>
    obtain ⟨k, hk, rfl, rfl, hb⟩ := hrel
    by_cases hlt : k < D.length
    · have hg? : D[k]? = some D[k] := List.getElem?_eq_getElem hlt
      have he := hD21 D[k] (List.getElem_mem hlt)
      generalize D[k] = ev at *
      obtain ⟨g1, rfl, hg1, d1⟩ := Q1.out k ev hg?
      obtain ⟨g2, rfl, hg2, d2⟩ := Q2.out k ev hg?
      obtain ⟨g3, rfl, hg3, d3⟩ := Q3.out k ev hg?
      have i1 : (k : Int) < (D.length : Int) := by omega
      clear hg?
      go_wp2_with fail
      have r1 : World.rangeAt { wr with drawn := wr.drawn + 1 } g1 (k * 21) (intC ev) := fun j v hv => (hb.cell hg1).trans (d1 j v hv)
      have r2 : World.rangeAt { wr with drawn := wr.drawn + 1 } g2 (k * 21) (intC ev) := fun j v hv => (hb.cell hg2).trans (d2 j v hv)
      have r3 : World.rangeAt { wr with drawn := wr.drawn + 1 } g3 (k * 21) (intC ev) := fun j v hv => (hb.cell hg3).trans (d3 j v hv)
      refine wp_region_held (S := fun x => x = ({ wr with drawn := wr.drawn + 1 } : World)) mixed ?_
      refine take_l (i := 0) (d := 37) (v := .slice (some ⟨g1, 0, none⟩) D.length c1) rfl rfl (by kernel_rfl) (by kernel_rfl) (by kernel_rfl) (fun _ _ _ h => h) (Or.inl ⟨by rfl, by intro x hSx; go_simp; try rfl⟩) rfl ?_
      simp only [List.set_cons_zero, List.set_cons_succ]
      refine take_l (i := 1) (d := 38) (v := .int .i64 k) rfl rfl (by kernel_rfl) (by kernel_rfl) (by kernel_rfl) (fun _ _ _ h => h) (Or.inl ⟨by rfl, by intro x hSx; go_simp; try rfl⟩) rfl ?_
      simp only [List.set_cons_zero, List.set_cons_succ]
      refine take_l (i := 2) (d := 39) (v := .pointer (some ⟨g1, k * 21, none⟩)) rfl rfl (by kernel_rfl) (by kernel_rfl) (by kernel_rfl) (fun _ _ _ h => h) (Or.inl ⟨by rfl, by intro x hSx; go_simp; try rfl⟩) rfl ?_
      simp only [List.set_cons_zero, List.set_cons_succ]
      refine take_l (i := 3) (d := 40) (v := .agg (intA ev)) rfl rfl (by kernel_rfl) (by kernel_rfl) (by kernel_rfl) (fun _ _ _ h => h) (yieldsIf_load_mid (by rfl) 75 (.tmp 39) rfl g1 (k * 21) rfl (intC ev) _ (fun x h => by subst h; exact r1) Tryd.underlying75 rfl (by rw [intC_length, he]; exact info44)) rfl ?_
      simp only [List.set_cons_zero, List.set_cons_succ]
      refine take_l (i := 4) (d := 41) (v := .slice (some ⟨g3, 0, none⟩) D.length c3) rfl rfl (by kernel_rfl) (by kernel_rfl) (by kernel_rfl) (fun _ _ _ h => h) (Or.inl ⟨by rfl, by intro x hSx; go_simp; try rfl⟩) rfl ?_
      simp only [List.set_cons_zero, List.set_cons_succ]
      refine take_l (i := 5) (d := 42) (v := .int .i64 k) rfl rfl (by kernel_rfl) (by kernel_rfl) (by kernel_rfl) (fun _ _ _ h => h) (Or.inl ⟨by rfl, by intro x hSx; go_simp; try rfl⟩) rfl ?_
      simp only [List.set_cons_zero, List.set_cons_succ]
      refine take_l (i := 6) (d := 43) (v := .pointer (some ⟨g3, k * 21, none⟩)) rfl rfl (by kernel_rfl) (by kernel_rfl) (by kernel_rfl) (fun _ _ _ h => h) (Or.inl ⟨by rfl, by intro x hSx; go_simp; try rfl⟩) rfl ?_
      simp only [List.set_cons_zero, List.set_cons_succ]
      refine take_l (i := 7) (d := 44) (v := .agg (intA ev)) rfl rfl (by kernel_rfl) (by kernel_rfl) (by kernel_rfl) (fun _ _ _ h => h) (yieldsIf_load_mid (by rfl) 75 (.tmp 43) rfl g3 (k * 21) rfl (intC ev) _ (fun x h => by subst h; exact r3) Tryd.underlying75 rfl (by rw [intC_length, he]; exact info44)) rfl ?_
      simp only [List.set_cons_zero, List.set_cons_succ]
      refine take_l (i := 8) (d := 45) (v := .bool true) rfl rfl (by kernel_rfl) (by kernel_rfl) (by kernel_rfl) (fun _ _ _ h => h) (Or.inl ⟨by rfl, fun x _ => run_eqlE (.tmp 40) (.tmp 44) rfl ev he rfl rfl x⟩) rfl ?_
      simp only [List.set_cons_zero, List.set_cons_succ]
      refine take_l (i := 9) (d := 46) (v := .bool true) rfl rfl (by kernel_rfl) (by kernel_rfl) (by kernel_rfl) (fun _ _ _ h => h) (Or.inl ⟨by rfl, by intro x hSx; go_simp; try rfl⟩) rfl ?_
      simp only [List.set_cons_zero, List.set_cons_succ]
      refine take_l (i := 10) (d := 47) (v := .slice (some ⟨g2, 0, none⟩) D.length c2) rfl rfl (by kernel_rfl) (by kernel_rfl) (by kernel_rfl) (fun _ _ _ h => h) (Or.inl ⟨by rfl, by intro x hSx; go_simp; try rfl⟩) rfl ?_
      simp only [List.set_cons_zero, List.set_cons_succ]
      refine take_l (i := 11) (d := 48) (v := .int .i64 k) rfl rfl (by kernel_rfl) (by kernel_rfl) (by kernel_rfl) (fun _ _ _ h => h) (Or.inl ⟨by rfl, by intro x hSx; go_simp; try rfl⟩) rfl ?_
      simp only [List.set_cons_zero, List.set_cons_succ]
      refine take_l (i := 12) (d := 49) (v := .pointer (some ⟨g2, k * 21, none⟩)) rfl rfl (by kernel_rfl) (by kernel_rfl) (by kernel_rfl) (fun _ _ _ h => h) (Or.inl ⟨by rfl, by intro x hSx; go_simp; try rfl⟩) rfl ?_
      simp only [List.set_cons_zero, List.set_cons_succ]
      refine take_l (i := 13) (d := 50) (v := .agg (intA ev)) rfl rfl (by kernel_rfl) (by kernel_rfl) (by kernel_rfl) (fun _ _ _ h => h) (yieldsIf_load_mid (by rfl) 75 (.tmp 49) rfl g2 (k * 21) rfl (intC ev) _ (fun x h => by subst h; exact r2) Tryd.underlying75 rfl (by rw [intC_length, he]; exact info44)) rfl ?_
      simp only [List.set_cons_zero, List.set_cons_succ]
      refine take_l (i := 14) (d := 51) (v := .slice (some ⟨g3, 0, none⟩) D.length c3) rfl rfl (by kernel_rfl) (by kernel_rfl) (by kernel_rfl) (fun _ _ _ h => h) (Or.inl ⟨by rfl, by intro x hSx; go_simp; try rfl⟩) rfl ?_
      simp only [List.set_cons_zero, List.set_cons_succ]
      refine take_l (i := 15) (d := 52) (v := .int .i64 k) rfl rfl (by kernel_rfl) (by kernel_rfl) (by kernel_rfl) (fun _ _ _ h => h) (Or.inl ⟨by rfl, by intro x hSx; go_simp; try rfl⟩) rfl ?_
      simp only [List.set_cons_zero, List.set_cons_succ]
      refine take_l (i := 16) (d := 53) (v := .pointer (some ⟨g3, k * 21, none⟩)) rfl rfl (by kernel_rfl) (by kernel_rfl) (by kernel_rfl) (fun _ _ _ h => h) (Or.inl ⟨by rfl, by intro x hSx; go_simp; try rfl⟩) rfl ?_
      simp only [List.set_cons_zero, List.set_cons_succ]
      refine take_l (i := 17) (d := 54) (v := .agg (intA ev)) rfl rfl (by kernel_rfl) (by kernel_rfl) (by kernel_rfl) (fun _ _ _ h => h) (yieldsIf_load_mid (by rfl) 75 (.tmp 53) rfl g3 (k * 21) rfl (intC ev) _ (fun x h => by subst h; exact r3) Tryd.underlying75 rfl (by rw [intC_length, he]; exact info44)) rfl ?_
      simp only [List.set_cons_zero, List.set_cons_succ]
      refine take_l (i := 18) (d := 55) (v := .bool true) rfl rfl (by kernel_rfl) (by kernel_rfl) (by kernel_rfl) (fun _ _ _ h => h) (Or.inl ⟨by rfl, fun x _ => run_eqlE (.tmp 50) (.tmp 54) rfl ev he rfl rfl x⟩) rfl ?_
      simp only [List.set_cons_zero, List.set_cons_succ]
      refine take_l (i := 19) (d := 56) (v := .bool true) rfl rfl (by kernel_rfl) (by kernel_rfl) (by kernel_rfl) (fun _ _ _ h => h) (Or.inl ⟨by rfl, by intro x hSx; go_simp; try rfl⟩) rfl ?_
      simp only [List.set_cons_zero, List.set_cons_succ]
      refine take_l (i := 20) (d := 8) (v := .bool true) rfl rfl (by kernel_rfl) (by kernel_rfl) (by kernel_rfl) (fun _ _ _ h => h) (Or.inl ⟨by rfl, by intro x hSx; go_simp; try rfl⟩) rfl ?_
      simp only [List.set_cons_zero, List.set_cons_succ]
      refine wpAnyH_done (by kernel_rfl) ?_ _
      go_wp2_with fail
      go_roundw
      case rel => exact ⟨k + 1, by omega, rfl, by go_num, hb.drew⟩
      case measure => simp [intOf]; omega
    · have hd : decide ((k : Int) < (D.length : Int)) = false := by simp; omega
      have B4 := B3.below hb
      have l14 := l1'.below hb
      have l24 := l2'.below hb
      have hsz1 := b1.size
      have hsz2 := b2.size
      have hsz3 := b3.size
      have hszr := hb.size
      have m1 : EvAt wr (bb + 1) (.slice a1 D.length c1) D := l14.mono (by omega)
      have m2 : EvAt wr (bb + 1) (.slice a2 D.length c2) D := l24.mono (by omega)
      have A2 : ∀ x ∈ E, Apart x.1 (.slice a1 D.length c1) := fun x hx => by
        obtain ⟨p, _, hl⟩ := h.ent x hx
        exact apart_new hl l1 (Nat.le_refl _)
      have A3 : ∀ x ∈ E, Apart x.1 (.slice a2 D.length c2) := fun x hx => by
        obtain ⟨p, _, hl⟩ := h.ent x hx
        exact apart_new hl l2 hsz1
      have A4 : Apart vm (.slice a2 D.length c2) := apart_new h.om l2 hsz1
      have A5 : Apart (.slice a1 D.length c1) (.slice a2 D.length c2) := apart_new l1 l2 (Nat.le_refl _)
      have A6 : Apart vi (.slice a2 D.length c2) := apart_new h.oi l2 hsz1
      have hv2 := row_lt m2
      have hv2b : ∀ g, (Value.slice a2 D.length c2).ownBlock = some g → bb < g := fun g e => by have := (World.ownsRow.lt m2 g e).1; omega
      have hw3 : Below bb w wr := (((b1.mono (by omega)).trans (b2.mono (by omega))).trans (b3.mono (by omega))).trans (hb.mono (by omega))
      have hbi : ∀ g, some g = vi.ownBlock → bb < g := fun g e => by have := (World.ownsRow.lt h.oi g e.symm).1; omega
      have hbm : ∀ g, some g = vm.ownBlock → bb < g := fun g e => by have := (World.ownsRow.lt h.om g e.symm).1; omega
      have hbl : ∀ g, some g = (Value.slice a1 D.length c1).ownBlock → bb < g := fun g e => by have := (World.ownsRow.lt m1 g e.symm).1; omega
      clear l1 l2 l3 l1' l2' l14 l24 B3 hb b1 b2 b3
      go_wp2_with fail
      refine (ownsE_any bb vi vm _ E nx D _ B4 m1 hD21 (by omega) (by omega) (by omega) h1 A2).mono ?_
      rintro e w5 ⟨vi', vm', o1, o2, o3, rfl, B5, F5, k2, k3, k4⟩
      have m2' : EvAt w5 (bb + 1) (.slice a2 D.length c2) D := own_fr m2 F5 (fun g e hS => by
        rcases hS with hS | hS | hS | hS
        · have := hv2b g e; omega
        · exact apart_ne A6.symm e hS
        · exact apart_ne A4.symm e hS
        · exact apart_ne A5.symm e hS)
      have A8 : ∀ x ∈ E ++ [(.slice a1 D.length c1, nx - 1), (o1, nx - 1), (o2, nx - 1), (o3, nx - 1)], Apart x.1 (.slice a2 D.length c2) := by
        intro x hx
        rcases List.mem_append.1 hx with hx | hx
        · exact A3 x hx
        · simp only [List.mem_cons, List.not_mem_nil, or_false] at hx
          rcases hx with rfl | rfl | rfl | rfl
          · exact A5
          · exact Apart.later k2 A5 hv2
          · exact Apart.later k3 A5 hv2
          · exact Apart.later k4 A5 hv2
      have hwb : Below bb w w5 := hw3.trans (F5.below (by omega) (fun g hg hS => by
        rcases hS with hS | hS | hS | hS
        · omega
        · have := hbi g hS; omega
        · have := hbm g hS; omega
        · have := hbl g hS; omega))
      have hbi' : ∀ g, some g = vi'.ownBlock → bb < g := fun g e => by have := (World.ownsRow.lt B5.oi g e.symm).1; omega
      have hbm' : ∀ g, some g = vm'.ownBlock → bb < g := fun g e => by have := (World.ownsRow.lt B5.om g e.symm).1; omega
      have hb5 : bb < w5.heap.size := B5.lt
      clear k2 k3 k4 F5
      go_wp2_with fail
      refine (ownsE_any bb vi' vm' _ _ (nx - 1) D _ B5 m2' hD21 (by omega) (by simp; omega) (by omega) (by omega) A8).mono ?_
      rintro e w6 ⟨vi2, vm2, p1, p2, p3, rfl, B6, F6, _, _, _⟩
      have hwb6 : Below bb w w6 := hwb.trans (F6.below (by omega) (fun g hg hS => by
        rcases hS with hS | hS | hS | hS
        · omega
        · have := hbi' g hS; omega
        · have := hbm' g hS; omega
        · have := hv2b g hS.symm; omega))
      clear F6
      go_wp2_with fail
      go_ret
      rw [show nx - 1 - 1 = nx - 2 by omega] at B6
      exact ⟨vi2, vm2, _, rfl, B6, by simp, hwb6⟩

theorem ebook_new (w : World) : EkAt (w.alloc bookObj) w.heap.size (.slice none 0 0) (.slice none 0 0) [] 0 := by
  have h := book_new w
  exact ⟨h.c0, h.c1, h.c2, h.c3, h.c4, h.c5, h.c6, h.f, World.ownsRow_nil _ _ _ _, World.ownsRow_nil _ _ _ _, fun x hx => by simp at hx⟩

set_option maxHeartbeats 2000000 in
theorem reads_walk (ao : Option Addr) (len cap : Nat) (ss : List ByteArray) (w : World) (hle : Leads w) (hlen : len ≤ 1048576) (hss : ∀ j, (ss.getD j ByteArray.empty).size ≤ 1048576)
    (hc : ∀ j, j < len → ∃ b off, ao = some ⟨b, off, none⟩ ∧ b < w.heap.size ∧ w.cell? ⟨b, off + j, none⟩ = some (.string (ss.getD j ByteArray.empty))) :
    Calls Tryd.prog 4 #[.slice ao len cap] w fun e w' => e = .returned (.bool true) ∧ Below w.heap.size w w' := by
  have h1 := hle.lt
  have B0 := ebook_new w
  have hb3 : Below w.heap.size w (w.alloc bookObj) := (Below.refl _ _).alloc (Nat.le_refl _) _
  go_enter Tryd.func4, Tryd.ntmps4
  go_wp2_with fail
  go_loopw [4] (fun i wr => ∃ (k : Nat) (vi vm : Value) (E : List (Value × Int)) (nx : Int), k ≤ len ∧ i = .int .i64 k ∧ EkAt wr w.heap.size vi vm E nx ∧ E.length ≤ 8 * k ∧ -(2 * k) ≤ nx ∧ nx ≤ 0 ∧ Below w.heap.size (w.alloc bookObj) wr) (fun i _ => len - (intOf i).toNat)
  case atStart => exact ⟨0, _, _, _, _, Nat.zero_le _, rfl, B0, Nat.le_refl _, by omega, by omega, Below.refl _ _⟩
  case round =>
    obtain ⟨k, vi, vm, E, nx, hk, rfl, B, hE, hn0, hn1, hb⟩ := hrel
    have hbw : Below w.heap.size w wr := hb3.trans hb
    by_cases hlt : k < len
    · obtain ⟨b, off, rfl, hbb, hcell⟩ := hc k hlt
      have hcr := (hbw.cell (p := ⟨b, off + k, none⟩) hbb).trans hcell
      have hs := hss k
      have hler : Leads wr := hle.kept (hbw.block 1 h1)
      clear hcell hc hss
      generalize ss.getD k ByteArray.empty = s at *
      go_wp2_with fail
      refine (bookRead_any w.heap.size vi vm E nx s _ B hler (by omega) (by omega) (by omega) hn1).mono ?_
      rintro e w4 ⟨vi', vm', E', rfl, B', hE', hb'⟩
      have hE2 : E'.length ≤ 8 * (k + 1) := by omega
      clear hE'
      go_wp2_with fail
      refine (looksE_any w.heap.size vi' vm' E' (nx - 2) _ (by omega) B').mono ?_
      rintro e w5 ⟨rfl, hb5⟩
      have B5 := B'.below hb5
      have hlt5 : w.heap.size < w4.heap.size := B'.lt
      have hb6 : Below w.heap.size (w.alloc bookObj) w5 := (hb.trans hb').trans (hb5.mono (by omega))
      clear B B' hb hb' hb5
      go_wp2_with fail
      go_roundw
      case rel => exact ⟨k + 1, vi', vm', E', nx - 2, by omega, by go_num, B5, hE2, by omega, by omega, hb6⟩
      case measure => simp [intOf]; omega
    · clear B hc
      go_wp2_with fail
      go_ret
      exact ⟨rfl, hbw⟩

end Go.Proofs.YtheibfffilomcaaDoor
