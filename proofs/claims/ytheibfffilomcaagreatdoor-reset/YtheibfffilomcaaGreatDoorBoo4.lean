/- The walk of the book's runes: what Runes answers is what the document's reading answers. -/
import Derived.Test.YtheibfffilomcaaGreatDoorBoo3
import Derived.Test.YtheibfffilomcaaGreatDoorWf
namespace Go.Proofs.YtheibfffilomcaaGreatDoor
open Go.RowKit

theorem apart_new {w : World} {b1 b2 n1 n2 : Nat} {e1 e2 : TypeId} {s1 s2 : Nat} {u v : Value} {xs ys : List Value} {w' : World} (h1 : w.ownsRow b1 e1 s1 u n1 xs) (h2 : w'.ownsRow b2 e2 s2 v n2 ys) (hb : w.heap.size ≤ b2) : Apart u v := by
  unfold Apart
  cases hu : u.ownBlock with
  | none => exact Or.inl rfl
  | some k =>
    right
    intro e
    have := (h1.lt k hu).2
    have := (h2.lt k e.symm).1
    omega

theorem own_fr {S : Nat → Prop} {w w' : World} {b : Nat} {e : TypeId} {sz : Nat} {v : Value} {n : Nat} {xs : List Value} (h : w.ownsRow b e sz v n xs) (f : Fr S w w') (hs : ∀ g, v.ownBlock = some g → ¬ S g) : w'.ownsRow b e sz v n xs := by
  refine ⟨h.1, ?_⟩
  rcases h.2 with h2 | ⟨g, cap, cur, rfl, hb, hg, r⟩
  · exact Or.inl h2
  · exact Or.inr ⟨g, cap, cur, rfl, hb, (f.block g (Array.getElem?_eq_some_iff.1 hg).1 (hs g rfl)).trans hg, r⟩

theorem apart_ne {u v : Value} (h : Apart u v) {g : Nat} (hu : u.ownBlock = some g) : some g ≠ v.ownBlock := by
  unfold Apart at h
  rcases h with h | h
  · rw [hu] at h; simp at h
  · rw [← hu]; exact h

theorem decode_len (l : List Int) : (decode l).length ≤ 2 * l.length + 1 := by
  unfold decode
  rw [List.length_append]
  have h1 := run_len RS.zero l
  have h2 : (RS.zero.run l).1.fin.2.length ≤ 1 := by unfold RS.fin; split <;> simp
  omega

set_option maxHeartbeats 2000000 in
theorem bookRunes_any (bb : Nat) (vi vm : Value) (E : List (Value × Int)) (nx : Int) (s : ByteArray) (w : World) (h : BkAt w bb vi vm E nx) (hle : Leads w) (hs : s.size ≤ 2000000) (hE : E.length ≤ 400000000)
    (h0 : -1000000000 ≤ nx) (h1 : nx ≤ 0) :
    Calls Tryz.prog 45 #[.pointer (some ⟨bb, 0, none⟩), .string s] w fun e w' => ∃ vi' vm' E', e = .returned (.bool true) ∧ BkAt w' bb vi' vm' E' (nx - 2) ∧ E'.length = E.length + 8 ∧ Below bb w w' := by
  have hlt : bb < w.heap.size := World.block_lt_of_cell? _ _ h.c0
  have hdl := decode_len (bl s)
  rw [bl_length] at hdl
  go_enter Tryz.func45, Tryz.ntmps45
  go_wp2_with fail
  refine (runes_any s _ hle (by omega)).mono ?_
  rintro e w1 ⟨v1, rfl, l1, b1⟩
  have hle1 : Leads w1 := hle.kept (b1.block 0 hle.lt)
  go_wp2_with fail
  refine (runes_any s _ hle1 (by omega)).mono ?_
  rintro e w2 ⟨v2, rfl, l2, b2⟩
  go_wp2_with fail
  refine (chars_any s true _ (by omega)).mono ?_
  rintro e w3 ⟨v3, rfl, l3, b3⟩
  rw [outN_true] at l3
  have l1' := (l1.below b2).below b3
  have l2' := l2.below b3
  have B3 := ((h.below b1).below b2).below b3
  obtain ⟨D, hD⟩ : ∃ D, D = decode (bl s) := ⟨_, rfl⟩
  rw [← hD] at l1 l2 l1' l2' l3 hdl
  clear hD
  obtain ⟨a1, c1, rfl, q1⟩ := row_form l1'
  obtain ⟨a2, c2, rfl, q2⟩ := row_form l2'
  obtain ⟨a3, c3, rfl, q3⟩ := row_form l3
  have Q1 : Hid _ := q1
  have Q2 : Hid _ := q2
  have Q3 : Hid _ := q3
  clear q1 q2 q3
  go_wp2_with fail
  go_loopw [8, 9] (fun t i wr => ∃ k : Nat, k ≤ D.length ∧ t = .bool true ∧ i = .int .i64 k ∧ Below w3.heap.size w3 wr) (fun _ i _ => D.length - (intOf i).toNat)
  case atStart => exact ⟨0, Nat.zero_le _, rfl, rfl, Below.refl _ _⟩
  case round =>
    obtain ⟨k, hk, rfl, rfl, hb⟩ := hrel
    by_cases hlt : k < D.length
    · obtain ⟨g1, rfl, d1⟩ := Q1.out k (.int .i64 D[k]) (by simp [List.getElem?_eq_getElem hlt])
      obtain ⟨g2, rfl, d2⟩ := Q2.out k (.int .i64 D[k]) (by simp [List.getElem?_eq_getElem hlt])
      obtain ⟨g3, rfl, d3⟩ := Q3.out k (.int .i64 D[k]) (by simp [List.getElem?_eq_getElem hlt])
      have r1 := cell_later hb d1
      have r2 := cell_later hb d2
      have r3 := cell_later hb d3
      clear d1 d2 d3
      generalize D[k] = x at *
      have hx : (x == x) = true := by simp
      have i1 : (k : Int) < (D.length : Int) := by omega
      go_wp2_with fail
      go_quiet (fail)
      go_wp2_with fail
      go_roundw
      case rel => exact ⟨k + 1, by omega, rfl, by go_num, below_drewN hb _⟩
      case measure => simp [intOf]; omega
    · have hd : decide ((k : Int) < (D.length : Int)) = false := by simp; omega
      have B4 := B3.below hb
      have l14 := l1'.below hb
      have l24 := l2'.below hb
      have hsz1 := b1.size
      have hsz2 := b2.size
      have hsz3 := b3.size
      have hszr := hb.size
      have m1 : LsAt wr (bb + 1) (.slice a1 D.length c1) D := l14.mono (by omega)
      have m2 : LsAt wr (bb + 1) (.slice a2 D.length c2) D := l24.mono (by omega)
      have A1 : Apart (.slice a1 D.length c1) vm := (apart_new h.om l1 (Nat.le_refl _)).symm
      have A2 : ∀ x ∈ E, Apart x.1 (.slice a1 D.length c1) := fun x hx => by
        obtain ⟨_, p, _, hl⟩ := h.ent x hx
        exact apart_new hl l1 (Nat.le_refl _)
      have A3 : ∀ x ∈ E, Apart x.1 (.slice a2 D.length c2) := fun x hx => by
        obtain ⟨_, p, _, hl⟩ := h.ent x hx
        exact apart_new hl l2 hsz1
      have A4 : Apart vm (.slice a2 D.length c2) := apart_new h.om l2 hsz1
      have A5 : Apart (.slice a1 D.length c1) (.slice a2 D.length c2) := apart_new l1 l2 (Nat.le_refl _)
      have A6 : Apart vi (.slice a2 D.length c2) := apart_new h.oi l2 hsz1
      have hv2 := row_lt m2
      have hv2b : ∀ g, (Value.slice a2 D.length c2).ownBlock = some g → bb < g := fun g e => by have := (World.ownsRow.lt m2 g e).1; omega
      have hw3 : Below bb w wr := (((b1.mono (by omega)).trans (b2.mono (by omega))).trans (b3.mono (by omega))).trans (hb.mono (by omega))
      have hbi : ∀ g, some g = vi.ownBlock → bb < g := fun g e => by have := (World.ownsRow.lt h.oi g e.symm).1; omega
      have hbm : ∀ g, some g = vm.ownBlock → bb < g := fun g e => by have := (World.ownsRow.lt h.om g e.symm).1; omega
      have hbl : ∀ g, some g = (Value.slice a1 D.length c1).ownBlock → bb < g := fun g e => by have := (World.ownsRow.lt m1 g e.symm).1; omega
      clear l1 l2 l3 l1' l2' l14 l24 B3 hb b1 b2 b3
      go_wp2_with fail
      refine (owns_any bb vi vm _ E nx D _ B4 m1 (by omega) (by omega) (by omega) h1 A1 A2).mono ?_
      rintro e w5 ⟨vi', vm', o1, o2, o3, rfl, B5, F5, k1, k2, k3, k4⟩
      have m2' : LsAt w5 (bb + 1) (.slice a2 D.length c2) D := own_fr m2 F5 (fun g e hS => by
        rcases hS with hS | hS | hS | hS
        · have := hv2b g e; omega
        · exact apart_ne A6.symm e hS
        · exact apart_ne A4.symm e hS
        · exact apart_ne A5.symm e hS)
      have A7 : Apart (.slice a2 D.length c2) vm' := (Apart.later k1 A4 hv2).symm
      have A8 : ∀ x ∈ E ++ [(.slice a1 D.length c1, nx - 1), (o1, nx - 1), (o2, nx - 1), (o3, nx - 1)], Apart x.1 (.slice a2 D.length c2) := by
        intro x hx
        rcases List.mem_append.1 hx with hx | hx
        · exact A3 x hx
        · simp only [List.mem_cons, List.not_mem_nil, or_false] at hx
          rcases hx with rfl | rfl | rfl | rfl
          · exact A5
          · exact Apart.later k2 A5 hv2
          · exact Apart.later k3 A5 hv2
          · exact Apart.later k4 A5 hv2
      have hwb : Below bb w w5 := hw3.trans (F5.below (by omega) (fun g hg hS => by
        rcases hS with hS | hS | hS | hS
        · omega
        · have := hbi g hS; omega
        · have := hbm g hS; omega
        · have := hbl g hS; omega))
      have hbi' : ∀ g, some g = vi'.ownBlock → bb < g := fun g e => by have := (World.ownsRow.lt B5.oi g e.symm).1; omega
      have hbm' : ∀ g, some g = vm'.ownBlock → bb < g := fun g e => by have := (World.ownsRow.lt B5.om g e.symm).1; omega
      have hb5 : bb < w5.heap.size := World.block_lt_of_cell? _ _ B5.c0
      clear k1 k2 k3 k4 F5
      go_wp2_with fail
      refine (owns_any bb vi' vm' _ _ (nx - 1) D _ B5 m2' (by omega) (by simp; omega) (by omega) (by omega) A7 A8).mono ?_
      rintro e w6 ⟨vi2, vm2, p1, p2, p3, rfl, B6, F6, _, _, _, _⟩
      have hwb6 : Below bb w w6 := hwb.trans (F6.below (by omega) (fun g hg hS => by
        rcases hS with hS | hS | hS | hS
        · omega
        · have := hbi' g hS; omega
        · have := hbm' g hS; omega
        · have := hv2b g hS.symm; omega))
      clear F6
      go_wp2_with fail
      go_ret
      rw [show nx - 1 - 1 = nx - 2 by omega] at B6
      exact ⟨vi2, vm2, _, rfl, B6, by simp, hwb6⟩

end Go.Proofs.YtheibfffilomcaaGreatDoor
