/- The walks of the document's machine: a character of a sequence. -/
import Derived.Test.YtheibfffilomcaaDoorRwe
namespace Go.Proofs.YtheibfffilomcaaDoor
open Go.RowKit

theorem LsAt.sl {w : World} {base : Nat} {v : Value} {L : List Int} (h : LsAt w base v L) : ∃ a c, v = .slice a L.length c ∧ L.length ≤ c ∧ SlAt w a L ∧ ∀ b o, a = some ⟨b, o, none⟩ → base ≤ b := by
  obtain ⟨h1, h2⟩ := h
  rcases h2 with ⟨rfl, h0⟩ | ⟨g, cap, cur, rfl, hgb, hg, hn, _, hcs, htake⟩
  · refine ⟨none, 0, by rw [h0], by omega, fun j x hj => ?_, fun _ _ e => by cases e⟩
    have : L = [] := List.eq_nil_of_length_eq_zero h0
    subst this; simp at hj
  · refine ⟨_, cap, rfl, hn, fun j x hj => ⟨g, 0, rfl, (Array.getElem?_eq_some_iff.1 hg).1, ?_⟩, fun b o e => by cases e; exact hgb⟩
    rw [cell_of_row _ _ _ _ _ _ hg, Nat.zero_add]
    have hj' : (L.map (Value.int .i64))[j]? = some (.int .i64 x) := by simp [hj]
    rw [← htake, List.getElem?_take] at hj'
    split at hj'
    · simpa using hj'
    · cases hj'
theorem SlAt.blk {w w' : World} {a : Option Addr} {L : List Int} (h : SlAt w a L) (hk : ∀ b o, a = some ⟨b, o, none⟩ → w'.heap[b]? = w.heap[b]?) : SlAt w' a L := fun j x hj => by
  obtain ⟨b, o, e, hlt, hc⟩ := h j x hj
  have hc' := (World.cell?_of_block (hk b o e)).trans hc
  exact ⟨b, o, e, World.block_lt_of_cell? _ _ hc', hc'⟩
theorem TW.over {w u u' : World} {md mr : Int} {bv : Value} (h : TW w md mr bv u) (b : Below (w.heap.size + 4) u u') : TW w md mr bv u' :=
  ⟨(b.block _ (by omega)).trans h.box, (b.block _ (by omega)).trans h.res, (b.block _ (by omega)).trans h.evt, (b.block _ (by omega)).trans h.non, h.bel.trans (b.mono (by omega))⟩
theorem TW.cell2 {w u : World} {md mr : Int} {bv : Value} (h : TW w md mr bv u) : u.cell? ⟨w.heap.size, 2, none⟩ = some bv := by
  rw [cell_of_row _ _ _ _ _ _ h.box]; rfl
theorem TW.fr2 {w u : World} {md mr : Int} {bv : Value} (h : TW w md mr bv u) : u.frozen? ⟨w.heap.size, 2, none⟩ = false := frozen_of_row _ _ _ _ _ h.box
theorem TW.set2 {w u : World} {md mr : Int} {bv : Value} (h : TW w md mr bv u) (v : Value) : TW w md mr v (u.setCell ⟨w.heap.size, 2, none⟩ v) :=
  ⟨(heap_setCell_same u w.heap.size 2 _ 123 v h.box).trans rfl, (heap_setCell_other u _ _ _ (by simp)).trans h.res, (heap_setCell_other u _ _ _ (by simp)).trans h.evt, (heap_setCell_other u _ _ _ (by simp)).trans h.non,
    h.bel.trans ⟨rfl, rfl, rfl, by simp [World.setCell], fun k hk => heap_setCell_other u _ k _ (by simp; omega)⟩⟩

theorem seqGo_len (mk c : Int) : ∀ (r : List Int) (v : Int) (al : Nat) (ps : List Int) (ct : Int), ps.length = 16 → (seqGo mk c r v al ps ct).length = 21
  | [], v, al, ps, ct, h => by simp only [seqGo]; split <;> simp [h]
  | x :: r, v, al, ps, ct, h => by
    simp only [seqGo]
    split
    · split
      · exact seqGo_len mk c r _ _ _ _ (by simp [h])
      · exact seqGo_len mk c r _ _ _ _ h
    · split
      · rfl
      · exact seqGo_len mk c r _ _ _ _ h
theorem seqN_len (L : List Int) (c : Int) : (seqN L c).length = 21 := by
  cases L with
  | nil => exact seqGo_len _ _ _ _ _ _ _ rfl
  | cons x r => simp only [seqN]; split <;> exact seqGo_len _ _ _ _ _ _ _ rfl

set_option maxRecDepth 100000 in
set_option maxHeartbeats 2000000 in
theorem rtake_d (M K : Int) (L : List Int) (ao : Option Addr) (n cap : Nat) (c : Int) (w : World) (hn : L.length = n) (hcap : n ≤ cap) (hn2 : n ≤ 3000000) (hbx : ∀ x ∈ L, 0 ≤ x ∧ x ≤ 10000000) (hsl : SlAt w ao L) (hc : c ≠ 27 ∧ c ≠ 24 ∧ c ≠ 26 ∧ c ≠ 127) (hM : M ≠ 3 ∧ M ≠ 0 ∧ M ≠ 1) (h32 : ¬ c < 32) (hf : finalN c = true) (h21 : (seqN L c).length = 21) : TakeSaid M K L ao n cap c w := by
  unfold TakeSaid
  have b27 : (c == 27) = false := by simp [hc.1]
  have b24 : (c == 24) = false := by simp [hc.2.1]
  have b26 : (c == 26) = false := by simp [hc.2.2.1]
  have b127 : (c == 127) = false := by simp [hc.2.2.2]
  have bM : (M == 3) = false := by simp [hM.1]
  have bM0 : (M == 0) = false := by simp [hM.2.1]
  have bM1 : (M == 1) = false := by simp [hM.2.2]
  have e : RM.take ⟨M, K, L⟩ c = (.zero, seqN L c) := by
    unfold RM.take; rw [if_neg hc.1, if_neg (by omega), if_neg hc.2.2.2, if_neg hM.1, if_neg h32, if_neg hM.2.1, if_neg hM.2.2, if_pos hf]
  rw [e]
  have HF : Hid (finalN c = true) := hf
  have hcall := rseq_any n cap ao L c
  generalize seqN L c = EV at *
  clear e hc hM hf
  go_enter Tryd.func68, Tryd.ntmps68
  go_wp2_with fail
  refine (rfinal_is c true _ HF.out).mono ?_
  rintro e w1 ⟨rfl, rfl⟩
  go_wp2_with fail
  refine (hcall _ hn hn2 hcap hbx (hsl.below (TW.lit w M K (.slice ao n cap)).bel)).mono ?_
  rintro e u ⟨rfl, bu⟩
  have T0 := (TW.lit w M K (.slice ao n cap)).two bu
  clear hcall bu
  go_wp2_with (refine wp_eset _ rfl (.tmp 8) (.tmp 72) rfl u.heap.size noEv EV rfl _ rfl rfl h21 75 (heap_alloc_new u _) rfl ?_)
  intro W gE rv zv
  have hz := T0.size
  have T : TW w M K (.slice ao n cap) W := T0.two (((Below.refl _ _).alloc (Nat.le_refl _) _).grown rv (by simp) (fun k e => by simp at e; omega))
  clear rv T0
  go_wp2_with fail
  refine wp_region_held (S := fun x => TS w M K (.slice ao n cap) x ∧ x.heap[u.heap.size]? = some (.cells (intA EV) 75 (0, 0))) mixed ?_
  refine wpAnyH_take (i := 0) (v := .agg (mA 0 0 (.slice none 0 0))) rfl (by kernel_rfl) (by kernel_rfl) (by kernel_rfl) (fun _ _ _ h => h) (Or.inl ⟨by rfl, by intro w hSw; go_simp; try rfl⟩) ⟨T.ts, gE⟩ ?_
  refine wpAnyH_take (i := 1) (v := .agg (intA EV)) rfl (by kernel_rfl) (by kernel_rfl) (by kernel_rfl) (fun _ _ _ h => h) (yieldsIf_load_mid (by rfl) 75 (.tmp 8) rfl u.heap.size 0 rfl (intC EV) _ (fun x h j v hv => by rw [cell_of_row _ _ _ _ _ _ h.2, Nat.zero_add]; simpa [intA] using hv) Tryd.underlying75 rfl (by rw [intC_length, h21]; exact info44)) ⟨T.ts, gE⟩ ?_
  refine held_pair (i := 2) (j := 3) rfl rfl (by kernel_rfl) (by kernel_rfl) (by kernel_rfl) rfl rfl rfl rfl (.tmp 4) (.tmp 73) (.tmp 5) (.tmp 74) rfl rfl (w.heap.size + 1) (w.heap.size + 2) (by omega) rfl rfl (mA 0 0 (.slice none 0 0)) rfl rfl (mA_all _ _ _ _ _) _ rfl EV rfl h21 _ rfl T.res _ rfl T.evt (fun u' t => ⟨T.ts.two t, (t.block _ (by omega) (by omega)).trans gE⟩) ?_
  intro u' g1 g2 t
  have b1 : Below w.heap.size w u' := t.below T.drew.bel (by omega) (by omega)
  go_wp2_with fail
  exact end_me Tryd.results68 rfl rfl h21 rfl g1 rfl g2 ⟨none, 0, 0, rfl, rfl, Nat.le_refl _, SlAt.nil _ _, (fun _ _ e => by cases e), b1⟩

set_option maxRecDepth 100000 in
set_option maxHeartbeats 2000000 in
theorem rtake_e (M K : Int) (L : List Int) (ao : Option Addr) (n cap : Nat) (c : Int) (w : World) (hn : L.length = n) (_hcap : n ≤ cap) (hn2 : n ≤ 3000000) (hsl : SlAt w ao L) (hc : c ≠ 27 ∧ c ≠ 24 ∧ c ≠ 26 ∧ c ≠ 127) (hM : M ≠ 3 ∧ M ≠ 0 ∧ M ≠ 1) (h32 : ¬ c < 32) (hf : finalN c = false) : TakeSaid M K L ao n cap c w := by
  unfold TakeSaid
  have b27 : (c == 27) = false := by simp [hc.1]
  have b24 : (c == 24) = false := by simp [hc.2.1]
  have b26 : (c == 26) = false := by simp [hc.2.2.1]
  have b127 : (c == 127) = false := by simp [hc.2.2.2]
  have bM : (M == 3) = false := by simp [hM.1]
  have bM0 : (M == 0) = false := by simp [hM.2.1]
  have bM1 : (M == 1) = false := by simp [hM.2.2]
  have e : RM.take ⟨M, K, L⟩ c = (⟨M, K, L ++ [c]⟩, noEv) := by
    unfold RM.take; rw [if_neg hc.1, if_neg (by omega), if_neg hc.2.2.2, if_neg hM.1, if_neg h32, if_neg hM.2.1, if_neg hM.2.2, if_neg (by simp [hf])]
  rw [e]
  have HF : Hid (finalN c = false) := hf
  clear e hc hM hf
  go_enter Tryd.func68, Tryd.ntmps68
  go_wp2_with fail
  refine (rfinal_is c false _ HF.out).mono ?_
  rintro e w1 ⟨rfl, rfl⟩
  go_wp2_with fail
  go_loopw [9, 10] (fun v i wr => ∃ k : Nat, k ≤ n ∧ i = .int .i64 k ∧ LsAt wr (w.heap.size + 4) v (L.take k) ∧ TW w M K (.slice ao n cap) wr) (fun _ i _ => n - (intOf i).toNat)
  case atStart => exact ⟨0, Nat.zero_le _, rfl, World.ownsRow_nil _ _ _ _, TW.lit w M K (.slice ao n cap)⟩
  case round =>
    obtain ⟨k, hk, rfl, own, T⟩ := hrel
    have hc2 := T.cell2
    have hz := T.size
    by_cases hlt : k < n
    · have hkl : k < L.length := by omega
      have hlen : (L.take k).length = k := by rw [List.length_take]; omega
      have hsucc : L.take (k + 1) = L.take k ++ [L[k]] := List.take_succ_eq_append_getElem hkl
      obtain ⟨bb, oo, rfl, hblt, hcell⟩ := hsl k L[k] (List.getElem?_eq_getElem hkl)
      have hcr := (T.bel.cell hblt).trans hcell
      generalize L[k] = x at *
      have ik : (k : Int) < (n : Int) := by omega
      clear hcell
      go_wp2_with (at_builtin; refine wp_app1 wr rfl _ _ rfl (w.heap.size + 4) _ (L.take k) _ rfl ?c1 _ ?c2 rfl ?c3 ?c4 ?_)
      case c1 => exact own
      case c2 => rfl
      case c3 => omega
      case c4 => exact hz
      intro v1 w2 own1 hb1
      rw [← hsucc] at own1
      have T1 := T.over hb1
      clear T own hb1 hcr hc2 hz
      go_wp2_with fail
      go_roundw
      case rel => exact ⟨k + 1, by omega, by go_num, own1, T1⟩
      case measure => simp [intOf]; omega
    · have hkn : k = n := by omega
      have hall : L.take k = L := List.take_of_length_le (by omega)
      rw [hall] at own
      have ik : ¬ (k : Int) < (n : Int) := by omega
      clear hall
      go_wp2_with (at_builtin; refine wp_app1 wr rfl _ _ rfl (w.heap.size + 4) _ L _ rfl ?d1 _ ?d2 rfl ?d3 ?d4 ?_)
      try (case d1 => exact own)
      try (case d2 => rfl)
      try (case d3 => omega)
      try (case d4 => exact hz)
      intro v1 w2 own1 hb1
      have T1 := T.over hb1
      clear T own hb1 hc2 hz
      obtain ⟨a1, c1, rfl, hc1, hsl1, hba⟩ := own1.sl
      have hz1 := T1.size
      have hc2 := T1.cell2
      have hf2 := T1.fr2
      have hl1 : (L ++ [c]).length = n + 1 := by simp [hn]
      rw [hl1] at hc1
      simp only [hl1]
      go_wp2_with fail
      refine wp_gen (fun W => TW w M K (.slice a1 (n + 1) c1) W ∧ SlAt W a1 (L ++ [c])) ⟨T1.set2 _, hsl1.blk fun b o e => heap_setCell_other _ _ _ _ (by have := hba b o e; simp; omega)⟩ ?_
      rintro W ⟨T, hslW⟩
      refine wp_region_held (S := TS w M K (.slice a1 (n + 1) c1)) mixed ?_
      refine wpAnyH_take (i := 0) (v := .agg (mA M K (.slice a1 (n + 1) c1))) rfl (by kernel_rfl) (by kernel_rfl) (by kernel_rfl) (fun _ _ _ h => h) (yieldsIf_load_mid (by rfl) 123 (.tmp 2) rfl w.heap.size 0 rfl [.int .i64 M, .int .i64 K, (.slice a1 (n + 1) c1)] _ (fun w h => h.rngB) Tryd.underlying123 rfl info69) T.ts ?_
      refine wpAnyH_take (i := 1) (v := .agg (intA noEv)) rfl (by kernel_rfl) (by kernel_rfl) (by kernel_rfl) (fun _ _ _ h => h) (yieldsIf_load_mid (by rfl) 75 (.tmp 6) rfl (w.heap.size + 3) 0 rfl (intC noEv) _ (fun w h => h.rng) Tryd.underlying75 rfl info44) T.ts ?_
      refine held_pair (i := 2) (j := 3) rfl rfl (by kernel_rfl) (by kernel_rfl) (by kernel_rfl) rfl rfl rfl rfl (.tmp 4) (.tmp 95) (.tmp 5) (.tmp 96) rfl rfl (w.heap.size + 1) (w.heap.size + 2) (by omega) rfl rfl (mA M K (.slice a1 (n + 1) c1)) rfl rfl (mA_all _ _ _ _ _) _ rfl noEv rfl rfl _ rfl T.res _ rfl T.evt (fun u' t => T.ts.two t) ?_
      intro u' g1 g2 t
      have b1 : Below w.heap.size w u' := t.below T.drew.bel (by omega) (by omega)
      have hslu : SlAt u' a1 (L ++ [c]) := hslW.blk fun b o e => t.block b (by have := hba b o e; omega) (by have := hba b o e; omega)
      go_wp2_with fail
      exact end_me Tryd.results68 rfl rfl rfl rfl g1 rfl g2 ⟨a1, n + 1, c1, rfl, hl1.symm, hc1, hslu, (fun b o e => Or.inr ⟨by have := hba b o e; omega, by obtain ⟨b', o', e', hlt, _⟩ := hslu 0 ((L ++ [c])[0]'(by simp)) (List.getElem?_eq_getElem _); rw [e] at e'; cases e'; exact hlt⟩), b1⟩

/-- ONE CHARACTER: what the plain function says. -/
theorem rtake_any (M K : Int) (L : List Int) (ao : Option Addr) (n cap : Nat) (c : Int) (w : World) (hn : L.length = n) (hcap : n ≤ cap) (hn2 : n ≤ 3000000) (hbx : ∀ x ∈ L, 0 ≤ x ∧ x ≤ 10000000) (hsl : SlAt w ao L) : TakeSaid M K L ao n cap c w := by
  by_cases h1 : c = 27 ∨ c = 24 ∨ c = 26 ∨ c = 127
  · exact rtake_a M K L ao n cap c w hn hcap hsl h1
  · have hc : c ≠ 27 ∧ c ≠ 24 ∧ c ≠ 26 ∧ c ≠ 127 := by omega
    by_cases h3 : M = 3
    · exact rtake_b K L ao n cap c w hn hcap hsl hc M h3
    · by_cases h32 : c < 32
      · exact rtake_c M K L ao n cap c w hn hcap hsl hc h3 (Or.inl h32)
      · by_cases h0 : M = 0
        · exact rtake_c M K L ao n cap c w hn hcap hsl hc h3 (Or.inr (Or.inl ⟨h32, h0⟩))
        · by_cases hh1 : M = 1
          · exact rtake_c M K L ao n cap c w hn hcap hsl hc h3 (Or.inr (Or.inr ⟨h32, hh1⟩))
          · cases hf : finalN c with
            | true => exact rtake_d M K L ao n cap c w hn hcap hn2 hbx hsl hc ⟨h3, h0, hh1⟩ h32 hf (seqN_len L c)
            | false => exact rtake_e M K L ao n cap c w hn hcap hn2 hsl hc ⟨h3, h0, hh1⟩ h32 hf

end Go.Proofs.YtheibfffilomcaaDoor
