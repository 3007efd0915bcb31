/- The walks of the document's machine: one character taken. -/
import Derived.Test.YtheibfffilomcaaDoorRwd
namespace Go.Proofs.YtheibfffilomcaaDoor
open Go.RowKit

theorem SlAt.nil (w : World) (ao : Option Addr) : SlAt w ao [] := fun j x h => by simp at h

/-- The machine and the event written into the results. -/
theorem wp_pair {ops : Array Oper} {rest : List Oper} {o1 o2 : Oper} {a : Act} {Q : Exit → Act → World → Prop} {md mr : Int} {bv : Value} (w u : World) (hg1 : o1.guard = none) (hg2 : o2.guard = none) (hd1 : o1.dst = none) (hd2 : o2.dst = none) (x y : Operand)
    (ho1 : o1.op = .store 123 (.tmp 4) x) (ho2 : o2.op = .store 75 (.tmp 5) y) (h4 : a.eval (.tmp 4) = .pointer (some ⟨w.heap.size + 1, 0, none⟩)) (h5 : a.eval (.tmp 5) = .pointer (some ⟨w.heap.size + 2, 0, none⟩))
    (mv : Array Value) (hx : a.eval x = .agg mv) (hms : mv.size = 3) (hma : mv.all (·.oneCell') = true) (arr : Array Value) (hy : a.eval y = .agg arr) (ev : List Int) (harr : arr = intA ev) (hev : ev.length = 21) (T : TW w md mr bv u)
    (h : ∀ u', u'.heap[w.heap.size + 1]? = some (.cells mv 123 (0, 0)) → u'.heap[w.heap.size + 2]? = some (.cells (intA ev) 75 (0, 0)) → Two (w.heap.size + 1) (w.heap.size + 2) u u' → wpList Tryd.prog ops Q rest a u') : wpList Tryd.prog ops Q (o1 :: o2 :: rest) a u := by
  subst harr
  have t1 : Two (w.heap.size + 1) (w.heap.size + 2) u (u.setRow (w.heap.size + 1) mv) := Two.row (Or.inl rfl)
  have r1 : (u.setRow (w.heap.size + 1) mv).heap[w.heap.size + 1]? = some (.cells mv 123 (0, 0)) := setRow_heap u _ _ _ 123 _ T.res
  have r2 : (u.setRow (w.heap.size + 1) mv).heap[w.heap.size + 2]? = some (.cells (intA noEv) 75 (0, 0)) := (setRow_other u _ _ _ (by omega)).trans T.evt
  have t2 : Two (w.heap.size + 1) (w.heap.size + 2) u ((u.setRow (w.heap.size + 1) mv).setRow (w.heap.size + 2) (intA ev)) := t1.trans (Two.row (Or.inr rfl))
  have r3 : ((u.setRow (w.heap.size + 1) mv).setRow (w.heap.size + 2) (intA ev)).heap[w.heap.size + 2]? = some (.cells (intA ev) 75 (0, 0)) := setRow_heap _ _ _ _ 75 _ r2
  have r4 : ((u.setRow (w.heap.size + 1) mv).setRow (w.heap.size + 2) (intA ev)).heap[w.heap.size + 1]? = some (.cells mv 123 (0, 0)) := (setRow_other _ _ _ _ (by omega)).trans r1
  refine wpList_store_row hg1 123 (.tmp 4) x ho1 (w.heap.size + 1) mv h4 hx 123 _ T.res (by rw [hms]; exact info69) (by rw [hms]; rfl) hma ?_
  rw [hd1]
  refine wpList_store_row (a := a.put none undef) hg2 75 (.tmp 5) y ho2 (w.heap.size + 2) (intA ev) h5 hy 75 (intA noEv) r2 (by rw [intA_size, hev]; exact info44) (by rw [intA_size, intA_size, hev]; rfl) (intA_all _) ?_
  rw [hd2]
  exact h _ r4 r3 t2
theorem TW.two {w u u' : World} {md mr : Int} {bv : Value} (h : TW w md mr bv u) (b : Below u.heap.size u u') : TW w md mr bv u' := by
  have hz := h.size
  exact ⟨(b.block _ (by omega)).trans h.box, (b.block _ (by omega)).trans h.res, (b.block _ (by omega)).trans h.evt, (b.block _ (by omega)).trans h.non, h.bel.trans (b.mono (by omega))⟩

def TakeSaid (M K : Int) (L : List Int) (ao : Option Addr) (n cap : Nat) (c : Int) (w : World) : Prop :=
  Calls Tryd.prog 68 #[.agg #[.int .i64 M, .int .i64 K, .slice ao n cap], .int .i64 c] w fun e w' => ∃ ao' n' cap', e = .returned (.tuple #[.agg (mA (RM.take ⟨M, K, L⟩ c).1.md (RM.take ⟨M, K, L⟩ c).1.mr (.slice ao' n' cap')), .agg (intA (RM.take ⟨M, K, L⟩ c).2)]) ∧ n' = (RM.take ⟨M, K, L⟩ c).1.body.length ∧ n' ≤ cap' ∧ SlAt w' ao' (RM.take ⟨M, K, L⟩ c).1.body ∧ (∀ b o, ao' = some ⟨b, o, none⟩ → ao' = ao ∨ (w.heap.size ≤ b ∧ b < w'.heap.size)) ∧ Below w.heap.size w w'

set_option maxRecDepth 100000 in
set_option maxHeartbeats 2000000 in
theorem rtake_a (M K : Int) (L : List Int) (ao : Option Addr) (n cap : Nat) (c : Int) (w : World) (hn : L.length = n) (hcap : n ≤ cap) (hsl : SlAt w ao L) (hc : c = 27 ∨ c = 24 ∨ c = 26 ∨ c = 127) : TakeSaid M K L ao n cap c w := by
  unfold TakeSaid
  rcases hc with rfl | rfl | rfl | rfl
  · have e : RM.take ⟨M, K, L⟩ 27 = (⟨1, 0, []⟩, noEv) := by simp [RM.take]
    rw [e]; clear e
    go_enter Tryd.func68, Tryd.ntmps68
    go_wp2_with fail
    refine wp_gen (TW w M K (.slice ao n cap)) (TW.lit w M K (.slice ao n cap)) ?_
    intro W T
    refine wp_region_held (S := TS w M K (.slice ao n cap)) mixed ?_
    refine wpAnyH_take (i := 0) (v := .agg (mA 1 0 (.slice none 0 0))) rfl (by kernel_rfl) (by kernel_rfl) (by kernel_rfl) (fun _ _ _ h => h) (Or.inl ⟨by rfl, by intro w hSw; go_simp; try rfl⟩) T.ts ?_
    refine wpAnyH_take (i := 1) (v := .agg (intA noEv)) rfl (by kernel_rfl) (by kernel_rfl) (by kernel_rfl) (fun _ _ _ h => h) (yieldsIf_load_mid (by rfl) 75 (.tmp 6) rfl (w.heap.size + 3) 0 rfl (intC noEv) _ (fun w h => h.rng) Tryd.underlying75 rfl info44) T.ts ?_
    refine held_pair (i := 2) (j := 3) rfl rfl (by kernel_rfl) (by kernel_rfl) (by kernel_rfl) rfl rfl rfl rfl (.tmp 4) (.tmp 14) (.tmp 5) (.tmp 15) rfl rfl (w.heap.size + 1) (w.heap.size + 2) (by omega) rfl rfl (mA 1 0 (.slice none 0 0)) rfl rfl (mA_all _ _ _ _ _) _ rfl noEv rfl rfl _ rfl T.res _ rfl T.evt (fun u' t => T.ts.two t) ?_
    intro u' g1 g2 t
    have b1 : Below w.heap.size w u' := t.below T.drew.bel (by omega) (by omega)
    go_wp2_with fail
    exact end_me Tryd.results68 rfl rfl rfl rfl g1 rfl g2 ⟨none, 0, 0, rfl, rfl, Nat.le_refl _, SlAt.nil _ _, (fun _ _ e => by cases e), b1⟩
  · have e : RM.take ⟨M, K, L⟩ 24 = (.zero, noEv) := by simp [RM.take]
    rw [e]; clear e
    go_enter Tryd.func68, Tryd.ntmps68
    go_wp2_with fail
    refine wp_gen (TW w M K (.slice ao n cap)) (TW.lit w M K (.slice ao n cap)) ?_
    intro W T
    refine wp_region_held (S := TS w M K (.slice ao n cap)) mixed ?_
    refine wpAnyH_take (i := 0) (v := .agg (mA 0 0 (.slice none 0 0))) rfl (by kernel_rfl) (by kernel_rfl) (by kernel_rfl) (fun _ _ _ h => h) (Or.inl ⟨by rfl, by intro w hSw; go_simp; try rfl⟩) T.ts ?_
    refine wpAnyH_take (i := 1) (v := .agg (intA noEv)) rfl (by kernel_rfl) (by kernel_rfl) (by kernel_rfl) (fun _ _ _ h => h) (yieldsIf_load_mid (by rfl) 75 (.tmp 6) rfl (w.heap.size + 3) 0 rfl (intC noEv) _ (fun w h => h.rng) Tryd.underlying75 rfl info44) T.ts ?_
    refine held_pair (i := 2) (j := 3) rfl rfl (by kernel_rfl) (by kernel_rfl) (by kernel_rfl) rfl rfl rfl rfl (.tmp 4) (.tmp 23) (.tmp 5) (.tmp 24) rfl rfl (w.heap.size + 1) (w.heap.size + 2) (by omega) rfl rfl (mA 0 0 (.slice none 0 0)) rfl rfl (mA_all _ _ _ _ _) _ rfl noEv rfl rfl _ rfl T.res _ rfl T.evt (fun u' t => T.ts.two t) ?_
    intro u' g1 g2 t
    have b1 : Below w.heap.size w u' := t.below T.drew.bel (by omega) (by omega)
    go_wp2_with fail
    exact end_me Tryd.results68 rfl rfl rfl rfl g1 rfl g2 ⟨none, 0, 0, rfl, rfl, Nat.le_refl _, SlAt.nil _ _, (fun _ _ e => by cases e), b1⟩
  · have e : RM.take ⟨M, K, L⟩ 26 = (.zero, noEv) := by simp [RM.take]
    rw [e]; clear e
    go_enter Tryd.func68, Tryd.ntmps68
    go_wp2_with fail
    refine wp_gen (TW w M K (.slice ao n cap)) (TW.lit w M K (.slice ao n cap)) ?_
    intro W T
    refine wp_region_held (S := TS w M K (.slice ao n cap)) mixed ?_
    refine wpAnyH_take (i := 0) (v := .agg (mA 0 0 (.slice none 0 0))) rfl (by kernel_rfl) (by kernel_rfl) (by kernel_rfl) (fun _ _ _ h => h) (Or.inl ⟨by rfl, by intro w hSw; go_simp; try rfl⟩) T.ts ?_
    refine wpAnyH_take (i := 1) (v := .agg (intA noEv)) rfl (by kernel_rfl) (by kernel_rfl) (by kernel_rfl) (fun _ _ _ h => h) (yieldsIf_load_mid (by rfl) 75 (.tmp 6) rfl (w.heap.size + 3) 0 rfl (intC noEv) _ (fun w h => h.rng) Tryd.underlying75 rfl info44) T.ts ?_
    refine held_pair (i := 2) (j := 3) rfl rfl (by kernel_rfl) (by kernel_rfl) (by kernel_rfl) rfl rfl rfl rfl (.tmp 4) (.tmp 23) (.tmp 5) (.tmp 24) rfl rfl (w.heap.size + 1) (w.heap.size + 2) (by omega) rfl rfl (mA 0 0 (.slice none 0 0)) rfl rfl (mA_all _ _ _ _ _) _ rfl noEv rfl rfl _ rfl T.res _ rfl T.evt (fun u' t => T.ts.two t) ?_
    intro u' g1 g2 t
    have b1 : Below w.heap.size w u' := t.below T.drew.bel (by omega) (by omega)
    go_wp2_with fail
    exact end_me Tryd.results68 rfl rfl rfl rfl g1 rfl g2 ⟨none, 0, 0, rfl, rfl, Nat.le_refl _, SlAt.nil _ _, (fun _ _ e => by cases e), b1⟩
  · have e : RM.take ⟨M, K, L⟩ 127 = (⟨M, K, L⟩, noEv) := by simp [RM.take]
    rw [e]; clear e
    go_enter Tryd.func68, Tryd.ntmps68
    go_wp2_with fail
    refine wp_gen (TW w M K (.slice ao n cap)) (TW.lit w M K (.slice ao n cap)) ?_
    intro W T
    refine wp_region_held (S := TS w M K (.slice ao n cap)) mixed ?_
    refine wpAnyH_take (i := 0) (v := .agg (mA M K (.slice ao n cap))) rfl (by kernel_rfl) (by kernel_rfl) (by kernel_rfl) (fun _ _ _ h => h) (yieldsIf_load_mid (by rfl) 123 (.tmp 2) rfl w.heap.size 0 rfl [.int .i64 M, .int .i64 K, (.slice ao n cap)] _ (fun w h => h.rngB) Tryd.underlying123 rfl info69) T.ts ?_
    refine wpAnyH_take (i := 1) (v := .agg (intA noEv)) rfl (by kernel_rfl) (by kernel_rfl) (by kernel_rfl) (fun _ _ _ h => h) (yieldsIf_load_mid (by rfl) 75 (.tmp 6) rfl (w.heap.size + 3) 0 rfl (intC noEv) _ (fun w h => h.rng) Tryd.underlying75 rfl info44) T.ts ?_
    refine held_pair (i := 2) (j := 3) rfl rfl (by kernel_rfl) (by kernel_rfl) (by kernel_rfl) rfl rfl rfl rfl (.tmp 4) (.tmp 28) (.tmp 5) (.tmp 29) rfl rfl (w.heap.size + 1) (w.heap.size + 2) (by omega) rfl rfl (mA M K (.slice ao n cap)) rfl rfl (mA_all _ _ _ _ _) _ rfl noEv rfl rfl _ rfl T.res _ rfl T.evt (fun u' t => T.ts.two t) ?_
    intro u' g1 g2 t
    have b1 : Below w.heap.size w u' := t.below T.drew.bel (by omega) (by omega)
    go_wp2_with fail
    exact end_me Tryd.results68 rfl rfl rfl rfl g1 rfl g2 ⟨ao, n, cap, rfl, hn.symm, hcap, hsl.below b1, (fun _ _ _ => Or.inl rfl), b1⟩

set_option maxRecDepth 100000 in
set_option maxHeartbeats 2000000 in
theorem rtake_b (K : Int) (L : List Int) (ao : Option Addr) (n cap : Nat) (c : Int) (w : World) (hn : L.length = n) (hcap : n ≤ cap) (hsl : SlAt w ao L) (hc : c ≠ 27 ∧ c ≠ 24 ∧ c ≠ 26 ∧ c ≠ 127) (M : Int) (hM : M = 3) : TakeSaid M K L ao n cap c w := by
  unfold TakeSaid
  have b27 : (c == 27) = false := by simp [hc.1]
  have b24 : (c == 24) = false := by simp [hc.2.1]
  have b26 : (c == 26) = false := by simp [hc.2.2.1]
  have b127 : (c == 127) = false := by simp [hc.2.2.2]
  have bM : (M == 3) = true := by simp [hM]
  have hbase : RM.take ⟨M, K, L⟩ c = if c = 7 ∨ c = 156 then (.zero, noEv) else (⟨M, K, L⟩, noEv) := by
    unfold RM.take; rw [if_neg hc.1, if_neg (by omega), if_neg hc.2.2.2, if_pos hM]
  by_cases h7 : c = 7
  · rw [hbase, if_pos (Or.inl h7)]
    clear hbase hc hM
    have b7 : (c == 7) = true := by simp [h7]
    clear h7
    go_enter Tryd.func68, Tryd.ntmps68
    go_wp2_with fail
    refine wp_gen (TW w M K (.slice ao n cap)) (TW.lit w M K (.slice ao n cap)) ?_
    intro W T
    refine wp_region_held (S := TS w M K (.slice ao n cap)) mixed ?_
    refine wpAnyH_take (i := 0) (v := .agg (mA 0 0 (.slice none 0 0))) rfl (by kernel_rfl) (by kernel_rfl) (by kernel_rfl) (fun _ _ _ h => h) (Or.inl ⟨by rfl, by intro w hSw; go_simp; try rfl⟩) T.ts ?_
    refine wpAnyH_take (i := 1) (v := .agg (intA noEv)) rfl (by kernel_rfl) (by kernel_rfl) (by kernel_rfl) (fun _ _ _ h => h) (yieldsIf_load_mid (by rfl) 75 (.tmp 6) rfl (w.heap.size + 3) 0 rfl (intC noEv) _ (fun w h => h.rng) Tryd.underlying75 rfl info44) T.ts ?_
    refine held_pair (i := 2) (j := 3) rfl rfl (by kernel_rfl) (by kernel_rfl) (by kernel_rfl) rfl rfl rfl rfl (.tmp 4) (.tmp 40) (.tmp 5) (.tmp 41) rfl rfl (w.heap.size + 1) (w.heap.size + 2) (by omega) rfl rfl (mA 0 0 (.slice none 0 0)) rfl rfl (mA_all _ _ _ _ _) _ rfl noEv rfl rfl _ rfl T.res _ rfl T.evt (fun u' t => T.ts.two t) ?_
    intro u' g1 g2 t
    have b1 : Below w.heap.size w u' := t.below T.drew.bel (by omega) (by omega)
    go_wp2_with fail
    exact end_me Tryd.results68 rfl rfl rfl rfl g1 rfl g2 ⟨none, 0, 0, rfl, rfl, Nat.le_refl _, SlAt.nil _ _, (fun _ _ e => by cases e), b1⟩
  · by_cases h156 : c = 156
    · rw [hbase, if_pos (Or.inr h156)]
      clear hbase hc hM
      have b7 : (c == 7) = false := by simp [h7]
      have b156 : (c == 156) = true := by simp [h156]
      clear h7 h156
      go_enter Tryd.func68, Tryd.ntmps68
      go_wp2_with fail
      refine wp_gen (TW w M K (.slice ao n cap)) (TW.lit w M K (.slice ao n cap)) ?_
      intro W T
      refine wp_region_held (S := TS w M K (.slice ao n cap)) mixed ?_
      refine wpAnyH_take (i := 0) (v := .agg (mA 0 0 (.slice none 0 0))) rfl (by kernel_rfl) (by kernel_rfl) (by kernel_rfl) (fun _ _ _ h => h) (Or.inl ⟨by rfl, by intro w hSw; go_simp; try rfl⟩) T.ts ?_
      refine wpAnyH_take (i := 1) (v := .agg (intA noEv)) rfl (by kernel_rfl) (by kernel_rfl) (by kernel_rfl) (fun _ _ _ h => h) (yieldsIf_load_mid (by rfl) 75 (.tmp 6) rfl (w.heap.size + 3) 0 rfl (intC noEv) _ (fun w h => h.rng) Tryd.underlying75 rfl info44) T.ts ?_
      refine held_pair (i := 2) (j := 3) rfl rfl (by kernel_rfl) (by kernel_rfl) (by kernel_rfl) rfl rfl rfl rfl (.tmp 4) (.tmp 40) (.tmp 5) (.tmp 41) rfl rfl (w.heap.size + 1) (w.heap.size + 2) (by omega) rfl rfl (mA 0 0 (.slice none 0 0)) rfl rfl (mA_all _ _ _ _ _) _ rfl noEv rfl rfl _ rfl T.res _ rfl T.evt (fun u' t => T.ts.two t) ?_
      intro u' g1 g2 t
      have b1 : Below w.heap.size w u' := t.below T.drew.bel (by omega) (by omega)
      go_wp2_with fail
      exact end_me Tryd.results68 rfl rfl rfl rfl g1 rfl g2 ⟨none, 0, 0, rfl, rfl, Nat.le_refl _, SlAt.nil _ _, (fun _ _ e => by cases e), b1⟩
    · rw [hbase, if_neg (by omega)]
      clear hbase hc hM
      have b7 : (c == 7) = false := by simp [h7]
      have b156 : (c == 156) = false := by simp [h156]
      clear h7 h156
      go_enter Tryd.func68, Tryd.ntmps68
      go_wp2_with fail
      refine wp_gen (TW w M K (.slice ao n cap)) (TW.lit w M K (.slice ao n cap)) ?_
      intro W T
      refine wp_region_held (S := TS w M K (.slice ao n cap)) mixed ?_
      refine wpAnyH_take (i := 0) (v := .agg (mA M K (.slice ao n cap))) rfl (by kernel_rfl) (by kernel_rfl) (by kernel_rfl) (fun _ _ _ h => h) (yieldsIf_load_mid (by rfl) 123 (.tmp 2) rfl w.heap.size 0 rfl [.int .i64 M, .int .i64 K, (.slice ao n cap)] _ (fun w h => h.rngB) Tryd.underlying123 rfl info69) T.ts ?_
      refine wpAnyH_take (i := 1) (v := .agg (intA noEv)) rfl (by kernel_rfl) (by kernel_rfl) (by kernel_rfl) (fun _ _ _ h => h) (yieldsIf_load_mid (by rfl) 75 (.tmp 6) rfl (w.heap.size + 3) 0 rfl (intC noEv) _ (fun w h => h.rng) Tryd.underlying75 rfl info44) T.ts ?_
      refine held_pair (i := 2) (j := 3) rfl rfl (by kernel_rfl) (by kernel_rfl) (by kernel_rfl) rfl rfl rfl rfl (.tmp 4) (.tmp 42) (.tmp 5) (.tmp 43) rfl rfl (w.heap.size + 1) (w.heap.size + 2) (by omega) rfl rfl (mA M K (.slice ao n cap)) rfl rfl (mA_all _ _ _ _ _) _ rfl noEv rfl rfl _ rfl T.res _ rfl T.evt (fun u' t => T.ts.two t) ?_
      intro u' g1 g2 t
      have b1 : Below w.heap.size w u' := t.below T.drew.bel (by omega) (by omega)
      go_wp2_with fail
      exact end_me Tryd.results68 rfl rfl rfl rfl g1 rfl g2 ⟨ao, n, cap, rfl, hn.symm, hcap, hsl.below b1, (fun _ _ _ => Or.inl rfl), b1⟩

set_option maxRecDepth 100000 in
set_option maxHeartbeats 2000000 in
theorem rtake_c (M K : Int) (L : List Int) (ao : Option Addr) (n cap : Nat) (c : Int) (w : World) (hn : L.length = n) (hcap : n ≤ cap) (hsl : SlAt w ao L) (hc : c ≠ 27 ∧ c ≠ 24 ∧ c ≠ 26 ∧ c ≠ 127) (hM : M ≠ 3) (h : c < 32 ∨ (¬ c < 32 ∧ M = 0) ∨ (¬ c < 32 ∧ M = 1)) : TakeSaid M K L ao n cap c w := by
  unfold TakeSaid
  have b27 : (c == 27) = false := by simp [hc.1]
  have b24 : (c == 24) = false := by simp [hc.2.1]
  have b26 : (c == 26) = false := by simp [hc.2.2.1]
  have b127 : (c == 127) = false := by simp [hc.2.2.2]
  have bM : (M == 3) = false := by simp [hM]
  rcases h with h | ⟨h, h0⟩ | ⟨h, h1⟩
  · have e : RM.take ⟨M, K, L⟩ c = (⟨M, K, L⟩, [2, c, 0, 0, 0] ++ z16) := by
      unfold RM.take; rw [if_neg hc.1, if_neg (by omega), if_neg hc.2.2.2, if_neg hM, if_pos h]
    rw [e]; clear e hc hM
    go_enter Tryd.func68, Tryd.ntmps68
    go_wp2_with (refine wp_pair w _ rfl rfl rfl rfl (.tmp 47) (.tmp 49) rfl rfl rfl rfl (mA M K (.slice ao n cap)) rfl rfl (mA_all _ _ _ _ _) _ rfl ([2, c, 0, 0, 0] ++ z16) rfl rfl (TW.lit w M K (.slice ao n cap)) ?_)
    intro u' g1 g2 t
    have b1 : Below w.heap.size w u' := t.below (TW.lit w M K (.slice ao n cap)).bel (by omega) (by omega)
    go_wp2_with fail
    exact end_me Tryd.results68 rfl rfl rfl rfl g1 rfl g2 ⟨ao, n, cap, rfl, hn.symm, hcap, hsl.below b1, (fun _ _ _ => Or.inl rfl), b1⟩
  · have e : RM.take ⟨M, K, L⟩ c = (⟨M, K, L⟩, [1, c, 0, 0, 0] ++ z16) := by
      unfold RM.take; rw [if_neg hc.1, if_neg (by omega), if_neg hc.2.2.2, if_neg hM, if_neg h, if_pos h0]
    rw [e]; clear e hc hM
    have b0 : (M == 0) = true := by simp [h0]
    clear h0
    go_enter Tryd.func68, Tryd.ntmps68
    go_wp2_with (refine wp_pair w _ rfl rfl rfl rfl (.tmp 54) (.tmp 56) rfl rfl rfl rfl (mA M K (.slice ao n cap)) rfl rfl (mA_all _ _ _ _ _) _ rfl ([1, c, 0, 0, 0] ++ z16) rfl rfl (TW.lit w M K (.slice ao n cap)) ?_)
    intro u' g1 g2 t
    have b1 : Below w.heap.size w u' := t.below (TW.lit w M K (.slice ao n cap)).bel (by omega) (by omega)
    go_wp2_with fail
    exact end_me Tryd.results68 rfl rfl rfl rfl g1 rfl g2 ⟨ao, n, cap, rfl, hn.symm, hcap, hsl.below b1, (fun _ _ _ => Or.inl rfl), b1⟩
  · have e : RM.take ⟨M, K, L⟩ c = RM.esc ⟨M, K, []⟩ c := by
      unfold RM.take; rw [if_neg hc.1, if_neg (by omega), if_neg hc.2.2.2, if_neg hM, if_neg h, if_neg (show ¬ M = 0 by omega), if_pos h1]; rfl
    have hlen : (RM.esc ⟨M, K, []⟩ c).2.length = 21 := by
      unfold RM.esc; (repeat' split) <;> rfl
    have hnil : (RM.esc ⟨M, K, []⟩ c).1.body = [] := by
      unfold RM.esc; (repeat' split) <;> rfl
    rw [e]; clear e hc hM
    have b0 : (M == 0) = false := by simp [h1]
    have b1 : (M == 1) = true := by simp [h1]
    clear h1
    rw [hnil]
    clear hnil
    have hcall := resc_any M K (.slice ao n cap) ⟨_, _, _, rfl⟩ c
    generalize RM.esc ⟨M, K, []⟩ c = X at *
    obtain ⟨⟨M', K', L'⟩, EV⟩ := X
    dsimp only at hlen hcall ⊢
    go_enter Tryd.func68, Tryd.ntmps68
    go_wp2_with fail
    refine (hcall _).mono ?_
    rintro e u ⟨rfl, bu⟩
    have T := (TW.lit w M K (.slice ao n cap)).two bu
    clear hcall
    go_wp2_with (refine wp_pair w _ rfl rfl rfl rfl (.tmp 64) (.tmp 65) rfl rfl rfl rfl (mA M' K' (.slice none 0 0)) rfl rfl (mA_all _ _ _ _ _) _ rfl EV rfl hlen T ?_)
    intro u' g1 g2 t
    have b1 : Below w.heap.size w u' := t.below T.bel (by omega) (by omega)
    go_wp2_with fail
    exact end_me Tryd.results68 rfl rfl hlen rfl g1 rfl g2 ⟨none, 0, 0, rfl, rfl, Nat.le_refl _, SlAt.nil _ _, (fun _ _ e => by cases e), b1⟩

end Go.Proofs.YtheibfffilomcaaDoor
