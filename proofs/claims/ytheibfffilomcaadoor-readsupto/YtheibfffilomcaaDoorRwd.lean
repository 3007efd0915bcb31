/- The walks of the document's machine: an escape. -/
import Derived.Test.YtheibfffilomcaaDoorRwc
import Derived.Deep.RegionHeld
namespace Go.Proofs.YtheibfffilomcaaDoor
open Go.RowKit

theorem info69 : (Tryd.prog.info? 123).map (·.size) = some 3 := by kernel_rfl
/-- The document's machine as a value. -/
def mA (md mr : Int) (bv : Value) : Array Value := #[.int .i64 md, .int .i64 mr, bv]

theorem mA_all (md mr : Int) (a : Option Addr) (n k : Nat) : (mA md mr (.slice a n k)).all (·.oneCell') = true := by simp [mA, Value.oneCell']

/-- A world in which take and escape have laid their variables. -/
structure TW (w : World) (md mr : Int) (bv : Value) (u : World) : Prop where
  box : u.heap[w.heap.size]? = some (.cells (mA md mr bv) 123 (0, 0))
  res : u.heap[w.heap.size + 1]? = some (.cells (mA 0 0 (.slice none 0 0)) 123 (0, 0))
  evt : u.heap[w.heap.size + 2]? = some (.cells (intA noEv) 75 (0, 0))
  non : u.heap[w.heap.size + 3]? = some (.cells (intA noEv) 75 (0, 0))
  bel : Below w.heap.size w u
theorem TW.lit (w : World) (md mr : Int) (bv : Value) : TW w md mr bv ((((w.alloc (.cells (mA md mr bv) 123)).alloc (.cells (mA 0 0 (.slice none 0 0)) 123)).alloc (.cells (intA noEv) 75)).alloc (.cells (intA noEv) 75)) := by
  have z1 : (w.alloc (.cells (mA md mr bv) 123)).heap.size = w.heap.size + 1 := by simp
  have z2 : ((w.alloc (.cells (mA md mr bv) 123)).alloc (.cells (mA 0 0 (.slice none 0 0)) 123)).heap.size = w.heap.size + 2 := by simp
  have z3 : (((w.alloc (.cells (mA md mr bv) 123)).alloc (.cells (mA 0 0 (.slice none 0 0)) 123)).alloc (.cells (intA noEv) 75)).heap.size = w.heap.size + 3 := by simp
  refine ⟨?_, ?_, ?_, ?_, ?_⟩
  · rw [Below.heap_alloc _ _ _ (by omega), Below.heap_alloc _ _ _ (by omega), Below.heap_alloc _ _ _ (by omega)]; exact heap_alloc_new _ _
  · rw [Below.heap_alloc _ _ _ (by omega), Below.heap_alloc _ _ _ (by omega), ← z1]; exact heap_alloc_new _ _
  · rw [Below.heap_alloc _ _ _ (by omega), ← z2]; exact heap_alloc_new _ _
  · rw [← z3]; exact heap_alloc_new _ _
  · exact ((((Below.refl _ _).alloc (Nat.le_refl _) _).alloc (by simp) _).alloc (by simp; omega) _).alloc (by simp; omega) _
theorem TW.drew {w u : World} {md mr : Int} {bv : Value} (h : TW w md mr bv u) : TW w md mr bv { u with drawn := u.drawn + 1 } := ⟨h.box, h.res, h.evt, h.non, h.bel.drew⟩
theorem TW.rng {w u : World} {md mr : Int} {bv : Value} (h : TW w md mr bv u) : World.rangeAt { u with drawn := u.drawn + 1 } (w.heap.size + 3) 0 (intC noEv) := fun j v hv => by
  rw [cell_of_row _ _ _ _ _ _ h.drew.non, Nat.zero_add]; simpa [intA] using hv
theorem TW.rngB {w u : World} {md mr : Int} {bv : Value} (h : TW w md mr bv u) : World.rangeAt { u with drawn := u.drawn + 1 } w.heap.size 0 [.int .i64 md, .int .i64 mr, bv] := fun j v hv => by
  rw [cell_of_row _ _ _ _ _ _ h.drew.box, Nat.zero_add]; simpa [mA] using hv
theorem TW.size {w u : World} {md mr : Int} {bv : Value} (h : TW w md mr bv u) : w.heap.size + 4 ≤ u.heap.size := by
  have := (Array.getElem?_eq_some_iff.1 h.non).1
  omega
theorem wp_gen {c : Code} {Q : Exit → Act → World → Prop} {a : Act} {w0 : World} (P : World → Prop) (h : P w0) (k : ∀ W, P W → c.wp Tryd.prog Q a W) : c.wp Tryd.prog Q a w0 := k w0 h

/-- Two blocks alone are written. -/
structure Two (g h : Nat) (u u' : World) : Prop where
  os : u'.os = u.os
  tape : u'.tape = u.tape
  output : u'.output = u.output
  size : u'.heap.size = u.heap.size
  block : ∀ k, k ≠ g → k ≠ h → u'.heap[k]? = u.heap[k]?
theorem Two.below {B g h : Nat} {w u u' : World} (t : Two g h u u') (b : Below B w u) (hg : B ≤ g) (hh : B ≤ h) : Below B w u' :=
  ⟨t.os.trans b.os, t.tape.trans b.tape, t.output.trans b.output, by rw [t.size]; exact b.size, fun k hk => (t.block k (by omega) (by omega)).trans (b.block k hk)⟩
theorem Two.row {g h : Nat} {u : World} {r : Nat} {cs : Array Value} (hr : r = g ∨ r = h) : Two g h u (u.setRow r cs) :=
  ⟨rfl, rfl, rfl, by simp, fun k h1 h2 => setRow_other u r k _ (by omega)⟩
theorem Two.trans {g h : Nat} {a b c : World} (p : Two g h a b) (q : Two g h b c) : Two g h a c :=
  ⟨q.os.trans p.os, q.tape.trans p.tape, q.output.trans p.output, q.size.trans p.size, fun k h1 h2 => (q.block k h1 h2).trans (p.block k h1 h2)⟩

/-- What a region's loads read, as long as the region lasts. -/
structure TS (w : World) (md mr : Int) (bv : Value) (u : World) : Prop where
  box : u.heap[w.heap.size]? = some (.cells (mA md mr bv) 123 (0, 0))
  non : u.heap[w.heap.size + 3]? = some (.cells (intA noEv) 75 (0, 0))
theorem TS.two {w u u' : World} {md mr : Int} {bv : Value} (h : TS w md mr bv u) (t : Two (w.heap.size + 1) (w.heap.size + 2) u u') : TS w md mr bv u' :=
  ⟨(t.block _ (by omega) (by omega)).trans h.box, (t.block _ (by omega) (by omega)).trans h.non⟩
theorem TS.rng {w u : World} {md mr : Int} {bv : Value} (h : TS w md mr bv u) : u.rangeAt (w.heap.size + 3) 0 (intC noEv) := fun j v hv => by
  rw [cell_of_row _ _ _ _ _ _ h.non, Nat.zero_add]; simpa [intA] using hv
theorem TS.rngB {w u : World} {md mr : Int} {bv : Value} (h : TS w md mr bv u) : u.rangeAt w.heap.size 0 [.int .i64 md, .int .i64 mr, bv] := fun j v hv => by
  rw [cell_of_row _ _ _ _ _ _ h.box, Nat.zero_add]; simpa [mA] using hv
theorem TW.ts {w u : World} {md mr : Int} {bv : Value} (h : TW w md mr bv u) : TS w md mr bv { u with drawn := u.drawn + 1 } := ⟨h.box, h.non⟩

/-- The two stores that end a region, the first ahead of the second. -/
theorem held_pair {ops : Array Oper} {Q : Exit → Act → World → Prop} {S : World → Prop} {listed : Array Bool} {fuel i j : Nat} {o1 o2 : Oper} {a : Act} {u : World} (hi : ops[i]? = some o1) (hj : ops[j]? = some o2)
    (hr1 : Region.ready .any ops listed = [i]) (hr2 : Region.ready .any ops (listed.setIfInBounds i true) = [j]) (hr3 : Region.ready .any ops ((listed.setIfInBounds i true).setIfInBounds j true) = [])
    (hg1 : o1.guard = none) (hg2 : o2.guard = none) (hd1 : o1.dst = none) (hd2 : o2.dst = none) (x1 y1 x2 y2 : Operand) (ho1 : o1.op = .store 123 x1 y1) (ho2 : o2.op = .store 75 x2 y2)
    (gm ge : Nat) (hne : gm ≠ ge) (h4 : a.eval x1 = .pointer (some ⟨gm, 0, none⟩)) (h5 : a.eval x2 = .pointer (some ⟨ge, 0, none⟩))
    (mv : Array Value) (hx : a.eval y1 = .agg mv) (hms : mv.size = 3) (hma : mv.all (·.oneCell') = true) (arr : Array Value) (hy : a.eval y2 = .agg arr) (ev : List Int) (harr : arr = intA ev) (hev : ev.length = 21)
    (old : Array Value) (hold : old.size = 3) (g1 : u.heap[gm]? = some (.cells old 123 (0, 0))) (eold : List Int) (heold : eold.length = 21) (g2 : u.heap[ge]? = some (.cells (intA eold) 75 (0, 0)))
    (hS : ∀ u', Two gm ge u u' → S u')
    (h : ∀ u', u'.heap[gm]? = some (.cells mv 123 (0, 0)) → u'.heap[ge]? = some (.cells (intA ev) 75 (0, 0)) → Two gm ge u u' → Q .normal a u') : wpAnyH Tryd.prog .any ops Q S (fuel + 2) listed a u := by
  subst harr
  have t1 : Two gm ge u (u.setRow gm mv) := Two.row (Or.inl rfl)
  have r1 : (u.setRow gm mv).heap[gm]? = some (.cells mv 123 (0, 0)) := setRow_heap u _ _ _ 123 _ g1
  have r2 : (u.setRow gm mv).heap[ge]? = some (.cells (intA eold) 75 (0, 0)) := (setRow_other u _ _ _ (by omega)).trans g2
  have t2 : Two gm ge u ((u.setRow gm mv).setRow ge (intA ev)) := t1.trans (Two.row (Or.inr rfl))
  have r3 : ((u.setRow gm mv).setRow ge (intA ev)).heap[ge]? = some (.cells (intA ev) 75 (0, 0)) := setRow_heap _ _ _ _ 75 _ r2
  have r4 : ((u.setRow gm mv).setRow ge (intA ev)).heap[gm]? = some (.cells mv 123 (0, 0)) := (setRow_other _ _ _ _ (by omega)).trans r1
  refine wpAnyH_all hr1 (by simp) fun k hk => ?_
  rw [List.mem_singleton] at hk
  subst hk
  refine wpOp_step hi fun K hK => ?_
  rw [if_pos (by simp [Region.wanted, hg1])]
  refine wp_store_row 123 x1 y1 ho1 gm mv h4 hx 123 old g1 (by rw [hms]; exact info69) (by rw [hms, hold]) hma (hK _ _ ⟨hS _ t1, ?_⟩)
  rw [hd1]
  refine wpAnyH_all hr2 (by simp) fun k hk => ?_
  rw [List.mem_singleton] at hk
  subst hk
  refine wpOp_step hj fun K' hK' => ?_
  rw [if_pos (by simp [Region.wanted, hg2])]
  refine wp_store_row (a := a.put none undef) 75 x2 y2 ho2 ge (intA ev) h5 hy 75 (intA eold) r2 (by rw [intA_size, hev]; exact info44) (by rw [intA_size, intA_size, hev, heold]) (intA_all _) (hK' _ _ ⟨hS _ t2, ?_⟩)
  rw [hd2]
  exact wpAnyH_done hr3 (h _ r4 r3 t2) _

theorem results_me {fn : Func} {p q : Tmp} (h : fn.results = #[.cell p 123, .cell q 75]) (tmps : Array Value) (w : World) (g g' : Nat) (mv : Array Value) (hmv : mv.size = 3) (ev : List Int) (hev : ev.length = 21) (t t' : TypeId) (fr fr' : Nat × Nat)
    (hp : tmps.getD p undef = .pointer (some ⟨g, 0, none⟩)) (hg : w.heap[g]? = some (.cells mv t fr)) (hq : tmps.getD q undef = .pointer (some ⟨g', 0, none⟩)) (hg' : w.heap[g']? = some (.cells (intA ev) t' fr')) :
    (results fn tmps).run Tryd.prog w = .ok (.tuple #[.agg mv, .agg (intA ev)]) w := by
  have hp' : tmps[p]?.getD undef = .pointer (some ⟨g, 0, none⟩) := by simpa using hp
  have hq' : tmps[q]?.getD undef = .pointer (some ⟨g', 0, none⟩) := by simpa using hq
  simp [results, h, hp', hq', asAddr, run_loadVar_row w g t 123 mv fr _ hg Tryd.underlying123 rfl (by rw [hmv]; exact info69), run_loadVar_row w g' t' 75 (intA ev) fr' _ hg' Tryd.underlying75 rfl (by rw [intA_size, hev]; exact info44)]

theorem end_me {fn : Func} {p q : Tmp} (hres : fn.results = #[.cell p 123, .cell q 75]) {a : Act} (hd : a.defers = []) {u : World} {g g' : Nat} {mv : Array Value} (hmv : mv.size = 3) {ev : List Int} (hev : ev.length = 21)
    (hp : a.tmps.getD p undef = .pointer (some ⟨g, 0, none⟩)) (hg : u.heap[g]? = some (.cells mv 123 (0, 0))) (hq : a.tmps.getD q undef = .pointer (some ⟨g', 0, none⟩)) (hg' : u.heap[g']? = some (.cells (intA ev) 75 (0, 0)))
    {Q : Ending → World → Prop} (h : Q (.returned (.tuple #[.agg mv, .agg (intA ev)])) u) : bodyPost Tryd.prog fn Q .ret a u :=
  bodyPost_ret (results_me hres a.tmps u g g' mv hmv ev hev 123 75 (0, 0) (0, 0) hp hg hq hg') hd h

set_option maxRecDepth 100000 in
set_option maxHeartbeats 2000000 in
theorem resc_any (M K : Int) (bv : Value) (hbv : ∃ a n k, bv = .slice a n k) (c : Int) (w : World) :
    Calls Tryd.prog 89 #[.agg (mA M K bv), .int .i64 c] w fun e w' => e = .returned (.tuple #[.agg (mA (RM.esc ⟨M, K, []⟩ c).1.md (RM.esc ⟨M, K, []⟩ c).1.mr (.slice none 0 0)), .agg (intA (RM.esc ⟨M, K, []⟩ c).2)]) ∧ Below w.heap.size w w' := by
  obtain ⟨a0, n0, k0, rfl⟩ := hbv
  unfold mA
  by_cases h91 : c = 91
  · have e : RM.esc ⟨M, K, []⟩ c = (⟨2, 0, []⟩, noEv) := by unfold RM.esc; rw [if_pos h91]
    rw [e]; clear e
    subst h91
    go_enter Tryd.func89, Tryd.ntmps89
    go_wp2_with fail
    refine wp_gen (TW w M K (.slice a0 n0 k0)) (TW.lit w M K (.slice a0 n0 k0)) ?_
    intro W T
    refine wp_region_held (S := TS w M K (.slice a0 n0 k0)) mixed ?_
    refine wpAnyH_take (i := 0) (v := .agg (mA 2 0 (.slice none 0 0))) rfl (by kernel_rfl) (by kernel_rfl) (by kernel_rfl) (fun _ _ _ h => h) (Or.inl ⟨by rfl, by intro w hSw; go_simp; try rfl⟩) T.ts ?_
    refine wpAnyH_take (i := 1) (v := .agg (intA noEv)) rfl (by kernel_rfl) (by kernel_rfl) (by kernel_rfl) (fun _ _ _ h => h) (yieldsIf_load_mid (by rfl) 75 (.tmp 6) rfl (w.heap.size + 3) 0 rfl (intC noEv) _ (fun w h => h.rng) Tryd.underlying75 rfl info44) T.ts ?_
    refine held_pair (i := 2) (j := 3) rfl rfl (by kernel_rfl) (by kernel_rfl) (by kernel_rfl) rfl rfl rfl rfl (.tmp 4) (.tmp 10) (.tmp 5) (.tmp 11) rfl rfl (w.heap.size + 1) (w.heap.size + 2) (by omega) rfl rfl (mA 2 0 (.slice none 0 0)) rfl rfl (mA_all _ _ _ _ _) _ rfl noEv rfl rfl _ rfl T.res _ rfl T.evt (fun u' t => T.ts.two t) ?_
    intro u' g1 g2 t
    have b1 : Below w.heap.size w u' := t.below T.drew.bel (by omega) (by omega)
    go_wp2_with fail
    exact end_me Tryd.results89 rfl rfl rfl rfl g1 rfl g2 ⟨rfl, b1⟩
  · have b91 : (c == 91) = false := by simp [h91]
    by_cases ht : textN c = true
    · have e : RM.esc ⟨M, K, []⟩ c = (⟨3, 0, []⟩, noEv) := by unfold RM.esc; rw [if_neg h91, if_pos ht]
      rw [e]; clear e
      have hor : c = 93 ∨ c = 80 ∨ c = 88 ∨ c = 94 ∨ c = 95 := by simp [textN] at ht; omega
      clear ht h91 b91
      rcases hor with rfl | rfl | rfl | rfl | rfl
      · go_enter Tryd.func89, Tryd.ntmps89
        go_wp2_with fail
        refine wp_gen (TW w M K (.slice a0 n0 k0)) (TW.lit w M K (.slice a0 n0 k0)) ?_
        intro W T
        refine wp_region_held (S := TS w M K (.slice a0 n0 k0)) mixed ?_
        refine wpAnyH_take (i := 0) (v := .agg (mA 3 0 (.slice none 0 0))) rfl (by kernel_rfl) (by kernel_rfl) (by kernel_rfl) (fun _ _ _ h => h) (Or.inl ⟨by rfl, by intro w hSw; go_simp; try rfl⟩) T.ts ?_
        refine wpAnyH_take (i := 1) (v := .agg (intA noEv)) rfl (by kernel_rfl) (by kernel_rfl) (by kernel_rfl) (fun _ _ _ h => h) (yieldsIf_load_mid (by rfl) 75 (.tmp 6) rfl (w.heap.size + 3) 0 rfl (intC noEv) _ (fun w h => h.rng) Tryd.underlying75 rfl info44) T.ts ?_
        refine held_pair (i := 2) (j := 3) rfl rfl (by kernel_rfl) (by kernel_rfl) (by kernel_rfl) rfl rfl rfl rfl (.tmp 4) (.tmp 31) (.tmp 5) (.tmp 32) rfl rfl (w.heap.size + 1) (w.heap.size + 2) (by omega) rfl rfl (mA 3 0 (.slice none 0 0)) rfl rfl (mA_all _ _ _ _ _) _ rfl noEv rfl rfl _ rfl T.res _ rfl T.evt (fun u' t => T.ts.two t) ?_
        intro u' g1 g2 t
        have b1 : Below w.heap.size w u' := t.below T.drew.bel (by omega) (by omega)
        go_wp2_with fail
        exact end_me Tryd.results89 rfl rfl rfl rfl g1 rfl g2 ⟨rfl, b1⟩
      · go_enter Tryd.func89, Tryd.ntmps89
        go_wp2_with fail
        refine wp_gen (TW w M K (.slice a0 n0 k0)) (TW.lit w M K (.slice a0 n0 k0)) ?_
        intro W T
        refine wp_region_held (S := TS w M K (.slice a0 n0 k0)) mixed ?_
        refine wpAnyH_take (i := 0) (v := .agg (mA 3 0 (.slice none 0 0))) rfl (by kernel_rfl) (by kernel_rfl) (by kernel_rfl) (fun _ _ _ h => h) (Or.inl ⟨by rfl, by intro w hSw; go_simp; try rfl⟩) T.ts ?_
        refine wpAnyH_take (i := 1) (v := .agg (intA noEv)) rfl (by kernel_rfl) (by kernel_rfl) (by kernel_rfl) (fun _ _ _ h => h) (yieldsIf_load_mid (by rfl) 75 (.tmp 6) rfl (w.heap.size + 3) 0 rfl (intC noEv) _ (fun w h => h.rng) Tryd.underlying75 rfl info44) T.ts ?_
        refine held_pair (i := 2) (j := 3) rfl rfl (by kernel_rfl) (by kernel_rfl) (by kernel_rfl) rfl rfl rfl rfl (.tmp 4) (.tmp 31) (.tmp 5) (.tmp 32) rfl rfl (w.heap.size + 1) (w.heap.size + 2) (by omega) rfl rfl (mA 3 0 (.slice none 0 0)) rfl rfl (mA_all _ _ _ _ _) _ rfl noEv rfl rfl _ rfl T.res _ rfl T.evt (fun u' t => T.ts.two t) ?_
        intro u' g1 g2 t
        have b1 : Below w.heap.size w u' := t.below T.drew.bel (by omega) (by omega)
        go_wp2_with fail
        exact end_me Tryd.results89 rfl rfl rfl rfl g1 rfl g2 ⟨rfl, b1⟩
      · go_enter Tryd.func89, Tryd.ntmps89
        go_wp2_with fail
        refine wp_gen (TW w M K (.slice a0 n0 k0)) (TW.lit w M K (.slice a0 n0 k0)) ?_
        intro W T
        refine wp_region_held (S := TS w M K (.slice a0 n0 k0)) mixed ?_
        refine wpAnyH_take (i := 0) (v := .agg (mA 3 0 (.slice none 0 0))) rfl (by kernel_rfl) (by kernel_rfl) (by kernel_rfl) (fun _ _ _ h => h) (Or.inl ⟨by rfl, by intro w hSw; go_simp; try rfl⟩) T.ts ?_
        refine wpAnyH_take (i := 1) (v := .agg (intA noEv)) rfl (by kernel_rfl) (by kernel_rfl) (by kernel_rfl) (fun _ _ _ h => h) (yieldsIf_load_mid (by rfl) 75 (.tmp 6) rfl (w.heap.size + 3) 0 rfl (intC noEv) _ (fun w h => h.rng) Tryd.underlying75 rfl info44) T.ts ?_
        refine held_pair (i := 2) (j := 3) rfl rfl (by kernel_rfl) (by kernel_rfl) (by kernel_rfl) rfl rfl rfl rfl (.tmp 4) (.tmp 31) (.tmp 5) (.tmp 32) rfl rfl (w.heap.size + 1) (w.heap.size + 2) (by omega) rfl rfl (mA 3 0 (.slice none 0 0)) rfl rfl (mA_all _ _ _ _ _) _ rfl noEv rfl rfl _ rfl T.res _ rfl T.evt (fun u' t => T.ts.two t) ?_
        intro u' g1 g2 t
        have b1 : Below w.heap.size w u' := t.below T.drew.bel (by omega) (by omega)
        go_wp2_with fail
        exact end_me Tryd.results89 rfl rfl rfl rfl g1 rfl g2 ⟨rfl, b1⟩
      · go_enter Tryd.func89, Tryd.ntmps89
        go_wp2_with fail
        refine wp_gen (TW w M K (.slice a0 n0 k0)) (TW.lit w M K (.slice a0 n0 k0)) ?_
        intro W T
        refine wp_region_held (S := TS w M K (.slice a0 n0 k0)) mixed ?_
        refine wpAnyH_take (i := 0) (v := .agg (mA 3 0 (.slice none 0 0))) rfl (by kernel_rfl) (by kernel_rfl) (by kernel_rfl) (fun _ _ _ h => h) (Or.inl ⟨by rfl, by intro w hSw; go_simp; try rfl⟩) T.ts ?_
        refine wpAnyH_take (i := 1) (v := .agg (intA noEv)) rfl (by kernel_rfl) (by kernel_rfl) (by kernel_rfl) (fun _ _ _ h => h) (yieldsIf_load_mid (by rfl) 75 (.tmp 6) rfl (w.heap.size + 3) 0 rfl (intC noEv) _ (fun w h => h.rng) Tryd.underlying75 rfl info44) T.ts ?_
        refine held_pair (i := 2) (j := 3) rfl rfl (by kernel_rfl) (by kernel_rfl) (by kernel_rfl) rfl rfl rfl rfl (.tmp 4) (.tmp 31) (.tmp 5) (.tmp 32) rfl rfl (w.heap.size + 1) (w.heap.size + 2) (by omega) rfl rfl (mA 3 0 (.slice none 0 0)) rfl rfl (mA_all _ _ _ _ _) _ rfl noEv rfl rfl _ rfl T.res _ rfl T.evt (fun u' t => T.ts.two t) ?_
        intro u' g1 g2 t
        have b1 : Below w.heap.size w u' := t.below T.drew.bel (by omega) (by omega)
        go_wp2_with fail
        exact end_me Tryd.results89 rfl rfl rfl rfl g1 rfl g2 ⟨rfl, b1⟩
      · go_enter Tryd.func89, Tryd.ntmps89
        go_wp2_with fail
        refine wp_gen (TW w M K (.slice a0 n0 k0)) (TW.lit w M K (.slice a0 n0 k0)) ?_
        intro W T
        refine wp_region_held (S := TS w M K (.slice a0 n0 k0)) mixed ?_
        refine wpAnyH_take (i := 0) (v := .agg (mA 3 0 (.slice none 0 0))) rfl (by kernel_rfl) (by kernel_rfl) (by kernel_rfl) (fun _ _ _ h => h) (Or.inl ⟨by rfl, by intro w hSw; go_simp; try rfl⟩) T.ts ?_
        refine wpAnyH_take (i := 1) (v := .agg (intA noEv)) rfl (by kernel_rfl) (by kernel_rfl) (by kernel_rfl) (fun _ _ _ h => h) (yieldsIf_load_mid (by rfl) 75 (.tmp 6) rfl (w.heap.size + 3) 0 rfl (intC noEv) _ (fun w h => h.rng) Tryd.underlying75 rfl info44) T.ts ?_
        refine held_pair (i := 2) (j := 3) rfl rfl (by kernel_rfl) (by kernel_rfl) (by kernel_rfl) rfl rfl rfl rfl (.tmp 4) (.tmp 31) (.tmp 5) (.tmp 32) rfl rfl (w.heap.size + 1) (w.heap.size + 2) (by omega) rfl rfl (mA 3 0 (.slice none 0 0)) rfl rfl (mA_all _ _ _ _ _) _ rfl noEv rfl rfl _ rfl T.res _ rfl T.evt (fun u' t => T.ts.two t) ?_
        intro u' g1 g2 t
        have b1 : Below w.heap.size w u' := t.below T.drew.bel (by omega) (by omega)
        go_wp2_with fail
        exact end_me Tryd.results89 rfl rfl rfl rfl g1 rfl g2 ⟨rfl, b1⟩
    · have hor : c ≠ 93 ∧ c ≠ 80 ∧ c ≠ 88 ∧ c ≠ 94 ∧ c ≠ 95 := by simp [textN] at ht; omega
      have b1 : (c == 93) = false := by simp [hor.1]
      have b2 : (c == 80) = false := by simp [hor.2.1]
      have b3 : (c == 88) = false := by simp [hor.2.2.1]
      have b4 : (c == 94) = false := by simp [hor.2.2.2.1]
      have b5 : (c == 95) = false := by simp [hor.2.2.2.2]
      clear hor
      by_cases h48 : c < 48
      · have e : RM.esc ⟨M, K, []⟩ c = (⟨1, c, []⟩, noEv) := by unfold RM.esc; rw [if_neg h91, if_neg ht, if_pos h48]
        rw [e]; clear e ht h91
        go_enter Tryd.func89, Tryd.ntmps89
        go_wp2_with fail
        refine wp_gen (TW w M K (.slice a0 n0 k0)) (TW.lit w M K (.slice a0 n0 k0)) ?_
        intro W T
        refine wp_region_held (S := TS w M K (.slice a0 n0 k0)) mixed ?_
        refine wpAnyH_take (i := 0) (v := .int .i64 c) rfl (by kernel_rfl) (by kernel_rfl) (by kernel_rfl) (fun _ _ _ h => h) (Or.inl ⟨by rfl, by intro w hSw; go_simp; try rfl⟩) T.ts ?_
        refine wpAnyH_take (i := 1) (v := .agg (mA 1 c (.slice none 0 0))) rfl (by kernel_rfl) (by kernel_rfl) (by kernel_rfl) (fun _ _ _ h => h) (Or.inl ⟨by rfl, by intro w hSw; go_simp; try rfl⟩) T.ts ?_
        refine wpAnyH_take (i := 2) (v := .agg (intA noEv)) rfl (by kernel_rfl) (by kernel_rfl) (by kernel_rfl) (fun _ _ _ h => h) (yieldsIf_load_mid (by rfl) 75 (.tmp 6) rfl (w.heap.size + 3) 0 rfl (intC noEv) _ (fun w h => h.rng) Tryd.underlying75 rfl info44) T.ts ?_
        refine held_pair (i := 3) (j := 4) rfl rfl (by kernel_rfl) (by kernel_rfl) (by kernel_rfl) rfl rfl rfl rfl (.tmp 4) (.tmp 37) (.tmp 5) (.tmp 38) rfl rfl (w.heap.size + 1) (w.heap.size + 2) (by omega) rfl rfl (mA 1 c (.slice none 0 0)) rfl rfl (mA_all _ _ _ _ _) _ rfl noEv rfl rfl _ rfl T.res _ rfl T.evt (fun u' t => T.ts.two t) ?_
        intro u' g1 g2 t
        have b1 : Below w.heap.size w u' := t.below T.drew.bel (by omega) (by omega)
        go_wp2_with fail
        exact end_me Tryd.results89 rfl rfl rfl rfl g1 rfl g2 ⟨rfl, b1⟩
      · by_cases h127 : c < 127
        · have e : RM.esc ⟨M, K, []⟩ c = (.zero, [3, 0, K, c, 0] ++ z16) := by unfold RM.esc; rw [if_neg h91, if_neg ht, if_neg h48, if_pos h127]
          rw [e]; clear e ht h91
          go_enter Tryd.func89, Tryd.ntmps89
          go_wp2_with fail
          refine wp_gen (TW w M K (.slice a0 n0 k0)) (TW.lit w M K (.slice a0 n0 k0)) ?_
          intro W T
          refine wp_region_held (S := TS w M K (.slice a0 n0 k0)) mixed ?_
          refine wpAnyH_take (i := 0) (v := .agg (mA 0 0 (.slice none 0 0))) rfl (by kernel_rfl) (by kernel_rfl) (by kernel_rfl) (fun _ _ _ h => h) (Or.inl ⟨by rfl, by intro w hSw; go_simp; try rfl⟩) T.ts ?_
          refine wpAnyH_take (i := 1) (v := .pointer (some ⟨w.heap.size, 1, none⟩)) rfl (by kernel_rfl) (by kernel_rfl) (by kernel_rfl) (fun _ _ _ h => h) (Or.inl ⟨by rfl, by intro w hSw; go_simp; try rfl⟩) T.ts ?_
          refine wpAnyH_take (i := 2) (v := .int .i64 K) rfl (by kernel_rfl) (by kernel_rfl) (by kernel_rfl) (fun _ _ _ h => h) (Or.inl ⟨by rfl, by intro w hSw; have hc1 := hSw.rngB 1 _ rfl; go_simp⟩) T.ts ?_
          refine wpAnyH_take (i := 3) (v := .int .i64 c) rfl (by kernel_rfl) (by kernel_rfl) (by kernel_rfl) (fun _ _ _ h => h) (Or.inl ⟨by rfl, by intro w hSw; go_simp; try rfl⟩) T.ts ?_
          refine wpAnyH_take (i := 4) (v := .agg (intA ([3, 0, K, c, 0] ++ z16))) rfl (by kernel_rfl) (by kernel_rfl) (by kernel_rfl) (fun _ _ _ h => h) (Or.inl ⟨by rfl, fun _ _ => by kernel_rfl⟩) T.ts ?_
          refine held_pair (i := 5) (j := 6) rfl rfl (by kernel_rfl) (by kernel_rfl) (by kernel_rfl) rfl rfl rfl rfl (.tmp 4) (.tmp 42) (.tmp 5) (.tmp 46) rfl rfl (w.heap.size + 1) (w.heap.size + 2) (by omega) rfl rfl (mA 0 0 (.slice none 0 0)) rfl rfl (mA_all _ _ _ _ _) _ rfl ([3, 0, K, c, 0] ++ z16) rfl rfl _ rfl T.res _ rfl T.evt (fun u' t => T.ts.two t) ?_
          intro u' g1 g2 t
          have b1 : Below w.heap.size w u' := t.below T.drew.bel (by omega) (by omega)
          go_wp2_with fail
          exact end_me Tryd.results89 rfl rfl rfl rfl g1 rfl g2 ⟨rfl, b1⟩
        · have e : RM.esc ⟨M, K, []⟩ c = (.zero, noEv) := by unfold RM.esc; rw [if_neg h91, if_neg ht, if_neg h48, if_neg h127]
          rw [e]; clear e ht h91
          go_enter Tryd.func89, Tryd.ntmps89
          go_wp2_with fail
          refine wp_gen (TW w M K (.slice a0 n0 k0)) (TW.lit w M K (.slice a0 n0 k0)) ?_
          intro W T
          refine wp_region_held (S := TS w M K (.slice a0 n0 k0)) mixed ?_
          refine wpAnyH_take (i := 0) (v := .agg (mA 0 0 (.slice none 0 0))) rfl (by kernel_rfl) (by kernel_rfl) (by kernel_rfl) (fun _ _ _ h => h) (Or.inl ⟨by rfl, by intro w hSw; go_simp; try rfl⟩) T.ts ?_
          refine wpAnyH_take (i := 1) (v := .agg (intA noEv)) rfl (by kernel_rfl) (by kernel_rfl) (by kernel_rfl) (fun _ _ _ h => h) (yieldsIf_load_mid (by rfl) 75 (.tmp 6) rfl (w.heap.size + 3) 0 rfl (intC noEv) _ (fun w h => h.rng) Tryd.underlying75 rfl info44) T.ts ?_
          refine held_pair (i := 2) (j := 3) rfl rfl (by kernel_rfl) (by kernel_rfl) (by kernel_rfl) rfl rfl rfl rfl (.tmp 4) (.tmp 47) (.tmp 5) (.tmp 48) rfl rfl (w.heap.size + 1) (w.heap.size + 2) (by omega) rfl rfl (mA 0 0 (.slice none 0 0)) rfl rfl (mA_all _ _ _ _ _) _ rfl noEv rfl rfl _ rfl T.res _ rfl T.evt (fun u' t => T.ts.two t) ?_
          intro u' g1 g2 t
          have b1 : Below w.heap.size w u' := t.below T.drew.bel (by omega) (by omega)
          go_wp2_with fail
          exact end_me Tryd.results89 rfl rfl rfl rfl g1 rfl g2 ⟨rfl, b1⟩

end Go.Proofs.YtheibfffilomcaaDoor
