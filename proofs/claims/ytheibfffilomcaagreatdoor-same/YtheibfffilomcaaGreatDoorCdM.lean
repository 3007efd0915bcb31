/- Cb Cc Cd together. -/
import Derived.Test.YtheibfffilomcaaGreatDoorEqc
import Derived.Deep.RegionHeld
import Derived.Laws.IdiomCopy

/- Walks of package cells: blank, tailOf, wipe, split. -/
namespace Go.Proofs.YtheibfffilomcaaGreatDoor
open Go.RowKit

/-- A cell handed back. -/
theorem results_c {fn : Func} {p : Tmp} (h : fn.results = #[.cell p 101]) (tmps : Array Value) (w : World) (g : Nat) (c : CellS) (t : TypeId) (fr : Nat × Nat)
    (hp : tmps.getD p undef = .pointer (some ⟨g, 0, none⟩)) (hg : w.heap[g]? = some (.cells (cellA c) t fr)) :
    (results fn tmps).run Tryz.prog w = .ok (.agg (cellA c)) w :=
  results_cell_row h tmps w g t (cellA c) fr _ hp hg Tryz.underlying101 rfl (by rw [cellA_size]; exact info49)

theorem blank_any (w : World) : Calls Tryz.prog 204 #[] w fun e w' => e = .returned (.agg (cellA blankS)) ∧ Below w.heap.size w w' := by
  go_enter Tryz.func204, Tryz.ntmps204
  go_wp2
  exact bodyPost_ret (results_c Tryz.results204 _ _ w.heap.size blankS 101 (0, 0) rfl (heap_alloc_new _ _)) rfl ⟨rfl, (Below.refl _ _).alloc (Nat.le_refl _) _⟩

theorem tail_any (c : CellS) (w : World) : Calls Tryz.prog 169 #[.agg (cellA c)] w fun e w' => e = .returned (.agg (cellA (tailS c))) ∧ Below w.heap.size w w' := by
  change Calls Tryz.prog 169 #[.agg #[.int .i64 c.r, .bool c.p.b, .bool c.p.u, .bool c.p.t, .int .i64 c.p.f, .int .i64 c.p.k, .int .i64 c.part]] w _
  go_enter Tryz.func169, Tryz.ntmps169
  go_wp2
  refine bodyPost_ret (results_c Tryz.results169 _ _ (w.heap.size + 1) (tailS c) 101 (0, 0) (by simp) ?_) rfl ⟨rfl, ?_⟩
  · have hs : (w.alloc (.cells #[.int .i64 c.r, .bool c.p.b, .bool c.p.u, .bool c.p.t, .int .i64 c.p.f, .int .i64 c.p.k, .int .i64 c.part] 101)).heap.size = w.heap.size + 1 := by simp
    rw [← hs]
    exact heap_alloc_new _ _
  · exact ((Below.refl _ _).alloc (Nat.le_refl _) _).alloc (by simp) _

theorem wipe_set (r : List CellS) (a k : Nat) (h : a + k < r.length) : (wipeR r a k).set (a + k) blankS = wipeR r a (k + 1) := by
  unfold wipeR
  have h1 : (r.take a).length = a := by rw [List.length_take]; omega
  rw [List.set_append_right _ _ (by omega), h1, List.set_append_right _ _ (by simp), List.length_replicate, show a + k - a - k = 0 by omega, ← List.getElem_cons_drop h, List.set_cons_zero, List.replicate_succ', List.append_assoc]
  rfl
theorem wipe_none (r : List CellS) (a : Nat) : wipeR r a 0 = r := by simp [wipeR]

set_option maxHeartbeats 400000 in
theorem wipe_any (g off a n cap : Nat) (r : List CellS) (w : World) (hoff : off = a * 7) (hr : RowAt w g r) (han : a + n ≤ r.length) (hrl : r.length ≤ 100) :
    Calls Tryz.prog 168 #[.slice (some ⟨g, off, none⟩) n cap] w fun e w' => e = .returned (.tuple #[]) ∧ RowAt w' g (wipeR r a n) ∧ Ch (· = g) w w' := by
  subst hoff
  go_enter Tryz.func168, Tryz.ntmps168
  go_wp2_with fail
  go_loopw [5] (fun i wr => ∃ k : Nat, k ≤ n ∧ i = .int .i64 k ∧ RowAt wr g (wipeR r a k) ∧ Ch (· = g) w wr) (fun i _ => n - (intOf i).toNat)
  case atStart => exact ⟨0, Nat.zero_le _, rfl, by rw [wipe_none]; exact hr, Ch.refl _ _⟩
  case round =>
    obtain ⟨k, hk, rfl, hrk, hch⟩ := hrel
    by_cases hlt : k < n
    · have ik : (k : Int) < (n : Int) := by omega
      have hl : (wipeR r a k).length = r.length := wipeR_length r a k (by omega)
      have HR : Hid (RowAt wr g (wipeR r a k)) := hrk
      have HC : Hid _ := hch
      have HL : Hid _ := hl
      clear hrk hch hl
      go_wp2_with (first | (go_at_call 204; refine (blank_any _).mono ?_; rintro e w1 ⟨rfl, b1⟩) | (refine wp_cstore _ rfl (.tmp 11) (.tmp 10) rfl g (a * 7 + k * 7) (a + k) (wipeR r a k) blankS rfl (by omega) (cellA blankS) rfl rfl (HR.out.kept (b1.block g HR.out.lt)) (by rw [HL.out]; omega) ?_))
      intro u' hu cu su
      rw [wipe_set _ _ _ (by omega)] at hu
      have C2 : Ch (· = g) w u' := (HC.out.trans (Ch.of_below b1)).trans cu
      clear HR HC HL cu su b1
      go_wp2_with fail
      go_roundw
      case rel => exact ⟨k + 1, by omega, by go_num, hu, C2⟩
      case measure => simp [intOf]; omega
    · have hkn : k = n := by omega
      subst hkn
      go_wp2_with fail
      go_end0
      exact ⟨rfl, hrk, hch⟩
end Go.Proofs.YtheibfffilomcaaGreatDoor

/- Walks of package cells: split; and laws for regions that draw their order. -/
namespace Go.Proofs.YtheibfffilomcaaGreatDoor
open Go.RowKit

theorem guardC (op : BinOp) (x y : Operand) (xs ys : Array Value) (w : World) : (eqGuard op 101 x y (.agg xs) (.agg ys)).run Tryz.prog w = .ok () w := run_eqGuard_agg w op 101 x y xs ys (by kernel_rfl)
theorem run_eqlC {o : Oper} {a : Act} (x y : Operand) (ho : o.op = .binOp .eql 101 x y 101) (c d : CellS) (hx : a.eval x = .agg (cellA c)) (hy : a.eval y = .agg (cellA d)) (w : World) : (execOp a.eval o).run Tryz.prog w = .ok (.value (.bool (decide (c = d)))) w := by
  unfold execOp
  simp only [ho, hx, hy, Sem.run_bind, guardC, eqlC, Result.andThen_ok, Sem.run_pure]
theorem mixedC : Tryz.prog.follows .mixedOrders = true := by kernel_rfl
/-- Take number i first, the state told as a list of slots. -/
theorem takeL {ops : Array Oper} {Q : Exit → Act → World → Prop} {S : World → Prop} {i d : Nat} {oi : Oper} {v : Value} {fuel : Nat} {listed : Array Bool} {l : List Value} {ds : List Deferred} {w : World} (hi : ops[i]? = some oi) (hd : oi.dst = some d)
    (hs : Region.noSelect ops = true) (hf : Region.free .any ops listed i = true) (hr : (Region.ready .any ops listed).contains i = true)
    (hQ : ∀ c a w, Q (.panic c) (a.put oi.dst v) w → Q (.panic c) a w) (hy : YieldsIf Tryz.prog ops S oi v ⟨l.toArray, ds⟩) (hS : S w)
    (h : wpAnyH Tryz.prog .any ops Q S fuel (listed.setIfInBounds i true) ⟨(l.set d v).toArray, ds⟩ w) : wpAnyH Tryz.prog .any ops Q S (fuel + 1) listed ⟨l.toArray, ds⟩ w := by
  refine wpAnyH_take hi hs hf hr hQ hy hS ?_
  rw [hd]
  simpa [Act.put] using h
/-- A call in such a region. -/
theorem wp_callL {f : FuncId} {o : Oper} {l : List Value} {ds : List Deferred} {u : World} {K : Act → World → Prop} {Q : Exit → Act → World → Prop} (d : Nat) (ar : List Operand) (ats : Array TypeId) (ho : o.op = .call { callee := .value (.func f), args := ar.toArray, argTypes := ats }) (hd : o.dst = some d)
    (vs : List Value) (hx : ar.map (Act.eval ⟨l.toArray, ds⟩) = vs) (hf : (callFunc f vs.toArray).run Tryz.prog u = .ok (.enter f vs.toArray) u) (R : Value → World → Prop) (hc : Calls Tryz.prog f vs.toArray u fun e w' => ∃ v, e = .returned v ∧ R v w') (h : ∀ v w', R v w' → K ⟨(l.set d v).toArray, ds⟩ w') : Oper.wp Tryz.prog o ⟨l.toArray, ds⟩ u K Q := by
  unfold Oper.wp execOp
  have hx' : ar.toArray.map (Act.eval ⟨l.toArray, ds⟩) = vs.toArray := by rw [List.map_toArray, hx]
  simp only [ho, resolve, invoke, Sem.run_bind, Act.eval, hx', Deferred.ofValue, Sem.run_pure, Result.andThen_ok, Array.append_empty, Array.empty_append, hf]
  rw [Oper.upon_enter]
  refine hc.mono ?_
  rintro e w' ⟨v, rfl, hr⟩
  have := h v w' hr
  simpa [hd, Act.put] using this

set_option maxRecDepth 100000 in
set_option maxHeartbeats 1000000 in
theorem split_any (g a cap : Nat) (r : List CellS) (w : World) (hr : RowAt w g r) (ha : a ≤ 100000) :
    Calls Tryz.prog 167 #[.slice (some ⟨g, 0, none⟩) r.length cap, .int .i64 (a : Int)] w fun e w' => e = .returned (.tuple #[]) ∧ RowAt w' g (splitR r a) ∧ Ch (· = g) w w' := by
  by_cases h0 : 0 < a
  · by_cases h1 : a < r.length
    · obtain ⟨b, rfl⟩ : ∃ b, a = b + 1 := ⟨a - 1, by omega⟩
      have hc : r[b + 1]? = some (r.getD (b + 1) blankS) := by simp [List.getD, List.getElem?_eq_getElem h1]
      have hc' : r[b]? = some (r.getD b blankS) := by simp [List.getD, List.getElem?_eq_getElem (show b < r.length by omega)]
      have hsp : splitR r (b + 1) = if r.getD (b + 1) blankS = tailS (r.getD b blankS) then (r.set b blankS).set (b + 1) blankS else r := by simp [splitR, h1]
      generalize r.getD (b + 1) blankS = c at *
      generalize r.getD b blankS = c' at *
      generalize splitR r (b + 1) = X at *
      have HX : Hid _ := hsp
      clear hsp
      have i1 : (b : Int) + 1 < (r.length : Int) := by omega
      have i2 : b < r.length := by omega
      have d0 : decide ((b : Int) + 1 ≤ 0) = false := by simp
      have d1 : decide ((r.length : Int) ≤ (b : Int) + 1) = false := by simp; omega
      have wb : IntKind.i64.wrap (b : Int) = b := IntWalk.i64_in _ (by omega)
      have HR : Hid (RowAt w g r) := hr
      clear hr
      rw [show (((b + 1 : Nat) : Nat) : Int) = (b : Int) + 1 from rfl]
      go_enter Tryz.func167, Tryz.ntmps167
      go_wp2_with fail
      have HS : RowAt ({ w with drawn := w.drawn + 1 } : World) g r ∧ Below w.heap.size w ({ w with drawn := w.drawn + 1 } : World) := ⟨HR.out, ⟨rfl, rfl, rfl, Nat.le_refl _, fun _ _ => rfl⟩⟩
      refine wp_region_held (S := fun x => RowAt x g r ∧ Below w.heap.size w x) mixedC ?_
      refine takeL (i := 0) (d := 12) (v := .slice (some ⟨g, 0, none⟩) r.length cap) rfl rfl (by kernel_rfl) (by kernel_rfl) (by kernel_rfl) (fun _ _ _ h => h) (Or.inl ⟨by rfl, by intro x hSx; go_simp; try (first | rfl | go_num)⟩) HS ?_
      simp only [List.set_cons_zero, List.set_cons_succ]
      refine takeL (i := 1) (d := 13) (v := .int .i64 ((b : Int) + 1)) rfl rfl (by kernel_rfl) (by kernel_rfl) (by kernel_rfl) (fun _ _ _ h => h) (Or.inl ⟨by rfl, by intro x hSx; go_simp; try (first | rfl | go_num)⟩) HS ?_
      simp only [List.set_cons_zero, List.set_cons_succ]
      refine takeL (i := 2) (d := 14) (v := .pointer (some ⟨g, (b + 1) * 7, none⟩)) rfl rfl (by kernel_rfl) (by kernel_rfl) (by kernel_rfl) (fun _ _ _ h => h) (Or.inl ⟨by rfl, by intro x hSx; go_simp; try (first | rfl | go_num)⟩) HS ?_
      simp only [List.set_cons_zero, List.set_cons_succ]
      refine takeL (i := 3) (d := 15) (v := .agg (cellA c)) rfl rfl (by kernel_rfl) (by kernel_rfl) (by kernel_rfl) (fun _ _ _ h => h) (yieldsIf_load_mid (by rfl) 101 (.tmp 14) rfl g ((b + 1) * 7) rfl (cellV c) _ (fun x h => RowAt.range h.1 hc) Tryz.underlying101 rfl (by rw [cellV_length]; exact info49)) HS ?_
      simp only [List.set_cons_zero, List.set_cons_succ]
      refine takeL (i := 4) (d := 16) (v := .slice (some ⟨g, 0, none⟩) r.length cap) rfl rfl (by kernel_rfl) (by kernel_rfl) (by kernel_rfl) (fun _ _ _ h => h) (Or.inl ⟨by rfl, by intro x hSx; go_simp; try (first | rfl | go_num)⟩) HS ?_
      simp only [List.set_cons_zero, List.set_cons_succ]
      refine takeL (i := 5) (d := 17) (v := .int .i64 ((b : Int) + 1)) rfl rfl (by kernel_rfl) (by kernel_rfl) (by kernel_rfl) (fun _ _ _ h => h) (Or.inl ⟨by rfl, by intro x hSx; go_simp; try (first | rfl | go_num)⟩) HS ?_
      simp only [List.set_cons_zero, List.set_cons_succ]
      refine takeL (i := 6) (d := 18) (v := .int .i64 (b : Int)) rfl rfl (by kernel_rfl) (by kernel_rfl) (by kernel_rfl) (fun _ _ _ h => h) (Or.inl ⟨by rfl, by intro x hSx; go_simp; try (first | rfl | go_num)⟩) HS ?_
      simp only [List.set_cons_zero, List.set_cons_succ]
      refine takeL (i := 7) (d := 19) (v := .pointer (some ⟨g, b * 7, none⟩)) rfl rfl (by kernel_rfl) (by kernel_rfl) (by kernel_rfl) (fun _ _ _ h => h) (Or.inl ⟨by rfl, by intro x hSx; go_simp; try (first | rfl | go_num)⟩) HS ?_
      simp only [List.set_cons_zero, List.set_cons_succ]
      refine takeL (i := 8) (d := 20) (v := .agg (cellA c')) rfl rfl (by kernel_rfl) (by kernel_rfl) (by kernel_rfl) (fun _ _ _ h => h) (yieldsIf_load_mid (by rfl) 101 (.tmp 19) rfl g (b * 7) rfl (cellV c') _ (fun x h => RowAt.range h.1 hc') Tryz.underlying101 rfl (by rw [cellV_length]; exact info49)) HS ?_
      simp only [List.set_cons_zero, List.set_cons_succ]
      refine wpAnyH_all (rs := [9]) (by kernel_rfl) (by simp) ?_
      intro i hi
      rw [List.mem_singleton] at hi
      subst hi
      refine wpOp_step rfl fun Kq hKq => ?_
      rw [if_pos (by rfl)]
      refine wp_callL (f := 169) 21 [.tmp 20] #[101] rfl rfl [.agg (cellA c')] rfl (by kernel_rfl) (fun v w' => v = .agg (cellA (tailS c')) ∧ Below w.heap.size w w') ((tail_any c' _).mono fun e w' h => ⟨_, h.1, rfl, HS.2.trans (h.2)⟩) ?_
      rintro v2 w1 ⟨rfl, b1⟩
      have HS1 : RowAt w1 g r ∧ Below w.heap.size w w1 := ⟨HR.out.kept (b1.block g HR.out.lt), b1⟩
      refine hKq _ _ ⟨HS1, ?_⟩
      clear hKq HS
      simp only [List.set_cons_zero, List.set_cons_succ]
      refine takeL (i := 10) (d := 22) (v := .bool (decide (c = tailS c'))) rfl rfl (by kernel_rfl) (by kernel_rfl) (by kernel_rfl) (fun _ _ _ h => h) (Or.inl ⟨by rfl, fun x _ => run_eqlC (.tmp 15) (.tmp 21) rfl c (tailS c') rfl rfl x⟩) HS1 ?_
      simp only [List.set_cons_zero, List.set_cons_succ]
      refine wpAnyH_done (by kernel_rfl) ?_ _
      have HR1 : Hid (RowAt w1 g r) := HS1.1
      have HB1 : Hid (Below w.heap.size w w1) := b1
      clear HS1 b1 HR
      by_cases hq : c = tailS c'
      · rw [if_pos hq] at HX
        have dq : decide (c = tailS c') = true := by simp [hq]
        have HQ : Hid (c = tailS c') := hq
        rw [dq]
        clear dq hq
        have HC1 : Hid (Ch (· = g) w w1) := Ch.of_below HB1.out
        clear HB1
        go_wp2_with (first | (go_at_call 204; refine (blank_any _).mono ?_; rintro e w2 ⟨rfl, b2⟩; have HC1 : Hid (Ch (· = g) w w2) := HC1.out.trans (Ch.of_below b2); have HR1 : Hid (RowAt w2 g r) := HR1.out.kept (b2.block g HR1.out.lt); clear b2) | (refine wp_cstore _ rfl (.tmp 30) (.tmp 28) rfl g (b * 7) b r blankS rfl rfl (cellA blankS) rfl rfl HR1.out i2 ?_))
        intro u1 hu1 cu1 su1
        have HC2 : Hid (Ch (· = g) w u1) := HC1.out.trans cu1
        have HR2 : Hid (RowAt u1 g (r.set b blankS)) := hu1
        clear hu1 cu1 su1
        go_wp2_with (refine wp_cstore _ rfl (.tmp 31) (.tmp 29) rfl g ((b + 1) * 7) (b + 1) (r.set b blankS) blankS rfl rfl (cellA blankS) rfl rfl HR2.out (by rw [List.length_set]; exact h1) ?_)
        intro u2 hu2 cu2 su2
        go_wp2_with fail
        go_end0
        exact ⟨rfl, by rw [HX.out]; exact hu2, HC2.out.trans cu2⟩
      · rw [if_neg hq] at HX
        have dq : decide (c = tailS c') = false := by simp [hq]
        rw [dq]
        clear dq hq
        go_wp2_with fail
        go_end0
        exact ⟨rfl, by rw [HX.out]; exact HR1.out, Ch.of_below HB1.out⟩
    · have e : splitR r a = r := by simp [splitR, h1]
      rw [e]
      clear e
      have d0 : decide ((a : Int) ≤ 0) = false := by simp; omega
      have d1 : decide (r.length ≤ a) = true := by simp; omega
      have i1 : (r.length : Int) ≤ (a : Int) := by omega
      have HR : Hid (RowAt w g r) := hr
      clear hr
      go_enter Tryz.func167, Tryz.ntmps167
      go_wp2_with fail
      exact bodyPost_ret (results_none Tryz.results167 _ _ _) rfl ⟨rfl, HR.out, Ch.refl _ _⟩
  · have e : splitR r a = r := by simp [splitR, h0]
    obtain rfl : a = 0 := by omega
    rw [e]
    clear e
    have HR : Hid (RowAt w g r) := hr
    clear hr
    go_enter Tryz.func167, Tryz.ntmps167
    go_wp2_with fail
    exact bodyPost_ret (results_none Tryz.results167 _ _ _) rfl ⟨rfl, HR.out, Ch.refl _ _⟩
end Go.Proofs.YtheibfffilomcaaGreatDoor

/- Walks of package cells: Clear, Put. -/
namespace Go.Proofs.YtheibfffilomcaaGreatDoor
open Go.RowKit

set_option maxHeartbeats 400000 in
theorem clear_any (g a b n : Nat) (r : List CellS) (w : World) (hr : RowAt w g r) (hn : r.length = n) (hab : a < b) (hb : b ≤ n) (hl : n ≤ 100) :
    Calls Tryz.prog 187 #[.slice (some ⟨g, 0, none⟩) n n, .int .i64 (a : Int), .int .i64 (b : Int)] w fun e w' => e = .returned (.tuple #[]) ∧ RowAt w' g (clearR r a b) ∧ Ch (· = g) w w' := by
  subst hn
  have i1 : (a : Int) ≤ (b : Int) := by omega
  have i3 : a < r.length := by omega
  have i4 : r.length ≠ a := by omega
  have i2 : (b : Int) ≤ (r.length : Int) := by omega
  have s1 := split_any g a r.length r w hr (by omega)
  have s2 : ∀ u, RowAt u g (splitR r a) → _ := fun u hu => split_any g b (splitR r a).length (splitR r a) u hu (by omega)
  rw [splitR_length] at s2
  have hl2 : (splitR (splitR r a) b).length = r.length := by rw [splitR_length, splitR_length]
  go_enter Tryz.func187, Tryz.ntmps187
  go_wp2_with (first | (go_at_call 168; refine (wipe_any g (a * 7) a (b - a) _ _ _ rfl h2 (by rw [hl2]; omega) (by rw [hl2]; omega)).mono ?_; rintro e w3 ⟨rfl, h3, c3⟩) | (go_at_call 167; refine (s2 _ h1).mono ?_; rintro e w2 ⟨rfl, h2, c2⟩) | (go_at_call 167; refine s1.mono ?_; rintro e w1 ⟨rfl, h1, c1⟩))
  go_end0
  exact ⟨rfl, h3, (c1.trans c2).trans c3⟩

/-- One cell of a block written. -/
theorem wp_bset {ops : Array Oper} {rest : List Oper} {o : Oper} {a : Act} {Q : Exit → Act → World → Prop} (u : World) (hgd : o.guard = none) (ty : TypeId) (hsz : (Tryz.prog.info? ty).map (·.size) = some 1) (x y : Operand) (ho : o.op = .store ty x y) (g j : Nat) (L L' : List Value) (v : Value) (hj : j < L.length)
    (hx : a.eval x = .pointer (some ⟨g, j, none⟩)) (hy : a.eval y = v) (h1 : v.oneCell' = true) (hv : v.cells = #[v]) (hL : L.set j v = L') (t : TypeId) (hg : u.heap[g]? = some (.cells L.toArray t (0, 0)))
    (h : ∀ u', u'.heap[g]? = some (.cells L'.toArray t (0, 0)) → Ch (· = g) u u' → u'.heap.size = u.heap.size → wpList Tryz.prog ops Q rest (a.put o.dst undef) u') : wpList Tryz.prog ops Q (o :: rest) a u := by
  have hc : u.cell? ⟨g, j, none⟩ = some L[j] := by rw [cell_of_row _ _ _ _ _ _ hg]; simp [hj]
  have hf := frozen_of_row u g j _ t hg
  refine wpList_plain hgd fun K hK => ?_
  have hset : L.toArray.setIfInBounds j v = L'.toArray := by rw [← hL]; simp
  have R := hK _ _ (h (u.setCell ⟨g, j, none⟩ v) (by rw [heap_setCell_same u g j _ t _ hg, hset]) ((Ch.refl _ _).set _ _ _ (fun _ => rfl)) (by simp [World.setCell]))
  have hs : (sizeOf ty).run Tryz.prog u = .ok 1 u := by
    cases hq : Tryz.prog.info? ty with
    | none => simp [hq] at hsz
    | some i =>
      have : i.size = 1 := by simpa [hq] using hsz
      simp [sizeOf, typeInfo, hq, this]
  have hst : (storeVar ty ⟨g, j, none⟩ v).run Tryz.prog u = .ok () (u.setCell ⟨g, j, none⟩ v) := by
    have e0 : ∀ i, i < [v].length → i = 0 := fun i hi => by simpa using hi
    have h2 := run_storeCells_cells (P := Tryz.prog) g j [v] 0 u (fun i hi => by rw [e0 i hi, Nat.add_zero, hc]; rfl) (fun i hi => by rw [e0 i hi]; exact hf) (fun z hz => by rw [List.mem_singleton] at hz; rw [hz]; exact h1)
    simp only [storeVar, Sem.run_bind, hs, Result.andThen_ok, hv, Sem.run_ite]
    simpa [World.setCells] using h2
  unfold Oper.wp execOp
  simp only [ho, hx, hy, Instr.storeAt, Instr.sureAddr, Sem.run_bind, Sem.run_pure, Result.andThen_ok, hst]
  exact R

theorem rowV_get : ∀ (r : List CellS) (i : Nat), (rowV r)[i]? = (r[i / 7]?).bind fun c => (cellV c)[i % 7]?
  | [], i => by simp [rowV]
  | c :: r, i => by
    rw [rowV]
    by_cases h : i < 7
    · rw [List.getElem?_append_left (by rw [cellV_length]; exact h), Nat.div_eq_of_lt h, Nat.mod_eq_of_lt h]; rfl
    · rw [List.getElem?_append_right (by rw [cellV_length]; omega), cellV_length, rowV_get r, show i / 7 = (i - 7) / 7 + 1 by omega, show i % 7 = (i - 7) % 7 by omega, List.getElem?_cons_succ]
theorem rowV_part (r : List CellS) (k : Nat) (c : CellS) (p : Int) (h : r[k]? = some c) : (rowV r).set (k * 7 + 6) (.int .i64 p) = rowV (r.set k ⟨c.r, c.p, p⟩) := by
  apply List.ext_getElem?
  intro i
  have hk := (List.getElem?_eq_some_iff.1 h).1
  rw [List.getElem?_set, rowV_get, rowV_get, rowV_length, List.getElem?_set]
  by_cases hi : k * 7 + 6 = i
  · subst hi
    rw [if_pos rfl, if_pos (by omega), if_pos (by omega), if_pos hk, show (k * 7 + 6) % 7 = 6 by omega]; rfl
  · rw [if_neg hi]
    by_cases hq : k = i / 7
    · rw [if_pos hq, if_pos hk, ← hq, h]
      have : i % 7 < 6 := by omega
      simp only [Option.bind_some, cellV]
      rcases (show i % 7 = 0 ∨ i % 7 = 1 ∨ i % 7 = 2 ∨ i % 7 = 3 ∨ i % 7 = 4 ∨ i % 7 = 5 by omega) with e | e | e | e | e | e <;> rw [e] <;> rfl
    · rw [if_neg hq]

theorem info3s : (Tryz.prog.info? 3).map (·.size) = some 1 := by kernel_rfl
theorem info4s : (Tryz.prog.info? 4).map (·.size) = some 1 := by kernel_rfl
theorem info47 : (Tryz.prog.info? 80).map (·.size) = some 5 := by kernel_rfl
end Go.Proofs.YtheibfffilomcaaGreatDoor

