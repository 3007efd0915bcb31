/- Walks of package cells: split; and laws for regions that draw their order. -/
import Derived.Test.YtheibfffilomcaaDoorCb
import Derived.Deep.RegionHeld
namespace Go.Proofs.YtheibfffilomcaaDoor
open Go.RowKit

theorem guardC (op : BinOp) (x y : Operand) (xs ys : Array Value) (w : World) : (eqGuard op 49 x y (.agg xs) (.agg ys)).run Tryd.prog w = .ok () w := run_eqGuard_agg w op 49 x y xs ys (by kernel_rfl)
theorem run_eqlC {o : Oper} {a : Act} (x y : Operand) (ho : o.op = .binOp .eql 49 x y 49) (c d : CellS) (hx : a.eval x = .agg (cellA c)) (hy : a.eval y = .agg (cellA d)) (w : World) : (execOp a.eval o).run Tryd.prog w = .ok (.value (.bool (decide (c = d)))) w := by
  unfold execOp
  simp only [ho, hx, hy, Sem.run_bind, guardC, eqlC, Result.andThen_ok, Sem.run_pure]
theorem mixedC : Tryd.prog.follows .mixedOrders = true := by kernel_rfl
/-- Take number i first, the state told as a list of slots. -/
theorem takeL {ops : Array Oper} {Q : Exit → Act → World → Prop} {S : World → Prop} {i d : Nat} {oi : Oper} {v : Value} {fuel : Nat} {listed : Array Bool} {l : List Value} {ds : List Deferred} {w : World} (hi : ops[i]? = some oi) (hd : oi.dst = some d)
    (hs : Region.noSelect ops = true) (hf : Region.free .any ops listed i = true) (hr : (Region.ready .any ops listed).contains i = true)
    (hQ : ∀ c a w, Q (.panic c) (a.put oi.dst v) w → Q (.panic c) a w) (hy : YieldsIf Tryd.prog ops S oi v ⟨l.toArray, ds⟩) (hS : S w)
    (h : wpAnyH Tryd.prog .any ops Q S fuel (listed.setIfInBounds i true) ⟨(l.set d v).toArray, ds⟩ w) : wpAnyH Tryd.prog .any ops Q S (fuel + 1) listed ⟨l.toArray, ds⟩ w := by
  refine wpAnyH_take hi hs hf hr hQ hy hS ?_
  rw [hd]
  simpa [Act.put] using h
/-- A call in such a region. -/
theorem wp_callL {f : FuncId} {o : Oper} {l : List Value} {ds : List Deferred} {u : World} {K : Act → World → Prop} {Q : Exit → Act → World → Prop} (d : Nat) (ar : List Operand) (ats : Array TypeId) (ho : o.op = .call { callee := .value (.func f), args := ar.toArray, argTypes := ats }) (hd : o.dst = some d)
    (vs : List Value) (hx : ar.map (Act.eval ⟨l.toArray, ds⟩) = vs) (hf : (callFunc f vs.toArray).run Tryd.prog u = .ok (.enter f vs.toArray) u) (R : Value → World → Prop) (hc : Calls Tryd.prog f vs.toArray u fun e w' => ∃ v, e = .returned v ∧ R v w') (h : ∀ v w', R v w' → K ⟨(l.set d v).toArray, ds⟩ w') : Oper.wp Tryd.prog o ⟨l.toArray, ds⟩ u K Q := by
  unfold Oper.wp execOp
  have hx' : ar.toArray.map (Act.eval ⟨l.toArray, ds⟩) = vs.toArray := by rw [List.map_toArray, hx]
  simp only [ho, resolve, invoke, Sem.run_bind, Act.eval, hx', Deferred.ofValue, Sem.run_pure, Result.andThen_ok, Array.append_empty, Array.empty_append, hf]
  rw [Oper.upon_enter]
  refine hc.mono ?_
  rintro e w' ⟨v, rfl, hr⟩
  have := h v w' hr
  simpa [hd, Act.put] using this

set_option maxRecDepth 100000 in
set_option maxHeartbeats 1000000 in
theorem split_any (g a cap : Nat) (r : List CellS) (w : World) (hr : RowAt w g r) (ha : a ≤ 100000) :
    Calls Tryd.prog 99 #[.slice (some ⟨g, 0, none⟩) r.length cap, .int .i64 (a : Int)] w fun e w' => e = .returned (.tuple #[]) ∧ RowAt w' g (splitR r a) ∧ Ch (· = g) w w' := by
  by_cases h0 : 0 < a
  · by_cases h1 : a < r.length
    · obtain ⟨b, rfl⟩ : ∃ b, a = b + 1 := ⟨a - 1, by omega⟩
      have hc : r[b + 1]? = some (r.getD (b + 1) blankS) := by simp [List.getD, List.getElem?_eq_getElem h1]
      have hc' : r[b]? = some (r.getD b blankS) := by simp [List.getD, List.getElem?_eq_getElem (show b < r.length by omega)]
      have hsp : splitR r (b + 1) = if r.getD (b + 1) blankS = tailS (r.getD b blankS) then (r.set b blankS).set (b + 1) blankS else r := by simp [splitR, h1]
      generalize r.getD (b + 1) blankS = c at *
      generalize r.getD b blankS = c' at *
      generalize splitR r (b + 1) = X at *
      have HX : Hid _ := hsp
      clear hsp
      have i1 : (b : Int) + 1 < (r.length : Int) := by omega
      have i2 : b < r.length := by omega
      have d0 : decide ((b : Int) + 1 ≤ 0) = false := by simp
      have d1 : decide ((r.length : Int) ≤ (b : Int) + 1) = false := by simp; omega
      have wb : IntKind.i64.wrap (b : Int) = b := IntWalk.i64_in _ (by omega)
      have HR : Hid (RowAt w g r) := hr
      clear hr
      rw [show (((b + 1 : Nat) : Nat) : Int) = (b : Int) + 1 from rfl]
      go_enter Tryd.func99, Tryd.ntmps99
      go_wp2_with fail
      have HS : RowAt ({ w with drawn := w.drawn + 1 } : World) g r ∧ Below w.heap.size w ({ w with drawn := w.drawn + 1 } : World) := ⟨HR.out, ⟨rfl, rfl, rfl, Nat.le_refl _, fun _ _ => rfl⟩⟩
      refine wp_region_held (S := fun x => RowAt x g r ∧ Below w.heap.size w x) mixedC ?_
      refine takeL (i := 0) (d := 12) (v := .slice (some ⟨g, 0, none⟩) r.length cap) rfl rfl (by kernel_rfl) (by kernel_rfl) (by kernel_rfl) (fun _ _ _ h => h) (Or.inl ⟨by rfl, by intro x hSx; go_simp; try (first | rfl | go_num)⟩) HS ?_
      simp only [List.set_cons_zero, List.set_cons_succ]
      refine takeL (i := 1) (d := 13) (v := .int .i64 ((b : Int) + 1)) rfl rfl (by kernel_rfl) (by kernel_rfl) (by kernel_rfl) (fun _ _ _ h => h) (Or.inl ⟨by rfl, by intro x hSx; go_simp; try (first | rfl | go_num)⟩) HS ?_
      simp only [List.set_cons_zero, List.set_cons_succ]
      refine takeL (i := 2) (d := 14) (v := .pointer (some ⟨g, (b + 1) * 7, none⟩)) rfl rfl (by kernel_rfl) (by kernel_rfl) (by kernel_rfl) (fun _ _ _ h => h) (Or.inl ⟨by rfl, by intro x hSx; go_simp; try (first | rfl | go_num)⟩) HS ?_
      simp only [List.set_cons_zero, List.set_cons_succ]
      refine takeL (i := 3) (d := 15) (v := .agg (cellA c)) rfl rfl (by kernel_rfl) (by kernel_rfl) (by kernel_rfl) (fun _ _ _ h => h) (yieldsIf_load_mid (by rfl) 49 (.tmp 14) rfl g ((b + 1) * 7) rfl (cellV c) _ (fun x h => RowAt.range h.1 hc) Tryd.underlying49 rfl (by rw [cellV_length]; exact info49)) HS ?_
      simp only [List.set_cons_zero, List.set_cons_succ]
      refine takeL (i := 4) (d := 16) (v := .slice (some ⟨g, 0, none⟩) r.length cap) rfl rfl (by kernel_rfl) (by kernel_rfl) (by kernel_rfl) (fun _ _ _ h => h) (Or.inl ⟨by rfl, by intro x hSx; go_simp; try (first | rfl | go_num)⟩) HS ?_
      simp only [List.set_cons_zero, List.set_cons_succ]
      refine takeL (i := 5) (d := 17) (v := .int .i64 ((b : Int) + 1)) rfl rfl (by kernel_rfl) (by kernel_rfl) (by kernel_rfl) (fun _ _ _ h => h) (Or.inl ⟨by rfl, by intro x hSx; go_simp; try (first | rfl | go_num)⟩) HS ?_
      simp only [List.set_cons_zero, List.set_cons_succ]
      refine takeL (i := 6) (d := 18) (v := .int .i64 (b : Int)) rfl rfl (by kernel_rfl) (by kernel_rfl) (by kernel_rfl) (fun _ _ _ h => h) (Or.inl ⟨by rfl, by intro x hSx; go_simp; try (first | rfl | go_num)⟩) HS ?_
      simp only [List.set_cons_zero, List.set_cons_succ]
      refine takeL (i := 7) (d := 19) (v := .pointer (some ⟨g, b * 7, none⟩)) rfl rfl (by kernel_rfl) (by kernel_rfl) (by kernel_rfl) (fun _ _ _ h => h) (Or.inl ⟨by rfl, by intro x hSx; go_simp; try (first | rfl | go_num)⟩) HS ?_
      simp only [List.set_cons_zero, List.set_cons_succ]
      refine takeL (i := 8) (d := 20) (v := .agg (cellA c')) rfl rfl (by kernel_rfl) (by kernel_rfl) (by kernel_rfl) (fun _ _ _ h => h) (yieldsIf_load_mid (by rfl) 49 (.tmp 19) rfl g (b * 7) rfl (cellV c') _ (fun x h => RowAt.range h.1 hc') Tryd.underlying49 rfl (by rw [cellV_length]; exact info49)) HS ?_
      simp only [List.set_cons_zero, List.set_cons_succ]
      refine wpAnyH_all (rs := [9]) (by kernel_rfl) (by simp) ?_
      intro i hi
      rw [List.mem_singleton] at hi
      subst hi
      refine wpOp_step rfl fun Kq hKq => ?_
      rw [if_pos (by rfl)]
      refine wp_callL (f := 101) 21 [.tmp 20] #[49] rfl rfl [.agg (cellA c')] rfl (by kernel_rfl) (fun v w' => v = .agg (cellA (tailS c')) ∧ Below w.heap.size w w') ((tail_any c' _).mono fun e w' h => ⟨_, h.1, rfl, HS.2.trans (h.2)⟩) ?_
      rintro v2 w1 ⟨rfl, b1⟩
      have HS1 : RowAt w1 g r ∧ Below w.heap.size w w1 := ⟨HR.out.kept (b1.block g HR.out.lt), b1⟩
      refine hKq _ _ ⟨HS1, ?_⟩
      clear hKq HS
      simp only [List.set_cons_zero, List.set_cons_succ]
      refine takeL (i := 10) (d := 22) (v := .bool (decide (c = tailS c'))) rfl rfl (by kernel_rfl) (by kernel_rfl) (by kernel_rfl) (fun _ _ _ h => h) (Or.inl ⟨by rfl, fun x _ => run_eqlC (.tmp 15) (.tmp 21) rfl c (tailS c') rfl rfl x⟩) HS1 ?_
      simp only [List.set_cons_zero, List.set_cons_succ]
      refine wpAnyH_done (by kernel_rfl) ?_ _
      have HR1 : Hid (RowAt w1 g r) := HS1.1
      have HB1 : Hid (Below w.heap.size w w1) := b1
      clear HS1 b1 HR
      by_cases hq : c = tailS c'
      · rw [if_pos hq] at HX
        have dq : decide (c = tailS c') = true := by simp [hq]
        have HQ : Hid (c = tailS c') := hq
        rw [dq]
        clear dq hq
        have HC1 : Hid (Ch (· = g) w w1) := Ch.of_below HB1.out
        clear HB1
        go_wp2_with (first | (go_at_call 129; refine (blank_any _).mono ?_; rintro e w2 ⟨rfl, b2⟩; have HC1 : Hid (Ch (· = g) w w2) := HC1.out.trans (Ch.of_below b2); have HR1 : Hid (RowAt w2 g r) := HR1.out.kept (b2.block g HR1.out.lt); clear b2) | (refine wp_cstore _ rfl (.tmp 30) (.tmp 28) rfl g (b * 7) b r blankS rfl rfl (cellA blankS) rfl rfl HR1.out i2 ?_))
        intro u1 hu1 cu1 su1
        have HC2 : Hid (Ch (· = g) w u1) := HC1.out.trans cu1
        have HR2 : Hid (RowAt u1 g (r.set b blankS)) := hu1
        clear hu1 cu1 su1
        go_wp2_with (refine wp_cstore _ rfl (.tmp 31) (.tmp 29) rfl g ((b + 1) * 7) (b + 1) (r.set b blankS) blankS rfl rfl (cellA blankS) rfl rfl HR2.out (by rw [List.length_set]; exact h1) ?_)
        intro u2 hu2 cu2 su2
        go_wp2_with fail
        go_end0
        exact ⟨rfl, by rw [HX.out]; exact hu2, HC2.out.trans cu2⟩
      · rw [if_neg hq] at HX
        have dq : decide (c = tailS c') = false := by simp [hq]
        rw [dq]
        clear dq hq
        go_wp2_with fail
        go_end0
        exact ⟨rfl, by rw [HX.out]; exact HR1.out, Ch.of_below HB1.out⟩
    · have e : splitR r a = r := by simp [splitR, h1]
      rw [e]
      clear e
      have d0 : decide ((a : Int) ≤ 0) = false := by simp; omega
      have d1 : decide (r.length ≤ a) = true := by simp; omega
      have i1 : (r.length : Int) ≤ (a : Int) := by omega
      have HR : Hid (RowAt w g r) := hr
      clear hr
      go_enter Tryd.func99, Tryd.ntmps99
      go_wp2_with fail
      exact bodyPost_ret (results_none Tryd.results99 _ _ _) rfl ⟨rfl, HR.out, Ch.refl _ _⟩
  · have e : splitR r a = r := by simp [splitR, h0]
    obtain rfl : a = 0 := by omega
    rw [e]
    clear e
    have HR : Hid (RowAt w g r) := hr
    clear hr
    go_enter Tryd.func99, Tryd.ntmps99
    go_wp2_with fail
    exact bodyPost_ret (results_none Tryd.results99 _ _ _) rfl ⟨rfl, HR.out, Ch.refl _ _⟩
end Go.Proofs.YtheibfffilomcaaDoor
