/- The walk of the book's looks: all lists of events hold what their owner wrote. -/
import Derived.Test.YtheibfffilomcaaDoorEbk
import Derived.Test.YtheibfffilomcaaDoorRwh
namespace Go.Proofs.YtheibfffilomcaaDoor
open Go.RowKit

theorem run_neqE {o : Oper} {a : Act} (x y : Operand) (ho : o.op = .binOp .neq 75 x y 75) (e : List Int) (he : e.length = 21) (hx : a.eval x = .agg (intA e)) (hy : a.eval y = .agg (intA e)) (w : World) : (execOp a.eval o).run Tryd.prog w = .ok (.value (.bool false)) w := by
  unfold execOp
  simp only [ho, hx, hy, Sem.run_bind, guard44, neq44 e he, Result.andThen_ok, Sem.run_pure]
theorem run_eqlE {o : Oper} {a : Act} (x y : Operand) (ho : o.op = .binOp .eql 75 x y 75) (e : List Int) (he : e.length = 21) (hx : a.eval x = .agg (intA e)) (hy : a.eval y = .agg (intA e)) (w : World) : (execOp a.eval o).run Tryd.prog w = .ok (.value (.bool true)) w := by
  unfold execOp
  simp only [ho, hx, hy, Sem.run_bind, guard44, eql44 e he, Result.andThen_ok, Sem.run_pure]

/-- The store that ends a region. -/
theorem held_one {ops : Array Oper} {Q : Exit → Act → World → Prop} {S : World → Prop} {listed : Array Bool} {fuel j : Nat} {o2 : Oper} {a : Act} {u : World} (hj : ops[j]? = some o2)
    (hr2 : Region.ready .any ops listed = [j]) (hr3 : Region.ready .any ops (listed.setIfInBounds j true) = []) (hg2 : o2.guard = none) (hd2 : o2.dst = none) (x2 y2 : Operand) (ho2 : o2.op = .store 75 x2 y2)
    (ge : Nat) (h5 : a.eval x2 = .pointer (some ⟨ge, 0, none⟩)) (arr : Array Value) (hy : a.eval y2 = .agg arr) (ev : List Int) (harr : arr = intA ev) (hev : ev.length = 21) (eold : List Int) (heold : eold.length = 21) (g2 : u.heap[ge]? = some (.cells (intA eold) 75 (0, 0)))
    (hS : ∀ u', u.grownBy u' (some ge) → S u') (h : ∀ u', u'.heap[ge]? = some (.cells (intA ev) 75 (0, 0)) → u.grownBy u' (some ge) → Q .normal a u') : wpAnyH Tryd.prog .any ops Q S (fuel + 1) listed a u := by
  subst harr
  have r3 : (u.setRow ge (intA ev)).heap[ge]? = some (.cells (intA ev) 75 (0, 0)) := setRow_heap _ _ _ _ 75 _ g2
  have gr : u.grownBy (u.setRow ge (intA ev)) (some ge) := ⟨rfl, rfl, rfl, by simp, fun k _ hk => setRow_other u ge k _ (fun e => hk (by simp [e]))⟩
  refine wpAnyH_all hr2 (by simp) fun k hk => ?_
  rw [List.mem_singleton] at hk
  subst hk
  refine wpOp_step hj fun K' hK' => ?_
  rw [if_pos (by simp [Region.wanted, hg2])]
  refine wp_store_row 75 x2 y2 ho2 ge (intA ev) h5 hy 75 (intA eold) g2 (by rw [intA_size, hev]; exact info44) (by rw [intA_size, intA_size, hev, heold]) (intA_all _) (hK' _ _ ⟨hS _ gr, ?_⟩)
  rw [hd2]
  exact wpAnyH_done hr3 (h _ r3 gr) _

set_option maxRecDepth 100000 in
set_option maxHeartbeats 4000000 in
theorem looksE_any (bb : Nat) (vi vm : Value) (E : List (Value × Int)) (nx : Int) (w : World) (hE : E.length ≤ 1000000000) (h : EkAt w bb vi vm E nx) :
    Calls Tryd.prog 13 #[.pointer (some ⟨bb, 0, none⟩)] w fun e w' => e = .returned (.bool true) ∧ Below w.heap.size w w' := by
  obtain ⟨ai, ci, am, cm, rfl, rfl, q⟩ := h.entry
  have c0 := h.c0
  have c2 := h.c2
  have c3 := h.c3
  have c4 := h.c4
  have Q : Hid _ := q
  clear q h
  go_enter Tryd.func13, Tryd.ntmps13
  go_wp2_with fail
  go_loop [3] (fun j => j = .int .i64 0) (fun _ => 0)
  case atStart => rfl
  case round =>
    obtain rfl := hrel
    go_wp2_with fail
    go_loopw [5] (fun i wr => ∃ k : Nat, k ≤ E.length ∧ i = .int .i64 k ∧ Below w.heap.size w wr) (fun i _ => E.length - (intOf i).toNat)
    case atStart => exact ⟨0, Nat.zero_le _, rfl, Below.refl _ _⟩
    case round =>
      obtain ⟨k, hk, rfl, hb⟩ := hrel
      have d0 := cell_later hb c0
      have d2' := cell_later hb c2
      have d3 := cell_later hb c3
      have d4 := cell_later hb c4
      by_cases hlt : k < E.length
      · obtain ⟨gi, gm, ax, p, cx, m, rfl, rfl, q1, q2, hp, q3⟩ := Q.out k hlt
        have Q3 : Hid _ := q3
        have ik : (k : Int) < (E.length : Int) := by omega
        clear q3
        go_wp2_with fail
        have HS : World.cell? { wr with drawn := wr.drawn + 1 } ⟨bb, 3, none⟩ = some (.slice (some ⟨gm, 0, none⟩) E.length cm) ∧ World.cell? { wr with drawn := wr.drawn + 1 } ⟨gm, k, none⟩ = some (.int .i64 m) := ⟨d3, cell_later hb.drew q2⟩
        refine wp_region_held (S := fun x => x.cell? ⟨bb, 3, none⟩ = some (.slice (some ⟨gm, 0, none⟩) E.length cm) ∧ x.cell? ⟨gm, k, none⟩ = some (.int .i64 m)) mixed ?_
        refine take_l (i := 0) (d := 58) (v := .pointer (some ⟨bb, 0, none⟩)) rfl rfl (by kernel_rfl) (by kernel_rfl) (by kernel_rfl) (fun _ _ _ h => h) (Or.inl ⟨by rfl, by intro x hSx; go_simp; try rfl⟩) HS ?_
        simp only [List.set_cons_zero, List.set_cons_succ]
        refine take_l (i := 1) (d := 59) (v := .pointer (some ⟨bb, 0, none⟩)) rfl rfl (by kernel_rfl) (by kernel_rfl) (by kernel_rfl) (fun _ _ _ h => h) (Or.inl ⟨by rfl, by intro x hSx; go_simp; try rfl⟩) HS ?_
        simp only [List.set_cons_zero, List.set_cons_succ]
        refine take_l (i := 2) (d := 60) (v := .pointer (some ⟨bb, 3, none⟩)) rfl rfl (by kernel_rfl) (by kernel_rfl) (by kernel_rfl) (fun _ _ _ h => h) (Or.inl ⟨by rfl, by intro x hSx; go_simp; try rfl⟩) HS ?_
        simp only [List.set_cons_zero, List.set_cons_succ]
        refine take_l (i := 3) (d := 61) (v := .slice (some ⟨gm, 0, none⟩) E.length cm) rfl rfl (by kernel_rfl) (by kernel_rfl) (by kernel_rfl) (fun _ _ _ h => h) (Or.inl ⟨by rfl, by intro x hSx; have hF := hSx.1; go_simp; try rfl⟩) HS ?_
        simp only [List.set_cons_zero, List.set_cons_succ]
        refine take_l (i := 4) (d := 62) (v := .int .i64 k) rfl rfl (by kernel_rfl) (by kernel_rfl) (by kernel_rfl) (fun _ _ _ h => h) (Or.inl ⟨by rfl, by intro x hSx; go_simp; try rfl⟩) HS ?_
        simp only [List.set_cons_zero, List.set_cons_succ]
        refine take_l (i := 5) (d := 63) (v := .pointer (some ⟨gm, k, none⟩)) rfl rfl (by kernel_rfl) (by kernel_rfl) (by kernel_rfl) (fun _ _ _ h => h) (Or.inl ⟨by rfl, by intro x hSx; go_simp; try rfl⟩) HS ?_
        simp only [List.set_cons_zero, List.set_cons_succ]
        refine take_l (i := 6) (d := 64) (v := .int .i64 m) rfl rfl (by kernel_rfl) (by kernel_rfl) (by kernel_rfl) (fun _ _ _ h => h) (Or.inl ⟨by rfl, by intro x hSx; have hF := hSx.2; go_simp; try rfl⟩) HS ?_
        simp only [List.set_cons_zero, List.set_cons_succ]
        refine take_l (i := 7) (d := 65) (v := .pointer (some ⟨bb, 0, none⟩)) rfl rfl (by kernel_rfl) (by kernel_rfl) (by kernel_rfl) (fun _ _ _ h => h) (Or.inl ⟨by rfl, by intro x hSx; go_simp; try rfl⟩) HS ?_
        simp only [List.set_cons_zero, List.set_cons_succ]
        refine take_l (i := 8) (d := 66) (v := .pointer (some ⟨bb, 0, none⟩)) rfl rfl (by kernel_rfl) (by kernel_rfl) (by kernel_rfl) (fun _ _ _ h => h) (Or.inl ⟨by rfl, by intro x hSx; go_simp; try rfl⟩) HS ?_
        simp only [List.set_cons_zero, List.set_cons_succ]
        refine take_l (i := 9) (d := 67) (v := .pointer (some ⟨bb, 3, none⟩)) rfl rfl (by kernel_rfl) (by kernel_rfl) (by kernel_rfl) (fun _ _ _ h => h) (Or.inl ⟨by rfl, by intro x hSx; go_simp; try rfl⟩) HS ?_
        simp only [List.set_cons_zero, List.set_cons_succ]
        refine take_l (i := 10) (d := 68) (v := .slice (some ⟨gm, 0, none⟩) E.length cm) rfl rfl (by kernel_rfl) (by kernel_rfl) (by kernel_rfl) (fun _ _ _ h => h) (Or.inl ⟨by rfl, by intro x hSx; have hF := hSx.1; go_simp; try rfl⟩) HS ?_
        simp only [List.set_cons_zero, List.set_cons_succ]
        refine take_l (i := 11) (d := 69) (v := .int .i64 k) rfl rfl (by kernel_rfl) (by kernel_rfl) (by kernel_rfl) (fun _ _ _ h => h) (Or.inl ⟨by rfl, by intro x hSx; go_simp; try rfl⟩) HS ?_
        simp only [List.set_cons_zero, List.set_cons_succ]
        refine take_l (i := 12) (d := 70) (v := .pointer (some ⟨gm, k, none⟩)) rfl rfl (by kernel_rfl) (by kernel_rfl) (by kernel_rfl) (fun _ _ _ h => h) (Or.inl ⟨by rfl, by intro x hSx; go_simp; try rfl⟩) HS ?_
        simp only [List.set_cons_zero, List.set_cons_succ]
        refine take_l (i := 13) (d := 71) (v := .int .i64 m) rfl rfl (by kernel_rfl) (by kernel_rfl) (by kernel_rfl) (fun _ _ _ h => h) (Or.inl ⟨by rfl, by intro x hSx; have hF := hSx.2; go_simp; try rfl⟩) HS ?_
        simp only [List.set_cons_zero, List.set_cons_succ]
        refine take_l (i := 14) (d := 72) (v := .agg (intA (evM m))) rfl rfl (by kernel_rfl) (by kernel_rfl) (by kernel_rfl) (fun _ _ _ h => h) (Or.inl ⟨by rfl, fun _ _ => by kernel_rfl⟩) HS ?_
        simp only [List.set_cons_zero, List.set_cons_succ]
        refine wpAnyH_all (rs := [15]) (by kernel_rfl) (by simp) ?_
        intro i hi
        rw [List.mem_singleton] at hi
        subst hi
        refine wpOp_step rfl fun Kq hKq => ?_
        rw [if_pos (by rfl)]
        refine wp_alloc44l 6 rfl rfl ?_
        intro gX U hgX oX bU
        have hbU : Below w.heap.size w U := hb.drew.trans (bU.mono hb.drew.size)
        have hgX1 : w.heap.size ≤ gX := by rw [hgX]; exact hb.size
        refine hKq _ _ ⟨⟨cell_later hbU c3, cell_later hbU q2⟩, ?_⟩
        clear hKq
        simp only [List.set_cons_zero, List.set_cons_succ]
        refine held_one (j := 16) rfl (by kernel_rfl) (by kernel_rfl) rfl rfl (.tmp 6) (.tmp 72) rfl gX rfl _ rfl (evM m) rfl rfl noEv rfl oX (fun u' gr => ?_) ?_
        · have hbu' : Below w.heap.size w u' := hbU.grown gr (by have := hbU.size; omega) (fun j e => by simp at e; omega)
          exact ⟨cell_later hbu' c3, cell_later hbu' q2⟩
        intro V gV grV
        have hbV : Below w.heap.size w V := hbU.grown grV (by have := hbU.size; omega) (fun j e => by simp at e; omega)
        have d2 := cell_later hbV c2
        have r1 := cell_later hbV q1
        clear hbU bU oX grV hgX HS d0 d2' d3 d4 hb
        go_wp2_with fail
        go_loopw [7] (fun j wx => ∃ a : Nat, a ≤ p ∧ j = .int .i64 a ∧ Below w.heap.size w wx ∧ wx.heap[gX]? = some (.cells (intA (evM m)) 75 (0, 0))) (fun j _ => p - (intOf j).toNat)
        case atStart => exact ⟨0, Nat.zero_le _, rfl, hbV, gV⟩
        case round =>
          obtain ⟨a, ha, rfl, hx, gXx⟩ := hrel
          clear d2 r1 hbV gV
          have d2 := cell_later hx c2
          have r1 := cell_later hx q1
          by_cases hap : a < p
          · obtain ⟨g, rfl, hgl, q3⟩ := Q3.out a hap
            have ia : (a : Int) < (p : Int) := by omega
            go_wp2_with fail
            have rE : World.rangeAt { wr with drawn := wr.drawn + 1 } g (a * 21) (intC (evM m)) := fun j v hv => (hx.cell hgl).trans (q3 j v hv)
            have rX : World.rangeAt { wr with drawn := wr.drawn + 1 } gX 0 (intC (evM m)) := fun j v hv => by
              rw [show World.cell? { wr with drawn := wr.drawn + 1 } ⟨gX, 0 + j, none⟩ = wr.cell? ⟨gX, 0 + j, none⟩ from rfl, cell_of_row _ _ _ _ _ _ gXx, Nat.zero_add]; simpa [intA] using hv
            refine wp_region_held (S := fun x => x = ({ wr with drawn := wr.drawn + 1 } : World)) mixed ?_
            refine take_l (i := 0) (d := 85) (v := .pointer (some ⟨bb, 0, none⟩)) rfl rfl (by kernel_rfl) (by kernel_rfl) (by kernel_rfl) (fun _ _ _ h => h) (Or.inl ⟨by rfl, by intro x hSx; go_simp; try rfl⟩) rfl ?_
            simp only [List.set_cons_zero, List.set_cons_succ]
            refine take_l (i := 1) (d := 86) (v := .pointer (some ⟨bb, 0, none⟩)) rfl rfl (by kernel_rfl) (by kernel_rfl) (by kernel_rfl) (fun _ _ _ h => h) (Or.inl ⟨by rfl, by intro x hSx; go_simp; try rfl⟩) rfl ?_
            simp only [List.set_cons_zero, List.set_cons_succ]
            refine take_l (i := 2) (d := 87) (v := .pointer (some ⟨bb, 2, none⟩)) rfl rfl (by kernel_rfl) (by kernel_rfl) (by kernel_rfl) (fun _ _ _ h => h) (Or.inl ⟨by rfl, by intro x hSx; go_simp; try rfl⟩) rfl ?_
            simp only [List.set_cons_zero, List.set_cons_succ]
            refine take_l (i := 3) (d := 88) (v := .slice (some ⟨gi, 0, none⟩) E.length ci) rfl rfl (by kernel_rfl) (by kernel_rfl) (by kernel_rfl) (fun _ _ _ h => h) (Or.inl ⟨by rfl, by intro x hSx; have hF := d2; subst hSx; go_simp; try rfl⟩) rfl ?_
            simp only [List.set_cons_zero, List.set_cons_succ]
            refine take_l (i := 4) (d := 89) (v := .int .i64 k) rfl rfl (by kernel_rfl) (by kernel_rfl) (by kernel_rfl) (fun _ _ _ h => h) (Or.inl ⟨by rfl, by intro x hSx; go_simp; try rfl⟩) rfl ?_
            simp only [List.set_cons_zero, List.set_cons_succ]
            refine take_l (i := 5) (d := 90) (v := .pointer (some ⟨gi, k, none⟩)) rfl rfl (by kernel_rfl) (by kernel_rfl) (by kernel_rfl) (fun _ _ _ h => h) (Or.inl ⟨by rfl, by intro x hSx; go_simp; try rfl⟩) rfl ?_
            simp only [List.set_cons_zero, List.set_cons_succ]
            refine take_l (i := 6) (d := 91) (v := .slice (some ⟨g, 0, none⟩) p cx) rfl rfl (by kernel_rfl) (by kernel_rfl) (by kernel_rfl) (fun _ _ _ h => h) (Or.inl ⟨by rfl, by intro x hSx; have hF := r1; subst hSx; go_simp; try rfl⟩) rfl ?_
            simp only [List.set_cons_zero, List.set_cons_succ]
            refine take_l (i := 7) (d := 92) (v := .int .i64 a) rfl rfl (by kernel_rfl) (by kernel_rfl) (by kernel_rfl) (fun _ _ _ h => h) (Or.inl ⟨by rfl, by intro x hSx; go_simp; try rfl⟩) rfl ?_
            simp only [List.set_cons_zero, List.set_cons_succ]
            refine take_l (i := 8) (d := 93) (v := .pointer (some ⟨g, a * 21, none⟩)) rfl rfl (by kernel_rfl) (by kernel_rfl) (by kernel_rfl) (fun _ _ _ h => h) (Or.inl ⟨by rfl, by intro x hSx; go_simp; try rfl⟩) rfl ?_
            simp only [List.set_cons_zero, List.set_cons_succ]
            refine take_l (i := 9) (d := 94) (v := .agg (intA (evM m))) rfl rfl (by kernel_rfl) (by kernel_rfl) (by kernel_rfl) (fun _ _ _ h => h) (yieldsIf_load_mid (by rfl) 75 (.tmp 93) rfl g (a * 21) rfl (intC (evM m)) _ (fun x h => by subst h; exact rE) Tryd.underlying75 rfl info44) rfl ?_
            simp only [List.set_cons_zero, List.set_cons_succ]
            refine take_l (i := 10) (d := 95) (v := .agg (intA (evM m))) rfl rfl (by kernel_rfl) (by kernel_rfl) (by kernel_rfl) (fun _ _ _ h => h) (yieldsIf_load_mid (by rfl) 75 (.tmp 6) rfl gX 0 rfl (intC (evM m)) _ (fun x h => by subst h; exact rX) Tryd.underlying75 rfl info44) rfl ?_
            simp only [List.set_cons_zero, List.set_cons_succ]
            refine take_l (i := 11) (d := 96) (v := .bool false) rfl rfl (by kernel_rfl) (by kernel_rfl) (by kernel_rfl) (fun _ _ _ h => h) (Or.inl ⟨by rfl, fun x _ => run_neqE (.tmp 94) (.tmp 95) rfl (evM m) rfl rfl rfl x⟩) rfl ?_
            simp only [List.set_cons_zero, List.set_cons_succ]
            refine wpAnyH_done (by kernel_rfl) ?_ _
            go_wp2_with fail
            go_roundw
            case rel => exact ⟨a + 1, by omega, by go_num, hx.drew, gXx⟩
            case measure => simp [intOf]; omega
          · have ia : ¬ (a : Int) < (p : Int) := by omega
            go_wp2_with fail
            go_roundw
            case rel => exact ⟨k + 1, by omega, by go_num, hx⟩
            case measure => simp [intOf]; omega
      · have ik : ¬ (k : Int) < (E.length : Int) := by omega
        go_wp2_with fail
        go_loop [8] (fun j => j = .int .i64 0) (fun _ => 0)
        case atStart => rfl
        case round =>
          obtain rfl := hrel
          go_wp2_with fail
          go_ret
          exact ⟨rfl, hb⟩

end Go.Proofs.YtheibfffilomcaaDoor
