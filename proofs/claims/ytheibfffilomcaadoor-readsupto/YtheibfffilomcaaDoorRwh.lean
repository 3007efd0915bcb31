/- The walk of the document's Read. -/
import Derived.Test.YtheibfffilomcaaDoorRwg
namespace Go.Proofs.YtheibfffilomcaaDoor
open Go.RowKit

/-- Take number i first, the state told as a list of slots. -/
theorem take_l {ops : Array Oper} {Q : Exit → Act → World → Prop} {S : World → Prop} {i d : Nat} {oi : Oper} {v : Value} {fuel : Nat} {listed : Array Bool} {l : List Value} {ds : List Deferred} {w : World} (hi : ops[i]? = some oi) (hd : oi.dst = some d)
    (hs : Region.noSelect ops = true) (hf : Region.free .any ops listed i = true) (hr : (Region.ready .any ops listed).contains i = true)
    (hQ : ∀ c a w, Q (.panic c) (a.put oi.dst v) w → Q (.panic c) a w) (hy : YieldsIf Tryd.prog ops S oi v ⟨l.toArray, ds⟩) (hS : S w)
    (h : wpAnyH Tryd.prog .any ops Q S fuel (listed.setIfInBounds i true) ⟨(l.set d v).toArray, ds⟩ w) : wpAnyH Tryd.prog .any ops Q S (fuel + 1) listed ⟨l.toArray, ds⟩ w := by
  refine wpAnyH_take hi hs hf hr hQ hy hS ?_
  rw [hd]
  simpa [Act.put] using h
theorem wp_alloc69l {o : Oper} {l : List Value} {ds : List Deferred} {u : World} {K : Act → World → Prop} {Q : Exit → Act → World → Prop} (d : Nat) (ho : o.op = .alloc 123) (hd : o.dst = some d)
    (h : ∀ g u', g = u.heap.size → u'.heap[g]? = some (.cells (mA 0 0 (.slice none 0 0)) 123 (0, 0)) → Below u.heap.size u u' → K ⟨(l.set d (.pointer (some ⟨g, 0, none⟩))).toArray, ds⟩ u') : Oper.wp Tryd.prog o ⟨l.toArray, ds⟩ u K Q := by
  refine wp_alloc69 ho fun g u' h1 h2 h3 => ?_
  rw [hd]
  simpa [Act.put] using h g u' h1 h2 h3
theorem wp_alloc44l {o : Oper} {l : List Value} {ds : List Deferred} {u : World} {K : Act → World → Prop} {Q : Exit → Act → World → Prop} (d : Nat) (ho : o.op = .alloc 75) (hd : o.dst = some d)
    (h : ∀ g u', g = u.heap.size → u'.heap[g]? = some (.cells (intA noEv) 75 (0, 0)) → Below u.heap.size u u' → K ⟨(l.set d (.pointer (some ⟨g, 0, none⟩))).toArray, ds⟩ u') : Oper.wp Tryd.prog o ⟨l.toArray, ds⟩ u K Q := by
  refine wp_alloc44 ho fun g u' h1 h2 h3 => ?_
  rw [hd]
  simpa [Act.put] using h g u' h1 h2 h3
theorem wp_call32l {o : Oper} {l : List Value} {ds : List Deferred} {u : World} {K : Act → World → Prop} {Q : Exit → Act → World → Prop} (i j d : Nat) (ho : o.op = .call { callee := .value (.func 68), args := #[.tmp i, .tmp j], argTypes := #[123, 3] }) (hd : o.dst = some d) (p q : Value) (hx : Act.eval ⟨l.toArray, ds⟩ (.tmp i) = p) (hy : Act.eval ⟨l.toArray, ds⟩ (.tmp j) = q)
    (R : Value → World → Prop) (hc : Calls Tryd.prog 68 #[p, q] u fun e w' => ∃ v, e = .returned v ∧ R v w') (h : ∀ v w', R v w' → K ⟨(l.set d v).toArray, ds⟩ w') : Oper.wp Tryd.prog o ⟨l.toArray, ds⟩ u K Q := by
  refine wp_call32 i j ho p q hx hy R hc fun v w' hr => ?_
  rw [hd]
  simpa [Act.put] using h v w' hr

set_option maxRecDepth 100000 in
set_option maxHeartbeats 2500000 in
theorem read_any (ao : Option Addr) (n cap : Nat) (D : List Int) (w : World) (hn : D.length = n) (hn2 : n ≤ 3000000) (hD : ∀ x ∈ D, 0 ≤ x ∧ x ≤ 10000000) (hsl : SlAt w ao D) :
    Calls Tryd.prog 52 #[.slice ao n cap] w fun e w' => ∃ v, e = .returned v ∧ EvAt w' w.heap.size v (RM.zero.evs D).2 ∧ Below w.heap.size w w' := by
  have RX0 : RX w 0 0 (.slice none 0 0) (.slice none 0 0) [] none [] (w.alloc (.cells (mA 0 0 (.slice none 0 0)) 123)) :=
    ⟨heap_alloc_new _ _, World.ownsRow_nil _ _ _ _, SlAt.nil _ _, (fun _ _ e => by cases e), (Below.refl _ _).alloc (Nat.le_refl _) _⟩
  go_enter Tryd.func52, Tryd.ntmps52
  go_wp2_with fail
  go_loopw [3, 5] (fun v i wr => ∃ (k : Nat) (M K : Int) (L : List Int) (a1 : Option Addr) (c1 : Nat) (E : List (List Int)), k ≤ n ∧ i = .int .i64 k ∧ Hid (RM.zero.evs (D.take k) = (⟨M, K, L⟩, E)) ∧ L.length ≤ c1 ∧ RX w M K (.slice a1 L.length c1) v E a1 L wr) (fun _ i _ => n - (intOf i).toNat)
  case atStart => exact ⟨0, 0, 0, [], none, 0, [], Nat.zero_le _, rfl, rfl, Nat.le_refl _, RX0⟩
  case round =>
    clear RX0
    obtain ⟨k, M, K, L, a1, c1, E, hk, rfl, H, hc1, R⟩ := hrel
    have hok := rm_ok RM.zero 0 (fun x hx => by simp [RM.zero] at hx) (Nat.le_refl _) (D.take k) (fun c hc => hD c (List.mem_of_mem_take hc))
    rw [H.out] at hok
    obtain ⟨hLb, hLn, hE21, hEn⟩ := hok
    dsimp only at hLb hLn hE21 hEn
    have htk : (D.take k).length = k := by rw [List.length_take]; omega
    rw [htk] at hLn hEn
    by_cases hlt : k < n
    · have hkl : k < D.length := by omega
      obtain ⟨c, hcD⟩ : ∃ c, D[k] = c := ⟨_, rfl⟩
      have H2 : RM.zero.evs (D.take (k + 1)) = ((RM.take ⟨M, K, L⟩ c).1, E ++ (if (RM.take ⟨M, K, L⟩ c).2.getD 0 0 ≠ 0 then [(RM.take ⟨M, K, L⟩ c).2] else [])) := by
        rw [List.take_succ_eq_append_getElem hkl, rm_snoc, H.out, hcD]
      obtain ⟨bb, oo, rfl, hblt, hcell⟩ := hsl k c (by rw [List.getElem?_eq_getElem hkl, hcD])
      have hl21 := rm_len ⟨M, K, L⟩ c
      have hcall0 := fun u hs => rtake_any M K L a1 L.length c1 c u rfl hc1 (by omega) hLb hs
      unfold TakeSaid at hcall0
      generalize RM.take ⟨M, K, L⟩ c = X at *
      obtain ⟨⟨M', K', L'⟩, EV⟩ := X
      dsimp only at hcall0 hl21 H2
      have hcall : ∀ u, SlAt u a1 L → Calls Tryd.prog 68 #[.agg (mA M K (.slice a1 L.length c1)), .int .i64 c] u fun e w' => ∃ v, e = .returned v ∧ ∃ a2 n2 c2, v = .tuple #[.agg (mA M' K' (.slice a2 n2 c2)), .agg (intA EV)] ∧ n2 = L'.length ∧ n2 ≤ c2 ∧ SlAt w' a2 L' ∧ (∀ b o, a2 = some ⟨b, o, none⟩ → a2 = a1 ∨ (u.heap.size ≤ b ∧ b < w'.heap.size)) ∧ Below u.heap.size u w' := fun u hs => (hcall0 u hs).mono fun e w' ⟨a2, n2, c2, he, h⟩ => ⟨_, he, a2, n2, c2, rfl, h⟩
      have H2' : Hid _ := H2
      have SS : ∀ {v' : Value} {E' : List (List Int)} {a' : Option Addr} {L0 : List Int} {u : World}, RX w M K (.slice a1 L.length c1) v' E' a' L0 u → u.heap[w.heap.size]? = some (.cells (mA M K (.slice a1 L.length c1)) 123 (0, 0)) ∧ u.cell? ⟨bb, oo + k, none⟩ = some (.int .i64 c) := fun R => ⟨R.mach, (R.bel.cell hblt).trans hcell⟩
      have ik : (k : Int) < (n : Int) := by omega
      clear hcall0 H2 H hcD hE21 hLb htk
      have H2 := H2'
      clear H2'
      go_wp2_with fail
      have R0 := R.drew
      clear R
      refine wp_region_held (S := fun x => x.heap[w.heap.size]? = some (.cells (mA M K (.slice a1 L.length c1)) 123 (0, 0)) ∧ x.cell? ⟨bb, oo + k, none⟩ = some (.int .i64 c)) mixed ?_
      refine take_l (i := 0) (d := 16) (v := .agg (mA M K (.slice a1 L.length c1))) rfl rfl (by kernel_rfl) (by kernel_rfl) (by kernel_rfl) (fun _ _ _ h => h) (yieldsIf_load_mid (by rfl) 123 (.tmp 4) rfl w.heap.size 0 rfl [.int .i64 M, .int .i64 K, .slice a1 L.length c1] _ (fun x h j v hv => by rw [cell_of_row _ _ _ _ _ _ h.1, Nat.zero_add]; simpa [mA] using hv) Tryd.underlying123 rfl info69) (SS R0) ?_
      simp only [List.set_cons_zero, List.set_cons_succ]
      refine take_l (i := 1) (d := 17) (v := .slice (some ⟨bb, oo, none⟩) n cap) rfl rfl (by kernel_rfl) (by kernel_rfl) (by kernel_rfl) (fun _ _ _ h => h) (Or.inl ⟨by rfl, by intro x hSx; go_simp; try rfl⟩) (SS R0) ?_
      simp only [List.set_cons_zero, List.set_cons_succ]
      refine take_l (i := 2) (d := 18) (v := .int .i64 k) rfl rfl (by kernel_rfl) (by kernel_rfl) (by kernel_rfl) (fun _ _ _ h => h) (Or.inl ⟨by rfl, by intro x hSx; go_simp; try rfl⟩) (SS R0) ?_
      simp only [List.set_cons_zero, List.set_cons_succ]
      refine take_l (i := 3) (d := 19) (v := .pointer (some ⟨bb, oo + k, none⟩)) rfl rfl (by kernel_rfl) (by kernel_rfl) (by kernel_rfl) (fun _ _ _ h => h) (Or.inl ⟨by rfl, by intro x hSx; go_simp; try rfl⟩) (SS R0) ?_
      simp only [List.set_cons_zero, List.set_cons_succ]
      refine take_l (i := 4) (d := 20) (v := .int .i64 c) rfl rfl (by kernel_rfl) (by kernel_rfl) (by kernel_rfl) (fun _ _ _ h => h) (Or.inl ⟨by rfl, by intro x hSx; have hSc := hSx.2; go_simp; try rfl⟩) (SS R0) ?_
      simp only [List.set_cons_zero, List.set_cons_succ]
      refine wpAnyH_all (rs := [5, 9, 10]) (by kernel_rfl) (by simp) ?_
      intro i hi
      simp only [List.mem_cons, List.not_mem_nil, or_false] at hi
      rcases hi with rfl | rfl | rfl
      · refine wpOp_step rfl fun Kq hKq => ?_
        rw [if_pos (by rfl)]
        refine wp_call32l 16 20 21 rfl rfl _ _ rfl rfl _ (hcall _ R0.sl) ?_
        rintro v2 Uc ⟨a2, n2, c2, rfl, rfl, hc2, sl2, hnew, bu⟩
        have R1x := R0.body bu sl2 hnew
        refine hKq _ _ ⟨SS R1x, ?_⟩
        clear bu hnew sl2 R0   hKq
        simp only [List.set_cons_zero, List.set_cons_succ]
        refine take_l (i := 6) (d := 15) (v := .tuple #[.agg (mA M' K' (.slice a2 L'.length c2)), .agg (intA EV)]) rfl rfl (by kernel_rfl) (by kernel_rfl) (by kernel_rfl) (fun _ _ _ h => h) (Or.inl ⟨by rfl, by intro x hSx; go_simp; try rfl⟩) (SS R1x) ?_
        simp only [List.set_cons_zero, List.set_cons_succ]
        refine take_l (i := 7) (d := 22) (v := .agg (mA M' K' (.slice a2 L'.length c2))) rfl rfl (by kernel_rfl) (by kernel_rfl) (by kernel_rfl) (fun _ _ _ h => h) (Or.inl ⟨by rfl, by intro x hSx; go_simp; try rfl⟩) (SS R1x) ?_
        simp only [List.set_cons_zero, List.set_cons_succ]
        refine take_l (i := 8) (d := 23) (v := .agg (intA EV)) rfl rfl (by kernel_rfl) (by kernel_rfl) (by kernel_rfl) (fun _ _ _ h => h) (Or.inl ⟨by rfl, by intro x hSx; go_simp; try rfl⟩) (SS R1x) ?_
        simp only [List.set_cons_zero, List.set_cons_succ]
        refine wpAnyH_all (rs := [9, 10]) (by kernel_rfl) (by simp) ?_
        intro i hi
        simp only [List.mem_cons, List.not_mem_nil, or_false] at hi
        rcases hi with rfl | rfl
        · refine wpOp_step rfl fun Kq hKq => ?_
          rw [if_pos (by rfl)]
          refine wp_alloc69l 6 rfl rfl ?_
          intro gm Uca hgm om bu
          have R2x := R1x.next bu
          have NM := NB.new R1x hgm om
          refine hKq _ _ ⟨SS R2x, ?_⟩
          clear bu hgm om R1x  hKq
          simp only [List.set_cons_zero, List.set_cons_succ]
          refine wpAnyH_all (rs := [10]) (by kernel_rfl) (by simp) ?_
          intro i hi
          rw [List.mem_singleton] at hi
          subst hi
          refine wpOp_step rfl fun Kq hKq => ?_
          rw [if_pos (by rfl)]
          refine wp_alloc44l 7 rfl rfl ?_
          intro ge Ucab hge oe bu
          have R3x := R2x.next bu
          have NE := NB.new R2x hge oe
          have NMb := NM.next bu
          refine hKq _ _ ⟨SS R3x, ?_⟩
          clear bu hge oe R2x NM hKq
          simp only [List.set_cons_zero, List.set_cons_succ]
          have hne : gm ≠ ge := fun e => by
            have q := NMb.obj
            rw [e, NE.obj] at q
            cases q
          refine held_pair (i := 11) (j := 12) rfl rfl (by kernel_rfl) (by kernel_rfl) (by kernel_rfl) rfl rfl rfl rfl (.tmp 6) (.tmp 22) (.tmp 7) (.tmp 23) rfl rfl gm ge hne rfl rfl (mA M' K' (.slice a2 L'.length c2)) rfl rfl (mA_all _ _ _ _ _) _ rfl EV rfl hl21 _ rfl NMb.obj _ rfl NE.obj (fun u' t => SS (R3x.two t NMb NE)) ?_
          intro u3 g1 g2 t
          have R3 := R3x.two t NMb NE
          have lom := NMb.lo
          have loe := NE.lo
          have lte : ge < u3.heap.size := by rw [t.size]; exact NE.lt
          clear t NMb NE hne SS
          go_wp2_with (first | (refine wp_rload _ rfl (.tmp 6) rfl gm (mA M' K' (.slice a2 L'.length c2)) rfl rfl 123 (0, 0) g1 ?_) | (refine wp_rset _ rfl (.tmp 4) (.tmp 24) rfl w.heap.size (mA M K (.slice a1 L.length c1)) (mA M' K' (.slice a2 L'.length c2)) rfl rfl rfl (mA_all _ _ _ _ _) 123 R3.mach rfl ?_))
          intro u4 g4 r4 z4
          have R4 := R3.mset g4 r4
          have g24 := (r4.block ge lte (by simp; omega)).trans g2
          have hk0 : u4.cell? ⟨ge, 0, none⟩ = some (.int .i64 (EV.getD 0 0)) := by
            rw [cell_of_row _ _ _ _ _ _ g24]
            simpa [intA] using intC_get EV 0 (by omega)
          clear R3 g1 g2 g4 r4 lte z4
          obtain ⟨kd, hkd⟩ : ∃ x, x = EV.getD 0 0 := ⟨_, rfl⟩
          rw [← hkd] at hk0
          have H3 := H2.out
          rw [← hkd] at H3
          clear hkd H2
          by_cases hz : kd = 0
          · have H4 : Hid (RM.zero.evs (D.take (k + 1)) = (⟨M', K', L'⟩, E)) := by
              show _ = _
              rw [H3, if_neg (fun h => h hz), List.append_nil]
            have bz : (kd != 0) = false := by simp [hz]
            clear H3 hz
            go_wp2_with fail
            go_roundw
            case rel => exact ⟨k + 1, M', K', L', a2, c2, E, by omega, by go_num, H4, hc2, R4⟩
            case measure => simp [intOf]; omega
          · have H4 : Hid (RM.zero.evs (D.take (k + 1)) = (⟨M', K', L'⟩, E ++ [EV])) := by
              show _ = _
              rw [H3, if_pos hz]
            have bz : (kd != 0) = true := by simp [hz]
            have hone : ∀ e ∈ [EV], e.length = 21 := by intro e he; simp at he; rw [he]; exact hl21
            have hz4 := R4.size
            have ev4 := R4.ev
            clear H3 hz
            go_wp2_with (first | (refine wp_eload _ rfl (.tmp 7) rfl ge EV rfl hl21 75 (0, 0) g24 ?_) | (refine wp_bs1 _ rfl (.tmp 29) rfl EV hl21 rfl ?_) | (at_builtin; refine wp_appE u4 rfl _ _ rfl (w.heap.size + 1) _ E [EV] _ ?k1c0 hone (by simp) rfl ?k1c1 _ _ ?k1c2 rfl rfl ?k1c3 ?k1c4 ?_))
            try (case k1c0 => simp)
            try (case k1c1 => exact ev4)
            try (case k1c2 => rfl)
            try (case k1c3 => simp; omega)
            try (case k1c4 => exact hz4)
            intro v' w' ev' gr' hblk _
            have R5 := R4.app ev' gr' hblk.out
            clear R4 ev4 ev' gr' hblk g24 hk0 hz4
            go_wp2_with fail
            go_roundw
            case rel => exact ⟨k + 1, M', K', L', a2, c2, E ++ [EV], by omega, by go_num, H4, hc2, R5⟩
            case measure => simp [intOf]; omega
        · refine wpOp_step rfl fun Kq hKq => ?_
          rw [if_pos (by rfl)]
          refine wp_alloc44l 7 rfl rfl ?_
          intro ge Ucb hge oe bu
          have R4x := R1x.next bu
          have NE := NB.new R1x hge oe
          refine hKq _ _ ⟨SS R4x, ?_⟩
          clear bu hge oe R1x  hKq
          simp only [List.set_cons_zero, List.set_cons_succ]
          refine wpAnyH_all (rs := [9]) (by kernel_rfl) (by simp) ?_
          intro i hi
          rw [List.mem_singleton] at hi
          subst hi
          refine wpOp_step rfl fun Kq hKq => ?_
          rw [if_pos (by rfl)]
          refine wp_alloc69l 6 rfl rfl ?_
          intro gm Ucba hgm om bu
          have R5x := R4x.next bu
          have NM := NB.new R4x hgm om
          have NEa := NE.next bu
          refine hKq _ _ ⟨SS R5x, ?_⟩
          clear bu hgm om R4x NE hKq
          simp only [List.set_cons_zero, List.set_cons_succ]
          have hne : gm ≠ ge := fun e => by
            have q := NM.obj
            rw [e, NEa.obj] at q
            cases q
          refine held_pair (i := 11) (j := 12) rfl rfl (by kernel_rfl) (by kernel_rfl) (by kernel_rfl) rfl rfl rfl rfl (.tmp 6) (.tmp 22) (.tmp 7) (.tmp 23) rfl rfl gm ge hne rfl rfl (mA M' K' (.slice a2 L'.length c2)) rfl rfl (mA_all _ _ _ _ _) _ rfl EV rfl hl21 _ rfl NM.obj _ rfl NEa.obj (fun u' t => SS (R5x.two t NM NEa)) ?_
          intro u3 g1 g2 t
          have R3 := R5x.two t NM NEa
          have lom := NM.lo
          have loe := NEa.lo
          have lte : ge < u3.heap.size := by rw [t.size]; exact NEa.lt
          clear t NM NEa hne SS
          go_wp2_with (first | (refine wp_rload _ rfl (.tmp 6) rfl gm (mA M' K' (.slice a2 L'.length c2)) rfl rfl 123 (0, 0) g1 ?_) | (refine wp_rset _ rfl (.tmp 4) (.tmp 24) rfl w.heap.size (mA M K (.slice a1 L.length c1)) (mA M' K' (.slice a2 L'.length c2)) rfl rfl rfl (mA_all _ _ _ _ _) 123 R3.mach rfl ?_))
          intro u4 g4 r4 z4
          have R4 := R3.mset g4 r4
          have g24 := (r4.block ge lte (by simp; omega)).trans g2
          have hk0 : u4.cell? ⟨ge, 0, none⟩ = some (.int .i64 (EV.getD 0 0)) := by
            rw [cell_of_row _ _ _ _ _ _ g24]
            simpa [intA] using intC_get EV 0 (by omega)
          clear R3 g1 g2 g4 r4 lte z4
          obtain ⟨kd, hkd⟩ : ∃ x, x = EV.getD 0 0 := ⟨_, rfl⟩
          rw [← hkd] at hk0
          have H3 := H2.out
          rw [← hkd] at H3
          clear hkd H2
          by_cases hz : kd = 0
          · have H4 : Hid (RM.zero.evs (D.take (k + 1)) = (⟨M', K', L'⟩, E)) := by
              show _ = _
              rw [H3, if_neg (fun h => h hz), List.append_nil]
            have bz : (kd != 0) = false := by simp [hz]
            clear H3 hz
            go_wp2_with fail
            go_roundw
            case rel => exact ⟨k + 1, M', K', L', a2, c2, E, by omega, by go_num, H4, hc2, R4⟩
            case measure => simp [intOf]; omega
          · have H4 : Hid (RM.zero.evs (D.take (k + 1)) = (⟨M', K', L'⟩, E ++ [EV])) := by
              show _ = _
              rw [H3, if_pos hz]
            have bz : (kd != 0) = true := by simp [hz]
            have hone : ∀ e ∈ [EV], e.length = 21 := by intro e he; simp at he; rw [he]; exact hl21
            have hz4 := R4.size
            have ev4 := R4.ev
            clear H3 hz
            go_wp2_with (first | (refine wp_eload _ rfl (.tmp 7) rfl ge EV rfl hl21 75 (0, 0) g24 ?_) | (refine wp_bs1 _ rfl (.tmp 29) rfl EV hl21 rfl ?_) | (at_builtin; refine wp_appE u4 rfl _ _ rfl (w.heap.size + 1) _ E [EV] _ ?k2c0 hone (by simp) rfl ?k2c1 _ _ ?k2c2 rfl rfl ?k2c3 ?k2c4 ?_))
            try (case k2c0 => simp)
            try (case k2c1 => exact ev4)
            try (case k2c2 => rfl)
            try (case k2c3 => simp; omega)
            try (case k2c4 => exact hz4)
            intro v' w' ev' gr' hblk _
            have R5 := R4.app ev' gr' hblk.out
            clear R4 ev4 ev' gr' hblk g24 hk0 hz4
            go_wp2_with fail
            go_roundw
            case rel => exact ⟨k + 1, M', K', L', a2, c2, E ++ [EV], by omega, by go_num, H4, hc2, R5⟩
            case measure => simp [intOf]; omega
      · refine wpOp_step rfl fun Kq hKq => ?_
        rw [if_pos (by rfl)]
        refine wp_alloc69l 6 rfl rfl ?_
        intro gm Ua hgm om bu
        have R6x := R0.next bu
        have NM := NB.new R0 hgm om
        refine hKq _ _ ⟨SS R6x, ?_⟩
        clear bu hgm om R0  hKq
        simp only [List.set_cons_zero, List.set_cons_succ]
        refine wpAnyH_all (rs := [5, 10]) (by kernel_rfl) (by simp) ?_
        intro i hi
        simp only [List.mem_cons, List.not_mem_nil, or_false] at hi
        rcases hi with rfl | rfl
        · refine wpOp_step rfl fun Kq hKq => ?_
          rw [if_pos (by rfl)]
          refine wp_call32l 16 20 21 rfl rfl _ _ rfl rfl _ (hcall _ R6x.sl) ?_
          rintro v2 Uac ⟨a2, n2, c2, rfl, rfl, hc2, sl2, hnew, bu⟩
          have R7x := R6x.body bu sl2 hnew
          have NMc := NM.body bu hnew
          refine hKq _ _ ⟨SS R7x, ?_⟩
          clear bu hnew sl2 R6x NM  hKq
          simp only [List.set_cons_zero, List.set_cons_succ]
          refine take_l (i := 6) (d := 15) (v := .tuple #[.agg (mA M' K' (.slice a2 L'.length c2)), .agg (intA EV)]) rfl rfl (by kernel_rfl) (by kernel_rfl) (by kernel_rfl) (fun _ _ _ h => h) (Or.inl ⟨by rfl, by intro x hSx; go_simp; try rfl⟩) (SS R7x) ?_
          simp only [List.set_cons_zero, List.set_cons_succ]
          refine take_l (i := 7) (d := 22) (v := .agg (mA M' K' (.slice a2 L'.length c2))) rfl rfl (by kernel_rfl) (by kernel_rfl) (by kernel_rfl) (fun _ _ _ h => h) (Or.inl ⟨by rfl, by intro x hSx; go_simp; try rfl⟩) (SS R7x) ?_
          simp only [List.set_cons_zero, List.set_cons_succ]
          refine take_l (i := 8) (d := 23) (v := .agg (intA EV)) rfl rfl (by kernel_rfl) (by kernel_rfl) (by kernel_rfl) (fun _ _ _ h => h) (Or.inl ⟨by rfl, by intro x hSx; go_simp; try rfl⟩) (SS R7x) ?_
          simp only [List.set_cons_zero, List.set_cons_succ]
          refine wpAnyH_all (rs := [10]) (by kernel_rfl) (by simp) ?_
          intro i hi
          rw [List.mem_singleton] at hi
          subst hi
          refine wpOp_step rfl fun Kq hKq => ?_
          rw [if_pos (by rfl)]
          refine wp_alloc44l 7 rfl rfl ?_
          intro ge Uacb hge oe bu
          have R8x := R7x.next bu
          have NE := NB.new R7x hge oe
          have NMcb := NMc.next bu
          refine hKq _ _ ⟨SS R8x, ?_⟩
          clear bu hge oe R7x NMc hKq
          simp only [List.set_cons_zero, List.set_cons_succ]
          have hne : gm ≠ ge := fun e => by
            have q := NMcb.obj
            rw [e, NE.obj] at q
            cases q
          refine held_pair (i := 11) (j := 12) rfl rfl (by kernel_rfl) (by kernel_rfl) (by kernel_rfl) rfl rfl rfl rfl (.tmp 6) (.tmp 22) (.tmp 7) (.tmp 23) rfl rfl gm ge hne rfl rfl (mA M' K' (.slice a2 L'.length c2)) rfl rfl (mA_all _ _ _ _ _) _ rfl EV rfl hl21 _ rfl NMcb.obj _ rfl NE.obj (fun u' t => SS (R8x.two t NMcb NE)) ?_
          intro u3 g1 g2 t
          have R3 := R8x.two t NMcb NE
          have lom := NMcb.lo
          have loe := NE.lo
          have lte : ge < u3.heap.size := by rw [t.size]; exact NE.lt
          clear t NMcb NE hne SS
          go_wp2_with (first | (refine wp_rload _ rfl (.tmp 6) rfl gm (mA M' K' (.slice a2 L'.length c2)) rfl rfl 123 (0, 0) g1 ?_) | (refine wp_rset _ rfl (.tmp 4) (.tmp 24) rfl w.heap.size (mA M K (.slice a1 L.length c1)) (mA M' K' (.slice a2 L'.length c2)) rfl rfl rfl (mA_all _ _ _ _ _) 123 R3.mach rfl ?_))
          intro u4 g4 r4 z4
          have R4 := R3.mset g4 r4
          have g24 := (r4.block ge lte (by simp; omega)).trans g2
          have hk0 : u4.cell? ⟨ge, 0, none⟩ = some (.int .i64 (EV.getD 0 0)) := by
            rw [cell_of_row _ _ _ _ _ _ g24]
            simpa [intA] using intC_get EV 0 (by omega)
          clear R3 g1 g2 g4 r4 lte z4
          obtain ⟨kd, hkd⟩ : ∃ x, x = EV.getD 0 0 := ⟨_, rfl⟩
          rw [← hkd] at hk0
          have H3 := H2.out
          rw [← hkd] at H3
          clear hkd H2
          by_cases hz : kd = 0
          · have H4 : Hid (RM.zero.evs (D.take (k + 1)) = (⟨M', K', L'⟩, E)) := by
              show _ = _
              rw [H3, if_neg (fun h => h hz), List.append_nil]
            have bz : (kd != 0) = false := by simp [hz]
            clear H3 hz
            go_wp2_with fail
            go_roundw
            case rel => exact ⟨k + 1, M', K', L', a2, c2, E, by omega, by go_num, H4, hc2, R4⟩
            case measure => simp [intOf]; omega
          · have H4 : Hid (RM.zero.evs (D.take (k + 1)) = (⟨M', K', L'⟩, E ++ [EV])) := by
              show _ = _
              rw [H3, if_pos hz]
            have bz : (kd != 0) = true := by simp [hz]
            have hone : ∀ e ∈ [EV], e.length = 21 := by intro e he; simp at he; rw [he]; exact hl21
            have hz4 := R4.size
            have ev4 := R4.ev
            clear H3 hz
            go_wp2_with (first | (refine wp_eload _ rfl (.tmp 7) rfl ge EV rfl hl21 75 (0, 0) g24 ?_) | (refine wp_bs1 _ rfl (.tmp 29) rfl EV hl21 rfl ?_) | (at_builtin; refine wp_appE u4 rfl _ _ rfl (w.heap.size + 1) _ E [EV] _ ?k3c0 hone (by simp) rfl ?k3c1 _ _ ?k3c2 rfl rfl ?k3c3 ?k3c4 ?_))
            try (case k3c0 => simp)
            try (case k3c1 => exact ev4)
            try (case k3c2 => rfl)
            try (case k3c3 => simp; omega)
            try (case k3c4 => exact hz4)
            intro v' w' ev' gr' hblk _
            have R5 := R4.app ev' gr' hblk.out
            clear R4 ev4 ev' gr' hblk g24 hk0 hz4
            go_wp2_with fail
            go_roundw
            case rel => exact ⟨k + 1, M', K', L', a2, c2, E ++ [EV], by omega, by go_num, H4, hc2, R5⟩
            case measure => simp [intOf]; omega
        · refine wpOp_step rfl fun Kq hKq => ?_
          rw [if_pos (by rfl)]
          refine wp_alloc44l 7 rfl rfl ?_
          intro ge Uab hge oe bu
          have R9x := R6x.next bu
          have NE := NB.new R6x hge oe
          have NMb := NM.next bu
          refine hKq _ _ ⟨SS R9x, ?_⟩
          clear bu hge oe R6x NM hKq
          simp only [List.set_cons_zero, List.set_cons_succ]
          refine wpAnyH_all (rs := [5]) (by kernel_rfl) (by simp) ?_
          intro i hi
          rw [List.mem_singleton] at hi
          subst hi
          refine wpOp_step rfl fun Kq hKq => ?_
          rw [if_pos (by rfl)]
          refine wp_call32l 16 20 21 rfl rfl _ _ rfl rfl _ (hcall _ R9x.sl) ?_
          rintro v2 Uabc ⟨a2, n2, c2, rfl, rfl, hc2, sl2, hnew, bu⟩
          have R10x := R9x.body bu sl2 hnew
          have NMbc := NMb.body bu hnew
          have NEc := NE.body bu hnew
          refine hKq _ _ ⟨SS R10x, ?_⟩
          clear bu hnew sl2 R9x NMb NE hKq
          simp only [List.set_cons_zero, List.set_cons_succ]
          refine take_l (i := 6) (d := 15) (v := .tuple #[.agg (mA M' K' (.slice a2 L'.length c2)), .agg (intA EV)]) rfl rfl (by kernel_rfl) (by kernel_rfl) (by kernel_rfl) (fun _ _ _ h => h) (Or.inl ⟨by rfl, by intro x hSx; go_simp; try rfl⟩) (SS R10x) ?_
          simp only [List.set_cons_zero, List.set_cons_succ]
          refine take_l (i := 7) (d := 22) (v := .agg (mA M' K' (.slice a2 L'.length c2))) rfl rfl (by kernel_rfl) (by kernel_rfl) (by kernel_rfl) (fun _ _ _ h => h) (Or.inl ⟨by rfl, by intro x hSx; go_simp; try rfl⟩) (SS R10x) ?_
          simp only [List.set_cons_zero, List.set_cons_succ]
          refine take_l (i := 8) (d := 23) (v := .agg (intA EV)) rfl rfl (by kernel_rfl) (by kernel_rfl) (by kernel_rfl) (fun _ _ _ h => h) (Or.inl ⟨by rfl, by intro x hSx; go_simp; try rfl⟩) (SS R10x) ?_
          simp only [List.set_cons_zero, List.set_cons_succ]
          have hne : gm ≠ ge := fun e => by
            have q := NMbc.obj
            rw [e, NEc.obj] at q
            cases q
          refine held_pair (i := 11) (j := 12) rfl rfl (by kernel_rfl) (by kernel_rfl) (by kernel_rfl) rfl rfl rfl rfl (.tmp 6) (.tmp 22) (.tmp 7) (.tmp 23) rfl rfl gm ge hne rfl rfl (mA M' K' (.slice a2 L'.length c2)) rfl rfl (mA_all _ _ _ _ _) _ rfl EV rfl hl21 _ rfl NMbc.obj _ rfl NEc.obj (fun u' t => SS (R10x.two t NMbc NEc)) ?_
          intro u3 g1 g2 t
          have R3 := R10x.two t NMbc NEc
          have lom := NMbc.lo
          have loe := NEc.lo
          have lte : ge < u3.heap.size := by rw [t.size]; exact NEc.lt
          clear t NMbc NEc hne SS
          go_wp2_with (first | (refine wp_rload _ rfl (.tmp 6) rfl gm (mA M' K' (.slice a2 L'.length c2)) rfl rfl 123 (0, 0) g1 ?_) | (refine wp_rset _ rfl (.tmp 4) (.tmp 24) rfl w.heap.size (mA M K (.slice a1 L.length c1)) (mA M' K' (.slice a2 L'.length c2)) rfl rfl rfl (mA_all _ _ _ _ _) 123 R3.mach rfl ?_))
          intro u4 g4 r4 z4
          have R4 := R3.mset g4 r4
          have g24 := (r4.block ge lte (by simp; omega)).trans g2
          have hk0 : u4.cell? ⟨ge, 0, none⟩ = some (.int .i64 (EV.getD 0 0)) := by
            rw [cell_of_row _ _ _ _ _ _ g24]
            simpa [intA] using intC_get EV 0 (by omega)
          clear R3 g1 g2 g4 r4 lte z4
          obtain ⟨kd, hkd⟩ : ∃ x, x = EV.getD 0 0 := ⟨_, rfl⟩
          rw [← hkd] at hk0
          have H3 := H2.out
          rw [← hkd] at H3
          clear hkd H2
          by_cases hz : kd = 0
          · have H4 : Hid (RM.zero.evs (D.take (k + 1)) = (⟨M', K', L'⟩, E)) := by
              show _ = _
              rw [H3, if_neg (fun h => h hz), List.append_nil]
            have bz : (kd != 0) = false := by simp [hz]
            clear H3 hz
            go_wp2_with fail
            go_roundw
            case rel => exact ⟨k + 1, M', K', L', a2, c2, E, by omega, by go_num, H4, hc2, R4⟩
            case measure => simp [intOf]; omega
          · have H4 : Hid (RM.zero.evs (D.take (k + 1)) = (⟨M', K', L'⟩, E ++ [EV])) := by
              show _ = _
              rw [H3, if_pos hz]
            have bz : (kd != 0) = true := by simp [hz]
            have hone : ∀ e ∈ [EV], e.length = 21 := by intro e he; simp at he; rw [he]; exact hl21
            have hz4 := R4.size
            have ev4 := R4.ev
            clear H3 hz
            go_wp2_with (first | (refine wp_eload _ rfl (.tmp 7) rfl ge EV rfl hl21 75 (0, 0) g24 ?_) | (refine wp_bs1 _ rfl (.tmp 29) rfl EV hl21 rfl ?_) | (at_builtin; refine wp_appE u4 rfl _ _ rfl (w.heap.size + 1) _ E [EV] _ ?k4c0 hone (by simp) rfl ?k4c1 _ _ ?k4c2 rfl rfl ?k4c3 ?k4c4 ?_))
            try (case k4c0 => simp)
            try (case k4c1 => exact ev4)
            try (case k4c2 => rfl)
            try (case k4c3 => simp; omega)
            try (case k4c4 => exact hz4)
            intro v' w' ev' gr' hblk _
            have R5 := R4.app ev' gr' hblk.out
            clear R4 ev4 ev' gr' hblk g24 hk0 hz4
            go_wp2_with fail
            go_roundw
            case rel => exact ⟨k + 1, M', K', L', a2, c2, E ++ [EV], by omega, by go_num, H4, hc2, R5⟩
            case measure => simp [intOf]; omega
      · refine wpOp_step rfl fun Kq hKq => ?_
        rw [if_pos (by rfl)]
        refine wp_alloc44l 7 rfl rfl ?_
        intro ge Ub hge oe bu
        have R11x := R0.next bu
        have NE := NB.new R0 hge oe
        refine hKq _ _ ⟨SS R11x, ?_⟩
        clear bu hge oe R0  hKq
        simp only [List.set_cons_zero, List.set_cons_succ]
        refine wpAnyH_all (rs := [5, 9]) (by kernel_rfl) (by simp) ?_
        intro i hi
        simp only [List.mem_cons, List.not_mem_nil, or_false] at hi
        rcases hi with rfl | rfl
        · refine wpOp_step rfl fun Kq hKq => ?_
          rw [if_pos (by rfl)]
          refine wp_call32l 16 20 21 rfl rfl _ _ rfl rfl _ (hcall _ R11x.sl) ?_
          rintro v2 Ubc ⟨a2, n2, c2, rfl, rfl, hc2, sl2, hnew, bu⟩
          have R12x := R11x.body bu sl2 hnew
          have NEc := NE.body bu hnew
          refine hKq _ _ ⟨SS R12x, ?_⟩
          clear bu hnew sl2 R11x  NE hKq
          simp only [List.set_cons_zero, List.set_cons_succ]
          refine take_l (i := 6) (d := 15) (v := .tuple #[.agg (mA M' K' (.slice a2 L'.length c2)), .agg (intA EV)]) rfl rfl (by kernel_rfl) (by kernel_rfl) (by kernel_rfl) (fun _ _ _ h => h) (Or.inl ⟨by rfl, by intro x hSx; go_simp; try rfl⟩) (SS R12x) ?_
          simp only [List.set_cons_zero, List.set_cons_succ]
          refine take_l (i := 7) (d := 22) (v := .agg (mA M' K' (.slice a2 L'.length c2))) rfl rfl (by kernel_rfl) (by kernel_rfl) (by kernel_rfl) (fun _ _ _ h => h) (Or.inl ⟨by rfl, by intro x hSx; go_simp; try rfl⟩) (SS R12x) ?_
          simp only [List.set_cons_zero, List.set_cons_succ]
          refine take_l (i := 8) (d := 23) (v := .agg (intA EV)) rfl rfl (by kernel_rfl) (by kernel_rfl) (by kernel_rfl) (fun _ _ _ h => h) (Or.inl ⟨by rfl, by intro x hSx; go_simp; try rfl⟩) (SS R12x) ?_
          simp only [List.set_cons_zero, List.set_cons_succ]
          refine wpAnyH_all (rs := [9]) (by kernel_rfl) (by simp) ?_
          intro i hi
          rw [List.mem_singleton] at hi
          subst hi
          refine wpOp_step rfl fun Kq hKq => ?_
          rw [if_pos (by rfl)]
          refine wp_alloc69l 6 rfl rfl ?_
          intro gm Ubca hgm om bu
          have R13x := R12x.next bu
          have NM := NB.new R12x hgm om
          have NEca := NEc.next bu
          refine hKq _ _ ⟨SS R13x, ?_⟩
          clear bu hgm om R12x NEc hKq
          simp only [List.set_cons_zero, List.set_cons_succ]
          have hne : gm ≠ ge := fun e => by
            have q := NM.obj
            rw [e, NEca.obj] at q
            cases q
          refine held_pair (i := 11) (j := 12) rfl rfl (by kernel_rfl) (by kernel_rfl) (by kernel_rfl) rfl rfl rfl rfl (.tmp 6) (.tmp 22) (.tmp 7) (.tmp 23) rfl rfl gm ge hne rfl rfl (mA M' K' (.slice a2 L'.length c2)) rfl rfl (mA_all _ _ _ _ _) _ rfl EV rfl hl21 _ rfl NM.obj _ rfl NEca.obj (fun u' t => SS (R13x.two t NM NEca)) ?_
          intro u3 g1 g2 t
          have R3 := R13x.two t NM NEca
          have lom := NM.lo
          have loe := NEca.lo
          have lte : ge < u3.heap.size := by rw [t.size]; exact NEca.lt
          clear t NM NEca hne SS
          go_wp2_with (first | (refine wp_rload _ rfl (.tmp 6) rfl gm (mA M' K' (.slice a2 L'.length c2)) rfl rfl 123 (0, 0) g1 ?_) | (refine wp_rset _ rfl (.tmp 4) (.tmp 24) rfl w.heap.size (mA M K (.slice a1 L.length c1)) (mA M' K' (.slice a2 L'.length c2)) rfl rfl rfl (mA_all _ _ _ _ _) 123 R3.mach rfl ?_))
          intro u4 g4 r4 z4
          have R4 := R3.mset g4 r4
          have g24 := (r4.block ge lte (by simp; omega)).trans g2
          have hk0 : u4.cell? ⟨ge, 0, none⟩ = some (.int .i64 (EV.getD 0 0)) := by
            rw [cell_of_row _ _ _ _ _ _ g24]
            simpa [intA] using intC_get EV 0 (by omega)
          clear R3 g1 g2 g4 r4 lte z4
          obtain ⟨kd, hkd⟩ : ∃ x, x = EV.getD 0 0 := ⟨_, rfl⟩
          rw [← hkd] at hk0
          have H3 := H2.out
          rw [← hkd] at H3
          clear hkd H2
          by_cases hz : kd = 0
          · have H4 : Hid (RM.zero.evs (D.take (k + 1)) = (⟨M', K', L'⟩, E)) := by
              show _ = _
              rw [H3, if_neg (fun h => h hz), List.append_nil]
            have bz : (kd != 0) = false := by simp [hz]
            clear H3 hz
            go_wp2_with fail
            go_roundw
            case rel => exact ⟨k + 1, M', K', L', a2, c2, E, by omega, by go_num, H4, hc2, R4⟩
            case measure => simp [intOf]; omega
          · have H4 : Hid (RM.zero.evs (D.take (k + 1)) = (⟨M', K', L'⟩, E ++ [EV])) := by
              show _ = _
              rw [H3, if_pos hz]
            have bz : (kd != 0) = true := by simp [hz]
            have hone : ∀ e ∈ [EV], e.length = 21 := by intro e he; simp at he; rw [he]; exact hl21
            have hz4 := R4.size
            have ev4 := R4.ev
            clear H3 hz
            go_wp2_with (first | (refine wp_eload _ rfl (.tmp 7) rfl ge EV rfl hl21 75 (0, 0) g24 ?_) | (refine wp_bs1 _ rfl (.tmp 29) rfl EV hl21 rfl ?_) | (at_builtin; refine wp_appE u4 rfl _ _ rfl (w.heap.size + 1) _ E [EV] _ ?k5c0 hone (by simp) rfl ?k5c1 _ _ ?k5c2 rfl rfl ?k5c3 ?k5c4 ?_))
            try (case k5c0 => simp)
            try (case k5c1 => exact ev4)
            try (case k5c2 => rfl)
            try (case k5c3 => simp; omega)
            try (case k5c4 => exact hz4)
            intro v' w' ev' gr' hblk _
            have R5 := R4.app ev' gr' hblk.out
            clear R4 ev4 ev' gr' hblk g24 hk0 hz4
            go_wp2_with fail
            go_roundw
            case rel => exact ⟨k + 1, M', K', L', a2, c2, E ++ [EV], by omega, by go_num, H4, hc2, R5⟩
            case measure => simp [intOf]; omega
        · refine wpOp_step rfl fun Kq hKq => ?_
          rw [if_pos (by rfl)]
          refine wp_alloc69l 6 rfl rfl ?_
          intro gm Uba hgm om bu
          have R14x := R11x.next bu
          have NM := NB.new R11x hgm om
          have NEa := NE.next bu
          refine hKq _ _ ⟨SS R14x, ?_⟩
          clear bu hgm om R11x NE hKq
          simp only [List.set_cons_zero, List.set_cons_succ]
          refine wpAnyH_all (rs := [5]) (by kernel_rfl) (by simp) ?_
          intro i hi
          rw [List.mem_singleton] at hi
          subst hi
          refine wpOp_step rfl fun Kq hKq => ?_
          rw [if_pos (by rfl)]
          refine wp_call32l 16 20 21 rfl rfl _ _ rfl rfl _ (hcall _ R14x.sl) ?_
          rintro v2 Ubac ⟨a2, n2, c2, rfl, rfl, hc2, sl2, hnew, bu⟩
          have R15x := R14x.body bu sl2 hnew
          have NMc := NM.body bu hnew
          have NEac := NEa.body bu hnew
          refine hKq _ _ ⟨SS R15x, ?_⟩
          clear bu hnew sl2 R14x NM NEa hKq
          simp only [List.set_cons_zero, List.set_cons_succ]
          refine take_l (i := 6) (d := 15) (v := .tuple #[.agg (mA M' K' (.slice a2 L'.length c2)), .agg (intA EV)]) rfl rfl (by kernel_rfl) (by kernel_rfl) (by kernel_rfl) (fun _ _ _ h => h) (Or.inl ⟨by rfl, by intro x hSx; go_simp; try rfl⟩) (SS R15x) ?_
          simp only [List.set_cons_zero, List.set_cons_succ]
          refine take_l (i := 7) (d := 22) (v := .agg (mA M' K' (.slice a2 L'.length c2))) rfl rfl (by kernel_rfl) (by kernel_rfl) (by kernel_rfl) (fun _ _ _ h => h) (Or.inl ⟨by rfl, by intro x hSx; go_simp; try rfl⟩) (SS R15x) ?_
          simp only [List.set_cons_zero, List.set_cons_succ]
          refine take_l (i := 8) (d := 23) (v := .agg (intA EV)) rfl rfl (by kernel_rfl) (by kernel_rfl) (by kernel_rfl) (fun _ _ _ h => h) (Or.inl ⟨by rfl, by intro x hSx; go_simp; try rfl⟩) (SS R15x) ?_
          simp only [List.set_cons_zero, List.set_cons_succ]
          have hne : gm ≠ ge := fun e => by
            have q := NMc.obj
            rw [e, NEac.obj] at q
            cases q
          refine held_pair (i := 11) (j := 12) rfl rfl (by kernel_rfl) (by kernel_rfl) (by kernel_rfl) rfl rfl rfl rfl (.tmp 6) (.tmp 22) (.tmp 7) (.tmp 23) rfl rfl gm ge hne rfl rfl (mA M' K' (.slice a2 L'.length c2)) rfl rfl (mA_all _ _ _ _ _) _ rfl EV rfl hl21 _ rfl NMc.obj _ rfl NEac.obj (fun u' t => SS (R15x.two t NMc NEac)) ?_
          intro u3 g1 g2 t
          have R3 := R15x.two t NMc NEac
          have lom := NMc.lo
          have loe := NEac.lo
          have lte : ge < u3.heap.size := by rw [t.size]; exact NEac.lt
          clear t NMc NEac hne SS
          go_wp2_with (first | (refine wp_rload _ rfl (.tmp 6) rfl gm (mA M' K' (.slice a2 L'.length c2)) rfl rfl 123 (0, 0) g1 ?_) | (refine wp_rset _ rfl (.tmp 4) (.tmp 24) rfl w.heap.size (mA M K (.slice a1 L.length c1)) (mA M' K' (.slice a2 L'.length c2)) rfl rfl rfl (mA_all _ _ _ _ _) 123 R3.mach rfl ?_))
          intro u4 g4 r4 z4
          have R4 := R3.mset g4 r4
          have g24 := (r4.block ge lte (by simp; omega)).trans g2
          have hk0 : u4.cell? ⟨ge, 0, none⟩ = some (.int .i64 (EV.getD 0 0)) := by
            rw [cell_of_row _ _ _ _ _ _ g24]
            simpa [intA] using intC_get EV 0 (by omega)
          clear R3 g1 g2 g4 r4 lte z4
          obtain ⟨kd, hkd⟩ : ∃ x, x = EV.getD 0 0 := ⟨_, rfl⟩
          rw [← hkd] at hk0
          have H3 := H2.out
          rw [← hkd] at H3
          clear hkd H2
          by_cases hz : kd = 0
          · have H4 : Hid (RM.zero.evs (D.take (k + 1)) = (⟨M', K', L'⟩, E)) := by
              show _ = _
              rw [H3, if_neg (fun h => h hz), List.append_nil]
            have bz : (kd != 0) = false := by simp [hz]
            clear H3 hz
            go_wp2_with fail
            go_roundw
            case rel => exact ⟨k + 1, M', K', L', a2, c2, E, by omega, by go_num, H4, hc2, R4⟩
            case measure => simp [intOf]; omega
          · have H4 : Hid (RM.zero.evs (D.take (k + 1)) = (⟨M', K', L'⟩, E ++ [EV])) := by
              show _ = _
              rw [H3, if_pos hz]
            have bz : (kd != 0) = true := by simp [hz]
            have hone : ∀ e ∈ [EV], e.length = 21 := by intro e he; simp at he; rw [he]; exact hl21
            have hz4 := R4.size
            have ev4 := R4.ev
            clear H3 hz
            go_wp2_with (first | (refine wp_eload _ rfl (.tmp 7) rfl ge EV rfl hl21 75 (0, 0) g24 ?_) | (refine wp_bs1 _ rfl (.tmp 29) rfl EV hl21 rfl ?_) | (at_builtin; refine wp_appE u4 rfl _ _ rfl (w.heap.size + 1) _ E [EV] _ ?k6c0 hone (by simp) rfl ?k6c1 _ _ ?k6c2 rfl rfl ?k6c3 ?k6c4 ?_))
            try (case k6c0 => simp)
            try (case k6c1 => exact ev4)
            try (case k6c2 => rfl)
            try (case k6c3 => simp; omega)
            try (case k6c4 => exact hz4)
            intro v' w' ev' gr' hblk _
            have R5 := R4.app ev' gr' hblk.out
            clear R4 ev4 ev' gr' hblk g24 hk0 hz4
            go_wp2_with fail
            go_roundw
            case rel => exact ⟨k + 1, M', K', L', a2, c2, E ++ [EV], by omega, by go_num, H4, hc2, R5⟩
            case measure => simp [intOf]; omega

    · have hkn : k = n := by omega
      have H3 : Hid (E = (RM.zero.evs D).2) := by
        have := H.out
        rw [List.take_of_length_le (by omega)] at this
        show E = _
        rw [this]
      have ik : ¬ (k : Int) < (n : Int) := by omega
      clear H
      go_wp2_with fail
      go_ret
      exact ⟨_, rfl, H3.out ▸ R.ev.mono (by omega), R.bel⟩

end Go.Proofs.YtheibfffilomcaaDoor
