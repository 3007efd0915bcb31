/- Ka Kq Ks together. -/
import Derived.Test.YtheibfffilomcaaGreatDoorPdM
import Derived.Test.YtheibfffilomcaaGreatDoorZiM
import Derived.Test.YtheibfffilomcaaGreatDoorZnM
import Derived.Test.YtheibfffilomcaaGreatDoorPjM

/- The walk of alike, told two-sided. -/
namespace Go.Proofs.YtheibfffilomcaaGreatDoor
open Go.RowKit

deriving instance DecidableEq for TS
def StE (s t : TS) : Prop := s.spot = t.spot ∧ s.top = t.top ∧ s.bottom = t.bottom ∧ s.wrap = t.wrap ∧ s.insert = t.insert ∧ s.shown = t.shown
instance (s t : TS) : Decidable (StE s t) := by unfold StE; exact inferInstance
theorem eqStateG (s t : TS) (w : World) : (Op.equalIn 10000 84 (.agg (stV s).toArray) (.agg (stV t).toArray)).run Tryz.prog w = .ok (decide (StE s t)) w := by
  have hu : Tryz.prog.underlying 84 = some (.struct (Tryz.prog.fieldsOf 84)) := by kernel_rfl
  have hp : Tryz.prog.stoodInHeld 84 = false := by kernel_rfl
  rw [run_equalIn_struct w 9999 84 _ _ hu hp]
  rw [eq_fields 9999 _ _ w _ [(82, 0, decide (s.spot = t.spot)), (3, 12, decide (s.top = t.top)), (3, 13, decide (s.bottom = t.bottom)), (4, 14, decide (s.wrap = t.wrap)), (4, 15, decide (s.insert = t.insert)), (3, 16, decide (s.shown = t.shown))] (of_decide_eq_true (by kernel_rfl)) (by kernel_rfl) ?_]
  · have e : ([(82, 0, decide (s.spot = t.spot)), (3, 12, decide (s.top = t.top)), (3, 13, decide (s.bottom = t.bottom)), (4, 14, decide (s.wrap = t.wrap)), (4, 15, decide (s.insert = t.insert)), (3, 16, decide (s.shown = t.shown))] : List (TypeId × Nat × Bool)).all (·.2.2) = decide (StE s t) := by
      simp only [List.all_cons, List.all_nil, Bool.and_true]
      rw [Bool.eq_iff_iff]
      simp only [Bool.and_eq_true, decide_eq_true_eq]
      exact Iff.rfl
    rw [e]
  · intro x hx
    simp only [List.mem_cons, List.not_mem_nil, or_false] at hx
    rcases hx with rfl | rfl | rfl | rfl | rfl | rfl
    · exact ⟨_, _, part54 _ 0 w, part54 _ 0 w, eqSpotG 9996 s.spot t.spot w⟩
    · exact ⟨_, _, partI _ 12 s.top rfl w, partI _ 12 t.top rfl w, eqI 9998 _ _ w⟩
    · exact ⟨_, _, partI _ 13 s.bottom rfl w, partI _ 13 t.bottom rfl w, eqI 9998 _ _ w⟩
    · exact ⟨_, _, partB _ 14 s.wrap rfl w, partB _ 14 t.wrap rfl w, eqB 9998 _ _ w⟩
    · exact ⟨_, _, partB _ 15 s.insert rfl w, partB _ 15 t.insert rfl w, eqB 9998 _ _ w⟩
    · exact ⟨_, _, partI _ 16 s.shown rfl w, partI _ 16 t.shown rfl w, eqI 9998 _ _ w⟩
theorem neqStateG (s t : TS) (c : Bool) (hc : decide (StE s t) = !c) (w : World) : (binOp .neq 84 (.agg (stV s).toArray) (.agg (stV t).toArray)).run Tryz.prog w = .ok (.bool c) w := by
  rw [run_neq_struct, eqStateG, hc]; cases c <;> rfl
theorem neqSpotG (p q : SpotS) (c : Bool) (hc : decide (p = q) = !c) (w : World) : (binOp .neq 82 (.agg (spotV p).toArray) (.agg (spotV q).toArray)).run Tryz.prog w = .ok (.bool c) w := by
  rw [run_neq_struct, eqSpotG 9997, hc]; cases c <;> rfl
theorem neqCellG (p q : CellS) (c : Bool) (hc : decide (p = q) = !c) (w : World) : (binOp .neq 101 (.agg (cellA p)) (.agg (cellA q))).run Tryz.prog w = .ok (.bool c) w := by
  rw [neqC, hc]; cases c <;> rfl
theorem wp_neqS2 {ops : Array Oper} {rest : List Oper} {o : Oper} {a : Act} {u : World} {Q : Exit → Act → World → Prop} (hgd : o.guard = none) (ty : TypeId) (x y : Operand) (ho : o.op = .binOp .neq ty x y ty) (arr arr2 : Array Value) (hx : a.eval x = .agg arr) (hy : a.eval y = .agg arr2) (c : Bool)
    (hg : ∀ w, (eqGuard .neq ty x y (.agg arr) (.agg arr2)).run Tryz.prog w = .ok () w) (hr : ∀ w, (binOp .neq ty (.agg arr) (.agg arr2)).run Tryz.prog w = .ok (.bool c) w) (h : wpList Tryz.prog ops Q rest (a.put o.dst (.bool c)) u) : wpList Tryz.prog ops Q (o :: rest) a u := by
  refine wpList_plain hgd fun K hK => ?_
  have R := hK _ _ h
  unfold Oper.wp execOp
  simp only [ho, hx, hy, Sem.run_bind, hg, hr, Result.andThen_ok, Sem.run_pure]
  exact R
theorem row_eq {l m : List CellS} {c : Nat} (hl : l.length = c) (hm : m.length = c) (h : ∀ k, k < c → l.getD k blankS = m.getD k blankS) : l = m := by
  apply List.ext_getElem (by omega)
  intro i h1 h2
  have := h i (by omega)
  rw [List.getD_eq_getElem?_getD, List.getD_eq_getElem?_getD, List.getElem?_eq_getElem h1, List.getElem?_eq_getElem h2] at this
  exact this
theorem sheet_eq {S T : Sheet} {r c : Nat} (hS : S.length = r) (hT : T.length = r) (gS : GoodS c S) (gT : GoodS c T) (h : ∀ i, i < r → ∀ k, k < c → (S.getD i []).getD k blankS = (T.getD i []).getD k blankS) : S = T := by
  apply List.ext_getElem (by omega)
  intro i h1 h2
  have h0 := h i (by omega)
  rw [List.getD_eq_getElem?_getD, List.getD_eq_getElem?_getD, List.getElem?_eq_getElem h1, List.getElem?_eq_getElem h2] at h0
  exact row_eq (gS _ (List.getElem_mem h1)).2 (gT _ (List.getElem_mem h2)).2 h0
theorem tabs_eq {l m : List Bool} {c : Nat} (hl : l.length = c) (hm : m.length = c) (h : ∀ k, k < c → l.getD k false = m.getD k false) : l = m := by
  apply List.ext_getElem (by omega)
  intro i h1 h2
  have := h i (by omega)
  rw [List.getD_eq_getElem?_getD, List.getD_eq_getElem?_getD, List.getElem?_eq_getElem h1, List.getElem?_eq_getElem h2] at this
  exact this
theorem ts_eq {s t : TS} {r c : Nat} (hI : s.Inv) (kI : t.Inv) (hF : s.Fit) (kF : t.Fit) (hr : s.rows = r) (hc : s.cols = c) (kr : t.rows = r) (kc : t.cols = c) (h1 : StE s t)
    (h2 : ∀ m, m < 2 → s.savedAt m = t.savedAt m ∧ ∀ i, i < r → ∀ k, k < c → s.cellAt m i k = t.cellAt m i k) (h3 : ∀ k, k < c → s.tabs.getD k false = t.tabs.getD k false) : s = t := by
  have e0 : s.s0 = t.s0 := sheet_eq (hI.l0.trans hr) (kI.l0.trans kr) (hc ▸ hF.g0) (kc ▸ kF.g0) (h2 0 (by omega)).2
  have e1 : s.s1 = t.s1 := sheet_eq (hI.l1.trans hr) (kI.l1.trans kr) (hc ▸ hF.g1) (kc ▸ kF.g1) (h2 1 (by omega)).2
  have v0 : s.v0 = t.v0 := (h2 0 (by omega)).1
  have v1 : s.v1 = t.v1 := (h2 1 (by omega)).1
  have e3 : s.tabs = t.tabs := tabs_eq (hI.lt.trans hc) (kI.lt.trans kc) h3
  obtain ⟨p1, p2, p3, p4, p5, p6⟩ := h1
  obtain ⟨a1, a2, a3, a4, a5, a6, a7, a8, a9, a10, a11, a12, a13, a14, a15, a16, a17, a18, a19, a20⟩ := s
  obtain ⟨b1, b2, b3, b4, b5, b6, b7, b8, b9, b10, b11, b12, b13, b14, b15, b16, b17, b18, b19, b20⟩ := t
  unfold TS.spot at p1
  simp only [SpotS.mk.injEq] at p1
  simp only at *
  obtain ⟨q1, q2, q3, q4, q5, q6, q7, q8⟩ := p1
  simp [*]

set_option maxRecDepth 100000 in
set_option maxHeartbeats 4000000 in
theorem alike_two (a b : Int) (fa fb : Nat) (La Lb : Lay) (x y : FS) (w : World) (ha : -9223372036854775808 ≤ a ∧ a ≤ 9223372036854775807) (hb : -9223372036854775808 ≤ b ∧ b ≤ 9223372036854775807) (hA : FAt w fa La x) (hB : FAt w fb Lb y) (hI : x.t.Inv) (kI : y.t.Inv) (hF : x.t.Fit) (kF : y.t.Fit) (hr : x.t.rows = szR a) (hc : x.t.cols = szC b) (kr : y.t.rows = szR a) (kc : y.t.cols = szC b) :
    Calls Tryz.prog 16 #[.agg #[.int .i64 a, .int .i64 b], .pointer (some ⟨fa, 0, none⟩), .pointer (some ⟨fb, 0, none⟩)] w fun e w' => e = .returned (.bool (decide (x.t = y.t))) ∧ Sm w w' := by
  have hrb := szR_bd a
  have hcb := szC_bd b
  obtain ⟨W, hW⟩ : ∃ W, W = w.alloc (.cells #[.int .i64 a, .int .i64 b] 36) := ⟨_, rfl⟩
  have SW : Sm w W := by rw [hW]; exact (Ch.refl _ _).alloc _
  have GW : W.heap[w.heap.size]? = some (.cells #[.int .i64 a, .int .i64 b] 36 (0, 0)) := by rw [hW]; exact heap_alloc_new _ _
  have KA : ∀ u, Sm W u → FAt u fa La x := fun u hu => hA.kept (SW.trans hu) id (fun _ _ => id)
  have KB : ∀ u, Sm W u → FAt u fb Lb y := fun u hu => hB.kept (SW.trans hu) id (fun _ _ => id)
  have hszW : W.heap.size = w.heap.size + 1 := by rw [hW]; simp
  have kA1 : ∀ u, Sm W u → _ := fun u hu => look_any fa La x u (KA u hu)
  have kB1 : ∀ u, Sm W u → _ := fun u hu => look_any fb Lb y u (KB u hu)
  have kA2 : ∀ n : Nat, n < 2 → ∀ u, Sm W u → _ := fun n hn u hu => saved_any fa La x n hn u (KA u hu)
  have kB2 : ∀ n : Nat, n < 2 → ∀ u, Sm W u → _ := fun n hn u hu => saved_any fb Lb y n hn u (KB u hu)
  have kA3 : ∀ n i k : Nat, n < 2 → i < szR a → k < szC b → ∀ u, Sm W u → _ := fun n i k hn hi hk u hu => cell_in fa La x n i k hn (by rw [hr]; exact hi) (by rw [hc]; exact hk) u (KA u hu) hI
  have kB3 : ∀ n i k : Nat, n < 2 → i < szR a → k < szC b → ∀ u, Sm W u → _ := fun n i k hn hi hk u hu => cell_in fb Lb y n i k hn (by rw [kr]; exact hi) (by rw [kc]; exact hk) u (KB u hu) kI
  have kA4 : ∀ k : Nat, k < szC b → ∀ u, Sm W u → _ := fun k hk u hu => tab_in fa La x k (by rw [hc]; exact hk) u (KA u hu) hI
  have kB4 : ∀ k : Nat, k < szC b → ∀ u, Sm W u → _ := fun k hk u hu => tab_in fb Lb y k (by rw [kc]; exact hk) u (KB u hu) kI
  have kR : ∀ u, _ := fun u => srows_any a b u ha
  have kC : ∀ u, _ := fun u => scols_any a b u hb
  have SZ : ∀ u, Sm W u → u.rangeAt w.heap.size 0 [.int .i64 a, .int .i64 b] := fun u hu j v hv => by
    rw [cell_of_row _ _ _ _ _ _ ((hu.block _ (by omega) id).trans GW), Nat.zero_add]; simpa using hv
  have HEND : Hid (StE x.t y.t → (∀ m, m < 2 → x.t.savedAt m = y.t.savedAt m ∧ ∀ i, i < szR a → ∀ k, k < szC b → x.t.cellAt m i k = y.t.cellAt m i k) → (∀ k, k < szC b → x.t.tabs.getD k false = y.t.tabs.getD k false) → x.t = y.t) := fun h1 h2 h3 => ts_eq hI kI hF kF hr hc kr kc h1 h2 h3
  clear hI kI hF kF hr hc kr kc
  generalize x.t = t at *
  generalize y.t = t2 at *
  have HW : Hid _ := hW
  clear hA hB hW KA KB
  go_enter Tryz.func16, Tryz.ntmps16
  go_wp2_with fail
  rw [← HW.out]
  have S0 : Sm W W := Ch.refl _ _
  refine (kA1 W S0).mono ?_
  rintro e x1 ⟨rfl, q1⟩
  go_wp2_with (refine wp_blkset _ rfl 84 (.tmp 7) (.tmp 26) rfl x1.heap.size [.int .i64 0, .int .i64 0, .bool false, .bool false, .bool false, .bool false, .int .i64 0, .int .i64 0, .int .i64 0, .int .i64 0, .int .i64 0, .bool false, .int .i64 0, .int .i64 0, .bool false, .bool false, .int .i64 0] (stV t) rfl _ rfl rfl 84 (heap_alloc_new _ _) rfl info56 (stV_one t) ?_)
  intro y1 g1 k1 z1
  have Sy1 : Sm W y1 := sm_new ((S0.trans q1).alloc _) k1 (by have := S0.size; have := q1.size; omega)
  have hs1 := blk_lt g1
  clear k1 z1 q1
  go_wp2_with fail
  refine (kB1 y1 Sy1).mono ?_
  rintro e x2 ⟨rfl, q2⟩
  go_wp2_with (refine wp_blkset _ rfl 84 (.tmp 8) (.tmp 28) rfl x2.heap.size [.int .i64 0, .int .i64 0, .bool false, .bool false, .bool false, .bool false, .int .i64 0, .int .i64 0, .int .i64 0, .int .i64 0, .int .i64 0, .bool false, .int .i64 0, .int .i64 0, .bool false, .bool false, .int .i64 0] (stV t2) rfl _ rfl rfl 84 (heap_alloc_new _ _) rfl info56 (stV_one t2) ?_)
  intro y2 g2 k2 z2
  have Sy2 : Sm W y2 := sm_new ((Sy1.trans q2).alloc _) k2 (by have := Sy1.size; have := q2.size; omega)
  have g1' : y2.heap[x1.heap.size]? = _ := ((k2.block _ (by have := q2.size; simp; omega) (by have := q2.size; omega)).trans ((Below.heap_alloc _ _ _ (by have := q2.size; omega)).trans (q2.block _ hs1 id))).trans g1
  clear k2 z2 q2 g1 hs1 Sy1
  by_cases hE : ¬ (StE t t2)
  · have HE : Hid (decide (StE t t2) = !true) := decide_eq_false hE
    have HN : Hid (decide (t = t2) = false) := decide_eq_false (fun e => hE (by rw [e]; exact ⟨rfl, rfl, rfl, rfl, rfl, rfl⟩))
    clear hE
    go_wp2_with (first | (refine wpList_load_row rfl 84 (.tmp 7) rfl x1.heap.size rfl 84 _ (0, 0) _ g1' Tryz.underlying84 rfl info56 ?_) | (refine wpList_load_row rfl 84 (.tmp 8) rfl x2.heap.size rfl 84 _ (0, 0) _ g2 Tryz.underlying84 rfl info56 ?_) | (refine wp_neqS2 rfl 84 _ _ rfl _ _ rfl rfl true (guardS 84 (by simp) _ _ _ _ _) (neqStateG t t2 true HE.out) ?_))
    go_ret
    exact ⟨by rw [HN.out]; rfl, SW.trans Sy2⟩
  replace hE := Decidable.not_not.1 hE
  have HST : Hid (StE t t2) := hE
  have HE : Hid (decide (StE t t2) = !false) := decide_eq_true hE
  clear hE
  go_wp2_with (first | (refine wpList_load_row rfl 84 (.tmp 7) rfl x1.heap.size rfl 84 _ (0, 0) _ g1' Tryz.underlying84 rfl info56 ?_) | (refine wpList_load_row rfl 84 (.tmp 8) rfl x2.heap.size rfl 84 _ (0, 0) _ g2 Tryz.underlying84 rfl info56 ?_) | (refine wp_neqS2 rfl 84 _ _ rfl _ _ rfl rfl false (guardS 84 (by simp) _ _ _ _ _) (neqStateG t t2 false HE.out) ?_))
  clear HE
  clear g1' g2
  go_loopw [9] (fun i wq => ∃ n : Nat, n ≤ 2 ∧ i = .int .i64 n ∧ Sm W wq ∧ Hid (∀ m, m < n → t.savedAt m = t2.savedAt m ∧ ∀ i, i < szR a → ∀ k, k < szC b → t.cellAt m i k = t2.cellAt m i k)) (fun i _ => 2 - (intOf i).toNat)
  case atStart => exact ⟨0, by omega, rfl, Sy2, fun m hm => by omega⟩
  case round =>
    clear Sy2
    obtain ⟨n, hn, rfl, S1, HP9⟩ := hrel
    by_cases hn2 : n < 2
    · have i2 : (n : Int) < 2 := by omega
      have vn : IntKind.i64.wrap ((n : Int) + 1) = (n : Int) + 1 := IntWalk.i64_in _ (by omega)
      go_wp2_with fail
      refine (kA2 n hn2 _ S1).mono ?_
      rintro e x1 ⟨rfl, q1⟩
      go_wp2_with (refine wp_blkset _ rfl 82 (.tmp 10) (.tmp 40) rfl x1.heap.size [.int .i64 0, .int .i64 0, .bool false, .bool false, .bool false, .bool false, .int .i64 0, .int .i64 0, .int .i64 0, .int .i64 0, .int .i64 0, .bool false] (spotV (t.savedAt n)) rfl _ rfl rfl 82 (heap_alloc_new _ _) rfl info54s (spotV_one _) ?_)
      intro y1 g1 k1 z1
      have Sy1 : Sm W y1 := sm_new ((S1.trans q1).alloc _) k1 (by have := S1.size; have := q1.size; omega)
      have hs1 := blk_lt g1
      clear k1 z1 q1
      go_wp2_with fail
      refine (kB2 n hn2 y1 Sy1).mono ?_
      rintro e x2 ⟨rfl, q2⟩
      go_wp2_with (refine wp_blkset _ rfl 82 (.tmp 12) (.tmp 46) rfl x2.heap.size [.int .i64 0, .int .i64 0, .bool false, .bool false, .bool false, .bool false, .int .i64 0, .int .i64 0, .int .i64 0, .int .i64 0, .int .i64 0, .bool false] (spotV (t2.savedAt n)) rfl _ rfl rfl 82 (heap_alloc_new _ _) rfl info54s (spotV_one _) ?_)
      intro y2 g2 k2 z2
      have Sy2 : Sm W y2 := sm_new ((Sy1.trans q2).alloc _) k2 (by have := Sy1.size; have := q2.size; omega)
      have g1' : y2.heap[x1.heap.size]? = _ := ((k2.block _ (by have := q2.size; simp; omega) (by have := q2.size; omega)).trans ((Below.heap_alloc _ _ _ (by have := q2.size; omega)).trans (q2.block _ hs1 id))).trans g1
      clear k2 z2 q2 g1 hs1 Sy1
      by_cases hE : ¬ (t.savedAt n = t2.savedAt n)
      · have HE : Hid (decide (t.savedAt n = t2.savedAt n) = !true) := decide_eq_false hE
        have HN : Hid (decide (t = t2) = false) := decide_eq_false (fun e => hE (by rw [e]))
        clear hE
        go_wp2_with (first | (refine wpList_load_row rfl 82 (.tmp 10) rfl x1.heap.size rfl 82 _ (0, 0) _ g1' Tryz.underlying82 rfl info54s ?_) | (refine wpList_load_row rfl 82 (.tmp 12) rfl x2.heap.size rfl 82 _ (0, 0) _ g2 Tryz.underlying82 rfl info54s ?_) | (refine wp_neqS2 rfl 82 _ _ rfl _ _ rfl rfl true (guardS 82 (by simp) _ _ _ _ _) (neqSpotG _ _ true HE.out) ?_))
        go_ret
        exact ⟨by rw [HN.out]; rfl, SW.trans Sy2⟩
      replace hE := Decidable.not_not.1 hE
      have HSV : Hid (t.savedAt n = t2.savedAt n) := hE
      have HE : Hid (decide (t.savedAt n = t2.savedAt n) = !false) := decide_eq_true hE
      clear hE
      go_wp2_with (first | (refine wpList_load_row rfl 82 (.tmp 10) rfl x1.heap.size rfl 82 _ (0, 0) _ g1' Tryz.underlying82 rfl info54s ?_) | (refine wpList_load_row rfl 82 (.tmp 12) rfl x2.heap.size rfl 82 _ (0, 0) _ g2 Tryz.underlying82 rfl info54s ?_) | (refine wp_neqS2 rfl 82 _ _ rfl _ _ rfl rfl false (guardS 82 (by simp) _ _ _ _ _) (neqSpotG _ _ false HE.out) ?_))
      clear HE
      clear g1' g2
      go_loopw [14] (fun i wq => ∃ r : Nat, r ≤ szR a ∧ i = .int .i64 r ∧ Sm W wq ∧ Hid (∀ i, i < r → ∀ k, k < szC b → t.cellAt n i k = t2.cellAt n i k)) (fun i _ => szR a - (intOf i).toNat)
      case atStart => exact ⟨0, Nat.zero_le _, rfl, Sy2, fun m hm => by omega⟩
      case round =>
        obtain ⟨r, hrr, rfl, S2, HP14⟩ := hrel
        by_cases hr2 : r < szR a
        · have ir : (r : Int) < (szR a : Int) := by omega
          have vr : IntKind.i64.wrap ((r : Int) + 1) = (r : Int) + 1 := IntWalk.i64_in _ (by omega)
          go_wp2_with (first | (refine wpList_load_mid rfl 36 (.tmp 3) rfl w.heap.size 0 rfl [.int .i64 a, .int .i64 b] _ (SZ _ S2) Tryz.underlying36 rfl info41 ?_) | (go_at_call 36; refine (kR _).mono ?_; rintro e z2 ⟨rfl, b9⟩))
          have S2b : Sm W z2 := S2.trans (Ch.of_below b9)
          clear b9
          go_loopw [15] (fun i wq => ∃ k : Nat, k ≤ szC b ∧ i = .int .i64 k ∧ Sm W wq ∧ Hid (∀ j, j < k → t.cellAt n r j = t2.cellAt n r j)) (fun i _ => szC b - (intOf i).toNat)
          case atStart => exact ⟨0, Nat.zero_le _, rfl, S2b, fun m hm => by omega⟩
          case round =>
            obtain ⟨k, hk, rfl, S3, HP15⟩ := hrel
            by_cases hk2 : k < szC b
            · have ik : (k : Int) < (szC b : Int) := by omega
              have vk : IntKind.i64.wrap ((k : Int) + 1) = (k : Int) + 1 := IntWalk.i64_in _ (by omega)
              go_wp2_with (first | (refine wpList_load_mid rfl 36 (.tmp 3) rfl w.heap.size 0 rfl [.int .i64 a, .int .i64 b] _ (SZ _ S3) Tryz.underlying36 rfl info41 ?_) | (go_at_call 37; refine (kC _).mono ?_; rintro e z3 ⟨rfl, b9⟩))
              have S3b : Sm W z3 := S3.trans (Ch.of_below b9)
              clear b9
              refine (kA3 n r k hn2 hr2 hk2 z3 S3b).mono ?_
              rintro e x1 ⟨rfl, q1⟩
              go_wp2_with (refine wp_blkset _ rfl 101 (.tmp 16) (.tmp 77) rfl x1.heap.size (cellV zeroC) (cellV (t.cellAt n r k)) rfl _ rfl rfl 101 (heap_alloc_new _ _) rfl info49 (cellV_one _) ?_)
              intro y1 g1 k1 z1
              have Sy1 : Sm W y1 := sm_new ((S3b.trans q1).alloc _) k1 (by have := S3b.size; have := q1.size; omega)
              have hs1 := blk_lt g1
              clear k1 z1 q1
              go_wp2_with fail
              refine (kB3 n r k hn2 hr2 hk2 y1 Sy1).mono ?_
              rintro e x2 ⟨rfl, q2⟩
              go_wp2_with (refine wp_blkset _ rfl 101 (.tmp 18) (.tmp 85) rfl x2.heap.size (cellV zeroC) (cellV (t2.cellAt n r k)) rfl _ rfl rfl 101 (heap_alloc_new _ _) rfl info49 (cellV_one _) ?_)
              intro y2 g2 k2 z2
              have Sy2 : Sm W y2 := sm_new ((Sy1.trans q2).alloc _) k2 (by have := Sy1.size; have := q2.size; omega)
              have g1' : y2.heap[x1.heap.size]? = _ := ((k2.block _ (by have := q2.size; simp; omega) (by have := q2.size; omega)).trans ((Below.heap_alloc _ _ _ (by have := q2.size; omega)).trans (q2.block _ hs1 id))).trans g1
              clear k2 z2 q2 g1 hs1 Sy1
              by_cases hE : ¬ (t.cellAt n r k = t2.cellAt n r k)
              · have HE : Hid (decide (t.cellAt n r k = t2.cellAt n r k) = !true) := decide_eq_false hE
                have HN : Hid (decide (t = t2) = false) := decide_eq_false (fun e => hE (by rw [e]))
                clear hE
                go_wp2_with (first | (refine wpList_load_row rfl 101 (.tmp 16) rfl x1.heap.size rfl 101 _ (0, 0) _ g1' Tryz.underlying101 rfl info49 ?_) | (refine wpList_load_row rfl 101 (.tmp 18) rfl x2.heap.size rfl 101 _ (0, 0) _ g2 Tryz.underlying101 rfl info49 ?_) | (refine wp_neqS2 rfl 101 _ _ rfl _ _ rfl rfl true (guardS 101 (by simp) _ _ _ _ _) (neqCellG _ _ true HE.out) ?_))
                go_ret
                exact ⟨by rw [HN.out]; rfl, SW.trans Sy2⟩
              replace hE := Decidable.not_not.1 hE
              have HCE : Hid (t.cellAt n r k = t2.cellAt n r k) := hE
              have HE : Hid (decide (t.cellAt n r k = t2.cellAt n r k) = !false) := decide_eq_true hE
              clear hE
              go_wp2_with (first | (refine wpList_load_row rfl 101 (.tmp 16) rfl x1.heap.size rfl 101 _ (0, 0) _ g1' Tryz.underlying101 rfl info49 ?_) | (refine wpList_load_row rfl 101 (.tmp 18) rfl x2.heap.size rfl 101 _ (0, 0) _ g2 Tryz.underlying101 rfl info49 ?_) | (refine wp_neqS2 rfl 101 _ _ rfl _ _ rfl rfl false (guardS 101 (by simp) _ _ _ _ _) (neqCellG _ _ false HE.out) ?_))
              clear HE
              clear g1' g2
              go_roundw
              case rel => exact ⟨k + 1, by omega, by go_num, Sy2, fun j hj => by rcases Nat.lt_or_ge j k with h | h; exact HP15.out j h; rw [show j = k by omega]; exact HCE.out⟩
              case measure => simp [intOf]; omega
            · have ik : ¬ (k : Int) < (szC b : Int) := by omega
              go_wp2_with (first | (refine wpList_load_mid rfl 36 (.tmp 3) rfl w.heap.size 0 rfl [.int .i64 a, .int .i64 b] _ (SZ _ S3) Tryz.underlying36 rfl info41 ?_) | (go_at_call 37; refine (kC _).mono ?_; rintro e z3 ⟨rfl, b9⟩))
              have S3b : Sm W z3 := S3.trans (Ch.of_below b9)
              go_roundw
              case rel => exact ⟨r + 1, by omega, by go_num, S3b, fun i hi j hj => by rcases Nat.lt_or_ge i r with h | h; exact HP14.out i h j hj; rw [show i = r by omega]; exact HP15.out j (by omega)⟩
              case measure => simp [intOf]; omega
        · have ir : ¬ (r : Int) < (szR a : Int) := by omega
          go_wp2_with (first | (refine wpList_load_mid rfl 36 (.tmp 3) rfl w.heap.size 0 rfl [.int .i64 a, .int .i64 b] _ (SZ _ S2) Tryz.underlying36 rfl info41 ?_) | (go_at_call 36; refine (kR _).mono ?_; rintro e z2 ⟨rfl, b9⟩))
          have S2b : Sm W z2 := S2.trans (Ch.of_below b9)
          go_roundw
          case rel => exact ⟨n + 1, by omega, by go_num, S2b, fun m hm => by rcases Nat.lt_or_ge m n with h | h; exact HP9.out m h; rw [show m = n by omega]; exact ⟨HSV.out, fun i hi => HP14.out i (by omega)⟩⟩
          case measure => simp [intOf]; omega
    · have i2 : ¬ (n : Int) < 2 := by omega
      go_wp2_with fail
      go_loopw [20] (fun i wq => ∃ k : Nat, k ≤ szC b ∧ i = .int .i64 k ∧ Sm W wq ∧ Hid (∀ j, j < k → t.tabs.getD j false = t2.tabs.getD j false)) (fun i _ => szC b - (intOf i).toNat)
      case atStart => exact ⟨0, Nat.zero_le _, rfl, S1, fun m hm => by omega⟩
      case round =>
        obtain ⟨k, hk, rfl, S4, HP20⟩ := hrel
        by_cases hk2 : k < szC b
        · have ik : (k : Int) < (szC b : Int) := by omega
          have vk : IntKind.i64.wrap ((k : Int) + 1) = (k : Int) + 1 := IntWalk.i64_in _ (by omega)
          go_wp2_with (first | (refine wpList_load_mid rfl 36 (.tmp 3) rfl w.heap.size 0 rfl [.int .i64 a, .int .i64 b] _ (SZ _ S4) Tryz.underlying36 rfl info41 ?_) | (go_at_call 37; refine (kC _).mono ?_; rintro e z4 ⟨rfl, b9⟩))
          have S4b : Sm W z4 := S4.trans (Ch.of_below b9)
          have l4 := kA4 k hk2
          have l5 := kB4 k hk2
          by_cases hE : ¬ (t.tabs.getD k false = t2.tabs.getD k false)
          · have HN : Hid (decide (t = t2) = false) := decide_eq_false (fun e => hE (by rw [e]))
            obtain ⟨p, hp⟩ : ∃ p, p = t.tabs.getD k false := ⟨_, rfl⟩
            obtain ⟨q, hq⟩ : ∃ q, q = t2.tabs.getD k false := ⟨_, rfl⟩
            rw [← hp] at l4 hE
            rw [← hq] at l5 hE
            have hpq : q = !p := by cases p <;> cases q <;> first | rfl | exact absurd rfl hE
            subst hpq
            clear hE hp hq
            refine (l4 z4 S4b).mono ?_
            rintro e x1 ⟨rfl, hx1⟩
            subst hx1
            go_wp2_with fail
            refine (l5 _ S4b).mono ?_
            rintro e x2 ⟨rfl, hx2⟩
            subst hx2
            cases p <;> (go_wp2_with fail; go_ret; exact ⟨by rw [HN.out]; rfl, SW.trans S4b⟩)
          replace hE := Decidable.not_not.1 hE
          have HTE : Hid (t.tabs.getD k false = t2.tabs.getD k false) := hE
          rw [← hE] at l5
          clear hE
          generalize t.tabs.getD k false = tb at l4 l5
          refine (l4 z4 S4b).mono ?_
          rintro e x1 ⟨rfl, hx1⟩
          subst hx1
          go_wp2_with fail
          refine (l5 _ S4b).mono ?_
          rintro e x2 ⟨rfl, hx2⟩
          subst hx2
          go_wp2_with fail
          go_roundw
          case rel => exact ⟨k + 1, by omega, by go_num, S4b, fun j hj => by rcases Nat.lt_or_ge j k with h | h; exact HP20.out j h; rw [show j = k by omega]; exact HTE.out⟩
          case measure => simp [intOf]; omega
        · have ik : ¬ (k : Int) < (szC b : Int) := by omega
          go_wp2_with (first | (refine wpList_load_mid rfl 36 (.tmp 3) rfl w.heap.size 0 rfl [.int .i64 a, .int .i64 b] _ (SZ _ S4) Tryz.underlying36 rfl info41 ?_) | (go_at_call 37; refine (kC _).mono ?_; rintro e z4 ⟨rfl, b9⟩))
          have S4b : Sm W z4 := S4.trans (Ch.of_below b9)
          go_ret
          have hfin : t = t2 := HEND.out HST.out (fun m hm => HP9.out m (by omega)) (fun j hj => HP20.out j (by omega))
          exact ⟨by rw [decide_eq_true hfin]; rfl, SW.trans S4b⟩
end Go.Proofs.YtheibfffilomcaaGreatDoor

/- A terminal to which one text was fed. -/
namespace Go.Proofs.YtheibfffilomcaaGreatDoor
open Go.RowKit

theorem fed_one (a b : Int) (t : ByteArray) (W : World) (ha : -9223372036854775808 ≤ a ∧ a ≤ 9223372036854775807) (hb : -9223372036854775808 ≤ b ∧ b ≤ 9223372036854775807) (htb : Tabs W) (hts : t.size ≤ 281474976710656) :
    Calls Tryz.prog 13 #[.agg #[.int .i64 a, .int .i64 b], .slice (some ⟨W.heap.size, 0, none⟩) 1 1] (W.alloc (.cells #[.string t] 9)) fun e w' => ∃ fb L, e = .returned (.tuple #[.pointer (some ⟨fb, 0, none⟩), .bool true]) ∧ FAt w' fb L ((FS.fresh (szR a) (szC b)).feed (bl t)) ∧ Below W.heap.size W w' := by
  have hT2 : SlTx (W.alloc (.cells #[.string t] 9)) (some ⟨W.heap.size, 0, none⟩) [t] := fun j x hj => ⟨W.heap.size, 0, rfl, by simp, by
    have := cells_new W [.string t] 9 j (.string x) (by
      match j, hj with
      | 0, hj => simp at hj; subst hj; rfl)
    have hadd : (⟨W.heap.size, 0, none⟩ : Addr).add j = ⟨W.heap.size, 0 + j, none⟩ := by unfold Addr.add; split <;> simp_all
    rw [hadd] at this; exact this⟩
  have hWa : Below W.heap.size W (W.alloc (.cells #[.string t] 9)) := (Below.refl _ _).alloc (Nat.le_refl _) _
  have l1 : Calls Tryz.prog 13 #[.agg #[.int .i64 a, .int .i64 b], .slice (some ⟨W.heap.size, 0, none⟩) 1 1] (W.alloc (.cells #[.string t] 9)) _ := fed_any a b (some ⟨W.heap.size, 0, none⟩) 1 [t] _ ha hb (htb.ch ((Ch.refl (fun _ => False) W).alloc _) (fun _ _ h => h)) hT2 (by simp) (by intro x hx; simp at hx; subst hx; exact hts)
  refine l1.mono ?_
  rintro e w1 ⟨fa, La, rfl, A1, bA⟩
  have e1 : allB [t] = bl t := by simp [allB]
  have f := A1.f
  rw [e1] at f
  exact ⟨fa, La, rfl, f, hWa.trans (bA.mono hWa.size)⟩
end Go.Proofs.YtheibfffilomcaaGreatDoor

/- The walk of Same. -/
namespace Go.Proofs.YtheibfffilomcaaGreatDoor
open Go.RowKit

theorem wp_bsP {o : Oper} {l : List Value} {ds : List Deferred} {u : World} {K : Act → World → Prop} {Q : Exit → Act → World → Prop} (d : Nat) (x0 x1 : Operand) (ho : o.op = .buildSlice 39 2 #[(0, x0), (1, x1)]) (hd : o.dst = some d) (y0 y1 : ByteArray)
    (h0 : Act.eval ⟨l.toArray, ds⟩ x0 = .string y0) (h1 : Act.eval ⟨l.toArray, ds⟩ x1 = .string y1)
    (h : K ⟨(l.set d (.slice (some ⟨u.heap.size, 0, none⟩) 2 2)).toArray, ds⟩ (u.alloc (.cells #[.string y0, .string y1] 9))) : Oper.wp Tryz.prog o ⟨l.toArray, ds⟩ u K Q := by
  have hb : (Instr.buildSlice 39 2 #[(0, .string y0), (1, .string y1)]).run Tryz.prog u = .ok (.slice (some ⟨u.heap.size, 0, none⟩) 2 2) (u.alloc (.cells #[.string y0, .string y1] 9)) := by kernel_rfl
  unfold Oper.wp execOp
  simp only [ho, h0, h1, List.map_toArray, List.map_cons, List.map_nil, Sem.run_bind, hb, Result.andThen_ok, Sem.run_pure]
  simpa [hd, Act.put, Oper.upon] using h
theorem slP (u : World) (y0 y1 : ByteArray) : SlTx (u.alloc (.cells #[.string y0, .string y1] 9)) (some ⟨u.heap.size, 0, none⟩) [y0, y1] := fun j t hj => ⟨u.heap.size, 0, rfl, by simp, by
  rw [cell_of_row _ _ _ _ _ _ (heap_alloc_new u _), Nat.zero_add]
  match j, hj with
  | 0, hj => simp at hj; subst hj; rfl
  | 1, hj => simp at hj; subst hj; rfl⟩
theorem loop_eq (t : ByteArray) (i : Nat) (r : List UInt8) : i ≤ t.size → ByteArray.toList.loop t i r = r.reverse ++ t.data.toList.drop i := by
  fun_induction ByteArray.toList.loop t i r with
  | case1 i r h ih =>
    intro _
    rw [ih (by omega)]
    have hl : i < t.data.toList.length := by rw [Array.length_toList]; exact h
    have hg : t.get! i = t.data.toList[i] := by
      show t.data[i]! = _
      rw [Array.getElem_toList]
      exact getElem!_pos t.data i (by exact h)
    rw [List.drop_eq_getElem_cons hl, List.reverse_cons, List.append_assoc, hg]
    rfl
  | case2 i r h =>
    intro hi
    have : t.data.toList.length ≤ i := by rw [Array.length_toList]; exact Nat.le_of_not_lt h
    rw [List.drop_eq_nil_of_le this, List.append_nil]
theorem toList_data (t : ByteArray) : t.toList = t.data.toList := by
  unfold ByteArray.toList
  rw [loop_eq t 0 [] (Nat.zero_le _)]
  simp
theorem toList_neq {s t : ByteArray} (h : ¬ s = t) : (s.toList == t.toList) = false := by
  rw [beq_eq_false_iff_ne, toList_data, toList_data]
  intro e
  exact h (ByteArray.ext (Array.toList_inj.1 e))
structure Gd (r c : Nat) (x : FS) : Prop where
  i : x.t.Inv
  f : x.t.Fit
  r : x.t.rows = r
  c : x.t.cols = c
theorem Gd.of (a b : Int) (l : List Int) (hl : ∀ z ∈ l, 0 ≤ z ∧ z < 256) : Gd (szR a) (szC b) ((FS.fresh (szR a) (szC b)).feed l) :=
  ⟨((FS.Ok.fresh (szR_bd a) (szC_bd b)).feed _ hl).t, fresh_fit (szR a) (szC b) (szR_bd a) (szC_bd b) _ hl, fresh_rows _ _ _, fresh_cols _ _ _⟩
theorem dumpN_inj {s t : TS} (hI : s.Inv) (hF : s.Fit) (kI : t.Inv) (kF : t.Fit) (hr : s.rows = t.rows) (hc : s.cols = t.cols) (h : dumpN s = dumpN t) : s = t := by
  have a := replay hI hF
  have b := replay kI kF
  rw [hr, hc, h, b] at a
  exact (FS.mk.inj a).2.2.symm
set_option maxRecDepth 100000 in
set_option maxHeartbeats 2000000 in
theorem same_walk (a b : Int) (text ty tz : ByteArray) (w : World) (ha : -9223372036854775808 ≤ a ∧ a ≤ 9223372036854775807) (hb : -9223372036854775808 ≤ b ∧ b ≤ 9223372036854775807) (htb : Tabs w) (hts : text.size ≤ 140737488355328) (hty : ty.size ≤ 140737488355328) (htz : tz.size ≤ 140737488355328) :
    Calls Tryz.prog 6 #[.agg #[.int .i64 a, .int .i64 b], .string text, .string ty, .string tz] w fun e w' => e = .returned (.bool true) ∧ Below w.heap.size w w' := by
  go_enter Tryz.func6, Tryz.ntmps6
  go_wp2_with fail
  have HG : (w.alloc (Obj.cells #[.int .i64 a, .int .i64 b] 36)).heap[w.heap.size]? = some (.cells #[.int .i64 a, .int .i64 b] 36 (0, 0)) := heap_alloc_new _ _
  have BW : Below w.heap.size w (w.alloc (Obj.cells #[.int .i64 a, .int .i64 b] 36)) := (Below.refl _ _).alloc (Nat.le_refl _) _
  have htW := htb.ch ((Ch.refl (fun _ => False) w).alloc (.cells #[.int .i64 a, .int .i64 b] 36)) (fun _ _ h => h)
  obtain ⟨W, hWW⟩ : ∃ W, W = w.alloc (Obj.cells #[.int .i64 a, .int .i64 b] 36) := ⟨_, rfl⟩
  have hWs : W.heap.size = w.heap.size + 1 := by rw [hWW]; simp
  obtain ⟨lb, hlb⟩ : ∃ lb, lb = w.heap.size := ⟨_, rfl⟩
  rw [← hWs, ← hWW, ← hlb]
  rw [← hWW, ← hlb] at HG
  rw [← hWW] at BW htW
  have HTW : Hid (Tabs W) := htW
  have HBW : Hid (Below w.heap.size w W) := BW
  have HGW : Hid (W.heap[lb]? = some (.cells #[.int .i64 a, .int .i64 b] 36 (0, 0))) := HG
  have HWS : Hid (W.heap.size = w.heap.size + 1) := hWs
  clear htb BW htW HG hWs hlb hWW
  have l1 := fed_one a b text W ha hb HTW.out (by omega)
  refine l1.mono ?_
  rintro e w1 ⟨fa, La, rfl, F1, b1⟩
  have HF1 : Hid (FAt w1 fa La ((FS.fresh (szR a) (szC b)).feed (bl text))) := F1
  have HB1 : Hid (Below W.heap.size W w1) := b1
  have G1 := (HB1.out.block lb (blk_lt HGW.out)).trans HGW.out
  have c10 : w1.cell? ⟨lb, 0, none⟩ = some (.int .i64 a) := (cell_of_row _ _ _ _ _ _ G1).trans rfl
  have c11 : w1.cell? ⟨lb, 1, none⟩ = some (.int .i64 b) := (cell_of_row _ _ _ _ _ _ G1).trans rfl
  have l2 := fed_one a b ty w1 ha hb (HTW.out.ch (P := fun _ => False) ⟨HB1.out.os, HB1.out.tape, HB1.out.output, HB1.out.size, fun k hk _ => HB1.out.block k hk⟩ (fun _ _ h => h)) (by omega)
  clear F1 b1 l1 G1
  go_wp2_with fail
  refine l2.mono ?_
  rintro e w2 ⟨fb, Lb, rfl, F2, b2⟩
  have HF2b : Hid (FAt w2 fb Lb ((FS.fresh (szR a) (szC b)).feed (bl ty))) := F2
  have HF2 : Hid (FAt w2 fa La _) := HF1.out.kept (P := fun _ => False) ⟨b2.os, b2.tape, b2.output, b2.size, fun k hk _ => b2.block k hk⟩ id (fun _ _ => id)
  have HB2 : Hid (Below W.heap.size W w2) := HB1.out.trans (b2.mono HB1.out.size)
  have G2 := (HB2.out.block lb (blk_lt HGW.out)).trans HGW.out
  have c20 : w2.cell? ⟨lb, 0, none⟩ = some (.int .i64 a) := (cell_of_row _ _ _ _ _ _ G2).trans rfl
  have c21 : w2.cell? ⟨lb, 1, none⟩ = some (.int .i64 b) := (cell_of_row _ _ _ _ _ _ G2).trans rfl
  clear F2 b2 l2 HF1 HB1 c10 c11
  go_wp2_with fail
  have x0 : Below w2.heap.size w2 ({ w2 with drawn := w2.drawn + 1 } : World) := ⟨rfl, rfl, rfl, Nat.le_refl _, fun _ _ => rfl⟩
  have hlw : lb < w2.heap.size := blk_lt G2
  have HG2 : Hid _ := G2
  have SS : ∀ u : World, u.heap[lb]? = some (.cells #[.int .i64 a, .int .i64 b] 36 (0, 0)) → u.rangeAt lb 0 [.int .i64 a, .int .i64 b] := fun u hu j v hv => by
    rw [cell_of_row _ _ _ _ _ _ hu, Nat.zero_add]; simpa using hv
  have XS : ∀ u : World, Below w2.heap.size w2 u → u.rangeAt lb 0 [.int .i64 a, .int .i64 b] := fun u x => SS u ((x.block lb hlw).trans HG2.out)
  have XW : ∀ u : World, Below w2.heap.size w2 u → Below W.heap.size W u := fun u x => HB2.out.trans (x.mono HB2.out.size)
  have XT : ∀ u : World, Below w2.heap.size w2 u → Tabs u := fun u x => HTW.out.ch (P := fun _ => False) ⟨(XW u x).os, (XW u x).tape, (XW u x).output, (XW u x).size, fun k hk _ => (XW u x).block k hk⟩ (fun _ _ h => h)
  have HH := XS _ x0
  clear G2 c20 c21
  refine wp_region_held (S := fun x => x.rangeAt lb 0 [.int .i64 a, .int .i64 b]) mixedC ?_
  refine takeL (i := 0) (d := 33) (v := .agg #[.int .i64 a, .int .i64 b]) rfl rfl (by kernel_rfl) (by kernel_rfl) (by kernel_rfl) (fun _ _ _ h => h) (yieldsIf_load_mid (by rfl) 36 (.tmp 4) rfl lb 0 rfl [.int .i64 a, .int .i64 b] _ (fun x h => h) Tryz.underlying36 rfl info41) HH ?_
  simp only [List.set_cons_zero, List.set_cons_succ]
  refine takeL (i := 1) (d := 34) (v := .string text) rfl rfl (by kernel_rfl) (by kernel_rfl) (by kernel_rfl) (fun _ _ _ h => h) (Or.inl ⟨by rfl, by intro x hSx; go_simp; try (first | rfl | go_num)⟩) HH ?_
  simp only [List.set_cons_zero, List.set_cons_succ]
  refine takeL (i := 2) (d := 35) (v := .string tz) rfl rfl (by kernel_rfl) (by kernel_rfl) (by kernel_rfl) (fun _ _ _ h => h) (Or.inl ⟨by rfl, by intro x hSx; go_simp; try (first | rfl | go_num)⟩) HH ?_
  simp only [List.set_cons_zero, List.set_cons_succ]
  refine wpAnyH_all (rs := [3]) (by kernel_rfl) (by simp) ?_
  intro i hi'
  rw [List.mem_singleton] at hi'
  subst hi'
  refine wpOp_step rfl fun Kq hKq => ?_
  rw [if_pos (by rfl)]
  refine wp_callL (f := 17) 36 [.tmp 35] #[9] rfl rfl [.string tz] rfl (by kernel_rfl) (fun v w' => ∃ U : ByteArray, v = .string U ∧ U.size ≤ tz.size ∧ w' = ({ w2 with drawn := w2.drawn + 1 } : World)) ((numbers_any tz _ (by omega)).mono fun e w' h => by obtain ⟨U, h1, _, h3, h4⟩ := h; exact ⟨_, h1, U, rfl, h3, h4⟩) ?_
  rintro v2 u2 ⟨U, rfl, hU, rfl⟩
  refine hKq _ _ ⟨HH, ?_⟩
  clear hKq
  simp only [List.set_cons_zero, List.set_cons_succ]
  obtain ⟨S2, hS2⟩ : ∃ S2 : ByteArray, S2 = ({ data := #[27, 91] } : ByteArray) ++ U := ⟨_, rfl⟩
  have hS2z : S2.size ≤ 140737488355338 := by
    rw [← bl_length, hS2, bl_append, List.length_append, bl_length, bl_length]
    have : (({ data := #[27, 91] } : ByteArray)).size = 2 := rfl
    omega
  refine takeL (i := 4) (d := 37) (v := .string S2) rfl rfl (by kernel_rfl) (by kernel_rfl) (by kernel_rfl) (fun _ _ _ h => h) (Or.inl ⟨by rfl, by intro x hSx; rw [hS2]; go_simp; try (first | rfl | go_num)⟩) HH ?_
  simp only [List.set_cons_zero, List.set_cons_succ]
  refine wpAnyH_all (rs := [5]) (by kernel_rfl) (by simp) ?_
  intro i hi'
  rw [List.mem_singleton] at hi'
  subst hi'
  refine wpOp_step rfl fun Kq hKq => ?_
  rw [if_pos (by rfl)]
  refine wp_bsP 38 (.tmp 34) (.tmp 37) rfl rfl text S2 rfl rfl ?_
  have x1 := x0.alloc x0.size (.cells #[.string text, .string S2] 9)
  refine hKq _ _ ⟨XS _ x1, ?_⟩
  clear hKq
  simp only [List.set_cons_zero, List.set_cons_succ]
  refine wpAnyH_all (rs := [6]) (by kernel_rfl) (by simp) ?_
  intro i hi'
  rw [List.mem_singleton] at hi'
  subst hi'
  refine wpOp_step rfl fun Kq hKq => ?_
  rw [if_pos (by rfl)]
  have lf := fed_any a b _ 2 [text, S2] _ ha hb (XT _ x1) (slP _ text S2) (by simp) (by
    intro t ht
    simp only [List.mem_cons, List.not_mem_nil, or_false] at ht
    rcases ht with rfl | rfl
    · omega
    · omega)
  refine wp_callL (f := 13) 39 [.tmp 33, .tmp 38] #[36, 39] rfl rfl [.agg #[.int .i64 a, .int .i64 b], .slice (some ⟨w2.heap.size, 0, none⟩) 2 2] rfl (by kernel_rfl) (fun v w' => ∃ fb L, v = .tuple #[.pointer (some ⟨fb, 0, none⟩), .bool true] ∧ FAt w' fb L ((FS.fresh (szR a) (szC b)).feed (allB [text, S2])) ∧ Below w2.heap.size w2 w') (lf.mono fun e w' h => by
    obtain ⟨fb, L, h1, h2, h3⟩ := h
    exact ⟨_, h1, fb, L, rfl, h2.f, x1.trans (h3.mono x1.size)⟩) ?_
  rintro v4 u4 ⟨fc, Lc, rfl, A4, x4⟩
  refine hKq _ _ ⟨XS _ x4, ?_⟩
  clear hKq
  simp only [List.set_cons_zero, List.set_cons_succ]
  have hS4 := XS _ x4
  refine takeL (i := 7) (d := 32) (v := .tuple #[.pointer (some ⟨fc, 0, none⟩), .bool true]) rfl rfl (by kernel_rfl) (by kernel_rfl) (by kernel_rfl) (fun _ _ _ h => h) (Or.inl ⟨by rfl, by intro x hSx; go_simp; try (first | rfl | go_num)⟩) hS4 ?_
  simp only [List.set_cons_zero, List.set_cons_succ]
  refine takeL (i := 8) (d := 40) (v := .pointer (some ⟨fc, 0, none⟩)) rfl rfl (by kernel_rfl) (by kernel_rfl) (by kernel_rfl) (fun _ _ _ h => h) (Or.inl ⟨by rfl, by intro x hSx; go_simp; try (first | rfl | go_num)⟩) hS4 ?_
  simp only [List.set_cons_zero, List.set_cons_succ]
  refine takeL (i := 9) (d := 41) (v := .bool true) rfl rfl (by kernel_rfl) (by kernel_rfl) (by kernel_rfl) (fun _ _ _ h => h) (Or.inl ⟨by rfl, by intro x hSx; go_simp; try (first | rfl | go_num)⟩) hS4 ?_
  simp only [List.set_cons_zero, List.set_cons_succ]
  refine takeL (i := 10) (d := 13) (v := .pointer (some ⟨fc, 0, none⟩)) rfl rfl (by kernel_rfl) (by kernel_rfl) (by kernel_rfl) (fun _ _ _ h => h) (Or.inl ⟨by rfl, by intro x hSx; go_simp; try (first | rfl | go_num)⟩) hS4 ?_
  simp only [List.set_cons_zero, List.set_cons_succ]
  refine takeL (i := 11) (d := 14) (v := .bool true) rfl rfl (by kernel_rfl) (by kernel_rfl) (by kernel_rfl) (fun _ _ _ h => h) (Or.inl ⟨by rfl, by intro x hSx; go_simp; try (first | rfl | go_num)⟩) hS4 ?_
  simp only [List.set_cons_zero, List.set_cons_succ]
  refine wpAnyH_done (by kernel_rfl) ?_ _
  have HA4 : Hid (FAt u4 fa La ((FS.fresh (szR a) (szC b)).feed (bl text))) := HF2.out.kept (P := fun _ => False) ⟨x4.os, x4.tape, x4.output, x4.size, fun k hk _ => x4.block k hk⟩ id (fun _ _ => id)
  have HB4 : Hid (FAt u4 fb Lb ((FS.fresh (szR a) (szC b)).feed (bl ty))) := HF2b.out.kept (P := fun _ => False) ⟨x4.os, x4.tape, x4.output, x4.size, fun k hk _ => x4.block k hk⟩ id (fun _ _ => id)
  have HC4 : Hid (FAt u4 fc Lc ((FS.fresh (szR a) (szC b)).feed (allB [text, S2]))) := A4
  have HW4 : Hid (Below W.heap.size W u4) := XW _ x4
  clear A4 x4 hS4 lf x1 x0 XS XW XT SS HH HF2 HF2b HB2 HG2
  go_wp2_with fail
  have hbZ : ∀ z ∈ allB [text, S2], 0 ≤ z ∧ z < 256 := by
    have e1 : allB [text, S2] = bl text ++ bl S2 := by simp [allB]
    rw [e1]; intro z hz
    exact (List.mem_append.1 hz).elim (bl_byte _ z) (bl_byte _ z)
  have GX : Hid (Gd (szR a) (szC b) _) := Gd.of a b (bl text) (bl_byte _)
  have GY : Hid (Gd (szR a) (szC b) _) := Gd.of a b (bl ty) (bl_byte _)
  have GZ : Hid (Gd (szR a) (szC b) _) := Gd.of a b (allB [text, S2]) hbZ
  clear hbZ
  obtain ⟨X, hX⟩ : ∃ X, X = (FS.fresh (szR a) (szC b)).feed (bl text) := ⟨_, rfl⟩
  obtain ⟨Y, hY⟩ : ∃ Y, Y = (FS.fresh (szR a) (szC b)).feed (bl ty) := ⟨_, rfl⟩
  obtain ⟨Z, hZ⟩ : ∃ Z, Z = (FS.fresh (szR a) (szC b)).feed (allB [text, S2]) := ⟨_, rfl⟩
  rw [← hX] at GX HA4
  rw [← hY] at GY HB4
  rw [← hZ] at GZ HC4
  clear hX hY hZ
  refine (dump_any fa La X GX.out.i GX.out.f u4 HA4.out).mono ?_
  rintro e u5 ⟨⟨D, rfl, hD⟩, b5⟩
  have HDD : Hid (bl D = dumpN X.t) := hD
  have K5 : Ch (fun _ => False) u4 u5 := ⟨b5.os, b5.tape, b5.output, b5.size, fun k hk _ => b5.block k hk⟩
  have HA5 : Hid (FAt u5 fa La X) := HA4.out.kept K5 id (fun _ _ => id)
  have HB5 : Hid (FAt u5 fb Lb Y) := HB4.out.kept K5 id (fun _ _ => id)
  have HC5 : Hid (FAt u5 fc Lc Z) := HC4.out.kept K5 id (fun _ _ => id)
  have HW5 : Hid (Below W.heap.size W u5) := HW4.out.trans (b5.mono HW4.out.size)
  clear hD b5 K5 HA4 HB4 HC4 HW4
  go_wp2_with fail
  refine (dump_any fb Lb Y GY.out.i GY.out.f u5 HB5.out).mono ?_
  rintro e u6 ⟨⟨E, rfl, hE⟩, b6⟩
  have HEE : Hid (bl E = dumpN Y.t) := hE
  have K6 : Ch (fun _ => False) u5 u6 := ⟨b6.os, b6.tape, b6.output, b6.size, fun k hk _ => b6.block k hk⟩
  have HA6 : Hid (FAt u6 fa La X) := HA5.out.kept K6 id (fun _ _ => id)
  have HB6 : Hid (FAt u6 fb Lb Y) := HB5.out.kept K6 id (fun _ _ => id)
  have HC6 : Hid (FAt u6 fc Lc Z) := HC5.out.kept K6 id (fun _ _ => id)
  have HW6 : Hid (Below W.heap.size W u6) := HW5.out.trans (b6.mono HW5.out.size)
  clear hE b6 K6 HA5 HB5 HC5 HW5
  go_wp2_with fail
  refine (dump_any fc Lc Z GZ.out.i GZ.out.f u6 HC6.out).mono ?_
  rintro e u7 ⟨⟨F, rfl, hF⟩, b7⟩
  have HFF : Hid (bl F = dumpN Z.t) := hF
  have K7 : Ch (fun _ => False) u6 u7 := ⟨b7.os, b7.tape, b7.output, b7.size, fun k hk _ => b7.block k hk⟩
  have HA7 : Hid (FAt u7 fa La X) := HA6.out.kept K7 id (fun _ _ => id)
  have HB7 : Hid (FAt u7 fb Lb Y) := HB6.out.kept K7 id (fun _ _ => id)
  have HC7 : Hid (FAt u7 fc Lc Z) := HC6.out.kept K7 id (fun _ _ => id)
  have HW7 : Hid (Below W.heap.size W u7) := HW6.out.trans (b7.mono HW6.out.size)
  clear hF b7 K7 HA6 HB6 HC6 HW6
  have G7 := (HW7.out.block lb (blk_lt HGW.out)).trans HGW.out
  have c70 : u7.cell? ⟨lb, 0, none⟩ = some (.int .i64 a) := (cell_of_row _ _ _ _ _ _ G7).trans rfl
  have c71 : u7.cell? ⟨lb, 1, none⟩ = some (.int .i64 b) := (cell_of_row _ _ _ _ _ _ G7).trans rfl
  clear G7
  go_wp2_with fail
  have lA := alike_two a b fa fb La Lb X Y u7 ha hb HA7.out HB7.out GX.out.i GY.out.i GX.out.f GY.out.f GX.out.r GX.out.c GY.out.r GY.out.c
  by_cases hxy : X.t = Y.t
  · have hDE : D = E := bl_inj (by rw [HDD.out, HEE.out, hxy])
    subst hDE
    rw [decide_eq_true hxy] at lA
    clear hxy HEE
    refine lA.mono ?_
    rintro e u8 ⟨rfl, S8⟩
    have HA8 : Hid (FAt u8 fa La X) := HA7.out.kept S8 id (fun _ _ => id)
    have HC8 : Hid (FAt u8 fc Lc Z) := HC7.out.kept S8 id (fun _ _ => id)
    have HW8 : Hid (Below W.heap.size W u8) := HW7.out.trans (S8.below HW7.out.size (fun k hk h => h))
    have G8 := (HW8.out.block lb (blk_lt HGW.out)).trans HGW.out
    have c80 : u8.cell? ⟨lb, 0, none⟩ = some (.int .i64 a) := (cell_of_row _ _ _ _ _ _ G8).trans rfl
    have c81 : u8.cell? ⟨lb, 1, none⟩ = some (.int .i64 b) := (cell_of_row _ _ _ _ _ _ G8).trans rfl
    clear lA G8 S8 HA7 HB7 HC7 HW7 c70 c71
    have lB := alike_two a b fa fc La Lc X Z u8 ha hb HA8.out HC8.out GX.out.i GZ.out.i GX.out.f GZ.out.f GX.out.r GX.out.c GZ.out.r GZ.out.c
    by_cases hxz : X.t = Z.t
    · have hDF : D = F := bl_inj (by rw [HDD.out, HFF.out, hxz])
      subst hDF
      rw [decide_eq_true hxz] at lB
      clear hxz HFF
      go_wp2_with fail
      refine lB.mono ?_
      rintro e u9 ⟨rfl, S9⟩
      have HS9 : Hid _ := S9
      clear lB S9
      go_wp2_with fail
      go_ret
      refine ⟨rfl, ?_⟩
      have b6 := HBW.out.trans (HW8.out.mono (by have := HWS.out; omega))
      exact b6.trans (HS9.out.below b6.size (fun k hk h => h))
    · rw [decide_eq_false hxz] at lB
      clear hxz HFF
      go_wp2_with fail
      refine lB.mono ?_
      rintro e u9 ⟨rfl, S9⟩
      have HS9 : Hid _ := S9
      clear lB S9
      go_wp2_with fail
      go_ret
      refine ⟨rfl, ?_⟩
      have b6 := HBW.out.trans (HW8.out.mono (by have := HWS.out; omega))
      exact b6.trans (HS9.out.below b6.size (fun k hk h => h))
  · have hne : ¬ D = E := fun h => hxy (dumpN_inj GX.out.i GX.out.f GY.out.i GY.out.f (GX.out.r.trans GY.out.r.symm) (GX.out.c.trans GY.out.c.symm) (by rw [← HDD.out, ← HEE.out, h]))
    have hne3 : (D.toList == E.toList) = false := toList_neq hne
    clear hne
    rw [decide_eq_false hxy] at lA
    clear hxy HEE
    refine lA.mono ?_
    rintro e u8 ⟨rfl, S8⟩
    have HA8 : Hid (FAt u8 fa La X) := HA7.out.kept S8 id (fun _ _ => id)
    have HC8 : Hid (FAt u8 fc Lc Z) := HC7.out.kept S8 id (fun _ _ => id)
    have HW8 : Hid (Below W.heap.size W u8) := HW7.out.trans (S8.below HW7.out.size (fun k hk h => h))
    have G8 := (HW8.out.block lb (blk_lt HGW.out)).trans HGW.out
    have c80 : u8.cell? ⟨lb, 0, none⟩ = some (.int .i64 a) := (cell_of_row _ _ _ _ _ _ G8).trans rfl
    have c81 : u8.cell? ⟨lb, 1, none⟩ = some (.int .i64 b) := (cell_of_row _ _ _ _ _ _ G8).trans rfl
    clear lA G8 S8 HA7 HB7 HC7 HW7 c70 c71
    have lB := alike_two a b fa fc La Lc X Z u8 ha hb HA8.out HC8.out GX.out.i GZ.out.i GX.out.f GZ.out.f GX.out.r GX.out.c GZ.out.r GZ.out.c
    by_cases hxz : X.t = Z.t
    · have hDF : D = F := bl_inj (by rw [HDD.out, HFF.out, hxz])
      subst hDF
      rw [decide_eq_true hxz] at lB
      clear hxz HFF
      go_wp2_with fail
      refine lB.mono ?_
      rintro e u9 ⟨rfl, S9⟩
      have HS9 : Hid _ := S9
      clear lB S9
      go_wp2_with fail
      go_ret
      refine ⟨rfl, ?_⟩
      have b6 := HBW.out.trans (HW8.out.mono (by have := HWS.out; omega))
      exact b6.trans (HS9.out.below b6.size (fun k hk h => h))
    · rw [decide_eq_false hxz] at lB
      clear hxz HFF
      go_wp2_with fail
      refine lB.mono ?_
      rintro e u9 ⟨rfl, S9⟩
      have HS9 : Hid _ := S9
      clear lB S9
      go_wp2_with fail
      go_ret
      refine ⟨rfl, ?_⟩
      have b6 := HBW.out.trans (HW8.out.mono (by have := HWS.out; omega))
      exact b6.trans (HS9.out.below b6.size (fun k hk h => h))
end Go.Proofs.YtheibfffilomcaaGreatDoor

