/- The walk of alike, where both tell the same. -/
import Derived.Test.YtheibfffilomcaaDoorXhM
namespace Go.Proofs.YtheibfffilomcaaDoor
open Go.RowKit

theorem eqSpot (d : Nat) (p : SpotS) (w : World) : (Op.equalIn (d + 3) 54 (.agg (spotV p).toArray) (.agg (spotV p).toArray)).run Tryd.prog w = .ok true w := by
  have hu : Tryd.prog.underlying 54 = some (.struct (Tryd.prog.fieldsOf 54)) := by kernel_rfl
  have hp : Tryd.prog.stoodInHeld 54 = false := by kernel_rfl
  rw [run_equalIn_struct w (d + 2) 54 _ _ hu hp]
  rw [eq_fields (d + 2) _ _ w _ [(3, 0, true), (3, 1, true), (4, 2, true), (47, 3, true), (3, 8, true), (3, 9, true), (3, 10, true), (4, 11, true)] (of_decide_eq_true (by kernel_rfl)) (by kernel_rfl) ?_]
  · rfl
  · have hI : ∀ x : Int, (Op.equalIn (d + 2) 3 (.int .i64 x) (.int .i64 x)).run Tryd.prog w = .ok true w := fun x => by rw [eqI (d + 1)]; simp
    have hB : ∀ x : Bool, (Op.equalIn (d + 2) 4 (.bool x) (.bool x)).run Tryd.prog w = .ok true w := fun x => by rw [eqB (d + 1)]; simp
    intro x hx
    simp only [List.mem_cons, List.not_mem_nil, or_false] at hx
    rcases hx with rfl | rfl | rfl | rfl | rfl | rfl | rfl | rfl
    · exact ⟨_, _, partI _ 0 p.row rfl w, partI _ 0 p.row rfl w, hI _⟩
    · exact ⟨_, _, partI _ 1 p.col rfl w, partI _ 1 p.col rfl w, hI _⟩
    · exact ⟨_, _, partB _ 2 p.waits rfl w, partB _ 2 p.waits rfl w, hB _⟩
    · refine ⟨_, _, part47 _ 3 w, part47 _ 3 w, ?_⟩
      have := eqP d p.pen p.pen w
      rw [decide_eq_true rfl] at this
      exact this
    · exact ⟨_, _, partI _ 8 p.first rfl w, partI _ 8 p.first rfl w, hI _⟩
    · exact ⟨_, _, partI _ 9 p.second rfl w, partI _ 9 p.second rfl w, hI _⟩
    · exact ⟨_, _, partI _ 10 p.use rfl w, partI _ 10 p.use rfl w, hI _⟩
    · exact ⟨_, _, partB _ 11 p.origin rfl w, partB _ 11 p.origin rfl w, hB _⟩
theorem eqState (s : TS) (w : World) : (Op.equalIn 10000 56 (.agg (stV s).toArray) (.agg (stV s).toArray)).run Tryd.prog w = .ok true w := by
  have hu : Tryd.prog.underlying 56 = some (.struct (Tryd.prog.fieldsOf 56)) := by kernel_rfl
  have hp : Tryd.prog.stoodInHeld 56 = false := by kernel_rfl
  rw [run_equalIn_struct w 9999 56 _ _ hu hp]
  rw [eq_fields 9999 _ _ w _ [(54, 0, true), (3, 12, true), (3, 13, true), (4, 14, true), (4, 15, true), (3, 16, true)] (of_decide_eq_true (by kernel_rfl)) (by kernel_rfl) ?_]
  · rfl
  · have hI : ∀ x : Int, (Op.equalIn 9999 3 (.int .i64 x) (.int .i64 x)).run Tryd.prog w = .ok true w := fun x => by rw [eqI 9998]; simp
    have hB : ∀ x : Bool, (Op.equalIn 9999 4 (.bool x) (.bool x)).run Tryd.prog w = .ok true w := fun x => by rw [eqB 9998]; simp
    intro x hx
    simp only [List.mem_cons, List.not_mem_nil, or_false] at hx
    rcases hx with rfl | rfl | rfl | rfl | rfl | rfl
    · refine ⟨_, _, part54 _ 0 w, part54 _ 0 w, ?_⟩
      exact eqSpot 9996 s.spot w
    · exact ⟨_, _, partI _ 12 s.top rfl w, partI _ 12 s.top rfl w, hI _⟩
    · exact ⟨_, _, partI _ 13 s.bottom rfl w, partI _ 13 s.bottom rfl w, hI _⟩
    · exact ⟨_, _, partB _ 14 s.wrap rfl w, partB _ 14 s.wrap rfl w, hB _⟩
    · exact ⟨_, _, partB _ 15 s.insert rfl w, partB _ 15 s.insert rfl w, hB _⟩
    · exact ⟨_, _, partI _ 16 s.shown rfl w, partI _ 16 s.shown rfl w, hI _⟩
theorem neqState (s : TS) (w : World) : (binOp .neq 56 (.agg (stV s).toArray) (.agg (stV s).toArray)).run Tryd.prog w = .ok (.bool false) w := by
  rw [run_neq_struct, eqState]; rfl
theorem neqSpot (p : SpotS) (w : World) : (binOp .neq 54 (.agg (spotV p).toArray) (.agg (spotV p).toArray)).run Tryd.prog w = .ok (.bool false) w := by
  rw [run_neq_struct, eqSpot 9997]; rfl
theorem neqCell (c : CellS) (w : World) : (binOp .neq 49 (.agg (cellA c)) (.agg (cellA c))).run Tryd.prog w = .ok (.bool false) w := by
  rw [neqC, decide_eq_true rfl]; rfl
/-- A struct is not other than itself. -/
theorem wp_neqS {ops : Array Oper} {rest : List Oper} {o : Oper} {a : Act} {u : World} {Q : Exit → Act → World → Prop} (hgd : o.guard = none) (ty : TypeId) (x y : Operand) (ho : o.op = .binOp .neq ty x y ty) (arr : Array Value) (hx : a.eval x = .agg arr) (hy : a.eval y = .agg arr)
    (hg : ∀ w, (eqGuard .neq ty x y (.agg arr) (.agg arr)).run Tryd.prog w = .ok () w) (hr : ∀ w, (binOp .neq ty (.agg arr) (.agg arr)).run Tryd.prog w = .ok (.bool false) w) (h : wpList Tryd.prog ops Q rest (a.put o.dst (.bool false)) u) : wpList Tryd.prog ops Q (o :: rest) a u := by
  refine wpList_plain hgd fun K hK => ?_
  have R := hK _ _ h
  unfold Oper.wp execOp
  simp only [ho, hx, hy, Sem.run_bind, hg, hr, Result.andThen_ok, Sem.run_pure]
  exact R
theorem guardS (ty : TypeId) (hty : ty = 49 ∨ ty = 54 ∨ ty = 56) (op : BinOp) (x y : Operand) (xs ys : Array Value) (w : World) : (eqGuard op ty x y (.agg xs) (.agg ys)).run Tryd.prog w = .ok () w := by
  rcases hty with rfl | rfl | rfl
  · exact run_eqGuard_agg w op 49 x y xs ys (by kernel_rfl)
  · exact run_eqGuard_agg w op 54 x y xs ys (by kernel_rfl)
  · exact run_eqGuard_agg w op 56 x y xs ys (by kernel_rfl)
theorem sm_new {w u u' : World} {g : Nat} (h : Sm w u) (k : Ch (· = g) u u') (hg : w.heap.size ≤ g) : Sm w u' := h.trans' k (fun i hi e => by omega)

set_option maxRecDepth 100000 in
set_option maxHeartbeats 4000000 in
theorem alike_same (a b : Int) (fa fb : Nat) (La Lb : Lay) (x y : FS) (w : World) (ha : -9223372036854775808 ≤ a ∧ a ≤ 9223372036854775807) (hb : -9223372036854775808 ≤ b ∧ b ≤ 9223372036854775807) (hA : FAt w fa La x) (hB : FAt w fb Lb y) (hxy : x.t = y.t) (hI : x.t.Inv) (hr : x.t.rows = szR a) (hc : x.t.cols = szC b) :
    Calls Tryd.prog 24 #[.agg #[.int .i64 a, .int .i64 b], .pointer (some ⟨fa, 0, none⟩), .pointer (some ⟨fb, 0, none⟩)] w fun e w' => e = .returned (.bool true) ∧ Sm w w' := by
  have hrb := szR_bd a
  have hcb := szC_bd b
  obtain ⟨W, hW⟩ : ∃ W, W = w.alloc (.cells #[.int .i64 a, .int .i64 b] 41) := ⟨_, rfl⟩
  have SW : Sm w W := by rw [hW]; exact (Ch.refl _ _).alloc _
  have GW : W.heap[w.heap.size]? = some (.cells #[.int .i64 a, .int .i64 b] 41 (0, 0)) := by rw [hW]; exact heap_alloc_new _ _
  have KA : ∀ u, Sm W u → FAt u fa La x := fun u hu => hA.kept (SW.trans hu) id (fun _ _ => id)
  have KB : ∀ u, Sm W u → FAt u fb Lb y := fun u hu => hB.kept (SW.trans hu) id (fun _ _ => id)
  have hszW : W.heap.size = w.heap.size + 1 := by rw [hW]; simp
  have kA1 : ∀ u, Sm W u → _ := fun u hu => look_any fa La x u (KA u hu)
  have kB1 : ∀ u, Sm W u → _ := fun u hu => look_any fb Lb y u (KB u hu)
  have kA2 : ∀ n : Nat, n < 2 → ∀ u, Sm W u → _ := fun n hn u hu => saved_any fa La x n hn u (KA u hu)
  have kB2 : ∀ n : Nat, n < 2 → ∀ u, Sm W u → _ := fun n hn u hu => saved_any fb Lb y n hn u (KB u hu)
  have kA3 : ∀ n i k : Nat, n < 2 → i < szR a → k < szC b → ∀ u, Sm W u → _ := fun n i k hn hi hk u hu => cell_in fa La x n i k hn (by rw [hr]; exact hi) (by rw [hc]; exact hk) u (KA u hu) hI
  have kB3 : ∀ n i k : Nat, n < 2 → i < szR a → k < szC b → ∀ u, Sm W u → _ := fun n i k hn hi hk u hu => cell_in fb Lb y n i k hn (by rw [← hxy, hr]; exact hi) (by rw [← hxy, hc]; exact hk) u (KB u hu) (hxy ▸ hI)
  have kA4 : ∀ k : Nat, k < szC b → ∀ u, Sm W u → _ := fun k hk u hu => tab_in fa La x k (by rw [hc]; exact hk) u (KA u hu) hI
  have kB4 : ∀ k : Nat, k < szC b → ∀ u, Sm W u → _ := fun k hk u hu => tab_in fb Lb y k (by rw [← hxy, hc]; exact hk) u (KB u hu) (hxy ▸ hI)
  simp only [← hxy] at kB1 kB2 kB3 kB4
  have kR : ∀ u, _ := fun u => srows_any a b u ha
  have kC : ∀ u, _ := fun u => scols_any a b u hb
  have SZ : ∀ u, Sm W u → u.rangeAt w.heap.size 0 [.int .i64 a, .int .i64 b] := fun u hu j v hv => by
    rw [cell_of_row _ _ _ _ _ _ ((hu.block _ (by omega) id).trans GW), Nat.zero_add]; simpa using hv
  generalize x.t = t at *
  have HW : Hid _ := hW
  clear hA hB hxy hI hr hc hW KA KB
  go_enter Tryd.func24, Tryd.ntmps24
  go_wp2_with fail
  rw [← HW.out]
  have S0 : Sm W W := Ch.refl _ _
  refine (kA1 W S0).mono ?_
  rintro e x1 ⟨rfl, q1⟩
  go_wp2_with (refine wp_blkset _ rfl 56 (.tmp 7) (.tmp 26) rfl x1.heap.size [.int .i64 0, .int .i64 0, .bool false, .bool false, .bool false, .bool false, .int .i64 0, .int .i64 0, .int .i64 0, .int .i64 0, .int .i64 0, .bool false, .int .i64 0, .int .i64 0, .bool false, .bool false, .int .i64 0] (stV t) rfl _ rfl rfl 56 (heap_alloc_new _ _) rfl info56 (stV_one t) ?_)
  intro y1 g1 k1 z1
  have Sy1 : Sm W y1 := sm_new ((S0.trans q1).alloc _) k1 (by have := S0.size; have := q1.size; omega)
  have hs1 := blk_lt g1
  clear k1 z1 q1
  go_wp2_with fail
  refine (kB1 y1 Sy1).mono ?_
  rintro e x2 ⟨rfl, q2⟩
  go_wp2_with (refine wp_blkset _ rfl 56 (.tmp 8) (.tmp 28) rfl x2.heap.size [.int .i64 0, .int .i64 0, .bool false, .bool false, .bool false, .bool false, .int .i64 0, .int .i64 0, .int .i64 0, .int .i64 0, .int .i64 0, .bool false, .int .i64 0, .int .i64 0, .bool false, .bool false, .int .i64 0] (stV t) rfl _ rfl rfl 56 (heap_alloc_new _ _) rfl info56 (stV_one t) ?_)
  intro y2 g2 k2 z2
  have Sy2 : Sm W y2 := sm_new ((Sy1.trans q2).alloc _) k2 (by have := Sy1.size; have := q2.size; omega)
  have g1' : y2.heap[x1.heap.size]? = _ := ((k2.block _ (by have := q2.size; simp; omega) (by have := q2.size; omega)).trans ((Below.heap_alloc _ _ _ (by have := q2.size; omega)).trans (q2.block _ hs1 id))).trans g1
  clear k2 z2 q2 g1 hs1 Sy1
  go_wp2_with (first | (refine wpList_load_row rfl 56 (.tmp 7) rfl x1.heap.size rfl 56 _ (0, 0) _ g1' Tryd.underlying56 rfl info56 ?_) | (refine wpList_load_row rfl 56 (.tmp 8) rfl x2.heap.size rfl 56 _ (0, 0) _ g2 Tryd.underlying56 rfl info56 ?_) | (refine wp_neqS rfl 56 _ _ rfl _ rfl rfl (guardS 56 (by simp) _ _ _ _ _) (neqState t) ?_))
  clear g1' g2
  go_loopw [9] (fun i wq => ∃ n : Nat, n ≤ 2 ∧ i = .int .i64 n ∧ Sm W wq) (fun i _ => 2 - (intOf i).toNat)
  case atStart => exact ⟨0, by omega, rfl, Sy2⟩
  case round =>
    clear Sy2
    obtain ⟨n, hn, rfl, S1⟩ := hrel
    by_cases hn2 : n < 2
    · have i2 : (n : Int) < 2 := by omega
      have vn : IntKind.i64.wrap ((n : Int) + 1) = (n : Int) + 1 := IntWalk.i64_in _ (by omega)
      go_wp2_with fail
      refine (kA2 n hn2 _ S1).mono ?_
      rintro e x1 ⟨rfl, q1⟩
      go_wp2_with (refine wp_blkset _ rfl 54 (.tmp 10) (.tmp 40) rfl x1.heap.size [.int .i64 0, .int .i64 0, .bool false, .bool false, .bool false, .bool false, .int .i64 0, .int .i64 0, .int .i64 0, .int .i64 0, .int .i64 0, .bool false] (spotV (t.savedAt n)) rfl _ rfl rfl 54 (heap_alloc_new _ _) rfl info54s (spotV_one _) ?_)
      intro y1 g1 k1 z1
      have Sy1 : Sm W y1 := sm_new ((S1.trans q1).alloc _) k1 (by have := S1.size; have := q1.size; omega)
      have hs1 := blk_lt g1
      clear k1 z1 q1
      go_wp2_with fail
      refine (kB2 n hn2 y1 Sy1).mono ?_
      rintro e x2 ⟨rfl, q2⟩
      go_wp2_with (refine wp_blkset _ rfl 54 (.tmp 12) (.tmp 46) rfl x2.heap.size [.int .i64 0, .int .i64 0, .bool false, .bool false, .bool false, .bool false, .int .i64 0, .int .i64 0, .int .i64 0, .int .i64 0, .int .i64 0, .bool false] (spotV (t.savedAt n)) rfl _ rfl rfl 54 (heap_alloc_new _ _) rfl info54s (spotV_one _) ?_)
      intro y2 g2 k2 z2
      have Sy2 : Sm W y2 := sm_new ((Sy1.trans q2).alloc _) k2 (by have := Sy1.size; have := q2.size; omega)
      have g1' : y2.heap[x1.heap.size]? = _ := ((k2.block _ (by have := q2.size; simp; omega) (by have := q2.size; omega)).trans ((Below.heap_alloc _ _ _ (by have := q2.size; omega)).trans (q2.block _ hs1 id))).trans g1
      clear k2 z2 q2 g1 hs1 Sy1
      go_wp2_with (first | (refine wpList_load_row rfl 54 (.tmp 10) rfl x1.heap.size rfl 54 _ (0, 0) _ g1' Tryd.underlying54 rfl info54s ?_) | (refine wpList_load_row rfl 54 (.tmp 12) rfl x2.heap.size rfl 54 _ (0, 0) _ g2 Tryd.underlying54 rfl info54s ?_) | (refine wp_neqS rfl 54 _ _ rfl _ rfl rfl (guardS 54 (by simp) _ _ _ _ _) (neqSpot (t.savedAt n)) ?_))
      clear g1' g2
      go_loopw [14] (fun i wq => ∃ r : Nat, r ≤ szR a ∧ i = .int .i64 r ∧ Sm W wq) (fun i _ => szR a - (intOf i).toNat)
      case atStart => exact ⟨0, Nat.zero_le _, rfl, Sy2⟩
      case round =>
        obtain ⟨r, hrr, rfl, S2⟩ := hrel
        by_cases hr2 : r < szR a
        · have ir : (r : Int) < (szR a : Int) := by omega
          have vr : IntKind.i64.wrap ((r : Int) + 1) = (r : Int) + 1 := IntWalk.i64_in _ (by omega)
          go_wp2_with (first | (refine wpList_load_mid rfl 41 (.tmp 3) rfl w.heap.size 0 rfl [.int .i64 a, .int .i64 b] _ (SZ _ S2) Tryd.underlying41 rfl info41 ?_) | (go_at_call 19; refine (kR _).mono ?_; rintro e z2 ⟨rfl, b9⟩))
          have S2b : Sm W z2 := S2.trans (Ch.of_below b9)
          clear b9
          go_loopw [15] (fun i wq => ∃ k : Nat, k ≤ szC b ∧ i = .int .i64 k ∧ Sm W wq) (fun i _ => szC b - (intOf i).toNat)
          case atStart => exact ⟨0, Nat.zero_le _, rfl, S2b⟩
          case round =>
            obtain ⟨k, hk, rfl, S3⟩ := hrel
            by_cases hk2 : k < szC b
            · have ik : (k : Int) < (szC b : Int) := by omega
              have vk : IntKind.i64.wrap ((k : Int) + 1) = (k : Int) + 1 := IntWalk.i64_in _ (by omega)
              go_wp2_with (first | (refine wpList_load_mid rfl 41 (.tmp 3) rfl w.heap.size 0 rfl [.int .i64 a, .int .i64 b] _ (SZ _ S3) Tryd.underlying41 rfl info41 ?_) | (go_at_call 20; refine (kC _).mono ?_; rintro e z3 ⟨rfl, b9⟩))
              have S3b : Sm W z3 := S3.trans (Ch.of_below b9)
              clear b9
              refine (kA3 n r k hn2 hr2 hk2 z3 S3b).mono ?_
              rintro e x1 ⟨rfl, q1⟩
              go_wp2_with (refine wp_blkset _ rfl 49 (.tmp 16) (.tmp 77) rfl x1.heap.size (cellV zeroC) (cellV (t.cellAt n r k)) rfl _ rfl rfl 49 (heap_alloc_new _ _) rfl info49 (cellV_one _) ?_)
              intro y1 g1 k1 z1
              have Sy1 : Sm W y1 := sm_new ((S3b.trans q1).alloc _) k1 (by have := S3b.size; have := q1.size; omega)
              have hs1 := blk_lt g1
              clear k1 z1 q1
              go_wp2_with fail
              refine (kB3 n r k hn2 hr2 hk2 y1 Sy1).mono ?_
              rintro e x2 ⟨rfl, q2⟩
              go_wp2_with (refine wp_blkset _ rfl 49 (.tmp 18) (.tmp 85) rfl x2.heap.size (cellV zeroC) (cellV (t.cellAt n r k)) rfl _ rfl rfl 49 (heap_alloc_new _ _) rfl info49 (cellV_one _) ?_)
              intro y2 g2 k2 z2
              have Sy2 : Sm W y2 := sm_new ((Sy1.trans q2).alloc _) k2 (by have := Sy1.size; have := q2.size; omega)
              have g1' : y2.heap[x1.heap.size]? = _ := ((k2.block _ (by have := q2.size; simp; omega) (by have := q2.size; omega)).trans ((Below.heap_alloc _ _ _ (by have := q2.size; omega)).trans (q2.block _ hs1 id))).trans g1
              clear k2 z2 q2 g1 hs1 Sy1
              go_wp2_with (first | (refine wpList_load_row rfl 49 (.tmp 16) rfl x1.heap.size rfl 49 _ (0, 0) _ g1' Tryd.underlying49 rfl info49 ?_) | (refine wpList_load_row rfl 49 (.tmp 18) rfl x2.heap.size rfl 49 _ (0, 0) _ g2 Tryd.underlying49 rfl info49 ?_) | (refine wp_neqS rfl 49 _ _ rfl _ rfl rfl (guardS 49 (by simp) _ _ _ _ _) (neqCell (t.cellAt n r k)) ?_))
              clear g1' g2
              go_roundw
              case rel => exact ⟨k + 1, by omega, by go_num, Sy2⟩
              case measure => simp [intOf]; omega
            · have ik : ¬ (k : Int) < (szC b : Int) := by omega
              go_wp2_with (first | (refine wpList_load_mid rfl 41 (.tmp 3) rfl w.heap.size 0 rfl [.int .i64 a, .int .i64 b] _ (SZ _ S3) Tryd.underlying41 rfl info41 ?_) | (go_at_call 20; refine (kC _).mono ?_; rintro e z3 ⟨rfl, b9⟩))
              have S3b : Sm W z3 := S3.trans (Ch.of_below b9)
              go_roundw
              case rel => exact ⟨r + 1, by omega, by go_num, S3b⟩
              case measure => simp [intOf]; omega
        · have ir : ¬ (r : Int) < (szR a : Int) := by omega
          go_wp2_with (first | (refine wpList_load_mid rfl 41 (.tmp 3) rfl w.heap.size 0 rfl [.int .i64 a, .int .i64 b] _ (SZ _ S2) Tryd.underlying41 rfl info41 ?_) | (go_at_call 19; refine (kR _).mono ?_; rintro e z2 ⟨rfl, b9⟩))
          have S2b : Sm W z2 := S2.trans (Ch.of_below b9)
          go_roundw
          case rel => exact ⟨n + 1, by omega, by go_num, S2b⟩
          case measure => simp [intOf]; omega
    · have i2 : ¬ (n : Int) < 2 := by omega
      go_wp2_with fail
      go_loopw [20] (fun i wq => ∃ k : Nat, k ≤ szC b ∧ i = .int .i64 k ∧ Sm W wq) (fun i _ => szC b - (intOf i).toNat)
      case atStart => exact ⟨0, Nat.zero_le _, rfl, S1⟩
      case round =>
        obtain ⟨k, hk, rfl, S4⟩ := hrel
        by_cases hk2 : k < szC b
        · have ik : (k : Int) < (szC b : Int) := by omega
          have vk : IntKind.i64.wrap ((k : Int) + 1) = (k : Int) + 1 := IntWalk.i64_in _ (by omega)
          go_wp2_with (first | (refine wpList_load_mid rfl 41 (.tmp 3) rfl w.heap.size 0 rfl [.int .i64 a, .int .i64 b] _ (SZ _ S4) Tryd.underlying41 rfl info41 ?_) | (go_at_call 20; refine (kC _).mono ?_; rintro e z4 ⟨rfl, b9⟩))
          have S4b : Sm W z4 := S4.trans (Ch.of_below b9)
          have l4 := kA4 k hk2
          have l5 := kB4 k hk2
          generalize t.tabs.getD k false = tb at l4 l5
          refine (l4 z4 S4b).mono ?_
          rintro e x1 ⟨rfl, hx1⟩
          subst hx1
          go_wp2_with fail
          refine (l5 _ S4b).mono ?_
          rintro e x2 ⟨rfl, hx2⟩
          subst hx2
          go_wp2_with fail
          go_roundw
          case rel => exact ⟨k + 1, by omega, by go_num, S4b⟩
          case measure => simp [intOf]; omega
        · have ik : ¬ (k : Int) < (szC b : Int) := by omega
          go_wp2_with (first | (refine wpList_load_mid rfl 41 (.tmp 3) rfl w.heap.size 0 rfl [.int .i64 a, .int .i64 b] _ (SZ _ S4) Tryd.underlying41 rfl info41 ?_) | (go_at_call 20; refine (kC _).mono ?_; rintro e z4 ⟨rfl, b9⟩))
          have S4b : Sm W z4 := S4.trans (Ch.of_below b9)
          go_ret
          exact ⟨rfl, SW.trans S4b⟩
end Go.Proofs.YtheibfffilomcaaDoor
