/- Xi Yz Qa Pb Pq Pd together. -/
import Derived.Test.YtheibfffilomcaaGreatDoorXhM
import Derived.Test.YtheibfffilomcaaGreatDoorXcM
import Derived.Test.YtheibfffilomcaaGreatDoorUtf

/- The walk of alike, where both tell the same. -/
namespace Go.Proofs.YtheibfffilomcaaGreatDoor
open Go.RowKit

theorem eqSpot (d : Nat) (p : SpotS) (w : World) : (Op.equalIn (d + 3) 82 (.agg (spotV p).toArray) (.agg (spotV p).toArray)).run Tryz.prog w = .ok true w := by
  have hu : Tryz.prog.underlying 82 = some (.struct (Tryz.prog.fieldsOf 82)) := by kernel_rfl
  have hp : Tryz.prog.stoodInHeld 82 = false := by kernel_rfl
  rw [run_equalIn_struct w (d + 2) 82 _ _ hu hp]
  rw [eq_fields (d + 2) _ _ w _ [(3, 0, true), (3, 1, true), (4, 2, true), (80, 3, true), (3, 8, true), (3, 9, true), (3, 10, true), (4, 11, true)] (of_decide_eq_true (by kernel_rfl)) (by kernel_rfl) ?_]
  · rfl
  · have hI : ∀ x : Int, (Op.equalIn (d + 2) 3 (.int .i64 x) (.int .i64 x)).run Tryz.prog w = .ok true w := fun x => by rw [eqI (d + 1)]; simp
    have hB : ∀ x : Bool, (Op.equalIn (d + 2) 4 (.bool x) (.bool x)).run Tryz.prog w = .ok true w := fun x => by rw [eqB (d + 1)]; simp
    intro x hx
    simp only [List.mem_cons, List.not_mem_nil, or_false] at hx
    rcases hx with rfl | rfl | rfl | rfl | rfl | rfl | rfl | rfl
    · exact ⟨_, _, partI _ 0 p.row rfl w, partI _ 0 p.row rfl w, hI _⟩
    · exact ⟨_, _, partI _ 1 p.col rfl w, partI _ 1 p.col rfl w, hI _⟩
    · exact ⟨_, _, partB _ 2 p.waits rfl w, partB _ 2 p.waits rfl w, hB _⟩
    · refine ⟨_, _, part47 _ 3 w, part47 _ 3 w, ?_⟩
      have := eqP d p.pen p.pen w
      rw [decide_eq_true rfl] at this
      exact this
    · exact ⟨_, _, partI _ 8 p.first rfl w, partI _ 8 p.first rfl w, hI _⟩
    · exact ⟨_, _, partI _ 9 p.second rfl w, partI _ 9 p.second rfl w, hI _⟩
    · exact ⟨_, _, partI _ 10 p.use rfl w, partI _ 10 p.use rfl w, hI _⟩
    · exact ⟨_, _, partB _ 11 p.origin rfl w, partB _ 11 p.origin rfl w, hB _⟩
theorem eqState (s : TS) (w : World) : (Op.equalIn 10000 84 (.agg (stV s).toArray) (.agg (stV s).toArray)).run Tryz.prog w = .ok true w := by
  have hu : Tryz.prog.underlying 84 = some (.struct (Tryz.prog.fieldsOf 84)) := by kernel_rfl
  have hp : Tryz.prog.stoodInHeld 84 = false := by kernel_rfl
  rw [run_equalIn_struct w 9999 84 _ _ hu hp]
  rw [eq_fields 9999 _ _ w _ [(82, 0, true), (3, 12, true), (3, 13, true), (4, 14, true), (4, 15, true), (3, 16, true)] (of_decide_eq_true (by kernel_rfl)) (by kernel_rfl) ?_]
  · rfl
  · have hI : ∀ x : Int, (Op.equalIn 9999 3 (.int .i64 x) (.int .i64 x)).run Tryz.prog w = .ok true w := fun x => by rw [eqI 9998]; simp
    have hB : ∀ x : Bool, (Op.equalIn 9999 4 (.bool x) (.bool x)).run Tryz.prog w = .ok true w := fun x => by rw [eqB 9998]; simp
    intro x hx
    simp only [List.mem_cons, List.not_mem_nil, or_false] at hx
    rcases hx with rfl | rfl | rfl | rfl | rfl | rfl
    · refine ⟨_, _, part54 _ 0 w, part54 _ 0 w, ?_⟩
      exact eqSpot 9996 s.spot w
    · exact ⟨_, _, partI _ 12 s.top rfl w, partI _ 12 s.top rfl w, hI _⟩
    · exact ⟨_, _, partI _ 13 s.bottom rfl w, partI _ 13 s.bottom rfl w, hI _⟩
    · exact ⟨_, _, partB _ 14 s.wrap rfl w, partB _ 14 s.wrap rfl w, hB _⟩
    · exact ⟨_, _, partB _ 15 s.insert rfl w, partB _ 15 s.insert rfl w, hB _⟩
    · exact ⟨_, _, partI _ 16 s.shown rfl w, partI _ 16 s.shown rfl w, hI _⟩
theorem neqState (s : TS) (w : World) : (binOp .neq 84 (.agg (stV s).toArray) (.agg (stV s).toArray)).run Tryz.prog w = .ok (.bool false) w := by
  rw [run_neq_struct, eqState]; rfl
theorem neqSpot (p : SpotS) (w : World) : (binOp .neq 82 (.agg (spotV p).toArray) (.agg (spotV p).toArray)).run Tryz.prog w = .ok (.bool false) w := by
  rw [run_neq_struct, eqSpot 9997]; rfl
theorem neqCell (c : CellS) (w : World) : (binOp .neq 101 (.agg (cellA c)) (.agg (cellA c))).run Tryz.prog w = .ok (.bool false) w := by
  rw [neqC, decide_eq_true rfl]; rfl
/-- A struct is not other than itself. -/
theorem wp_neqS {ops : Array Oper} {rest : List Oper} {o : Oper} {a : Act} {u : World} {Q : Exit → Act → World → Prop} (hgd : o.guard = none) (ty : TypeId) (x y : Operand) (ho : o.op = .binOp .neq ty x y ty) (arr : Array Value) (hx : a.eval x = .agg arr) (hy : a.eval y = .agg arr)
    (hg : ∀ w, (eqGuard .neq ty x y (.agg arr) (.agg arr)).run Tryz.prog w = .ok () w) (hr : ∀ w, (binOp .neq ty (.agg arr) (.agg arr)).run Tryz.prog w = .ok (.bool false) w) (h : wpList Tryz.prog ops Q rest (a.put o.dst (.bool false)) u) : wpList Tryz.prog ops Q (o :: rest) a u := by
  refine wpList_plain hgd fun K hK => ?_
  have R := hK _ _ h
  unfold Oper.wp execOp
  simp only [ho, hx, hy, Sem.run_bind, hg, hr, Result.andThen_ok, Sem.run_pure]
  exact R
theorem guardS (ty : TypeId) (hty : ty = 101 ∨ ty = 82 ∨ ty = 84) (op : BinOp) (x y : Operand) (xs ys : Array Value) (w : World) : (eqGuard op ty x y (.agg xs) (.agg ys)).run Tryz.prog w = .ok () w := by
  rcases hty with rfl | rfl | rfl
  · exact run_eqGuard_agg w op 101 x y xs ys (by kernel_rfl)
  · exact run_eqGuard_agg w op 82 x y xs ys (by kernel_rfl)
  · exact run_eqGuard_agg w op 84 x y xs ys (by kernel_rfl)
theorem sm_new {w u u' : World} {g : Nat} (h : Sm w u) (k : Ch (· = g) u u') (hg : w.heap.size ≤ g) : Sm w u' := h.trans' k (fun i hi e => by omega)

set_option maxRecDepth 100000 in
set_option maxHeartbeats 4000000 in
theorem alike_same (a b : Int) (fa fb : Nat) (La Lb : Lay) (x y : FS) (w : World) (ha : -9223372036854775808 ≤ a ∧ a ≤ 9223372036854775807) (hb : -9223372036854775808 ≤ b ∧ b ≤ 9223372036854775807) (hA : FAt w fa La x) (hB : FAt w fb Lb y) (hxy : x.t = y.t) (hI : x.t.Inv) (hr : x.t.rows = szR a) (hc : x.t.cols = szC b) :
    Calls Tryz.prog 16 #[.agg #[.int .i64 a, .int .i64 b], .pointer (some ⟨fa, 0, none⟩), .pointer (some ⟨fb, 0, none⟩)] w fun e w' => e = .returned (.bool true) ∧ Sm w w' := by
  have hrb := szR_bd a
  have hcb := szC_bd b
  obtain ⟨W, hW⟩ : ∃ W, W = w.alloc (.cells #[.int .i64 a, .int .i64 b] 36) := ⟨_, rfl⟩
  have SW : Sm w W := by rw [hW]; exact (Ch.refl _ _).alloc _
  have GW : W.heap[w.heap.size]? = some (.cells #[.int .i64 a, .int .i64 b] 36 (0, 0)) := by rw [hW]; exact heap_alloc_new _ _
  have KA : ∀ u, Sm W u → FAt u fa La x := fun u hu => hA.kept (SW.trans hu) id (fun _ _ => id)
  have KB : ∀ u, Sm W u → FAt u fb Lb y := fun u hu => hB.kept (SW.trans hu) id (fun _ _ => id)
  have hszW : W.heap.size = w.heap.size + 1 := by rw [hW]; simp
  have kA1 : ∀ u, Sm W u → _ := fun u hu => look_any fa La x u (KA u hu)
  have kB1 : ∀ u, Sm W u → _ := fun u hu => look_any fb Lb y u (KB u hu)
  have kA2 : ∀ n : Nat, n < 2 → ∀ u, Sm W u → _ := fun n hn u hu => saved_any fa La x n hn u (KA u hu)
  have kB2 : ∀ n : Nat, n < 2 → ∀ u, Sm W u → _ := fun n hn u hu => saved_any fb Lb y n hn u (KB u hu)
  have kA3 : ∀ n i k : Nat, n < 2 → i < szR a → k < szC b → ∀ u, Sm W u → _ := fun n i k hn hi hk u hu => cell_in fa La x n i k hn (by rw [hr]; exact hi) (by rw [hc]; exact hk) u (KA u hu) hI
  have kB3 : ∀ n i k : Nat, n < 2 → i < szR a → k < szC b → ∀ u, Sm W u → _ := fun n i k hn hi hk u hu => cell_in fb Lb y n i k hn (by rw [← hxy, hr]; exact hi) (by rw [← hxy, hc]; exact hk) u (KB u hu) (hxy ▸ hI)
  have kA4 : ∀ k : Nat, k < szC b → ∀ u, Sm W u → _ := fun k hk u hu => tab_in fa La x k (by rw [hc]; exact hk) u (KA u hu) hI
  have kB4 : ∀ k : Nat, k < szC b → ∀ u, Sm W u → _ := fun k hk u hu => tab_in fb Lb y k (by rw [← hxy, hc]; exact hk) u (KB u hu) (hxy ▸ hI)
  simp only [← hxy] at kB1 kB2 kB3 kB4
  have kR : ∀ u, _ := fun u => srows_any a b u ha
  have kC : ∀ u, _ := fun u => scols_any a b u hb
  have SZ : ∀ u, Sm W u → u.rangeAt w.heap.size 0 [.int .i64 a, .int .i64 b] := fun u hu j v hv => by
    rw [cell_of_row _ _ _ _ _ _ ((hu.block _ (by omega) id).trans GW), Nat.zero_add]; simpa using hv
  generalize x.t = t at *
  have HW : Hid _ := hW
  clear hA hB hxy hI hr hc hW KA KB
  go_enter Tryz.func16, Tryz.ntmps16
  go_wp2_with fail
  rw [← HW.out]
  have S0 : Sm W W := Ch.refl _ _
  refine (kA1 W S0).mono ?_
  rintro e x1 ⟨rfl, q1⟩
  go_wp2_with (refine wp_blkset _ rfl 84 (.tmp 7) (.tmp 26) rfl x1.heap.size [.int .i64 0, .int .i64 0, .bool false, .bool false, .bool false, .bool false, .int .i64 0, .int .i64 0, .int .i64 0, .int .i64 0, .int .i64 0, .bool false, .int .i64 0, .int .i64 0, .bool false, .bool false, .int .i64 0] (stV t) rfl _ rfl rfl 84 (heap_alloc_new _ _) rfl info56 (stV_one t) ?_)
  intro y1 g1 k1 z1
  have Sy1 : Sm W y1 := sm_new ((S0.trans q1).alloc _) k1 (by have := S0.size; have := q1.size; omega)
  have hs1 := blk_lt g1
  clear k1 z1 q1
  go_wp2_with fail
  refine (kB1 y1 Sy1).mono ?_
  rintro e x2 ⟨rfl, q2⟩
  go_wp2_with (refine wp_blkset _ rfl 84 (.tmp 8) (.tmp 28) rfl x2.heap.size [.int .i64 0, .int .i64 0, .bool false, .bool false, .bool false, .bool false, .int .i64 0, .int .i64 0, .int .i64 0, .int .i64 0, .int .i64 0, .bool false, .int .i64 0, .int .i64 0, .bool false, .bool false, .int .i64 0] (stV t) rfl _ rfl rfl 84 (heap_alloc_new _ _) rfl info56 (stV_one t) ?_)
  intro y2 g2 k2 z2
  have Sy2 : Sm W y2 := sm_new ((Sy1.trans q2).alloc _) k2 (by have := Sy1.size; have := q2.size; omega)
  have g1' : y2.heap[x1.heap.size]? = _ := ((k2.block _ (by have := q2.size; simp; omega) (by have := q2.size; omega)).trans ((Below.heap_alloc _ _ _ (by have := q2.size; omega)).trans (q2.block _ hs1 id))).trans g1
  clear k2 z2 q2 g1 hs1 Sy1
  go_wp2_with (first | (refine wpList_load_row rfl 84 (.tmp 7) rfl x1.heap.size rfl 84 _ (0, 0) _ g1' Tryz.underlying84 rfl info56 ?_) | (refine wpList_load_row rfl 84 (.tmp 8) rfl x2.heap.size rfl 84 _ (0, 0) _ g2 Tryz.underlying84 rfl info56 ?_) | (refine wp_neqS rfl 84 _ _ rfl _ rfl rfl (guardS 84 (by simp) _ _ _ _ _) (neqState t) ?_))
  clear g1' g2
  go_loopw [9] (fun i wq => ∃ n : Nat, n ≤ 2 ∧ i = .int .i64 n ∧ Sm W wq) (fun i _ => 2 - (intOf i).toNat)
  case atStart => exact ⟨0, by omega, rfl, Sy2⟩
  case round =>
    clear Sy2
    obtain ⟨n, hn, rfl, S1⟩ := hrel
    by_cases hn2 : n < 2
    · have i2 : (n : Int) < 2 := by omega
      have vn : IntKind.i64.wrap ((n : Int) + 1) = (n : Int) + 1 := IntWalk.i64_in _ (by omega)
      go_wp2_with fail
      refine (kA2 n hn2 _ S1).mono ?_
      rintro e x1 ⟨rfl, q1⟩
      go_wp2_with (refine wp_blkset _ rfl 82 (.tmp 10) (.tmp 40) rfl x1.heap.size [.int .i64 0, .int .i64 0, .bool false, .bool false, .bool false, .bool false, .int .i64 0, .int .i64 0, .int .i64 0, .int .i64 0, .int .i64 0, .bool false] (spotV (t.savedAt n)) rfl _ rfl rfl 82 (heap_alloc_new _ _) rfl info54s (spotV_one _) ?_)
      intro y1 g1 k1 z1
      have Sy1 : Sm W y1 := sm_new ((S1.trans q1).alloc _) k1 (by have := S1.size; have := q1.size; omega)
      have hs1 := blk_lt g1
      clear k1 z1 q1
      go_wp2_with fail
      refine (kB2 n hn2 y1 Sy1).mono ?_
      rintro e x2 ⟨rfl, q2⟩
      go_wp2_with (refine wp_blkset _ rfl 82 (.tmp 12) (.tmp 46) rfl x2.heap.size [.int .i64 0, .int .i64 0, .bool false, .bool false, .bool false, .bool false, .int .i64 0, .int .i64 0, .int .i64 0, .int .i64 0, .int .i64 0, .bool false] (spotV (t.savedAt n)) rfl _ rfl rfl 82 (heap_alloc_new _ _) rfl info54s (spotV_one _) ?_)
      intro y2 g2 k2 z2
      have Sy2 : Sm W y2 := sm_new ((Sy1.trans q2).alloc _) k2 (by have := Sy1.size; have := q2.size; omega)
      have g1' : y2.heap[x1.heap.size]? = _ := ((k2.block _ (by have := q2.size; simp; omega) (by have := q2.size; omega)).trans ((Below.heap_alloc _ _ _ (by have := q2.size; omega)).trans (q2.block _ hs1 id))).trans g1
      clear k2 z2 q2 g1 hs1 Sy1
      go_wp2_with (first | (refine wpList_load_row rfl 82 (.tmp 10) rfl x1.heap.size rfl 82 _ (0, 0) _ g1' Tryz.underlying82 rfl info54s ?_) | (refine wpList_load_row rfl 82 (.tmp 12) rfl x2.heap.size rfl 82 _ (0, 0) _ g2 Tryz.underlying82 rfl info54s ?_) | (refine wp_neqS rfl 82 _ _ rfl _ rfl rfl (guardS 82 (by simp) _ _ _ _ _) (neqSpot (t.savedAt n)) ?_))
      clear g1' g2
      go_loopw [14] (fun i wq => ∃ r : Nat, r ≤ szR a ∧ i = .int .i64 r ∧ Sm W wq) (fun i _ => szR a - (intOf i).toNat)
      case atStart => exact ⟨0, Nat.zero_le _, rfl, Sy2⟩
      case round =>
        obtain ⟨r, hrr, rfl, S2⟩ := hrel
        by_cases hr2 : r < szR a
        · have ir : (r : Int) < (szR a : Int) := by omega
          have vr : IntKind.i64.wrap ((r : Int) + 1) = (r : Int) + 1 := IntWalk.i64_in _ (by omega)
          go_wp2_with (first | (refine wpList_load_mid rfl 36 (.tmp 3) rfl w.heap.size 0 rfl [.int .i64 a, .int .i64 b] _ (SZ _ S2) Tryz.underlying36 rfl info41 ?_) | (go_at_call 36; refine (kR _).mono ?_; rintro e z2 ⟨rfl, b9⟩))
          have S2b : Sm W z2 := S2.trans (Ch.of_below b9)
          clear b9
          go_loopw [15] (fun i wq => ∃ k : Nat, k ≤ szC b ∧ i = .int .i64 k ∧ Sm W wq) (fun i _ => szC b - (intOf i).toNat)
          case atStart => exact ⟨0, Nat.zero_le _, rfl, S2b⟩
          case round =>
            obtain ⟨k, hk, rfl, S3⟩ := hrel
            by_cases hk2 : k < szC b
            · have ik : (k : Int) < (szC b : Int) := by omega
              have vk : IntKind.i64.wrap ((k : Int) + 1) = (k : Int) + 1 := IntWalk.i64_in _ (by omega)
              go_wp2_with (first | (refine wpList_load_mid rfl 36 (.tmp 3) rfl w.heap.size 0 rfl [.int .i64 a, .int .i64 b] _ (SZ _ S3) Tryz.underlying36 rfl info41 ?_) | (go_at_call 37; refine (kC _).mono ?_; rintro e z3 ⟨rfl, b9⟩))
              have S3b : Sm W z3 := S3.trans (Ch.of_below b9)
              clear b9
              refine (kA3 n r k hn2 hr2 hk2 z3 S3b).mono ?_
              rintro e x1 ⟨rfl, q1⟩
              go_wp2_with (refine wp_blkset _ rfl 101 (.tmp 16) (.tmp 77) rfl x1.heap.size (cellV zeroC) (cellV (t.cellAt n r k)) rfl _ rfl rfl 101 (heap_alloc_new _ _) rfl info49 (cellV_one _) ?_)
              intro y1 g1 k1 z1
              have Sy1 : Sm W y1 := sm_new ((S3b.trans q1).alloc _) k1 (by have := S3b.size; have := q1.size; omega)
              have hs1 := blk_lt g1
              clear k1 z1 q1
              go_wp2_with fail
              refine (kB3 n r k hn2 hr2 hk2 y1 Sy1).mono ?_
              rintro e x2 ⟨rfl, q2⟩
              go_wp2_with (refine wp_blkset _ rfl 101 (.tmp 18) (.tmp 85) rfl x2.heap.size (cellV zeroC) (cellV (t.cellAt n r k)) rfl _ rfl rfl 101 (heap_alloc_new _ _) rfl info49 (cellV_one _) ?_)
              intro y2 g2 k2 z2
              have Sy2 : Sm W y2 := sm_new ((Sy1.trans q2).alloc _) k2 (by have := Sy1.size; have := q2.size; omega)
              have g1' : y2.heap[x1.heap.size]? = _ := ((k2.block _ (by have := q2.size; simp; omega) (by have := q2.size; omega)).trans ((Below.heap_alloc _ _ _ (by have := q2.size; omega)).trans (q2.block _ hs1 id))).trans g1
              clear k2 z2 q2 g1 hs1 Sy1
              go_wp2_with (first | (refine wpList_load_row rfl 101 (.tmp 16) rfl x1.heap.size rfl 101 _ (0, 0) _ g1' Tryz.underlying101 rfl info49 ?_) | (refine wpList_load_row rfl 101 (.tmp 18) rfl x2.heap.size rfl 101 _ (0, 0) _ g2 Tryz.underlying101 rfl info49 ?_) | (refine wp_neqS rfl 101 _ _ rfl _ rfl rfl (guardS 101 (by simp) _ _ _ _ _) (neqCell (t.cellAt n r k)) ?_))
              clear g1' g2
              go_roundw
              case rel => exact ⟨k + 1, by omega, by go_num, Sy2⟩
              case measure => simp [intOf]; omega
            · have ik : ¬ (k : Int) < (szC b : Int) := by omega
              go_wp2_with (first | (refine wpList_load_mid rfl 36 (.tmp 3) rfl w.heap.size 0 rfl [.int .i64 a, .int .i64 b] _ (SZ _ S3) Tryz.underlying36 rfl info41 ?_) | (go_at_call 37; refine (kC _).mono ?_; rintro e z3 ⟨rfl, b9⟩))
              have S3b : Sm W z3 := S3.trans (Ch.of_below b9)
              go_roundw
              case rel => exact ⟨r + 1, by omega, by go_num, S3b⟩
              case measure => simp [intOf]; omega
        · have ir : ¬ (r : Int) < (szR a : Int) := by omega
          go_wp2_with (first | (refine wpList_load_mid rfl 36 (.tmp 3) rfl w.heap.size 0 rfl [.int .i64 a, .int .i64 b] _ (SZ _ S2) Tryz.underlying36 rfl info41 ?_) | (go_at_call 36; refine (kR _).mono ?_; rintro e z2 ⟨rfl, b9⟩))
          have S2b : Sm W z2 := S2.trans (Ch.of_below b9)
          go_roundw
          case rel => exact ⟨n + 1, by omega, by go_num, S2b⟩
          case measure => simp [intOf]; omega
    · have i2 : ¬ (n : Int) < 2 := by omega
      go_wp2_with fail
      go_loopw [20] (fun i wq => ∃ k : Nat, k ≤ szC b ∧ i = .int .i64 k ∧ Sm W wq) (fun i _ => szC b - (intOf i).toNat)
      case atStart => exact ⟨0, Nat.zero_le _, rfl, S1⟩
      case round =>
        obtain ⟨k, hk, rfl, S4⟩ := hrel
        by_cases hk2 : k < szC b
        · have ik : (k : Int) < (szC b : Int) := by omega
          have vk : IntKind.i64.wrap ((k : Int) + 1) = (k : Int) + 1 := IntWalk.i64_in _ (by omega)
          go_wp2_with (first | (refine wpList_load_mid rfl 36 (.tmp 3) rfl w.heap.size 0 rfl [.int .i64 a, .int .i64 b] _ (SZ _ S4) Tryz.underlying36 rfl info41 ?_) | (go_at_call 37; refine (kC _).mono ?_; rintro e z4 ⟨rfl, b9⟩))
          have S4b : Sm W z4 := S4.trans (Ch.of_below b9)
          have l4 := kA4 k hk2
          have l5 := kB4 k hk2
          generalize t.tabs.getD k false = tb at l4 l5
          refine (l4 z4 S4b).mono ?_
          rintro e x1 ⟨rfl, hx1⟩
          subst hx1
          go_wp2_with fail
          refine (l5 _ S4b).mono ?_
          rintro e x2 ⟨rfl, hx2⟩
          subst hx2
          go_wp2_with fail
          go_roundw
          case rel => exact ⟨k + 1, by omega, by go_num, S4b⟩
          case measure => simp [intOf]; omega
        · have ik : ¬ (k : Int) < (szC b : Int) := by omega
          go_wp2_with (first | (refine wpList_load_mid rfl 36 (.tmp 3) rfl w.heap.size 0 rfl [.int .i64 a, .int .i64 b] _ (SZ _ S4) Tryz.underlying36 rfl info41 ?_) | (go_at_call 37; refine (kC _).mono ?_; rintro e z4 ⟨rfl, b9⟩))
          have S4b : Sm W z4 := S4.trans (Ch.of_below b9)
          go_ret
          exact ⟨rfl, SW.trans S4b⟩
end Go.Proofs.YtheibfffilomcaaGreatDoor

/- A terminal's size stays. -/
namespace Go.Proofs.YtheibfffilomcaaGreatDoor

namespace TS
def dim (s : TS) : Nat × Nat := (s.rows, s.cols)
theorem dim_setCur (s : TS) (S : Sheet) : (s.setCur S).dim = s.dim := by unfold setCur; split <;> rfl
theorem dim_toCol (s : TS) (c : Int) : (s.toCol c).dim = s.dim := rfl
theorem dim_toRow (s : TS) (c : Int) : (s.toRow c).dim = s.dim := rfl
theorem dim_toCounted (s : TS) (c : Int) : (s.toCounted c).dim = s.dim := by unfold toCounted; split <;> rfl
theorem dim_home (s : TS) : s.home.dim = s.dim := (dim_toCounted s 0)
theorem dim_rise (s : TS) (n : Int) : (s.rise n).dim = s.dim := rfl
theorem dim_sink (s : TS) (n : Int) : (s.sink n).dim = s.dim := rfl
theorem dim_scrollUp (s : TS) (n : Nat) : (s.scrollUp n).dim = s.dim := dim_setCur _ _
theorem dim_scrollDown (s : TS) (n : Nat) : (s.scrollDown n).dim = s.dim := dim_setCur _ _
theorem dim_down (s : TS) : s.down.dim = s.dim := by unfold down; split <;> first | exact dim_scrollUp _ _ | rfl
theorem dim_up (s : TS) : s.up.dim = s.dim := by unfold up; split <;> first | exact dim_scrollDown _ _ | rfl
theorem dim_nextLine (s : TS) : s.nextLine.dim = s.dim := dim_down _
theorem dim_nextTab (s : TS) : s.nextTab.dim = s.dim := rfl
theorem dim_save (s : TS) : s.save.dim = s.dim := by unfold save; split <;> rfl
theorem dim_restore (s : TS) : s.restore.dim = s.dim := rfl
theorem dim_setRowNow (s : TS) (r : List CellS) : (s.setRowNow r).dim = s.dim := dim_setCur _ _
theorem dim_putNow (s : TS) (c : Int) (wd : Nat) : (s.putNow c wd).dim = s.dim := dim_setCur _ _
theorem dim_insNow (s : TS) (wd : Nat) : (s.insNow wd).dim = s.dim := dim_setCur _ _
theorem dim_step (s : TS) (wd : Nat) : (s.step wd).dim = s.dim := rfl
theorem dim_unwait (s : TS) : s.unwait.dim = s.dim := rfl
theorem dim_print1 (s : TS) : s.print1.dim = s.dim := by unfold print1; split <;> first | exact dim_nextLine _ | rfl
theorem dim_print2 (s : TS) (c : Int) (wd : Nat) : (s.print2 c wd).dim = s.dim := by
  unfold print2
  rw [dim_step, dim_putNow]
  split
  · exact dim_insNow _ _
  · rfl
theorem dim_print (s : TS) (c : Int) (wd : Nat) : (s.print c wd).dim = s.dim := by
  unfold print
  split
  · rfl
  · split
    · split
      · rw [dim_print2, dim_nextLine, dim_print1]
      · exact dim_print1 s
    · rw [dim_print2, dim_print1]
theorem dim_control (s : TS) (c : Int) : (s.control c).dim = s.dim := by
  unfold control
  have h : (if 8 ≤ c ∧ c ≤ 13 then s.unwait else s).dim = s.dim := by split <;> rfl
  rw [← h]
  generalize (if 8 ≤ c ∧ c ≤ 13 then s.unwait else s) = t
  simp only
  repeat' split
  all_goals first | rfl | exact dim_down _
theorem dim_bare (s : TS) (f : Int) : (s.bare f).dim = s.dim := by
  unfold bare
  repeat' split
  all_goals first | rfl | exact dim_save _ | exact dim_down _ | exact dim_up _ | exact dim_nextLine _
theorem dim_escape (s : TS) (m f : Int) : (s.escape m f).dim = s.dim := by
  unfold escape
  repeat' split
  all_goals first | rfl | exact dim_bare _ _
theorem dim_move (s : TS) (f p q : Int) : (s.move f p q).dim = s.dim := by
  unfold move
  repeat' split
  all_goals first | rfl | exact dim_toCounted _ _
theorem dim_clearRow (s : TS) (n : Int) : (s.clearRow n).dim = s.dim := by
  unfold clearRow
  repeat' split
  all_goals first | rfl | exact dim_setCur _ _
theorem dim_clearOther (s : TS) (n : Int) : (s.clearOther n).dim = s.dim := by
  unfold clearOther
  repeat' split
  all_goals first | rfl | exact dim_setCur _ _
theorem dim_edit (s : TS) (f p : Int) : (s.edit f p).dim = s.dim := by
  unfold edit
  simp only
  repeat' split
  all_goals first | rfl | exact dim_setCur _ _ | exact dim_clearRow _ _ | exact (dim_clearOther _ _).trans (dim_clearRow _ _)
theorem dim_setRegion (s : TS) (t b : Int) : (s.setRegion t b).dim = s.dim := by
  unfold setRegion
  simp only
  repeat' split
  all_goals first | rfl | exact dim_home _
theorem dim_clearTabs (s : TS) (n : Int) : (s.clearTabs n).dim = s.dim := by
  unfold clearTabs
  repeat' split
  all_goals rfl
theorem dim_turns (l : List Int) : ∀ s : TS, (s.turns l).dim = s.dim := by
  induction l with
  | nil => intro s; rfl
  | cons n l ih => intro s; exact (ih _)
theorem dim_adjust (s : TS) (f : Int) (ps : List Int) (ct : Nat) : (s.adjust f ps ct).dim = s.dim := by
  unfold adjust
  repeat' split
  all_goals first | rfl | exact dim_setRegion _ _ _ | exact dim_clearTabs _ _ | exact dim_turns _ _
theorem dim_set1 (s : TS) (n : Int) (on : Bool) : (s.set1 n on).dim = s.dim := by
  unfold set1
  repeat' split
  all_goals first | rfl | exact dim_home _
theorem dim_sets (on : Bool) (l : List Int) : ∀ s : TS, (s.sets on l).dim = s.dim := by
  induction l with
  | nil => intro s; rfl
  | cons n l ih => intro s; exact (ih _).trans (dim_set1 _ _ _)
theorem dim_sequence (s : TS) (m f : Int) (ps : List Int) (ct : Nat) : (s.sequence m f ps ct).dim = s.dim := by
  unfold sequence
  split
  · simp only
    rw [dim_adjust, dim_edit, dim_move]
    split <;> rfl
  · split
    · split
      · exact dim_sets _ _ _
      · rfl
    · rfl
theorem dim_take (s : TS) (e : List Int) : (s.take e).dim = s.dim := by
  unfold take
  repeat' split
  all_goals first | rfl | exact dim_print _ _ _ | exact dim_control _ _ | exact dim_escape _ _ _ | exact dim_sequence _ _ _ _ _
end TS
theorem dim_char (x : FS) (c : Int) : (x.char c).t.dim = x.t.dim := by
  unfold FS.char
  show TS.dim (if _ then _ else _) = _
  split
  · exact TS.dim_take _ _
  · rfl
theorem dim_chars (l : List Int) : ∀ x : FS, (x.chars l).t.dim = x.t.dim := by
  induction l with
  | nil => intro x; rfl
  | cons c l ih => intro x; exact (ih _).trans (dim_char _ _)
theorem dim_feed (l : List Int) : ∀ x : FS, (x.feed l).t.dim = x.t.dim := by
  induction l with
  | nil => intro x; rfl
  | cons c l ih => intro x; exact (ih _).trans (dim_chars _ _)
theorem fresh_rows (r c : Nat) (l : List Int) : ((FS.fresh r c).feed l).t.rows = r := congrArg Prod.fst (dim_feed l (FS.fresh r c))
theorem fresh_cols (r c : Nat) (l : List Int) : ((FS.fresh r c).feed l).t.cols = c := congrArg Prod.snd (dim_feed l (FS.fresh r c))
end Go.Proofs.YtheibfffilomcaaGreatDoor

/- What CAN, and ESC c behind it, do to a terminal: plain facts. -/
namespace Go.Proofs.YtheibfffilomcaaGreatDoor

theorem byte_low (x : FS) (b : Int) (h : x.r.m = 0) (hb : b < 128) : x.byte b = x.char b := by
  unfold FS.byte RS.take RS.beg
  simp [h, hb, FS.chars]
theorem char_can (x : FS) : x.char 24 = ⟨x.r, .zero, x.t⟩ := by
  unfold FS.char MS.take
  simp
theorem char_esc (x : FS) : x.char 27 = ⟨x.r, ⟨1, 0, 0, z16⟩, x.t⟩ := by
  unfold FS.char MS.take
  simp
/-- Behind CAN nothing is begun, and the size is what it was. -/
theorem can_any (x : FS) (hlo : x.r.m ≠ 0 → 24 < x.r.lo) : (x.byte 24).r.m = 0 ∧ (x.byte 24).m = .zero ∧ (x.byte 24).t.dim = x.t.dim := by
  by_cases h : x.r.m = 0
  · rw [byte_low x 24 h (by omega), char_can]
    exact ⟨h, rfl, rfl⟩
  · have e : x.byte 24 = FS.char (FS.char ⟨.zero, x.m, x.t⟩ 65533) 24 := by
      unfold FS.byte RS.take RS.fin RS.beg
      simp [h, hlo h, FS.chars]
    rw [e, char_can]
    exact ⟨rfl, rfl, dim_char ⟨.zero, x.m, x.t⟩ 65533⟩
theorem can_reset (x : FS) (hlo : x.r.m ≠ 0 → 24 < x.r.lo) : (x.feed [24, 27, 99]).t = TS.fresh x.t.rows x.t.cols := by
  obtain ⟨h1, h2, h3⟩ := can_any x hlo
  show (((x.byte 24).byte 27).byte 99).t = _
  generalize x.byte 24 = y at *
  rw [byte_low y 27 h1 (by omega), char_esc, byte_low ⟨y.r, ⟨1, 0, 0, z16⟩, y.t⟩ 99 h1 (by omega)]
  have e1 : y.t.rows = x.t.rows := congrArg Prod.fst h3
  have e2 : y.t.cols = x.t.cols := congrArg Prod.snd h3
  rw [← e1, ← e2]
  rfl
/-- What goes on is 128 or more. -/
def RS.Low (s : RS) : Prop := s.m ≠ 0 → 128 ≤ s.lo
theorem lead_low {b : Int} {r : RS} (h : lead b = some r) : r.Low := by
  unfold lead at h
  repeat' split at h
  all_goals first | (cases h; done) | (cases h; intro _; dsimp only; omega)
theorem RS.Low.zero : RS.zero.Low := fun h => absurd rfl h
theorem RS.Low.beg {s : RS} (h : s.Low) (b : Int) : (s.beg b).1.Low := by
  unfold RS.beg
  split
  · exact h
  · split
    · rename_i r hr; exact lead_low hr
    · exact h
theorem RS.Low.take {s : RS} (h : s.Low) (b : Int) : (s.take b).1.Low := by
  unfold RS.take
  split
  · exact h.beg b
  · split
    · have hf : s.fin.1.Low := by
        unfold RS.fin
        split
        · exact h
        · exact RS.Low.zero
      exact hf.beg b
    · unfold RS.join
      split
      · exact RS.Low.zero
      · intro _; show (128 : Int) ≤ 128; omega
theorem chars_r (l : List Int) : ∀ x : FS, (x.chars l).r = x.r := by
  induction l with
  | nil => intro x; rfl
  | cons c l ih => intro x; exact ih _
theorem FS.low_feed (l : List Int) : ∀ x : FS, x.r.Low → (x.feed l).r.Low := by
  induction l with
  | nil => intro x h; exact h
  | cons b l ih =>
    intro x h
    refine ih (x.byte b) ?_
    unfold FS.byte
    rw [chars_r]
    exact h.take b
theorem feed_reset (r c : Nat) (l : List Int) : (((FS.fresh r c).feed l).feed [24, 27, 99]).t = TS.fresh r c := by
  have h := FS.low_feed l (FS.fresh r c) RS.Low.zero
  rw [can_reset _ (fun q => by have := h q; omega), fresh_rows, fresh_cols]
end Go.Proofs.YtheibfffilomcaaGreatDoor

/- Rows whose halves belong together, and what keeps them so: plain facts. -/
namespace Go.Proofs.YtheibfffilomcaaGreatDoor

/-- A character that bytes can tell; colours that there are. -/
def ScN (c : Int) : Prop := 0 ≤ c ∧ c ≤ 1114111 ∧ ¬ (55296 ≤ c ∧ c ≤ 57343)
def PenS.Ok (p : PenS) : Prop := 0 ≤ p.f ∧ p.f ≤ 8 ∧ 0 ≤ p.k ∧ p.k ≤ 8
theorem pen0_ok : pen0.Ok := ⟨by decide, by decide, by decide, by decide⟩
def CellS.Ok (c : CellS) : Prop := ScN c.r ∧ c.p.Ok
theorem blank_ok : blankS.Ok := ⟨⟨by decide, by decide, by decide⟩, pen0_ok⟩
/-- A row: characters of one cell, and wide ones of two. -/
inductive GoodR : List CellS → Prop
  | nil : GoodR []
  | one (c : CellS) (r : List CellS) (hp : c.part = 0) (hw : widN c.r = 1) (hs : c.Ok) (h : GoodR r) : GoodR (c :: r)
  | two (c : CellS) (r : List CellS) (hp : c.part = 1) (hw : widN c.r = 2) (hs : c.Ok) (h : GoodR r) : GoodR (c :: tailS c :: r)
theorem GoodR.append {a b : List CellS} (h : GoodR a) (k : GoodR b) : GoodR (a ++ b) := by
  induction h with
  | nil => exact k
  | one c r hp hw hs _ ih => exact .one c _ hp hw hs ih
  | two c r hp hw hs _ ih => exact .two c _ hp hw hs ih
theorem wid32 : widN 32 = 1 := by decide
theorem GoodR.blank (n : Nat) : GoodR (List.replicate n blankS) := by
  induction n with
  | zero => exact .nil
  | succ n ih => exact .one _ _ rfl wid32 blank_ok ih
theorem GoodR.head {r : List CellS} (h : GoodR r) (d : CellS) (hd : d.part ≠ 2) : (r.getD 0 d).part ≠ 2 := by
  cases h with
  | nil => exact hd
  | one c r hp _ _ _ => simp [hp]
  | two c r hp _ _ _ => simp [hp]
/-- A border is between characters, or within a wide one. -/
theorem GoodR.cut {r : List CellS} (h : GoodR r) : ∀ a, (GoodR (r.take a) ∧ GoodR (r.drop a)) ∨ ∃ A c B, r = A ++ c :: tailS c :: B ∧ A.length + 1 = a ∧ GoodR A ∧ GoodR B := by
  induction h with
  | nil => intro a; left; simp; exact GoodR.nil
  | one c r hp hw hs h ih =>
    intro a
    cases a with
    | zero => left; exact ⟨.nil, .one c r hp hw hs h⟩
    | succ a =>
      rcases ih a with ⟨h1, h2⟩ | ⟨A, d, B, h1, h2, h3, h4⟩
      · left; exact ⟨.one c _ hp hw hs h1, h2⟩
      · right; exact ⟨c :: A, d, B, by rw [h1]; rfl, by simp [h2], .one c _ hp hw hs h3, h4⟩
  | two c r hp hw hs h ih =>
    intro a
    match a with
    | 0 => left; exact ⟨.nil, .two c r hp hw hs h⟩
    | 1 => right; exact ⟨[], c, r, rfl, rfl, .nil, h⟩
    | a + 2 =>
      rcases ih a with ⟨h1, h2⟩ | ⟨A, d, B, h1, h2, h3, h4⟩
      · left; exact ⟨.two c _ hp hw hs h1, h2⟩
      · right; exact ⟨c :: tailS c :: A, d, B, by rw [h1]; rfl, by simp [h2], .two c _ hp hw hs h3, h4⟩
theorem splitR_ok {r : List CellS} {a : Nat} (h : ∀ x, r[a]? = some x → x.part ≠ 2) : splitR r a = r := by
  unfold splitR
  rw [if_neg]
  rintro ⟨_, h2, h3⟩
  have := h _ (List.getElem?_eq_getElem h2)
  apply this
  have e : r.getD a blankS = r[a] := by simp [List.getD, List.getElem?_eq_getElem h2]
  rw [← e, h3]; rfl
theorem splitR_in (A : List CellS) (c : CellS) (B : List CellS) : splitR (A ++ c :: tailS c :: B) (A.length + 1) = A ++ blankS :: blankS :: B := by
  unfold splitR
  rw [if_pos]
  · simp
  · refine ⟨by omega, by simp, ?_⟩
    simp [List.getD]
theorem GoodR.at0 {r : List CellS} (h : GoodR r) {x : CellS} (hx : r[0]? = some x) : x.part ≠ 2 := by
  cases h with
  | nil => simp at hx
  | one c r hp _ _ _ => simp at hx; subst hx; omega
  | two c r hp _ _ _ => simp at hx; subst hx; omega
theorem split1 {r : List CellS} (h : GoodR r) {a : Nat} (ha : a ≤ r.length) : ∃ P Q, splitR r a = P ++ Q ∧ P.length = a ∧ GoodR P ∧ GoodR Q := by
  rcases h.cut a with ⟨h1, h2⟩ | ⟨A, c, B, rfl, rfl, h3, h4⟩
  · refine ⟨r.take a, r.drop a, ?_, by simp [ha], h1, h2⟩
    rw [List.take_append_drop]
    apply splitR_ok
    intro x hx
    exact h2.at0 (x := x) (by rw [List.getElem?_drop]; simpa using hx)
  · refine ⟨A ++ [blankS], blankS :: B, ?_, by simp, h3.append (.one _ _ rfl wid32 blank_ok .nil), .one _ _ rfl wid32 blank_ok h4⟩
    rw [splitR_in]; simp
theorem split_app (P : List CellS) {Q : List CellS} (h : GoodR Q) (k : Nat) : splitR (P ++ Q) (P.length + k) = P ++ splitR Q k := by
  rcases h.cut k with ⟨h1, h2⟩ | ⟨A, c, B, rfl, rfl, h3, h4⟩
  · have hq : ∀ x, Q[k]? = some x → x.part ≠ 2 := fun x hx => h2.at0 (x := x) (by rw [List.getElem?_drop]; simpa using hx)
    rw [splitR_ok hq, splitR_ok]
    intro x hx
    rw [List.getElem?_append_right (by omega)] at hx
    exact hq x (by simpa using hx)
  · have e : P ++ (A ++ c :: tailS c :: B) = (P ++ A) ++ c :: tailS c :: B := by simp
    rw [e, show P.length + (A.length + 1) = (P ++ A).length + 1 by simp; omega, splitR_in, splitR_in]; simp
theorem split2 {r : List CellS} (h : GoodR r) {a b : Nat} (hab : a ≤ b) (hb : b ≤ r.length) : ∃ P M Q, splitR (splitR r a) b = P ++ (M ++ Q) ∧ P.length = a ∧ M.length = b - a ∧ GoodR P ∧ GoodR M ∧ GoodR Q := by
  obtain ⟨P, R, e, hp, g1, g2⟩ := split1 h (a := a) (by omega)
  have hl : r.length = P.length + R.length := by rw [← List.length_append, ← e, splitR_length]
  obtain ⟨M, Q, e2, hm, g3, g4⟩ := split1 g2 (a := b - a) (by omega)
  refine ⟨P, M, Q, ?_, hp, hm, g1, g3, g4⟩
  rw [e, show b = P.length + (b - a) by omega, split_app P g2, e2]
theorem GoodR.clear {r : List CellS} (h : GoodR r) {a b : Nat} (hab : a ≤ b) (hb : b ≤ r.length) : GoodR (clearR r a b) := by
  obtain ⟨P, M, Q, e, h1, h2, h3, h4, h5⟩ := split2 h hab hb
  unfold clearR wipeR
  rw [e]
  have e1 : (P ++ (M ++ Q)).take a = P := by rw [← h1]; simp
  have e2 : (P ++ (M ++ Q)).drop (a + (b - a)) = Q := by rw [← List.append_assoc, show a + (b - a) = (P ++ M).length by simp; omega, List.drop_left]
  rw [e1, e2]
  exact h3.append ((GoodR.blank _).append h5)
theorem GoodR.put {r : List CellS} (h : GoodR r) {a : Nat} {c : Int} {wd : Nat} (p : PenS) (hs : ScN c) (hp : p.Ok) (hw : widN c = wd) (hwd : wd = 1 ∨ wd = 2) (hb : a + wd ≤ r.length) : GoodR (putR r a c wd p) := by
  obtain ⟨P, M, Q, e, h1, h2, h3, h4, h5⟩ := split2 h (a := a) (b := a + wd) (by omega) hb
  unfold putR
  rw [e]
  subst h1
  rcases hwd with rfl | rfl
  · rw [if_neg (by decide)]
    match M, h2 with
    | [x], _ =>
      simp
      exact h3.append (.one _ _ rfl (by exact_mod_cast hw) ⟨hs, hp⟩ h5)
    | [], h2 => simp at h2
    | x :: y :: M, h2 => simp at h2
  · rw [if_pos rfl]
    match M, h2 with
    | [x, y], _ =>
      simp
      exact h3.append (.two ⟨c, p, 1⟩ _ rfl (by exact_mod_cast hw) ⟨hs, hp⟩ h5)
    | [], h2 => simp at h2
    | [x], h2 => simp at h2
    | x :: y :: z :: M, h2 => simp at h2
theorem GoodR.ins {r : List CellS} (h : GoodR r) {a n : Nat} (hb : a + n ≤ r.length) : GoodR (insR r a n) := by
  obtain ⟨P, M, Q, e, h1, h2, h3, h4, h5⟩ := split2 h (a := a) (b := r.length - n) (by omega) (by omega)
  have hl : r.length = P.length + (M.length + Q.length) := by rw [← List.length_append, ← List.length_append, ← e, splitR_length, splitR_length]
  unfold insR
  rw [e]
  have e1 : ((P ++ (M ++ Q)).drop a).take (r.length - (a + n)) = M := by
    rw [← h1, List.drop_left, show r.length - (P.length + n) = M.length by omega, List.take_left]
  rw [e1]
  unfold layR
  have e2 : (P ++ (M ++ Q)).drop (a + n + M.length) = [] := List.drop_of_length_le (by simp; omega)
  rw [e2, List.append_nil]
  unfold wipeR
  have hT : ((P ++ (M ++ Q)).take (a + n)).length = a + n := by simp; omega
  have e3 : ((P ++ (M ++ Q)).take (a + n) ++ M).take a = P := by
    rw [List.take_append_of_le_length (by omega), List.take_take, Nat.min_eq_left (by omega), ← h1, List.take_left]
  have e4 : ((P ++ (M ++ Q)).take (a + n) ++ M).drop (a + n) = M := by rw [List.drop_append, List.drop_of_length_le (by omega), hT]; simp
  rw [e3, e4]
  exact h3.append ((GoodR.blank _).append h4)
theorem GoodR.rem {r : List CellS} (h : GoodR r) {a n : Nat} (hb : a + n ≤ r.length) : GoodR (remR r a n) := by
  obtain ⟨P, M, Q, e, h1, h2, h3, h4, h5⟩ := split2 h (a := a) (b := a + n) (by omega) hb
  have hl : r.length = P.length + (M.length + Q.length) := by rw [← List.length_append, ← List.length_append, ← e, splitR_length, splitR_length]
  unfold remR
  rw [e]
  have e1 : (P ++ (M ++ Q)).drop (a + n) = Q := by rw [← List.append_assoc, show a + n = (P ++ M).length by simp; omega, List.drop_left]
  rw [e1]
  unfold layR wipeR
  have e2 : (P ++ (M ++ Q)).take a = P := by rw [← h1, List.take_left]
  rw [e2]
  have e3 : (P ++ (Q ++ (P ++ (M ++ Q)).drop (a + Q.length))).take (r.length - n) = P ++ Q := by
    rw [← List.append_assoc, show r.length - n = (P ++ Q).length by simp; omega, List.take_left]
  have e4 : (P ++ (Q ++ (P ++ (M ++ Q)).drop (a + Q.length))).drop (r.length - n + n) = [] := List.drop_of_length_le (by simp; omega)
  rw [e3, e4, List.append_nil]
  exact (h3.append h5).append (GoodR.blank _)

def GoodS (cols : Nat) (S : Sheet) : Prop := ∀ r ∈ S, GoodR r ∧ r.length = cols
theorem GoodS.set {cols : Nat} {S : Sheet} (h : GoodS cols S) (i : Nat) {r : List CellS} (hr : GoodR r ∧ r.length = cols) : GoodS cols (S.set i r) := fun q hq => by
  rcases List.mem_or_eq_of_mem_set hq with hq | rfl
  · exact h q hq
  · exact hr
theorem GoodS.getD {cols : Nat} {S : Sheet} (h : GoodS cols S) {i : Nat} (hi : i < S.length) : GoodR (S.getD i []) ∧ (S.getD i []).length = cols := by
  have e : S.getD i [] = S[i] := by simp [List.getD, List.getElem?_eq_getElem hi]
  rw [e]; exact h _ (List.getElem_mem hi)
theorem GoodS.clearRows {cols : Nat} {S : Sheet} (h : GoodS cols S) (a i : Nat) : GoodS cols (clearRows S a cols i) := by
  induction i with
  | zero => exact h
  | succ i ih => exact ih.set _ ⟨GoodR.blank _, by simp [blankR]⟩
theorem GoodS.upRows {cols : Nat} {S : Sheet} (h : GoodS cols S) (a n : Nat) : ∀ i, a + i + n ≤ S.length → GoodS cols (upRows S a n i) := by
  intro i
  induction i with
  | zero => intro _; exact h
  | succ i ih => intro hi; exact (ih (by omega)).set _ ((ih (by omega)).getD (by rw [upRows_length]; omega))
theorem GoodS.downRows {cols : Nat} {S : Sheet} (h : GoodS cols S) (a n len : Nat) (hl : a + len ≤ S.length) : ∀ i, i + n ≤ len → GoodS cols (downRows S a n len i) := by
  intro i
  induction i with
  | zero => intro _; exact h
  | succ i ih => intro hi; exact (ih (by omega)).set _ ((ih (by omega)).getD (by rw [downRows_length]; omega))
theorem GoodS.up {cols : Nat} {S : Sheet} (h : GoodS cols S) (a len n : Nat) (hl : a + len ≤ S.length) : GoodS cols (upS S a len n cols) := by
  unfold upS
  refine GoodS.clearRows ?_ _ _
  by_cases hn : n ≤ len
  · exact h.upRows a n _ (by omega)
  · rw [show len - min n len = 0 by omega]; exact h
theorem GoodS.down {cols : Nat} {S : Sheet} (h : GoodS cols S) (a len n : Nat) (hl : a + len ≤ S.length) : GoodS cols (downS S a len n cols) := by
  unfold downS
  exact GoodS.clearRows (h.downRows a _ len hl _ (by omega)) _ _

/-- A spot such as may be, its place aside. -/
structure SpotS.Fit (cols : Nat) (q : SpotS) : Prop where
  f : q.first = 0 ∨ q.first = 1
  sc : q.second = 0 ∨ q.second = 1
  u : q.use = 0 ∨ q.use = 1
  p : q.pen.Ok
  w : q.waits = true → q.col = (cols : Int) - 1
structure TS.Fit (s : TS) : Prop where
  g0 : GoodS s.cols s.s0
  g1 : GoodS s.cols s.s1
  f : s.first = 0 ∨ s.first = 1
  sc : s.second = 0 ∨ s.second = 1
  u : s.use = 0 ∨ s.use = 1
  p : s.pen.Ok
  w : s.waits = true → s.col = (s.cols : Int) - 1
  wr : s.waits = true → s.wrap = true
  v0 : s.v0.Fit s.cols
  v1 : s.v1.Fit s.cols
  o : s.origin = true → s.top ≤ s.row ∧ s.row ≤ s.bottom
  tb : s.top < s.bottom ∨ s.rows = 1

namespace TS
theorem Fit.setCur {s : TS} (h : s.Fit) {S : Sheet} (hS : GoodS s.cols S) : (s.setCur S).Fit := by
  unfold TS.setCur
  split
  · exact ⟨hS, h.g1, h.f, h.sc, h.u, h.p, h.w, h.wr, h.v0, h.v1, h.o, h.tb⟩
  · exact ⟨h.g0, hS, h.f, h.sc, h.u, h.p, h.w, h.wr, h.v0, h.v1, h.o, h.tb⟩
theorem Fit.cur {s : TS} (h : s.Fit) : GoodS s.cols s.cur := by
  unfold TS.cur
  split
  · exact h.g0
  · exact h.g1
theorem Fit.rowNow {s : TS} (h : s.Fit) (hi : s.Inv) : GoodR s.rowNow ∧ s.rowNow.length = s.cols := h.cur.getD (by rw [hi.lcur]; have := hi.row0; have := hi.row1; omega)
theorem Fit.setRow {s : TS} (h : s.Fit) {r : List CellS} (hr : GoodR r ∧ r.length = s.cols) : (s.setRowNow r).Fit := h.setCur (h.cur.set _ hr)
theorem Fit.unwait {s : TS} (h : s.Fit) : s.unwait.Fit := ⟨h.g0, h.g1, h.f, h.sc, h.u, h.p, fun e => (by cases e), fun e => (by cases e), h.v0, h.v1, h.o, h.tb⟩
theorem Fit.toCol {s : TS} (h : s.Fit) (hw : s.waits = false) (c : Int) : (s.toCol c).Fit := ⟨h.g0, h.g1, h.f, h.sc, h.u, h.p, fun e => (by rw [show (s.toCol c).waits = s.waits from rfl, hw] at e; cases e), h.wr, h.v0, h.v1, h.o, h.tb⟩
theorem Fit.toRow {s : TS} (h : s.Fit) (c : Int) (ho : s.origin = true → s.top ≤ c ∧ c ≤ s.bottom) (hi : s.Inv) : (s.toRow c).Fit := by
  refine ⟨h.g0, h.g1, h.f, h.sc, h.u, h.p, h.w, h.wr, h.v0, h.v1, fun e => ?_, h.tb⟩
  have := ho e
  have := hi.top0
  have := hi.bot
  show s.top ≤ bringI c 0 ((s.rows : Int) - 1) ∧ bringI c 0 ((s.rows : Int) - 1) ≤ s.bottom
  unfold bringI; omega
theorem Fit.toCounted {s : TS} (h : s.Fit) (c : Int) (hi : s.Inv) : (s.toCounted c).Fit := by
  unfold TS.toCounted
  split
  · refine ⟨h.g0, h.g1, h.f, h.sc, h.u, h.p, h.w, h.wr, h.v0, h.v1, fun e => ?_, h.tb⟩
    have := hi.tb
    show s.top ≤ bringI _ _ _ ∧ bringI _ _ _ ≤ s.bottom
    unfold bringI; omega
  · rename_i ho
    exact h.toRow c (fun e => absurd e (by simpa using ho)) hi
theorem toCounted_waits (s : TS) (c : Int) : (s.toCounted c).waits = s.waits := by unfold TS.toCounted; split <;> rfl
theorem Fit.home {s : TS} (h : s.unwait.Fit) (hi : s.Inv) : s.home.Fit := by
  have e : s.home = ((s.unwait).toCounted 0).toCol 0 := by
    unfold TS.home TS.unwait TS.toCounted
    split <;> rfl
  rw [e]
  exact (h.toCounted 0 hi.unwait).toCol (by rw [toCounted_waits]; rfl) 0
theorem Fit.rise {s : TS} (h : s.Fit) (n : Int) (hn : 0 ≤ n) : (s.rise n).Fit := by
  refine ⟨h.g0, h.g1, h.f, h.sc, h.u, h.p, h.w, h.wr, h.v0, h.v1, fun e => ?_, h.tb⟩
  have := h.o e
  show s.top ≤ max (s.row - n) (if s.top ≤ s.row then s.top else 0) ∧ max (s.row - n) (if s.top ≤ s.row then s.top else 0) ≤ s.bottom
  rw [if_pos this.1]; omega
theorem Fit.sink {s : TS} (h : s.Fit) (n : Int) (hn : 0 ≤ n) : (s.sink n).Fit := by
  refine ⟨h.g0, h.g1, h.f, h.sc, h.u, h.p, h.w, h.wr, h.v0, h.v1, fun e => ?_, h.tb⟩
  have := h.o e
  show s.top ≤ min (s.row + n) (if s.row ≤ s.bottom then s.bottom else (s.rows : Int) - 1) ∧ min (s.row + n) (if s.row ≤ s.bottom then s.bottom else (s.rows : Int) - 1) ≤ s.bottom
  rw [if_pos this.2]; omega
theorem Fit.scrollUp {s : TS} (h : s.Fit) (hi : s.Inv) (n : Nat) : (s.scrollUp n).Fit := h.setCur (h.cur.up _ _ _ (by rw [hi.lcur]; unfold TS.height; have := hi.top0; have := hi.tb; have := hi.bot; omega))
theorem Fit.scrollDown {s : TS} (h : s.Fit) (hi : s.Inv) (n : Nat) : (s.scrollDown n).Fit := h.setCur (h.cur.down _ _ _ (by rw [hi.lcur]; unfold TS.height; have := hi.top0; have := hi.tb; have := hi.bot; omega))
theorem Fit.down {s : TS} (h : s.Fit) (hi : s.Inv) : s.down.Fit := by
  unfold TS.down
  split
  · exact h.scrollUp hi 1
  · exact h.toRow _ (fun e => by have := h.o e; omega) hi
theorem Fit.up {s : TS} (h : s.Fit) (hi : s.Inv) : s.up.Fit := by
  unfold TS.up
  split
  · exact h.scrollDown hi 1
  · exact h.toRow _ (fun e => by have := h.o e; omega) hi
theorem Fit.nextLine {s : TS} (h : s.Fit) (hi : s.Inv) (hw : s.waits = false) : s.nextLine.Fit := (h.toCol hw 0).down (hi.toCol 0)
theorem Fit.save {s : TS} (h : s.Fit) : s.save.Fit := by
  unfold TS.save
  split
  · exact ⟨h.g0, h.g1, h.f, h.sc, h.u, h.p, h.w, h.wr, ⟨h.f, h.sc, h.u, h.p, h.w⟩, h.v1, h.o, h.tb⟩
  · exact ⟨h.g0, h.g1, h.f, h.sc, h.u, h.p, h.w, h.wr, h.v0, ⟨h.f, h.sc, h.u, h.p, h.w⟩, h.o, h.tb⟩
theorem Fit.saved {s : TS} (h : s.Fit) : s.saved.Fit s.cols := by
  unfold TS.saved
  split
  · exact h.v0
  · exact h.v1
theorem Fit.restore {s : TS} (h : s.Fit) (hi : s.Inv) : s.restore.Fit := by
  have hv := h.saved
  unfold TS.restore TS.setSpot
  refine ⟨h.g0, h.g1, hv.f, hv.sc, hv.u, hv.p, fun e => ?_, fun e => ?_, h.v0, h.v1, fun e => ?_, h.tb⟩
  · exact hv.w (by simpa using (Bool.and_eq_true_iff.1 e).1)
  · exact (Bool.and_eq_true_iff.1 e).2
  · have := hi.tb
    have e : s.saved.origin = true := e
    show s.top ≤ (if s.saved.origin = true then bringI s.saved.row s.top s.bottom else s.saved.row) ∧ (if s.saved.origin = true then bringI s.saved.row s.top s.bottom else s.saved.row) ≤ s.bottom
    rw [if_pos e]; unfold bringI; omega

theorem lineOf_wid (c : Int) : widN (lineOf c) = widN c := by
  unfold lineOf
  repeat' split
  all_goals first | rfl | (subst_vars; decide)
theorem lineOf_sc {c : Int} (h : ScN c) : ScN (lineOf c) := by
  obtain ⟨h1, h2, h3⟩ := h
  unfold lineOf
  repeat' split
  all_goals first | exact ⟨h1, h2, h3⟩ | (refine ⟨?_, ?_, ?_⟩ <;> omega)
theorem spelt_sc (s : TS) {c : Int} (h : ScN c) : ScN (s.spelt c) := by
  unfold TS.spelt
  repeat' split
  all_goals first | exact lineOf_sc h | exact h
theorem spelt_wid (s : TS) (c : Int) : widN (s.spelt c) = widN c := by
  unfold TS.spelt
  repeat' split
  all_goals first | rfl | exact lineOf_wid c
theorem setCur_cols (s : TS) (S : Sheet) : (s.setCur S).cols = s.cols ∧ (s.setCur S).col = s.col ∧ (s.setCur S).wrap = s.wrap ∧ (s.setCur S).waits = s.waits := by unfold TS.setCur; split <;> exact ⟨rfl, rfl, rfl, rfl⟩
theorem setCur_spelt (s : TS) (S : Sheet) (c : Int) : (s.setCur S).spelt c = s.spelt c := by unfold TS.setCur; split <;> rfl
theorem Fit.put {s : TS} (h : s.Fit) (hi : s.Inv) (c : Int) (wd : Nat) (hs : ScN c) (hw : widN c = wd) (hwd : wd = 1 ∨ wd = 2) (hc : s.col + (wd : Int) ≤ (s.cols : Int)) : (s.putNow c wd).Fit := by
  obtain ⟨g, l⟩ := h.rowNow hi
  have := hi.col0
  exact h.setRow ⟨g.put _ (spelt_sc s hs) h.p (by rw [spelt_wid]; exact hw) hwd (by rw [l]; omega), by rw [putR_length, l]⟩
theorem Fit.ins {s : TS} (h : s.Fit) (hi : s.Inv) (wd : Nat) : (s.setRowNow (insertR s.rowNow s.col.toNat wd)).Fit := by
  obtain ⟨g, l⟩ := h.rowNow hi
  have := hi.col0
  have := hi.col1
  refine h.setRow ⟨?_, by rw [insertR_length _ _ _ (by rw [l]; omega), l]⟩
  unfold insertR
  exact g.ins (by rw [l]; omega)
theorem Fit.rem {s : TS} (h : s.Fit) (hi : s.Inv) (wd : Nat) : (s.setRowNow (removeR s.rowNow s.col.toNat wd)).Fit := by
  obtain ⟨g, l⟩ := h.rowNow hi
  have := hi.col0
  have := hi.col1
  refine h.setRow ⟨?_, by rw [removeR_length _ _ _ (by rw [l]; omega), l]⟩
  unfold removeR
  exact g.rem (by rw [l]; omega)
theorem Fit.clr {s : TS} (h : s.Fit) (hi : s.Inv) (a b : Nat) (hab : a ≤ b) (hb : b ≤ s.cols) : (s.setRowNow (clearR s.rowNow a b)).Fit := by
  obtain ⟨g, l⟩ := h.rowNow hi
  exact h.setRow ⟨g.clear hab (by omega), by rw [clearR_length _ _ _ (by omega) hab, l]⟩
theorem Fit.step {s : TS} (h : s.Fit) (hi : s.Inv) (wd : Nat) : (s.step wd).Fit := by
  refine ⟨h.g0, h.g1, h.f, h.sc, h.u, h.p, fun e => ?_, fun e => ?_, h.v0, h.v1, h.o, h.tb⟩
  · have := of_decide_eq_true (Bool.and_eq_true_iff.1 e).2
    have := hi.c1
    show bringI (s.col + (wd : Int)) 0 ((s.cols : Int) - 1) = (s.cols : Int) - 1
    unfold bringI; omega
  · exact (Bool.and_eq_true_iff.1 e).1
theorem Fit.print2 {s : TS} (h : s.Fit) (hi : s.Inv) (c : Int) (wd : Nat) (hs : ScN c) (hw : widN c = wd) (hwd : wd = 1 ∨ wd = 2) (hc : s.col + (wd : Int) ≤ (s.cols : Int)) : (s.print2 c wd).Fit := by
  unfold TS.print2
  have k : (if s.insert then s.insNow wd else s).Fit ∧ (if s.insert then s.insNow wd else s).Inv ∧ (if s.insert then s.insNow wd else s).cols = s.cols ∧ (if s.insert then s.insNow wd else s).col = s.col := by
    split
    · exact ⟨h.ins hi wd, hi.setRowNow _, (setCur_cols _ _).1, (setCur_cols _ _).2.1⟩
    · exact ⟨h, hi, rfl, rfl⟩
  obtain ⟨k1, k2, k3, k4⟩ := k
  exact (k1.put k2 c wd hs hw hwd (by rw [k3, k4]; exact hc)).step (k2.setRowNow _) wd
theorem Fit.print1 {s : TS} (h : s.Fit) (hi : s.Inv) : s.print1.Fit ∧ s.print1.waits = false := by
  unfold TS.print1
  split
  · refine ⟨h.unwait.nextLine hi.unwait rfl, ?_⟩
    unfold TS.nextLine TS.down
    split
    · unfold TS.scrollUp; rw [(setCur_cols _ _).2.2.2]; rfl
    · rfl
  · rename_i hw; exact ⟨h, by simpa using hw⟩
theorem nextLine_col (s : TS) (hi : s.Inv) : s.nextLine.col = 0 ∧ s.nextLine.cols = s.cols := by
  have := hi.c1
  have e : (s.toCol 0).col = 0 := by show bringI 0 0 ((s.cols : Int) - 1) = 0; unfold bringI; omega
  unfold TS.nextLine TS.down
  split
  · unfold TS.scrollUp; rw [(setCur_cols _ _).2.1, (setCur_cols _ _).1]; exact ⟨e, rfl⟩
  · exact ⟨e, rfl⟩
theorem Fit.print {s : TS} (h : s.Fit) (hi : s.Inv) {c : Int} (hs : ScN c) : (s.print c (widN c).toNat).Fit := by
  have hb := widN_small c
  obtain ⟨wd, hwd⟩ : ∃ wd : Nat, (widN c).toNat = wd := ⟨_, rfl⟩
  have hw : widN c = (wd : Int) := by omega
  rw [hwd]
  unfold TS.print
  obtain ⟨p1, p2⟩ := h.print1 hi
  have ec : s.print1.cols = s.cols := by have := dim_print1 s; exact congrArg Prod.snd this
  split
  · exact h
  · rename_i hz
    split
    · split
      · obtain ⟨e1, e2⟩ := nextLine_col s.print1 hi.print1
        exact (p1.nextLine hi.print1 p2).print2 hi.print1.nextLine c wd hs hw (by omega) (by rw [e1, e2, ec]; omega)
      · exact p1
    · exact p1.print2 hi.print1 c wd hs hw (by omega) (by rw [ec]; omega)
theorem Fit.control {s : TS} (h : s.Fit) (hi : s.Inv) (c : Int) : (s.control c).Fit := by
  unfold TS.control
  dsimp only
  by_cases hc : 8 ≤ c ∧ c ≤ 13
  · rw [if_pos hc]
    have h := h.unwait
    have hi := hi.unwait
    repeat' split
    · exact h.toCol rfl _
    · exact h.toCol rfl _
    · exact h.down hi
    · exact h.toCol rfl _
    · omega
    · omega
    · exact h
  · rw [if_neg hc]
    repeat' split
    · omega
    · omega
    · omega
    · omega
    · exact ⟨h.g0, h.g1, h.f, h.sc, .inr rfl, h.p, h.w, h.wr, h.v0, h.v1, h.o, h.tb⟩
    · exact ⟨h.g0, h.g1, h.f, h.sc, .inl rfl, h.p, h.w, h.wr, h.v0, h.v1, h.o, h.tb⟩
    · exact h
theorem Fit.fresh {rows cols : Nat} (hr : 1 ≤ rows ∧ rows ≤ 12) : (TS.fresh rows cols).Fit := by
  have g : GoodS cols (List.replicate rows (blankR cols)) := fun r hr => by
    rw [(List.eq_of_mem_replicate hr)]
    exact ⟨GoodR.blank _, by simp [blankR]⟩
  exact ⟨g, g, .inl rfl, .inl rfl, .inl rfl, pen0_ok, fun e => (by cases e), fun e => (by cases e), ⟨.inl rfl, .inl rfl, .inl rfl, pen0_ok, fun e => (by cases e)⟩, ⟨.inl rfl, .inl rfl, .inl rfl, pen0_ok, fun e => (by cases e)⟩, fun e => (by cases e), by show (0 : Int) < (rows : Int) - 1 ∨ rows = 1; omega⟩
theorem Fit.bare {s : TS} (h : s.Fit) (hi : s.Inv) (f : Int) : (s.bare f).Fit := by
  unfold TS.bare
  repeat' split
  · exact h.save
  · exact h.restore hi
  · exact h.unwait.down hi.unwait
  · exact h.unwait.up hi.unwait
  · exact h.unwait.nextLine hi.unwait rfl
  · exact ⟨h.g0, h.g1, h.f, h.sc, h.u, h.p, h.w, h.wr, h.v0, h.v1, h.o, h.tb⟩
  · exact Fit.fresh ⟨hi.r1, hi.r2⟩
  · exact h
theorem alph (f b : Int) (h : b = 0 ∨ b = 1) : alphabetOf f b = 0 ∨ alphabetOf f b = 1 := by
  unfold alphabetOf
  repeat' split
  · exact .inl rfl
  · exact .inr rfl
  · exact h
theorem Fit.escape {s : TS} (h : s.Fit) (hi : s.Inv) (mk f : Int) : (s.escape mk f).Fit := by
  unfold TS.escape
  repeat' split
  · exact h.bare hi f
  · exact ⟨h.g0, h.g1, alph _ _ h.f, h.sc, h.u, h.p, h.w, h.wr, h.v0, h.v1, h.o, h.tb⟩
  · exact ⟨h.g0, h.g1, h.f, alph _ _ h.sc, h.u, h.p, h.w, h.wr, h.v0, h.v1, h.o, h.tb⟩
  · exact h
theorem times1 (n : Int) : 1 ≤ times n := by unfold times; omega
theorem Fit.move {s : TS} (h : s.Fit) (hi : s.Inv) (f p0 p1 : Int) (hw : stills f = true → s.waits = false) : (s.move f p0 p1).Fit := by
  have ht := times1 p0
  unfold TS.move
  split
  · exact h.rise _ (by omega)
  · split
    · exact h.sink _ (by omega)
    · split
      · rename_i e; subst e; exact h.toCol (hw (by decide)) _
      · split
        · rename_i e; subst e; exact h.toCol (hw (by decide)) _
        · split
          · rename_i e; subst e; exact h.toCol (hw (by decide)) _
          · split
            · exact h.toCounted _ hi
            · split
              · rename_i e
                have hw2 : s.waits = false := by rcases e with rfl | rfl <;> exact hw (by decide)
                exact (h.toCounted _ hi).toCol (by rw [toCounted_waits]; exact hw2) _
              · exact h
theorem Fit.clearRow {s : TS} (h : s.Fit) (hi : s.Inv) (n : Int) : (s.clearRow n).Fit := by
  have := hi.col0
  have := hi.col1
  unfold TS.clearRow
  repeat' split
  · exact h.clr hi _ _ (by omega) (by omega)
  · exact h.clr hi _ _ (by omega) (by omega)
  · exact h.clr hi _ _ (by omega) (by omega)
  · exact h
theorem Fit.clearOther {s : TS} (h : s.Fit) (n : Int) : (s.clearOther n).Fit := by
  unfold TS.clearOther
  repeat' split
  · exact h.setCur (h.cur.clearRows _ _)
  · exact h.setCur (h.cur.clearRows _ _)
  · exact h.setCur (h.cur.clearRows _ _)
  · exact h
theorem Fit.edit {s : TS} (h : s.Fit) (hi : s.Inv) (f p : Int) (hw : stills f = true → s.waits = false) : (s.edit f p).Fit := by
  have := hi.col0
  have := hi.col1
  have := hi.row0
  have := hi.bot
  unfold TS.edit
  dsimp only
  split
  · exact (h.clearRow hi _).clearOther _
  · split
    · exact h.clearRow hi _
    · split
      · exact h.ins hi _
      · split
        · exact h.rem hi _
        · split
          · exact h.clr hi _ _ (by omega) (by omega)
          · split
            · rename_i e; subst e
              split
              · rename_i hr
                have hr := of_decide_eq_true hr
                exact (h.setCur (h.cur.down _ _ _ (by rw [hi.lcur]; unfold TS.below; omega))).toCol (by rw [(setCur_cols _ _).2.2.2]; exact hw (by decide)) 0
              · exact h
            · split
              · rename_i e; subst e
                split
                · rename_i hr
                  have hr := of_decide_eq_true hr
                  exact (h.setCur (h.cur.up _ _ _ (by rw [hi.lcur]; unfold TS.below; omega))).toCol (by rw [(setCur_cols _ _).2.2.2]; exact hw (by decide)) 0
                · exact h
              · split
                · exact h.scrollUp hi _
                · split
                  · exact h.scrollDown hi _
                  · exact h
theorem Fit.setRegion {s : TS} (h : s.Fit) (hi : s.Inv) (top bottom : Int) (h0 : 0 ≤ top) : (s.setRegion top bottom).Fit := by
  unfold TS.setRegion
  dsimp only
  generalize hb : (if bottom < 0 ∨ (s.rows : Int) - 1 < bottom then (s.rows : Int) - 1 else bottom) = b
  have hb2 : b < (s.rows : Int) := by rw [← hb]; have := hi.r1; split <;> omega
  split
  · exact h
  · rename_i hlt
    have hi2 : ({ s with top := top, bottom := b } : TS).Inv := hi.upd rfl rfl rfl rfl rfl rfl rfl hi.row0 hi.row1 hi.col0 hi.col1 h0 (by show top ≤ b; omega) hb2 hi.sh
    -- ORIGIN is asked anew at home
    have e : ({ s with top := top, bottom := b } : TS).home = (({ s with top := top, bottom := b } : TS).unwait.toCounted 0).toCol 0 := by
      unfold TS.home TS.unwait TS.toCounted
      split <;> rfl
    rw [e]
    have hb1 : ({ s with top := top, bottom := b } : TS).bottom = b := rfl
    refine ⟨?_, ?_, ?_, ?_, ?_, ?_, ?_, ?_, ?_, ?_, ?_, ?_⟩
    all_goals (unfold TS.toCounted; split)
    · exact h.g0
    · exact h.g0
    · exact h.g1
    · exact h.g1
    · exact h.f
    · exact h.f
    · exact h.sc
    · exact h.sc
    · exact h.u
    · exact h.u
    · exact h.p
    · exact h.p
    · intro e; cases e
    · intro e; cases e
    · intro e; cases e
    · intro e; cases e
    · exact h.v0
    · exact h.v0
    · exact h.v1
    · exact h.v1
    · intro _
      show top ≤ bringI (top + 0) top b ∧ bringI (top + 0) top b ≤ b
      unfold bringI; omega
    · rename_i ho
      intro e
      exact absurd e ho
    · exact .inl (by show top < b; omega)
    · exact .inl (by show top < b; omega)
theorem Fit.clearTabs {s : TS} (h : s.Fit) (n : Int) : (s.clearTabs n).Fit := by
  unfold TS.clearTabs
  repeat' split
  · exact ⟨h.g0, h.g1, h.f, h.sc, h.u, h.p, h.w, h.wr, h.v0, h.v1, h.o, h.tb⟩
  · exact ⟨h.g0, h.g1, h.f, h.sc, h.u, h.p, h.w, h.wr, h.v0, h.v1, h.o, h.tb⟩
  · exact h
theorem turn_ok {p : PenS} (h : p.Ok) (n : Int) : (turn p n).Ok := by
  obtain ⟨h1, h2, h3, h4⟩ := h
  unfold turn
  repeat' split
  all_goals first | exact pen0_ok | exact ⟨h1, h2, h3, h4⟩ | (refine ⟨?_, ?_, ?_, ?_⟩ <;> dsimp only <;> omega)
theorem Fit.turns (l : List Int) : ∀ {s : TS}, s.Fit → (s.turns l).Fit := by
  induction l with
  | nil => intro s h; exact h
  | cons n l ih => intro s h; exact ih (s := { s with pen := turn s.pen (amount n) }) ⟨h.g0, h.g1, h.f, h.sc, h.u, turn_ok h.p _, h.w, h.wr, h.v0, h.v1, h.o, h.tb⟩
theorem Fit.adjust {s : TS} (h : s.Fit) (hi : s.Inv) (f : Int) (ps : List Int) (ct : Nat) : (s.adjust f ps ct).Fit := by
  have := times1 (ps.getD 0 0)
  unfold TS.adjust
  split
  · exact h.setRegion hi _ _ (by omega)
  · split
    · exact h.clearTabs _
    · split
      · exact h.turns _
      · split
        · split
          · exact ⟨h.g0, h.g1, h.f, h.sc, h.u, h.p, h.w, h.wr, h.v0, h.v1, h.o, h.tb⟩
          · exact h
        · exact h
theorem Fit.set1 {s : TS} (h : s.Fit) (hi : s.Inv) (n : Int) (on : Bool) : (s.set1 n on).Fit := by
  unfold TS.set1
  split
  · have hi2 : ({ s with origin := on } : TS).Inv := hi.upd rfl rfl rfl rfl rfl rfl rfl hi.row0 hi.row1 hi.col0 hi.col1 hi.top0 hi.tb hi.bot hi.sh
    have htb := hi.tb
    have ht0 := hi.top0
    cases on with
    | false =>
      refine ⟨h.g0, h.g1, h.f, h.sc, h.u, h.p, ?_, ?_, h.v0, h.v1, ?_, h.tb⟩
      all_goals (intro e; cases e)
    | true =>
      refine ⟨h.g0, h.g1, h.f, h.sc, h.u, h.p, ?_, ?_, h.v0, h.v1, ?_, h.tb⟩
      · intro e; cases e
      · intro e; cases e
      · intro _
        show s.top ≤ bringI (s.top + 0) s.top s.bottom ∧ bringI (s.top + 0) s.top s.bottom ≤ s.bottom
        unfold bringI; omega
  · split
    · exact ⟨h.g0, h.g1, h.f, h.sc, h.u, h.p, fun e => h.w (Bool.and_eq_true_iff.1 e).1, fun e => (Bool.and_eq_true_iff.1 e).2, h.v0, h.v1, h.o, h.tb⟩
    · split
      · exact ⟨h.g0, h.g1, h.f, h.sc, h.u, h.p, h.w, h.wr, h.v0, h.v1, h.o, h.tb⟩
      · exact h
theorem Fit.sets (on : Bool) (l : List Int) : ∀ {s : TS}, s.Fit → s.Inv → (s.sets on l).Fit := by
  induction l with
  | nil => intro s h _; exact h
  | cons n l ih => intro s h hi; exact ih (h.set1 hi n on) (hi.set1 n on)
theorem move_waits (s : TS) (f p q : Int) : (s.move f p q).waits = s.waits := by
  unfold TS.move
  repeat' split
  all_goals first | rfl | exact toCounted_waits _ _
theorem Fit.sequence {s : TS} (h : s.Fit) (hi : s.Inv) (mk f : Int) (ps : List Int) (ct : Nat) : (s.sequence mk f ps ct).Fit := by
  unfold TS.sequence
  split
  · dsimp only
    have k : (if stills f then s.unwait else s).Fit ∧ (if stills f then s.unwait else s).Inv ∧ (stills f = true → (if stills f then s.unwait else s).waits = false) := by
      split
      · exact ⟨h.unwait, hi.unwait, fun _ => rfl⟩
      · rename_i e; exact ⟨h, hi, fun q => absurd q e⟩
    generalize (if stills f then s.unwait else s) = t at *
    obtain ⟨k1, k2, k3⟩ := k
    exact ((k1.move k2 f _ _ k3).edit (k2.move _ _ _) f _ (fun q => by rw [move_waits]; exact k3 q)).adjust ((k2.move _ _ _).edit _ _) f ps ct
  · split
    · split
      · exact Fit.sets _ _ h hi
      · exact h
    · exact h
theorem Fit.take {s : TS} (h : s.Fit) (hi : s.Inv) (ev : List Int) (he : ev.getD 0 0 = 1 → ScN (ev.getD 1 0)) : (s.take ev).Fit := by
  unfold TS.take
  split
  · rename_i e; exact h.print hi (he e)
  · repeat' split
    · exact h.control hi _
    · exact h.escape hi _ _
    · exact h.sequence hi _ _ _ _
    · exact h
end TS
/-- What is begun in the reader ends in characters. -/
structure RS.Sc (s : RS) : Prop where
  m : s.m = 0 ∨ s.m = 1 ∨ s.m = 2 ∨ s.m = 3
  v : 0 ≤ s.val
  a1 : s.m = 1 → s.val ≤ 17407 ∧ ¬ (864 ≤ s.val ∧ s.val < 896)
  a2 : s.m = 2 → s.val ≤ 271 ∧ (s.val = 13 → s.hi ≤ 159)
  a3 : s.m = 3 → s.val ≤ 4 ∧ (s.val = 0 → 144 ≤ s.lo) ∧ (s.val = 4 → s.hi ≤ 143)
  b : s.m ≠ 0 → 128 ≤ s.lo ∧ s.hi ≤ 191
theorem RS.Sc.zero : RS.zero.Sc := ⟨.inl rfl, by decide, by decide, by decide, by decide, by decide⟩
theorem lead_sc {b : Int} {r : RS} (h : lead b = some r) : r.Sc := by
  unfold lead at h
  repeat' split at h
  all_goals first | (cases h; done) | (cases h; refine ⟨?_, ?_, ?_, ?_, ?_, ?_⟩ <;> dsimp only <;> omega)
theorem beg_sc {s : RS} (h : s.Sc) {b : Int} (h0 : 0 ≤ b) : (s.beg b).1.Sc ∧ ∀ c ∈ (s.beg b).2, ScN c := by
  unfold RS.beg
  split
  · refine ⟨h, fun c hc => ?_⟩
    rw [List.mem_singleton] at hc
    subst hc
    exact ⟨h0, by omega, by omega⟩
  · split
    · rename_i r hr; exact ⟨lead_sc hr, fun c hc => by cases hc⟩
    · refine ⟨h, fun c hc => ?_⟩
      rw [List.mem_singleton] at hc
      subst hc
      exact ⟨by decide, by decide, by decide⟩
theorem take_sc {s : RS} (h : s.Sc) {b : Int} (h0 : 0 ≤ b) (h1 : b < 256) : (s.take b).1.Sc ∧ ∀ c ∈ (s.take b).2, ScN c := by
  unfold RS.take
  split
  · exact beg_sc h h0
  · rename_i hm
    split
    · have hf : s.fin.1.Sc ∧ ∀ c ∈ s.fin.2, ScN c := by
        unfold RS.fin
        rw [if_neg hm]
        refine ⟨RS.Sc.zero, fun c hc => ?_⟩
        rw [List.mem_singleton] at hc
        subst hc
        exact ⟨by decide, by decide, by decide⟩
      have hb := beg_sc hf.1 h0
      refine ⟨hb.1, fun c hc => ?_⟩
      rcases List.mem_append.1 hc with hc | hc
      · exact hf.2 c hc
      · exact hb.2 c hc
    · rename_i hr
      have hv := h.v
      have hb := h.b hm
      unfold RS.join
      split
      · rename_i h1
        refine ⟨RS.Sc.zero, fun c hc => ?_⟩
        rw [List.mem_singleton] at hc
        subst hc
        have := h.a1 h1
        exact ⟨by omega, by omega, by omega⟩
      · rename_i h1
        have hm2 := h.m
        have a2 := h.a2
        have a3 := h.a3
        refine ⟨⟨?_, ?_, ?_, ?_, ?_, ?_⟩, fun c hc => by cases hc⟩
        · dsimp only; omega
        · dsimp only; omega
        · intro e; dsimp only at e ⊢
          have := a2 (by omega)
          omega
        · intro e; dsimp only at e ⊢
          have := a3 (by omega)
          omega
        · intro e; dsimp only at e; omega
        · intro _; dsimp only; omega
/-- A character that is put is the one that came. -/
def KindC (c : Int) (e : MS × List Int × Bool) : Prop := e.2.1.getD 0 0 = 1 → e.2.1.getD 1 0 = c
theorem kind_no (c : Int) (s : MS) : KindC c (s, noEv, false) := fun h => absurd (show (0 : Int) = 1 from h) (by decide)
theorem kind_num (c : Int) (s : MS) : KindC c (s.takeNum c) := by
  unfold MS.takeNum
  split
  · exact kind_no _ _
  · split
    · exact kind_no _ _
    · split
      · intro h
        exact absurd (show (4 : Int) = 1 from h) (by decide)
      · exact kind_no _ _
theorem kind_esc (c : Int) (s : MS) : KindC c (s.takeEsc c) := by
  unfold MS.takeEsc
  split
  · exact kind_no _ _
  · split
    · exact kind_no _ _
    · split
      · exact kind_no _ _
      · split
        · intro h
          exact absurd (show (3 : Int) = 1 from h) (by decide)
        · exact kind_no _ _
theorem kind_vis (c : Int) (s : MS) : KindC c (s.takeVis c) := by
  unfold MS.takeVis
  split
  · intro _; rfl
  · split
    · exact kind_esc _ _
    · split
      · split
        · exact kind_no _ _
        · exact kind_num _ _
      · split
        · exact kind_num _ _
        · split
          · split
            · exact kind_no _ _
            · exact kind_no _ _
          · exact kind_no _ _
theorem take_kind (s : MS) (c : Int) : KindC c (s.take c) := by
  unfold MS.take
  split
  · exact kind_no _ _
  · split
    · exact kind_no _ _
    · split
      · exact kind_no _ _
      · split
        · intro h
          exact absurd (show (2 : Int) = 1 from h) (by decide)
        · split
          · exact kind_vis _ _
          · exact kind_no _ _
theorem FS.fit_char {x : FS} (h : x.t.Fit) (hi : x.t.Inv) {c : Int} (hc : ScN c) : (x.char c).t.Fit ∧ (x.char c).t.Inv := by
  unfold FS.char
  show TS.Fit (if _ then _ else _) ∧ TS.Inv (if _ then _ else _)
  split
  · exact ⟨h.take hi _ (fun e => by rw [take_kind _ _ e]; exact hc), hi.take _⟩
  · exact ⟨h, hi⟩
theorem FS.fit_chars (l : List Int) : ∀ {x : FS}, x.t.Fit → x.t.Inv → (∀ c ∈ l, ScN c) → (x.chars l).t.Fit ∧ (x.chars l).t.Inv := by
  induction l with
  | nil => intro x h hi _; exact ⟨h, hi⟩
  | cons c l ih => intro x h hi hl; exact ih (FS.fit_char h hi (hl c (by simp))).1 (FS.fit_char h hi (hl c (by simp))).2 (fun d hd => hl d (by simp [hd]))
theorem FS.fit_feed (l : List Int) : ∀ {x : FS}, x.t.Fit → x.t.Inv → x.r.Sc → (∀ b ∈ l, 0 ≤ b ∧ b < 256) → (x.feed l).t.Fit ∧ (x.feed l).t.Inv := by
  induction l with
  | nil => intro x h hi _ _; exact ⟨h, hi⟩
  | cons c l ih =>
    intro x h hi hr hl
    have hc := hl c (by simp)
    have ht := take_sc hr hc.1 hc.2
    have k := FS.fit_chars (x := ⟨(x.r.take c).1, x.m, x.t⟩) (x.r.take c).2 h hi ht.2
    exact ih (x := x.byte c) k.1 k.2 (by unfold FS.byte; rw [chars_r]; exact ht.1) (fun d hd => hl d (by simp [hd]))
theorem fresh_fit (r c : Nat) (hr : 1 ≤ r ∧ r ≤ 12) (hc : 1 ≤ c ∧ c ≤ 40) (l : List Int) (hl : ∀ b ∈ l, 0 ≤ b ∧ b < 256) : ((FS.fresh r c).feed l).t.Fit := (FS.fit_feed l (x := FS.fresh r c) (TS.Fit.fresh hr) (TS.Inv.fresh hr hc) RS.Sc.zero hl).1
end Go.Proofs.YtheibfffilomcaaGreatDoor

/- Sequences that do nothing: plain facts. -/
namespace Go.Proofs.YtheibfffilomcaaGreatDoor

/-- A character is put. -/
theorem take_print {c : Int} (hc : 32 ≤ c ∧ c ≠ 127) : MS.zero.take c = (.zero, [1, c, 0, 0, 0] ++ z16, true) := by
  unfold MS.take
  rw [if_neg (by omega), if_neg (by omega), if_neg (by decide), if_neg (by omega), if_pos hc.2]
  rfl
theorem char_print (x : FS) (h : x.m = .zero) {c : Int} (hc : 32 ≤ c ∧ c ≠ 127) : x.char c = ⟨x.r, .zero, x.t.print c (widN c).toNat⟩ := by
  unfold FS.char
  rw [h, take_print hc]
  rfl

def idleL : List Int := [69, 70, 73, 78, 79, 81, 82, 85, 86, 87, 89, 90, 92, 93, 94, 95, 96, 97, 98, 99, 101, 105, 106, 107, 110, 111, 112, 113, 115, 116, 117, 118, 119, 120, 121, 122, 123, 124, 125, 126]
/-- Digits and semicolons. -/
def numB (c : Int) : Bool := decide (48 ≤ c ∧ c ≤ 59 ∧ c ≠ 58)

theorem feed_low (l : List Int) : ∀ x : FS, x.r.m = 0 → (∀ c ∈ l, c < 128) → x.feed l = x.chars l := by
  induction l with
  | nil => intro x _ _; rfl
  | cons c l ih =>
    intro x h hl
    show (x.byte c).feed l = (x.char c).chars l
    rw [byte_low x c h (hl c (by simp))]
    exact ih _ h (fun d hd => hl d (by simp [hd]))

/-- Numbers of a sequence: the mode is one of two, the mark stays. -/
theorem chars_num (l : List Int) : ∀ (x : FS), (x.m.md = 2 ∨ x.m.md = 3) → (∀ c ∈ l, numB c = true) → ∃ m, x.chars l = ⟨x.r, m, x.t⟩ ∧ (m.md = 2 ∨ m.md = 3) ∧ m.mr = x.m.mr := by
  induction l with
  | nil => intro x h _; exact ⟨x.m, rfl, h, rfl⟩
  | cons c l ih =>
    intro x h hl
    have hc : 48 ≤ c ∧ c ≤ 59 ∧ c ≠ 58 := of_decide_eq_true (hl c (by simp))
    have key : ∃ m, x.char c = ⟨x.r, m, x.t⟩ ∧ (m.md = 2 ∨ m.md = 3) ∧ m.mr = x.m.mr := by
      have hT : ∀ s : MS, s.md = 3 → ∃ m, MS.takeNum s c = (m, noEv, false) ∧ m.md = 3 ∧ m.mr = s.mr := by
        intro s hs
        unfold MS.takeNum
        by_cases h1 : 48 ≤ c ∧ c ≤ 57
        · rw [if_pos h1]
          refine ⟨_, rfl, ?_, ?_⟩
          · unfold MS.joinDig; split <;> exact hs
          · unfold MS.joinDig; split <;> rfl
        · rw [if_neg h1, if_pos (by omega)]
          exact ⟨_, rfl, hs, rfl⟩
      have hV : ∃ m, MS.takeVis x.m c = (m, noEv, false) ∧ m.md = 3 ∧ m.mr = x.m.mr := by
        unfold MS.takeVis
        have hmk : markN c = false := by unfold markN; simp; omega
        rcases h with h | h
        · rw [if_neg (by omega), if_neg (by omega), if_pos h, hmk]
          exact hT ⟨3, x.m.mr, x.m.ct, x.m.ps⟩ rfl
        · rw [if_neg (by omega), if_neg (by omega), if_neg (by omega), if_pos h]
          exact hT _ h
      obtain ⟨m, e, h1, h2⟩ := hV
      refine ⟨m, ?_, .inr h1, h2⟩
      unfold FS.char MS.take
      rw [if_neg (by omega), if_neg (by omega), if_neg (by omega), if_neg (by omega), if_pos (by omega), e]
      rfl
    obtain ⟨m, e, h1, h2⟩ := key
    show ∃ m, (x.char c).chars l = _ ∧ _
    rw [e]
    obtain ⟨m', e', h3, h4⟩ := ih ⟨x.r, m, x.t⟩ h1 (fun d hd => hl d (by simp [hd]))
    exact ⟨m', e', h3, h4.trans h2⟩
/-- The last byte of a sequence. -/
theorem char_final (x : FS) (h : x.m.md = 2 ∨ x.m.md = 3) {f : Int} (hf : 64 ≤ f ∧ f ≤ 126) : x.char f = ⟨x.r, .zero, x.t.sequence x.m.mr f x.m.ps (min x.m.ct 16).toNat⟩ := by
  have hV : MS.takeVis x.m f = (.zero, MS.seqEv x.m f, true) := by
    have hfin : finalN f = true := by unfold finalN; simp; omega
    have hmk : markN f = false := by unfold markN; simp; omega
    have hT : ∀ s : MS, s.takeNum f = (.zero, s.seqEv f, true) := by
      intro s
      unfold MS.takeNum
      rw [if_neg (by omega), if_neg (by omega), if_pos hfin]
    unfold MS.takeVis
    rcases h with h | h
    · rw [if_neg (by omega), if_neg (by omega), if_pos h, hmk]
      exact hT ⟨3, x.m.mr, x.m.ct, x.m.ps⟩
    · rw [if_neg (by omega), if_neg (by omega), if_neg (by omega), if_pos h]
      exact hT _
  unfold FS.char MS.take
  rw [if_neg (by omega), if_neg (by omega), if_neg (by omega), if_neg (by omega), if_pos (by omega), hV]
  rfl
theorem char_csi (x : FS) (h : x.m = .zero) : x.chars [27, 91] = ⟨x.r, MS.begNum ⟨2, 0, 0, z16⟩, x.t⟩ := by
  obtain ⟨r, m, t⟩ := x
  subst h
  rfl
theorem char_mark (x : FS) (h : x.m.md = 2) {k : Int} (hk : k = 60 ∨ k = 61 ∨ k = 62 ∨ k = 63) : x.char k = ⟨x.r, ⟨3, k, x.m.ct, x.m.ps⟩, x.t⟩ := by
  have hV : MS.takeVis x.m k = (⟨3, k, x.m.ct, x.m.ps⟩, noEv, false) := by
    have hmk : markN k = true := by unfold markN; rcases hk with rfl | rfl | rfl | rfl <;> rfl
    unfold MS.takeVis
    rw [if_neg (by omega), if_neg (by omega), if_pos h, if_pos hmk]
  unfold FS.char MS.take
  rw [if_neg (by omega), if_neg (by omega), if_neg (by omega), if_neg (by omega), if_pos (by omega), hV]
  rfl
theorem chars_append (x : FS) (l l' : List Int) : x.chars (l ++ l') = (x.chars l).chars l' := by simp [FS.chars]
/-- A whole sequence. -/
theorem chars_seq (x : FS) (h : x.m = .zero) (mk : List Int) (hmk : mk = [] ∨ ∃ k, mk = [k] ∧ (k = 60 ∨ k = 61 ∨ k = 62 ∨ k = 63)) (l : List Int) (hl : ∀ c ∈ l, numB c = true) {f : Int} (hf : 64 ≤ f ∧ f ≤ 126) :
    ∃ ps ct, x.chars ([27, 91] ++ (mk ++ (l ++ [f]))) = ⟨x.r, .zero, x.t.sequence (mk.headD 0) f ps ct⟩ := by
  rw [chars_append, char_csi x h]
  rcases hmk with rfl | ⟨k, rfl, hk⟩
  · rw [List.nil_append, chars_append]
    obtain ⟨m, e, h1, h2⟩ := chars_num l ⟨x.r, MS.begNum ⟨2, 0, 0, z16⟩, x.t⟩ (.inl rfl) hl
    rw [e]
    refine ⟨m.ps, (min m.ct 16).toNat, ?_⟩
    have := char_final ⟨x.r, m, x.t⟩ h1 hf
    rw [h2] at this
    exact this
  · rw [chars_append, chars_append]
    have em : FS.chars ⟨x.r, MS.begNum ⟨2, 0, 0, z16⟩, x.t⟩ [k] = ⟨x.r, ⟨3, k, (MS.begNum ⟨2, 0, 0, z16⟩).ct, (MS.begNum ⟨2, 0, 0, z16⟩).ps⟩, x.t⟩ := char_mark _ rfl hk
    rw [em]
    obtain ⟨m, e, h1, h2⟩ := chars_num l ⟨x.r, ⟨3, k, (MS.begNum ⟨2, 0, 0, z16⟩).ct, (MS.begNum ⟨2, 0, 0, z16⟩).ps⟩, x.t⟩ (.inr rfl) hl
    rw [e]
    refine ⟨m.ps, (min m.ct 16).toNat, ?_⟩
    have := char_final ⟨x.r, m, x.t⟩ h1 hf
    rw [h2] at this
    exact this
theorem seq_idle (s : TS) (mk f : Int) (ps : List Int) (ct : Nat) (hf : f ∈ idleL) : s.sequence mk f ps ct = s := by
  simp only [idleL, List.mem_cons, List.not_mem_nil, or_false] at hf
  unfold TS.sequence
  by_cases h0 : mk = 0
  · rw [if_pos h0]
    dsimp only
    have hs : TS.stills f = false := by
      unfold TS.stills
      simp only [List.mem_cons, List.not_mem_nil, or_false]
      exact decide_eq_false (by omega)
    rw [hs, if_neg (by decide)]
    have hm : s.move f (ps.getD 0 0) (ps.getD 1 0) = s := by
      unfold TS.move
      rw [if_neg (by omega), if_neg (by omega), if_neg (by omega), if_neg (by omega), if_neg (by omega), if_neg (by omega), if_neg (by omega)]
    rw [hm]
    have he : s.edit f (ps.getD 0 0) = s := by
      unfold TS.edit
      dsimp only
      rw [if_neg (by omega), if_neg (by omega), if_neg (by omega), if_neg (by omega), if_neg (by omega), if_neg (by omega), if_neg (by omega), if_neg (by omega), if_neg (by omega)]
    rw [he]
    unfold TS.adjust
    rw [if_neg (by omega), if_neg (by omega), if_neg (by omega), if_neg (by omega)]
  · rw [if_neg h0]
    split
    · rw [if_neg (by omega)]
    · rfl
/-- What Quiet sends behind CAN. -/
def quietL (mk l : List Int) (f : Int) : List Int :=
  ([27, 91] ++ (mk ++ (l ++ [f]))) ++ (([27, 91] ++ ([62] ++ (l ++ [109]))) ++ [27, 93, 97, 110, 121, 32, 116, 104, 105, 110, 103, 59, 49, 7, 27, 80, 113, 24, 127, 27, 40, 65, 0])
theorem quiet_rest (x : FS) (h : x.m = .zero) : x.chars [27, 93, 97, 110, 121, 32, 116, 104, 105, 110, 103, 59, 49, 7, 27, 80, 113, 24, 127, 27, 40, 65, 0] = x := by
  obtain ⟨r, m, t⟩ := x
  dsimp only at h
  subst h
  kernel_rfl
theorem quiet_pure (x : FS) (h0 : x.r.m = 0) (h : x.m = .zero) (mk : List Int) (hmk : mk = [] ∨ ∃ k, mk = [k] ∧ (k = 60 ∨ k = 61 ∨ k = 62 ∨ k = 63)) (l : List Int) (hl : ∀ c ∈ l, numB c = true) {f : Int} (hf : f ∈ idleL) : x.feed (quietL mk l f) = x := by
  have hf2 : 64 ≤ f ∧ f ≤ 126 := by
    have hf := hf
    simp only [idleL, List.mem_cons, List.not_mem_nil, or_false] at hf
    omega
  have hlow : ∀ c ∈ quietL mk l f, c < 128 := by
    have hl2 : ∀ c ∈ l, c < 128 := fun c hc => by have : 48 ≤ c ∧ c ≤ 59 ∧ c ≠ 58 := of_decide_eq_true (hl c hc); omega
    have hm2 : ∀ c ∈ mk, c < 128 := fun c hc => by
      rcases hmk with rfl | ⟨k, rfl, hk⟩
      · cases hc
      · rw [List.mem_singleton] at hc; omega
    intro c hc
    simp only [quietL, List.mem_append, List.mem_cons, List.not_mem_nil, or_false] at hc
    rcases hc with ((hc | hc) | hc | hc | hc) | ((hc | hc) | hc | hc | hc) | hc
    all_goals first | (exact hl2 c hc) | (exact hm2 c hc) | omega
  rw [feed_low _ x h0 hlow]
  unfold quietL
  obtain ⟨ps, ct, e⟩ := chars_seq x h mk hmk l hl hf2
  rw [chars_append, e, seq_idle _ _ _ _ _ hf]
  have ex : (⟨x.r, .zero, x.t⟩ : FS) = x := by rw [← h]
  rw [ex]
  obtain ⟨ps, ct, e⟩ := chars_seq x h [62] (.inr ⟨62, rfl, by omega⟩) l hl (f := 109) (by omega)
  rw [chars_append, e]
  have e2 : x.t.sequence (List.headD [62] 0) 109 ps ct = x.t := by unfold TS.sequence; rfl
  rw [e2, ex]
  exact quiet_rest x h
/-- Behind any bytes and CAN, what Quiet sends changes nothing. -/
theorem quiet_fresh (r c : Nat) (tx mk l : List Int) (hmk : mk = [] ∨ ∃ k, mk = [k] ∧ (k = 60 ∨ k = 61 ∨ k = 62 ∨ k = 63)) (hl : ∀ c ∈ l, numB c = true) {f : Int} (hf : f ∈ idleL) :
    (FS.fresh r c).feed (tx ++ [24] ++ quietL mk l f) = (FS.fresh r c).feed (tx ++ [24]) := by
  have h := FS.low_feed tx (FS.fresh r c) RS.Low.zero
  rw [feed_append]
  obtain ⟨h1, h2, _⟩ := can_any ((FS.fresh r c).feed tx) (fun q => by have := h q; omega)
  rw [← feed_snoc] at h1 h2
  exact quiet_pure _ h1 h2 mk hmk l hl hf
end Go.Proofs.YtheibfffilomcaaGreatDoor

/- The bytes that draw a terminal again, as a plain function. -/
namespace Go.Proofs.YtheibfffilomcaaGreatDoor

/-- What is written, and the pen that stands behind it. -/
structure WS where
  tx : List Int
  pen : PenS
def digN (n : Int) : List Int := if n < 10 then [48 + n] else [48 + n / 10, 48 + n % 10]
def pairN (a b : Int) : List Int := digN (a + 1) ++ (59 :: digN (b + 1))
def inksN (p : PenS) : List Int :=
  (if p.b then [59, 49] else []) ++ ((if p.u then [59, 52] else []) ++ ((if p.t then [59, 55] else []) ++ ((if p.f ≠ 0 then [59, 51] ++ digN (p.f - 1) else []) ++ (if p.k ≠ 0 then [59, 52] ++ digN (p.k - 1) else []))))
namespace WS
def zero : WS := ⟨[], pen0⟩
def put (w : WS) (l : List Int) : WS := ⟨w.tx ++ l, w.pen⟩
def seq (w : WS) (l : List Int) : WS := w.put ([27, 91] ++ l)
def place (w : WS) (r c : Int) : WS := w.seq (pairN r c ++ [72])
def turn (w : WS) (p : PenS) : WS := if p = w.pen then w else (⟨w.tx, p⟩ : WS).seq (48 :: (inksN p ++ [109]))
def cell (w : WS) (c : CellS) : WS := if c.part = 2 then w else (w.turn c.p).put (utfN c.r)
/-- One cell of a run: the column, the cell before. -/
def run1 (w : WS) (row : Int) (k : Nat) (b c : CellS) : WS := if c = blankS then w else (if b = blankS then w.place row k else w).cell c
def runs (row : Int) : WS → Nat → CellS → List CellS → WS
  | w, _, _, [] => w
  | w, k, b, c :: l => runs row (w.run1 row k b c) (k + 1) c l
def rowsN : WS → Nat → Sheet → WS
  | w, _, [] => w
  | w, i, r :: S => rowsN (runs i w 0 blankS r) (i + 1) S
def cellAt (S : Sheet) (r c : Int) : CellS := (S.getD r.toNat []).getD c.toNat blankS
def toWait (w : WS) (S : Sheet) (p : SpotS) (row : Int) : WS :=
  if (cellAt S p.row p.col).part = 2 then (w.place row (p.col - 1)).cell (cellAt S p.row (p.col - 1)) else (w.place row p.col).cell (cellAt S p.row p.col)
def to1 (w : WS) (p : SpotS) : WS := if p.origin then w.seq [63, 54, 104] else w
def to2 (w : WS) (S : Sheet) (p : SpotS) (row : Int) : WS := if p.waits then w.toWait S p row else w.place row p.col
def to4 (w : WS) (p : SpotS) : WS := if p.first = 1 then w.put [27, 40, 48] else w
def to5 (w : WS) (p : SpotS) : WS := if p.second = 1 then w.put [27, 41, 48] else w
def to6 (w : WS) (p : SpotS) : WS := if p.use = 1 then w.put [14] else w
def toSpot (w : WS) (S : Sheet) (p : SpotS) (top : Int) : WS :=
  ((((w.to1 p).to2 S p (if p.origin then p.row - top else p.row)).turn p.pen).to4 p).to5 p |>.to6 p
def bk1 (w : WS) (p : SpotS) : WS := if p.origin then w.seq [63, 54, 108] else w
def bk2 (w : WS) (p : SpotS) : WS := if p.first = 1 then w.put [27, 40, 66] else w
def bk3 (w : WS) (p : SpotS) : WS := if p.second = 1 then w.put [27, 41, 66] else w
def bk4 (w : WS) (p : SpotS) : WS := if p.use = 1 then w.put [15] else w
def takeBack (w : WS) (p : SpotS) : WS := (((w.bk1 p).bk2 p).bk3 p).bk4 p
def saved (w : WS) (S : Sheet) (p : SpotS) : WS := if p = spot0 then w else ((w.toSpot S p 0).put [27, 55]).takeBack p
def screen (w : WS) (S : Sheet) (p : SpotS) : WS := (w.rowsN 0 S).saved S p
def plainB (S : Sheet) : Bool := S.all fun r => r.all fun c => decide (c = blankS)
def freshB (S : Sheet) (p : SpotS) : Bool := plainB S && decide (p = spot0)
def second (w : WS) (s : TS) : WS := if s.shown = 1 then (w.seq [63, 52, 55, 104]).screen s.s1 s.v1 else if freshB s.s1 s.v1 then w else ((w.seq [63, 52, 55, 104]).screen s.s1 s.v1).seq [63, 52, 55, 108]
def screens (w : WS) (s : TS) : WS := (w.screen s.s0 s.v0).second s
def tab1 (w : WS) (k : Nat) (b : Bool) : WS := if b then (w.seq (digN ((k : Int) + 1) ++ [71])).put [27, 72] else w
def tabsN : WS → Nat → List Bool → WS
  | w, _, [] => w
  | w, k, b :: l => tabsN (w.tab1 k b) (k + 1) l
def freshTab (k : Nat) : Bool := decide (0 < k ∧ k % 8 = 0)
def tabsB : Nat → List Bool → Bool
  | _, [] => true
  | k, b :: l => decide (b = freshTab k) && tabsB (k + 1) l
def tabs (w : WS) (s : TS) : WS := if tabsB 0 s.tabs then w else tabsN (w.seq [51, 103]) 0 s.tabs
def region (w : WS) (s : TS) : WS := if s.top ≠ 0 ∨ s.bottom ≠ (s.rows : Int) - 1 then w.seq (pairN s.top s.bottom ++ [114]) else w
def cursor (w : WS) (s : TS) : WS := if s.spot = spot0 ∧ w.tx.length = 0 then w else w.toSpot s.cur s.spot s.top
def set4 (w : WS) (s : TS) : WS := if s.insert then w.seq [52, 104] else w
def set7 (w : WS) (s : TS) : WS := if s.wrap then w else w.seq [63, 55, 108]
def all (w : WS) (s : TS) : WS := (((((w.screens s).tabs s).region s).cursor s).set4 s).set7 s
end WS
/-- THE BYTES. -/
def dumpN (s : TS) : List Int := (WS.zero.all s).tx
end Go.Proofs.YtheibfffilomcaaGreatDoor

