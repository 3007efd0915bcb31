/- The walk of Types. -/
import Derived.Test.YtheibfffilomcaaDoorXi
import Derived.Test.YtheibfffilomcaaDoorPtM
import Derived.Test.YtheibfffilomcaaDoorTold
namespace Go.Proofs.YtheibfffilomcaaDoor
open Go.RowKit

def letL (l : List Int) : List Int := l.map fun x => 33 + x % 94
theorem letL_ok {l : List Int} (h : ∀ x ∈ l, 0 ≤ x ∧ x < 256) : ∀ y ∈ letL l, 33 ≤ y ∧ y ≤ 126 := by
  intro y hy
  unfold letL at hy
  obtain ⟨x, hx, rfl⟩ := List.mem_map.1 hy
  have := h x hx
  omega
theorem letL_snoc (l : List Int) (x : Int) : letL (l ++ [x]) = letL l ++ [33 + x % 94] := by simp [letL]
theorem letL_length (l : List Int) : (letL l).length = l.length := by simp [letL]
theorem tyRow_get (c q : Nat) (l : List Int) (k : Nat) (hk : k < c) : (tyRow c q l).getD k blankS = tyCell l (q * c + k) := by simp [tyRow, List.getD, hk]
theorem typed_cell {r c : Nat} (l : List Int) {i k : Nat} (hi : i < r) (hk : k < c) : (typed r c l).cellAt 0 i k = tyCell l ((tyGone r c l.length + i) * c + k) := by
  show ((tySheet r c (tyGone r c l.length) l).getD i []).getD k blankS = _
  rw [tySheet_getD r c _ l hi, tyRow_get _ _ _ _ hk]
theorem tyCell_in {l : List Int} {i : Nat} {x : Int} (h : l[i]? = some x) : tyCell l i = ⟨x, pen0, 0⟩ := by unfold tyCell; rw [h]
theorem tyCell_out {l : List Int} {i : Nat} (h : l.length ≤ i) : tyCell l i = blankS := by unfold tyCell; rw [List.getElem?_eq_none h]
theorem bl_get (s : ByteArray) (k : Nat) (h : k < s.size) : (bl s)[k]? = some ((s[k]'h).toNat : Int) := by
  unfold bl
  rw [List.getElem?_map, List.getElem?_eq_getElem (by simpa using h)]
  rfl

/-- A guarded operation that is wanted. -/
theorem wpList_on {ops : Array Oper} {rest : List Oper} {o : Oper} {a : Act} {w : World} {Q : Exit → Act → World → Prop} (hw : Region.wanted o (yielded ops a.tmps) = true)
    (h : ∀ K : Act → World → Prop, (∀ a w, wpList Tryd.prog ops Q rest a w → K a w) → o.wp Tryd.prog a w K Q) : wpList Tryd.prog ops Q (o :: rest) a w :=
  wpList_step fun K hK => by simp only [hw, if_true]; exact h K hK
theorem gl_load_cell {ops : Array Oper} {rest : List Oper} {o : Oper} {a : Act} {w : World} {Q : Exit → Act → World → Prop} (hw : Region.wanted o (yielded ops a.tmps) = true) (x : Operand) (ho : o.op = .load 49 x)
    (g : Nat) (hx : a.eval x = .pointer (some ⟨g, 0, none⟩)) (t : TypeId) (cs : Array Value) (fr : Nat × Nat) (hg : w.heap[g]? = some (.cells cs t fr)) (hi : (Tryd.prog.info? 49).map (·.size) = some cs.size)
    (h : wpList Tryd.prog ops Q rest (a.put o.dst (.agg cs)) w) : wpList Tryd.prog ops Q (o :: rest) a w :=
  wpList_on hw fun _ hK => wp_load_row 49 x ho g hx t cs fr _ hg Tryd.underlying49 rfl hi (hK _ _ h)
theorem gl_neqS {ops : Array Oper} {rest : List Oper} {o : Oper} {a : Act} {u : World} {Q : Exit → Act → World → Prop} (hw : Region.wanted o (yielded ops a.tmps) = true) (ty : TypeId) (x y : Operand) (ho : o.op = .binOp .neq ty x y ty) (arr : Array Value) (hx : a.eval x = .agg arr) (hy : a.eval y = .agg arr)
    (hg : ∀ w, (eqGuard .neq ty x y (.agg arr) (.agg arr)).run Tryd.prog w = .ok () w) (hr : ∀ w, (binOp .neq ty (.agg arr) (.agg arr)).run Tryd.prog w = .ok (.bool false) w) (h : wpList Tryd.prog ops Q rest (a.put o.dst (.bool false)) u) : wpList Tryd.prog ops Q (o :: rest) a u := by
  refine wpList_on hw fun K hK => ?_
  have R := hK _ _ h
  unfold Oper.wp execOp
  simp only [ho, hx, hy, Sem.run_bind, hg, hr, Result.andThen_ok, Sem.run_pure]
  exact R

set_option maxRecDepth 100000 in
set_option maxHeartbeats 4000000 in
theorem types_A (a b : Int) (text : ByteArray) (w : World) (ha : -9223372036854775808 ≤ a ∧ a ≤ 9223372036854775807) (hb : -9223372036854775808 ≤ b ∧ b ≤ 9223372036854775807) (htb : Tabs w) (hts : text.size ≤ 281474976710656) (HX : Hid ((text.size + szC b - 1) / szC b = 0)) :
    Calls Tryd.prog 6 #[.agg #[.int .i64 a, .int .i64 b], .string text] w fun e w' => e = .returned (.bool true) ∧ Sm w w' := by
  have hw2 : 2 < w.heap.size := by obtain ⟨t, fr, h⟩ := htb.st; exact blk_lt h
  have hrb := szR_bd a
  have hcb := szC_bd b
  obtain ⟨W, hW⟩ : ∃ W, W = w.alloc (.cells #[.int .i64 a, .int .i64 b] 41) := ⟨_, rfl⟩
  have SW : Sm w W := by rw [hW]; exact (Ch.refl _ _).alloc _
  have GW : W.heap[w.heap.size]? = some (.cells #[.int .i64 a, .int .i64 b] 41 (0, 0)) := by rw [hW]; exact heap_alloc_new _ _
  have hszW : W.heap.size = w.heap.size + 1 := by rw [hW]; simp
  have kR : ∀ u, _ := fun u => srows_any a b u ha
  have kC : ∀ u, _ := fun u => scols_any a b u hb
  have SZ : ∀ u, Sm W u → u.rangeAt w.heap.size 0 [.int .i64 a, .int .i64 b] := fun u hu j v hv => by
    rw [cell_of_row _ _ _ _ _ _ ((hu.block _ (by omega) id).trans GW), Nat.zero_add]; simpa using hv
  have KF : ∀ (u : World) (U : ByteArray), Sm W u → U.size ≤ 281474976710656 → Calls Tryd.prog 18 #[.agg #[.int .i64 a, .int .i64 b], .slice (some ⟨u.heap.size, 0, none⟩) 1 1] (u.alloc (.cells #[.string U] 9)) fun e w' => ∃ fb L, e = .returned (.tuple #[.pointer (some ⟨fb, 0, none⟩), .bool true]) ∧ FAt w' fb L ((FS.fresh (szR a) (szC b)).feed (bl U)) ∧ Sm W w' := fun u U hu hU => by
    have htu : Tabs (u.alloc (.cells #[.string U] 9)) := htb.ch (P := fun _ => False) ((SW.trans hu).alloc _) (fun _ _ h => h)
    have hT : SlTx (u.alloc (.cells #[.string U] 9)) (some ⟨u.heap.size, 0, none⟩) [U] := fun j t hj => ⟨u.heap.size, 0, rfl, by simp, by
      match j, hj with
      | 0, hj => simp at hj; subst hj; exact (cell_of_row _ _ _ _ _ _ (heap_alloc_new u _)).trans rfl⟩
    refine (fed_any a b (some ⟨u.heap.size, 0, none⟩) 1 [U] _ ha hb htu hT (by simp) (by simpa using hU)).mono ?_
    rintro e w' ⟨fb, L, h1, h2, h3⟩
    refine ⟨fb, L, h1, ?_, (hu.alloc _).trans (Ch.of_below h3)⟩
    have e1 : allB [U] = bl U := by simp [allB]
    rw [← e1]; exact h2.f
  have HW : Hid _ := hW
  have k1 := conv1
  clear hW htb
  go_enter Tryd.func6, Tryd.ntmps6
  go_wp2_with fail
  rw [← HW.out]
  have S0 : Sm W W := Ch.refl _ _
  go_loopw [5, 6] (fun s i wr => ∃ (k : Nat) (U : ByteArray), k ≤ text.size ∧ i = .int .i64 k ∧ s = .string U ∧ Hid (bl U = letL ((bl text).take k)) ∧ U.size = k ∧ Sm W wr) (fun _ i _ => text.size - (intOf i).toNat)
  case atStart => exact ⟨0, _, Nat.zero_le _, rfl, rfl, rfl, rfl, S0⟩
  case round =>
    obtain ⟨k, U, hk, rfl, rfl, HU, hU, S1⟩ := hrel
    by_cases hlt : k < text.size
    · have hbt := bl_take text k hlt
      have hx1 : (text[k]'hlt).toNat < 256 := UInt8.toNat_lt _
      have HN : Hid (letL ((bl text).take (k + 1)) = letL ((bl text).take k) ++ [33 + ((text[k]'hlt).toNat : Int) % 94]) := by rw [hbt]; exact letL_snoc _ _
      have HO : Hid (bl (strOfNums [33 + ((text[k]'hlt).toNat : Int) % 94]) = [33 + ((text[k]'hlt).toNat : Int) % 94]) := one_some _ (by omega) (by omega)
      have HZ : Hid ((strOfNums [33 + ((text[k]'hlt).toNat : Int) % 94]).size = 1) := nums_size _
      have v1 : IntKind.i64.wrap ((k : Int) + 1) = (k : Int) + 1 := IntWalk.i64_in _ (by omega)
      have ik : (k : Int) < (text.size : Int) := by omega
      have hz := HZ.out
      clear hbt KF SZ
      go_wp2_with fail
      go_roundw
      case rel => exact ⟨k + 1, U ++ strOfNums [33 + ((text[k]'hlt).toNat : Int) % 94], by omega, by go_num, rfl, by rw [HN.out]; exact (show bl (U ++ _) = _ by rw [bl_append, HU.out, HO.out]), by rw [ByteArray.size_append, HZ.out]; omega, S1.alloc _⟩
      case measure => simp [intOf]; omega
    · have hk : k = text.size := by omega
      subst hk
      have ik : ¬ (text.size : Int) < (text.size : Int) := by omega
      have HA : Hid (bl U = letL (bl text)) := by rw [← bl_all text]; exact HU
      clear HU k1
      go_wp2_with (refine wpList_load_mid rfl 41 (.tmp 2) rfl w.heap.size 0 rfl [.int .i64 a, .int .i64 b] _ (SZ _ S1) Tryd.underlying41 rfl info41 ?_)
      refine (KF _ U S1 (by omega)).mono ?_
      rintro e w2 ⟨fb, L, rfl, F2, S2⟩
      go_wp2_with (refine wpList_load_mid rfl 41 (.tmp 2) rfl w.heap.size 0 rfl [.int .i64 a, .int .i64 b] _ (SZ _ S2) Tryd.underlying41 rfl info41 ?_)
      refine (kR _).mono ?_
      rintro e z1 ⟨rfl, b9⟩
      have S3 : Sm W z1 := S2.trans (Ch.of_below b9)
      have F3 : FAt z1 fb L _ := F2.kept (P := fun _ => False) (Ch.of_below b9) id (fun _ _ => id)
      clear b9 F2
      go_wp2_with (refine wpList_load_mid rfl 41 (.tmp 2) rfl w.heap.size 0 rfl [.int .i64 a, .int .i64 b] _ (SZ _ S3) Tryd.underlying41 rfl info41 ?_)
      refine (kC _).mono ?_
      rintro e z2 ⟨rfl, b9⟩
      have S4 : Sm W z2 := S3.trans (Ch.of_below b9)
      have F4 : FAt z2 fb L _ := F3.kept (P := fun _ => False) (Ch.of_below b9) id (fun _ _ => id)
      have hlt5 : (FS.fresh (szR a) (szC b)).feed (bl U) = ⟨.zero, .zero, typed (szR a) (szC b) (letL (bl text))⟩ := by
        rw [HA.out]; exact letters_typed hrb.1 hcb.1 _ (letL_ok (bl_byte text))
      have HF : Hid (FAt z2 fb L ⟨.zero, .zero, typed (szR a) (szC b) (letL (bl text))⟩) := by rw [← hlt5]; exact F4
      have HI : Hid (typed (szR a) (szC b) (letL (bl text))).Inv := by
        have := ((FS.Ok.fresh hrb hcb).feed (bl U) (bl_byte U)).t
        rw [hlt5] at this; exact this
      clear F3 F4 b9 hlt5 S2 S3 S0 S1 KF kR kC
      have hln : (letL (bl text)).length = text.size := by rw [letL_length, bl_length]
      obtain ⟨n, hn⟩ : ∃ n, text.size = n := ⟨_, rfl⟩
      have hUs : U.size = n := by omega
      rw [hn] at hln hts HX
      have HTx : Hid (text.size = n) := hn
      generalize szR a = R at *
      generalize szC b = C at *
      obtain ⟨q, hq⟩ : ∃ q, q = (n + C - 1) / C := ⟨_, rfl⟩
      have hqi : ((n : Int) + (C : Int) - 1) / (C : Int) = (q : Int) := by
        rw [hq, Int.natCast_ediv]
        congr 1
        omega
      have hqn : q ≤ n := by
        rcases Nat.eq_zero_or_pos n with h | h
        · rw [hq, h, Nat.div_eq_of_lt (by omega)]; omega
        · rw [hq]
          refine Nat.div_le_of_le_mul ?_
          have e : C * n = C * (n - 1) + C := by rw [← Nat.mul_succ]; congr 1; omega
          have := Nat.mul_le_mul_right (n - 1) hcb.1
          omega
      have v1 : IntKind.i64.wrap ((n : Int) + (C : Int)) = (n : Int) + (C : Int) := IntWalk.i64_in _ (by omega)
      have v2 : IntKind.i64.wrap ((n : Int) + (C : Int) - 1) = (n : Int) + (C : Int) - 1 := IntWalk.i64_in _ (by omega)
      have v3 : IntKind.i64.wrap (q : Int) = (q : Int) := IntWalk.i64_in _ (by omega)
      have hC0 : ((C : Int) == 0) = false := by simp; omega
      have HLn : Hid ((letL (bl text)).length = n) := hln
      have HQ : Hid (q = (n + C - 1) / C) := hq
      rw [← hq] at HX
      have hqt : ((n : Int) + (C : Int) - 1).tdiv (C : Int) = (q : Int) := by rw [Int.tdiv_eq_ediv_of_nonneg (by omega)]; exact hqi
      clear hln hU hq hn hk hlt ik hqi
      have kc : ∀ (i k : Nat), i < R → k < C → ∀ u, Sm z2 u → _ := fun i k hi hk u hu => cell_in fb L ⟨.zero, .zero, typed R C (letL (bl text))⟩ 0 i k (by omega) hi hk u (HF.out.kept hu id (fun _ _ => id)) HI.out
      have HK : Hid _ := kc
      have HS4 : Hid (Sm W z2) := S4
      clear kc S4
      · have hq0 : q = 0 := HX.out
        have hq0' : ((q : Int) == 0) = true := by simp; omega
        have hR1 : ¬ ((R : Int) < 1) := by omega
        go_wp2_with fail
        have hln2 : tyLines C n = 1 := by unfold tyLines; rw [← HQ.out]; simp only [hq0, if_true]
        have hgn : tyGone R C n = 0 := by unfold tyGone tyLines; rw [← HQ.out]; simp only [hq0, if_true, show ¬ (R < 1) by omega, if_false]
        have Sz : Sm z2 z2 := Ch.refl _ _
        go_loopw [14] (fun i wr => ∃ k : Nat, k ≤ R ∧ i = .int .i64 k ∧ Sm z2 wr) (fun i _ => R - (intOf i).toNat)
        case atStart => exact ⟨0, Nat.zero_le _, rfl, Sz⟩
        case round =>
          clear Sz
          obtain ⟨i, hi, rfl, S5⟩ := hrel
          by_cases hiR : i < R
          · have iiR : (i : Int) < (R : Int) := by omega
            have vi : IntKind.i64.wrap ((i : Int) + 1) = (i : Int) + 1 := IntWalk.i64_in _ (by omega)
            go_wp2_with fail
            go_loopw [15] (fun k wr => ∃ j : Nat, j ≤ C ∧ k = .int .i64 j ∧ Sm z2 wr) (fun k _ => C - (intOf k).toNat)
            case atStart => exact ⟨0, Nat.zero_le _, rfl, S5⟩
            case round =>
              clear S5
              obtain ⟨k, hk, rfl, S6⟩ := hrel
              by_cases hkC : k < C
              · have ikC : (k : Int) < (C : Int) := by omega
                have vk : IntKind.i64.wrap ((k : Int) + 1) = (k : Int) + 1 := IntWalk.i64_in _ (by omega)
                obtain ⟨m, hm⟩ : ∃ m, m = (0 + i) * C := ⟨_, rfl⟩
                have hmb : m ≤ 281474976710656 * 40 := by rw [hm]; exact Nat.mul_le_mul (by omega) (by omega)
                have hmi : (i : Int) * (C : Int) = (m : Int) := by
                  rw [hm, show (i : Int) = ((0 + i : Nat) : Int) by omega]
                  exact (Int.natCast_mul _ _).symm
                have vg : IntKind.i64.wrap (i : Int) = (i : Int) := IntWalk.i64_in _ (by omega)
                have vm : IntKind.i64.wrap ((i : Int) * (C : Int)) = (m : Int) := by rw [hmi]; exact IntWalk.i64_in _ (by omega)
                have va : IntKind.i64.wrap ((m : Int) + (k : Int)) = (m : Int) + (k : Int) := IntWalk.i64_in _ (by omega)
                have Hcl : Hid ((typed R C (letL (bl text))).cellAt 0 i k = tyCell (letL (bl text)) (m + k)) := by
                  show _ = _
                  rw [typed_cell _ hiR hkC, HLn.out, hgn, ← hm]
                clear hmi hm
                by_cases hat : m + k < n
                · have iat : (m : Int) + (k : Int) < (n : Int) := by omega
                  have hUat : m + k < U.size := by rw [hUs]; exact hat
                  have hxb : (U[m + k]'hUat).toNat < 256 := UInt8.toNat_lt _
                  have vx : IntKind.i64.wrap ((U[m + k]'hUat).toNat : Int) = ((U[m + k]'hUat).toNat : Int) := IntWalk.i64_in _ (by omega)
                  have hgx : (letL (bl text))[m + k]? = some ((U[m + k]'hUat).toNat : Int) := by rw [← HA.out]; exact bl_get U _ hUat
                  have HGx : Hid _ := hgx
                  clear hgx
                  have Sx : Sm z2 (wr.alloc (.cells #[.int .i64 ((U[m + k]'hUat).toNat : Int), .bool false, .bool false, .bool false, .int .i64 0, .int .i64 0, .int .i64 0] 49)) := S6.alloc _
                  have l6 := HK.out i k hiR hkC _ Sx
                  rw [show (⟨RS.zero, MS.zero, typed R C (letL (bl text))⟩ : FS).t.cellAt 0 i k = ⟨((U[m + k]'hUat).toNat : Int), pen0, 0⟩ from Hcl.out.trans (tyCell_in HGx.out)] at l6
                  go_wp2_with fail
                  refine l6.mono ?_
                  rintro e x1 ⟨rfl, q1⟩
                  have hG : x1.heap[wr.heap.size]? = some (.cells (cellV ⟨((U[m + k]'hUat).toNat : Int), pen0, 0⟩).toArray 49 (0, 0)) := (q1.block _ (by simp) id).trans (heap_alloc_new _ _)
                  have hgs := blk_lt hG
                  clear l6
                  go_wp2_with (refine wp_blkset _ rfl 49 (.tmp 18) (.tmp 98) rfl x1.heap.size (cellV zeroC) (cellV ⟨((U[m + k]'hUat).toNat : Int), pen0, 0⟩) rfl _ rfl rfl 49 (heap_alloc_new _ _) rfl info49 (cellV_one _) ?_)
                  intro y1 g1 k1 z1
                  have Sy : Sm z2 y1 := sm_new ((Sx.trans q1).alloc _) k1 (by have := Sx.size; have := q1.size; simp at *; omega)
                  have hG1 : y1.heap[wr.heap.size]? = some (.cells (cellV ⟨((U[m + k]'hUat).toNat : Int), pen0, 0⟩).toArray 49 (0, 0)) := ((k1.block _ (by simp; omega) (by omega)).trans (Below.heap_alloc _ _ _ hgs)).trans hG
                  clear k1 z1 q1 hG Sx
                  go_wp2_with (first | (refine gl_load_cell (by rfl) (.tmp 18) rfl x1.heap.size rfl 49 _ (0, 0) g1 info49 ?_) | (refine gl_load_cell (by rfl) (.tmp 17) rfl wr.heap.size rfl 49 _ (0, 0) hG1 info49 ?_) | (refine gl_neqS (by rfl) 49 _ _ rfl _ rfl rfl (guardS 49 (by simp) _ _ _ _ _) (neqCell ⟨((U[m + k]'hUat).toNat : Int), pen0, 0⟩) ?_))
                  clear g1 hG1
                  go_roundw
                  case rel => exact ⟨k + 1, by omega, by go_num, Sy⟩
                  case measure => simp [intOf]; omega
                · have iat : ¬ ((m : Int) + (k : Int) < (n : Int)) := by omega
                  have Sx : Sm z2 (wr.alloc (.cells #[.int .i64 32, .bool false, .bool false, .bool false, .int .i64 0, .int .i64 0, .int .i64 0] 49)) := S6.alloc _
                  have l6 := HK.out i k hiR hkC _ Sx
                  rw [show (⟨RS.zero, MS.zero, typed R C (letL (bl text))⟩ : FS).t.cellAt 0 i k = ⟨32, pen0, 0⟩ from Hcl.out.trans (tyCell_out (by rw [HLn.out]; omega))] at l6
                  go_wp2_with fail
                  refine l6.mono ?_
                  rintro e x1 ⟨rfl, q1⟩
                  have hG : x1.heap[wr.heap.size]? = some (.cells (cellV ⟨32, pen0, 0⟩).toArray 49 (0, 0)) := (q1.block _ (by simp) id).trans (heap_alloc_new _ _)
                  have hgs := blk_lt hG
                  clear l6
                  go_wp2_with (refine wp_blkset _ rfl 49 (.tmp 18) (.tmp 98) rfl x1.heap.size (cellV zeroC) (cellV ⟨32, pen0, 0⟩) rfl _ rfl rfl 49 (heap_alloc_new _ _) rfl info49 (cellV_one _) ?_)
                  intro y1 g1 k1 z1
                  have Sy : Sm z2 y1 := sm_new ((Sx.trans q1).alloc _) k1 (by have := Sx.size; have := q1.size; simp at *; omega)
                  have hG1 : y1.heap[wr.heap.size]? = some (.cells (cellV ⟨32, pen0, 0⟩).toArray 49 (0, 0)) := ((k1.block _ (by simp; omega) (by omega)).trans (Below.heap_alloc _ _ _ hgs)).trans hG
                  clear k1 z1 q1 hG Sx
                  go_wp2_with (first | (refine gl_load_cell (by rfl) (.tmp 18) rfl x1.heap.size rfl 49 _ (0, 0) g1 info49 ?_) | (refine gl_load_cell (by rfl) (.tmp 17) rfl wr.heap.size rfl 49 _ (0, 0) hG1 info49 ?_) | (refine gl_neqS (by rfl) 49 _ _ rfl _ rfl rfl (guardS 49 (by simp) _ _ _ _ _) (neqCell ⟨32, pen0, 0⟩) ?_))
                  clear g1 hG1
                  go_roundw
                  case rel => exact ⟨k + 1, by omega, by go_num, Sy⟩
                  case measure => simp [intOf]; omega
              · have ikC : ¬ (k : Int) < (C : Int) := by omega
                go_wp2_with fail
                go_roundw
                case rel => exact ⟨i + 1, by omega, by go_num, S6⟩
                case measure => simp [intOf]; omega
          · have iiR : ¬ (i : Int) < (R : Int) := by omega
            have l7 := look_any fb L ⟨.zero, .zero, typed R C (letL (bl text))⟩ wr (HF.out.kept S5 id (fun _ _ => id))
            have st : stV (⟨RS.zero, MS.zero, typed R C (letL (bl text))⟩ : FS).t = [.int .i64 0, .int .i64 (tyCol C n : Int), .bool (tyWaits C n), .bool false, .bool false, .bool false, .int .i64 0, .int .i64 0, .int .i64 0, .int .i64 0, .int .i64 0, .bool false, .int .i64 0, .int .i64 ((R : Int) - 1), .bool true, .bool false, .int .i64 0] := by
              show [Value.int .i64 ((tyLines C (letL (bl text)).length - tyGone R C (letL (bl text)).length - 1 : Nat) : Int), .int .i64 (tyCol C (letL (bl text)).length : Int), .bool (tyWaits C (letL (bl text)).length), .bool false, .bool false, .bool false, .int .i64 0, .int .i64 0, .int .i64 0, .int .i64 0, .int .i64 0, .bool false, .int .i64 0, .int .i64 ((R : Int) - 1), .bool true, .bool false, .int .i64 0] = _
              rw [HLn.out, hgn, hln2, show ((1 - 0 - 1 : Nat) : Int) = 0 by omega]
            rw [st] at l7
            clear st
            have hn0 : n = 0 := by
              have := HQ.out
              rw [hq0] at this
              have := (Nat.div_eq_zero_iff.1 this.symm)
              omega
            subst hn0
            have htw : tyWaits C 0 = false := rfl
            have htc : tyCol C 0 = 0 := by unfold tyCol; rw [htw]; simp
            rw [htw, htc] at l7
            go_wp2_with fail
            refine l7.mono ?_
            rintro e x1 ⟨rfl, q1⟩
            have SF : Sm w x1 := ((SW.trans HS4.out).trans S5).trans q1
            have HSF : Hid _ := SF
            clear SF q1 S5
            go_wp2_with fail
            go_ret
            exact ⟨rfl, HSF.out.alloc _⟩

set_option maxRecDepth 100000 in
set_option maxHeartbeats 4000000 in
theorem types_B (a b : Int) (text : ByteArray) (w : World) (ha : -9223372036854775808 ≤ a ∧ a ≤ 9223372036854775807) (hb : -9223372036854775808 ≤ b ∧ b ≤ 9223372036854775807) (htb : Tabs w) (hts : text.size ≤ 281474976710656) (HX : Hid (¬ (text.size + szC b - 1) / szC b = 0 ∧ szR a < (text.size + szC b - 1) / szC b)) :
    Calls Tryd.prog 6 #[.agg #[.int .i64 a, .int .i64 b], .string text] w fun e w' => e = .returned (.bool true) ∧ Sm w w' := by
  have hw2 : 2 < w.heap.size := by obtain ⟨t, fr, h⟩ := htb.st; exact blk_lt h
  have hrb := szR_bd a
  have hcb := szC_bd b
  obtain ⟨W, hW⟩ : ∃ W, W = w.alloc (.cells #[.int .i64 a, .int .i64 b] 41) := ⟨_, rfl⟩
  have SW : Sm w W := by rw [hW]; exact (Ch.refl _ _).alloc _
  have GW : W.heap[w.heap.size]? = some (.cells #[.int .i64 a, .int .i64 b] 41 (0, 0)) := by rw [hW]; exact heap_alloc_new _ _
  have hszW : W.heap.size = w.heap.size + 1 := by rw [hW]; simp
  have kR : ∀ u, _ := fun u => srows_any a b u ha
  have kC : ∀ u, _ := fun u => scols_any a b u hb
  have SZ : ∀ u, Sm W u → u.rangeAt w.heap.size 0 [.int .i64 a, .int .i64 b] := fun u hu j v hv => by
    rw [cell_of_row _ _ _ _ _ _ ((hu.block _ (by omega) id).trans GW), Nat.zero_add]; simpa using hv
  have KF : ∀ (u : World) (U : ByteArray), Sm W u → U.size ≤ 281474976710656 → Calls Tryd.prog 18 #[.agg #[.int .i64 a, .int .i64 b], .slice (some ⟨u.heap.size, 0, none⟩) 1 1] (u.alloc (.cells #[.string U] 9)) fun e w' => ∃ fb L, e = .returned (.tuple #[.pointer (some ⟨fb, 0, none⟩), .bool true]) ∧ FAt w' fb L ((FS.fresh (szR a) (szC b)).feed (bl U)) ∧ Sm W w' := fun u U hu hU => by
    have htu : Tabs (u.alloc (.cells #[.string U] 9)) := htb.ch (P := fun _ => False) ((SW.trans hu).alloc _) (fun _ _ h => h)
    have hT : SlTx (u.alloc (.cells #[.string U] 9)) (some ⟨u.heap.size, 0, none⟩) [U] := fun j t hj => ⟨u.heap.size, 0, rfl, by simp, by
      match j, hj with
      | 0, hj => simp at hj; subst hj; exact (cell_of_row _ _ _ _ _ _ (heap_alloc_new u _)).trans rfl⟩
    refine (fed_any a b (some ⟨u.heap.size, 0, none⟩) 1 [U] _ ha hb htu hT (by simp) (by simpa using hU)).mono ?_
    rintro e w' ⟨fb, L, h1, h2, h3⟩
    refine ⟨fb, L, h1, ?_, (hu.alloc _).trans (Ch.of_below h3)⟩
    have e1 : allB [U] = bl U := by simp [allB]
    rw [← e1]; exact h2.f
  have HW : Hid _ := hW
  have k1 := conv1
  clear hW htb
  go_enter Tryd.func6, Tryd.ntmps6
  go_wp2_with fail
  rw [← HW.out]
  have S0 : Sm W W := Ch.refl _ _
  go_loopw [5, 6] (fun s i wr => ∃ (k : Nat) (U : ByteArray), k ≤ text.size ∧ i = .int .i64 k ∧ s = .string U ∧ Hid (bl U = letL ((bl text).take k)) ∧ U.size = k ∧ Sm W wr) (fun _ i _ => text.size - (intOf i).toNat)
  case atStart => exact ⟨0, _, Nat.zero_le _, rfl, rfl, rfl, rfl, S0⟩
  case round =>
    obtain ⟨k, U, hk, rfl, rfl, HU, hU, S1⟩ := hrel
    by_cases hlt : k < text.size
    · have hbt := bl_take text k hlt
      have hx1 : (text[k]'hlt).toNat < 256 := UInt8.toNat_lt _
      have HN : Hid (letL ((bl text).take (k + 1)) = letL ((bl text).take k) ++ [33 + ((text[k]'hlt).toNat : Int) % 94]) := by rw [hbt]; exact letL_snoc _ _
      have HO : Hid (bl (strOfNums [33 + ((text[k]'hlt).toNat : Int) % 94]) = [33 + ((text[k]'hlt).toNat : Int) % 94]) := one_some _ (by omega) (by omega)
      have HZ : Hid ((strOfNums [33 + ((text[k]'hlt).toNat : Int) % 94]).size = 1) := nums_size _
      have v1 : IntKind.i64.wrap ((k : Int) + 1) = (k : Int) + 1 := IntWalk.i64_in _ (by omega)
      have ik : (k : Int) < (text.size : Int) := by omega
      have hz := HZ.out
      clear hbt KF SZ
      go_wp2_with fail
      go_roundw
      case rel => exact ⟨k + 1, U ++ strOfNums [33 + ((text[k]'hlt).toNat : Int) % 94], by omega, by go_num, rfl, by rw [HN.out]; exact (show bl (U ++ _) = _ by rw [bl_append, HU.out, HO.out]), by rw [ByteArray.size_append, HZ.out]; omega, S1.alloc _⟩
      case measure => simp [intOf]; omega
    · have hk : k = text.size := by omega
      subst hk
      have ik : ¬ (text.size : Int) < (text.size : Int) := by omega
      have HA : Hid (bl U = letL (bl text)) := by rw [← bl_all text]; exact HU
      clear HU k1
      go_wp2_with (refine wpList_load_mid rfl 41 (.tmp 2) rfl w.heap.size 0 rfl [.int .i64 a, .int .i64 b] _ (SZ _ S1) Tryd.underlying41 rfl info41 ?_)
      refine (KF _ U S1 (by omega)).mono ?_
      rintro e w2 ⟨fb, L, rfl, F2, S2⟩
      go_wp2_with (refine wpList_load_mid rfl 41 (.tmp 2) rfl w.heap.size 0 rfl [.int .i64 a, .int .i64 b] _ (SZ _ S2) Tryd.underlying41 rfl info41 ?_)
      refine (kR _).mono ?_
      rintro e z1 ⟨rfl, b9⟩
      have S3 : Sm W z1 := S2.trans (Ch.of_below b9)
      have F3 : FAt z1 fb L _ := F2.kept (P := fun _ => False) (Ch.of_below b9) id (fun _ _ => id)
      clear b9 F2
      go_wp2_with (refine wpList_load_mid rfl 41 (.tmp 2) rfl w.heap.size 0 rfl [.int .i64 a, .int .i64 b] _ (SZ _ S3) Tryd.underlying41 rfl info41 ?_)
      refine (kC _).mono ?_
      rintro e z2 ⟨rfl, b9⟩
      have S4 : Sm W z2 := S3.trans (Ch.of_below b9)
      have F4 : FAt z2 fb L _ := F3.kept (P := fun _ => False) (Ch.of_below b9) id (fun _ _ => id)
      have hlt5 : (FS.fresh (szR a) (szC b)).feed (bl U) = ⟨.zero, .zero, typed (szR a) (szC b) (letL (bl text))⟩ := by
        rw [HA.out]; exact letters_typed hrb.1 hcb.1 _ (letL_ok (bl_byte text))
      have HF : Hid (FAt z2 fb L ⟨.zero, .zero, typed (szR a) (szC b) (letL (bl text))⟩) := by rw [← hlt5]; exact F4
      have HI : Hid (typed (szR a) (szC b) (letL (bl text))).Inv := by
        have := ((FS.Ok.fresh hrb hcb).feed (bl U) (bl_byte U)).t
        rw [hlt5] at this; exact this
      clear F3 F4 b9 hlt5 S2 S3 S0 S1 KF kR kC
      have hln : (letL (bl text)).length = text.size := by rw [letL_length, bl_length]
      obtain ⟨n, hn⟩ : ∃ n, text.size = n := ⟨_, rfl⟩
      have hUs : U.size = n := by omega
      rw [hn] at hln hts HX
      have HTx : Hid (text.size = n) := hn
      generalize szR a = R at *
      generalize szC b = C at *
      obtain ⟨q, hq⟩ : ∃ q, q = (n + C - 1) / C := ⟨_, rfl⟩
      have hqi : ((n : Int) + (C : Int) - 1) / (C : Int) = (q : Int) := by
        rw [hq, Int.natCast_ediv]
        congr 1
        omega
      have hqn : q ≤ n := by
        rcases Nat.eq_zero_or_pos n with h | h
        · rw [hq, h, Nat.div_eq_of_lt (by omega)]; omega
        · rw [hq]
          refine Nat.div_le_of_le_mul ?_
          have e : C * n = C * (n - 1) + C := by rw [← Nat.mul_succ]; congr 1; omega
          have := Nat.mul_le_mul_right (n - 1) hcb.1
          omega
      have v1 : IntKind.i64.wrap ((n : Int) + (C : Int)) = (n : Int) + (C : Int) := IntWalk.i64_in _ (by omega)
      have v2 : IntKind.i64.wrap ((n : Int) + (C : Int) - 1) = (n : Int) + (C : Int) - 1 := IntWalk.i64_in _ (by omega)
      have v3 : IntKind.i64.wrap (q : Int) = (q : Int) := IntWalk.i64_in _ (by omega)
      have hC0 : ((C : Int) == 0) = false := by simp; omega
      have HLn : Hid ((letL (bl text)).length = n) := hln
      have HQ : Hid (q = (n + C - 1) / C) := hq
      rw [← hq] at HX
      have hqt : ((n : Int) + (C : Int) - 1).tdiv (C : Int) = (q : Int) := by rw [Int.tdiv_eq_ediv_of_nonneg (by omega)]; exact hqi
      clear hln hU hq hn hk hlt ik hqi
      have kc : ∀ (i k : Nat), i < R → k < C → ∀ u, Sm z2 u → _ := fun i k hi hk u hu => cell_in fb L ⟨.zero, .zero, typed R C (letL (bl text))⟩ 0 i k (by omega) hi hk u (HF.out.kept hu id (fun _ _ => id)) HI.out
      have HK : Hid _ := kc
      have HS4 : Hid (Sm W z2) := S4
      clear kc S4
      · have hq0 : ¬ q = 0 := HX.out.1
        have hRq := HX.out.2
        have hq0' : ((q : Int) == 0) = false := by simp; omega
        have vb4 : IntKind.i64.wrap (R : Int) = (R : Int) := IntWalk.i64_in _ (by omega)
        have vb3 : IntKind.i64.wrap ((R : Int) - 1) = (R : Int) - 1 := IntWalk.i64_in _ (by omega)
        have vb5 : IntKind.i64.wrap ((q : Int) - 1) = (q : Int) - 1 := IntWalk.i64_in _ (by omega)
        · have iRq : (R : Int) < (q : Int) := by omega
          have vb1 : IntKind.i64.wrap ((q : Int) - (R : Int)) = (q : Int) - (R : Int) := IntWalk.i64_in _ (by omega)
          have vb2 : IntKind.i64.wrap ((q : Int) - ((q : Int) - (R : Int))) = (R : Int) := by rw [show (q : Int) - ((q : Int) - (R : Int)) = (R : Int) by omega]; exact vb4
          go_wp2_with fail
          have hln2 : tyLines C n = q := by unfold tyLines; rw [← HQ.out]; simp only [hq0, if_false]
          have hgn : tyGone R C n = (q - R) := by unfold tyGone tyLines; rw [← HQ.out]; simp only [hq0, if_false, hRq, if_true]
          have Sz : Sm z2 z2 := Ch.refl _ _
          go_loopw [14] (fun i wr => ∃ k : Nat, k ≤ R ∧ i = .int .i64 k ∧ Sm z2 wr) (fun i _ => R - (intOf i).toNat)
          case atStart => exact ⟨0, Nat.zero_le _, rfl, Sz⟩
          case round =>
            clear Sz
            obtain ⟨i, hi, rfl, S5⟩ := hrel
            by_cases hiR : i < R
            · have iiR : (i : Int) < (R : Int) := by omega
              have vi : IntKind.i64.wrap ((i : Int) + 1) = (i : Int) + 1 := IntWalk.i64_in _ (by omega)
              go_wp2_with fail
              go_loopw [15] (fun k wr => ∃ j : Nat, j ≤ C ∧ k = .int .i64 j ∧ Sm z2 wr) (fun k _ => C - (intOf k).toNat)
              case atStart => exact ⟨0, Nat.zero_le _, rfl, S5⟩
              case round =>
                clear S5
                obtain ⟨k, hk, rfl, S6⟩ := hrel
                by_cases hkC : k < C
                · have ikC : (k : Int) < (C : Int) := by omega
                  have vk : IntKind.i64.wrap ((k : Int) + 1) = (k : Int) + 1 := IntWalk.i64_in _ (by omega)
                  obtain ⟨m, hm⟩ : ∃ m, m = ((q - R) + i) * C := ⟨_, rfl⟩
                  have hmb : m ≤ 281474976710656 * 40 := by rw [hm]; exact Nat.mul_le_mul (by omega) (by omega)
                  have hmi : ((q : Int) - (R : Int) + (i : Int)) * (C : Int) = (m : Int) := by
                    rw [hm, show ((q : Int) - (R : Int) + (i : Int)) = (((q - R) + i : Nat) : Int) by omega]
                    exact (Int.natCast_mul _ _).symm
                  have vg : IntKind.i64.wrap ((q : Int) - (R : Int) + (i : Int)) = ((q : Int) - (R : Int) + (i : Int)) := IntWalk.i64_in _ (by omega)
                  have vm : IntKind.i64.wrap (((q : Int) - (R : Int) + (i : Int)) * (C : Int)) = (m : Int) := by rw [hmi]; exact IntWalk.i64_in _ (by omega)
                  have va : IntKind.i64.wrap ((m : Int) + (k : Int)) = (m : Int) + (k : Int) := IntWalk.i64_in _ (by omega)
                  have Hcl : Hid ((typed R C (letL (bl text))).cellAt 0 i k = tyCell (letL (bl text)) (m + k)) := by
                    show _ = _
                    rw [typed_cell _ hiR hkC, HLn.out, hgn, ← hm]
                  clear hmi hm
                  by_cases hat : m + k < n
                  · have iat : (m : Int) + (k : Int) < (n : Int) := by omega
                    have hUat : m + k < U.size := by rw [hUs]; exact hat
                    have hxb : (U[m + k]'hUat).toNat < 256 := UInt8.toNat_lt _
                    have vx : IntKind.i64.wrap ((U[m + k]'hUat).toNat : Int) = ((U[m + k]'hUat).toNat : Int) := IntWalk.i64_in _ (by omega)
                    have hgx : (letL (bl text))[m + k]? = some ((U[m + k]'hUat).toNat : Int) := by rw [← HA.out]; exact bl_get U _ hUat
                    have HGx : Hid _ := hgx
                    clear hgx
                    have Sx : Sm z2 (wr.alloc (.cells #[.int .i64 ((U[m + k]'hUat).toNat : Int), .bool false, .bool false, .bool false, .int .i64 0, .int .i64 0, .int .i64 0] 49)) := S6.alloc _
                    have l6 := HK.out i k hiR hkC _ Sx
                    rw [show (⟨RS.zero, MS.zero, typed R C (letL (bl text))⟩ : FS).t.cellAt 0 i k = ⟨((U[m + k]'hUat).toNat : Int), pen0, 0⟩ from Hcl.out.trans (tyCell_in HGx.out)] at l6
                    go_wp2_with fail
                    refine l6.mono ?_
                    rintro e x1 ⟨rfl, q1⟩
                    have hG : x1.heap[wr.heap.size]? = some (.cells (cellV ⟨((U[m + k]'hUat).toNat : Int), pen0, 0⟩).toArray 49 (0, 0)) := (q1.block _ (by simp) id).trans (heap_alloc_new _ _)
                    have hgs := blk_lt hG
                    clear l6
                    go_wp2_with (refine wp_blkset _ rfl 49 (.tmp 18) (.tmp 98) rfl x1.heap.size (cellV zeroC) (cellV ⟨((U[m + k]'hUat).toNat : Int), pen0, 0⟩) rfl _ rfl rfl 49 (heap_alloc_new _ _) rfl info49 (cellV_one _) ?_)
                    intro y1 g1 k1 z1
                    have Sy : Sm z2 y1 := sm_new ((Sx.trans q1).alloc _) k1 (by have := Sx.size; have := q1.size; simp at *; omega)
                    have hG1 : y1.heap[wr.heap.size]? = some (.cells (cellV ⟨((U[m + k]'hUat).toNat : Int), pen0, 0⟩).toArray 49 (0, 0)) := ((k1.block _ (by simp; omega) (by omega)).trans (Below.heap_alloc _ _ _ hgs)).trans hG
                    clear k1 z1 q1 hG Sx
                    go_wp2_with (first | (refine gl_load_cell (by rfl) (.tmp 18) rfl x1.heap.size rfl 49 _ (0, 0) g1 info49 ?_) | (refine gl_load_cell (by rfl) (.tmp 17) rfl wr.heap.size rfl 49 _ (0, 0) hG1 info49 ?_) | (refine gl_neqS (by rfl) 49 _ _ rfl _ rfl rfl (guardS 49 (by simp) _ _ _ _ _) (neqCell ⟨((U[m + k]'hUat).toNat : Int), pen0, 0⟩) ?_))
                    clear g1 hG1
                    go_roundw
                    case rel => exact ⟨k + 1, by omega, by go_num, Sy⟩
                    case measure => simp [intOf]; omega
                  · have iat : ¬ ((m : Int) + (k : Int) < (n : Int)) := by omega
                    have Sx : Sm z2 (wr.alloc (.cells #[.int .i64 32, .bool false, .bool false, .bool false, .int .i64 0, .int .i64 0, .int .i64 0] 49)) := S6.alloc _
                    have l6 := HK.out i k hiR hkC _ Sx
                    rw [show (⟨RS.zero, MS.zero, typed R C (letL (bl text))⟩ : FS).t.cellAt 0 i k = ⟨32, pen0, 0⟩ from Hcl.out.trans (tyCell_out (by rw [HLn.out]; omega))] at l6
                    go_wp2_with fail
                    refine l6.mono ?_
                    rintro e x1 ⟨rfl, q1⟩
                    have hG : x1.heap[wr.heap.size]? = some (.cells (cellV ⟨32, pen0, 0⟩).toArray 49 (0, 0)) := (q1.block _ (by simp) id).trans (heap_alloc_new _ _)
                    have hgs := blk_lt hG
                    clear l6
                    go_wp2_with (refine wp_blkset _ rfl 49 (.tmp 18) (.tmp 98) rfl x1.heap.size (cellV zeroC) (cellV ⟨32, pen0, 0⟩) rfl _ rfl rfl 49 (heap_alloc_new _ _) rfl info49 (cellV_one _) ?_)
                    intro y1 g1 k1 z1
                    have Sy : Sm z2 y1 := sm_new ((Sx.trans q1).alloc _) k1 (by have := Sx.size; have := q1.size; simp at *; omega)
                    have hG1 : y1.heap[wr.heap.size]? = some (.cells (cellV ⟨32, pen0, 0⟩).toArray 49 (0, 0)) := ((k1.block _ (by simp; omega) (by omega)).trans (Below.heap_alloc _ _ _ hgs)).trans hG
                    clear k1 z1 q1 hG Sx
                    go_wp2_with (first | (refine gl_load_cell (by rfl) (.tmp 18) rfl x1.heap.size rfl 49 _ (0, 0) g1 info49 ?_) | (refine gl_load_cell (by rfl) (.tmp 17) rfl wr.heap.size rfl 49 _ (0, 0) hG1 info49 ?_) | (refine gl_neqS (by rfl) 49 _ _ rfl _ rfl rfl (guardS 49 (by simp) _ _ _ _ _) (neqCell ⟨32, pen0, 0⟩) ?_))
                    clear g1 hG1
                    go_roundw
                    case rel => exact ⟨k + 1, by omega, by go_num, Sy⟩
                    case measure => simp [intOf]; omega
                · have ikC : ¬ (k : Int) < (C : Int) := by omega
                  go_wp2_with fail
                  go_roundw
                  case rel => exact ⟨i + 1, by omega, by go_num, S6⟩
                  case measure => simp [intOf]; omega
            · have iiR : ¬ (i : Int) < (R : Int) := by omega
              have l7 := look_any fb L ⟨.zero, .zero, typed R C (letL (bl text))⟩ wr (HF.out.kept S5 id (fun _ _ => id))
              have st : stV (⟨RS.zero, MS.zero, typed R C (letL (bl text))⟩ : FS).t = [.int .i64 ((R : Int) - 1), .int .i64 (tyCol C n : Int), .bool (tyWaits C n), .bool false, .bool false, .bool false, .int .i64 0, .int .i64 0, .int .i64 0, .int .i64 0, .int .i64 0, .bool false, .int .i64 0, .int .i64 ((R : Int) - 1), .bool true, .bool false, .int .i64 0] := by
                show [Value.int .i64 ((tyLines C (letL (bl text)).length - tyGone R C (letL (bl text)).length - 1 : Nat) : Int), .int .i64 (tyCol C (letL (bl text)).length : Int), .bool (tyWaits C (letL (bl text)).length), .bool false, .bool false, .bool false, .int .i64 0, .int .i64 0, .int .i64 0, .int .i64 0, .int .i64 0, .bool false, .int .i64 0, .int .i64 ((R : Int) - 1), .bool true, .bool false, .int .i64 0] = _
                rw [HLn.out, hgn, hln2, show ((q - (q - R) - 1 : Nat) : Int) = ((R : Int) - 1) by omega]
              rw [st] at l7
              clear st
              have hnp : (0 : Int) < (n : Int) := by
                rcases Nat.eq_zero_or_pos n with h | h
                · exfalso
                  apply hq0
                  rw [HQ.out, h]
                  exact Nat.div_eq_of_lt (by omega)
                · omega
              obtain ⟨r, hr⟩ : ∃ r, r = n % C := ⟨_, rfl⟩
              have hrC : r < C := by rw [hr]; exact Nat.mod_lt _ (by omega)
              have hr2 : (n : Int) % (C : Int) = (r : Int) := by rw [hr]; exact (Int.natCast_emod _ _).symm
              have hr1 : (n : Int).tmod (C : Int) = (r : Int) := by rw [Int.tmod_eq_emod_of_nonneg (by omega)]; exact hr2
              have hr3 : IntKind.i64.wrap (r : Int) = (r : Int) := IntWalk.i64_in _ (by omega)
              have vc : IntKind.i64.wrap ((C : Int) - 1) = (C : Int) - 1 := IntWalk.i64_in _ (by omega)
              by_cases hr0 : r = 0
              · have htw : tyWaits C n = true := by unfold tyWaits; rw [← hr, hr0]; simp; omega
                have htc : (tyCol C n : Int) = (C : Int) - 1 := by unfold tyCol; rw [htw]; simp; omega
                have hrz : ((r : Int) == 0) = true := by simp; omega
                rw [htw, htc] at l7
                clear hr htw htc
                go_wp2_with fail
                refine l7.mono ?_
                rintro e x1 ⟨rfl, q1⟩
                have SF : Sm w x1 := ((SW.trans HS4.out).trans S5).trans q1
                have HSF : Hid _ := SF
                clear SF q1 S5
                go_wp2_with fail
                go_ret
                exact ⟨rfl, HSF.out.alloc _⟩
              · have htw : tyWaits C n = false := by unfold tyWaits; rw [← hr]; simp; intro _; exact hr0
                have htc : (tyCol C n : Int) = (r : Int) := by unfold tyCol; rw [htw, ← hr]; simp
                have hrz : ((r : Int) == 0) = false := by simp; omega
                rw [htw, htc] at l7
                clear hr htw htc
                go_wp2_with fail
                refine l7.mono ?_
                rintro e x1 ⟨rfl, q1⟩
                have SF : Sm w x1 := ((SW.trans HS4.out).trans S5).trans q1
                have HSF : Hid _ := SF
                clear SF q1 S5
                go_wp2_with fail
                go_ret
                exact ⟨rfl, HSF.out.alloc _⟩

set_option maxRecDepth 100000 in
set_option maxHeartbeats 4000000 in
theorem types_C (a b : Int) (text : ByteArray) (w : World) (ha : -9223372036854775808 ≤ a ∧ a ≤ 9223372036854775807) (hb : -9223372036854775808 ≤ b ∧ b ≤ 9223372036854775807) (htb : Tabs w) (hts : text.size ≤ 281474976710656) (HX : Hid (¬ (text.size + szC b - 1) / szC b = 0 ∧ ¬ szR a < (text.size + szC b - 1) / szC b)) :
    Calls Tryd.prog 6 #[.agg #[.int .i64 a, .int .i64 b], .string text] w fun e w' => e = .returned (.bool true) ∧ Sm w w' := by
  have hw2 : 2 < w.heap.size := by obtain ⟨t, fr, h⟩ := htb.st; exact blk_lt h
  have hrb := szR_bd a
  have hcb := szC_bd b
  obtain ⟨W, hW⟩ : ∃ W, W = w.alloc (.cells #[.int .i64 a, .int .i64 b] 41) := ⟨_, rfl⟩
  have SW : Sm w W := by rw [hW]; exact (Ch.refl _ _).alloc _
  have GW : W.heap[w.heap.size]? = some (.cells #[.int .i64 a, .int .i64 b] 41 (0, 0)) := by rw [hW]; exact heap_alloc_new _ _
  have hszW : W.heap.size = w.heap.size + 1 := by rw [hW]; simp
  have kR : ∀ u, _ := fun u => srows_any a b u ha
  have kC : ∀ u, _ := fun u => scols_any a b u hb
  have SZ : ∀ u, Sm W u → u.rangeAt w.heap.size 0 [.int .i64 a, .int .i64 b] := fun u hu j v hv => by
    rw [cell_of_row _ _ _ _ _ _ ((hu.block _ (by omega) id).trans GW), Nat.zero_add]; simpa using hv
  have KF : ∀ (u : World) (U : ByteArray), Sm W u → U.size ≤ 281474976710656 → Calls Tryd.prog 18 #[.agg #[.int .i64 a, .int .i64 b], .slice (some ⟨u.heap.size, 0, none⟩) 1 1] (u.alloc (.cells #[.string U] 9)) fun e w' => ∃ fb L, e = .returned (.tuple #[.pointer (some ⟨fb, 0, none⟩), .bool true]) ∧ FAt w' fb L ((FS.fresh (szR a) (szC b)).feed (bl U)) ∧ Sm W w' := fun u U hu hU => by
    have htu : Tabs (u.alloc (.cells #[.string U] 9)) := htb.ch (P := fun _ => False) ((SW.trans hu).alloc _) (fun _ _ h => h)
    have hT : SlTx (u.alloc (.cells #[.string U] 9)) (some ⟨u.heap.size, 0, none⟩) [U] := fun j t hj => ⟨u.heap.size, 0, rfl, by simp, by
      match j, hj with
      | 0, hj => simp at hj; subst hj; exact (cell_of_row _ _ _ _ _ _ (heap_alloc_new u _)).trans rfl⟩
    refine (fed_any a b (some ⟨u.heap.size, 0, none⟩) 1 [U] _ ha hb htu hT (by simp) (by simpa using hU)).mono ?_
    rintro e w' ⟨fb, L, h1, h2, h3⟩
    refine ⟨fb, L, h1, ?_, (hu.alloc _).trans (Ch.of_below h3)⟩
    have e1 : allB [U] = bl U := by simp [allB]
    rw [← e1]; exact h2.f
  have HW : Hid _ := hW
  have k1 := conv1
  clear hW htb
  go_enter Tryd.func6, Tryd.ntmps6
  go_wp2_with fail
  rw [← HW.out]
  have S0 : Sm W W := Ch.refl _ _
  go_loopw [5, 6] (fun s i wr => ∃ (k : Nat) (U : ByteArray), k ≤ text.size ∧ i = .int .i64 k ∧ s = .string U ∧ Hid (bl U = letL ((bl text).take k)) ∧ U.size = k ∧ Sm W wr) (fun _ i _ => text.size - (intOf i).toNat)
  case atStart => exact ⟨0, _, Nat.zero_le _, rfl, rfl, rfl, rfl, S0⟩
  case round =>
    obtain ⟨k, U, hk, rfl, rfl, HU, hU, S1⟩ := hrel
    by_cases hlt : k < text.size
    · have hbt := bl_take text k hlt
      have hx1 : (text[k]'hlt).toNat < 256 := UInt8.toNat_lt _
      have HN : Hid (letL ((bl text).take (k + 1)) = letL ((bl text).take k) ++ [33 + ((text[k]'hlt).toNat : Int) % 94]) := by rw [hbt]; exact letL_snoc _ _
      have HO : Hid (bl (strOfNums [33 + ((text[k]'hlt).toNat : Int) % 94]) = [33 + ((text[k]'hlt).toNat : Int) % 94]) := one_some _ (by omega) (by omega)
      have HZ : Hid ((strOfNums [33 + ((text[k]'hlt).toNat : Int) % 94]).size = 1) := nums_size _
      have v1 : IntKind.i64.wrap ((k : Int) + 1) = (k : Int) + 1 := IntWalk.i64_in _ (by omega)
      have ik : (k : Int) < (text.size : Int) := by omega
      have hz := HZ.out
      clear hbt KF SZ
      go_wp2_with fail
      go_roundw
      case rel => exact ⟨k + 1, U ++ strOfNums [33 + ((text[k]'hlt).toNat : Int) % 94], by omega, by go_num, rfl, by rw [HN.out]; exact (show bl (U ++ _) = _ by rw [bl_append, HU.out, HO.out]), by rw [ByteArray.size_append, HZ.out]; omega, S1.alloc _⟩
      case measure => simp [intOf]; omega
    · have hk : k = text.size := by omega
      subst hk
      have ik : ¬ (text.size : Int) < (text.size : Int) := by omega
      have HA : Hid (bl U = letL (bl text)) := by rw [← bl_all text]; exact HU
      clear HU k1
      go_wp2_with (refine wpList_load_mid rfl 41 (.tmp 2) rfl w.heap.size 0 rfl [.int .i64 a, .int .i64 b] _ (SZ _ S1) Tryd.underlying41 rfl info41 ?_)
      refine (KF _ U S1 (by omega)).mono ?_
      rintro e w2 ⟨fb, L, rfl, F2, S2⟩
      go_wp2_with (refine wpList_load_mid rfl 41 (.tmp 2) rfl w.heap.size 0 rfl [.int .i64 a, .int .i64 b] _ (SZ _ S2) Tryd.underlying41 rfl info41 ?_)
      refine (kR _).mono ?_
      rintro e z1 ⟨rfl, b9⟩
      have S3 : Sm W z1 := S2.trans (Ch.of_below b9)
      have F3 : FAt z1 fb L _ := F2.kept (P := fun _ => False) (Ch.of_below b9) id (fun _ _ => id)
      clear b9 F2
      go_wp2_with (refine wpList_load_mid rfl 41 (.tmp 2) rfl w.heap.size 0 rfl [.int .i64 a, .int .i64 b] _ (SZ _ S3) Tryd.underlying41 rfl info41 ?_)
      refine (kC _).mono ?_
      rintro e z2 ⟨rfl, b9⟩
      have S4 : Sm W z2 := S3.trans (Ch.of_below b9)
      have F4 : FAt z2 fb L _ := F3.kept (P := fun _ => False) (Ch.of_below b9) id (fun _ _ => id)
      have hlt5 : (FS.fresh (szR a) (szC b)).feed (bl U) = ⟨.zero, .zero, typed (szR a) (szC b) (letL (bl text))⟩ := by
        rw [HA.out]; exact letters_typed hrb.1 hcb.1 _ (letL_ok (bl_byte text))
      have HF : Hid (FAt z2 fb L ⟨.zero, .zero, typed (szR a) (szC b) (letL (bl text))⟩) := by rw [← hlt5]; exact F4
      have HI : Hid (typed (szR a) (szC b) (letL (bl text))).Inv := by
        have := ((FS.Ok.fresh hrb hcb).feed (bl U) (bl_byte U)).t
        rw [hlt5] at this; exact this
      clear F3 F4 b9 hlt5 S2 S3 S0 S1 KF kR kC
      have hln : (letL (bl text)).length = text.size := by rw [letL_length, bl_length]
      obtain ⟨n, hn⟩ : ∃ n, text.size = n := ⟨_, rfl⟩
      have hUs : U.size = n := by omega
      rw [hn] at hln hts HX
      have HTx : Hid (text.size = n) := hn
      generalize szR a = R at *
      generalize szC b = C at *
      obtain ⟨q, hq⟩ : ∃ q, q = (n + C - 1) / C := ⟨_, rfl⟩
      have hqi : ((n : Int) + (C : Int) - 1) / (C : Int) = (q : Int) := by
        rw [hq, Int.natCast_ediv]
        congr 1
        omega
      have hqn : q ≤ n := by
        rcases Nat.eq_zero_or_pos n with h | h
        · rw [hq, h, Nat.div_eq_of_lt (by omega)]; omega
        · rw [hq]
          refine Nat.div_le_of_le_mul ?_
          have e : C * n = C * (n - 1) + C := by rw [← Nat.mul_succ]; congr 1; omega
          have := Nat.mul_le_mul_right (n - 1) hcb.1
          omega
      have v1 : IntKind.i64.wrap ((n : Int) + (C : Int)) = (n : Int) + (C : Int) := IntWalk.i64_in _ (by omega)
      have v2 : IntKind.i64.wrap ((n : Int) + (C : Int) - 1) = (n : Int) + (C : Int) - 1 := IntWalk.i64_in _ (by omega)
      have v3 : IntKind.i64.wrap (q : Int) = (q : Int) := IntWalk.i64_in _ (by omega)
      have hC0 : ((C : Int) == 0) = false := by simp; omega
      have HLn : Hid ((letL (bl text)).length = n) := hln
      have HQ : Hid (q = (n + C - 1) / C) := hq
      rw [← hq] at HX
      have hqt : ((n : Int) + (C : Int) - 1).tdiv (C : Int) = (q : Int) := by rw [Int.tdiv_eq_ediv_of_nonneg (by omega)]; exact hqi
      clear hln hU hq hn hk hlt ik hqi
      have kc : ∀ (i k : Nat), i < R → k < C → ∀ u, Sm z2 u → _ := fun i k hi hk u hu => cell_in fb L ⟨.zero, .zero, typed R C (letL (bl text))⟩ 0 i k (by omega) hi hk u (HF.out.kept hu id (fun _ _ => id)) HI.out
      have HK : Hid _ := kc
      have HS4 : Hid (Sm W z2) := S4
      clear kc S4
      · have hq0 : ¬ q = 0 := HX.out.1
        have hRq := HX.out.2
        have hq0' : ((q : Int) == 0) = false := by simp; omega
        have vb5 : IntKind.i64.wrap ((q : Int) - 1) = (q : Int) - 1 := IntWalk.i64_in _ (by omega)
        · have iRq : ¬ ((R : Int) < (q : Int)) := by omega
          go_wp2_with fail
          have hln2 : tyLines C n = q := by unfold tyLines; rw [← HQ.out]; simp only [hq0, if_false]
          have hgn : tyGone R C n = 0 := by unfold tyGone tyLines; rw [← HQ.out]; simp only [hq0, if_false, hRq]
          have Sz : Sm z2 z2 := Ch.refl _ _
          go_loopw [14] (fun i wr => ∃ k : Nat, k ≤ R ∧ i = .int .i64 k ∧ Sm z2 wr) (fun i _ => R - (intOf i).toNat)
          case atStart => exact ⟨0, Nat.zero_le _, rfl, Sz⟩
          case round =>
            clear Sz
            obtain ⟨i, hi, rfl, S5⟩ := hrel
            by_cases hiR : i < R
            · have iiR : (i : Int) < (R : Int) := by omega
              have vi : IntKind.i64.wrap ((i : Int) + 1) = (i : Int) + 1 := IntWalk.i64_in _ (by omega)
              go_wp2_with fail
              go_loopw [15] (fun k wr => ∃ j : Nat, j ≤ C ∧ k = .int .i64 j ∧ Sm z2 wr) (fun k _ => C - (intOf k).toNat)
              case atStart => exact ⟨0, Nat.zero_le _, rfl, S5⟩
              case round =>
                clear S5
                obtain ⟨k, hk, rfl, S6⟩ := hrel
                by_cases hkC : k < C
                · have ikC : (k : Int) < (C : Int) := by omega
                  have vk : IntKind.i64.wrap ((k : Int) + 1) = (k : Int) + 1 := IntWalk.i64_in _ (by omega)
                  obtain ⟨m, hm⟩ : ∃ m, m = (0 + i) * C := ⟨_, rfl⟩
                  have hmb : m ≤ 281474976710656 * 40 := by rw [hm]; exact Nat.mul_le_mul (by omega) (by omega)
                  have hmi : (i : Int) * (C : Int) = (m : Int) := by
                    rw [hm, show (i : Int) = ((0 + i : Nat) : Int) by omega]
                    exact (Int.natCast_mul _ _).symm
                  have vg : IntKind.i64.wrap (i : Int) = (i : Int) := IntWalk.i64_in _ (by omega)
                  have vm : IntKind.i64.wrap ((i : Int) * (C : Int)) = (m : Int) := by rw [hmi]; exact IntWalk.i64_in _ (by omega)
                  have va : IntKind.i64.wrap ((m : Int) + (k : Int)) = (m : Int) + (k : Int) := IntWalk.i64_in _ (by omega)
                  have Hcl : Hid ((typed R C (letL (bl text))).cellAt 0 i k = tyCell (letL (bl text)) (m + k)) := by
                    show _ = _
                    rw [typed_cell _ hiR hkC, HLn.out, hgn, ← hm]
                  clear hmi hm
                  by_cases hat : m + k < n
                  · have iat : (m : Int) + (k : Int) < (n : Int) := by omega
                    have hUat : m + k < U.size := by rw [hUs]; exact hat
                    have hxb : (U[m + k]'hUat).toNat < 256 := UInt8.toNat_lt _
                    have vx : IntKind.i64.wrap ((U[m + k]'hUat).toNat : Int) = ((U[m + k]'hUat).toNat : Int) := IntWalk.i64_in _ (by omega)
                    have hgx : (letL (bl text))[m + k]? = some ((U[m + k]'hUat).toNat : Int) := by rw [← HA.out]; exact bl_get U _ hUat
                    have HGx : Hid _ := hgx
                    clear hgx
                    have Sx : Sm z2 (wr.alloc (.cells #[.int .i64 ((U[m + k]'hUat).toNat : Int), .bool false, .bool false, .bool false, .int .i64 0, .int .i64 0, .int .i64 0] 49)) := S6.alloc _
                    have l6 := HK.out i k hiR hkC _ Sx
                    rw [show (⟨RS.zero, MS.zero, typed R C (letL (bl text))⟩ : FS).t.cellAt 0 i k = ⟨((U[m + k]'hUat).toNat : Int), pen0, 0⟩ from Hcl.out.trans (tyCell_in HGx.out)] at l6
                    go_wp2_with fail
                    refine l6.mono ?_
                    rintro e x1 ⟨rfl, q1⟩
                    have hG : x1.heap[wr.heap.size]? = some (.cells (cellV ⟨((U[m + k]'hUat).toNat : Int), pen0, 0⟩).toArray 49 (0, 0)) := (q1.block _ (by simp) id).trans (heap_alloc_new _ _)
                    have hgs := blk_lt hG
                    clear l6
                    go_wp2_with (refine wp_blkset _ rfl 49 (.tmp 18) (.tmp 98) rfl x1.heap.size (cellV zeroC) (cellV ⟨((U[m + k]'hUat).toNat : Int), pen0, 0⟩) rfl _ rfl rfl 49 (heap_alloc_new _ _) rfl info49 (cellV_one _) ?_)
                    intro y1 g1 k1 z1
                    have Sy : Sm z2 y1 := sm_new ((Sx.trans q1).alloc _) k1 (by have := Sx.size; have := q1.size; simp at *; omega)
                    have hG1 : y1.heap[wr.heap.size]? = some (.cells (cellV ⟨((U[m + k]'hUat).toNat : Int), pen0, 0⟩).toArray 49 (0, 0)) := ((k1.block _ (by simp; omega) (by omega)).trans (Below.heap_alloc _ _ _ hgs)).trans hG
                    clear k1 z1 q1 hG Sx
                    go_wp2_with (first | (refine gl_load_cell (by rfl) (.tmp 18) rfl x1.heap.size rfl 49 _ (0, 0) g1 info49 ?_) | (refine gl_load_cell (by rfl) (.tmp 17) rfl wr.heap.size rfl 49 _ (0, 0) hG1 info49 ?_) | (refine gl_neqS (by rfl) 49 _ _ rfl _ rfl rfl (guardS 49 (by simp) _ _ _ _ _) (neqCell ⟨((U[m + k]'hUat).toNat : Int), pen0, 0⟩) ?_))
                    clear g1 hG1
                    go_roundw
                    case rel => exact ⟨k + 1, by omega, by go_num, Sy⟩
                    case measure => simp [intOf]; omega
                  · have iat : ¬ ((m : Int) + (k : Int) < (n : Int)) := by omega
                    have Sx : Sm z2 (wr.alloc (.cells #[.int .i64 32, .bool false, .bool false, .bool false, .int .i64 0, .int .i64 0, .int .i64 0] 49)) := S6.alloc _
                    have l6 := HK.out i k hiR hkC _ Sx
                    rw [show (⟨RS.zero, MS.zero, typed R C (letL (bl text))⟩ : FS).t.cellAt 0 i k = ⟨32, pen0, 0⟩ from Hcl.out.trans (tyCell_out (by rw [HLn.out]; omega))] at l6
                    go_wp2_with fail
                    refine l6.mono ?_
                    rintro e x1 ⟨rfl, q1⟩
                    have hG : x1.heap[wr.heap.size]? = some (.cells (cellV ⟨32, pen0, 0⟩).toArray 49 (0, 0)) := (q1.block _ (by simp) id).trans (heap_alloc_new _ _)
                    have hgs := blk_lt hG
                    clear l6
                    go_wp2_with (refine wp_blkset _ rfl 49 (.tmp 18) (.tmp 98) rfl x1.heap.size (cellV zeroC) (cellV ⟨32, pen0, 0⟩) rfl _ rfl rfl 49 (heap_alloc_new _ _) rfl info49 (cellV_one _) ?_)
                    intro y1 g1 k1 z1
                    have Sy : Sm z2 y1 := sm_new ((Sx.trans q1).alloc _) k1 (by have := Sx.size; have := q1.size; simp at *; omega)
                    have hG1 : y1.heap[wr.heap.size]? = some (.cells (cellV ⟨32, pen0, 0⟩).toArray 49 (0, 0)) := ((k1.block _ (by simp; omega) (by omega)).trans (Below.heap_alloc _ _ _ hgs)).trans hG
                    clear k1 z1 q1 hG Sx
                    go_wp2_with (first | (refine gl_load_cell (by rfl) (.tmp 18) rfl x1.heap.size rfl 49 _ (0, 0) g1 info49 ?_) | (refine gl_load_cell (by rfl) (.tmp 17) rfl wr.heap.size rfl 49 _ (0, 0) hG1 info49 ?_) | (refine gl_neqS (by rfl) 49 _ _ rfl _ rfl rfl (guardS 49 (by simp) _ _ _ _ _) (neqCell ⟨32, pen0, 0⟩) ?_))
                    clear g1 hG1
                    go_roundw
                    case rel => exact ⟨k + 1, by omega, by go_num, Sy⟩
                    case measure => simp [intOf]; omega
                · have ikC : ¬ (k : Int) < (C : Int) := by omega
                  go_wp2_with fail
                  go_roundw
                  case rel => exact ⟨i + 1, by omega, by go_num, S6⟩
                  case measure => simp [intOf]; omega
            · have iiR : ¬ (i : Int) < (R : Int) := by omega
              have l7 := look_any fb L ⟨.zero, .zero, typed R C (letL (bl text))⟩ wr (HF.out.kept S5 id (fun _ _ => id))
              have st : stV (⟨RS.zero, MS.zero, typed R C (letL (bl text))⟩ : FS).t = [.int .i64 ((q : Int) - 1), .int .i64 (tyCol C n : Int), .bool (tyWaits C n), .bool false, .bool false, .bool false, .int .i64 0, .int .i64 0, .int .i64 0, .int .i64 0, .int .i64 0, .bool false, .int .i64 0, .int .i64 ((R : Int) - 1), .bool true, .bool false, .int .i64 0] := by
                show [Value.int .i64 ((tyLines C (letL (bl text)).length - tyGone R C (letL (bl text)).length - 1 : Nat) : Int), .int .i64 (tyCol C (letL (bl text)).length : Int), .bool (tyWaits C (letL (bl text)).length), .bool false, .bool false, .bool false, .int .i64 0, .int .i64 0, .int .i64 0, .int .i64 0, .int .i64 0, .bool false, .int .i64 0, .int .i64 ((R : Int) - 1), .bool true, .bool false, .int .i64 0] = _
                rw [HLn.out, hgn, hln2, show ((q - 0 - 1 : Nat) : Int) = ((q : Int) - 1) by omega]
              rw [st] at l7
              clear st
              have hnp : (0 : Int) < (n : Int) := by
                rcases Nat.eq_zero_or_pos n with h | h
                · exfalso
                  apply hq0
                  rw [HQ.out, h]
                  exact Nat.div_eq_of_lt (by omega)
                · omega
              obtain ⟨r, hr⟩ : ∃ r, r = n % C := ⟨_, rfl⟩
              have hrC : r < C := by rw [hr]; exact Nat.mod_lt _ (by omega)
              have hr2 : (n : Int) % (C : Int) = (r : Int) := by rw [hr]; exact (Int.natCast_emod _ _).symm
              have hr1 : (n : Int).tmod (C : Int) = (r : Int) := by rw [Int.tmod_eq_emod_of_nonneg (by omega)]; exact hr2
              have hr3 : IntKind.i64.wrap (r : Int) = (r : Int) := IntWalk.i64_in _ (by omega)
              have vc : IntKind.i64.wrap ((C : Int) - 1) = (C : Int) - 1 := IntWalk.i64_in _ (by omega)
              by_cases hr0 : r = 0
              · have htw : tyWaits C n = true := by unfold tyWaits; rw [← hr, hr0]; simp; omega
                have htc : (tyCol C n : Int) = (C : Int) - 1 := by unfold tyCol; rw [htw]; simp; omega
                have hrz : ((r : Int) == 0) = true := by simp; omega
                rw [htw, htc] at l7
                clear hr htw htc
                go_wp2_with fail
                refine l7.mono ?_
                rintro e x1 ⟨rfl, q1⟩
                have SF : Sm w x1 := ((SW.trans HS4.out).trans S5).trans q1
                have HSF : Hid _ := SF
                clear SF q1 S5
                go_wp2_with fail
                go_ret
                exact ⟨rfl, HSF.out.alloc _⟩
              · have htw : tyWaits C n = false := by unfold tyWaits; rw [← hr]; simp; intro _; exact hr0
                have htc : (tyCol C n : Int) = (r : Int) := by unfold tyCol; rw [htw, ← hr]; simp
                have hrz : ((r : Int) == 0) = false := by simp; omega
                rw [htw, htc] at l7
                clear hr htw htc
                go_wp2_with fail
                refine l7.mono ?_
                rintro e x1 ⟨rfl, q1⟩
                have SF : Sm w x1 := ((SW.trans HS4.out).trans S5).trans q1
                have HSF : Hid _ := SF
                clear SF q1 S5
                go_wp2_with fail
                go_ret
                exact ⟨rfl, HSF.out.alloc _⟩

theorem types_walk (a b : Int) (text : ByteArray) (w : World) (ha : -9223372036854775808 ≤ a ∧ a ≤ 9223372036854775807) (hb : -9223372036854775808 ≤ b ∧ b ≤ 9223372036854775807) (htb : Tabs w) (hts : text.size ≤ 281474976710656) :
    Calls Tryd.prog 6 #[.agg #[.int .i64 a, .int .i64 b], .string text] w fun e w' => e = .returned (.bool true) ∧ Sm w w' := by
  by_cases h0 : (text.size + szC b - 1) / szC b = 0
  · exact types_A a b text w ha hb htb hts h0
  · by_cases h1 : szR a < (text.size + szC b - 1) / szC b
    · exact types_B a b text w ha hb htb hts ⟨h0, h1⟩
    · exact types_C a b text w ha hb htb hts ⟨h0, h1⟩
end Go.Proofs.YtheibfffilomcaaDoor
