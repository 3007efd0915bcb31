/- Ya Xi Yz Yb together. -/
import Derived.Test.YtheibfffilomcaaDoorXhM
import Derived.Test.YtheibfffilomcaaDoorTold
import Derived.Test.YtheibfffilomcaaDoorXcM

/- The walk of cuts: a text in pieces, the pieces together the text. -/
namespace Go.Proofs.YtheibfffilomcaaDoor
open Go.RowKit

/-- A list of texts of the call's own. -/
def LtAt (w : World) (base : Nat) (v : Value) (T : List ByteArray) : Prop := w.ownsRow base 9 1 v T.length (T.map Value.string)
theorem LtAt.one {w : World} {base : Nat} {v' : Value} {T : List ByteArray} {x : ByteArray} (h : w.ownsRow base 9 1 v' (T.length + 1) (T.map Value.string ++ [.string x])) : LtAt w base v' (T ++ [x]) := by
  unfold LtAt; simpa using h
theorem info9 : (Tryd.prog.info? 9).map (fun i => (i.zero, i.size, i.bytes)) = some (some (.string ByteArray.empty), 1, 16) := by kernel_rfl
theorem LtAt.sl {w : World} {base : Nat} {v : Value} {T : List ByteArray} (h : LtAt w base v T) : ∃ ao cap, v = .slice ao T.length cap ∧ SlTx w ao T := by
  rcases h.2 with ⟨rfl, h0⟩ | ⟨g, cap, cur, rfl, hbg, hg, hnc, hcm, hcs, htake⟩
  · refine ⟨none, 0, by rw [h0], fun j t hj => ?_⟩
    have hl : T = [] := List.eq_nil_of_length_eq_zero h0
    rw [hl] at hj; simp at hj
  · refine ⟨some ⟨g, 0, none⟩, cap, rfl, fun j t hj => ⟨g, 0, rfl, blk_lt hg, ?_⟩⟩
    have hc := World.ownsRow.cells (g := g) h rfl j (.string t) (by rw [List.getElem?_map, hj]; rfl)
    have hadd : (⟨g, 0, none⟩ : Addr).add j = ⟨g, 0 + j, none⟩ := by unfold Addr.add; split <;> simp_all
    rw [hadd] at hc
    exact hc
theorem wp_appT {ops : Array Oper} {rest : List Oper} {o : Oper} {a : Act} {Q : Exit → Act → World → Prop} (u : World) (hgd : o.guard = none) (s x : Operand)
    (ho : o.op = .call { callee := .builtin .append, args := #[s, x], argTypes := #[22, 22] }) (base : Nat) (v : Value) (T : List ByteArray) (y : ByteArray) (hs : a.eval s = v) (own : LtAt u base v T)
    (g : Nat) (hg : g = u.heap.size) (hx : a.eval x = .slice (some ⟨g, 0, none⟩) 1 1) (hL : T.length ≤ 1000000000) (hb : base ≤ u.heap.size)
    (h : ∀ v' w', LtAt w' base v' (T ++ [y]) → Below base u w' → wpList Tryd.prog ops Q rest (a.put o.dst v') w') : wpList Tryd.prog ops Q (o :: rest) a (u.alloc (.cells #[.string y] 9)) := by
  obtain ⟨i0, hi, hz0, hz1, hz2⟩ := info_parts info9
  subst hg
  refine wpList_append_own _ hgd s x 22 ho base 9 i0 (.string ByteArray.empty) 1 16 Tryd.underlying22 hi hz0 hz1 hz2 rfl (by decide) v _ _ hs (World.ownsRow.alloc own _) ⟨u.heap.size, 0, none⟩ 1 1 [.string y] hx rfl (cell_one_new _ _ _) ?_ ?_ ?_ ?_ ?_
  · intro z hz; simp at hz; subst hz; rfl
  · unfold maxLen; omega
  · omega
  · simp; omega
  · intro v' w' hown hgrow _
    refine h v' w' (LtAt.one hown) ?_
    refine ((Below.refl base u).alloc hb _).grown hgrow (by simp; omega) ?_
    intro k hk
    exact ((World.ownsRow.lt own) k hk).1
theorem LtAt.below {w w' : World} {base : Nat} {v : Value} {T : List ByteArray} (h : LtAt w base v T) (hb : Below w.heap.size w w') : LtAt w' base v T :=
  World.ownsRow.kept (row := none) h ⟨hb.os, hb.tape, hb.output, hb.size, fun k hk _ => hb.block k hk⟩ (by cases hv : v.ownBlock <;> simp)

theorem bl_extract (t : ByteArray) (n : Nat) (hn : n ≤ t.size) : bl (t.extract 0 n) ++ bl (t.extract n t.size) = bl t := by
  rw [← bl_append, ByteArray.extract_append_extract, Nat.zero_min, Nat.max_eq_right hn, ByteArray.extract_zero_size]
theorem loop_ne (t : ByteArray) (i : Nat) (r : List UInt8) (hr : r ≠ []) : ByteArray.toList.loop t i r ≠ [] := by
  fun_induction ByteArray.toList.loop t i r with
  | case1 i r h ih => exact ih (by simp)
  | case2 i r h => simpa using hr
theorem toList_ne (t : ByteArray) (h : ¬ t.size = 0) : t.toList.isEmpty = false := by
  unfold ByteArray.toList
  unfold ByteArray.toList.loop
  rw [if_pos (by omega), List.isEmpty_eq_false_iff]
  exact loop_ne _ _ _ (by simp)
theorem cut_all {T : List ByteArray} {t text : ByteArray} (n : Nat) (hn : n ≤ t.size) (h : allB T ++ bl t = bl text) : allB (T ++ [t.extract 0 n]) ++ bl (t.extract n t.size) = bl text := by
  rw [allB_snoc, List.append_assoc, bl_extract t n hn, h]

set_option maxRecDepth 100000 in
set_option maxHeartbeats 1000000 in
theorem cuts_any (text : ByteArray) (ao : Option Addr) (len cap : Nat) (zs : List Int) (w : World) (hlen : len ≤ 1048576) (hts : text.size ≤ 2000000)
    (hz : ∀ j, -9223372036854775808 ≤ zs.getD j 0 ∧ zs.getD j 0 ≤ 9223372036854775807)
    (hc : ∀ j, j < len → ∃ b off, ao = some ⟨b, off, none⟩ ∧ b < w.heap.size ∧ w.cell? ⟨b, off + j, none⟩ = some (.int .i64 (zs.getD j 0))) :
    Calls Tryd.prog 23 #[.string text, .slice ao len cap] w fun e w' => ∃ v T, e = .returned v ∧ LtAt w' w.heap.size v T ∧ allB T = bl text ∧ T.length ≤ len + 1 ∧ Below w.heap.size w w' := by
  go_enter Tryd.func23, Tryd.ntmps23
  go_wp2_with fail
  go_loopw [0, 5, 6] (fun x v i wr => ∃ (k : Nat) (t : ByteArray) (T : List ByteArray), k ≤ len ∧ i = .int .i64 k ∧ x = .string t ∧ t.size ≤ 2000000 ∧ T.length ≤ k ∧ Hid (allB T ++ bl t = bl text) ∧ LtAt wr w.heap.size v T ∧ Below w.heap.size w wr) (fun _ _ i _ => len - (intOf i).toNat)
  case atStart => exact ⟨0, text, [], Nat.zero_le _, rfl, rfl, hts, Nat.zero_le _, rfl, World.ownsRow_nil _ _ _ _, Below.refl _ _⟩
  case round =>
    obtain ⟨k, t, T, hk, rfl, rfl, ht, hT, HE, own, hbel⟩ := hrel
    have hs := hbel.size
    have hT9 : T.length ≤ 1000000000 := by omega
    by_cases hlt : k < len
    · by_cases hem : t.size = 0
      · have hte : t = ByteArray.empty := by
          cases t with | mk d => simp [ByteArray.size] at hem; subst hem; rfl
        subst hte
        go_wp2_with (at_builtin; refine wp_appT wr rfl _ _ rfl w.heap.size _ T _ rfl ?x1 _ ?x2 rfl ?x3 ?x4 ?_)
        case x1 => exact own
        case x2 => rfl
        case x3 => exact hT9
        case x4 => exact hs
        intro v1 w1 own1 b1
        go_wp2_with fail
        go_ret
        exact ⟨v1, _, rfl, own1, by rw [allB_snoc]; exact HE.out, by simp; omega, hbel.trans b1⟩
      · obtain ⟨b, off, rfl, hbb, hcell⟩ := hc k hlt
        have hcr : wr.cell? ⟨b, off + k, none⟩ = some (.int .i64 (zs.getD k 0)) := (hbel.cell hbb).trans hcell
        clear hcell
        have hzk := hz k
        have hne : ¬ t = ByteArray.empty := fun e => hem (by rw [e]; rfl)
        have hne2 := toList_ne t hem
        clear hz hc
        generalize zs.getD k 0 = z at *
        have hpz := pickN_range z 7 (by omega)
        go_wp2_with fail
        refine (pick_any z 7 _ hzk.1 hzk.2 (by omega) (by omega)).mono ?_
        rintro e w0 ⟨rfl, rfl⟩
        obtain ⟨n, hn⟩ : ∃ n : Nat, (n : Int) = pickN z 7 := ⟨(pickN z 7).toNat, by omega⟩
        rw [← hn] at hpz ⊢
        clear hn hzk hcr
        by_cases hgt : t.size < n
        · have HE1 : Hid (allB (T ++ [t]) ++ bl ByteArray.empty = bl text) := by have := cut_all t.size (Nat.le_refl _) HE.out; rw [ByteArray.extract_zero_size, ByteArray.extract_same] at this; exact this
          go_wp2_with (at_builtin; refine wp_appT wr rfl _ _ rfl w.heap.size _ T _ rfl ?x1 _ ?x2 rfl ?x3 ?x4 ?_)
          case x1 => exact own
          case x2 => rfl
          case x3 => exact hT9
          case x4 => exact hs
          intro v1 w1 own1 b1
          go_wp2_with fail
          go_roundw
          case rel => exact ⟨k + 1, _, _, by omega, by go_num, rfl, by simp, by simp; omega, HE1, own1, hbel.trans b1⟩
          case measure => simp [intOf]; omega
        · have HE1 : Hid _ := cut_all n (by omega) HE.out
          go_wp2_with (at_builtin; refine wp_appT wr rfl _ _ rfl w.heap.size _ T _ rfl ?x1 _ ?x2 rfl ?x3 ?x4 ?_)
          case x1 => exact own
          case x2 => rfl
          case x3 => exact hT9
          case x4 => exact hs
          intro v1 w1 own1 b1
          go_wp2_with fail
          go_roundw
          case rel => exact ⟨k + 1, _, _, by omega, by go_num, rfl, by simp; omega, by simp; omega, HE1, own1, hbel.trans b1⟩
          case measure => simp [intOf]; omega
    · have hkn : k = len := by omega
      have dk : decide ((k : Int) < (len : Int)) = false := by simp; omega
      go_wp2_with (at_builtin; refine wp_appT wr rfl _ _ rfl w.heap.size _ T _ rfl ?x1 _ ?x2 rfl ?x3 ?x4 ?_)
      case x1 => exact own
      case x2 => rfl
      case x3 => exact hT9
      case x4 => exact hs
      intro v1 w1 own1 b1
      go_wp2_with fail
      go_ret
      exact ⟨v1, _, rfl, own1, by rw [allB_snoc]; exact HE.out, by simp; omega, hbel.trans b1⟩
end Go.Proofs.YtheibfffilomcaaDoor

/- The walk of alike, where both tell the same. -/
namespace Go.Proofs.YtheibfffilomcaaDoor
open Go.RowKit

theorem eqSpot (d : Nat) (p : SpotS) (w : World) : (Op.equalIn (d + 3) 54 (.agg (spotV p).toArray) (.agg (spotV p).toArray)).run Tryd.prog w = .ok true w := by
  have hu : Tryd.prog.underlying 54 = some (.struct (Tryd.prog.fieldsOf 54)) := by kernel_rfl
  have hp : Tryd.prog.stoodInHeld 54 = false := by kernel_rfl
  rw [run_equalIn_struct w (d + 2) 54 _ _ hu hp]
  rw [eq_fields (d + 2) _ _ w _ [(3, 0, true), (3, 1, true), (4, 2, true), (47, 3, true), (3, 8, true), (3, 9, true), (3, 10, true), (4, 11, true)] (of_decide_eq_true (by kernel_rfl)) (by kernel_rfl) ?_]
  · rfl
  · have hI : ∀ x : Int, (Op.equalIn (d + 2) 3 (.int .i64 x) (.int .i64 x)).run Tryd.prog w = .ok true w := fun x => by rw [eqI (d + 1)]; simp
    have hB : ∀ x : Bool, (Op.equalIn (d + 2) 4 (.bool x) (.bool x)).run Tryd.prog w = .ok true w := fun x => by rw [eqB (d + 1)]; simp
    intro x hx
    simp only [List.mem_cons, List.not_mem_nil, or_false] at hx
    rcases hx with rfl | rfl | rfl | rfl | rfl | rfl | rfl | rfl
    · exact ⟨_, _, partI _ 0 p.row rfl w, partI _ 0 p.row rfl w, hI _⟩
    · exact ⟨_, _, partI _ 1 p.col rfl w, partI _ 1 p.col rfl w, hI _⟩
    · exact ⟨_, _, partB _ 2 p.waits rfl w, partB _ 2 p.waits rfl w, hB _⟩
    · refine ⟨_, _, part47 _ 3 w, part47 _ 3 w, ?_⟩
      have := eqP d p.pen p.pen w
      rw [decide_eq_true rfl] at this
      exact this
    · exact ⟨_, _, partI _ 8 p.first rfl w, partI _ 8 p.first rfl w, hI _⟩
    · exact ⟨_, _, partI _ 9 p.second rfl w, partI _ 9 p.second rfl w, hI _⟩
    · exact ⟨_, _, partI _ 10 p.use rfl w, partI _ 10 p.use rfl w, hI _⟩
    · exact ⟨_, _, partB _ 11 p.origin rfl w, partB _ 11 p.origin rfl w, hB _⟩
theorem eqState (s : TS) (w : World) : (Op.equalIn 10000 56 (.agg (stV s).toArray) (.agg (stV s).toArray)).run Tryd.prog w = .ok true w := by
  have hu : Tryd.prog.underlying 56 = some (.struct (Tryd.prog.fieldsOf 56)) := by kernel_rfl
  have hp : Tryd.prog.stoodInHeld 56 = false := by kernel_rfl
  rw [run_equalIn_struct w 9999 56 _ _ hu hp]
  rw [eq_fields 9999 _ _ w _ [(54, 0, true), (3, 12, true), (3, 13, true), (4, 14, true), (4, 15, true), (3, 16, true)] (of_decide_eq_true (by kernel_rfl)) (by kernel_rfl) ?_]
  · rfl
  · have hI : ∀ x : Int, (Op.equalIn 9999 3 (.int .i64 x) (.int .i64 x)).run Tryd.prog w = .ok true w := fun x => by rw [eqI 9998]; simp
    have hB : ∀ x : Bool, (Op.equalIn 9999 4 (.bool x) (.bool x)).run Tryd.prog w = .ok true w := fun x => by rw [eqB 9998]; simp
    intro x hx
    simp only [List.mem_cons, List.not_mem_nil, or_false] at hx
    rcases hx with rfl | rfl | rfl | rfl | rfl | rfl
    · refine ⟨_, _, part54 _ 0 w, part54 _ 0 w, ?_⟩
      exact eqSpot 9996 s.spot w
    · exact ⟨_, _, partI _ 12 s.top rfl w, partI _ 12 s.top rfl w, hI _⟩
    · exact ⟨_, _, partI _ 13 s.bottom rfl w, partI _ 13 s.bottom rfl w, hI _⟩
    · exact ⟨_, _, partB _ 14 s.wrap rfl w, partB _ 14 s.wrap rfl w, hB _⟩
    · exact ⟨_, _, partB _ 15 s.insert rfl w, partB _ 15 s.insert rfl w, hB _⟩
    · exact ⟨_, _, partI _ 16 s.shown rfl w, partI _ 16 s.shown rfl w, hI _⟩
theorem neqState (s : TS) (w : World) : (binOp .neq 56 (.agg (stV s).toArray) (.agg (stV s).toArray)).run Tryd.prog w = .ok (.bool false) w := by
  rw [run_neq_struct, eqState]; rfl
theorem neqSpot (p : SpotS) (w : World) : (binOp .neq 54 (.agg (spotV p).toArray) (.agg (spotV p).toArray)).run Tryd.prog w = .ok (.bool false) w := by
  rw [run_neq_struct, eqSpot 9997]; rfl
theorem neqCell (c : CellS) (w : World) : (binOp .neq 49 (.agg (cellA c)) (.agg (cellA c))).run Tryd.prog w = .ok (.bool false) w := by
  rw [neqC, decide_eq_true rfl]; rfl
/-- A struct is not other than itself. -/
theorem wp_neqS {ops : Array Oper} {rest : List Oper} {o : Oper} {a : Act} {u : World} {Q : Exit → Act → World → Prop} (hgd : o.guard = none) (ty : TypeId) (x y : Operand) (ho : o.op = .binOp .neq ty x y ty) (arr : Array Value) (hx : a.eval x = .agg arr) (hy : a.eval y = .agg arr)
    (hg : ∀ w, (eqGuard .neq ty x y (.agg arr) (.agg arr)).run Tryd.prog w = .ok () w) (hr : ∀ w, (binOp .neq ty (.agg arr) (.agg arr)).run Tryd.prog w = .ok (.bool false) w) (h : wpList Tryd.prog ops Q rest (a.put o.dst (.bool false)) u) : wpList Tryd.prog ops Q (o :: rest) a u := by
  refine wpList_plain hgd fun K hK => ?_
  have R := hK _ _ h
  unfold Oper.wp execOp
  simp only [ho, hx, hy, Sem.run_bind, hg, hr, Result.andThen_ok, Sem.run_pure]
  exact R
theorem guardS (ty : TypeId) (hty : ty = 49 ∨ ty = 54 ∨ ty = 56) (op : BinOp) (x y : Operand) (xs ys : Array Value) (w : World) : (eqGuard op ty x y (.agg xs) (.agg ys)).run Tryd.prog w = .ok () w := by
  rcases hty with rfl | rfl | rfl
  · exact run_eqGuard_agg w op 49 x y xs ys (by kernel_rfl)
  · exact run_eqGuard_agg w op 54 x y xs ys (by kernel_rfl)
  · exact run_eqGuard_agg w op 56 x y xs ys (by kernel_rfl)
theorem sm_new {w u u' : World} {g : Nat} (h : Sm w u) (k : Ch (· = g) u u') (hg : w.heap.size ≤ g) : Sm w u' := h.trans' k (fun i hi e => by omega)

set_option maxRecDepth 100000 in
set_option maxHeartbeats 4000000 in
theorem alike_same (a b : Int) (fa fb : Nat) (La Lb : Lay) (x y : FS) (w : World) (ha : -9223372036854775808 ≤ a ∧ a ≤ 9223372036854775807) (hb : -9223372036854775808 ≤ b ∧ b ≤ 9223372036854775807) (hA : FAt w fa La x) (hB : FAt w fb Lb y) (hxy : x.t = y.t) (hI : x.t.Inv) (hr : x.t.rows = szR a) (hc : x.t.cols = szC b) :
    Calls Tryd.prog 24 #[.agg #[.int .i64 a, .int .i64 b], .pointer (some ⟨fa, 0, none⟩), .pointer (some ⟨fb, 0, none⟩)] w fun e w' => e = .returned (.bool true) ∧ Sm w w' := by
  have hrb := szR_bd a
  have hcb := szC_bd b
  obtain ⟨W, hW⟩ : ∃ W, W = w.alloc (.cells #[.int .i64 a, .int .i64 b] 41) := ⟨_, rfl⟩
  have SW : Sm w W := by rw [hW]; exact (Ch.refl _ _).alloc _
  have GW : W.heap[w.heap.size]? = some (.cells #[.int .i64 a, .int .i64 b] 41 (0, 0)) := by rw [hW]; exact heap_alloc_new _ _
  have KA : ∀ u, Sm W u → FAt u fa La x := fun u hu => hA.kept (SW.trans hu) id (fun _ _ => id)
  have KB : ∀ u, Sm W u → FAt u fb Lb y := fun u hu => hB.kept (SW.trans hu) id (fun _ _ => id)
  have hszW : W.heap.size = w.heap.size + 1 := by rw [hW]; simp
  have kA1 : ∀ u, Sm W u → _ := fun u hu => look_any fa La x u (KA u hu)
  have kB1 : ∀ u, Sm W u → _ := fun u hu => look_any fb Lb y u (KB u hu)
  have kA2 : ∀ n : Nat, n < 2 → ∀ u, Sm W u → _ := fun n hn u hu => saved_any fa La x n hn u (KA u hu)
  have kB2 : ∀ n : Nat, n < 2 → ∀ u, Sm W u → _ := fun n hn u hu => saved_any fb Lb y n hn u (KB u hu)
  have kA3 : ∀ n i k : Nat, n < 2 → i < szR a → k < szC b → ∀ u, Sm W u → _ := fun n i k hn hi hk u hu => cell_in fa La x n i k hn (by rw [hr]; exact hi) (by rw [hc]; exact hk) u (KA u hu) hI
  have kB3 : ∀ n i k : Nat, n < 2 → i < szR a → k < szC b → ∀ u, Sm W u → _ := fun n i k hn hi hk u hu => cell_in fb Lb y n i k hn (by rw [← hxy, hr]; exact hi) (by rw [← hxy, hc]; exact hk) u (KB u hu) (hxy ▸ hI)
  have kA4 : ∀ k : Nat, k < szC b → ∀ u, Sm W u → _ := fun k hk u hu => tab_in fa La x k (by rw [hc]; exact hk) u (KA u hu) hI
  have kB4 : ∀ k : Nat, k < szC b → ∀ u, Sm W u → _ := fun k hk u hu => tab_in fb Lb y k (by rw [← hxy, hc]; exact hk) u (KB u hu) (hxy ▸ hI)
  simp only [← hxy] at kB1 kB2 kB3 kB4
  have kR : ∀ u, _ := fun u => srows_any a b u ha
  have kC : ∀ u, _ := fun u => scols_any a b u hb
  have SZ : ∀ u, Sm W u → u.rangeAt w.heap.size 0 [.int .i64 a, .int .i64 b] := fun u hu j v hv => by
    rw [cell_of_row _ _ _ _ _ _ ((hu.block _ (by omega) id).trans GW), Nat.zero_add]; simpa using hv
  generalize x.t = t at *
  have HW : Hid _ := hW
  clear hA hB hxy hI hr hc hW KA KB
  go_enter Tryd.func24, Tryd.ntmps24
  go_wp2_with fail
  rw [← HW.out]
  have S0 : Sm W W := Ch.refl _ _
  refine (kA1 W S0).mono ?_
  rintro e x1 ⟨rfl, q1⟩
  go_wp2_with (refine wp_blkset _ rfl 56 (.tmp 7) (.tmp 26) rfl x1.heap.size [.int .i64 0, .int .i64 0, .bool false, .bool false, .bool false, .bool false, .int .i64 0, .int .i64 0, .int .i64 0, .int .i64 0, .int .i64 0, .bool false, .int .i64 0, .int .i64 0, .bool false, .bool false, .int .i64 0] (stV t) rfl _ rfl rfl 56 (heap_alloc_new _ _) rfl info56 (stV_one t) ?_)
  intro y1 g1 k1 z1
  have Sy1 : Sm W y1 := sm_new ((S0.trans q1).alloc _) k1 (by have := S0.size; have := q1.size; omega)
  have hs1 := blk_lt g1
  clear k1 z1 q1
  go_wp2_with fail
  refine (kB1 y1 Sy1).mono ?_
  rintro e x2 ⟨rfl, q2⟩
  go_wp2_with (refine wp_blkset _ rfl 56 (.tmp 8) (.tmp 28) rfl x2.heap.size [.int .i64 0, .int .i64 0, .bool false, .bool false, .bool false, .bool false, .int .i64 0, .int .i64 0, .int .i64 0, .int .i64 0, .int .i64 0, .bool false, .int .i64 0, .int .i64 0, .bool false, .bool false, .int .i64 0] (stV t) rfl _ rfl rfl 56 (heap_alloc_new _ _) rfl info56 (stV_one t) ?_)
  intro y2 g2 k2 z2
  have Sy2 : Sm W y2 := sm_new ((Sy1.trans q2).alloc _) k2 (by have := Sy1.size; have := q2.size; omega)
  have g1' : y2.heap[x1.heap.size]? = _ := ((k2.block _ (by have := q2.size; simp; omega) (by have := q2.size; omega)).trans ((Below.heap_alloc _ _ _ (by have := q2.size; omega)).trans (q2.block _ hs1 id))).trans g1
  clear k2 z2 q2 g1 hs1 Sy1
  go_wp2_with (first | (refine wpList_load_row rfl 56 (.tmp 7) rfl x1.heap.size rfl 56 _ (0, 0) _ g1' Tryd.underlying56 rfl info56 ?_) | (refine wpList_load_row rfl 56 (.tmp 8) rfl x2.heap.size rfl 56 _ (0, 0) _ g2 Tryd.underlying56 rfl info56 ?_) | (refine wp_neqS rfl 56 _ _ rfl _ rfl rfl (guardS 56 (by simp) _ _ _ _ _) (neqState t) ?_))
  clear g1' g2
  go_loopw [9] (fun i wq => ∃ n : Nat, n ≤ 2 ∧ i = .int .i64 n ∧ Sm W wq) (fun i _ => 2 - (intOf i).toNat)
  case atStart => exact ⟨0, by omega, rfl, Sy2⟩
  case round =>
    clear Sy2
    obtain ⟨n, hn, rfl, S1⟩ := hrel
    by_cases hn2 : n < 2
    · have i2 : (n : Int) < 2 := by omega
      have vn : IntKind.i64.wrap ((n : Int) + 1) = (n : Int) + 1 := IntWalk.i64_in _ (by omega)
      go_wp2_with fail
      refine (kA2 n hn2 _ S1).mono ?_
      rintro e x1 ⟨rfl, q1⟩
      go_wp2_with (refine wp_blkset _ rfl 54 (.tmp 10) (.tmp 40) rfl x1.heap.size [.int .i64 0, .int .i64 0, .bool false, .bool false, .bool false, .bool false, .int .i64 0, .int .i64 0, .int .i64 0, .int .i64 0, .int .i64 0, .bool false] (spotV (t.savedAt n)) rfl _ rfl rfl 54 (heap_alloc_new _ _) rfl info54s (spotV_one _) ?_)
      intro y1 g1 k1 z1
      have Sy1 : Sm W y1 := sm_new ((S1.trans q1).alloc _) k1 (by have := S1.size; have := q1.size; omega)
      have hs1 := blk_lt g1
      clear k1 z1 q1
      go_wp2_with fail
      refine (kB2 n hn2 y1 Sy1).mono ?_
      rintro e x2 ⟨rfl, q2⟩
      go_wp2_with (refine wp_blkset _ rfl 54 (.tmp 12) (.tmp 46) rfl x2.heap.size [.int .i64 0, .int .i64 0, .bool false, .bool false, .bool false, .bool false, .int .i64 0, .int .i64 0, .int .i64 0, .int .i64 0, .int .i64 0, .bool false] (spotV (t.savedAt n)) rfl _ rfl rfl 54 (heap_alloc_new _ _) rfl info54s (spotV_one _) ?_)
      intro y2 g2 k2 z2
      have Sy2 : Sm W y2 := sm_new ((Sy1.trans q2).alloc _) k2 (by have := Sy1.size; have := q2.size; omega)
      have g1' : y2.heap[x1.heap.size]? = _ := ((k2.block _ (by have := q2.size; simp; omega) (by have := q2.size; omega)).trans ((Below.heap_alloc _ _ _ (by have := q2.size; omega)).trans (q2.block _ hs1 id))).trans g1
      clear k2 z2 q2 g1 hs1 Sy1
      go_wp2_with (first | (refine wpList_load_row rfl 54 (.tmp 10) rfl x1.heap.size rfl 54 _ (0, 0) _ g1' Tryd.underlying54 rfl info54s ?_) | (refine wpList_load_row rfl 54 (.tmp 12) rfl x2.heap.size rfl 54 _ (0, 0) _ g2 Tryd.underlying54 rfl info54s ?_) | (refine wp_neqS rfl 54 _ _ rfl _ rfl rfl (guardS 54 (by simp) _ _ _ _ _) (neqSpot (t.savedAt n)) ?_))
      clear g1' g2
      go_loopw [14] (fun i wq => ∃ r : Nat, r ≤ szR a ∧ i = .int .i64 r ∧ Sm W wq) (fun i _ => szR a - (intOf i).toNat)
      case atStart => exact ⟨0, Nat.zero_le _, rfl, Sy2⟩
      case round =>
        obtain ⟨r, hrr, rfl, S2⟩ := hrel
        by_cases hr2 : r < szR a
        · have ir : (r : Int) < (szR a : Int) := by omega
          have vr : IntKind.i64.wrap ((r : Int) + 1) = (r : Int) + 1 := IntWalk.i64_in _ (by omega)
          go_wp2_with (first | (refine wpList_load_mid rfl 41 (.tmp 3) rfl w.heap.size 0 rfl [.int .i64 a, .int .i64 b] _ (SZ _ S2) Tryd.underlying41 rfl info41 ?_) | (go_at_call 19; refine (kR _).mono ?_; rintro e z2 ⟨rfl, b9⟩))
          have S2b : Sm W z2 := S2.trans (Ch.of_below b9)
          clear b9
          go_loopw [15] (fun i wq => ∃ k : Nat, k ≤ szC b ∧ i = .int .i64 k ∧ Sm W wq) (fun i _ => szC b - (intOf i).toNat)
          case atStart => exact ⟨0, Nat.zero_le _, rfl, S2b⟩
          case round =>
            obtain ⟨k, hk, rfl, S3⟩ := hrel
            by_cases hk2 : k < szC b
            · have ik : (k : Int) < (szC b : Int) := by omega
              have vk : IntKind.i64.wrap ((k : Int) + 1) = (k : Int) + 1 := IntWalk.i64_in _ (by omega)
              go_wp2_with (first | (refine wpList_load_mid rfl 41 (.tmp 3) rfl w.heap.size 0 rfl [.int .i64 a, .int .i64 b] _ (SZ _ S3) Tryd.underlying41 rfl info41 ?_) | (go_at_call 20; refine (kC _).mono ?_; rintro e z3 ⟨rfl, b9⟩))
              have S3b : Sm W z3 := S3.trans (Ch.of_below b9)
              clear b9
              refine (kA3 n r k hn2 hr2 hk2 z3 S3b).mono ?_
              rintro e x1 ⟨rfl, q1⟩
              go_wp2_with (refine wp_blkset _ rfl 49 (.tmp 16) (.tmp 77) rfl x1.heap.size (cellV zeroC) (cellV (t.cellAt n r k)) rfl _ rfl rfl 49 (heap_alloc_new _ _) rfl info49 (cellV_one _) ?_)
              intro y1 g1 k1 z1
              have Sy1 : Sm W y1 := sm_new ((S3b.trans q1).alloc _) k1 (by have := S3b.size; have := q1.size; omega)
              have hs1 := blk_lt g1
              clear k1 z1 q1
              go_wp2_with fail
              refine (kB3 n r k hn2 hr2 hk2 y1 Sy1).mono ?_
              rintro e x2 ⟨rfl, q2⟩
              go_wp2_with (refine wp_blkset _ rfl 49 (.tmp 18) (.tmp 85) rfl x2.heap.size (cellV zeroC) (cellV (t.cellAt n r k)) rfl _ rfl rfl 49 (heap_alloc_new _ _) rfl info49 (cellV_one _) ?_)
              intro y2 g2 k2 z2
              have Sy2 : Sm W y2 := sm_new ((Sy1.trans q2).alloc _) k2 (by have := Sy1.size; have := q2.size; omega)
              have g1' : y2.heap[x1.heap.size]? = _ := ((k2.block _ (by have := q2.size; simp; omega) (by have := q2.size; omega)).trans ((Below.heap_alloc _ _ _ (by have := q2.size; omega)).trans (q2.block _ hs1 id))).trans g1
              clear k2 z2 q2 g1 hs1 Sy1
              go_wp2_with (first | (refine wpList_load_row rfl 49 (.tmp 16) rfl x1.heap.size rfl 49 _ (0, 0) _ g1' Tryd.underlying49 rfl info49 ?_) | (refine wpList_load_row rfl 49 (.tmp 18) rfl x2.heap.size rfl 49 _ (0, 0) _ g2 Tryd.underlying49 rfl info49 ?_) | (refine wp_neqS rfl 49 _ _ rfl _ rfl rfl (guardS 49 (by simp) _ _ _ _ _) (neqCell (t.cellAt n r k)) ?_))
              clear g1' g2
              go_roundw
              case rel => exact ⟨k + 1, by omega, by go_num, Sy2⟩
              case measure => simp [intOf]; omega
            · have ik : ¬ (k : Int) < (szC b : Int) := by omega
              go_wp2_with (first | (refine wpList_load_mid rfl 41 (.tmp 3) rfl w.heap.size 0 rfl [.int .i64 a, .int .i64 b] _ (SZ _ S3) Tryd.underlying41 rfl info41 ?_) | (go_at_call 20; refine (kC _).mono ?_; rintro e z3 ⟨rfl, b9⟩))
              have S3b : Sm W z3 := S3.trans (Ch.of_below b9)
              go_roundw
              case rel => exact ⟨r + 1, by omega, by go_num, S3b⟩
              case measure => simp [intOf]; omega
        · have ir : ¬ (r : Int) < (szR a : Int) := by omega
          go_wp2_with (first | (refine wpList_load_mid rfl 41 (.tmp 3) rfl w.heap.size 0 rfl [.int .i64 a, .int .i64 b] _ (SZ _ S2) Tryd.underlying41 rfl info41 ?_) | (go_at_call 19; refine (kR _).mono ?_; rintro e z2 ⟨rfl, b9⟩))
          have S2b : Sm W z2 := S2.trans (Ch.of_below b9)
          go_roundw
          case rel => exact ⟨n + 1, by omega, by go_num, S2b⟩
          case measure => simp [intOf]; omega
    · have i2 : ¬ (n : Int) < 2 := by omega
      go_wp2_with fail
      go_loopw [20] (fun i wq => ∃ k : Nat, k ≤ szC b ∧ i = .int .i64 k ∧ Sm W wq) (fun i _ => szC b - (intOf i).toNat)
      case atStart => exact ⟨0, Nat.zero_le _, rfl, S1⟩
      case round =>
        obtain ⟨k, hk, rfl, S4⟩ := hrel
        by_cases hk2 : k < szC b
        · have ik : (k : Int) < (szC b : Int) := by omega
          have vk : IntKind.i64.wrap ((k : Int) + 1) = (k : Int) + 1 := IntWalk.i64_in _ (by omega)
          go_wp2_with (first | (refine wpList_load_mid rfl 41 (.tmp 3) rfl w.heap.size 0 rfl [.int .i64 a, .int .i64 b] _ (SZ _ S4) Tryd.underlying41 rfl info41 ?_) | (go_at_call 20; refine (kC _).mono ?_; rintro e z4 ⟨rfl, b9⟩))
          have S4b : Sm W z4 := S4.trans (Ch.of_below b9)
          have l4 := kA4 k hk2
          have l5 := kB4 k hk2
          generalize t.tabs.getD k false = tb at l4 l5
          refine (l4 z4 S4b).mono ?_
          rintro e x1 ⟨rfl, hx1⟩
          subst hx1
          go_wp2_with fail
          refine (l5 _ S4b).mono ?_
          rintro e x2 ⟨rfl, hx2⟩
          subst hx2
          go_wp2_with fail
          go_roundw
          case rel => exact ⟨k + 1, by omega, by go_num, S4b⟩
          case measure => simp [intOf]; omega
        · have ik : ¬ (k : Int) < (szC b : Int) := by omega
          go_wp2_with (first | (refine wpList_load_mid rfl 41 (.tmp 3) rfl w.heap.size 0 rfl [.int .i64 a, .int .i64 b] _ (SZ _ S4) Tryd.underlying41 rfl info41 ?_) | (go_at_call 20; refine (kC _).mono ?_; rintro e z4 ⟨rfl, b9⟩))
          have S4b : Sm W z4 := S4.trans (Ch.of_below b9)
          go_ret
          exact ⟨rfl, SW.trans S4b⟩
end Go.Proofs.YtheibfffilomcaaDoor

/- A terminal's size stays. -/
namespace Go.Proofs.YtheibfffilomcaaDoor

namespace TS
def dim (s : TS) : Nat × Nat := (s.rows, s.cols)
theorem dim_setCur (s : TS) (S : Sheet) : (s.setCur S).dim = s.dim := by unfold setCur; split <;> rfl
theorem dim_toCol (s : TS) (c : Int) : (s.toCol c).dim = s.dim := rfl
theorem dim_toRow (s : TS) (c : Int) : (s.toRow c).dim = s.dim := rfl
theorem dim_toCounted (s : TS) (c : Int) : (s.toCounted c).dim = s.dim := by unfold toCounted; split <;> rfl
theorem dim_home (s : TS) : s.home.dim = s.dim := (dim_toCounted s 0)
theorem dim_rise (s : TS) (n : Int) : (s.rise n).dim = s.dim := rfl
theorem dim_sink (s : TS) (n : Int) : (s.sink n).dim = s.dim := rfl
theorem dim_scrollUp (s : TS) (n : Nat) : (s.scrollUp n).dim = s.dim := dim_setCur _ _
theorem dim_scrollDown (s : TS) (n : Nat) : (s.scrollDown n).dim = s.dim := dim_setCur _ _
theorem dim_down (s : TS) : s.down.dim = s.dim := by unfold down; split <;> first | exact dim_scrollUp _ _ | rfl
theorem dim_up (s : TS) : s.up.dim = s.dim := by unfold up; split <;> first | exact dim_scrollDown _ _ | rfl
theorem dim_nextLine (s : TS) : s.nextLine.dim = s.dim := dim_down _
theorem dim_nextTab (s : TS) : s.nextTab.dim = s.dim := rfl
theorem dim_save (s : TS) : s.save.dim = s.dim := by unfold save; split <;> rfl
theorem dim_restore (s : TS) : s.restore.dim = s.dim := rfl
theorem dim_setRowNow (s : TS) (r : List CellS) : (s.setRowNow r).dim = s.dim := dim_setCur _ _
theorem dim_putNow (s : TS) (c : Int) (wd : Nat) : (s.putNow c wd).dim = s.dim := dim_setCur _ _
theorem dim_insNow (s : TS) (wd : Nat) : (s.insNow wd).dim = s.dim := dim_setCur _ _
theorem dim_step (s : TS) (wd : Nat) : (s.step wd).dim = s.dim := rfl
theorem dim_unwait (s : TS) : s.unwait.dim = s.dim := rfl
theorem dim_print1 (s : TS) : s.print1.dim = s.dim := by unfold print1; split <;> first | exact dim_nextLine _ | rfl
theorem dim_print2 (s : TS) (c : Int) (wd : Nat) : (s.print2 c wd).dim = s.dim := by
  unfold print2
  rw [dim_step, dim_putNow]
  split
  · exact dim_insNow _ _
  · rfl
theorem dim_print (s : TS) (c : Int) (wd : Nat) : (s.print c wd).dim = s.dim := by
  unfold print
  split
  · rfl
  · split
    · split
      · rw [dim_print2, dim_nextLine, dim_print1]
      · exact dim_print1 s
    · rw [dim_print2, dim_print1]
theorem dim_control (s : TS) (c : Int) : (s.control c).dim = s.dim := by
  unfold control
  have h : (if 8 ≤ c ∧ c ≤ 13 then s.unwait else s).dim = s.dim := by split <;> rfl
  rw [← h]
  generalize (if 8 ≤ c ∧ c ≤ 13 then s.unwait else s) = t
  simp only
  repeat' split
  all_goals first | rfl | exact dim_down _
theorem dim_bare (s : TS) (f : Int) : (s.bare f).dim = s.dim := by
  unfold bare
  repeat' split
  all_goals first | rfl | exact dim_save _ | exact dim_down _ | exact dim_up _ | exact dim_nextLine _
theorem dim_escape (s : TS) (m f : Int) : (s.escape m f).dim = s.dim := by
  unfold escape
  repeat' split
  all_goals first | rfl | exact dim_bare _ _
theorem dim_move (s : TS) (f p q : Int) : (s.move f p q).dim = s.dim := by
  unfold move
  repeat' split
  all_goals first | rfl | exact dim_toCounted _ _
theorem dim_clearRow (s : TS) (n : Int) : (s.clearRow n).dim = s.dim := by
  unfold clearRow
  repeat' split
  all_goals first | rfl | exact dim_setCur _ _
theorem dim_clearOther (s : TS) (n : Int) : (s.clearOther n).dim = s.dim := by
  unfold clearOther
  repeat' split
  all_goals first | rfl | exact dim_setCur _ _
theorem dim_edit (s : TS) (f p : Int) : (s.edit f p).dim = s.dim := by
  unfold edit
  simp only
  repeat' split
  all_goals first | rfl | exact dim_setCur _ _ | exact dim_clearRow _ _ | exact (dim_clearOther _ _).trans (dim_clearRow _ _)
theorem dim_setRegion (s : TS) (t b : Int) : (s.setRegion t b).dim = s.dim := by
  unfold setRegion
  simp only
  repeat' split
  all_goals first | rfl | exact dim_home _
theorem dim_clearTabs (s : TS) (n : Int) : (s.clearTabs n).dim = s.dim := by
  unfold clearTabs
  repeat' split
  all_goals rfl
theorem dim_turns (l : List Int) : ∀ s : TS, (s.turns l).dim = s.dim := by
  induction l with
  | nil => intro s; rfl
  | cons n l ih => intro s; exact (ih _)
theorem dim_adjust (s : TS) (f : Int) (ps : List Int) (ct : Nat) : (s.adjust f ps ct).dim = s.dim := by
  unfold adjust
  repeat' split
  all_goals first | rfl | exact dim_setRegion _ _ _ | exact dim_clearTabs _ _ | exact dim_turns _ _
theorem dim_set1 (s : TS) (n : Int) (on : Bool) : (s.set1 n on).dim = s.dim := by
  unfold set1
  repeat' split
  all_goals first | rfl | exact dim_home _
theorem dim_sets (on : Bool) (l : List Int) : ∀ s : TS, (s.sets on l).dim = s.dim := by
  induction l with
  | nil => intro s; rfl
  | cons n l ih => intro s; exact (ih _).trans (dim_set1 _ _ _)
theorem dim_sequence (s : TS) (m f : Int) (ps : List Int) (ct : Nat) : (s.sequence m f ps ct).dim = s.dim := by
  unfold sequence
  split
  · simp only
    rw [dim_adjust, dim_edit, dim_move]
    split <;> rfl
  · split
    · split
      · exact dim_sets _ _ _
      · rfl
    · rfl
theorem dim_take (s : TS) (e : List Int) : (s.take e).dim = s.dim := by
  unfold take
  repeat' split
  all_goals first | rfl | exact dim_print _ _ _ | exact dim_control _ _ | exact dim_escape _ _ _ | exact dim_sequence _ _ _ _ _
end TS
theorem dim_char (x : FS) (c : Int) : (x.char c).t.dim = x.t.dim := by
  unfold FS.char
  show TS.dim (if _ then _ else _) = _
  split
  · exact TS.dim_take _ _
  · rfl
theorem dim_chars (l : List Int) : ∀ x : FS, (x.chars l).t.dim = x.t.dim := by
  induction l with
  | nil => intro x; rfl
  | cons c l ih => intro x; exact (ih _).trans (dim_char _ _)
theorem dim_feed (l : List Int) : ∀ x : FS, (x.feed l).t.dim = x.t.dim := by
  induction l with
  | nil => intro x; rfl
  | cons c l ih => intro x; exact (ih _).trans (dim_chars _ _)
theorem fresh_rows (r c : Nat) (l : List Int) : ((FS.fresh r c).feed l).t.rows = r := congrArg Prod.fst (dim_feed l (FS.fresh r c))
theorem fresh_cols (r c : Nat) (l : List Int) : ((FS.fresh r c).feed l).t.cols = c := congrArg Prod.snd (dim_feed l (FS.fresh r c))
end Go.Proofs.YtheibfffilomcaaDoor

/- The walk of Chunks. -/
namespace Go.Proofs.YtheibfffilomcaaDoor
open Go.RowKit

theorem LtAt.mono {w : World} {B B' : Nat} {v : Value} {T : List ByteArray} (h : LtAt w B v T) (hB : B' ≤ B) : LtAt w B' v T := by
  obtain ⟨h1, h2⟩ := h
  refine ⟨h1, ?_⟩
  rcases h2 with h2 | ⟨g, cap, cur, hv, hg, r⟩
  · exact Or.inl h2
  · exact Or.inr ⟨g, cap, cur, hv, Nat.le_trans hB hg, r⟩
/-- A list of one text is made. -/
theorem wp_bsT {o : Oper} {l : List Value} {ds : List Deferred} {u : World} {K : Act → World → Prop} {Q : Exit → Act → World → Prop} (d : Nat) (x : Operand) (ho : o.op = .buildSlice 22 1 #[(0, x)]) (hd : o.dst = some d) (y : ByteArray) (hx : Act.eval ⟨l.toArray, ds⟩ x = .string y)
    (h : K ⟨(l.set d (.slice (some ⟨u.heap.size, 0, none⟩) 1 1)).toArray, ds⟩ (u.alloc (.cells #[.string y] 9))) : Oper.wp Tryd.prog o ⟨l.toArray, ds⟩ u K Q := by
  have hb : (Instr.buildSlice 22 1 #[(0, .string y)]).run Tryd.prog u = .ok (.slice (some ⟨u.heap.size, 0, none⟩) 1 1) (u.alloc (.cells #[.string y] 9)) := by kernel_rfl
  unfold Oper.wp execOp
  simp only [ho, hx, List.map_toArray, List.map_cons, List.map_nil, Sem.run_bind, hb, Result.andThen_ok, Sem.run_pure]
  simpa [hd, Act.put, Oper.upon] using h
/-- And appended. -/
theorem wp_apT {o : Oper} {l : List Value} {ds : List Deferred} {u : World} {K : Act → World → Prop} {Q : Exit → Act → World → Prop} (d : Nat) (s x : Operand) (ho : o.op = .call { callee := .builtin .append, args := #[s, x], argTypes := #[22, 22] }) (hd : o.dst = some d)
    (base : Nat) (v : Value) (T : List ByteArray) (y : ByteArray) (hs : Act.eval ⟨l.toArray, ds⟩ s = v) (own : LtAt u base v T) (g : Nat) (hx : Act.eval ⟨l.toArray, ds⟩ x = .slice (some ⟨g, 0, none⟩) 1 1) (hg : u.cell? ⟨g, 0, none⟩ = some (.string y)) (hL : T.length ≤ 1000000000) (hb : base ≤ u.heap.size)
    (h : ∀ v' w', LtAt w' base v' (T ++ [y]) → Below base u w' → K ⟨(l.set d v').toArray, ds⟩ w') : Oper.wp Tryd.prog o ⟨l.toArray, ds⟩ u K Q := by
  obtain ⟨i0, hi, hz0, hz1, hz2⟩ := info_parts info9
  obtain ⟨v', w', hr, h2, h3, h4, h5⟩ := run_append_strong (P := Tryd.prog) u base 22 o.type 9 i0 (.string ByteArray.empty) 1 16 Tryd.underlying22 hi hz0 hz1 hz2 rfl v _ _ own ⟨g, 0, none⟩ 1 1 [.string y] rfl (fun j z hj => by
    match j, hj with
    | 0, hj => simp at hj; subst hj; exact hg) (fun z hz => by simp at hz; subst hz; rfl) (by omega) (by unfold maxLen; omega) (by omega) hb
  unfold Oper.wp execOp
  simp only [ho, resolve, invoke, builtin, Sem.run_bind, Sem.run_pure, Result.andThen_ok, List.map_toArray, List.map_cons, List.map_nil, hs, hx, hr]
  have := h v' w' (LtAt.one h2) ((Below.refl base u).grown h3 (by omega) (fun k hk => ((World.ownsRow.lt own) k hk).1))
  simpa [hd, Act.put, Oper.upon] using this
theorem allB_size {T : List ByteArray} {l : List Int} (h : allB T = l) : ∀ t ∈ T, t.size ≤ l.length := fun t ht => by
  obtain ⟨A, B, rfl⟩ := List.append_of_mem ht
  rw [← h, ← bl_length]
  simp only [allB, List.flatMap_append, List.flatMap_cons, List.length_append]
  omega

set_option maxRecDepth 100000 in
set_option maxHeartbeats 2000000 in
theorem chunks_walk (a b : Int) (text more : ByteArray) (ao : Option Addr) (len cap : Nat) (zs : List Int) (w : World) (ha : -9223372036854775808 ≤ a ∧ a ≤ 9223372036854775807) (hb : -9223372036854775808 ≤ b ∧ b ≤ 9223372036854775807) (htb : Tabs w)
    (hlen : len ≤ 1048576) (hts : text.size ≤ 2000000) (hms : more.size ≤ 2000000) (hz : ∀ j, -9223372036854775808 ≤ zs.getD j 0 ∧ zs.getD j 0 ≤ 9223372036854775807)
    (hc : ∀ j, j < len → ∃ b off, ao = some ⟨b, off, none⟩ ∧ b < w.heap.size ∧ w.cell? ⟨b, off + j, none⟩ = some (.int .i64 (zs.getD j 0))) :
    Calls Tryd.prog 7 #[.agg #[.int .i64 a, .int .i64 b], .string text, .slice ao len cap, .string more] w fun e w' => e = .returned (.bool true) ∧ Below w.heap.size w w' := by
  have hw2 : 2 < w.heap.size := by obtain ⟨t, fr, h⟩ := htb.st; exact blk_lt h
  have HZ : Hid _ := hz
  have HC : Hid _ := hc
  clear hz hc
  go_enter Tryd.func7, Tryd.ntmps7
  go_wp2_with fail
  have HG : (w.alloc (Obj.cells #[.int .i64 a, .int .i64 b] 41)).heap[w.heap.size]? = some (.cells #[.int .i64 a, .int .i64 b] 41 (0, 0)) := heap_alloc_new _ _
  have BW : Below w.heap.size w (w.alloc (Obj.cells #[.int .i64 a, .int .i64 b] 41)) := (Below.refl _ _).alloc (Nat.le_refl _) _
  have htW := htb.ch ((Ch.refl (fun _ => False) w).alloc (.cells #[.int .i64 a, .int .i64 b] 41)) (fun _ _ h => h)
  obtain ⟨W, hWW⟩ : ∃ W, W = w.alloc (Obj.cells #[.int .i64 a, .int .i64 b] 41) := ⟨_, rfl⟩
  have hWs : W.heap.size = w.heap.size + 1 := by rw [hWW]; simp
  obtain ⟨lb, hlb⟩ : ∃ lb, lb = w.heap.size := ⟨_, rfl⟩
  rw [← hWs, ← hWW, ← hlb]
  rw [← hWW, ← hlb] at HG
  rw [← hWW] at BW htW
  have SS : ∀ u : World, u.heap[lb]? = some (.cells #[.int .i64 a, .int .i64 b] 41 (0, 0)) → u.rangeAt lb 0 [.int .i64 a, .int .i64 b] := fun u hu j v hv => by
    rw [cell_of_row _ _ _ _ _ _ hu, Nat.zero_add]; simpa using hv
  have hW2 : 2 < W.heap.size := by omega
  have hT2 : SlTx (W.alloc (.cells #[.string text, .string more] 9)) (some ⟨W.heap.size, 0, none⟩) [text, more] := fun j t hj => ⟨W.heap.size, 0, rfl, by simp, by
    have := cells_new W [.string text, .string more] 9 j (.string t) (by
      match j, hj with
      | 0, hj => simp at hj; subst hj; rfl
      | 1, hj => simp at hj; subst hj; rfl)
    have hadd : (⟨W.heap.size, 0, none⟩ : Addr).add j = ⟨W.heap.size, 0 + j, none⟩ := by unfold Addr.add; split <;> simp_all
    rw [hadd] at this; exact this⟩
  have hWa : Below W.heap.size W (W.alloc (.cells #[.string text, .string more] 9)) := (Below.refl _ _).alloc (Nat.le_refl _) _
  have l1 : Calls Tryd.prog 18 #[.agg #[.int .i64 a, .int .i64 b], .slice (some ⟨W.heap.size, 0, none⟩) 2 2] (W.alloc (.cells #[.string text, .string more] 9)) _ := fed_any a b (some ⟨W.heap.size, 0, none⟩) 2 [text, more] _ ha hb (htW.ch ((Ch.refl (fun _ => False) W).alloc _) (fun _ _ h => h)) hT2 (by simp) (by simp; omega)
  refine l1.mono ?_
  rintro e w1 ⟨fa, La, rfl, A1, bA⟩
  have B1 : Below W.heap.size W w1 := hWa.trans (bA.mono hWa.size)
  have A1' : FedAt W.heap.size w1 fa La (szR a) (szC b) (bl text ++ bl more) := by
    have e1 : allB [text, more] = bl text ++ bl more := by simp [allB]
    rw [← e1]; exact ⟨A1.f, Nat.le_trans hWa.size A1.fb, fun k hk => Nat.le_trans hWa.size (A1.own k hk)⟩
  have HA : Hid (FedAt W.heap.size w1 fa La (szR a) (szC b) (bl text ++ bl more)) := A1'
  have HB1 : Hid (Below W.heap.size W w1) := B1
  have HBW : Hid (Below w.heap.size w W) := BW
  have HTW : Hid (Tabs W) := htW
  have G1 := (B1.block lb (blk_lt HG)).trans HG
  clear l1 hT2 hWa A1 bA A1' B1 BW htW htb
  have hlbW : lb < W.heap.size := by omega
  have hW3 : W.heap.size ≤ w1.heap.size := HB1.out.size
  have HWS : Hid (W.heap.size = w.heap.size + 1) := hWs
  have HLB : Hid (lb = w.heap.size) := hlb
  clear hWs hlb hWW
  have XW : ∀ u : World, Below w1.heap.size w1 u → Below W.heap.size W u := fun u x => HB1.out.trans (x.mono hW3)
  have XS : ∀ u : World, Below w1.heap.size w1 u → u.rangeAt lb 0 [.int .i64 a, .int .i64 b] := fun u x => SS u ((x.block lb (blk_lt G1)).trans G1)
  have XT : ∀ u : World, Below w1.heap.size w1 u → Tabs u := fun u x => HTW.out.kept (fun j hj => (XW u x).block j (by omega))
  have KC : ∀ u : World, Below w1.heap.size w1 u → Calls Tryd.prog 23 #[.string text, .slice ao len cap] u fun e w' => ∃ v, e = .returned v ∧ ∃ T, LtAt w' u.heap.size v T ∧ allB T = bl text ∧ T.length ≤ len + 1 ∧ Below u.heap.size u w' := fun u x => by
    refine (cuts_any text ao len cap zs u hlen hts HZ.out (fun j hj => ?_)).mono ?_
    · obtain ⟨p, q, h1, h2, h3⟩ := HC.out j hj
      have hbk : u.heap[p]? = w.heap[p]? := ((XW u x).block p (by have := HBW.out.size; omega)).trans (HBW.out.block p h2)
      exact ⟨p, q, h1, by have := HBW.out.size; have := (XW u x).size; omega, (World.cell?_of_block hbk).trans h3⟩
    · rintro e w' ⟨v, T, h1, h2, h3, h4, h5⟩
      exact ⟨v, h1, T, h2, h3, h4, h5⟩
  have KF : ∀ (u : World) (ao2 : Option Addr) (cap2 : Nat) (T : List ByteArray), Below w1.heap.size w1 u → SlTx u ao2 (T ++ [more]) → allB T = bl text → T.length ≤ len + 1 →
      Calls Tryd.prog 18 #[.agg #[.int .i64 a, .int .i64 b], .slice ao2 (T ++ [more]).length cap2] u fun e w' => ∃ v, e = .returned v ∧ ∃ fb L, v = .tuple #[.pointer (some ⟨fb, 0, none⟩), .bool true] ∧ FedAt w1.heap.size w' fb L (szR a) (szC b) (bl text ++ bl more) ∧ Below w1.heap.size w1 w' := fun u ao2 cap2 T x hT hE hL => by
    have hE2 : allB (T ++ [more]) = bl text ++ bl more := by rw [allB_snoc, hE]
    have hsz := allB_size hE
    refine (fed_any a b ao2 cap2 (T ++ [more]) u ha hb (XT u x) hT (by simp; omega) (fun t ht => ?_)).mono ?_
    · rcases List.mem_append.1 ht with h | h
      · have := hsz t h; rw [bl_length] at this; omega
      · rw [List.mem_singleton] at h; subst h; exact Nat.le_trans hms (by decide)
    · rintro e w' ⟨fb, L, h1, h2, h3⟩
      exact ⟨_, h1, fb, L, rfl, hE2 ▸ ⟨h2.f, Nat.le_trans x.size h2.fb, fun k hk => Nat.le_trans x.size (h2.own k hk)⟩, x.trans (h3.mono x.size)⟩
  have KL : ∀ (u : World) (fb : Nat) (L : Lay), FedAt w1.heap.size u fb L (szR a) (szC b) (bl text ++ bl more) → Below w1.heap.size w1 u → Calls Tryd.prog 24 #[.agg #[.int .i64 a, .int .i64 b], .pointer (some ⟨fa, 0, none⟩), .pointer (some ⟨fb, 0, none⟩)] u fun e w' => e = .returned (.bool true) ∧ Sm u w' := fun u fb L A x =>
    alike_same a b fa fb La L _ _ u ha hb (HA.out.f.kept (P := fun _ => False) ⟨x.os, x.tape, x.output, x.size, fun k hk _ => x.block k hk⟩ id (fun _ _ => id)) A.f rfl ((FS.Ok.fresh (szR_bd a) (szC_bd b)).feed _ (fun z hz => (List.mem_append.1 hz).elim (bl_byte _ z) (bl_byte _ z))).t (fresh_rows _ _ _) (fresh_cols _ _ _)
  go_wp2_with fail
  have x0 : Below w1.heap.size w1 ({ w1 with drawn := World.drawn w1 + 1 } : World) := ⟨rfl, rfl, rfl, Nat.le_refl _, fun _ _ => rfl⟩
  have HH := XS _ x0
  refine wp_region_held (S := fun x => x.rangeAt lb 0 [.int .i64 a, .int .i64 b]) mixedC ?_
  refine takeL (i := 0) (d := 22) (v := .agg #[.int .i64 a, .int .i64 b]) rfl rfl (by kernel_rfl) (by kernel_rfl) (by kernel_rfl) (fun _ _ _ h => h) (yieldsIf_load_mid (by rfl) 41 (.tmp 4) rfl lb 0 rfl [.int .i64 a, .int .i64 b] _ (fun x h => h) Tryd.underlying41 rfl info41) HH ?_
  simp only [List.set_cons_zero, List.set_cons_succ]
  refine takeL (i := 1) (d := 23) (v := .string text) rfl rfl (by kernel_rfl) (by kernel_rfl) (by kernel_rfl) (fun _ _ _ h => h) (Or.inl ⟨by rfl, by intro x hSx; go_simp; try (first | rfl | go_num)⟩) HH ?_
  simp only [List.set_cons_zero, List.set_cons_succ]
  refine takeL (i := 2) (d := 24) (v := .slice ao len cap) rfl rfl (by kernel_rfl) (by kernel_rfl) (by kernel_rfl) (fun _ _ _ h => h) (Or.inl ⟨by rfl, by intro x hSx; go_simp; try (first | rfl | go_num)⟩) HH ?_
  simp only [List.set_cons_zero, List.set_cons_succ]
  refine takeL (i := 4) (d := 26) (v := .string more) rfl rfl (by kernel_rfl) (by kernel_rfl) (by kernel_rfl) (fun _ _ _ h => h) (Or.inl ⟨by rfl, by intro x hSx; go_simp; try (first | rfl | go_num)⟩) HH ?_
  simp only [List.set_cons_zero, List.set_cons_succ]
  refine wpAnyH_all (rs := [3, 5]) (by kernel_rfl) (by simp) ?_
  intro i hi'
  simp only [List.mem_cons, List.not_mem_nil, or_false] at hi'
  rcases hi' with rfl | rfl
  · refine wpOp_step rfl fun Kq hKq => ?_
    rw [if_pos (by rfl)]
    refine wp_callL (f := 23) 25 [.tmp 23, .tmp 24] #[9, 26] rfl rfl [.string text, .slice ao len cap] rfl (by kernel_rfl) _ (KC _ x0) ?_
    rintro v1 u1 ⟨T, own1, hE, hL, b1⟩
    have x1 := x0.trans b1
    refine hKq _ _ ⟨XS _ x1, ?_⟩
    clear hKq
    simp only [List.set_cons_zero, List.set_cons_succ]
    refine wpAnyH_all (rs := [5]) (by kernel_rfl) (by simp) ?_
    intro i hi'
    rw [List.mem_singleton] at hi'
    subst hi'
    refine wpOp_step rfl fun Kq hKq => ?_
    rw [if_pos (by rfl)]
    refine wp_bsT 27 (.tmp 26) rfl rfl more rfl ?_
    have own2 := World.ownsRow.alloc own1 (Obj.cells #[.string more] 9)
    have x2 : Below w1.heap.size w1 (u1.alloc (.cells #[.string more] 9)) := x1.alloc x1.size _
    have c2 : (u1.alloc (.cells #[.string more] 9)).cell? ⟨u1.heap.size, 0, none⟩ = some (.string more) := (cell_of_row _ _ _ _ _ _ (heap_alloc_new u1 _)).trans rfl
    refine hKq _ _ ⟨XS _ x2, ?_⟩
    clear hKq
    simp only [List.set_cons_zero, List.set_cons_succ]
    refine wpAnyH_all (rs := [6]) (by kernel_rfl) (by simp) ?_
    intro i hi'
    rw [List.mem_singleton] at hi'
    subst hi'
    refine wpOp_step rfl fun Kq hKq => ?_
    rw [if_pos (by rfl)]
    refine wp_apT 28 (.tmp 25) (.tmp 27) rfl rfl w1.heap.size v1 T more rfl own2 u1.heap.size rfl c2 (by omega) x2.size ?_
    intro v3 u3 own3 b3
    have x3 := x2.trans b3
    refine hKq _ _ ⟨XS _ x3, ?_⟩
    clear hKq
    simp only [List.set_cons_zero, List.set_cons_succ]
    obtain ⟨ao2, cap2, rfl, hsl⟩ := own3.sl
    refine wpAnyH_all (rs := [7]) (by kernel_rfl) (by simp) ?_
    intro i hi'
    rw [List.mem_singleton] at hi'
    subst hi'
    refine wpOp_step rfl fun Kq hKq => ?_
    rw [if_pos (by rfl)]
    refine wp_callL (f := 18) 29 [.tmp 22, .tmp 28] #[41, 22] rfl rfl [.agg #[.int .i64 a, .int .i64 b], .slice ao2 (T ++ [more]).length cap2] rfl (by kernel_rfl) _ (KF _ ao2 cap2 T x3 hsl hE hL) ?_
    rintro v4 u4 ⟨fb, L, rfl, A4, x4⟩
    refine hKq _ _ ⟨XS _ x4, ?_⟩
    clear hKq
    simp only [List.set_cons_zero, List.set_cons_succ]
    have hS4 := XS _ x4
    refine takeL (i := 8) (d := 21) (v := .tuple #[.pointer (some ⟨fb, 0, none⟩), .bool true]) rfl rfl (by kernel_rfl) (by kernel_rfl) (by kernel_rfl) (fun _ _ _ h => h) (Or.inl ⟨by rfl, by intro x hSx; go_simp; try (first | rfl | go_num)⟩) hS4 ?_
    simp only [List.set_cons_zero, List.set_cons_succ]
    refine takeL (i := 9) (d := 30) (v := .pointer (some ⟨fb, 0, none⟩)) rfl rfl (by kernel_rfl) (by kernel_rfl) (by kernel_rfl) (fun _ _ _ h => h) (Or.inl ⟨by rfl, by intro x hSx; go_simp; try (first | rfl | go_num)⟩) hS4 ?_
    simp only [List.set_cons_zero, List.set_cons_succ]
    refine takeL (i := 10) (d := 31) (v := .bool true) rfl rfl (by kernel_rfl) (by kernel_rfl) (by kernel_rfl) (fun _ _ _ h => h) (Or.inl ⟨by rfl, by intro x hSx; go_simp; try (first | rfl | go_num)⟩) hS4 ?_
    simp only [List.set_cons_zero, List.set_cons_succ]
    refine takeL (i := 11) (d := 11) (v := .pointer (some ⟨fb, 0, none⟩)) rfl rfl (by kernel_rfl) (by kernel_rfl) (by kernel_rfl) (fun _ _ _ h => h) (Or.inl ⟨by rfl, by intro x hSx; go_simp; try (first | rfl | go_num)⟩) hS4 ?_
    simp only [List.set_cons_zero, List.set_cons_succ]
    refine takeL (i := 12) (d := 12) (v := .bool true) rfl rfl (by kernel_rfl) (by kernel_rfl) (by kernel_rfl) (fun _ _ _ h => h) (Or.inl ⟨by rfl, by intro x hSx; go_simp; try (first | rfl | go_num)⟩) hS4 ?_
    simp only [List.set_cons_zero, List.set_cons_succ]
    refine wpAnyH_done (by kernel_rfl) ?_ _
    have l5 := KL u4 fb L A4 x4
    have G4 := (x4.block lb (blk_lt G1)).trans G1
    have c40 : u4.cell? ⟨lb, 0, none⟩ = some (.int .i64 a) := (cell_of_row _ _ _ _ _ _ G4).trans rfl
    have c41 : u4.cell? ⟨lb, 1, none⟩ = some (.int .i64 b) := (cell_of_row _ _ _ _ _ _ G4).trans rfl
    have HX4 : Hid (Below w1.heap.size w1 u4) := x4
    clear KC KF KL XS XT A4 x4 own3 hsl hE hL hS4
    go_wp2_with (go_at_call 24; refine l5.mono ?_; rintro e w5 ⟨rfl, S5⟩)
    go_ret
    refine ⟨rfl, ?_⟩
    have b5 := XW u4 HX4.out
    have b6 := HBW.out.trans (b5.mono (by have := HWS.out; omega))
    exact b6.trans (S5.below b6.size (fun k hk h => h))
  · refine wpOp_step rfl fun Kq hKq => ?_
    rw [if_pos (by rfl)]
    refine wp_bsT 27 (.tmp 26) rfl rfl more rfl ?_
    have x1 : Below w1.heap.size w1 (World.alloc ({ w1 with drawn := World.drawn w1 + 1 } : World) (.cells #[.string more] 9)) := x0.alloc x0.size _
    have c1 : (World.alloc ({ w1 with drawn := World.drawn w1 + 1 } : World) (.cells #[.string more] 9)).cell? ⟨w1.heap.size, 0, none⟩ = some (.string more) := (cell_of_row _ _ _ _ _ _ (heap_alloc_new ({ w1 with drawn := World.drawn w1 + 1 } : World) _)).trans rfl
    refine hKq _ _ ⟨XS _ x1, ?_⟩
    clear hKq
    simp only [List.set_cons_zero, List.set_cons_succ]
    refine wpAnyH_all (rs := [3]) (by kernel_rfl) (by simp) ?_
    intro i hi'
    rw [List.mem_singleton] at hi'
    subst hi'
    refine wpOp_step rfl fun Kq hKq => ?_
    rw [if_pos (by rfl)]
    refine wp_callL (f := 23) 25 [.tmp 23, .tmp 24] #[9, 26] rfl rfl [.string text, .slice ao len cap] rfl (by kernel_rfl) _ (KC _ x1) ?_
    rintro v1 u1 ⟨T, own1, hE, hL, b1⟩
    have x2 := x1.trans (b1.mono x1.size)
    have c2 : u1.cell? ⟨w1.heap.size, 0, none⟩ = some (.string more) := (World.cell?_of_block (b1.block w1.heap.size (by simp))).trans c1
    have own2 : LtAt u1 w1.heap.size v1 T := own1.mono x1.size
    refine hKq _ _ ⟨XS _ x2, ?_⟩
    clear hKq
    simp only [List.set_cons_zero, List.set_cons_succ]
    refine wpAnyH_all (rs := [6]) (by kernel_rfl) (by simp) ?_
    intro i hi'
    rw [List.mem_singleton] at hi'
    subst hi'
    refine wpOp_step rfl fun Kq hKq => ?_
    rw [if_pos (by rfl)]
    refine wp_apT 28 (.tmp 25) (.tmp 27) rfl rfl w1.heap.size v1 T more rfl own2 w1.heap.size rfl c2 (by omega) x2.size ?_
    intro v3 u3 own3 b3
    have x3 := x2.trans b3
    refine hKq _ _ ⟨XS _ x3, ?_⟩
    clear hKq
    simp only [List.set_cons_zero, List.set_cons_succ]
    obtain ⟨ao2, cap2, rfl, hsl⟩ := own3.sl
    refine wpAnyH_all (rs := [7]) (by kernel_rfl) (by simp) ?_
    intro i hi'
    rw [List.mem_singleton] at hi'
    subst hi'
    refine wpOp_step rfl fun Kq hKq => ?_
    rw [if_pos (by rfl)]
    refine wp_callL (f := 18) 29 [.tmp 22, .tmp 28] #[41, 22] rfl rfl [.agg #[.int .i64 a, .int .i64 b], .slice ao2 (T ++ [more]).length cap2] rfl (by kernel_rfl) _ (KF _ ao2 cap2 T x3 hsl hE hL) ?_
    rintro v4 u4 ⟨fb, L, rfl, A4, x4⟩
    refine hKq _ _ ⟨XS _ x4, ?_⟩
    clear hKq
    simp only [List.set_cons_zero, List.set_cons_succ]
    have hS4 := XS _ x4
    refine takeL (i := 8) (d := 21) (v := .tuple #[.pointer (some ⟨fb, 0, none⟩), .bool true]) rfl rfl (by kernel_rfl) (by kernel_rfl) (by kernel_rfl) (fun _ _ _ h => h) (Or.inl ⟨by rfl, by intro x hSx; go_simp; try (first | rfl | go_num)⟩) hS4 ?_
    simp only [List.set_cons_zero, List.set_cons_succ]
    refine takeL (i := 9) (d := 30) (v := .pointer (some ⟨fb, 0, none⟩)) rfl rfl (by kernel_rfl) (by kernel_rfl) (by kernel_rfl) (fun _ _ _ h => h) (Or.inl ⟨by rfl, by intro x hSx; go_simp; try (first | rfl | go_num)⟩) hS4 ?_
    simp only [List.set_cons_zero, List.set_cons_succ]
    refine takeL (i := 10) (d := 31) (v := .bool true) rfl rfl (by kernel_rfl) (by kernel_rfl) (by kernel_rfl) (fun _ _ _ h => h) (Or.inl ⟨by rfl, by intro x hSx; go_simp; try (first | rfl | go_num)⟩) hS4 ?_
    simp only [List.set_cons_zero, List.set_cons_succ]
    refine takeL (i := 11) (d := 11) (v := .pointer (some ⟨fb, 0, none⟩)) rfl rfl (by kernel_rfl) (by kernel_rfl) (by kernel_rfl) (fun _ _ _ h => h) (Or.inl ⟨by rfl, by intro x hSx; go_simp; try (first | rfl | go_num)⟩) hS4 ?_
    simp only [List.set_cons_zero, List.set_cons_succ]
    refine takeL (i := 12) (d := 12) (v := .bool true) rfl rfl (by kernel_rfl) (by kernel_rfl) (by kernel_rfl) (fun _ _ _ h => h) (Or.inl ⟨by rfl, by intro x hSx; go_simp; try (first | rfl | go_num)⟩) hS4 ?_
    simp only [List.set_cons_zero, List.set_cons_succ]
    refine wpAnyH_done (by kernel_rfl) ?_ _
    have l5 := KL u4 fb L A4 x4
    have G4 := (x4.block lb (blk_lt G1)).trans G1
    have c40 : u4.cell? ⟨lb, 0, none⟩ = some (.int .i64 a) := (cell_of_row _ _ _ _ _ _ G4).trans rfl
    have c41 : u4.cell? ⟨lb, 1, none⟩ = some (.int .i64 b) := (cell_of_row _ _ _ _ _ _ G4).trans rfl
    have HX4 : Hid (Below w1.heap.size w1 u4) := x4
    clear KC KF KL XS XT A4 x4 own3 hsl hE hL hS4
    go_wp2_with (go_at_call 24; refine l5.mono ?_; rintro e w5 ⟨rfl, S5⟩)
    go_ret
    refine ⟨rfl, ?_⟩
    have b5 := XW u4 HX4.out
    have b6 := HBW.out.trans (b5.mono (by have := HWS.out; omega))
    exact b6.trans (S5.below b6.size (fun k hk h => h))
end Go.Proofs.YtheibfffilomcaaDoor

