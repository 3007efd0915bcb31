/- Zd Ze Zf together. -/
import Derived.Test.YtheibfffilomcaaGreatDoorZmM
import Derived.BigQuiet
import Derived.Deep.QuietTactic
import Derived.Test.YtheibfffilomcaaGreatDoorPdM

/- The walks of inks, turn, cell. -/
namespace Go.Proofs.YtheibfffilomcaaGreatDoor
open Go.RowKit

/-- A pen's numbers as a text. -/
def inkS (p : PenS) : ByteArray := strOfNums (inksN p)
theorem ifB (b : Bool) (l : List Int) (h : ∀ x ∈ l, 0 ≤ x ∧ x < 256) : ∀ x ∈ (if b then l else []), 0 ≤ x ∧ x < 256 := by cases b <;> simp; exact h
theorem inksN_byte {p : PenS} (h : p.Ok) : ∀ x ∈ inksN p, 0 ≤ x ∧ x < 256 := by
  obtain ⟨h1, h2, h3, h4⟩ := h
  intro x hx
  unfold inksN at hx
  simp only [List.mem_append] at hx
  rcases hx with hx | hx | hx | hx | hx
  · split at hx <;> simp at hx; omega
  · split at hx <;> simp at hx; omega
  · split at hx <;> simp at hx; omega
  · split at hx
    · rcases List.mem_append.1 hx with hx | hx
      · simp at hx; omega
      · exact digN_byte (by omega) x hx
    · simp at hx
  · split at hx
    · rcases List.mem_append.1 hx with hx | hx
      · simp at hx; omega
      · exact digN_byte (by omega) x hx
    · simp at hx
theorem digN_len (n : Int) : (digN n).length ≤ 2 := by unfold digN; split <;> simp
theorem inksN_len (p : PenS) : (inksN p).length ≤ 14 := by
  unfold inksN
  simp only [List.length_append]
  have e : ∀ (c : Prop) [Decidable c] (l : List Int), (if c then l else []).length ≤ l.length := by intro c _ l; split <;> simp
  have a1 := e (p.b = true) [59, 49]
  have a2 := e (p.u = true) [59, 52]
  have a3 := e (p.t = true) [59, 55]
  have a4 := e (p.f ≠ 0) ([59, 51] ++ digN (p.f - 1))
  have a5 := e (p.k ≠ 0) ([59, 52] ++ digN (p.k - 1))
  have b1 := digN_len (p.f - 1)
  have b2 := digN_len (p.k - 1)
  simp only [List.length_append, List.length_cons, List.length_nil] at a1 a2 a3 a4 a5
  omega
theorem inkS_bl {p : PenS} (h : p.Ok) : bl (inkS p) = inksN p := bl_nums _ (inksN_byte h)
theorem inkS_size (p : PenS) : (inkS p).size ≤ 14 := by unfold inkS; rw [nums_size]; exact inksN_len p

set_option maxRecDepth 100000 in
set_option maxHeartbeats 1000000 in
theorem inks_any (p : PenS) (hp : p.Ok) (w : World) : Calls Tryz.prog 235 #[.agg (penA p)] w fun e w' => (∃ U : ByteArray, e = .returned (.string U) ∧ bl U = inksN p) ∧ Below w.heap.size w w' := by
  obtain ⟨b, u, t, f, k⟩ := p
  obtain ⟨h1, h2, h3, h4⟩ := hp
  dsimp only at h1 h2 h3 h4
  have lf : ∀ w : World, f ≠ 0 → Calls Tryz.prog 149 #[.int .i64 (f - 1)] w fun e w' => e = .returned (.string (digS (f - 1))) ∧ w' = w := fun w hf => by
    have := itoa_any (f - 1).toNat (by omega) w
    rwa [show (((f - 1).toNat : Nat) : Int) = f - 1 by omega] at this
  have lk : ∀ w : World, k ≠ 0 → Calls Tryz.prog 149 #[.int .i64 (k - 1)] w fun e w' => e = .returned (.string (digS (k - 1))) ∧ w' = w := fun w hf => by
    have := itoa_any (k - 1).toNat (by omega) w
    rwa [show (((k - 1).toNat : Nat) : Int) = k - 1 by omega] at this
  have zf := digS_size (f - 1)
  have zk := digS_size (k - 1)
  have vf : IntKind.i64.wrap (f - 1) = f - 1 := IntWalk.i64_in _ (by omega)
  have vk : IntKind.i64.wrap (k - 1) = k - 1 := IntWalk.i64_in _ (by omega)
  have Df : Hid (f ≠ 0 → bl (digS (f - 1)) = digN (f - 1)) := fun h => digS_bl (by omega)
  have Dk : Hid (k ≠ 0 → bl (digS (k - 1)) = digN (k - 1)) := fun h => digS_bl (by omega)
  have E1 : Hid (bl ({ data := #[59, 49] } : ByteArray) = [59, 49]) := rfl
  have E2 : Hid (bl ({ data := #[59, 52] } : ByteArray) = [59, 52]) := rfl
  have E3 : Hid (bl ({ data := #[59, 55] } : ByteArray) = [59, 55]) := rfl
  have E4 : Hid (bl ({ data := #[59, 51] } : ByteArray) = [59, 51]) := rfl
  have E0 : Hid (bl ({ data := #[] } : ByteArray) = []) := rfl
  have BW : Hid (∀ o, Below w.heap.size w (w.alloc o)) := fun o => (Below.refl _ _).alloc (Nat.le_refl _) _
  rw [show penA ⟨b, u, t, f, k⟩ = #[.bool b, .bool u, .bool t, .int .i64 f, .int .i64 k] from rfl]
  generalize digS (f - 1) = FS at *
  generalize digS (k - 1) = KS at *
  by_cases hf : f = 0
  · by_cases hk : k = 0
    · subst hf hk
      clear lf lk
      cases b <;> cases u <;> cases t
      all_goals
        go_enter Tryz.func235, Tryz.ntmps235
        go_wp2_with fail
        go_ret
        exact ⟨⟨_, rfl, rfl⟩, BW.out _⟩
    · subst hf
      have hk' : (k != 0) = true := by simpa using hk
      have lk := fun w => lk w hk
      clear lf
      cases b <;> cases u <;> cases t
      all_goals
        go_enter Tryz.func235, Tryz.ntmps235
        go_wp2_with (go_at_call 149; refine (lk _).mono ?_; rintro e w1 ⟨rfl, hw1⟩; have hw2 := hw1.symm; subst hw2)
        go_ret
        exact ⟨⟨_, rfl, by simp only [bl_append, E0.out, E1.out, E2.out, E3.out, Dk.out hk, inksN, ne_eq, hk, not_false_eq_true, not_true_eq_false, if_true, if_false, Bool.false_eq_true, List.nil_append, List.append_assoc]⟩, BW.out _⟩
  · have hf' : (f != 0) = true := by simpa using hf
    have lf := fun w => lf w hf
    by_cases hk : k = 0
    · subst hk
      clear lk
      cases b <;> cases u <;> cases t
      all_goals
        go_enter Tryz.func235, Tryz.ntmps235
        go_wp2_with (go_at_call 149; refine (lf _).mono ?_; rintro e w1 ⟨rfl, hw1⟩; have hw2 := hw1.symm; subst hw2)
        go_ret
        exact ⟨⟨_, rfl, by simp only [bl_append, E0.out, E1.out, E2.out, E3.out, E4.out, Df.out hf, inksN, ne_eq, hf, not_false_eq_true, not_true_eq_false, if_true, if_false, Bool.false_eq_true, List.nil_append, List.append_nil, List.append_assoc]⟩, BW.out _⟩
    · have hk' : (k != 0) = true := by simpa using hk
      have lk := fun w => lk w hk
      cases b <;> cases u <;> cases t
      all_goals
        go_enter Tryz.func235, Tryz.ntmps235
        go_wp2_with (first | (go_at_call 149; refine (lf _).mono ?_; rintro e w1 ⟨rfl, hw1⟩; have hw2 := hw1.symm; subst hw2) | (go_at_call 149; refine (lk _).mono ?_; rintro e w1 ⟨rfl, hw1⟩; have hw2 := hw1.symm; subst hw2))
        go_ret
        exact ⟨⟨_, rfl, by simp only [bl_append, E0.out, E1.out, E2.out, E3.out, E4.out, Df.out hf, Dk.out hk, inksN, ne_eq, hf, hk, not_false_eq_true, if_true, if_false, Bool.false_eq_true, List.nil_append, List.append_assoc]⟩, BW.out _⟩
theorem inks_eq (p : PenS) (hp : p.Ok) (w : World) : Calls Tryz.prog 235 #[.agg (penA p)] w fun e w' => e = .returned (.string (inkS p)) ∧ Below w.heap.size w w' := by
  refine (inks_any p hp w).mono ?_
  rintro e w' ⟨⟨U, rfl, h1⟩, h2⟩
  exact ⟨by rw [bl_inj (h1.trans (inkS_bl hp).symm)], h2⟩
end Go.Proofs.YtheibfffilomcaaGreatDoor

/- The walks of turn, cell. -/
namespace Go.Proofs.YtheibfffilomcaaGreatDoor
open Go.RowKit

theorem eqlP (p q : PenS) (w : World) : (binOp .eql 80 (.agg (penA p)) (.agg (penA q))).run Tryz.prog w = .ok (.bool (decide (p = q))) w := by
  rw [run_eql_struct, eqP 9998]; rfl
theorem guardP (op : BinOp) (x y : Operand) (xs ys : Array Value) (w : World) : (eqGuard op 80 x y (.agg xs) (.agg ys)).run Tryz.prog w = .ok () w := run_eqGuard_agg w op 80 x y xs ys (by kernel_rfl)
theorem run_eqlP {o : Oper} {a : Act} (x y : Operand) (ho : o.op = .binOp .eql 80 x y 80) (c d : PenS) (hx : a.eval x = .agg (penA c)) (hy : a.eval y = .agg (penA d)) (w : World) : (execOp a.eval o).run Tryz.prog w = .ok (.value (.bool (decide (c = d)))) w := by
  unfold execOp
  simp only [ho, hx, hy, Sem.run_bind, guardP, eqlP, Result.andThen_ok, Sem.run_pure]
theorem range_of {w : World} {g : Nat} {cs : List Value} {t : TypeId} (h : w.heap[g]? = some (.cells cs.toArray t (0, 0))) (j : Nat) (vs : List Value) (hv : (cs.drop j).take vs.length = vs) : w.rangeAt g j vs := fun i v hi => by
  rw [cell_of_row _ _ _ _ _ _ h]
  rw [← hv, List.getElem?_take] at hi
  split at hi
  · rw [List.getElem?_drop] at hi; simpa using hi
  · cases hi
/-- A writer's block with another pen. -/
theorem wr_pen (w : World) (wb tb : Nat) (p v : Value) (q r : PenS) (h : w.heap[wb]? = some (.cells (wrV tb p v q).toArray 133 (0, 0))) :
    (w.setCells wb 3 (penV r)).heap[wb]? = some (.cells (wrV tb p v r).toArray 133 (0, 0)) ∧ Ch (· = wb) w (w.setCells wb 3 (penV r)) := by
  have hz := size_setCells wb (penV r) 3 w
  refine ⟨?_, ⟨hz.2.1, hz.2.2.1, hz.2.2.2, by omega, fun i _ hn => heap_setCells wb _ _ _ i hn⟩⟩
  rw [blk_setCells h (by show 3 + 5 ≤ 8; omega)]
  rfl
theorem wp_penstore {ops : Array Oper} {rest : List Oper} {o : Oper} {a : Act} {u : World} {Q : Exit → Act → World → Prop} (hgd : o.guard = none) (x y : Operand) (ho : o.op = .store 80 x y) (hd : o.dst = none) (wb tb : Nat) (p v : Value) (q r : PenS)
    (hx : a.eval x = .pointer (some ⟨wb, 3, none⟩)) (hy : a.eval y = .agg (penA r)) (h : u.heap[wb]? = some (.cells (wrV tb p v q).toArray 133 (0, 0)))
    (hK : ∀ u', u'.heap[wb]? = some (.cells (wrV tb p v r).toArray 133 (0, 0)) → Ch (· = wb) u u' → wpList Tryz.prog ops Q rest a u') : wpList Tryz.prog ops Q (o :: rest) a u := by
  obtain ⟨g1, k1⟩ := wr_pen u wb tb p v q r h
  refine wpList_plain hgd fun K hK2 => ?_
  refine wp_store_mid 80 x y ho wb 3 (penA r) hx hy (by simpa [penA, penV] using blk_there h (n := 5) (o := 3) (by show 3 + 5 ≤ 8; omega)) (by simpa [penA, penV] using info47) (all_oneCell_toArray (by
    intro z hz
    simp only [penV, List.mem_cons, List.not_mem_nil, or_false] at hz
    rcases hz with rfl | rfl | rfl | rfl | rfl <;> rfl)) ?_
  rw [hd]
  exact hK2 _ _ (hK _ (by simpa [penA] using g1) (by simpa [penA] using k1))

set_option maxRecDepth 100000 in
theorem turn_wr (wb tb : Nat) (x : WS) (p : PenS) (hp : p.Ok) (w : World) (h : WrAt w wb tb x) (hx : x.tx.length ≤ 700000000) :
    Calls Tryz.prog 209 #[.pointer (some ⟨wb, 0, none⟩), .agg (penA p)] w fun e w' => e = .returned (.tuple #[]) ∧ WrAt w' wb tb (x.turn p) ∧ Wk wb w w' := by
  obtain ⟨pa, v, h1, h2, h3⟩ := h.ex
  have hlt := blk_lt h1
  have HLT : Hid (wb < w.heap.size) := hlt
  obtain ⟨W, hW⟩ : ∃ W, W = w.alloc (.cells (penA p) 80) := ⟨_, rfl⟩
  have GW : W.heap[w.heap.size]? = some (.cells (penV p).toArray 80 (0, 0)) := by rw [hW]; exact heap_alloc_new _ _
  have GB : W.heap[wb]? = some (.cells (wrV tb pa v x.pen).toArray 133 (0, 0)) := by rw [hW]; exact (Below.heap_alloc _ _ _ hlt).trans h1
  have BW : Below w.heap.size w W := by rw [hW]; exact (Below.refl _ _).alloc (Nat.le_refl _) _
  have H8 : Hid (∀ i ∈ x.tx, 0 ≤ i ∧ i < 256) := h.by8
  have HBS : Hid (BsAt W (wb + 1) v x.tx) := h3.keep (fun k _ hk => BW.block k hk)
  have HP : Hid _ := h2
  have HGB : Hid _ := GB
  have HGW : Hid _ := GW
  have HBW : Hid _ := BW
  have HW : Hid _ := hW
  have hsW : W.heap.size = w.heap.size + 1 := by rw [hW]; simp
  clear h h1 h2 h3 hW
  have HH : World.rangeAt ({ W with drawn := W.drawn + 1 } : World) w.heap.size 0 (penV p) ∧ World.rangeAt ({ W with drawn := W.drawn + 1 } : World) wb 3 (penV x.pen) := ⟨range_of (w := ({ W with drawn := W.drawn + 1 } : World)) GW 0 _ rfl, range_of (w := ({ W with drawn := W.drawn + 1 } : World)) GB 3 _ rfl⟩
  clear GW GB BW
  go_enter Tryz.func209, Tryz.ntmps209
  go_wp2_with fail
  rw [← HW.out]
  refine wp_region_held (S := fun y => y.rangeAt w.heap.size 0 (penV p) ∧ y.rangeAt wb 3 (penV x.pen)) mixedC ?_
  refine takeL (i := 0) (d := 4) (v := .agg (penA p)) rfl rfl (by kernel_rfl) (by kernel_rfl) (by kernel_rfl) (fun _ _ _ h => h) (yieldsIf_load_mid (by rfl) 80 (.tmp 3) rfl w.heap.size 0 rfl (penV p) _ (fun y h => h.1) Tryz.underlying80 rfl info47) HH ?_
  simp only [List.set_cons_zero, List.set_cons_succ]
  refine takeL (i := 1) (d := 5) (v := .pointer (some ⟨wb, 0, none⟩)) rfl rfl (by kernel_rfl) (by kernel_rfl) (by kernel_rfl) (fun _ _ _ h => h) (Or.inl ⟨by rfl, by intro x hSx; go_simp; try (first | rfl | go_num)⟩) HH ?_
  simp only [List.set_cons_zero, List.set_cons_succ]
  refine takeL (i := 2) (d := 6) (v := .pointer (some ⟨wb, 0, none⟩)) rfl rfl (by kernel_rfl) (by kernel_rfl) (by kernel_rfl) (fun _ _ _ h => h) (Or.inl ⟨by rfl, by intro x hSx; go_simp; try (first | rfl | go_num)⟩) HH ?_
  simp only [List.set_cons_zero, List.set_cons_succ]
  refine takeL (i := 3) (d := 7) (v := .pointer (some ⟨wb, 3, none⟩)) rfl rfl (by kernel_rfl) (by kernel_rfl) (by kernel_rfl) (fun _ _ _ h => h) (Or.inl ⟨by rfl, by intro x hSx; go_simp; try (first | rfl | go_num)⟩) HH ?_
  simp only [List.set_cons_zero, List.set_cons_succ]
  refine takeL (i := 4) (d := 8) (v := .agg (penA x.pen)) rfl rfl (by kernel_rfl) (by kernel_rfl) (by kernel_rfl) (fun _ _ _ h => h) (yieldsIf_load_mid (by rfl) 80 (.tmp 7) rfl wb 3 rfl (penV x.pen) _ (fun y h => h.2) Tryz.underlying80 rfl info47) HH ?_
  simp only [List.set_cons_zero, List.set_cons_succ]
  refine takeL (i := 5) (d := 9) (v := .bool (decide (p = x.pen))) rfl rfl (by kernel_rfl) (by kernel_rfl) (by kernel_rfl) (fun _ _ _ h => h) (Or.inl ⟨by rfl, fun y _ => run_eqlP (.tmp 4) (.tmp 8) rfl p x.pen rfl rfl y⟩) HH ?_
  simp only [List.set_cons_zero, List.set_cons_succ]
  refine wpAnyH_done (by kernel_rfl) ?_ _
  clear HH
  by_cases he : p = x.pen
  · have e : x.turn p = x := by unfold WS.turn; rw [if_pos he]
    have HE : Hid _ := e
    rw [decide_eq_true he]
    clear e he
    go_wp2_with fail
    refine bodyPost_ret (results_none rfl _ _ _) rfl ?_
    refine ⟨rfl, ?_, ⟨⟨HBW.out.os, HBW.out.tape, HBW.out.output, HBW.out.size, fun k hk => HBW.out.block k (by omega)⟩, fun k hk _ _ => HBW.out.block k hk⟩⟩
    rw [HE.out]
    exact ⟨⟨pa, v, HGB.out, HP.out, HBS.out⟩, H8.out⟩
  · have e : x.turn p = (⟨x.tx, p⟩ : WS).seq (48 :: (inksN p ++ [109])) := by unfold WS.turn; rw [if_neg he]
    have HE : Hid _ := e
    rw [decide_eq_false he]
    clear e he
    go_wp2_with (first | (refine wpList_load_row rfl 80 (.tmp 3) rfl w.heap.size rfl 80 _ (0, 0) _ HGW.out Tryz.underlying80 rfl info47 ?_) | (refine wp_penstore rfl (.tmp 13) (.tmp 11) rfl rfl wb tb pa v x.pen p rfl rfl HGB.out ?_))
    intro u4 g4 k4
    have k4s : W.heap.size ≤ u4.heap.size := k4.size
    have g5 : u4.heap[w.heap.size]? = some (.cells (penV p).toArray 80 (0, 0)) := (k4.block _ (blk_lt HGW.out) (by omega)).trans HGW.out
    have W4 : WrAt u4 wb tb ⟨x.tx, p⟩ := ⟨⟨pa, v, g4, HP.out, HBS.out.keep (fun k hk hk2 => k4.block k hk2 (by omega))⟩, H8.out⟩
    have B4 : Wk wb w u4 := (Wk.of_below HBW.out (Nat.le_of_lt hlt)).trans ⟨⟨k4.os, k4.tape, k4.output, k4.size, fun k hk => k4.block k (by show k < W.heap.size; omega) (by omega)⟩, fun k hk hn _ => k4.block k hk hn⟩
    have HW4 : Hid _ := W4
    have HB4 : Hid _ := B4
    clear W4 B4 g4 k4
    go_wp2_with (refine wpList_load_row rfl 80 (.tmp 3) rfl w.heap.size rfl 80 _ (0, 0) _ g5 Tryz.underlying80 rfl info47 ?_)
    refine (inks_eq p hp u4).mono ?_
    rintro e w5 ⟨rfl, b5⟩
    have zi := inkS_size p
    have l6 := sequence_wr wb tb ⟨x.tx, p⟩ (({ data := #[48] } : ByteArray) ++ inkS p ++ { data := #[109] }) w5 (HW4.out.keep b5) (by show x.tx.length ≤ _; omega) (by rw [ByteArray.size_append, ByteArray.size_append]; show 1 + (inkS p).size + 1 ≤ _; omega)
    have e6 : bl (({ data := #[48] } : ByteArray) ++ inkS p ++ { data := #[109] }) = 48 :: (inksN p ++ [109]) := by
      rw [bl_append, bl_append, inkS_bl hp, show bl ({ data := #[48] } : ByteArray) = [48] by kernel_rfl, show bl ({ data := #[109] } : ByteArray) = [109] by kernel_rfl]
      simp
    rw [e6] at l6
    have HB5 : Hid (Wk wb w w5) := HB4.out.trans (Wk.of_below b5 (by omega))
    clear e6 b5 g5
    generalize inkS p = D at *
    go_wp2_with fail
    refine l6.mono ?_
    rintro e w7 ⟨rfl, h7, b7⟩
    go_wp2_with fail
    go_end0
    refine ⟨rfl, ?_, HB5.out.trans b7⟩
    rw [HE.out]; exact h7

theorem turn_len (x : WS) (p : PenS) : (x.turn p).tx.length ≤ x.tx.length + 20 := by
  unfold WS.turn
  split
  · omega
  · have := inksN_len p
    show (x.tx ++ ([27, 91] ++ (48 :: (inksN p ++ [109])))).length ≤ _
    simp only [List.length_append, List.length_cons, List.length_nil]
    omega
theorem cell_len (x : WS) (c : CellS) : (x.cell c).tx.length ≤ x.tx.length + 24 := by
  unfold WS.cell
  split
  · omega
  · have := turn_len x c.p
    have := utfN_length c.r
    show ((x.turn c.p).tx ++ utfN c.r).length ≤ _
    rw [List.length_append]; omega
theorem place_len (x : WS) (r c : Int) : (x.place r c).tx.length ≤ x.tx.length + 8 := by
  have h1 := digN_len (r + 1)
  have h2 := digN_len (c + 1)
  show (x.tx ++ ([27, 91] ++ ((digN (r + 1) ++ (59 :: digN (c + 1))) ++ [72]))).length ≤ _
  simp only [List.length_append, List.length_cons, List.length_nil]
  omega
theorem rune_conv (r : Int) (h : ScN r) : IntKind.i32.wrap r = r := IntWalk.i32_in _ (by obtain ⟨h0, h1, _⟩ := h; omega)
set_option maxRecDepth 100000 in
theorem cell_wr (wb tb : Nat) (x : WS) (c : CellS) (hc : c.part = 2 ∨ c.Ok) (w : World) (h : WrAt w wb tb x) (hx : x.tx.length ≤ 600000000) :
    Calls Tryz.prog 231 #[.pointer (some ⟨wb, 0, none⟩), .agg (cellA c)] w fun e w' => e = .returned (.tuple #[]) ∧ WrAt w' wb tb (x.cell c) ∧ Wk wb w w' := by
  have hlt := h.lt
  have HLT : Hid (wb < w.heap.size) := hlt
  obtain ⟨W, hW⟩ : ∃ W, W = w.alloc (.cells (cellA c) 101) := ⟨_, rfl⟩
  have GW : W.heap[w.heap.size]? = some (.cells (cellV c).toArray 101 (0, 0)) := by rw [hW]; exact heap_alloc_new _ _
  have BW : Below w.heap.size w W := by rw [hW]; exact (Below.refl _ _).alloc (Nat.le_refl _) _
  have c6 : (w.alloc (.cells (cellA c) 101)).cell? ⟨w.heap.size, 6, none⟩ = some (.int .i64 c.part) := (cell_of_row _ _ _ _ _ _ (heap_alloc_new w _)).trans rfl
  have HWR : Hid (WrAt W wb tb x) := h.keep BW
  have HGW : Hid _ := GW
  have HBW : Hid _ := BW
  have HW : Hid _ := hW
  have hsW : W.heap.size = w.heap.size + 1 := by rw [hW]; simp
  have HR : Hid (W.rangeAt w.heap.size 1 (penV c.p)) := range_of GW 1 _ rfl
  clear h hW GW BW
  by_cases hp : c.part = 2
  · have e : x.cell c = x := by unfold WS.cell; rw [if_pos hp]
    have HE : Hid _ := e
    have hp' : (c.part == 2) = true := by simpa using hp
    clear e hp
    go_enter Tryz.func231, Tryz.ntmps231
    go_wp2_with fail
    rw [← HW.out]
    refine bodyPost_ret (results_none rfl _ _ _) rfl ?_
    refine ⟨rfl, ?_, Wk.of_below HBW.out (Nat.le_of_lt HLT.out)⟩
    rw [HE.out]; exact HWR.out
  · have e : x.cell c = (x.turn c.p).put (utfN c.r) := by unfold WS.cell; rw [if_neg hp]
    have HE : Hid _ := e
    have hp' : (c.part == 2) = false := by simpa using hp
    have hok : c.Ok := hc.resolve_left hp
    clear e hp hc
    have l1 := turn_wr wb tb x c.p hok.2 W HWR.out (by omega)
    have vr := rune_conv c.r hok.1
    go_enter Tryz.func231, Tryz.ntmps231
    rw [HW.out] at l1 HR
    go_wp2_with (refine wpList_load_mid rfl 80 (.tmp 8) rfl w.heap.size 1 rfl (penV c.p) _ HR.out Tryz.underlying80 rfl info47 ?_)
    refine l1.mono ?_
    rintro e w2 ⟨rfl, h2, b2⟩
    rw [← HW.out] at b2
    have g2 : w2.heap[w.heap.size]? = some (.cells (cellV c).toArray 101 (0, 0)) := b2.at HGW.out (by omega) (by decide)
    have HG2 : Hid _ := g2
    have c0 : w2.cell? ⟨w.heap.size, 0, none⟩ = some (.int .i64 c.r) := (cell_of_row _ _ _ _ _ _ g2).trans rfl
    have HWK : Hid (Wk wb w w2) := (Wk.of_below HBW.out (Nat.le_of_lt hlt)).trans b2
    have htl := turn_len x c.p
    have HH : World.cell? ({ w2 with drawn := w2.drawn + 1 } : World) ⟨w.heap.size, 0, none⟩ = some (.int .i64 c.r) := c0
    have l3 := writeRune_any wb tb (x.turn c.p) c.r hok.1 ({ w2 with drawn := w2.drawn + 1 } : World) ⟨h2.ex, h2.by8⟩ (by omega)
    clear g2 b2 h2
    go_wp2_with fail
    refine wp_region_held (S := fun y => y.cell? ⟨w.heap.size, 0, none⟩ = some (.int .i64 c.r)) mixedC ?_
    refine takeL (i := 0) (d := 11) (v := .pointer (some ⟨wb, 0, none⟩)) rfl rfl (by kernel_rfl) (by kernel_rfl) (by kernel_rfl) (fun _ _ _ h => h) (Or.inl ⟨by rfl, by intro x hSx; go_simp; try (first | rfl | go_num)⟩) HH ?_
    simp only [List.set_cons_zero, List.set_cons_succ]
    refine takeL (i := 1) (d := 12) (v := .pointer (some ⟨wb, 0, none⟩)) rfl rfl (by kernel_rfl) (by kernel_rfl) (by kernel_rfl) (fun _ _ _ h => h) (Or.inl ⟨by rfl, by intro x hSx; go_simp; try (first | rfl | go_num)⟩) HH ?_
    simp only [List.set_cons_zero, List.set_cons_succ]
    refine takeL (i := 2) (d := 13) (v := .pointer (some ⟨wb, 1, none⟩)) rfl rfl (by kernel_rfl) (by kernel_rfl) (by kernel_rfl) (fun _ _ _ h => h) (Or.inl ⟨by rfl, by intro x hSx; go_simp; try (first | rfl | go_num)⟩) HH ?_
    simp only [List.set_cons_zero, List.set_cons_succ]
    refine takeL (i := 3) (d := 14) (v := .pointer (some ⟨w.heap.size, 0, none⟩)) rfl rfl (by kernel_rfl) (by kernel_rfl) (by kernel_rfl) (fun _ _ _ h => h) (Or.inl ⟨by rfl, by intro x hSx; go_simp; try (first | rfl | go_num)⟩) HH ?_
    simp only [List.set_cons_zero, List.set_cons_succ]
    refine takeL (i := 4) (d := 15) (v := .int .i64 c.r) rfl rfl (by kernel_rfl) (by kernel_rfl) (by kernel_rfl) (fun _ _ _ h => h) (Or.inl ⟨by rfl, by intro x hSx; go_simp; try (first | rfl | go_num)⟩) HH ?_
    simp only [List.set_cons_zero, List.set_cons_succ]
    refine takeL (i := 5) (d := 16) (v := .int .i32 c.r) rfl rfl (by kernel_rfl) (by kernel_rfl) (by kernel_rfl) (fun _ _ _ h => h) (Or.inl ⟨by rfl, by intro x hSx; go_simp; try (first | rfl | go_num)⟩) HH ?_
    simp only [List.set_cons_zero, List.set_cons_succ]
    refine wpAnyH_all (rs := [6]) (by kernel_rfl) (by simp) ?_
    intro i hi'
    rw [List.mem_singleton] at hi'
    subst hi'
    refine wpOp_step rfl fun Kq hKq => ?_
    rw [if_pos (by rfl)]
    refine wp_callL (f := 241) 17 [.tmp 13, .tmp 16] #[131, 21] rfl rfl [.pointer (some ⟨wb, 1, none⟩), .int .i32 c.r] rfl (by kernel_rfl) (fun v w' => WrAt w' wb tb ((x.turn c.p).put (utfN c.r)) ∧ Wk wb ({ w2 with drawn := w2.drawn + 1 } : World) w') (l3.mono fun e w' h => by
      obtain ⟨⟨v, hv⟩, h1, h2⟩ := h
      exact ⟨v, hv, h1, h2⟩) ?_
    rintro v4 w4 ⟨h4, k4⟩
    have g4 : w4.heap[w.heap.size]? = some (.cells (cellV c).toArray 101 (0, 0)) := k4.at HG2.out (by omega) (by decide)
    refine hKq _ _ ⟨(cell_of_row _ _ _ _ _ _ g4).trans rfl, ?_⟩
    clear hKq
    refine wpAnyH_done (by kernel_rfl) ?_ _
    have HF : Hid (WrAt w4 wb tb ((x.turn c.p).put (utfN c.r)) ∧ Wk wb w w4) := ⟨h4, HWK.out.trans ⟨⟨k4.b.os, k4.b.tape, k4.b.output, k4.b.size, k4.b.block⟩, k4.n⟩⟩
    clear h4 k4 g4 l3 HH
    go_wp2_with fail
    go_end0
    exact ⟨rfl, by rw [HE.out]; exact HF.out.1, HF.out.2⟩
end Go.Proofs.YtheibfffilomcaaGreatDoor

/- The walk of runs: a row's cells that are not blank. -/
namespace Go.Proofs.YtheibfffilomcaaGreatDoor
open Go.RowKit

/-- A writer and the terminal that it writes of. -/
structure Wr (w : World) (wb : Nat) (L : Lay) (s : TS) (x : WS) : Prop where
  wr : WrAt w wb L.tb x
  te : TAt w L s
  lo : ∀ k, L.own k → k < wb
theorem Wr.step {w w' : World} {wb : Nat} {L : Lay} {s : TS} {x x' : WS} (h : Wr w wb L s x) (k : Wk wb w w') (hw : WrAt w' wb L.tb x') : Wr w' wb L s x' :=
  ⟨hw, h.te.kept (P := fun k => wb ≤ k) ⟨k.b.os, k.b.tape, k.b.output, k.b.size, fun i _ hn => k.b.block i (by omega)⟩ (fun i hi hn => by have := h.lo i hi; omega), h.lo⟩
theorem Wr.keep {w w' : World} {wb : Nat} {L : Lay} {s : TS} {x : WS} (h : Wr w wb L s x) (c : Below w.heap.size w w') : Wr w' wb L s x := ⟨h.wr.keep c, h.te.sm (Ch.of_below c), h.lo⟩
theorem Sm.bel {w w' : World} (h : Sm w w') : Below w.heap.size w w' := h.below (Nat.le_refl _) (fun _ _ h => h)
theorem Wr.c0 {w : World} {wb : Nat} {L : Lay} {s : TS} {x : WS} (h : Wr w wb L s x) : w.cell? ⟨wb, 0, none⟩ = some (.pointer (some ⟨L.tb, 0, none⟩)) := by
  obtain ⟨p, v, h1, _⟩ := h.wr.ex
  exact (cell_of_row _ _ _ _ _ _ h1).trans rfl
theorem Wr.lt {w : World} {wb : Nat} {L : Lay} {s : TS} {x : WS} (h : Wr w wb L s x) : wb < w.heap.size := h.wr.lt
theorem Wr.drew {w : World} {wb : Nat} {L : Lay} {s : TS} {x : WS} (h : Wr w wb L s x) (n : Nat) : Wr (w.drewN n) wb L s x := h.keep ⟨rfl, rfl, rfl, Nat.le_refl _, fun _ _ => rfl⟩
theorem BsAt.keep2 {w w' : World} {base : Nat} {v : Value} {L : List Int} (h : BsAt w base v L) (hb : ∀ k, v.ownBlock = some k → w'.heap[k]? = w.heap[k]?) : BsAt w' base v L := by
  obtain ⟨h1, h2⟩ := h
  refine ⟨h1, ?_⟩
  rcases h2 with h2 | ⟨g, cap, cur, hv, hg, hk, r⟩
  · exact .inl h2
  · exact .inr ⟨g, cap, cur, hv, hg, (hb g (by rw [hv]; rfl)).trans hk, r⟩
/-- A block that is no row of bytes and lies above the writer is written. -/
theorem Wr.set {w w' : World} {wb : Nat} {L : Lay} {s : TS} {x : WS} {g : Nat} {cs : Array Value} {t : TypeId} {fr : Nat × Nat} (h : Wr w wb L s x) (k : Ch (· = g) w w') (hg : w.heap[g]? = some (.cells cs t fr)) (ht : t ≠ 5) (hgw : wb < g) : Wr w' wb L s x := by
  obtain ⟨p, v, q1, q2, q3⟩ := h.wr.ex
  refine ⟨⟨⟨p, v, (k.block wb (blk_lt q1) (by omega)).trans q1, q2, q3.keep2 (fun i hi => ?_)⟩, h.wr.by8⟩, h.te.kept k (fun i hi e => by have := h.lo i hi; omega), h.lo⟩
  obtain ⟨cur, hc⟩ := q3.nb hi
  refine k.block i (blk_lt hc) (fun e => ?_)
  subst e
  rw [hg] at hc
  injection hc with e
  injection e with _ e2 _
  exact ht e2
theorem run_neqC {o : Oper} {a : Act} (x y : Operand) (ho : o.op = .binOp .neq 101 x y 101) (c d : CellS) (hx : a.eval x = .agg (cellA c)) (hy : a.eval y = .agg (cellA d)) (w : World) : (execOp a.eval o).run Tryz.prog w = .ok (.value (.bool (!decide (c = d)))) w := by
  unfold execOp
  simp only [ho, hx, hy, Sem.run_bind, guardC, neqC, Result.andThen_ok, Sem.run_pure]
theorem run1_len (x : WS) (r : Int) (k : Nat) (b c : CellS) : (x.run1 r k b c).tx.length ≤ x.tx.length + 32 := by
  unfold WS.run1
  split
  · omega
  · split
    · have := cell_len (x.place r k) c
      have := place_len x r k
      omega
    · have := cell_len x c
      omega
theorem runs_snoc (r : Int) : ∀ (l : List CellS) (x : WS) (k : Nat) (b : CellS), WS.runs r x k b l = match l with | [] => x | c :: l => WS.runs r (x.run1 r k b c) (k + 1) c l := by
  intro l x k b; cases l <;> rfl
theorem runs_len (r : Int) : ∀ (l : List CellS) (x : WS) (k : Nat) (b : CellS), (WS.runs r x k b l).tx.length ≤ x.tx.length + 32 * l.length := by
  intro l
  induction l with
  | nil => intro x k b; exact Nat.le_add_right _ _
  | cons c l ih =>
    intro x k b
    have h1 := ih (x.run1 r k b c) (k + 1) c
    have h2 := run1_len x r k b c
    show (WS.runs r (x.run1 r k b c) (k + 1) c l).tx.length ≤ _
    simp only [List.length_cons]
    omega

set_option maxRecDepth 100000 in
set_option maxHeartbeats 4000000 in
theorem runs_wr (wb : Nat) (L : Lay) (s : TS) (hI : s.Inv) (n i : Nat) (hn : n < 2) (hi : i < s.rows) (R : List CellS) (hR : R = (if n = 0 then s.s0 else s.s1).getD i []) (hRl : R.length = s.cols) (hRo : ∀ c ∈ R, c.part = 2 ∨ c.Ok) (x : WS) (w : World) (h : Wr w wb L s x) (hx : x.tx.length ≤ 400000000) :
    Calls Tryz.prog 202 #[.pointer (some ⟨wb, 0, none⟩), .int .i64 (n : Int), .int .i64 (i : Int)] w fun e w' => e = .returned (.tuple #[]) ∧ WrAt w' wb L.tb (WS.runs i x 0 blankS R) ∧ Wk wb w w' := by
  have c0 := h.c0
  have hlt := h.lt
  have l1 := size_any L s w h.te hI
  have l2 := blank_any w
  have hc2 := hI.c2
  have hr2 := hI.r2
  have HWr : Hid _ := h
  have HI : Hid _ := hI
  have HR : Hid _ := hR
  clear h hI hR
  go_enter Tryz.func202, Tryz.ntmps202
  go_wp2_with (go_at_call 147; refine l1.mono ?_; rintro e w1 ⟨rfl, hw1⟩; have hw2 := hw1.symm; subst hw2)
  refine l2.mono ?_
  rintro e w1 ⟨rfl, b1⟩
  go_wp2_with (refine wp_blkset _ rfl 101 (.tmp 8) (.tmp 19) rfl w1.heap.size (cellV zeroC) (cellV blankS) rfl _ rfl rfl 101 (heap_alloc_new _ _) rfl info49 (cellV_one _) ?_)
  intro y1 g1 k1 z1
  have B1 : Below w.heap.size w y1 := by
    have b2 := b1.alloc b1.size (.cells (cellA zeroC) 101)
    exact b2.trans (k1.below (by simp; have := b1.size; omega) (fun k hk e => by have := b1.size; omega))
  have hbw : w.heap.size ≤ w1.heap.size := b1.size
  obtain ⟨bB, hbB⟩ : ∃ bB, bB = w1.heap.size := ⟨_, rfl⟩
  rw [← hbB]
  rw [← hbB] at g1
  have hwb : wb < bB := by omega
  have hbB0 : w.heap.size ≤ bB := by omega
  have HG : Hid _ := g1
  have HB1 : Hid _ := B1
  clear g1 k1 z1 b1 hbB B1 l1 l2 c0
  go_wp2_with fail
  go_loopw [21] (fun j wr => ∃ (k : Nat) (x' : WS) (bf : CellS), k ≤ s.cols ∧ j = .int .i64 k ∧ Hid (Wr wr wb L s x') ∧ Hid (wr.heap[bB]? = some (.cells (cellV bf).toArray 101 (0, 0))) ∧ Hid (WS.runs i x 0 blankS R = WS.runs i x' k bf (R.drop k)) ∧ x'.tx.length ≤ x.tx.length + 32 * k ∧ Hid (Wk wb w wr)) (fun j _ => s.cols - (intOf j).toNat)
  case atStart => exact ⟨0, x, blankS, Nat.zero_le _, rfl, HWr.out.keep HB1.out, HG.out, rfl, Nat.le_refl _, Wk.of_below HB1.out (Nat.le_of_lt hlt)⟩
  case round =>
    clear HG HB1
    obtain ⟨k, x', bf, hk, rfl, HX, HG, HE, hxl, HK⟩ := hrel
    by_cases hkc : k < s.cols
    · have ikc : (k : Int) < (s.cols : Int) := by omega
      have vk : IntKind.i64.wrap ((k : Int) + 1) = (k : Int) + 1 := IntWalk.i64_in _ (by omega)
      have c0 := HX.out.c0
      have hwl := HX.out.lt
      have l3 := tcell_any L s n i k hn hi hkc wr HX.out.te HI.out
      have hRk : R[k]? = some (s.cellAt n i k) := by
        have : k < R.length := by omega
        unfold TS.cellAt
        rw [← HR.out]
        simp [List.getD, List.getElem?_eq_getElem this]
      generalize s.cellAt n i k = c at *
      have HRk : Hid _ := hRk
      have hcO : c.part = 2 ∨ c.Ok := hRo c (List.mem_of_getElem? hRk)
      have HCO : Hid _ := hcO
      clear hRk hcO
      go_wp2_with fail
      refine l3.mono ?_
      rintro e x1 ⟨rfl, q1⟩
      go_wp2_with (refine wp_blkset _ rfl 101 (.tmp 10) (.tmp 31) rfl x1.heap.size (cellV zeroC) (cellV c) rfl _ rfl rfl 101 (heap_alloc_new _ _) rfl info49 (cellV_one _) ?_)
      intro y2 g2 k2 z2
      have B2 : Below wr.heap.size wr y2 := (q1.bel.alloc q1.size (.cells (cellA zeroC) 101)).trans (k2.below (by have := q1.size; simp; omega) (fun k hk e => by have := q1.size; omega))
      have hq1 : wr.heap.size ≤ x1.heap.size := q1.size
      have HXy2 : Hid (Wr y2 wb L s x') := HX.out.keep B2
      have HGy2 : Hid (y2.heap[bB]? = some (.cells (cellV bf).toArray 101 (0, 0))) := (B2.block bB (blk_lt HG.out)).trans HG.out
      have HCy2 : Hid (y2.heap[x1.heap.size]? = some (.cells (cellV c).toArray 101 (0, 0))) := g2
      have HKy2 : Hid (Wk wb w y2) := HK.out.trans (Wk.of_below B2 (Nat.le_of_lt hwl))
      have hbl := blk_lt HG.out
      obtain ⟨bC, hbC⟩ : ∃ bC, bC = x1.heap.size := ⟨_, rfl⟩
      rw [← hbC]
      rw [← hbC] at HCy2
      have hBC : bB < bC := by omega
      have hwC : wb < bC := by omega
      clear g2 k2 z2 B2 q1 HX HG HK l3 hbC
      go_wp2_with fail
      have HS6 : World.rangeAt ({ y2 with drawn := y2.drawn + 1 } : World) bC 0 (cellV c) := range_of (w := ({ y2 with drawn := y2.drawn + 1 } : World)) HCy2.out 0 _ rfl
      refine wp_region_held (S := fun y => y.rangeAt bC 0 (cellV c)) mixedC ?_
      refine takeL (i := 0) (d := 32) (v := .agg (cellA c)) rfl rfl (by kernel_rfl) (by kernel_rfl) (by kernel_rfl) (fun _ _ _ h => h) (yieldsIf_load_mid (by rfl) 101 (.tmp 10) rfl bC 0 rfl (cellV c) _ (fun y h => h) Tryz.underlying101 rfl (by rw [cellV_length]; exact info49)) HS6 ?_
      simp only [List.set_cons_zero, List.set_cons_succ]
      refine wpAnyH_all (rs := [1]) (by kernel_rfl) (by simp) ?_
      intro i' hi'
      rw [List.mem_singleton] at hi'
      subst hi'
      refine wpOp_step rfl fun Kq hKq => ?_
      rw [if_pos (by rfl)]
      refine wp_callL (f := 204) 33 [] #[] rfl rfl [] rfl (by kernel_rfl) (fun v w' => v = .agg (cellA blankS) ∧ Below y2.heap.size y2 w') ((blank_any _).mono fun e w' h => ⟨_, h.1, rfl, ⟨h.2.os, h.2.tape, h.2.output, h.2.size, h.2.block⟩⟩) ?_
      rintro v4 y3 ⟨rfl, b3⟩
      have HXy3 : Hid (Wr y3 wb L s x') := HXy2.out.keep b3
      have HGy3 : Hid (y3.heap[bB]? = some (.cells (cellV bf).toArray 101 (0, 0))) := (b3.block bB (blk_lt HGy2.out)).trans HGy2.out
      have HCy3 : Hid (y3.heap[bC]? = some (.cells (cellV c).toArray 101 (0, 0))) := (b3.block bC (blk_lt HCy2.out)).trans HCy2.out
      have HKy3 : Hid (Wk wb w y3) := HKy2.out.trans (Wk.of_below b3 (Nat.le_of_lt HXy2.out.lt))
      have HT6 := range_of HCy3.out 0 (cellV c) rfl
      refine hKq _ _ ⟨HT6, ?_⟩
      clear hKq
      simp only [List.set_cons_zero, List.set_cons_succ]
      refine takeL (i := 2) (d := 34) (v := .bool (!decide (c = blankS))) rfl rfl (by kernel_rfl) (by kernel_rfl) (by kernel_rfl) (fun _ _ _ h => h) (Or.inl ⟨by rfl, fun y _ => run_neqC (.tmp 32) (.tmp 33) rfl c blankS rfl rfl y⟩) HT6 ?_
      simp only [List.set_cons_zero, List.set_cons_succ]
      refine wpAnyH_done (by kernel_rfl) ?_ _
      clear HS6 HT6 b3 HXy2 HGy2 HCy2 HKy2
      by_cases hcb : c = blankS
      · rw [decide_eq_true hcb]
        have e1 : x'.run1 i k bf c = x' := by unfold WS.run1; rw [if_pos hcb]
        rw [← e1] at HXy3
        have HE1 : Hid _ := e1
        clear e1 hcb
        go_wp2_with (first | (refine wpList_load_row rfl 101 (.tmp 10) rfl bC rfl 101 _ (0, 0) _ HCy3.out Tryz.underlying101 rfl info49 ?_) | (refine wp_blkset _ rfl 101 (.tmp 8) (.tmp 45) rfl bB (cellV bf) (cellV c) rfl _ rfl rfl 101 HGy3.out rfl info49 (cellV_one _) ?_))
        intro y9 g9 k9 z9
        have HX9 : Hid (Wr y9 wb L s (x'.run1 i k bf c)) := HXy3.out.set k9 HGy3.out (by decide) hwb
        have HG9 : Hid _ := g9
        have HK9 : Hid (Wk wb w y9) := ⟨HKy3.out.b.trans ⟨k9.os, k9.tape, k9.output, k9.size, fun k hk => k9.block k (by have := HXy3.out.lt; omega) (by omega)⟩, fun k hk hn hb => (k9.block k (by have := HKy3.out.b.size; omega) (by omega)).trans (HKy3.out.n k hk hn hb)⟩
        have HE9 : Hid (WS.runs i x 0 blankS R = WS.runs i (x'.run1 i k bf c) (k + 1) c (R.drop (k + 1))) := HE.out.trans (by
          have hd : R.drop k = c :: R.drop (k + 1) := by
            obtain ⟨hl, e⟩ := List.getElem?_eq_some_iff.1 HRk.out
            rw [List.drop_eq_getElem_cons hl, e]
          rw [hd]; rfl)
        have hlen := run1_len x' i k bf c
        clear g9 k9 z9
        go_wp2_with fail
        go_roundw
        case rel => exact ⟨k + 1, x'.run1 i k bf c, c, by omega, by go_num, HX9, HG9, HE9, by omega, HK9⟩
        case measure => simp [intOf]; omega
      · rw [decide_eq_false hcb]
        have HNB : Hid _ := hcb
        clear hcb
        go_wp2_with fail
        have HS7 : World.rangeAt ({ y3 with drawn := y3.drawn + 1 } : World) bB 0 (cellV bf) := range_of (w := ({ y3 with drawn := y3.drawn + 1 } : World)) HGy3.out 0 _ rfl
        refine wp_region_held (S := fun y => y.rangeAt bB 0 (cellV bf)) mixedC ?_
        refine takeL (i := 0) (d := 35) (v := .agg (cellA bf)) rfl rfl (by kernel_rfl) (by kernel_rfl) (by kernel_rfl) (fun _ _ _ h => h) (yieldsIf_load_mid (by rfl) 101 (.tmp 8) rfl bB 0 rfl (cellV bf) _ (fun y h => h) Tryz.underlying101 rfl (by rw [cellV_length]; exact info49)) HS7 ?_
        simp only [List.set_cons_zero, List.set_cons_succ]
        refine wpAnyH_all (rs := [1]) (by kernel_rfl) (by simp) ?_
        intro i' hi'
        rw [List.mem_singleton] at hi'
        subst hi'
        refine wpOp_step rfl fun Kq hKq => ?_
        rw [if_pos (by rfl)]
        refine wp_callL (f := 204) 36 [] #[] rfl rfl [] rfl (by kernel_rfl) (fun v w' => v = .agg (cellA blankS) ∧ Below y3.heap.size y3 w') ((blank_any _).mono fun e w' h => ⟨_, h.1, rfl, ⟨h.2.os, h.2.tape, h.2.output, h.2.size, h.2.block⟩⟩) ?_
        rintro v4 y5 ⟨rfl, b3⟩
        have HXy5 : Hid (Wr y5 wb L s x') := HXy3.out.keep b3
        have HGy5 : Hid (y5.heap[bB]? = some (.cells (cellV bf).toArray 101 (0, 0))) := (b3.block bB (blk_lt HGy3.out)).trans HGy3.out
        have HCy5 : Hid (y5.heap[bC]? = some (.cells (cellV c).toArray 101 (0, 0))) := (b3.block bC (blk_lt HCy3.out)).trans HCy3.out
        have HKy5 : Hid (Wk wb w y5) := HKy3.out.trans (Wk.of_below b3 (Nat.le_of_lt HXy3.out.lt))
        have HT7 := range_of HGy5.out 0 (cellV bf) rfl
        refine hKq _ _ ⟨HT7, ?_⟩
        clear hKq
        simp only [List.set_cons_zero, List.set_cons_succ]
        refine takeL (i := 2) (d := 37) (v := .bool (decide (bf = blankS))) rfl rfl (by kernel_rfl) (by kernel_rfl) (by kernel_rfl) (fun _ _ _ h => h) (Or.inl ⟨by rfl, fun y _ => run_eqlC (.tmp 35) (.tmp 36) rfl bf blankS rfl rfl y⟩) HT7 ?_
        simp only [List.set_cons_zero, List.set_cons_succ]
        refine wpAnyH_done (by kernel_rfl) ?_ _
        clear HS7 HT7 b3 HXy3 HGy3 HCy3 HKy3
        by_cases hbb : bf = blankS
        · rw [decide_eq_true hbb]
          have l6 := place_wr wb L.tb x' i k (by omega) (by omega) y5 HXy5.out.wr (by omega)
          have e1 : x'.run1 i k bf c = (x'.place i k).cell c := by unfold WS.run1; rw [if_neg HNB.out, if_pos hbb]
          have HE1 : Hid _ := e1
          have hpl := place_len x' i k
          clear e1 hbb
          go_wp2_with fail
          refine l6.mono ?_
          rintro e y6 ⟨rfl, h6, k6⟩
          have HXp : Hid (Wr y6 wb L s (x'.place i k)) := HXy5.out.step k6 h6
          have HGy6 : Hid _ := k6.at HGy5.out (by omega) (by decide)
          have HCy6 : Hid _ := k6.at HCy5.out (by omega) (by decide)
          have HKy6 : Hid _ := HKy5.out.trans k6
          have l7 := cell_wr wb L.tb (x'.place i k) c HCO.out y6 h6 (by omega)
          clear l6 h6 k6 HXy5 HGy5 HCy5 HKy5
          go_wp2_with (refine wpList_load_row rfl 101 (.tmp 10) rfl bC rfl 101 _ (0, 0) _ HCy6.out Tryz.underlying101 rfl info49 ?_)
          refine l7.mono ?_
          rintro e y7 ⟨rfl, h7, k7⟩
          rw [← HE1.out] at h7
          have HXy7 : Hid (Wr y7 wb L s (x'.run1 i k bf c)) := HXp.out.step k7 h7
          have HGy7 : Hid (y7.heap[bB]? = some (.cells (cellV bf).toArray 101 (0, 0))) := k7.at HGy6.out (by omega) (by decide)
          have HCy7 : Hid (y7.heap[bC]? = some (.cells (cellV c).toArray 101 (0, 0))) := k7.at HCy6.out (by omega) (by decide)
          have HKy7 : Hid (Wk wb w y7) := HKy6.out.trans k7
          clear l7 h7 k7 HXp HGy6 HCy6 HKy6
          go_wp2_with (first | (refine wpList_load_row rfl 101 (.tmp 10) rfl bC rfl 101 _ (0, 0) _ HCy7.out Tryz.underlying101 rfl info49 ?_) | (refine wp_blkset _ rfl 101 (.tmp 8) (.tmp 45) rfl bB (cellV bf) (cellV c) rfl _ rfl rfl 101 HGy7.out rfl info49 (cellV_one _) ?_))
          intro y9 g9 k9 z9
          have HX9 : Hid (Wr y9 wb L s (x'.run1 i k bf c)) := HXy7.out.set k9 HGy7.out (by decide) hwb
          have HG9 : Hid _ := g9
          have HK9 : Hid (Wk wb w y9) := ⟨HKy7.out.b.trans ⟨k9.os, k9.tape, k9.output, k9.size, fun k hk => k9.block k (by have := HXy7.out.lt; omega) (by omega)⟩, fun k hk hn hb => (k9.block k (by have := HKy7.out.b.size; omega) (by omega)).trans (HKy7.out.n k hk hn hb)⟩
          have HE9 : Hid (WS.runs i x 0 blankS R = WS.runs i (x'.run1 i k bf c) (k + 1) c (R.drop (k + 1))) := HE.out.trans (by
            have hd : R.drop k = c :: R.drop (k + 1) := by
              obtain ⟨hl, e⟩ := List.getElem?_eq_some_iff.1 HRk.out
              rw [List.drop_eq_getElem_cons hl, e]
            rw [hd]; rfl)
          have hlen := run1_len x' i k bf c
          clear g9 k9 z9
          go_wp2_with fail
          go_roundw
          case rel => exact ⟨k + 1, x'.run1 i k bf c, c, by omega, by go_num, HX9, HG9, HE9, by omega, HK9⟩
          case measure => simp [intOf]; omega
        · rw [decide_eq_false hbb]
          have e1 : x'.run1 i k bf c = x'.cell c := by unfold WS.run1; rw [if_neg HNB.out, if_neg hbb]
          have HE1 : Hid _ := e1
          have l7 := cell_wr wb L.tb x' c HCO.out y5 HXy5.out.wr (by omega)
          clear e1 hbb
          go_wp2_with (refine wpList_load_row rfl 101 (.tmp 10) rfl bC rfl 101 _ (0, 0) _ HCy5.out Tryz.underlying101 rfl info49 ?_)
          refine l7.mono ?_
          rintro e y7 ⟨rfl, h7, k7⟩
          rw [← HE1.out] at h7
          have HXy7 : Hid (Wr y7 wb L s (x'.run1 i k bf c)) := HXy5.out.step k7 h7
          have HGy7 : Hid (y7.heap[bB]? = some (.cells (cellV bf).toArray 101 (0, 0))) := k7.at HGy5.out (by omega) (by decide)
          have HCy7 : Hid (y7.heap[bC]? = some (.cells (cellV c).toArray 101 (0, 0))) := k7.at HCy5.out (by omega) (by decide)
          have HKy7 : Hid (Wk wb w y7) := HKy5.out.trans k7
          clear l7 h7 k7 HXy5 HGy5 HCy5 HKy5
          go_wp2_with (first | (refine wpList_load_row rfl 101 (.tmp 10) rfl bC rfl 101 _ (0, 0) _ HCy7.out Tryz.underlying101 rfl info49 ?_) | (refine wp_blkset _ rfl 101 (.tmp 8) (.tmp 45) rfl bB (cellV bf) (cellV c) rfl _ rfl rfl 101 HGy7.out rfl info49 (cellV_one _) ?_))
          intro y9 g9 k9 z9
          have HX9 : Hid (Wr y9 wb L s (x'.run1 i k bf c)) := HXy7.out.set k9 HGy7.out (by decide) hwb
          have HG9 : Hid _ := g9
          have HK9 : Hid (Wk wb w y9) := ⟨HKy7.out.b.trans ⟨k9.os, k9.tape, k9.output, k9.size, fun k hk => k9.block k (by have := HXy7.out.lt; omega) (by omega)⟩, fun k hk hn hb => (k9.block k (by have := HKy7.out.b.size; omega) (by omega)).trans (HKy7.out.n k hk hn hb)⟩
          have HE9 : Hid (WS.runs i x 0 blankS R = WS.runs i (x'.run1 i k bf c) (k + 1) c (R.drop (k + 1))) := HE.out.trans (by
            have hd : R.drop k = c :: R.drop (k + 1) := by
              obtain ⟨hl, e⟩ := List.getElem?_eq_some_iff.1 HRk.out
              rw [List.drop_eq_getElem_cons hl, e]
            rw [hd]; rfl)
          have hlen := run1_len x' i k bf c
          clear g9 k9 z9
          go_wp2_with fail
          go_roundw
          case rel => exact ⟨k + 1, x'.run1 i k bf c, c, by omega, by go_num, HX9, HG9, HE9, by omega, HK9⟩
          case measure => simp [intOf]; omega
    · have ikc : ¬ (k : Int) < (s.cols : Int) := by omega
      have HFE : Hid (WS.runs i x 0 blankS R = x') := HE.out.trans (by rw [List.drop_eq_nil_of_le (by omega)]; rfl)
      go_wp2_with fail
      go_end0
      exact ⟨rfl, by rw [HFE.out]; exact HX.out.wr, HK.out⟩
end Go.Proofs.YtheibfffilomcaaGreatDoor

