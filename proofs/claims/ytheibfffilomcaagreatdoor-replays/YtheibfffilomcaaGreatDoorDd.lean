/- Walks of package cells: NewRow, NewSheet. -/
import Derived.Test.YtheibfffilomcaaGreatDoorDc
namespace Go.Proofs.YtheibfffilomcaaGreatDoor
open Go.RowKit

def zeroC : CellS := ⟨0, pen0, 0⟩
theorem made_row (n : Nat) : madeCells (cellA zeroC) (n * 7) = rowA (List.replicate n zeroC) := by
  apply Array.ext_getElem?
  intro i
  have hr : (rowA (List.replicate n zeroC))[i]? = (rowV (List.replicate n zeroC))[i]? := by simp [rowA]
  rw [hr, rowV_get, List.getElem?_replicate]
  by_cases h : i < n * 7
  · rw [if_pos (by omega)]
    simp only [madeCells, Array.getElem?_map, Array.getElem?_range, if_pos h, Option.map_some, Option.bind_some, cellA_size]
    have : i % 7 < 7 := Nat.mod_lt _ (by omega)
    rcases (show i % 7 = 0 ∨ i % 7 = 1 ∨ i % 7 = 2 ∨ i % 7 = 3 ∨ i % 7 = 4 ∨ i % 7 = 5 ∨ i % 7 = 6 by omega) with e | e | e | e | e | e | e <;> rw [e] <;> rfl
  · rw [if_neg (by omega)]
    rw [Array.getElem?_eq_none (by rw [size_madeCells]; omega)]
    rfl
theorem info49z : (Tryz.prog.info? 101).map (fun i => (i.zero, i.size, i.bytes)) = some (some (.agg (cellA zeroC)), 7, 40) := by kernel_rfl
theorem info109 : (Tryz.prog.info? 166).map (fun i => (i.zero, i.size, i.bytes)) = some (some (.slice none 0 0), 1, 24) := by kernel_rfl
theorem info4z : (Tryz.prog.info? 4).map (fun i => (i.zero, i.size, i.bytes)) = some (some (.bool false), 1, 1) := by kernel_rfl

theorem wp_mkrow {ops : Array Oper} {rest : List Oper} {o : Oper} {a : Act} {Q : Exit → Act → World → Prop} (w : World) (hgd : o.guard = none) (x y : Operand) (ho : o.op = .makeSlice 166 x y) (n : Nat) (hx : a.eval x = .int .i64 (n : Int)) (hy : a.eval y = .int .i64 (n : Int)) (hn : n ≤ 100)
    (h : ∀ w', RowAt w' w.heap.size (List.replicate n zeroC) → Below w.heap.size w w' → w'.heap.size = w.heap.size + 1 → wpList Tryz.prog ops Q rest (a.put o.dst (.slice (some ⟨w.heap.size, 0, none⟩) n n)) w') : wpList Tryz.prog ops Q (o :: rest) a w := by
  obtain ⟨i0, hi, hz0, hz1, hz2⟩ := info_parts info49z
  have hrun := run_make (P := Tryz.prog) w 166 101 i0 _ Tryz.underlying166 hi hz0 .i64 .i64 (n : Int) (n : Int) (by omega) (by omega) (by rw [hz2]; omega) (by omega)
  refine wpList_plain hgd fun K hK => ?_
  have R := hK _ _ (h (w.alloc (.cells (rowA (List.replicate n zeroC)) 101)) (heap_alloc_new _ _) ((Below.refl _ _).alloc (Nat.le_refl _) _) (by simp))
  rw [show ((n : Int)).toNat = n by omega, hz1, show (Value.agg (cellA zeroC)).cells = cellA zeroC from rfl, made_row] at hrun
  unfold Oper.wp
  simp [execOp, ho, hx, hy, hrun, Result.andThen, Oper.upon_value]
  exact R
/-- A block of n like values. -/
theorem wp_mkone {ops : Array Oper} {rest : List Oper} {o : Oper} {a : Act} {Q : Exit → Act → World → Prop} (w : World) (hgd : o.guard = none) (t e : TypeId) (z : Value) (b : Nat) (hu : Tryz.prog.underlying t = some (.slice e)) (hinf : (Tryz.prog.info? e).map (fun i => (i.zero, i.size, i.bytes)) = some (some z, 1, b)) (hb : b ≤ 1000) (hzc : z.cells = #[z])
    (x y : Operand) (ho : o.op = .makeSlice t x y) (n : Nat) (hx : a.eval x = .int .i64 (n : Int)) (hy : a.eval y = .int .i64 (n : Int)) (hn : n ≤ 100)
    (h : ∀ w', w'.heap[w.heap.size]? = some (.cells (List.replicate n z).toArray e (0, 0)) → Below w.heap.size w w' → w'.heap.size = w.heap.size + 1 → wpList Tryz.prog ops Q rest (a.put o.dst (.slice (some ⟨w.heap.size, 0, none⟩) n n)) w') : wpList Tryz.prog ops Q (o :: rest) a w := by
  obtain ⟨i0, hi, hz0, hz1, hz2⟩ := info_parts hinf
  have hbn : b * n ≤ 1000 * 100 := Nat.mul_le_mul hb hn
  have hrun := run_make (P := Tryz.prog) w t e i0 z hu hi hz0 .i64 .i64 (n : Int) (n : Int) (by omega) (by omega) (by rw [hz2]; have : ((b * n : Nat) : Int) ≤ 100000 := by omega
                                                                                                                      rw [Int.natCast_mul] at this; omega) (by omega)
  have hm : madeCells #[z] n = (List.replicate n z).toArray := by
    apply Array.ext_getElem?
    intro i
    by_cases h : i < n
    · simp [madeCells, h, Nat.mod_one]
    · rw [Array.getElem?_eq_none (by rw [size_madeCells]; omega), Array.getElem?_eq_none (by simp; omega)]
  refine wpList_plain hgd fun K hK => ?_
  have R := hK _ _ (h (w.alloc (.cells (List.replicate n z).toArray e)) (heap_alloc_new _ _) ((Below.refl _ _).alloc (Nat.le_refl _) _) (by simp))
  rw [show ((n : Int)).toNat = n by omega, hz1, hzc, Nat.mul_one, hm] at hrun
  unfold Oper.wp
  simp [execOp, ho, hx, hy, hrun, Result.andThen, Oper.upon_value]
  simpa using R

theorem newrow_any (cols : Nat) (w : World) (hc : cols ≤ 100) : Calls Tryz.prog 228 #[.int .i64 (cols : Int)] w fun e w' => ∃ g, e = .returned (.slice (some ⟨g, 0, none⟩) cols cols) ∧ w.heap.size ≤ g ∧ g < w'.heap.size ∧ RowAt w' g (blankR cols) ∧ Below w.heap.size w w' := by
  go_enter Tryz.func228, Tryz.ntmps228
  go_wp2_with (first | (refine wp_mkrow _ rfl (.tmp 4) (.tmp 4) rfl cols rfl rfl hc ?_; intro w1 h1 b1 z1) | (go_at_call 168; refine (wipe_any w.heap.size 0 0 cols _ _ _ rfl h1 (by simp) (by simp; omega)).mono ?_; rintro e w2 ⟨rfl, h2, c2⟩))
  go_ret
  rw [wipe_all _ _ (by simp)] at h2
  exact ⟨w.heap.size, rfl, Nat.le_refl _, h2.lt, h2, b1.trans (c2.below (by omega) (fun k hk e => by omega))⟩

theorem sheet_step (cols n k g : Nat) (gs : List Nat) (hk : gs.length = k) (hlt : k < n) : (shV cols gs ++ List.replicate (n - k) (Value.slice none 0 0)).set k (.slice (some ⟨g, 0, none⟩) cols cols) = shV cols (gs ++ [g]) ++ List.replicate (n - (k + 1)) (Value.slice none 0 0) := by
  rw [List.set_append_right _ _ (by simp [shV]; omega), show k - (shV cols gs).length = 0 by simp [shV]; omega, show n - k = (n - (k + 1)) + 1 by omega, List.replicate_succ, List.set_cons_zero]
  simp [shV, rowSl]

theorem newsheet_any (n cols : Nat) (w : World) (hn : n ≤ 100) (hc : cols ≤ 100) : Calls Tryz.prog 160 #[.int .i64 (n : Int), .int .i64 (cols : Int)] w fun e w' => ∃ sb gs, e = .returned (.slice (some ⟨sb, 0, none⟩) n n) ∧ w.heap.size ≤ sb ∧ (∀ g ∈ gs, w.heap.size ≤ g) ∧ ShAt w' sb gs cols (List.replicate n (blankR cols)) ∧ Below w.heap.size w w' := by
  go_enter Tryz.func160, Tryz.ntmps160
  go_wp2_with (refine wp_mkone _ rfl 158 166 _ 24 Tryz.underlying158 info109 (by omega) rfl (.tmp 7) (.tmp 7) rfl n rfl rfl hn ?_; intro w1 h1 b1 z1)
  go_loopw [11] (fun i wr => ∃ (k : Nat) (gs : List Nat), k ≤ n ∧ gs.length = k ∧ i = .int .i64 k ∧ wr.heap[w.heap.size]? = some (.cells (shV cols gs ++ List.replicate (n - k) (Value.slice none 0 0)).toArray 166 (0, 0)) ∧ (∀ g ∈ gs, w.heap.size < g ∧ RowAt wr g (blankR cols)) ∧ gs.Nodup ∧ Below w.heap.size w wr) (fun i _ => n - (intOf i).toNat)
  case atStart => exact ⟨0, [], Nat.zero_le _, rfl, rfl, by simpa [shV] using h1, by simp, by simp, b1⟩
  case round =>
    obtain ⟨k, gs, hk, hgk, rfl, hb, hrows, hnd, hbel⟩ := hrel
    by_cases hlt : k < n
    · have ik : (k : Int) < (n : Int) := by omega
      have HB : Hid _ := hb
      have HW : Hid (∀ g ∈ gs, w.heap.size < g ∧ RowAt wr g (blankR cols)) := hrows
      have HN : Hid _ := hnd
      have HL : Hid (Below w.heap.size w wr) := hbel
      have hsz := hbel.size
      have hslt : w.heap.size < wr.heap.size := by
        by_cases hl : w.heap.size < wr.heap.size
        · exact hl
        · rw [Array.getElem?_eq_none (by omega)] at hb; cases hb
      clear hb hrows hnd hbel h1 b1
      go_wp2_with (first | (go_at_call 228; refine (newrow_any cols _ hc).mono ?_; rintro e w2 ⟨g, rfl, hg1, hg2, hgr, b2⟩) | (refine wp_bset _ rfl 166 (by kernel_rfl) (.tmp 18) (.tmp 17) rfl w.heap.size k (shV cols gs ++ List.replicate (n - k) (Value.slice none 0 0)) _ (.slice (some ⟨g, 0, none⟩) cols cols) (by simp [shV]; omega) rfl rfl rfl rfl (sheet_step cols n k g gs hgk hlt) 166 ((b2.block _ hslt).trans HB.out) ?_))
      intro u3 h3 c3 z3
      have r3 : ∀ g' ∈ gs ++ [g], w.heap.size < g' ∧ RowAt u3 g' (blankR cols) := fun g' hg' => by
        rcases List.mem_append.1 hg' with h | h
        · have := HW.out g' h
          exact ⟨this.1, this.2.kept ((c3.block g' (Nat.lt_of_lt_of_le this.2.lt b2.size) (by omega)).trans (b2.block g' this.2.lt))⟩
        · rw [List.mem_singleton] at h; subst h
          exact ⟨by omega, hgr.kept (c3.block _ hg2 (by omega))⟩
      have n3 : (gs ++ [g]).Nodup := List.nodup_append.2 ⟨HN.out, by simp, fun a ha b hb => by rw [List.mem_singleton] at hb; subst hb; have := (HW.out a ha).2.lt; omega⟩
      have l3 : Below w.heap.size w u3 := (HL.out.trans ⟨b2.os, b2.tape, b2.output, b2.size, fun k hk => b2.block k (by omega)⟩).trans (c3.below (by have := b2.size; omega) (fun k hk e => by omega))
      clear HB HW HN HL b2 c3 hgr
      go_wp2_with fail
      go_roundw
      case rel => exact ⟨k + 1, gs ++ [g], by omega, by simp [hgk], by go_num, h3, r3, n3, l3⟩
      case measure => simp [intOf]; omega
    · have hkn : k = n := by omega
      subst hkn
      clear h1 b1
      have F : ShAt wr w.heap.size gs cols (List.replicate k (blankR cols)) := by
        refine ⟨by simpa using hb, by simp [hgk], fun i g r hi hr => ?_, hnd, fun hm => ?_⟩
        · rw [List.getElem?_replicate] at hr
          split at hr
          · cases hr; exact ⟨(hrows g (List.mem_of_getElem? hi)).2, by simp [blankR]⟩
          · cases hr
        · have := (hrows _ hm).1; omega
      have G : ∀ g ∈ gs, w.heap.size ≤ g := fun g hg => Nat.le_of_lt (hrows g hg).1
      have HB : Hid (Below w.heap.size w wr) := hbel
      clear hb hrows hnd hbel
      go_wp2_with fail
      go_ret
      exact ⟨w.heap.size, gs, rfl, Nat.le_refl _, G, F, HB.out⟩
end Go.Proofs.YtheibfffilomcaaGreatDoor
