/- Zj Zk Zl Zn together. -/
import Derived.Test.YtheibfffilomcaaGreatDoorZiM
import Derived.Test.YtheibfffilomcaaGreatDoorZmM
import Derived.Test.YtheibfffilomcaaGreatDoorPdM

/- The walks of isAfresh, screens. -/
namespace Go.Proofs.YtheibfffilomcaaGreatDoor
open Go.RowKit

theorem wp_neqCb {ops : Array Oper} {rest : List Oper} {o : Oper} {a : Act} {u : World} {Q : Exit → Act → World → Prop} (hgd : o.guard = none) (x y : Operand) (ho : o.op = .binOp .neq 101 x y 101) (c d : CellS) (hx : a.eval x = .agg (cellA c)) (hy : a.eval y = .agg (cellA d)) (b : Bool) (hb : (!decide (c = d)) = b)
    (h : wpList Tryz.prog ops Q rest (a.put o.dst (.bool b)) u) : wpList Tryz.prog ops Q (o :: rest) a u := by
  subst hb
  refine wpList_plain hgd fun K hK => ?_
  have R := hK _ _ h
  unfold Oper.wp
  rw [run_neqC x y ho c d hx hy u]
  exact R
theorem plain_no {S : Sheet} {i k : Nat} {r : List CellS} {c : CellS} (hr : S[i]? = some r) (hc : r[k]? = some c) (h : c ≠ blankS) : WS.plainB S = false := by
  cases e : WS.plainB S with
  | false => rfl
  | true =>
    unfold WS.plainB at e
    rw [List.all_eq_true] at e
    have e2 := e r (List.mem_of_getElem? hr)
    rw [List.all_eq_true] at e2
    exact absurd (of_decide_eq_true (e2 c (List.mem_of_getElem? hc))) h
theorem plain_yes {S : Sheet} {rows cols : Nat} (hl : S.length = rows) (hc : ∀ r ∈ S, r.length = cols) (h : ∀ i k, i < rows → k < cols → (S.getD i []).getD k blankS = blankS) : WS.plainB S = true := by
  unfold WS.plainB
  rw [List.all_eq_true]
  intro r hr
  rw [List.all_eq_true]
  intro c hcm
  obtain ⟨i, hi⟩ := List.getElem?_of_mem hr
  obtain ⟨k, hk⟩ := List.getElem?_of_mem hcm
  have h1 := (List.getElem?_eq_some_iff.1 hi).1
  have h2 := (List.getElem?_eq_some_iff.1 hk).1
  have := h i k (by omega) (by rw [← hc r hr]; exact h2)
  simp only [List.getD, hi, hk, Option.getD_some] at this
  exact decide_eq_true this

set_option maxRecDepth 100000 in
set_option maxHeartbeats 2000000 in
theorem isAfresh_any (wb : Nat) (L : Lay) (s : TS) (hI : s.Inv) (hO : ScrOk s) (n : Nat) (hn : n < 2) (x : WS) (w : World) (h : Wr w wb L s x) :
    Calls Tryz.prog 145 #[.pointer (some ⟨wb, 0, none⟩), .int .i64 (n : Int)] w fun e w' => e = .returned (.bool (WS.freshB (s.sheetAt n) (s.savedAt n))) ∧ Below w.heap.size w w' := by
  have c0 := h.c0
  have l1 := size_any L s w h.te hI
  have hr2 := hI.r2
  have hc2 := hI.c2
  have HX0 : Hid _ := h
  have HI : Hid _ := hI
  have HO : Hid _ := hO
  have KX : ∀ y, Below w.heap.size w y → Wr y wb L s x := fun y hy => h.keep hy
  have HKX : Hid _ := KX
  clear h hI hO KX
  go_enter Tryz.func145, Tryz.ntmps145
  go_wp2_with (go_at_call 147; refine l1.mono ?_; rintro e w1 ⟨rfl, hw1⟩; have hw2 := hw1.symm; subst hw2)
  go_loopw [18] (fun j wr => ∃ i : Nat, i ≤ s.rows ∧ j = .int .i64 i ∧ Hid (Below w.heap.size w wr) ∧ Hid (∀ a b, a < i → b < s.cols → s.cellAt n a b = blankS)) (fun j _ => s.rows - (intOf j).toNat)
  case atStart => exact ⟨0, Nat.zero_le _, rfl, Below.refl _ _, fun a b ha => by omega⟩
  case round =>
    clear l1 c0
    obtain ⟨i, hi, rfl, HB, HA⟩ := hrel
    by_cases hir : i < s.rows
    · have iir : (i : Int) < (s.rows : Int) := by omega
      have vi : IntKind.i64.wrap ((i : Int) + 1) = (i : Int) + 1 := IntWalk.i64_in _ (by omega)
      go_wp2_with fail
      go_loopw [22] (fun j wr => ∃ k : Nat, k ≤ s.cols ∧ j = .int .i64 k ∧ Hid (Below w.heap.size w wr) ∧ Hid (∀ b, b < k → s.cellAt n i b = blankS)) (fun j _ => s.cols - (intOf j).toNat)
      case atStart => exact ⟨0, Nat.zero_le _, rfl, HB, fun b hb => by omega⟩
      case round =>
        clear HB
        obtain ⟨k, hk, rfl, HB, HD⟩ := hrel
        have c0 := (HKX.out _ HB.out).c0
        by_cases hkc : k < s.cols
        · have ikc : (k : Int) < (s.cols : Int) := by omega
          have vk : IntKind.i64.wrap ((k : Int) + 1) = (k : Int) + 1 := IntWalk.i64_in _ (by omega)
          have l3 := tcell_any L s n i k hn hir hkc wr (HKX.out _ HB.out).te HI.out
          generalize hce : s.cellAt n i k = c at *
          have HCE : Hid _ := hce
          clear hce
          by_cases hcb : c = blankS
          · have HN : Hid ((!decide (c = blankS)) = false) := by show _ = _; rw [decide_eq_true hcb]; rfl
            have HCB : Hid _ := hcb
            clear hcb
            go_wp2_with fail
            refine l3.mono ?_
            rintro e x1 ⟨rfl, q1⟩
            have HB1 : Hid (Below w.heap.size w x1) := HB.out.trans (q1.bel.mono HB.out.size)
            clear q1
            go_wp2_with fail
            refine (blank_any x1).mono ?_
            rintro e x2 ⟨rfl, b2⟩
            have HB2 : Hid (Below w.heap.size w x2) := HB1.out.trans (b2.mono HB1.out.size)
            clear b2
            go_wp2_with (refine wp_neqCb rfl (.tmp 32) (.tmp 33) rfl c blankS rfl rfl false HN.out ?_)
            go_roundw
            case rel => exact ⟨k + 1, by omega, by go_num, HB2, fun b hb => by
              rcases Nat.lt_succ_iff_lt_or_eq.1 hb with h | h
              · exact HD.out b h
              · rw [h]; exact HCE.out.trans HCB.out⟩
            case measure => simp [intOf]; omega
          · have HN : Hid ((!decide (c = blankS)) = true) := by show _ = _; rw [decide_eq_false hcb]; rfl
            have HFR : Hid (WS.freshB (s.sheetAt n) (s.savedAt n) = false) := by
              show _ = _
              unfold WS.freshB
              have hl := HO.out.l n hn
              have hri : (s.sheetAt n)[i]? = some ((s.sheetAt n).getD i []) := by simp [List.getD, List.getElem?_eq_getElem (show i < (s.sheetAt n).length by omega)]
              have hrl := (HO.out.r n hn _ (List.mem_of_getElem? hri)).1
              have hrk : ((s.sheetAt n).getD i [])[k]? = some c := by
                rw [← HCE.out]
                show _ = some (((s.sheetAt n).getD i []).getD k blankS)
                simp only [List.getD] at hrl ⊢
                rw [List.getElem?_eq_getElem (by rw [hrl]; exact hkc)]
                rfl
              rw [plain_no hri hrk hcb]; rfl
            go_wp2_with fail
            refine l3.mono ?_
            rintro e x1 ⟨rfl, q1⟩
            have HB1 : Hid (Below w.heap.size w x1) := HB.out.trans (q1.bel.mono HB.out.size)
            clear q1
            go_wp2_with fail
            refine (blank_any x1).mono ?_
            rintro e x2 ⟨rfl, b2⟩
            have HB2 : Hid (Below w.heap.size w x2) := HB1.out.trans (b2.mono HB1.out.size)
            clear b2
            go_wp2_with (refine wp_neqCb rfl (.tmp 32) (.tmp 33) rfl c blankS rfl rfl true HN.out ?_)
            go_ret
            exact ⟨by rw [HFR.out]; rfl, HB2.out⟩
        · have ikc : ¬ (k : Int) < (s.cols : Int) := by omega
          go_wp2_with fail
          go_roundw
          case rel => exact ⟨i + 1, by omega, by go_num, HB, fun a b ha hb => by
            rcases Nat.lt_succ_iff_lt_or_eq.1 ha with h | h
            · exact HA.out a b h hb
            · rw [h]; exact HD.out b (by omega)⟩
          case measure => simp [intOf]; omega
    · have iir : ¬ (i : Int) < (s.rows : Int) := by omega
      have c0 := (HKX.out _ HB.out).c0
      have l4 := tsaved_any L s n hn wr (HKX.out _ HB.out).te
      have HFR : Hid (WS.freshB (s.sheetAt n) (s.savedAt n) = decide (s.savedAt n = spot0)) := by
        show _ = _
        unfold WS.freshB
        rw [plain_yes (HO.out.l n hn) (fun r hr => (HO.out.r n hn r hr).1) (fun a b ha hb => HA.out a b (by omega) hb), Bool.true_and]
      go_wp2_with fail
      refine l4.mono ?_
      rintro e x1 ⟨rfl, q1⟩
      have HB1 : Hid (Below w.heap.size w x1) := HB.out.trans (q1.bel.mono HB.out.size)
      clear q1
      go_wp2_with (refine wp_eqlSpot rfl (.tmp 42) (.tmp 43) rfl (s.savedAt n) spot0 rfl _ rfl rfl _ rfl ?_)
      go_ret
      exact ⟨by rw [HFR.out]; rfl, HB1.out⟩

/-- What State answers, cell by cell. -/
theorem state_ex (L : Lay) (s : TS) (w : World) (ht : TAt w L s) : Calls Tryz.prog 75 #[.pointer (some ⟨L.tb, 0, none⟩)] w fun e w' => e = .returned (.agg #[.int .i64 s.row, .int .i64 s.col, .bool s.waits, .bool s.pen.b, .bool s.pen.u, .bool s.pen.t, .int .i64 s.pen.f, .int .i64 s.pen.k, .int .i64 s.first, .int .i64 s.second, .int .i64 s.use, .bool s.origin, .int .i64 s.top, .int .i64 s.bottom, .bool s.wrap, .bool s.insert, .int .i64 s.shown]) ∧ Sm w w' := state_any L s w ht
theorem screen_len (x : WS) (s : TS) (hI : s.Inv) (hO : ScrOk s) (n : Nat) (hn : n < 2) : (x.screen (s.sheetAt n) (s.savedAt n)).tx.length ≤ x.tx.length + 20000 := by
  have hr2 := hI.r2
  have hc2 := hI.c2
  have h1 := rows_len 40 (s.sheetAt n) x 0 (fun r hr => by have := (hO.r n hn r hr).1; omega)
  have h2 : (s.sheetAt n).length ≤ 12 := by rw [hO.l n hn]; omega
  have := Nat.mul_le_mul_left (32 * 40) h2
  have h3 := saved_len (WS.rowsN x 0 (s.sheetAt n)) (s.sheetAt n) (s.savedAt n)
  show ((WS.rowsN x 0 (s.sheetAt n)).saved (s.sheetAt n) (s.savedAt n)).tx.length ≤ _
  omega

set_option maxRecDepth 100000 in
set_option maxHeartbeats 2000000 in
theorem screens_wr (wb : Nat) (L : Lay) (s : TS) (hI : s.Inv) (hO : ScrOk s) (x : WS) (w : World) (h : Wr w wb L s x) (hx : x.tx.length ≤ 1000) :
    Calls Tryz.prog 69 #[.pointer (some ⟨wb, 0, none⟩)] w fun e w' => e = .returned (.tuple #[]) ∧ WrAt w' wb L.tb (x.screens s) ∧ Wk wb w w' := by
  have l1 := screen_wr wb L s hI hO 0 (by omega) x w h (by omega)
  have n1 := screen_len x s hI hO 0 (by omega)
  have HX0 : Hid _ := h
  have HI : Hid _ := hI
  have HO : Hid _ := hO
  have hsh := hI.sh
  clear h hI hO
  go_enter Tryz.func69, Tryz.ntmps69
  go_wp2_with fail
  refine l1.mono ?_
  rintro e y1 ⟨rfl, h1, k1⟩
  have HX1 : Hid (Wr y1 wb L s (x.screen (s.sheetAt 0) (s.savedAt 0))) := HX0.out.step k1 h1
  have HK1 : Hid (Wk wb w y1) := k1
  have c0 := HX1.out.c0
  have l2 := state_ex L s y1 HX1.out.te
  have hfd : ∀ u : World, (Instr.field 84 (.agg #[.int .i64 s.row, .int .i64 s.col, .bool s.waits, .bool s.pen.b, .bool s.pen.u, .bool s.pen.t, .int .i64 s.pen.f, .int .i64 s.pen.k, .int .i64 s.first, .int .i64 s.second, .int .i64 s.use, .bool s.origin, .int .i64 s.top, .int .i64 s.bottom, .bool s.wrap, .bool s.insert, .int .i64 s.shown]) 5).run Tryz.prog u = .ok (.int .i64 s.shown) u := by intro u; kernel_rfl
  obtain ⟨x1, hx1⟩ : ∃ x1, x1 = x.screen (s.sheetAt 0) (s.savedAt 0) := ⟨_, rfl⟩
  rw [← hx1] at HX1 n1
  have HXE : Hid (x.screens s = x1.second s) := by show _ = _; rw [hx1]; rfl
  clear h1 k1 l1 hx1
  rcases hsh with hsh | hsh
  · have HNS : Hid (s.shown = 0) := hsh
    have hs0 : (s.shown == 1) = false := by rw [hsh]; rfl
    clear hsh
    go_wp2_with fail
    refine l2.mono ?_
    rintro e y2 ⟨rfl, q2⟩
    have HX2 : Hid (Wr y2 wb L s x1) := HX1.out.keep q2.bel
    have HK2 : Hid (Wk wb w y2) := HK1.out.trans (Wk.of_below q2.bel (Nat.le_of_lt HX1.out.lt))
    clear q2 l2 c0
    have l3 := isAfresh_any wb L s HI.out HO.out 1 (by omega) x1 y2 HX2.out
    cases hfr : WS.freshB (s.sheetAt 1) (s.savedAt 1) with
    | true =>
      have HFE : Hid (x.screens s = x1) := by
        show _ = _
        rw [HXE.out]
        unfold WS.second
        rw [if_neg (by rw [HNS.out]; decide), show WS.freshB s.s1 s.v1 = true from hfr, if_pos rfl]
      rw [hfr] at l3
      go_wp2_with fail
      refine l3.mono ?_
      rintro e y3 ⟨rfl, b3⟩
      have HF : Hid (WrAt y3 wb L.tb (x.screens s) ∧ Wk wb w y3) := ⟨by rw [HFE.out]; exact HX2.out.wr.keep b3, HK2.out.trans (Wk.of_below b3 (Nat.le_of_lt HX2.out.lt))⟩
      clear b3 l3
      go_wp2_with fail
      refine bodyPost_ret (results_none rfl _ _ _) rfl ?_
      exact ⟨rfl, HF.out.1, HF.out.2⟩
    | false =>
      have HFE : Hid (x.screens s = ((x1.seq [63, 52, 55, 104]).screen (s.sheetAt 1) (s.savedAt 1)).seq [63, 52, 55, 108]) := by
        show _ = _
        rw [HXE.out]
        unfold WS.second
        rw [if_neg (by rw [HNS.out]; decide), show WS.freshB s.s1 s.v1 = false from hfr, if_neg (by decide)]
        rfl
      rw [hfr] at l3
      go_wp2_with fail
      refine l3.mono ?_
      rintro e y3 ⟨rfl, b3⟩
      have HX3 : Hid (Wr y3 wb L s x1) := HX2.out.keep b3
      have HK3 : Hid (Wk wb w y3) := HK2.out.trans (Wk.of_below b3 (Nat.le_of_lt HX2.out.lt))
      have l4 := sequence_wr wb L.tb x1 { data := #[63, 52, 55, 104] } y3 HX3.out.wr (by omega) (by decide)
      rw [show bl ({ data := #[63, 52, 55, 104] } : ByteArray) = [63, 52, 55, 104] by rfl] at l4
      have n4 := seq_len x1 [63, 52, 55, 104]
      simp only [List.length_cons, List.length_nil] at n4
      clear b3 l3 HX2 HK2
      go_wp2_with fail
      refine l4.mono ?_
      rintro e y4 ⟨rfl, h4, k4⟩
      have HX4 : Hid (Wr y4 wb L s (x1.seq [63, 52, 55, 104])) := HX3.out.step k4 h4
      have HK4 : Hid (Wk wb w y4) := HK3.out.trans k4
      have l5 := screen_wr wb L s HI.out HO.out 1 (by omega) (x1.seq [63, 52, 55, 104]) y4 HX4.out (by omega)
      have n5 := screen_len (x1.seq [63, 52, 55, 104]) s HI.out HO.out 1 (by omega)
      clear h4 k4 l4 HX3 HK3
      go_wp2_with fail
      refine l5.mono ?_
      rintro e y5 ⟨rfl, h5, k5⟩
      have HK5 : Hid (Wk wb w y5) := HK4.out.trans k5
      have l6 := sequence_wr wb L.tb ((x1.seq [63, 52, 55, 104]).screen (s.sheetAt 1) (s.savedAt 1)) { data := #[63, 52, 55, 108] } y5 h5 (by omega) (by decide)
      rw [show bl ({ data := #[63, 52, 55, 108] } : ByteArray) = [63, 52, 55, 108] by rfl] at l6
      clear h5 k5 l5 HX4 HK4
      go_wp2_with fail
      refine l6.mono ?_
      rintro e y6 ⟨rfl, h6, k6⟩
      have HF : Hid (WrAt y6 wb L.tb (x.screens s) ∧ Wk wb w y6) := ⟨by rw [HFE.out]; exact h6, HK5.out.trans k6⟩
      clear h6 k6 l6
      go_wp2_with fail
      go_end0
      exact ⟨rfl, HF.out.1, HF.out.2⟩
  · have HFE : Hid (x.screens s = (x1.seq [63, 52, 55, 104]).screen (s.sheetAt 1) (s.savedAt 1)) := by
      show _ = _
      rw [HXE.out]
      unfold WS.second
      rw [if_pos hsh]
      rfl
    have hs0 : (s.shown == 1) = true := by rw [hsh]; rfl
    clear hsh
    go_wp2_with fail
    refine l2.mono ?_
    rintro e y3 ⟨rfl, q2⟩
    have HX3 : Hid (Wr y3 wb L s x1) := HX1.out.keep q2.bel
    have HK3 : Hid (Wk wb w y3) := HK1.out.trans (Wk.of_below q2.bel (Nat.le_of_lt HX1.out.lt))
    have l4 := sequence_wr wb L.tb x1 { data := #[63, 52, 55, 104] } y3 HX3.out.wr (by omega) (by decide)
    rw [show bl ({ data := #[63, 52, 55, 104] } : ByteArray) = [63, 52, 55, 104] by rfl] at l4
    have n4 := seq_len x1 [63, 52, 55, 104]
    simp only [List.length_cons, List.length_nil] at n4
    clear q2 l2 c0
    go_wp2_with fail
    refine l4.mono ?_
    rintro e y4 ⟨rfl, h4, k4⟩
    have HX4 : Hid (Wr y4 wb L s (x1.seq [63, 52, 55, 104])) := HX3.out.step k4 h4
    have HK4 : Hid (Wk wb w y4) := HK3.out.trans k4
    have l5 := screen_wr wb L s HI.out HO.out 1 (by omega) (x1.seq [63, 52, 55, 104]) y4 HX4.out (by omega)
    clear h4 k4 l4 HX3 HK3
    go_wp2_with fail
    refine l5.mono ?_
    rintro e y5 ⟨rfl, h5, k5⟩
    have HF : Hid (WrAt y5 wb L.tb (x.screens s) ∧ Wk wb w y5) := ⟨by rw [HFE.out]; exact h5, HK4.out.trans k5⟩
    clear h5 k5 l5
    go_wp2_with fail
    go_end0
    exact ⟨rfl, HF.out.1, HF.out.2⟩
end Go.Proofs.YtheibfffilomcaaGreatDoor

/- The walks of tabsAreAfresh, tabs, region, settings. -/
namespace Go.Proofs.YtheibfffilomcaaGreatDoor
open Go.RowKit

theorem tabsN_take : ∀ (T : List Bool) (x : WS) (i k : Nat) (b : Bool), T[k]? = some b → WS.tabsN x i (T.take (k + 1)) = (WS.tabsN x i (T.take k)).tab1 (i + k) b := by
  intro T
  induction T with
  | nil => intro x i k r h; simp at h
  | cons q T ih =>
    intro x i k r h
    cases k with
    | zero => simp at h; subst h; rfl
    | succ k =>
      have := ih (x.tab1 i q) (i + 1) k r (by simpa using h)
      show WS.tabsN (x.tab1 i q) (i + 1) (T.take (k + 1)) = _
      rw [this, show i + 1 + k = i + (k + 1) by omega]
      rfl
theorem tab1_len (x : WS) (k : Nat) (b : Bool) : (x.tab1 k b).tx.length ≤ x.tx.length + 7 := by
  unfold WS.tab1
  split
  · have h1 := digN_len ((k : Int) + 1)
    rw [put_len, seq_len, List.length_append]
    simp only [List.length_cons, List.length_nil]
    omega
  · omega
theorem tabsN_len : ∀ (T : List Bool) (x : WS) (i : Nat), (WS.tabsN x i T).tx.length ≤ x.tx.length + 7 * T.length := by
  intro T
  induction T with
  | nil => intro x i; exact Nat.le_add_right _ _
  | cons b T ih =>
    intro x i
    have h1 := ih (x.tab1 i b) (i + 1)
    have h2 := tab1_len x i b
    show (WS.tabsN (x.tab1 i b) (i + 1) T).tx.length ≤ _
    rw [List.length_cons]
    omega

set_option maxRecDepth 100000 in
theorem tabsFresh_any (wb : Nat) (L : Lay) (s : TS) (hI : s.Inv) (x : WS) (w : World) (h : Wr w wb L s x) :
    Calls Tryz.prog 148 #[.pointer (some ⟨wb, 0, none⟩), .int .i64 (s.cols : Int)] w fun e w' => e = .returned (.bool (WS.tabsB 0 s.tabs)) ∧ w' = w := by
  have c0 := h.c0
  have hc2 := hI.c2
  have HX0 : Hid _ := h
  have HI : Hid _ := hI
  have hlt := hI.lt
  have HLT : Hid _ := hlt
  clear h hI hlt
  go_enter Tryz.func148, Tryz.ntmps148
  go_wp2_with fail
  go_loopw [7] (fun j wr => ∃ k : Nat, k ≤ s.cols ∧ j = .int .i64 k ∧ Hid (wr = w) ∧ Hid (WS.tabsB 0 s.tabs = WS.tabsB k (s.tabs.drop k))) (fun j _ => s.cols - (intOf j).toNat)
  case atStart => exact ⟨0, Nat.zero_le _, rfl, rfl, rfl⟩
  case round =>
    obtain ⟨k, hk, rfl, HW, HE⟩ := hrel
    obtain rfl := HW.out
    by_cases hkc : k < s.cols
    · have ikc : (k : Int) < (s.cols : Int) := by omega
      have vk : IntKind.i64.wrap ((k : Int) + 1) = (k : Int) + 1 := IntWalk.i64_in _ (by omega)
      have l2 := ttab_any L s k hkc wr HX0.out.te HI.out
      have l3 := isTab_any k (by omega) wr
      have hdr : s.tabs.drop k = s.tabs.getD k false :: s.tabs.drop (k + 1) := by
        have : k < s.tabs.length := by rw [HLT.out]; exact hkc
        rw [List.drop_eq_getElem_cons this]
        simp [List.getD, List.getElem?_eq_getElem this]
      have HD : Hid (WS.tabsB 0 s.tabs = (decide (s.tabs.getD k false = WS.freshTab k) && WS.tabsB (k + 1) (s.tabs.drop (k + 1)))) := by
        show _ = _
        rw [HE.out, hdr]; rfl
      rw [show decide (0 < k ∧ k % 8 = 0) = WS.freshTab k from rfl] at l3
      clear hdr
      generalize s.tabs.getD k false = b at *
      generalize WS.freshTab k = f at *
      cases b with
      | false =>
        cases f with
        | false =>
          have HD2 : Hid (WS.tabsB 0 s.tabs = WS.tabsB (k + 1) (s.tabs.drop (k + 1))) := by show _ = _; rw [HD.out]; rfl
          go_wp2_with fail
          refine l2.mono ?_
          rintro e w2 ⟨rfl, hw2⟩
          obtain rfl := hw2.symm
          go_wp2_with fail
          refine l3.mono ?_
          rintro e w3 ⟨rfl, hw3⟩
          obtain rfl := hw3.symm
          go_wp2_with fail
          go_roundw
          case rel => exact ⟨k + 1, by omega, by go_num, trivial, HD2⟩
          case measure => simp [intOf]; omega
        | true =>
          have HFF : Hid (WS.tabsB 0 s.tabs = false) := by show _ = _; rw [HD.out]; rfl
          go_wp2_with fail
          refine l2.mono ?_
          rintro e w2 ⟨rfl, hw2⟩
          obtain rfl := hw2.symm
          go_wp2_with fail
          refine l3.mono ?_
          rintro e w3 ⟨rfl, hw3⟩
          obtain rfl := hw3.symm
          go_wp2_with fail
          go_ret
          exact ⟨by rw [HFF.out]; rfl, rfl⟩
      | true =>
        cases f with
        | false =>
          have HFF : Hid (WS.tabsB 0 s.tabs = false) := by show _ = _; rw [HD.out]; rfl
          go_wp2_with fail
          refine l2.mono ?_
          rintro e w2 ⟨rfl, hw2⟩
          obtain rfl := hw2.symm
          go_wp2_with fail
          refine l3.mono ?_
          rintro e w3 ⟨rfl, hw3⟩
          obtain rfl := hw3.symm
          go_wp2_with fail
          go_ret
          exact ⟨by rw [HFF.out]; rfl, rfl⟩
        | true =>
          have HD2 : Hid (WS.tabsB 0 s.tabs = WS.tabsB (k + 1) (s.tabs.drop (k + 1))) := by show _ = _; rw [HD.out]; rfl
          go_wp2_with fail
          refine l2.mono ?_
          rintro e w2 ⟨rfl, hw2⟩
          obtain rfl := hw2.symm
          go_wp2_with fail
          refine l3.mono ?_
          rintro e w3 ⟨rfl, hw3⟩
          obtain rfl := hw3.symm
          go_wp2_with fail
          go_roundw
          case rel => exact ⟨k + 1, by omega, by go_num, trivial, HD2⟩
          case measure => simp [intOf]; omega
    · have ikc : ¬ (k : Int) < (s.cols : Int) := by omega
      have HFT : Hid (WS.tabsB 0 s.tabs = true) := by
        show _ = _
        rw [HE.out, List.drop_eq_nil_of_le (by rw [HLT.out]; omega)]; rfl
      go_wp2_with fail
      go_ret
      exact ⟨by rw [HFT.out]; rfl, rfl⟩

set_option maxRecDepth 100000 in
set_option maxHeartbeats 2000000 in
theorem tabs_wr (wb : Nat) (L : Lay) (s : TS) (hI : s.Inv) (x : WS) (w : World) (h : Wr w wb L s x) (hx : x.tx.length ≤ 100000) :
    Calls Tryz.prog 70 #[.pointer (some ⟨wb, 0, none⟩)] w fun e w' => e = .returned (.tuple #[]) ∧ WrAt w' wb L.tb (x.tabs s) ∧ Wk wb w w' := by
  have c0 := h.c0
  have hc2 := hI.c2
  have l1 := size_any L s w h.te hI
  have l2 := tabsFresh_any wb L s hI x w h
  have HX0 : Hid _ := h
  have HI : Hid _ := hI
  have HLT : Hid (s.tabs.length = s.cols) := hI.lt
  clear h hI
  cases hfr : WS.tabsB 0 s.tabs with
  | true =>
    have HFE : Hid (x.tabs s = x) := by show _ = _; unfold WS.tabs; rw [if_pos hfr]
    rw [hfr] at l2
    go_enter Tryz.func70, Tryz.ntmps70
    go_wp2_with (first | (go_at_call 147; refine l1.mono ?_; rintro e w1 ⟨rfl, hw1⟩; have hw2 := hw1.symm; subst hw2) | (go_at_call 148; refine l2.mono ?_; rintro e w1 ⟨rfl, hw1⟩; have hw2 := hw1.symm; subst hw2))
    refine bodyPost_ret (results_none rfl _ _ _) rfl ?_
    exact ⟨rfl, by rw [HFE.out]; exact HX0.out.wr, Wk.refl _ _⟩
  | false =>
    have HFE : Hid (x.tabs s = WS.tabsN (x.seq [51, 103]) 0 s.tabs) := by show _ = _; unfold WS.tabs; rw [hfr, if_neg (by decide)]
    rw [hfr] at l2
    have l3 := sequence_wr wb L.tb x { data := #[51, 103] } w HX0.out.wr (by omega) (by decide)
    rw [show bl ({ data := #[51, 103] } : ByteArray) = [51, 103] by rfl] at l3
    have n3 := seq_len x [51, 103]
    simp only [List.length_cons, List.length_nil] at n3
    go_enter Tryz.func70, Tryz.ntmps70
    go_wp2_with (first | (go_at_call 147; refine l1.mono ?_; rintro e w1 ⟨rfl, hw1⟩; have hw2 := hw1.symm; subst hw2) | (go_at_call 148; refine l2.mono ?_; rintro e w1 ⟨rfl, hw1⟩; have hw2 := hw1.symm; subst hw2))
    refine l3.mono ?_
    rintro e y3 ⟨rfl, h3, k3⟩
    have HX3 : Hid (Wr y3 wb L s (x.seq [51, 103])) := HX0.out.step k3 h3
    have HK3 : Hid (Wk wb w y3) := k3
    obtain ⟨xs, hxs⟩ : ∃ xs, xs = x.seq [51, 103] := ⟨_, rfl⟩
    rw [← hxs] at HX3 HFE n3
    clear h3 k3 l3 l1 l2 c0 hfr HX0 hxs
    go_wp2_with fail
    go_loopw [19] (fun j wr => ∃ k : Nat, k ≤ s.cols ∧ j = .int .i64 k ∧ Hid (Wr wr wb L s (WS.tabsN xs 0 (s.tabs.take k))) ∧ Hid (Wk wb w wr)) (fun j _ => s.cols - (intOf j).toNat)
    case atStart => exact ⟨0, Nat.zero_le _, rfl, HX3, HK3⟩
    case round =>
      clear HX3 HK3
      obtain ⟨k, hk, rfl, HX, HK⟩ := hrel
      have hlen : (WS.tabsN xs 0 (s.tabs.take k)).tx.length ≤ 200000 := by
        have h1 := tabsN_len (s.tabs.take k) xs 0
        have h2 : (s.tabs.take k).length ≤ 40 := by rw [List.length_take, HLT.out]; omega
        omega
      by_cases hkc : k < s.cols
      · have ikc : (k : Int) < (s.cols : Int) := by omega
        have vk : IntKind.i64.wrap ((k : Int) + 1) = (k : Int) + 1 := IntWalk.i64_in _ (by omega)
        have c0 := HX.out.c0
        have l4 := ttab_any L s k hkc wr HX.out.te HI.out
        have hgk : s.tabs[k]? = some (s.tabs.getD k false) := by
          have : k < s.tabs.length := by rw [HLT.out]; exact hkc
          simp [List.getD, List.getElem?_eq_getElem this]
        have HE : Hid (WS.tabsN xs 0 (s.tabs.take (k + 1)) = (WS.tabsN xs 0 (s.tabs.take k)).tab1 k (s.tabs.getD k false)) := by
          have := tabsN_take s.tabs xs 0 k _ hgk
          rw [Nat.zero_add] at this; exact this
        clear hgk
        generalize s.tabs.getD k false = b at *
        obtain ⟨xk, hxk⟩ : ∃ xk, xk = WS.tabsN xs 0 (s.tabs.take k) := ⟨_, rfl⟩
        rw [← hxk] at HX HE hlen
        clear hxk
        cases b with
        | false =>
          go_wp2_with fail
          refine l4.mono ?_
          rintro e w2 ⟨rfl, hw2⟩
          obtain rfl := hw2.symm
          go_wp2_with fail
          go_roundw
          case rel => exact ⟨k + 1, by omega, by go_num, by rw [HE.out]; exact HX, HK⟩
          case measure => simp [intOf]; omega
        | true =>
          have l5 := itoa_any (k + 1) (by omega) wr
          rw [show (((k + 1 : Nat)) : Int) = (k : Int) + 1 by omega] at l5
          have zd := digS_size ((k : Int) + 1)
          have l6 := sequence_wr wb L.tb xk (digS ((k : Int) + 1) ++ { data := #[71] }) wr HX.out.wr (by omega) (by rw [ByteArray.size_append]; show (digS ((k : Int) + 1)).size + 1 ≤ _; omega)
          rw [bl_append, digS_bl (by omega), show bl ({ data := #[71] } : ByteArray) = [71] by rfl] at l6
          have n6 := seq_len xk (digN ((k : Int) + 1) ++ [71])
          have nd := digN_len ((k : Int) + 1)
          rw [List.length_append] at n6
          simp only [List.length_cons, List.length_nil] at n6
          have HE2 : Hid (WS.tabsN xs 0 (s.tabs.take (k + 1)) = (xk.seq (digN ((k : Int) + 1) ++ [71])).put [27, 72]) := HE.out.trans rfl
          generalize digS ((k : Int) + 1) = D at *
          go_wp2_with fail
          refine l4.mono ?_
          rintro e w2 ⟨rfl, hw2⟩
          obtain rfl := hw2.symm
          go_wp2_with fail
          refine l5.mono ?_
          rintro e w2 ⟨rfl, hw2⟩
          obtain rfl := hw2.symm
          go_wp2_with fail
          refine l6.mono ?_
          rintro e y7 ⟨rfl, h7, k7⟩
          have HX7 : Hid (Wr y7 wb L s (xk.seq (digN ((k : Int) + 1) ++ [71]))) := HX.out.step k7 h7
          have HK7 : Hid (Wk wb w y7) := HK.out.trans k7
          have l8 := writeString_any wb L.tb (xk.seq (digN ((k : Int) + 1) ++ [71])) { data := #[27, 72] } y7 h7 (by omega) (by decide)
          rw [bl_st _ (show bl ({ data := #[27, 72] } : ByteArray) = [27, 72] by rfl), ← HE2.out] at l8
          clear h7 k7 l6 l5 l4 c0 HX HK
          go_wp2_with fail
          refine l8.mono ?_
          rintro e y8 ⟨⟨v8, rfl⟩, h8, k8⟩
          have HX8 : Hid (Wr y8 wb L s (WS.tabsN xs 0 (s.tabs.take (k + 1)))) := HX7.out.step k8 h8
          have HK8 : Hid (Wk wb w y8) := HK7.out.trans k8
          clear h8 k8 l8
          go_wp2_with fail
          go_roundw
          case rel => exact ⟨k + 1, by omega, by go_num, HX8, HK8⟩
          case measure => simp [intOf]; omega
      · have ikc : ¬ (k : Int) < (s.cols : Int) := by omega
        have hke : s.tabs.take k = s.tabs := List.take_of_length_le (by rw [HLT.out]; omega)
        rw [hke] at HX
        have HF : Hid (WrAt wr wb L.tb (x.tabs s)) := by rw [HFE.out]; exact HX.out.wr
        clear hke
        go_wp2_with fail
        go_end0
        exact ⟨rfl, HF.out, HK.out⟩
end Go.Proofs.YtheibfffilomcaaGreatDoor

/- The walks of region, cursor, settings. -/
namespace Go.Proofs.YtheibfffilomcaaGreatDoor
open Go.RowKit

theorem region_len (x : WS) (s : TS) : (x.region s).tx.length ≤ x.tx.length + 8 := by
  unfold WS.region
  split
  · have h1 := digN_len (s.top + 1)
    have h2 := digN_len (s.bottom + 1)
    rw [seq_len, List.length_append]
    unfold pairN
    simp only [List.length_append, List.length_cons, List.length_nil]
    omega
  · omega
theorem st_cells {y : World} {nb : Nat} {s : TS} (h : y.heap[nb]? = some (.cells (stV s).toArray 84 (0, 0))) :
    y.cell? ⟨nb, 12, none⟩ = some (.int .i64 s.top) ∧ y.cell? ⟨nb, 13, none⟩ = some (.int .i64 s.bottom) ∧ y.cell? ⟨nb, 14, none⟩ = some (.bool s.wrap) ∧ y.cell? ⟨nb, 15, none⟩ = some (.bool s.insert) ∧ y.cell? ⟨nb, 16, none⟩ = some (.int .i64 s.shown) :=
  ⟨(cell_of_row _ _ _ _ _ _ h).trans rfl, (cell_of_row _ _ _ _ _ _ h).trans rfl, (cell_of_row _ _ _ _ _ _ h).trans rfl, (cell_of_row _ _ _ _ _ _ h).trans rfl, (cell_of_row _ _ _ _ _ _ h).trans rfl⟩

set_option maxRecDepth 100000 in
set_option maxHeartbeats 1000000 in
theorem region_wr (wb : Nat) (L : Lay) (s : TS) (hI : s.Inv) (x : WS) (w : World) (h : Wr w wb L s x) (hx : x.tx.length ≤ 200000) :
    Calls Tryz.prog 71 #[.pointer (some ⟨wb, 0, none⟩)] w fun e w' => e = .returned (.tuple #[]) ∧ WrAt w' wb L.tb (x.region s) ∧ Wk wb w w' := by
  have hr1 := hI.r1
  have hr2 := hI.r2
  obtain ⟨tp, htp⟩ : ∃ tp : Nat, s.top = (tp : Int) := ⟨s.top.toNat, by have := hI.top0; omega⟩
  obtain ⟨bt, hbt⟩ : ∃ bt : Nat, s.bottom = (bt : Int) := ⟨s.bottom.toNat, by have := hI.top0; have := hI.tb; omega⟩
  have hbl : bt < s.rows := by have := hI.bot; omega
  have htl : tp ≤ bt := by have := hI.tb; omega
  have HI : Hid _ := hI
  have HT : Hid (s.top = (tp : Int)) := htp
  have HB : Hid (s.bottom = (bt : Int)) := hbt
  clear hI htp hbt
  have c0 := h.c0
  have hlt := h.lt
  have l1 := state_any L s w h.te
  have HX0 : Hid _ := h
  clear h
  go_enter Tryz.func71, Tryz.ntmps71
  go_wp2_with fail
  refine l1.mono ?_
  rintro e x1 ⟨rfl, q1⟩
  go_wp2_with (refine wp_blkset _ rfl 84 (.tmp 2) (.tmp 9) rfl x1.heap.size [.int .i64 0, .int .i64 0, .bool false, .bool false, .bool false, .bool false, .int .i64 0, .int .i64 0, .int .i64 0, .int .i64 0, .int .i64 0, .bool false, .int .i64 0, .int .i64 0, .bool false, .bool false, .int .i64 0] (stV s) rfl _ rfl rfl 84 (heap_alloc_new _ _) rfl info56 (stV_one s) ?_)
  intro y1 g1 k1 z1
  have hq1 : w.heap.size ≤ x1.heap.size := q1.size
  have B1 : Below w.heap.size w y1 := (q1.bel.alloc q1.size (.cells [.int .i64 0, .int .i64 0, .bool false, .bool false, .bool false, .bool false, .int .i64 0, .int .i64 0, .int .i64 0, .int .i64 0, .int .i64 0, .bool false, .int .i64 0, .int .i64 0, .bool false, .bool false, .int .i64 0].toArray 84)).trans (k1.below (by simp; omega) (fun k hk e => by omega))
  have HX1 : Hid (Wr y1 wb L s x) := HX0.out.keep B1
  have HK1 : Hid (Wk wb w y1) := Wk.of_below B1 (Nat.le_of_lt hlt)
  obtain ⟨nb, hnb⟩ : ∃ nb, nb = x1.heap.size := ⟨_, rfl⟩
  rw [← hnb]
  rw [← hnb] at g1
  have hwn : wb < nb := by omega
  have HG1 : Hid (y1.heap[nb]? = some (.cells (stV s).toArray 84 (0, 0))) := g1
  clear g1 k1 z1 q1 B1 HX0 c0 l1 hnb
  have c1 := HX1.out.c0
  have cT := (st_cells HG1.out).1
  have cB := (st_cells HG1.out).2.1
  rw [HT.out] at cT
  rw [HB.out] at cB
  have l2 := size_any L s y1 HX1.out.te HI.out
  have l3 := pair_any tp bt (by omega) (by omega) y1
  have zp := pairS_size (tp : Int) (bt : Int)
  have l4 := sequence_wr wb L.tb x (pairS (tp : Int) (bt : Int) ++ { data := #[114] }) y1 HX1.out.wr (by omega) (by rw [ByteArray.size_append]; show (pairS (tp : Int) (bt : Int)).size + 1 ≤ _; omega)
  rw [bl_append, pairS_bl (by omega) (by omega), show bl ({ data := #[114] } : ByteArray) = [114] by kernel_rfl] at l4
  have v1 : IntKind.i64.wrap ((s.rows : Int) - 1) = (s.rows : Int) - 1 := IntWalk.i64_in _ (by omega)
  generalize pairS (tp : Int) (bt : Int) = D at *
  by_cases ht : tp = 0
  · have t0 : ((tp : Int) != 0) = false := by simp; omega
    by_cases hb : bt = s.rows - 1
    · have b0 : ((bt : Int) != (s.rows : Int) - 1) = false := by simp; omega
      have HFE : Hid (x.region s = x) := by show _ = _; unfold WS.region; rw [HT.out, HB.out, if_neg (by omega)]
      clear ht hb
      go_wp2_with fail
      refine l2.mono ?_
      rintro e w2 ⟨rfl, hw2⟩
      obtain rfl := hw2.symm
      go_wp2_with fail
      go_end0
      exact ⟨rfl, by rw [HFE.out]; exact HX1.out.wr, HK1.out⟩
    · have b0 : ((bt : Int) != (s.rows : Int) - 1) = true := by simp; omega
      have HFE : Hid (x.region s = x.seq (pairN (tp : Int) (bt : Int) ++ [114])) := by show _ = _; unfold WS.region; rw [HT.out, HB.out, if_pos (by omega)]
      clear ht hb
      go_wp2_with fail
      refine l2.mono ?_
      rintro e w2 ⟨rfl, hw2⟩
      obtain rfl := hw2.symm
      go_wp2_with fail
      refine l3.mono ?_
      rintro e w3 ⟨rfl, hw3⟩
      obtain rfl := hw3.symm
      go_wp2_with fail
      refine l4.mono ?_
      rintro e y5 ⟨rfl, h5, k5⟩
      have HF : Hid (WrAt y5 wb L.tb (x.region s) ∧ Wk wb w y5) := ⟨by rw [HFE.out]; exact h5, HK1.out.trans k5⟩
      clear h5 k5
      go_wp2_with fail
      go_end0
      exact ⟨rfl, HF.out.1, HF.out.2⟩
  · have t0 : ((tp : Int) != 0) = true := by simp; omega
    have HFE : Hid (x.region s = x.seq (pairN (tp : Int) (bt : Int) ++ [114])) := by show _ = _; unfold WS.region; rw [HT.out, HB.out, if_pos (by omega)]
    clear ht
    go_wp2_with fail
    refine l2.mono ?_
    rintro e w2 ⟨rfl, hw2⟩
    obtain rfl := hw2.symm
    go_wp2_with fail
    refine l3.mono ?_
    rintro e w3 ⟨rfl, hw3⟩
    obtain rfl := hw3.symm
    go_wp2_with fail
    refine l4.mono ?_
    rintro e y5 ⟨rfl, h5, k5⟩
    have HF : Hid (WrAt y5 wb L.tb (x.region s) ∧ Wk wb w y5) := ⟨by rw [HFE.out]; exact h5, HK1.out.trans k5⟩
    clear h5 k5
    go_wp2_with fail
    go_end0
    exact ⟨rfl, HF.out.1, HF.out.2⟩

theorem len_any (wb tb : Nat) (x : WS) (w : World) (h : WrAt w wb tb x) : Calls Tryz.prog 152 #[.pointer (some ⟨wb, 1, none⟩)] w fun e w' => e = .returned (.int .i64 (x.tx.length : Int)) ∧ w' = w := by
  obtain ⟨p, v, h1, h2, h3⟩ := h.ex
  obtain ⟨ao, nn, cc, rfl, hn⟩ : ∃ ao nn cc, v = .slice ao nn cc ∧ nn = x.tx.length := by
    rcases h3.2 with ⟨rfl, e⟩ | ⟨g, cap, cur, rfl, _⟩
    · exact ⟨_, _, _, rfl, e.symm⟩
    · exact ⟨_, _, _, rfl, rfl⟩
  have c2 : w.cell? ⟨wb, 2, none⟩ = some (.slice ao nn cc) := (cell_of_row _ _ _ _ _ _ h1).trans rfl
  have HN : Hid _ := hn
  clear h h1 h2 h3 hn
  go_enter Tryz.func152, Tryz.ntmps152
  go_wp2_with fail
  go_ret
  exact ⟨by rw [← HN.out]; rfl, rfl⟩

set_option maxRecDepth 100000 in
set_option maxHeartbeats 1000000 in
theorem settings_wr (wb : Nat) (L : Lay) (s : TS) (x : WS) (w : World) (h : Wr w wb L s x) (hx : x.tx.length ≤ 300000) :
    Calls Tryz.prog 73 #[.pointer (some ⟨wb, 0, none⟩)] w fun e w' => e = .returned (.tuple #[]) ∧ WrAt w' wb L.tb ((x.set4 s).set7 s) ∧ Wk wb w w' := by
  have c0 := h.c0
  have hlt := h.lt
  have l1 := state_any L s w h.te
  have HX0 : Hid _ := h
  clear h
  go_enter Tryz.func73, Tryz.ntmps73
  go_wp2_with fail
  refine l1.mono ?_
  rintro e x1 ⟨rfl, q1⟩
  go_wp2_with (refine wp_blkset _ rfl 84 (.tmp 2) (.tmp 7) rfl x1.heap.size [.int .i64 0, .int .i64 0, .bool false, .bool false, .bool false, .bool false, .int .i64 0, .int .i64 0, .int .i64 0, .int .i64 0, .int .i64 0, .bool false, .int .i64 0, .int .i64 0, .bool false, .bool false, .int .i64 0] (stV s) rfl _ rfl rfl 84 (heap_alloc_new _ _) rfl info56 (stV_one s) ?_)
  intro y1 g1 k1 z1
  have hq1 : w.heap.size ≤ x1.heap.size := q1.size
  have B1 : Below w.heap.size w y1 := (q1.bel.alloc q1.size (.cells [.int .i64 0, .int .i64 0, .bool false, .bool false, .bool false, .bool false, .int .i64 0, .int .i64 0, .int .i64 0, .int .i64 0, .int .i64 0, .bool false, .int .i64 0, .int .i64 0, .bool false, .bool false, .int .i64 0].toArray 84)).trans (k1.below (by simp; omega) (fun k hk e => by omega))
  have HX1 : Hid (Wr y1 wb L s x) := HX0.out.keep B1
  have HK1 : Hid (Wk wb w y1) := Wk.of_below B1 (Nat.le_of_lt hlt)
  obtain ⟨nb, hnb⟩ : ∃ nb, nb = x1.heap.size := ⟨_, rfl⟩
  rw [← hnb]
  rw [← hnb] at g1
  have hwn : wb < nb := by omega
  have HG1 : Hid (y1.heap[nb]? = some (.cells (stV s).toArray 84 (0, 0))) := g1
  clear g1 k1 z1 q1 B1 HX0 c0 l1 hnb
  have cI := (st_cells HG1.out).2.2.2.1
  have cW := (st_cells HG1.out).2.2.1
  cases hbi : s.insert with
  | false =>
    rw [hbi] at cI
    cases hbw : s.wrap with
    | true =>
      rw [hbw] at cW
      have HFE : Hid ((x.set4 s).set7 s = x) := by show _ = _; unfold WS.set7 WS.set4; rw [hbi, hbw]; rfl
      clear hbi hbw
      go_wp2_with fail
      go_end0
      exact ⟨rfl, by rw [HFE.out]; exact HX1.out.wr, HK1.out⟩
    | false =>
      rw [hbw] at cW
      have HFE : Hid ((x.set4 s).set7 s = x.seq [63, 55, 108]) := by show _ = _; unfold WS.set7 WS.set4; rw [hbi, hbw]; rfl
      have l3 := sequence_wr wb L.tb x { data := #[63, 55, 108] } y1 HX1.out.wr (by omega) (by decide)
      rw [show bl ({ data := #[63, 55, 108] } : ByteArray) = [63, 55, 108] by rfl, ← HFE.out] at l3
      clear hbi hbw
      go_wp2_with fail
      refine l3.mono ?_
      rintro e y3 ⟨rfl, h3, k3⟩
      have HF : Hid (WrAt y3 wb L.tb ((x.set4 s).set7 s) ∧ Wk wb w y3) := ⟨h3, HK1.out.trans k3⟩
      clear h3 k3
      go_wp2_with fail
      go_end0
      exact ⟨rfl, HF.out.1, HF.out.2⟩
  | true =>
    rw [hbi] at cI
    have l2 := sequence_wr wb L.tb x { data := #[52, 104] } y1 HX1.out.wr (by omega) (by decide)
    rw [show bl ({ data := #[52, 104] } : ByteArray) = [52, 104] by rfl] at l2
    have n2 := seq_len x [52, 104]
    simp only [List.length_cons, List.length_nil] at n2
    have HBI : Hid _ := hbi
    clear hbi cW
    go_wp2_with fail
    refine l2.mono ?_
    rintro e y2 ⟨rfl, h2, k2⟩
    have HG2 : Hid (y2.heap[nb]? = some (.cells (stV s).toArray 84 (0, 0))) := k2.at HG1.out (by omega) (by decide)
    have HK2 : Hid (Wk wb w y2) := HK1.out.trans k2
    have cW := (st_cells HG2.out).2.2.1
    have HW2 : Hid _ := h2
    have l3 := sequence_wr wb L.tb (x.seq [52, 104]) { data := #[63, 55, 108] } y2 h2 (by omega) (by decide)
    rw [show bl ({ data := #[63, 55, 108] } : ByteArray) = [63, 55, 108] by rfl] at l3
    clear h2 k2 l2 cI
    cases hbw : s.wrap with
    | true =>
      rw [hbw] at cW
      have HFE : Hid ((x.set4 s).set7 s = x.seq [52, 104]) := by show _ = _; unfold WS.set7 WS.set4; rw [HBI.out, hbw]; rfl
      clear hbw
      go_wp2_with fail
      go_end0
      exact ⟨rfl, by rw [HFE.out]; exact HW2.out, HK2.out⟩
    | false =>
      rw [hbw] at cW
      have HFE : Hid ((x.set4 s).set7 s = (x.seq [52, 104]).seq [63, 55, 108]) := by show _ = _; unfold WS.set7 WS.set4; rw [HBI.out, hbw]; rfl
      rw [← HFE.out] at l3
      clear hbw
      go_wp2_with fail
      refine l3.mono ?_
      rintro e y3 ⟨rfl, h3, k3⟩
      have HF : Hid (WrAt y3 wb L.tb ((x.set4 s).set7 s) ∧ Wk wb w y3) := ⟨h3, HK2.out.trans k3⟩
      clear h3 k3
      go_wp2_with fail
      go_end0
      exact ⟨rfl, HF.out.1, HF.out.2⟩

/-- The cursor as a spot. -/
structure CurOk (s : TS) : Prop where
  v : SpotOk s s.spot
  o : s.origin = true → s.top ≤ s.row
set_option maxRecDepth 100000 in
set_option maxHeartbeats 1000000 in
theorem cursor_wr (wb : Nat) (L : Lay) (s : TS) (hI : s.Inv) (hO : ScrOk s) (hC : CurOk s) (x : WS) (w : World) (h : Wr w wb L s x) (hx : x.tx.length ≤ 300000) :
    Calls Tryz.prog 72 #[.pointer (some ⟨wb, 0, none⟩)] w fun e w' => e = .returned (.tuple #[]) ∧ WrAt w' wb L.tb (x.cursor s) ∧ Wk wb w w' := by
  have HI : Hid _ := hI
  have HO : Hid _ := hO
  have HC : Hid _ := hC
  clear hI hO hC
  have c0 := h.c0
  have hlt := h.lt
  have l1 := state_any L s w h.te
  have HX0 : Hid _ := h
  clear h
  go_enter Tryz.func72, Tryz.ntmps72
  go_wp2_with fail
  refine l1.mono ?_
  rintro e x1 ⟨rfl, q1⟩
  go_wp2_with (refine wp_blkset _ rfl 84 (.tmp 2) (.tmp 7) rfl x1.heap.size [.int .i64 0, .int .i64 0, .bool false, .bool false, .bool false, .bool false, .int .i64 0, .int .i64 0, .int .i64 0, .int .i64 0, .int .i64 0, .bool false, .int .i64 0, .int .i64 0, .bool false, .bool false, .int .i64 0] (stV s) rfl _ rfl rfl 84 (heap_alloc_new _ _) rfl info56 (stV_one s) ?_)
  intro y1 g1 k1 z1
  have hq1 : w.heap.size ≤ x1.heap.size := q1.size
  have B1 : Below w.heap.size w y1 := (q1.bel.alloc q1.size (.cells [.int .i64 0, .int .i64 0, .bool false, .bool false, .bool false, .bool false, .int .i64 0, .int .i64 0, .int .i64 0, .int .i64 0, .int .i64 0, .bool false, .int .i64 0, .int .i64 0, .bool false, .bool false, .int .i64 0].toArray 84)).trans (k1.below (by simp; omega) (fun k hk e => by omega))
  have HX1 : Hid (Wr y1 wb L s x) := HX0.out.keep B1
  have HK1 : Hid (Wk wb w y1) := Wk.of_below B1 (Nat.le_of_lt hlt)
  obtain ⟨nb, hnb⟩ : ∃ nb, nb = x1.heap.size := ⟨_, rfl⟩
  rw [← hnb]
  rw [← hnb] at g1
  have hwn : wb < nb := by omega
  have HG1 : Hid (y1.heap[nb]? = some (.cells (stV s).toArray 84 (0, 0))) := g1
  clear g1 k1 z1 q1 B1 HX0 c0 l1 hnb
  have HR : Hid (y1.rangeAt nb 0 (spotV s.spot)) := range_of HG1.out 0 _ rfl
  have cS := (st_cells HG1.out).2.2.2.2
  have cT := (st_cells HG1.out).1
  have l2 := len_any wb L.tb x y1 HX1.out.wr
  obtain ⟨⟨pr0, pr1⟩, ⟨pc0, pc1⟩, hfit⟩ := HC.out.v
  have hr2 := HI.out.r2
  have hto := HC.out.o
  have ht0 := HI.out.top0
  have HFI : Hid _ := hfit
  obtain ⟨n, hn, hsn, hcur⟩ : ∃ n : Nat, n < 2 ∧ s.shown = (n : Int) ∧ s.sheetAt n = s.cur := by
    rcases HI.out.sh with h | h
    · exact ⟨0, by omega, h, by unfold TS.cur TS.sheetAt; rw [if_pos h]; rfl⟩
    · exact ⟨1, by omega, h, (if_neg (by omega : ¬ s.shown = 0) : (if s.shown = 0 then s.s0 else s.s1) = s.s1).symm⟩
  rw [hsn] at cS
  have hsr : s.spot.row = s.row := rfl
  have hso : s.spot.origin = s.origin := rfl
  obtain ⟨r, hr, hr90⟩ : ∃ r : Nat, (if s.spot.origin then s.spot.row - s.top else s.spot.row) = (r : Int) ∧ r < 90 := by
    rw [hso]
    cases ho : s.origin with
    | true => have := hto ho; exact ⟨(s.spot.row - s.top).toNat, by rw [if_pos rfl]; omega, by omega⟩
    | false => exact ⟨s.spot.row.toNat, by rw [if_neg (by decide)]; omega, by omega⟩
  have l3 := toSpot_wr wb L s HI.out HO.out.c n s.spot.row.toNat s.spot.col.toNat r s.top hn (by omega) (by omega) hr90 s.spot (by omega) (by omega) hfit.p hfit.f hfit.sc hfit.u hr x y1 HX1.out (by omega)
  rw [hcur] at l3
  have HCE : Hid (∀ c : Prop, c = (s.spot = spot0 ∧ x.tx.length = 0) → (c → x.cursor s = x) ∧ (¬ c → x.cursor s = x.toSpot s.cur s.spot s.top)) := by
    rintro c rfl
    exact ⟨fun h => by unfold WS.cursor; rw [if_pos h], fun h => by unfold WS.cursor; rw [if_neg h]⟩
  clear pr0 pr1 pc0 pc1 hfit hto ht0 hsn hcur hsr hso hr hn
  by_cases hp0 : s.spot = spot0
  · have HD : Hid (decide (s.spot = spot0) = true) := decide_eq_true hp0
    by_cases hl0 : x.tx.length = 0
    · have HFE : Hid (x.cursor s = x) := (HCE.out _ rfl).1 ⟨hp0, hl0⟩
      have hz : ((x.tx.length : Int) == 0) = true := by simp [hl0]
      clear hp0 hl0 l3
      go_wp2_with (first | (refine wpList_load_mid rfl 82 (.tmp 8) rfl nb 0 rfl (spotV s.spot) _ HR.out Tryz.underlying82 rfl info54s ?_) | (refine wp_eqlSpot rfl (.tmp 9) (.tmp 10) rfl s.spot spot0 rfl _ rfl rfl true HD.out ?_))
      refine l2.mono ?_
      rintro e w2 ⟨rfl, hw2⟩
      obtain rfl := hw2.symm
      go_wp2_with fail
      refine bodyPost_ret (results_none rfl _ _ _) rfl ?_
      exact ⟨rfl, by rw [HFE.out]; exact HX1.out.wr, HK1.out⟩
    · have HFE : Hid (x.cursor s = x.toSpot s.cur s.spot s.top) := (HCE.out _ rfl).2 (fun h => hl0 h.2)
      have hz : ((x.tx.length : Int) == 0) = false := by
        have : ((x.tx.length : Int) ≠ 0) := by omega
        exact beq_false_of_ne this
      rw [← HFE.out] at l3
      clear hp0 hl0
      go_wp2_with (first | (refine wpList_load_mid rfl 82 (.tmp 8) rfl nb 0 rfl (spotV s.spot) _ HR.out Tryz.underlying82 rfl info54s ?_) | (refine wp_eqlSpot rfl (.tmp 9) (.tmp 10) rfl s.spot spot0 rfl _ rfl rfl true HD.out ?_))
      refine l2.mono ?_
      rintro e w2 ⟨rfl, hw2⟩
      obtain rfl := hw2.symm
      go_wp2_with (refine wpList_load_mid rfl 82 (.tmp 22) rfl nb 0 rfl (spotV s.spot) _ HR.out Tryz.underlying82 rfl info54s ?_)
      refine l3.mono ?_
      rintro e y3 ⟨rfl, h3, k3⟩
      have HF : Hid (WrAt y3 wb L.tb (x.cursor s) ∧ Wk wb w y3) := ⟨h3, HK1.out.trans k3⟩
      clear h3 k3
      go_wp2_with fail
      go_end0
      exact ⟨rfl, HF.out.1, HF.out.2⟩
  · have HD : Hid (decide (s.spot = spot0) = false) := decide_eq_false hp0
    have HFE : Hid (x.cursor s = x.toSpot s.cur s.spot s.top) := (HCE.out _ rfl).2 (fun h => hp0 h.1)
    rw [← HFE.out] at l3
    clear hp0 l2
    go_wp2_with (first | (refine wpList_load_mid rfl 82 (.tmp 8) rfl nb 0 rfl (spotV s.spot) _ HR.out Tryz.underlying82 rfl info54s ?_) | (refine wp_eqlSpot rfl (.tmp 9) (.tmp 10) rfl s.spot spot0 rfl _ rfl rfl false HD.out ?_) | (refine wpList_load_mid rfl 82 (.tmp 22) rfl nb 0 rfl (spotV s.spot) _ HR.out Tryz.underlying82 rfl info54s ?_))
    refine l3.mono ?_
    rintro e y3 ⟨rfl, h3, k3⟩
    have HF : Hid (WrAt y3 wb L.tb (x.cursor s) ∧ Wk wb w y3) := ⟨h3, HK1.out.trans k3⟩
    clear h3 k3
    go_wp2_with fail
    go_end0
    exact ⟨rfl, HF.out.1, HF.out.2⟩
end Go.Proofs.YtheibfffilomcaaGreatDoor

/- The walks of redraw.Bytes and Dump. -/
namespace Go.Proofs.YtheibfffilomcaaGreatDoor
open Go.RowKit

theorem GoodR.parts {r : List CellS} (h : GoodR r) : ∀ c ∈ r, c.part = 2 ∨ c.Ok := by
  induction h with
  | nil => intro c hc; cases hc
  | one c r hp hw hs h ih =>
    intro d hd
    rcases List.mem_cons.1 hd with rfl | hd
    · exact .inr hs
    · exact ih d hd
  | two c r hp hw hs h ih =>
    intro d hd
    rcases List.mem_cons.1 hd with rfl | hd
    · exact .inr hs
    · rcases List.mem_cons.1 hd with rfl | hd
      · exact .inl rfl
      · exact ih d hd

theorem sheet_len {s : TS} (hI : s.Inv) (n : Nat) : (s.sheetAt n).length = s.rows := by
  unfold TS.sheetAt; split
  · exact hI.l0
  · exact hI.l1
theorem sheet_good {s : TS} (hF : s.Fit) (n : Nat) : GoodS s.cols (s.sheetAt n) := by
  unfold TS.sheetAt; split
  · exact hF.g0
  · exact hF.g1
theorem cellAt_sheet (s : TS) (n i k : Nat) : s.cellAt n i k = ((s.sheetAt n).getD i []).getD k blankS := rfl
theorem getD_mem {α : Type} (l : List α) (k : Nat) (d : α) (h : k < l.length) : l.getD k d ∈ l := by
  rw [List.getD_eq_getElem?_getD, List.getElem?_eq_getElem h]; exact List.getElem_mem h
theorem CellsOk.of {s : TS} (hI : s.Inv) (hF : s.Fit) : CellsOk s := by
  refine ⟨fun n i k hi hk => ?_, fun n i k hi hk hp => ?_⟩
  · have g := (sheet_good hF n).getD (i := i) (by rw [sheet_len hI]; exact hi)
    rw [cellAt_sheet]
    exact g.1.parts _ (getD_mem _ _ _ (by rw [g.2]; exact hk))
  · have g := (sheet_good hF n).getD (i := i) (by rw [sheet_len hI]; exact hi)
    rcases Nat.eq_zero_or_pos k with rfl | h
    · exact absurd hp (g.1.head blankS (by decide))
    · exact h
theorem ScrOk.of {s : TS} (hI : s.Inv) (hF : s.Fit) : ScrOk s := by
  refine ⟨CellsOk.of hI hF, fun n _ q hq => ?_, fun n _ => sheet_len hI n, fun n _ => ?_⟩
  · have g := sheet_good hF n q hq
    exact ⟨g.2, g.1.parts⟩
  · unfold TS.savedAt; split
    · exact ⟨hI.v0r, hI.v0c, hF.v0⟩
    · exact ⟨hI.v1r, hI.v1c, hF.v1⟩
theorem CurOk.of {s : TS} (hI : s.Inv) (hF : s.Fit) : CurOk s := ⟨⟨⟨hI.row0, hI.row1⟩, ⟨hI.col0, hI.col1⟩, ⟨hF.f, hF.sc, hF.u, hF.p, hF.w⟩⟩, fun e => (hF.o e).1⟩

theorem screens_len (s : TS) (hI : s.Inv) (hO : ScrOk s) : (WS.zero.screens s).tx.length ≤ 40020 := by
  have a0 : WS.zero.tx.length = 0 := rfl
  have a1 : ∀ y : WS, (y.screen s.s0 s.v0).tx.length ≤ y.tx.length + 20000 := fun y => screen_len y s hI hO 0 (by omega)
  have a2 : ∀ y : WS, (y.screen s.s1 s.v1).tx.length ≤ y.tx.length + 20000 := fun y => screen_len y s hI hO 1 (by omega)
  have b1 := a1 WS.zero
  have b2 := a2 ((WS.zero.screen s.s0 s.v0).seq [63, 52, 55, 104])
  have c1 := seq_len (WS.zero.screen s.s0 s.v0) [63, 52, 55, 104]
  have c2 := seq_len (((WS.zero.screen s.s0 s.v0).seq [63, 52, 55, 104]).screen s.s1 s.v1) [63, 52, 55, 108]
  simp only [List.length_cons, List.length_nil] at c1 c2
  unfold WS.screens WS.second
  split
  · omega
  · split
    · omega
    · omega
theorem tabs_len (x : WS) (s : TS) (hI : s.Inv) : (x.tabs s).tx.length ≤ x.tx.length + 300 := by
  unfold WS.tabs
  split
  · omega
  · have h := tabsN_len s.tabs (x.seq [51, 103]) 0
    have c1 := seq_len x [51, 103]
    simp only [List.length_cons, List.length_nil] at c1
    have := hI.lt
    have := hI.c2
    omega
theorem cursor_len (x : WS) (s : TS) : (x.cursor s).tx.length ≤ x.tx.length + 80 := by
  unfold WS.cursor
  split
  · omega
  · exact toSpot_len _ _ _ _

theorem infoWr : (Tryz.prog.info? 133).map (·.size) = some 8 := by kernel_rfl

set_option maxRecDepth 100000 in
set_option maxHeartbeats 1000000 in
theorem bytes_any (L : Lay) (s : TS) (hI : s.Inv) (hF : s.Fit) (w : World) (ht : TAt w L s) :
    Calls Tryz.prog 32 #[.pointer (some ⟨L.tb, 0, none⟩)] w fun e w' => (∃ U : ByteArray, e = .returned (.string U) ∧ bl U = dumpN s) ∧ Below w.heap.size w w' := by
  have HT : Hid (TAt w L s) := ht
  have HI : Hid (s.Inv) := hI
  have HO : Hid (ScrOk s) := ScrOk.of hI hF
  have HC : Hid (CurOk s) := CurOk.of hI hF
  clear ht hI hF
  go_enter Tryz.func32, Tryz.ntmps32
  go_wp2_with (refine wp_blkset _ rfl 133 (.tmp 3) (.tmp 5) rfl w.heap.size [.pointer none, .pointer none, .slice none 0 0, .bool false, .bool false, .bool false, .int .i64 0, .int .i64 0] (wrV L.tb (.pointer none) (.slice none 0 0) pen0) rfl _ rfl rfl 133 (heap_alloc_new _ _) rfl infoWr (by intro v hv; simp only [wrV, List.mem_cons, List.not_mem_nil, or_false] at hv; rcases hv with rfl | rfl | rfl | rfl | rfl | rfl | rfl | rfl <;> rfl) ?_)
  intro y1 g1 k1 z1
  obtain ⟨wb, hwb⟩ : ∃ wb, wb = w.heap.size := ⟨_, rfl⟩
  rw [← hwb]
  rw [← hwb] at g1
  have B1 : Below wb w y1 := by
    rw [hwb]
    exact ((Below.refl w.heap.size w).alloc (Nat.le_refl _) _).trans (k1.below (by simp) (fun k hk e => by omega))
  have X1 : Wr y1 wb L s WS.zero := by
    refine ⟨WrAt.of (p := .pointer none) (v := .slice none 0 0) g1 (.inl rfl) ⟨by simp, .inl ⟨rfl, rfl⟩⟩ (fun i hi => by cases hi), HT.out.kept (P := fun k => wb ≤ k) ⟨B1.os, B1.tape, B1.output, B1.size, fun i _ hn => B1.block i (by omega)⟩ (fun k hk hn => by have := HT.out.own_lt hk; omega), fun k hk => by have := HT.out.own_lt hk; omega⟩
  have HX1 : Hid _ := X1
  have HB1 : Hid (Below wb w y1) := B1
  have HWB : Hid (wb = w.heap.size) := hwb
  clear g1 k1 z1 B1 X1 hwb
  have n1 := screens_len s HI.out HO.out
  have n2 := tabs_len (WS.zero.screens s) s HI.out
  have n3 := region_len ((WS.zero.screens s).tabs s) s
  have n4 := cursor_len (((WS.zero.screens s).tabs s).region s) s
  have HN : Hid ((WS.zero.screens s).tx.length ≤ 100000 ∧ ((WS.zero.screens s).tabs s).tx.length ≤ 200000 ∧ (((WS.zero.screens s).tabs s).region s).tx.length ≤ 300000 ∧ ((((WS.zero.screens s).tabs s).region s).cursor s).tx.length ≤ 300000) := ⟨by omega, by omega, by omega, by omega⟩
  clear n1 n2 n3 n4
  have l1 := screens_wr wb L s HI.out HO.out WS.zero y1 HX1.out (by show 0 ≤ 1000; omega)
  go_wp2_with fail
  refine l1.mono ?_
  rintro e y2 ⟨rfl, h2, k2⟩
  have HX2 : Hid (Wr y2 wb L s (WS.zero.screens s)) := HX1.out.step k2 h2
  have HB2 : Hid (Below wb w y2) := HB1.out.trans k2.b
  clear l1 h2 k2 HX1 HB1
  have l2 := tabs_wr wb L s HI.out _ y2 HX2.out HN.out.1
  go_wp2_with fail
  refine l2.mono ?_
  rintro e y3 ⟨rfl, h3, k3⟩
  have HX3 : Hid (Wr y3 wb L s ((WS.zero.screens s).tabs s)) := HX2.out.step k3 h3
  have HB3 : Hid (Below wb w y3) := HB2.out.trans k3.b
  clear l2 h3 k3 HX2 HB2
  have l3 := region_wr wb L s HI.out _ y3 HX3.out HN.out.2.1
  go_wp2_with fail
  refine l3.mono ?_
  rintro e y4 ⟨rfl, h4, k4⟩
  have HX4 : Hid (Wr y4 wb L s (((WS.zero.screens s).tabs s).region s)) := HX3.out.step k4 h4
  have HB4 : Hid (Below wb w y4) := HB3.out.trans k4.b
  clear l3 h4 k4 HX3 HB3
  have l4 := cursor_wr wb L s HI.out HO.out HC.out _ y4 HX4.out HN.out.2.2.1
  go_wp2_with fail
  refine l4.mono ?_
  rintro e y5 ⟨rfl, h5, k5⟩
  have HX5 : Hid (Wr y5 wb L s ((((WS.zero.screens s).tabs s).region s).cursor s)) := HX4.out.step k5 h5
  have HB5 : Hid (Below wb w y5) := HB4.out.trans k5.b
  clear l4 h5 k5 HX4 HB4
  have l5 := settings_wr wb L s _ y5 HX5.out HN.out.2.2.2
  go_wp2_with fail
  refine l5.mono ?_
  rintro e y6 ⟨rfl, h6, k6⟩
  have HX6 : Hid (WrAt y6 wb L.tb (WS.zero.all s)) := h6
  have HB6 : Hid (Below wb w y6) := HB5.out.trans k6.b
  clear l5 h6 k6 HX5 HB5
  have l6 := string_any wb L.tb _ y6 HX6.out
  go_wp2_with fail
  refine l6.mono ?_
  rintro e y7 ⟨⟨U, rfl, hU⟩, b7⟩
  have HU : Hid (bl U = dumpN s) := hU
  have HB7 : Hid (Below w.heap.size w y7) := by have := HB6.out.trans b7; rw [HWB.out] at this; exact this
  clear l6 hU b7 HX6 HB6
  go_wp2_with fail
  go_ret
  exact ⟨⟨U, rfl, HU.out⟩, HB7.out⟩

set_option maxRecDepth 100000 in
theorem dump_any (fb : Nat) (L : Lay) (x : FS) (hI : x.t.Inv) (hF : x.t.Fit) (w : World) (h : FAt w fb L x) :
    Calls Tryz.prog 14 #[.pointer (some ⟨fb, 0, none⟩)] w fun e w' => (∃ U : ByteArray, e = .returned (.string U) ∧ bl U = dumpN x.t) ∧ Below w.heap.size w w' := by
  have hpt := h.pt
  have l1 := bytes_any L x.t hI hF w h.te
  clear h hI hF
  go_enter Tryz.func14, Tryz.ntmps14
  go_wp2_with fail
  refine l1.mono ?_
  rintro e y7 ⟨⟨U, rfl, hU⟩, b7⟩
  have HU : Hid (bl U = dumpN x.t) := hU
  have HB7 : Hid (Below w.heap.size w y7) := b7
  clear l1 hU b7
  go_wp2_with fail
  go_ret
  exact ⟨⟨U, rfl, HU.out⟩, HB7.out⟩
end Go.Proofs.YtheibfffilomcaaGreatDoor

