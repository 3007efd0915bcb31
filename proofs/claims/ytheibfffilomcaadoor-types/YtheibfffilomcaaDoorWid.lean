/- The walks of the two widths: the program's by its table of spans, the document's by three lists; both are one plain function. -/
import Derived.Test.YtheibfffilomcaaDoorDefs
namespace Go.Proofs.YtheibfffilomcaaDoor
open Go.RowKit

/-- The spans, and the width of what stands in the first that holds it. -/
def spansN : List (Int × Int × Int) := [(0, 31, 0), (127, 159, 0), (768, 879, 0), (4352, 4447, 2), (8203, 8207, 0), (11904, 42191, 2), (44032, 55203, 2), (63744, 64255, 2), (65024, 65039, 0), (65072, 65135, 2), (65280, 65376, 2), (65504, 65510, 2), (127744, 128591, 2), (131072, 262141, 2)]
def firstW (c : Int) : List (Int × Int × Int) → Int
  | [] => 1
  | (a, b, x) :: r => if a ≤ c ∧ c ≤ b then x else firstW c r
def widN (c : Int) : Int := firstW c spansN

def spansArr : Array Value := #[.int .i64 0, .int .i64 31, .int .i64 0, .int .i64 127, .int .i64 159, .int .i64 0, .int .i64 768, .int .i64 879, .int .i64 0, .int .i64 4352, .int .i64 4447, .int .i64 2, .int .i64 8203, .int .i64 8207, .int .i64 0, .int .i64 11904, .int .i64 42191, .int .i64 2, .int .i64 44032, .int .i64 55203, .int .i64 2, .int .i64 63744, .int .i64 64255, .int .i64 2, .int .i64 65024, .int .i64 65039, .int .i64 0, .int .i64 65072, .int .i64 65135, .int .i64 2, .int .i64 65280, .int .i64 65376, .int .i64 2, .int .i64 65504, .int .i64 65510, .int .i64 2, .int .i64 127744, .int .i64 128591, .int .i64 2, .int .i64 131072, .int .i64 262141, .int .i64 2]
def Spans (w : World) : Prop := ∃ t fr, w.heap[0]? = some (.cells spansArr t fr)
theorem Spans.kept {w w' : World} (h : Spans w) (hb : w'.heap[0]? = w.heap[0]?) : Spans w' := by
  obtain ⟨t, fr, h⟩ := h
  exact ⟨t, fr, hb.trans h⟩
def loArr : Array Value := #[.int .i64 0, .int .i64 127, .int .i64 768, .int .i64 4352, .int .i64 8203, .int .i64 11904, .int .i64 44032, .int .i64 63744, .int .i64 65024, .int .i64 65072, .int .i64 65280, .int .i64 65504, .int .i64 127744, .int .i64 131072]
def hiArr : Array Value := #[.int .i64 31, .int .i64 159, .int .i64 879, .int .i64 4447, .int .i64 8207, .int .i64 42191, .int .i64 55203, .int .i64 64255, .int .i64 65039, .int .i64 65135, .int .i64 65376, .int .i64 65510, .int .i64 128591, .int .i64 262141]
def wdArr : Array Value := #[.int .i64 0, .int .i64 0, .int .i64 0, .int .i64 2, .int .i64 0, .int .i64 2, .int .i64 2, .int .i64 2, .int .i64 0, .int .i64 2, .int .i64 2, .int .i64 2, .int .i64 2, .int .i64 2]

theorem info54 : (Tryd.prog.info? 102).map (·.size) = some spansArr.size := by kernel_rfl
theorem sidx0 (w : World) : (Instr.index 102 (.agg spansArr) (.int .i64 0)).run Tryd.prog w = .ok (.agg #[.int .i64 0, .int .i64 31, .int .i64 0]) w := by kernel_rfl
theorem sidx1 (w : World) : (Instr.index 102 (.agg spansArr) (.int .i64 1)).run Tryd.prog w = .ok (.agg #[.int .i64 127, .int .i64 159, .int .i64 0]) w := by kernel_rfl
theorem sidx2 (w : World) : (Instr.index 102 (.agg spansArr) (.int .i64 2)).run Tryd.prog w = .ok (.agg #[.int .i64 768, .int .i64 879, .int .i64 0]) w := by kernel_rfl
theorem sidx3 (w : World) : (Instr.index 102 (.agg spansArr) (.int .i64 3)).run Tryd.prog w = .ok (.agg #[.int .i64 4352, .int .i64 4447, .int .i64 2]) w := by kernel_rfl
theorem sidx4 (w : World) : (Instr.index 102 (.agg spansArr) (.int .i64 4)).run Tryd.prog w = .ok (.agg #[.int .i64 8203, .int .i64 8207, .int .i64 0]) w := by kernel_rfl
theorem sidx5 (w : World) : (Instr.index 102 (.agg spansArr) (.int .i64 5)).run Tryd.prog w = .ok (.agg #[.int .i64 11904, .int .i64 42191, .int .i64 2]) w := by kernel_rfl
theorem sidx6 (w : World) : (Instr.index 102 (.agg spansArr) (.int .i64 6)).run Tryd.prog w = .ok (.agg #[.int .i64 44032, .int .i64 55203, .int .i64 2]) w := by kernel_rfl
theorem sidx7 (w : World) : (Instr.index 102 (.agg spansArr) (.int .i64 7)).run Tryd.prog w = .ok (.agg #[.int .i64 63744, .int .i64 64255, .int .i64 2]) w := by kernel_rfl
theorem sidx8 (w : World) : (Instr.index 102 (.agg spansArr) (.int .i64 8)).run Tryd.prog w = .ok (.agg #[.int .i64 65024, .int .i64 65039, .int .i64 0]) w := by kernel_rfl
theorem sidx9 (w : World) : (Instr.index 102 (.agg spansArr) (.int .i64 9)).run Tryd.prog w = .ok (.agg #[.int .i64 65072, .int .i64 65135, .int .i64 2]) w := by kernel_rfl
theorem sidx10 (w : World) : (Instr.index 102 (.agg spansArr) (.int .i64 10)).run Tryd.prog w = .ok (.agg #[.int .i64 65280, .int .i64 65376, .int .i64 2]) w := by kernel_rfl
theorem sidx11 (w : World) : (Instr.index 102 (.agg spansArr) (.int .i64 11)).run Tryd.prog w = .ok (.agg #[.int .i64 65504, .int .i64 65510, .int .i64 2]) w := by kernel_rfl
theorem sidx12 (w : World) : (Instr.index 102 (.agg spansArr) (.int .i64 12)).run Tryd.prog w = .ok (.agg #[.int .i64 127744, .int .i64 128591, .int .i64 2]) w := by kernel_rfl
theorem sidx13 (w : World) : (Instr.index 102 (.agg spansArr) (.int .i64 13)).run Tryd.prog w = .ok (.agg #[.int .i64 131072, .int .i64 262141, .int .i64 2]) w := by kernel_rfl

/-- The k-th span, wherever it is told. -/
theorem span_k (k : Nat) (hk : k < 14) :
    ∃ a b x : Int, (∀ w, (Instr.index 102 (.agg spansArr) (.int .i64 k)).run Tryd.prog w = .ok (.agg #[.int .i64 a, .int .i64 b, .int .i64 x]) w) ∧
      spansN.drop k = (a, b, x) :: spansN.drop (k + 1) ∧ loArr[k]? = some (.int .i64 a) ∧ hiArr[k]? = some (.int .i64 b) ∧ wdArr[k]? = some (.int .i64 x) := by
  match k, hk with
  | 0, _ => exact ⟨_, _, _, sidx0, rfl, rfl, rfl, rfl⟩
  | 1, _ => exact ⟨_, _, _, sidx1, rfl, rfl, rfl, rfl⟩
  | 2, _ => exact ⟨_, _, _, sidx2, rfl, rfl, rfl, rfl⟩
  | 3, _ => exact ⟨_, _, _, sidx3, rfl, rfl, rfl, rfl⟩
  | 4, _ => exact ⟨_, _, _, sidx4, rfl, rfl, rfl, rfl⟩
  | 5, _ => exact ⟨_, _, _, sidx5, rfl, rfl, rfl, rfl⟩
  | 6, _ => exact ⟨_, _, _, sidx6, rfl, rfl, rfl, rfl⟩
  | 7, _ => exact ⟨_, _, _, sidx7, rfl, rfl, rfl, rfl⟩
  | 8, _ => exact ⟨_, _, _, sidx8, rfl, rfl, rfl, rfl⟩
  | 9, _ => exact ⟨_, _, _, sidx9, rfl, rfl, rfl, rfl⟩
  | 10, _ => exact ⟨_, _, _, sidx10, rfl, rfl, rfl, rfl⟩
  | 11, _ => exact ⟨_, _, _, sidx11, rfl, rfl, rfl, rfl⟩
  | 12, _ => exact ⟨_, _, _, sidx12, rfl, rfl, rfl, rfl⟩
  | 13, _ => exact ⟨_, _, _, sidx13, rfl, rfl, rfl, rfl⟩
  | n + 14, h => omega

theorem first_hit {c a b x : Int} {l r : List (Int × Int × Int)} (e : l = (a, b, x) :: r) (h1 : a ≤ c) (h2 : c ≤ b) : firstW c l = x := by rw [e]; simp only [firstW]; rw [if_pos ⟨h1, h2⟩]
theorem first_miss {c a b x : Int} {l r : List (Int × Int × Int)} (e : l = (a, b, x) :: r) (h : ¬ (a ≤ c ∧ c ≤ b)) : firstW c l = firstW c r := by rw [e]; simp only [firstW]; rw [if_neg h]

set_option maxHeartbeats 1000000 in
theorem width_walk (c : Int) (w : World) (hsp : Spans w) :
    Calls Tryd.prog 31 #[.int .i64 c] w fun e w' => e = .returned (.int .i64 (widN c)) ∧ Below w.heap.size w w' := by
  obtain ⟨lt, lfr, hleads⟩ := hsp
  have HL : Hid (w.heap[0]? = some (.cells spansArr lt lfr)) := hleads
  clear hleads
  go_enter Tryd.func31, Tryd.ntmps31
  go_wp2_with (refine wpList_load_row rfl 102 _ rfl 0 rfl lt spansArr lfr _ HL.out Tryd.underlying102 rfl info54 ?_)
  go_loopw [6] (fun i wr => ∃ k : Nat, k ≤ 14 ∧ i = .int .i64 k ∧ Below w.heap.size w wr ∧ Hid (firstW c (spansN.drop k) = widN c)) (fun i _ => 14 - (intOf i).toNat)
  case atStart => exact ⟨0, Nat.zero_le _, rfl, Below.refl _ _, rfl⟩
  case round =>
    obtain ⟨k, hk, rfl, hbel, hno⟩ := hrel
    by_cases hlt : k < 14
    · obtain ⟨a, b, x, hidx, hdr, _, _, _⟩ := span_k k hlt
      have HD : Hid _ := hdr
      clear hdr
      go_wp2_with fail
      · have h1 : a ≤ c := by assumption
        have h2 : c ≤ b := by assumption
        go_ret
        exact ⟨by rw [← hno.out, first_hit HD.out h1 h2]; rfl, hbel.alloc hbel.size _⟩
      · have h2 : b < c := by assumption
        go_roundw
        case rel => exact ⟨k + 1, by omega, by go_num, hbel.alloc hbel.size _, by rw [← hno.out, first_miss HD.out (by omega)]; rfl⟩
        case measure => simp [intOf]; omega
      · have h2 : ¬ a ≤ c := by assumption
        go_roundw
        case rel => exact ⟨k + 1, by omega, by go_num, hbel.alloc hbel.size _, by rw [← hno.out, first_miss HD.out (by omega)]; rfl⟩
        case measure => simp [intOf]; omega
    · have hk8 : k = 14 := by omega
      subst hk8
      go_wp2_with fail
      go_ret
      exact ⟨by rw [← hno.out]; rfl, hbel⟩

theorem width_any (c : Int) (w : World) (hsp : Spans w) :
    Calls Tryd.prog 10 #[.int .i64 c] w fun e w' => e = .returned (.int .i64 (widN c)) ∧ Below w.heap.size w w' := by
  go_enter Tryd.func10, Tryd.ntmps10
  go_wp2_with (go_at_call 31; refine (width_walk c w hsp).mono ?_; rintro e w1 ⟨rfl, hb⟩)
  go_ret
  exact ⟨rfl, hb⟩

theorem heap3 (w : World) (a b c : Obj) : (((w.alloc a).alloc b).alloc c).heap[w.heap.size]? = some a ∧ (((w.alloc a).alloc b).alloc c).heap[w.heap.size + 1]? = some b ∧ (((w.alloc a).alloc b).alloc c).heap[w.heap.size + 2]? = some c := by
  have z1 : (w.alloc a).heap.size = w.heap.size + 1 := by simp
  have z2 : ((w.alloc a).alloc b).heap.size = w.heap.size + 2 := by simp
  refine ⟨?_, ?_, ?_⟩
  · exact (Below.heap_alloc _ c _ (by omega)).trans ((Below.heap_alloc _ b _ (by omega)).trans (heap_alloc_new w a))
  · exact (Below.heap_alloc _ c _ (by omega)).trans (z1 ▸ heap_alloc_new (w.alloc a) b)
  · exact z2 ▸ heap_alloc_new ((w.alloc a).alloc b) c

set_option maxHeartbeats 1000000 in
theorem refWidth_any (c : Int) (w : World) :
    Calls Tryd.prog 11 #[.int .i64 c] w fun e w' => e = .returned (.int .i64 (widN c)) ∧ Below w.heap.size w w' := by
  go_enter Tryd.func11, Tryd.ntmps11
  go_wp2_with fail
  go_loopw [6] (fun i wr => ∃ k : Nat, k ≤ 14 ∧ i = .int .i64 k ∧ Below w.heap.size w wr ∧ Hid (firstW c (spansN.drop k) = widN c) ∧
      wr.heap[w.heap.size]? = some (.cells loArr 3 (0, 0)) ∧ wr.heap[w.heap.size + 1]? = some (.cells hiArr 3 (0, 0)) ∧ wr.heap[w.heap.size + 2]? = some (.cells wdArr 3 (0, 0))) (fun i _ => 14 - (intOf i).toNat)
  case atStart =>
    refine ⟨0, Nat.zero_le _, rfl, (((Below.refl _ _).alloc (Nat.le_refl _) _).alloc (by simp) _).alloc (by simp; omega) _, rfl, ?_, ?_, ?_⟩
    · exact (heap3 _ _ _ _).1
    · exact (heap3 _ _ _ _).2.1
    · exact (heap3 _ _ _ _).2.2
  case round =>
    obtain ⟨k, hk, rfl, hbel, hno, e1, e2, e3⟩ := hrel
    by_cases hlt : k < 14
    · obtain ⟨a, b, x, _, hdr, q1, q2, q3⟩ := span_k k hlt
      have HD : Hid _ := hdr
      clear hdr
      have c1 := (cell_of_row _ _ k _ _ _ e1).trans q1
      have c2 := (cell_of_row _ _ k _ _ _ e2).trans q2
      have c3 := (cell_of_row _ _ k _ _ _ e3).trans q3
      have E1 : Hid _ := e1
      have E2 : Hid _ := e2
      have E3 : Hid _ := e3
      clear e1 e2 e3 q1 q2 q3
      go_wp2_with fail
      · have h1 : a ≤ c := by assumption
        have h2 : c ≤ b := by assumption
        go_ret
        exact ⟨by rw [← hno.out, first_hit HD.out h1 h2]; rfl, hbel⟩
      · have h2 : b < c := by assumption
        go_roundw
        case rel => exact ⟨k + 1, by omega, by go_num, hbel, by rw [← hno.out, first_miss HD.out (by omega)]; rfl, E1.out, E2.out, E3.out⟩
        case measure => simp [intOf]; omega
      · have h2 : ¬ a ≤ c := by assumption
        go_roundw
        case rel => exact ⟨k + 1, by omega, by go_num, hbel, by rw [← hno.out, first_miss HD.out (by omega)]; rfl, E1.out, E2.out, E3.out⟩
        case measure => simp [intOf]; omega
    · have hk8 : k = 14 := by omega
      subst hk8
      clear e1 e2 e3
      go_wp2_with fail
      go_ret
      exact ⟨by rw [← hno.out]; rfl, hbel⟩

end Go.Proofs.YtheibfffilomcaaDoor
