/- Walks of package cells: blank, tailOf, wipe, split. -/
import Derived.Test.YtheibfffilomcaaDoorEqc
namespace Go.Proofs.YtheibfffilomcaaDoor
open Go.RowKit

/-- A cell handed back. -/
theorem results_c {fn : Func} {p : Tmp} (h : fn.results = #[.cell p 49]) (tmps : Array Value) (w : World) (g : Nat) (c : CellS) (t : TypeId) (fr : Nat × Nat)
    (hp : tmps.getD p undef = .pointer (some ⟨g, 0, none⟩)) (hg : w.heap[g]? = some (.cells (cellA c) t fr)) :
    (results fn tmps).run Tryd.prog w = .ok (.agg (cellA c)) w :=
  results_cell_row h tmps w g t (cellA c) fr _ hp hg Tryd.underlying49 rfl (by rw [cellA_size]; exact info49)

theorem blank_any (w : World) : Calls Tryd.prog 129 #[] w fun e w' => e = .returned (.agg (cellA blankS)) ∧ Below w.heap.size w w' := by
  go_enter Tryd.func129, Tryd.ntmps129
  go_wp2
  exact bodyPost_ret (results_c Tryd.results129 _ _ w.heap.size blankS 49 (0, 0) rfl (heap_alloc_new _ _)) rfl ⟨rfl, (Below.refl _ _).alloc (Nat.le_refl _) _⟩

theorem tail_any (c : CellS) (w : World) : Calls Tryd.prog 101 #[.agg (cellA c)] w fun e w' => e = .returned (.agg (cellA (tailS c))) ∧ Below w.heap.size w w' := by
  change Calls Tryd.prog 101 #[.agg #[.int .i64 c.r, .bool c.p.b, .bool c.p.u, .bool c.p.t, .int .i64 c.p.f, .int .i64 c.p.k, .int .i64 c.part]] w _
  go_enter Tryd.func101, Tryd.ntmps101
  go_wp2
  refine bodyPost_ret (results_c Tryd.results101 _ _ (w.heap.size + 1) (tailS c) 49 (0, 0) (by simp) ?_) rfl ⟨rfl, ?_⟩
  · have hs : (w.alloc (.cells #[.int .i64 c.r, .bool c.p.b, .bool c.p.u, .bool c.p.t, .int .i64 c.p.f, .int .i64 c.p.k, .int .i64 c.part] 49)).heap.size = w.heap.size + 1 := by simp
    rw [← hs]
    exact heap_alloc_new _ _
  · exact ((Below.refl _ _).alloc (Nat.le_refl _) _).alloc (by simp) _

theorem wipe_set (r : List CellS) (a k : Nat) (h : a + k < r.length) : (wipeR r a k).set (a + k) blankS = wipeR r a (k + 1) := by
  unfold wipeR
  have h1 : (r.take a).length = a := by rw [List.length_take]; omega
  rw [List.set_append_right _ _ (by omega), h1, List.set_append_right _ _ (by simp), List.length_replicate, show a + k - a - k = 0 by omega, ← List.getElem_cons_drop h, List.set_cons_zero, List.replicate_succ', List.append_assoc]
  rfl
theorem wipe_none (r : List CellS) (a : Nat) : wipeR r a 0 = r := by simp [wipeR]

set_option maxHeartbeats 400000 in
theorem wipe_any (g off a n cap : Nat) (r : List CellS) (w : World) (hoff : off = a * 7) (hr : RowAt w g r) (han : a + n ≤ r.length) (hrl : r.length ≤ 100) :
    Calls Tryd.prog 100 #[.slice (some ⟨g, off, none⟩) n cap] w fun e w' => e = .returned (.tuple #[]) ∧ RowAt w' g (wipeR r a n) ∧ Ch (· = g) w w' := by
  subst hoff
  go_enter Tryd.func100, Tryd.ntmps100
  go_wp2_with fail
  go_loopw [5] (fun i wr => ∃ k : Nat, k ≤ n ∧ i = .int .i64 k ∧ RowAt wr g (wipeR r a k) ∧ Ch (· = g) w wr) (fun i _ => n - (intOf i).toNat)
  case atStart => exact ⟨0, Nat.zero_le _, rfl, by rw [wipe_none]; exact hr, Ch.refl _ _⟩
  case round =>
    obtain ⟨k, hk, rfl, hrk, hch⟩ := hrel
    by_cases hlt : k < n
    · have ik : (k : Int) < (n : Int) := by omega
      have hl : (wipeR r a k).length = r.length := wipeR_length r a k (by omega)
      have HR : Hid (RowAt wr g (wipeR r a k)) := hrk
      have HC : Hid _ := hch
      have HL : Hid _ := hl
      clear hrk hch hl
      go_wp2_with (first | (go_at_call 129; refine (blank_any _).mono ?_; rintro e w1 ⟨rfl, b1⟩) | (refine wp_cstore _ rfl (.tmp 11) (.tmp 10) rfl g (a * 7 + k * 7) (a + k) (wipeR r a k) blankS rfl (by omega) (cellA blankS) rfl rfl (HR.out.kept (b1.block g HR.out.lt)) (by rw [HL.out]; omega) ?_))
      intro u' hu cu su
      rw [wipe_set _ _ _ (by omega)] at hu
      have C2 : Ch (· = g) w u' := (HC.out.trans (Ch.of_below b1)).trans cu
      clear HR HC HL cu su b1
      go_wp2_with fail
      go_roundw
      case rel => exact ⟨k + 1, by omega, by go_num, hu, C2⟩
      case measure => simp [intOf]; omega
    · have hkn : k = n := by omega
      subst hkn
      go_wp2_with fail
      go_end0
      exact ⟨rfl, hrk, hch⟩
end Go.Proofs.YtheibfffilomcaaDoor
