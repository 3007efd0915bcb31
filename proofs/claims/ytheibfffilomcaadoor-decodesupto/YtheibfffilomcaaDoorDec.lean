/- The walk of Decodes. -/
import Derived.Test.YtheibfffilomcaaDoorBoo4
import Derived.Test.YtheibfffilomcaaDoorWid
namespace Go.Proofs.YtheibfffilomcaaDoor
open Go.RowKit

/-- A new book. -/
def bookObj : Obj := .cells #[.slice none 0 0, .slice none 0 0, .slice none 0 0, .slice none 0 0, .slice none 0 0, .slice none 0 0, .int .i64 0] 30
theorem book_new (w : World) : BkAt (w.alloc bookObj) w.heap.size (.slice none 0 0) (.slice none 0 0) [] 0 := by
  have h : (w.alloc bookObj).heap[w.heap.size]? = some (.cells #[.slice none 0 0, .slice none 0 0, .slice none 0 0, .slice none 0 0, .slice none 0 0, .slice none 0 0, .int .i64 0] 30 (0, 0)) := heap_alloc_new w bookObj
  refine ⟨(cell_of_row _ _ 0 _ _ _ h).trans rfl, (cell_of_row _ _ 1 _ _ _ h).trans rfl, (cell_of_row _ _ 2 _ _ _ h).trans rfl, (cell_of_row _ _ 3 _ _ _ h).trans rfl, (cell_of_row _ _ 4 _ _ _ h).trans rfl, (cell_of_row _ _ 5 _ _ _ h).trans rfl, (cell_of_row _ _ 6 _ _ _ h).trans rfl, fun j hj => ?_, World.ownsRow_nil _ _ _ _, World.ownsRow_nil _ _ _ _, fun x hx => by simp at hx⟩
  unfold World.frozen?
  simp only [h]
  simp

set_option maxHeartbeats 2000000 in
theorem decodes_walk (ao : Option Addr) (len cap : Nat) (ss : List ByteArray) (c : Int) (w : World) (hle : Leads w) (hsp : Spans w) (hlen : len ≤ 1048576) (hss : ∀ j, (ss.getD j ByteArray.empty).size ≤ 1048576)
    (hc : ∀ j, j < len → ∃ b off, ao = some ⟨b, off, none⟩ ∧ b < w.heap.size ∧ w.cell? ⟨b, off + j, none⟩ = some (.string (ss.getD j ByteArray.empty))) :
    Calls Tryd.prog 3 #[.slice ao len cap, .int .i64 c] w fun e w' => e = .returned (.bool true) ∧ Below w.heap.size w w' := by
  have hw0 : (widN c != widN c) = false := by simp
  go_enter Tryd.func3, Tryd.ntmps3
  go_wp2_with fail
  refine (width_any c _ hsp).mono ?_
  rintro e w1 ⟨rfl, b1⟩
  go_wp2_with fail
  refine (refWidth_any c _).mono ?_
  rintro e w2 ⟨rfl, b2⟩
  have hb2 : Below w.heap.size w w2 := b1.trans (b2.mono b1.size)
  have hsz2 := hb2.size
  have h1 := hle.lt
  have B0 := book_new w2
  have hb3 : Below w.heap.size w (w2.alloc bookObj) := hb2.alloc hsz2 _
  clear b1 b2 hsp
  go_wp2_with fail
  go_loopw [7] (fun i wr => ∃ (k : Nat) (vi vm : Value) (E : List (Value × Int)) (nx : Int), k ≤ len ∧ i = .int .i64 k ∧ BkAt wr w2.heap.size vi vm E nx ∧ E.length ≤ 8 * k ∧ -(2 * k) ≤ nx ∧ nx ≤ 0 ∧ Below w2.heap.size (w2.alloc bookObj) wr) (fun i _ => len - (intOf i).toNat)
  case atStart => exact ⟨0, _, _, _, _, Nat.zero_le _, rfl, B0, Nat.le_refl _, by omega, by omega, Below.refl _ _⟩
  case round =>
    obtain ⟨k, vi, vm, E, nx, hk, rfl, B, hE, hn0, hn1, hb⟩ := hrel
    have hbw : Below w.heap.size w wr := hb3.trans (hb.mono hsz2)
    by_cases hlt : k < len
    · obtain ⟨b, off, rfl, hbb, hcell⟩ := hc k hlt
      have hcr := (hbw.cell (p := ⟨b, off + k, none⟩) hbb).trans hcell
      have hs := hss k
      have hler : Leads wr := hle.kept (hbw.block 1 h1)
      clear hcell hc hss
      generalize ss.getD k ByteArray.empty = s at *
      go_wp2_with fail
      refine (bookRunes_any w2.heap.size vi vm E nx s _ B hler (by omega) (by omega) (by omega) hn1).mono ?_
      rintro e w4 ⟨vi', vm', E', rfl, B', hE', hb'⟩
      have hE2 : E'.length ≤ 8 * (k + 1) := by omega
      clear hE'
      go_wp2_with fail
      refine (looks_any w2.heap.size vi' vm' E' (nx - 2) _ (by omega) B').mono ?_
      rintro e w5 ⟨rfl, hb5⟩
      have B5 := B'.below hb5
      have hlt5 : w2.heap.size < w4.heap.size := World.block_lt_of_cell? _ _ B'.c0
      have hb6 : Below w2.heap.size (w2.alloc bookObj) w5 := (hb.trans hb').trans (hb5.mono (by omega))
      clear B B' hb hb' hb5
      go_wp2_with fail
      go_roundw
      case rel => exact ⟨k + 1, vi', vm', E', nx - 2, by omega, by go_num, B5, hE2, by omega, by omega, hb6⟩
      case measure => simp [intOf]; omega
    · clear B hc
      go_wp2_with fail
      go_ret
      exact ⟨rfl, hbw⟩

end Go.Proofs.YtheibfffilomcaaDoor
