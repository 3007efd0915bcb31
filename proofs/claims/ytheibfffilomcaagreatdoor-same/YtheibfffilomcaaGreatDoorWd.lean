/- The walks of pick and utf. -/
import Derived.Test.YtheibfffilomcaaGreatDoorWc
import Derived.Test.YtheibfffilomcaaGreatDoorUtf
import Derived.Laws.BytesArg
namespace Go.Proofs.YtheibfffilomcaaGreatDoor
open Go.RowKit

theorem ret_int {k : IntKind} {a b : Int} (h : a = b) : Ending.returned (.int k a) = .returned (.int k b) := by rw [h]
theorem ret_str {a b : ByteArray} (h : a = b) : Ending.returned (.string a) = .returned (.string b) := by rw [h]

/-- What pick picks. -/
def pickN (c n : Int) : Int := if c < 0 then (-(c + 1)) % n else c % n
theorem pickN_range (c n : Int) (h : 1 ≤ n) : 0 ≤ pickN c n ∧ pickN c n < n := by
  unfold pickN
  split
  · exact ⟨Int.emod_nonneg _ (by omega), Int.emod_lt_of_pos _ (by omega)⟩
  · exact ⟨Int.emod_nonneg _ (by omega), Int.emod_lt_of_pos _ (by omega)⟩

set_option maxHeartbeats 400000 in
theorem pick_any (c n : Int) (w : World) (h0 : -9223372036854775808 ≤ c) (h1 : c ≤ 9223372036854775807) (hn : 1 ≤ n) (hn' : n ≤ 2000000) :
    Calls Tryz.prog 78 #[.int .i64 c, .int .i64 n] w fun e w' => e = .returned (.int .i64 (pickN c n)) ∧ w = w' := by
  have hn0 : (n == 0) = false := by simp; omega
  by_cases hc : c < 0
  · have He : Hid (pickN c n = -(c + 1).tmod n) := by
      show pickN c n = _
      unfold pickN
      rw [if_pos hc, ← Int.neg_tmod, Int.tmod_eq_emod_of_nonneg (by omega)]
    go_enter Tryz.func78, Tryz.ntmps78
    go_wp2
    go_ret
    rw [He.out]
    exact ⟨rfl, rfl⟩
  · have He : Hid (pickN c n = c % n) := by
      show pickN c n = _
      unfold pickN
      rw [if_neg hc]
    go_enter Tryz.func78, Tryz.ntmps78
    go_wp2
    go_ret
    rw [He.out]
    exact ⟨rfl, rfl⟩

theorem conv_bytes (u : World) (xs : List Int) (n : Nat) (hn : xs.length = n) :
    (convert 129 9 (.slice (some ⟨u.heap.size, 0, none⟩) n n)).run Tryz.prog (u.alloc (.cells (xs.map (Value.int .u8)).toArray 5)) = .ok (.string (strOfNums xs)) (u.alloc (.cells (xs.map (Value.int .u8)).toArray 5)) := by
  refine run_convert_bytes_arg (P := Tryz.prog) _ 129 5 Tryz.underlying129 Tryz.underlying5 u.heap.size 0 n n xs hn ?_ 9 Tryz.underlying9
  intro i hi
  rw [cell_of_row _ _ _ _ _ _ (heap_alloc_new u _)]
  simp [List.getD, List.getElem?_eq_getElem (show i < xs.length by omega)]
theorem conv1 (u : World) (a : Int) : (convert 129 9 (.slice (some ⟨u.heap.size, 0, none⟩) 1 1)).run Tryz.prog (u.alloc (.cells #[.int .u8 a] 5)) = .ok (.string (strOfNums [a])) (u.alloc (.cells #[.int .u8 a] 5)) := conv_bytes u [a] 1 rfl
theorem conv2 (u : World) (a b : Int) : (convert 129 9 (.slice (some ⟨u.heap.size, 0, none⟩) 2 2)).run Tryz.prog (u.alloc (.cells #[.int .u8 a, .int .u8 b] 5)) = .ok (.string (strOfNums [a, b])) (u.alloc (.cells #[.int .u8 a, .int .u8 b] 5)) := conv_bytes u [a, b] 2 rfl
theorem conv3 (u : World) (a b c : Int) : (convert 129 9 (.slice (some ⟨u.heap.size, 0, none⟩) 3 3)).run Tryz.prog (u.alloc (.cells #[.int .u8 a, .int .u8 b, .int .u8 c] 5)) = .ok (.string (strOfNums [a, b, c])) (u.alloc (.cells #[.int .u8 a, .int .u8 b, .int .u8 c] 5)) := conv_bytes u [a, b, c] 3 rfl
theorem conv4 (u : World) (a b c d : Int) : (convert 129 9 (.slice (some ⟨u.heap.size, 0, none⟩) 4 4)).run Tryz.prog (u.alloc (.cells #[.int .u8 a, .int .u8 b, .int .u8 c, .int .u8 d] 5)) = .ok (.string (strOfNums [a, b, c, d])) (u.alloc (.cells #[.int .u8 a, .int .u8 b, .int .u8 c, .int .u8 d] 5)) := conv_bytes u [a, b, c, d] 4 rfl

theorem bl_nums (l : List Int) (h : ∀ x ∈ l, 0 ≤ x ∧ x < 256) : bl (strOfNums l) = l := by
  unfold bl
  rw [strOfNums_data, List.map_map]
  induction l with
  | nil => rfl
  | cons x l ih =>
    have hx := h x (by simp)
    rw [List.map_cons, ih fun y hy => h y (by simp [hy])]
    congr 1
    simp only [Function.comp, UInt8.toNat_ofNat']
    omega
theorem bl_append (a b : ByteArray) : bl (a ++ b) = bl a ++ bl b := by
  unfold bl; simp
theorem nums_size (l : List Int) : (strOfNums l).size = l.length := strOfNums_size l

end Go.Proofs.YtheibfffilomcaaGreatDoor
