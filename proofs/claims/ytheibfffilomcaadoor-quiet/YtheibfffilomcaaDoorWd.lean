/- The walks of pick and utf. -/
import Derived.Test.YtheibfffilomcaaDoorWc
import Derived.Test.YtheibfffilomcaaDoorUtf
import Derived.Laws.BytesArg
namespace Go.Proofs.YtheibfffilomcaaDoor
open Go.RowKit

theorem ret_int {k : IntKind} {a b : Int} (h : a = b) : Ending.returned (.int k a) = .returned (.int k b) := by rw [h]
theorem ret_str {a b : ByteArray} (h : a = b) : Ending.returned (.string a) = .returned (.string b) := by rw [h]

/-- What pick picks. -/
def pickN (c n : Int) : Int := if c < 0 then (-(c + 1)) % n else c % n
theorem pickN_range (c n : Int) (h : 1 ≤ n) : 0 ≤ pickN c n ∧ pickN c n < n := by
  unfold pickN
  split
  · exact ⟨Int.emod_nonneg _ (by omega), Int.emod_lt_of_pos _ (by omega)⟩
  · exact ⟨Int.emod_nonneg _ (by omega), Int.emod_lt_of_pos _ (by omega)⟩

set_option maxHeartbeats 400000 in
theorem pick_any (c n : Int) (w : World) (h0 : -9223372036854775808 ≤ c) (h1 : c ≤ 9223372036854775807) (hn : 1 ≤ n) (hn' : n ≤ 2000000) :
    Calls Tryd.prog 15 #[.int .i64 c, .int .i64 n] w fun e w' => e = .returned (.int .i64 (pickN c n)) ∧ w = w' := by
  have hn0 : (n == 0) = false := by simp; omega
  by_cases hc : c < 0
  · have He : Hid (pickN c n = -(c + 1).tmod n) := by
      show pickN c n = _
      unfold pickN
      rw [if_pos hc, ← Int.neg_tmod, Int.tmod_eq_emod_of_nonneg (by omega)]
    go_enter Tryd.func15, Tryd.ntmps15
    go_wp2
    go_ret
    rw [He.out]
    exact ⟨rfl, rfl⟩
  · have He : Hid (pickN c n = c % n) := by
      show pickN c n = _
      unfold pickN
      rw [if_neg hc]
    go_enter Tryd.func15, Tryd.ntmps15
    go_wp2
    go_ret
    rw [He.out]
    exact ⟨rfl, rfl⟩

theorem conv_bytes (u : World) (xs : List Int) (n : Nat) (hn : xs.length = n) :
    (convert 36 9 (.slice (some ⟨u.heap.size, 0, none⟩) n n)).run Tryd.prog (u.alloc (.cells (xs.map (Value.int .u8)).toArray 5)) = .ok (.string (strOfNums xs)) (u.alloc (.cells (xs.map (Value.int .u8)).toArray 5)) := by
  refine run_convert_bytes_arg (P := Tryd.prog) _ 36 5 Tryd.underlying36 Tryd.underlying5 u.heap.size 0 n n xs hn ?_ 9 Tryd.underlying9
  intro i hi
  rw [cell_of_row _ _ _ _ _ _ (heap_alloc_new u _)]
  simp [List.getD, List.getElem?_eq_getElem (show i < xs.length by omega)]
theorem conv1 (u : World) (a : Int) : (convert 36 9 (.slice (some ⟨u.heap.size, 0, none⟩) 1 1)).run Tryd.prog (u.alloc (.cells #[.int .u8 a] 5)) = .ok (.string (strOfNums [a])) (u.alloc (.cells #[.int .u8 a] 5)) := conv_bytes u [a] 1 rfl
theorem conv2 (u : World) (a b : Int) : (convert 36 9 (.slice (some ⟨u.heap.size, 0, none⟩) 2 2)).run Tryd.prog (u.alloc (.cells #[.int .u8 a, .int .u8 b] 5)) = .ok (.string (strOfNums [a, b])) (u.alloc (.cells #[.int .u8 a, .int .u8 b] 5)) := conv_bytes u [a, b] 2 rfl
theorem conv3 (u : World) (a b c : Int) : (convert 36 9 (.slice (some ⟨u.heap.size, 0, none⟩) 3 3)).run Tryd.prog (u.alloc (.cells #[.int .u8 a, .int .u8 b, .int .u8 c] 5)) = .ok (.string (strOfNums [a, b, c])) (u.alloc (.cells #[.int .u8 a, .int .u8 b, .int .u8 c] 5)) := conv_bytes u [a, b, c] 3 rfl
theorem conv4 (u : World) (a b c d : Int) : (convert 36 9 (.slice (some ⟨u.heap.size, 0, none⟩) 4 4)).run Tryd.prog (u.alloc (.cells #[.int .u8 a, .int .u8 b, .int .u8 c, .int .u8 d] 5)) = .ok (.string (strOfNums [a, b, c, d])) (u.alloc (.cells #[.int .u8 a, .int .u8 b, .int .u8 c, .int .u8 d] 5)) := conv_bytes u [a, b, c, d] 4 rfl

set_option maxHeartbeats 400000 in
theorem utf_1 (c : Int) (w : World) (h0 : 0 ≤ c) (h1 : c < 128) :
    Calls Tryd.prog 16 #[.int .i64 c] w fun e w' => e = .returned (.string (strOfNums [c])) ∧ Below w.heap.size w w' := by
  have k1 := conv1
  go_enter Tryd.func16, Tryd.ntmps16
  go_wp2
  go_ret
  exact ⟨rfl, (Below.refl _ _).alloc (Nat.le_refl _) _⟩
set_option maxHeartbeats 400000 in
theorem utf_2 (c : Int) (w : World) (h0 : 128 ≤ c) (h1 : c < 2048) :
    Calls Tryd.prog 16 #[.int .i64 c] w fun e w' => e = .returned (.string (strOfNums [192 + c / 64, 128 + c % 64])) ∧ Below w.heap.size w w' := by
  have k1 := conv2
  go_enter Tryd.func16, Tryd.ntmps16
  go_wp2
  go_ret
  exact ⟨rfl, (Below.refl _ _).alloc (Nat.le_refl _) _⟩
set_option maxHeartbeats 400000 in
theorem utf_3 (c : Int) (w : World) (h0 : 2048 ≤ c) (h1 : c < 65536) :
    Calls Tryd.prog 16 #[.int .i64 c] w fun e w' => e = .returned (.string (strOfNums [224 + c / 4096, 128 + c / 64 % 64, 128 + c % 64])) ∧ Below w.heap.size w w' := by
  have k1 := conv3
  go_enter Tryd.func16, Tryd.ntmps16
  go_wp2
  go_ret
  exact ⟨rfl, (Below.refl _ _).alloc (Nat.le_refl _) _⟩
set_option maxHeartbeats 400000 in
theorem utf_4 (c : Int) (w : World) (h0 : 65536 ≤ c) (h1 : c < 1114112) :
    Calls Tryd.prog 16 #[.int .i64 c] w fun e w' => e = .returned (.string (strOfNums [240 + c / 262144, 128 + c / 4096 % 64, 128 + c / 64 % 64, 128 + c % 64])) ∧ Below w.heap.size w w' := by
  have k1 := conv4
  go_enter Tryd.func16, Tryd.ntmps16
  go_wp2
  go_ret
  exact ⟨rfl, (Below.refl _ _).alloc (Nat.le_refl _) _⟩

theorem utf_any (c : Int) (w : World) (h0 : 0 ≤ c) (h1 : c < 1114112) :
    Calls Tryd.prog 16 #[.int .i64 c] w fun e w' => e = .returned (.string (strOfNums (utfN c))) ∧ Below w.heap.size w w' := by
  unfold utfN
  by_cases a1 : c < 128
  · rw [if_pos a1]; exact utf_1 c w h0 a1
  · rw [if_neg a1]
    by_cases a2 : c < 2048
    · rw [if_pos a2]; exact utf_2 c w (by omega) a2
    · rw [if_neg a2]
      by_cases a3 : c < 65536
      · rw [if_pos a3]; exact utf_3 c w (by omega) a3
      · rw [if_neg a3]; exact utf_4 c w (by omega) h1

theorem bl_nums (l : List Int) (h : ∀ x ∈ l, 0 ≤ x ∧ x < 256) : bl (strOfNums l) = l := by
  unfold bl
  rw [strOfNums_data, List.map_map]
  induction l with
  | nil => rfl
  | cons x l ih =>
    have hx := h x (by simp)
    rw [List.map_cons, ih fun y hy => h y (by simp [hy])]
    congr 1
    simp only [Function.comp, UInt8.toNat_ofNat']
    omega
theorem bl_append (a b : ByteArray) : bl (a ++ b) = bl a ++ bl b := by
  unfold bl; simp
theorem nums_size (l : List Int) : (strOfNums l).size = l.length := strOfNums_size l

end Go.Proofs.YtheibfffilomcaaDoor
