/- The walks of the document's own reading of characters: length, goes, char, Chars. -/
import Derived.Test.YtheibfffilomcaaDoorWc
import Derived.Test.YtheibfffilomcaaDoorRef
namespace Go.Proofs.YtheibfffilomcaaDoor
open Go.RowKit

theorem ret_int' {k : IntKind} {a b : Int} (h : a = b) : Ending.returned (.int k a) = .returned (.int k b) := by rw [h]
theorem ret_bool' {a b : Bool} (h : a = b) : Ending.returned (.bool a) = .returned (.bool b) := by rw [h]

set_option maxHeartbeats 400000 in
theorem length_any (b : Int) (w : World) :
    Calls Tryd.prog 66 #[.int .i64 b] w fun e w' => e = .returned (.int .i64 (lenN b)) ∧ w = w' := by
  by_cases a1 : b < 128
  · have e : lenN b = 1 := by simp [lenN, a1]
    rw [e]; clear e
    go_enter Tryd.func66, Tryd.ntmps66
    go_wp2
    go_ret
    exact ⟨rfl, rfl⟩
  · by_cases a2 : 194 ≤ b
    · by_cases a3 : b ≤ 223
      · have e : lenN b = 2 := by simp [lenN, a1, a2, a3]
        rw [e]; clear e
        go_enter Tryd.func66, Tryd.ntmps66
        go_wp2
        go_ret
        exact ⟨rfl, rfl⟩
      · by_cases a4 : b ≤ 239
        · have e : lenN b = 3 := by simp [lenN, a1, a3, a4]; omega
          rw [e]; clear e
          have a5 : 224 ≤ b := by omega
          go_enter Tryd.func66, Tryd.ntmps66
          go_wp2
          go_ret
          exact ⟨rfl, rfl⟩
        · by_cases a5 : b ≤ 244
          · have e : lenN b = 4 := by simp [lenN, a1, a3, a4, a5]; omega
            rw [e]; clear e
            have a6 : 224 ≤ b := by omega
            have a7 : 240 ≤ b := by omega
            go_enter Tryd.func66, Tryd.ntmps66
            go_wp2
            go_ret
            exact ⟨rfl, rfl⟩
          · have e : lenN b = 0 := by simp [lenN, a1, a3, a4, a5]
            rw [e]; clear e
            have a6 : 224 ≤ b := by omega
            have a7 : 240 ≤ b := by omega
            go_enter Tryd.func66, Tryd.ntmps66
            go_wp2
            go_ret
            exact ⟨rfl, rfl⟩
    · have e : lenN b = 0 := by simp [lenN, a1, a2]; omega
      rw [e]; clear e
      have d1 : decide (194 ≤ b) = false := by simp; omega
      have d2 : decide (224 ≤ b) = false := by simp; omega
      have d3 : decide (240 ≤ b) = false := by simp; omega
      go_enter Tryd.func66, Tryd.ntmps66
      go_wp2
      go_ret
      exact ⟨rfl, rfl⟩

set_option maxHeartbeats 400000 in
theorem goes_224 (b : Int) (w : World) :
    Calls Tryd.prog 67 #[.int .i64 224, .int .i64 1, .int .i64 b] w fun e w' => e = .returned (.bool (goesN 224 1 b)) ∧ w = w' := by
  have hlo : loN 224 1 = 160 := by decide
  have hhi : hiN 224 1 = 191 := by decide
  by_cases c1 : 160 ≤ b
  · by_cases c2 : b ≤ 191
    · have e : goesN 224 1 b = true := by simp [goesN, hlo, hhi, c1, c2]
      rw [e]; clear e hlo hhi
      go_enter Tryd.func67, Tryd.ntmps67
      go_wp2
      go_ret
      exact ⟨rfl, rfl⟩
    · have e : goesN 224 1 b = false := by simp [goesN, hlo, hhi, c2]
      have d2 : decide (b ≤ 191) = false := by simp [c2]
      rw [e]; clear e hlo hhi
      go_enter Tryd.func67, Tryd.ntmps67
      go_wp2
      go_ret
      exact ⟨rfl, rfl⟩
  · have e : goesN 224 1 b = false := by simp [goesN, hlo, hhi, c1]
    have d2 : decide (160 ≤ b) = false := by simp [c1]
    rw [e]; clear e hlo hhi
    go_enter Tryd.func67, Tryd.ntmps67
    go_wp2
    go_ret
    exact ⟨rfl, rfl⟩

set_option maxHeartbeats 400000 in
theorem goes_237 (b : Int) (w : World) :
    Calls Tryd.prog 67 #[.int .i64 237, .int .i64 1, .int .i64 b] w fun e w' => e = .returned (.bool (goesN 237 1 b)) ∧ w = w' := by
  have hlo : loN 237 1 = 128 := by decide
  have hhi : hiN 237 1 = 159 := by decide
  by_cases c1 : 128 ≤ b
  · by_cases c2 : b ≤ 159
    · have e : goesN 237 1 b = true := by simp [goesN, hlo, hhi, c1, c2]
      rw [e]; clear e hlo hhi
      go_enter Tryd.func67, Tryd.ntmps67
      go_wp2
      go_ret
      exact ⟨rfl, rfl⟩
    · have e : goesN 237 1 b = false := by simp [goesN, hlo, hhi, c2]
      have d2 : decide (b ≤ 159) = false := by simp [c2]
      rw [e]; clear e hlo hhi
      go_enter Tryd.func67, Tryd.ntmps67
      go_wp2
      go_ret
      exact ⟨rfl, rfl⟩
  · have e : goesN 237 1 b = false := by simp [goesN, hlo, hhi, c1]
    have d2 : decide (128 ≤ b) = false := by simp [c1]
    rw [e]; clear e hlo hhi
    go_enter Tryd.func67, Tryd.ntmps67
    go_wp2
    go_ret
    exact ⟨rfl, rfl⟩

set_option maxHeartbeats 400000 in
theorem goes_240 (b : Int) (w : World) :
    Calls Tryd.prog 67 #[.int .i64 240, .int .i64 1, .int .i64 b] w fun e w' => e = .returned (.bool (goesN 240 1 b)) ∧ w = w' := by
  have hlo : loN 240 1 = 144 := by decide
  have hhi : hiN 240 1 = 191 := by decide
  by_cases c1 : 144 ≤ b
  · by_cases c2 : b ≤ 191
    · have e : goesN 240 1 b = true := by simp [goesN, hlo, hhi, c1, c2]
      rw [e]; clear e hlo hhi
      go_enter Tryd.func67, Tryd.ntmps67
      go_wp2
      go_ret
      exact ⟨rfl, rfl⟩
    · have e : goesN 240 1 b = false := by simp [goesN, hlo, hhi, c2]
      have d2 : decide (b ≤ 191) = false := by simp [c2]
      rw [e]; clear e hlo hhi
      go_enter Tryd.func67, Tryd.ntmps67
      go_wp2
      go_ret
      exact ⟨rfl, rfl⟩
  · have e : goesN 240 1 b = false := by simp [goesN, hlo, hhi, c1]
    have d2 : decide (144 ≤ b) = false := by simp [c1]
    rw [e]; clear e hlo hhi
    go_enter Tryd.func67, Tryd.ntmps67
    go_wp2
    go_ret
    exact ⟨rfl, rfl⟩

set_option maxHeartbeats 400000 in
theorem goes_244 (b : Int) (w : World) :
    Calls Tryd.prog 67 #[.int .i64 244, .int .i64 1, .int .i64 b] w fun e w' => e = .returned (.bool (goesN 244 1 b)) ∧ w = w' := by
  have hlo : loN 244 1 = 128 := by decide
  have hhi : hiN 244 1 = 143 := by decide
  by_cases c1 : 128 ≤ b
  · by_cases c2 : b ≤ 143
    · have e : goesN 244 1 b = true := by simp [goesN, hlo, hhi, c1, c2]
      rw [e]; clear e hlo hhi
      go_enter Tryd.func67, Tryd.ntmps67
      go_wp2
      go_ret
      exact ⟨rfl, rfl⟩
    · have e : goesN 244 1 b = false := by simp [goesN, hlo, hhi, c2]
      have d2 : decide (b ≤ 143) = false := by simp [c2]
      rw [e]; clear e hlo hhi
      go_enter Tryd.func67, Tryd.ntmps67
      go_wp2
      go_ret
      exact ⟨rfl, rfl⟩
  · have e : goesN 244 1 b = false := by simp [goesN, hlo, hhi, c1]
    have d2 : decide (128 ≤ b) = false := by simp [c1]
    rw [e]; clear e hlo hhi
    go_enter Tryd.func67, Tryd.ntmps67
    go_wp2
    go_ret
    exact ⟨rfl, rfl⟩

set_option maxHeartbeats 400000 in
theorem goes_first (f b : Int) (w : World) (h1 : f ≠ 224) (h2 : f ≠ 237) (h3 : f ≠ 240) (h4 : f ≠ 244) :
    Calls Tryd.prog 67 #[.int .i64 f, .int .i64 1, .int .i64 b] w fun e w' => e = .returned (.bool (goesN f 1 b)) ∧ w = w' := by
  have hlo : loN f 1 = 128 := by simp [loN, h1, h3]
  have hhi : hiN f 1 = 191 := by simp [hiN, h2, h4]
  have b1 : (f == 224) = false := by simp [h1]
  have b2 : (f == 237) = false := by simp [h2]
  have b3 : (f == 240) = false := by simp [h3]
  have b4 : (f == 244) = false := by simp [h4]
  clear h1 h2 h3 h4
  by_cases c1 : 128 ≤ b
  · by_cases c2 : b ≤ 191
    · have e : goesN f 1 b = true := by simp [goesN, hlo, hhi, c1, c2]
      rw [e]; clear e hlo hhi
      go_enter Tryd.func67, Tryd.ntmps67
      go_wp2
      go_ret
      exact ⟨rfl, rfl⟩
    · have e : goesN f 1 b = false := by simp [goesN, hlo, hhi, c2]
      have d2 : decide (b ≤ 191) = false := by simp [c2]
      rw [e]; clear e hlo hhi
      go_enter Tryd.func67, Tryd.ntmps67
      go_wp2
      go_ret
      exact ⟨rfl, rfl⟩
  · have e : goesN f 1 b = false := by simp [goesN, hlo, hhi, c1]
    have d2 : decide (128 ≤ b) = false := by simp [c1]
    rw [e]; clear e hlo hhi
    go_enter Tryd.func67, Tryd.ntmps67
    go_wp2
    go_ret
    exact ⟨rfl, rfl⟩

set_option maxHeartbeats 400000 in
theorem goes_later (f k b : Int) (w : World) (hk : k ≠ 1) :
    Calls Tryd.prog 67 #[.int .i64 f, .int .i64 k, .int .i64 b] w fun e w' => e = .returned (.bool (goesN f k b)) ∧ w = w' := by
  have hlo : loN f k = 128 := by simp [loN, hk]
  have hhi : hiN f k = 191 := by simp [hiN, hk]
  have b1 : (k == 1) = false := by simp [hk]
  clear hk
  by_cases c1 : 128 ≤ b
  · by_cases c2 : b ≤ 191
    · have e : goesN f k b = true := by simp [goesN, hlo, hhi, c1, c2]
      rw [e]; clear e hlo hhi
      go_enter Tryd.func67, Tryd.ntmps67
      go_wp2
      go_ret
      exact ⟨rfl, rfl⟩
    · have e : goesN f k b = false := by simp [goesN, hlo, hhi, c2]
      have d2 : decide (b ≤ 191) = false := by simp [c2]
      rw [e]; clear e hlo hhi
      go_enter Tryd.func67, Tryd.ntmps67
      go_wp2
      go_ret
      exact ⟨rfl, rfl⟩
  · have e : goesN f k b = false := by simp [goesN, hlo, hhi, c1]
    have d2 : decide (128 ≤ b) = false := by simp [c1]
    rw [e]; clear e hlo hhi
    go_enter Tryd.func67, Tryd.ntmps67
    go_wp2
    go_ret
    exact ⟨rfl, rfl⟩

theorem goes_any (f k b : Int) (w : World) :
    Calls Tryd.prog 67 #[.int .i64 f, .int .i64 k, .int .i64 b] w fun e w' => e = .returned (.bool (goesN f k b)) ∧ w = w' := by
  by_cases hk : k = 1
  · subst hk
    by_cases f1 : f = 224
    · subst f1; exact goes_224 b w
    · by_cases f2 : f = 237
      · subst f2; exact goes_237 b w
      · by_cases f3 : f = 240
        · subst f3; exact goes_240 b w
        · by_cases f4 : f = 244
          · subst f4; exact goes_244 b w
          · exact goes_first f b w f1 f2 f3 f4
  · exact goes_later f k b w hk

end Go.Proofs.YtheibfffilomcaaDoor
