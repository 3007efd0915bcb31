/- The walks of the machine of modes: its small functions. -/
import Derived.Test.YtheibfffilomcaaDoorMdef
namespace Go.Proofs.YtheibfffilomcaaDoor
open Go.RowKit

set_option maxHeartbeats 400000 in
theorem final_any (c : Int) (w : World) : Calls Tryd.prog 73 #[.int .i64 c] w fun e w' => e = .returned (.bool (finalN c)) ∧ w = w' := by
  by_cases c1 : 64 ≤ c
  · by_cases c2 : c ≤ 126
    · have e : finalN c = true := by simp [finalN, c1, c2]
      rw [e]; clear e
      go_enter Tryd.func73, Tryd.ntmps73
      go_wp2
      go_ret
      exact ⟨rfl, rfl⟩
    · have e : finalN c = false := by simp [finalN, c2]
      have d2 : decide (c ≤ 126) = false := by simp [c2]
      rw [e]; clear e
      go_enter Tryd.func73, Tryd.ntmps73
      go_wp2
      go_ret
      exact ⟨rfl, rfl⟩
  · have e : finalN c = false := by simp [finalN, c1]
    have d2 : decide (64 ≤ c) = false := by simp [c1]
    rw [e]; clear e
    go_enter Tryd.func73, Tryd.ntmps73
    go_wp2
    go_ret
    exact ⟨rfl, rfl⟩
theorem final_is (c : Int) (t : Bool) (w : World) (h : finalN c = t) : Calls Tryd.prog 73 #[.int .i64 c] w fun e w' => e = .returned (.bool t) ∧ w = w' := h ▸ final_any c w

set_option maxHeartbeats 400000 in
theorem mark2_any (c : Int) (w : World) : Calls Tryd.prog 71 #[.int .i64 c] w fun e w' => e = .returned (.bool (markN c)) ∧ w = w' := by
  by_cases h0 : c = 63
  · have e : markN c = true := by simp [markN, h0]
    rw [e]; clear e
    subst h0
    go_enter Tryd.func71, Tryd.ntmps71
    go_wp2
    go_ret
    exact ⟨rfl, rfl⟩
  · by_cases h1 : c = 62
    · have e : markN c = true := by simp [markN, h1]
      rw [e]; clear e
      subst h1
      clear h0
      go_enter Tryd.func71, Tryd.ntmps71
      go_wp2
      go_ret
      exact ⟨rfl, rfl⟩
    · by_cases h2 : c = 61
      · have e : markN c = true := by simp [markN, h2]
        rw [e]; clear e
        subst h2
        clear h0 h1
        go_enter Tryd.func71, Tryd.ntmps71
        go_wp2
        go_ret
        exact ⟨rfl, rfl⟩
      · by_cases h3 : c = 60
        · have e : markN c = true := by simp [markN, h3]
          rw [e]; clear e
          subst h3
          clear h0 h1 h2
          go_enter Tryd.func71, Tryd.ntmps71
          go_wp2
          go_ret
          exact ⟨rfl, rfl⟩
        · have e : markN c = false := by simp [markN, h0, h1, h2, h3]
          have b0 : (c == 63) = false := by simp [h0]
          have b1 : (c == 62) = false := by simp [h1]
          have b2 : (c == 61) = false := by simp [h2]
          have b3 : (c == 60) = false := by simp [h3]
          rw [e]; clear e h0 h1 h2 h3
          go_enter Tryd.func71, Tryd.ntmps71
          go_wp2
          go_ret
          exact ⟨rfl, rfl⟩
theorem mark2_is (c : Int) (t : Bool) (w : World) (h : markN c = t) : Calls Tryd.prog 71 #[.int .i64 c] w fun e w' => e = .returned (.bool t) ∧ w = w' := h ▸ mark2_any c w

set_option maxHeartbeats 400000 in
theorem text_any (c : Int) (w : World) : Calls Tryd.prog 95 #[.int .i64 c] w fun e w' => e = .returned (.bool (textN c)) ∧ w = w' := by
  by_cases h0 : c = 93
  · have e : textN c = true := by simp [textN, h0]
    rw [e]; clear e
    subst h0
    go_enter Tryd.func95, Tryd.ntmps95
    go_wp2
    go_ret
    exact ⟨rfl, rfl⟩
  · by_cases h1 : c = 80
    · have e : textN c = true := by simp [textN, h1]
      rw [e]; clear e
      subst h1
      clear h0
      go_enter Tryd.func95, Tryd.ntmps95
      go_wp2
      go_ret
      exact ⟨rfl, rfl⟩
    · by_cases h2 : c = 88
      · have e : textN c = true := by simp [textN, h2]
        rw [e]; clear e
        subst h2
        clear h0 h1
        go_enter Tryd.func95, Tryd.ntmps95
        go_wp2
        go_ret
        exact ⟨rfl, rfl⟩
      · by_cases h3 : c = 94
        · have e : textN c = true := by simp [textN, h3]
          rw [e]; clear e
          subst h3
          clear h0 h1 h2
          go_enter Tryd.func95, Tryd.ntmps95
          go_wp2
          go_ret
          exact ⟨rfl, rfl⟩
        · by_cases h4 : c = 95
          · have e : textN c = true := by simp [textN, h4]
            rw [e]; clear e
            subst h4
            clear h0 h1 h2 h3
            go_enter Tryd.func95, Tryd.ntmps95
            go_wp2
            go_ret
            exact ⟨rfl, rfl⟩
          · have e : textN c = false := by simp [textN, h0, h1, h2, h3, h4]
            have b0 : (c == 93) = false := by simp [h0]
            have b1 : (c == 80) = false := by simp [h1]
            have b2 : (c == 88) = false := by simp [h2]
            have b3 : (c == 94) = false := by simp [h3]
            have b4 : (c == 95) = false := by simp [h4]
            rw [e]; clear e h0 h1 h2 h3 h4
            go_enter Tryd.func95, Tryd.ntmps95
            go_wp2
            go_ret
            exact ⟨rfl, rfl⟩
theorem text_is (c : Int) (t : Bool) (w : World) (h : textN c = t) : Calls Tryd.prog 95 #[.int .i64 c] w fun e w' => e = .returned (.bool t) ∧ w = w' := h ▸ text_any c w

set_option maxHeartbeats 1000000 in
theorem skip_walk (mb mo : Nat) (s : MS) (c : Int) (w : World) (h : MAt w mb mo s) :
    Calls Tryd.prog 60 #[.pointer (some ⟨mb, mo, none⟩), .int .i64 c] w fun e w' => e = .returned (.tuple #[]) ∧ MAt w' mb mo (s.skip c) ∧ Km mb mo w w' := by
  by_cases h1 : c = 7
  · have e : s.skip c = .zero := by simp [MS.skip, h1]
    rw [e]; clear e
    subst h1
    go_enter Tryd.func60, Tryd.ntmps60
    go_wp2_with (refine wp_mset _ rfl (.tmp 12) (.tmp 11) rfl mb mo s .zero rfl _ rfl ?a1 z16_length h ?_)
    case a1 => rfl
    intro u hm hk _
    go_wp2_with fail
    go_end0
    exact ⟨rfl, hm, hk⟩
  · by_cases h2 : c = 156
    · have e : s.skip c = .zero := by simp [MS.skip, h2]
      rw [e]; clear e
      subst h2
      go_enter Tryd.func60, Tryd.ntmps60
      go_wp2_with (refine wp_mset _ rfl (.tmp 12) (.tmp 11) rfl mb mo s .zero rfl _ rfl ?a1 z16_length h ?_)
      case a1 => rfl
      intro u hm hk _
      go_wp2_with fail
      go_end0
      exact ⟨rfl, hm, hk⟩
    · have e : s.skip c = s := by simp [MS.skip, h1, h2]
      rw [e]; clear e
      have b1 : (c == 7) = false := by simp [h1]
      have b2 : (c == 156) = false := by simp [h2]
      clear h1 h2
      go_enter Tryd.func60, Tryd.ntmps60
      go_wp2_with fail
      go_end0
      exact ⟨rfl, h, Km.refl _ _ _⟩

end Go.Proofs.YtheibfffilomcaaDoor
