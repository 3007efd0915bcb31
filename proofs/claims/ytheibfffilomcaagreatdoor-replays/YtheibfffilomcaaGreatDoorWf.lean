/- The walks of the document's own reading of characters: char, Chars. -/
import Derived.Test.YtheibfffilomcaaGreatDoorWe
namespace Go.Proofs.YtheibfffilomcaaGreatDoor
open Go.RowKit

theorem length_is (b n : Int) (w : World) (h : lenN b = n) : Calls Tryz.prog 118 #[.int .i64 b] w fun e w' => e = .returned (.int .i64 n) ∧ w = w' := h ▸ length_any b w
theorem goes_is (f k b : Int) (t : Bool) (w : World) (h : goesN f k b = t) : Calls Tryz.prog 119 #[.int .i64 f, .int .i64 k, .int .i64 b] w fun e w' => e = .returned (.bool t) ∧ w = w' := h ▸ goes_any f k b w

theorem bl_at (s : ByteArray) (k : Nat) (h : k < s.size) : (bl s).drop k = ((s[k]'h).toNat : Int) :: (bl s).drop (k + 1) := by
  have h' : k < (bl s).length := by rw [bl_length]; exact h
  rw [List.drop_eq_getElem_cons h']
  simp [bl]
  rfl
theorem bl_end (s : ByteArray) (k : Nat) (h : s.size ≤ k) : (bl s).drop k = [] := List.drop_eq_nil_of_le (by rw [bl_length]; exact h)
theorem bl_byte (s : ByteArray) : ∀ b ∈ bl s, 0 ≤ b ∧ b < 256 := by
  intro b hb
  obtain ⟨c, _, rfl⟩ := List.mem_map.1 hb
  have := UInt8.toNat_lt c
  omega

theorem refGo_end (f : Int) (n k : Nat) (v : Int) (h : k < n) : refGo f n [] k v = (65533, k, false) := by simp [refGo, h]
theorem refGo_yes (f : Int) (n k : Nat) (v b : Int) (r : List Int) (h : k < n) (hg : goesN f k b = true) : refGo f n (b :: r) k v = refGo f n r (k + 1) (64 * v + b - 128) := by simp [refGo, h, hg]
theorem refGo_no (f : Int) (n k : Nat) (v b : Int) (r : List Int) (h : k < n) (hg : goesN f k b = false) : refGo f n (b :: r) k v = (65533, k, true) := by simp [refGo, h, hg]
theorem refGo_done (f : Int) (n : Nat) (v : Int) (r : List Int) : refGo f n r n v = (v, n, true) := by cases r <;> simp [refGo]
theorem goesN_range {f k b : Int} (h : goesN f k b = true) : 128 ≤ b ∧ b ≤ 191 := by
  have hg : loN f k ≤ b ∧ b ≤ hiN f k := by simpa [goesN] using h
  unfold loN hiN at hg
  repeat' split at hg
  all_goals omega

theorem tup_eq {a b : Int} {p q : Nat} {x y : Bool} (h : (a, p, x) = (b, q, y)) (at' : Nat) : Ending.returned (.tuple #[.int .i64 a, .int .i64 ((at' + p : Nat) : Int), .bool x]) = .returned (.tuple #[.int .i64 b, .int .i64 ((at' + q : Nat) : Int), .bool y]) := by
  cases h; rfl

set_option maxHeartbeats 400000 in
theorem char_1 (s : ByteArray) (at' : Nat) (w : World) (hs : s.size ≤ 100000000) (hat : at' < s.size) (f : Int) (hf : f = ((s[at']'hat).toNat : Int)) (hl : lenN f = 1) :
    Calls Tryz.prog 60 #[.string s, .int .i64 at'] w fun e w' => e = .returned (.tuple #[.int .i64 f, .int .i64 ((at' + 1 : Nat) : Int), .bool true]) ∧ w = w' := by
  have hf1 : ((s[at']'hat).toNat : Int) < 256 := by have := UInt8.toNat_lt (s[at']'hat); omega
  have HF : Hid (f = ((s[at']'hat).toNat : Int)) := hf
  have HL : Hid (lenN f = 1) := hl
  clear hl hf
  go_enter Tryz.func60, Tryz.ntmps60
  go_wp2_with fail
  rw [← HF.out]
  refine (length_is f 1 _ HL.out).mono ?_
  rintro e w1 ⟨rfl, rfl⟩
  go_wp2_with fail
  go_ret3
  refine ⟨?_, rfl⟩
  rw [show (((at' + 1 : Nat) : Nat) : Int) = (at' : Int) + 1 by omega]
  rfl

set_option maxHeartbeats 400000 in
theorem char_0 (s : ByteArray) (at' : Nat) (w : World) (hs : s.size ≤ 100000000) (hat : at' < s.size) (f : Int) (hf : f = ((s[at']'hat).toNat : Int)) (hl : lenN f = 0) :
    Calls Tryz.prog 60 #[.string s, .int .i64 at'] w fun e w' => e = .returned (.tuple #[.int .i64 65533, .int .i64 ((at' + 1 : Nat) : Int), .bool true]) ∧ w = w' := by
  have hf1 : ((s[at']'hat).toNat : Int) < 256 := by have := UInt8.toNat_lt (s[at']'hat); omega
  have HF : Hid (f = ((s[at']'hat).toNat : Int)) := hf
  have HL : Hid (lenN f = 0) := hl
  clear hl hf
  go_enter Tryz.func60, Tryz.ntmps60
  go_wp2_with fail
  rw [← HF.out]
  refine (length_is f 0 _ HL.out).mono ?_
  rintro e w1 ⟨rfl, rfl⟩
  go_wp2_with fail
  go_ret3
  refine ⟨?_, rfl⟩
  rw [show (((at' + 1 : Nat) : Nat) : Int) = (at' : Int) + 1 by omega]
  rfl

set_option maxRecDepth 100000 in
set_option maxHeartbeats 1000000 in
theorem char_2 (s : ByteArray) (at' : Nat) (w : World) (hs : s.size ≤ 100000000) (hat : at' < s.size) (f : Int) (hf : f = ((s[at']'hat).toNat : Int)) (hl : lenN f = 2) (c : Int) (q : Nat) (wh : Bool)
    (hR : refGo f 2 ((bl s).drop (at' + 1)) 1 (f % 32) = (c, q, wh)) :
    Calls Tryz.prog 60 #[.string s, .int .i64 at'] w fun e w' => e = .returned (.tuple #[.int .i64 c, .int .i64 ((at' + q : Nat) : Int), .bool wh]) ∧ w = w' := by
  have hf0 : 0 ≤ f := by omega
  have hf1 : ((s[at']'hat).toNat : Int) < 256 := by have := UInt8.toNat_lt (s[at']'hat); omega
  have hf2 : f < 256 := by omega
  have HF : Hid (f = ((s[at']'hat).toNat : Int)) := hf
  have HL : Hid (lenN f = 2) := hl
  have HR : Hid (refGo f 2 ((bl s).drop (at' + 1)) 1 (f % 32) = (c, q, wh)) := hR
  clear hl hf hR
  go_enter Tryz.func60, Tryz.ntmps60
  go_wp2_with fail
  rw [← HF.out]
  refine (length_is f 2 _ HL.out).mono ?_
  rintro e w1 ⟨rfl, rfl⟩
  go_wp2_with fail
  go_loop [9, 10] (fun v i => ∃ (k : Nat) (z : Int), 1 ≤ k ∧ k ≤ 2 ∧ at' + k ≤ s.size ∧ i = .int .i64 k ∧ v = .int .i64 z ∧ 0 ≤ z ∧ (k = 1 → z < 32) ∧ (k = 2 → z < 2048) ∧ (k = 3 → z < 131072) ∧ Hid (refGo f 2 ((bl s).drop (at' + k)) k z = (c, q, wh)))
    (fun _ i => 2 - (intOf i).toNat)
  case atStart => exact ⟨1, _, Nat.le_refl _, by omega, by omega, rfl, rfl, by omega, fun _ => by omega, fun h => by omega, fun h => by omega, HR⟩
  case round =>
    obtain ⟨k, z, hk1, hk2, hks, rfl, rfl, hz0, hz1, hz2, hz3, H⟩ := hrel
    by_cases hlt : k < 2
    · have hzb : z < 131072 := by omega
      by_cases hin : at' + k < s.size
      · have hbx : (s[at' + k]'hin).toNat < 256 := UInt8.toNat_lt _
        have hdr := bl_at s (at' + k) hin
        have Hz1 : Hid (k = 1 → z < 32) := hz1
        have Hz2 : Hid (k = 2 → z < 2048) := hz2
        have Hz3 : Hid (k = 3 → z < 131072) := hz3
        clear hz1 hz2 hz3
        cases hg : goesN f k ((s[at' + k]'hin).toNat : Int) with
        | true =>
          have hrg := goesN_range hg
          have H2 : Hid (refGo f 2 ((bl s).drop (at' + (k + 1))) (k + 1) (64 * z + ((s[at' + k]'hin).toNat : Int) - 128) = (c, q, wh)) := by
            have := H.out
            rw [hdr, refGo_yes f 2 k z _ _ hlt hg] at this
            exact this
          have HG : Hid (goesN f k ((s[at' + k]'hin).toNat : Int) = true) := hg
          clear hdr hg
          go_wp2_with fail
          refine (goes_is f k _ true _ HG.out).mono ?_
          rintro e w1 ⟨rfl, rfl⟩
          go_wp2_with fail
          go_round
          case rel => exact ⟨k + 1, _, by omega, by omega, by omega, by go_num, rfl, by omega, fun h => by omega, fun h => by have := Hz1.out (by omega); omega, fun h => by have := Hz2.out (by omega); omega, H2⟩
          case measure => simp [intOf]; omega
        | false =>
          have H2 : Hid ((65533, k, true) = (c, q, wh)) := by
            have := H.out
            rw [hdr, refGo_no f 2 k z _ _ hlt hg] at this
            exact this
          have HG : Hid (goesN f k ((s[at' + k]'hin).toNat : Int) = false) := hg
          clear hdr hg
          go_wp2_with fail
          refine (goes_is f k _ false _ HG.out).mono ?_
          rintro e w1 ⟨rfl, rfl⟩
          go_wp2_with fail
          go_ret3
          exact ⟨(tup_eq H2.out at').symm ▸ rfl, rfl⟩
      · have hge : at' + k = s.size := by omega
        have H2 : Hid ((65533, k, false) = (c, q, wh)) := by
          have := H.out
          rw [bl_end s (at' + k) (by omega), refGo_end f 2 k z hlt] at this
          exact this
        have hge2 : (s.size : Int) ≤ (at' : Int) + (k : Int) := by omega
        have HE : Hid (at' + k = s.size) := hge
        clear hge
        go_wp2_with fail
        go_ret3
        have hx := H2.out
        simp only [Prod.mk.injEq] at hx
        obtain ⟨rfl, rfl, rfl⟩ := hx
        rw [show (at' : Int) + (k : Int) = (s.size : Int) by have := HE.out; omega]
        exact ⟨rfl, rfl⟩
    · have hkn : k = 2 := by omega
      subst hkn
      have H2 : Hid ((z, 2, true) = (c, q, wh)) := by
        have := H.out
        rw [refGo_done] at this
        exact this
      go_wp2_with fail
      go_ret3
      have hx := H2.out
      simp only [Prod.mk.injEq] at hx
      obtain ⟨rfl, rfl, rfl⟩ := hx
      exact ⟨rfl, rfl⟩

set_option maxRecDepth 100000 in
set_option maxHeartbeats 1000000 in
theorem char_3 (s : ByteArray) (at' : Nat) (w : World) (hs : s.size ≤ 100000000) (hat : at' < s.size) (f : Int) (hf : f = ((s[at']'hat).toNat : Int)) (hl : lenN f = 3) (c : Int) (q : Nat) (wh : Bool)
    (hR : refGo f 3 ((bl s).drop (at' + 1)) 1 (f % 16) = (c, q, wh)) :
    Calls Tryz.prog 60 #[.string s, .int .i64 at'] w fun e w' => e = .returned (.tuple #[.int .i64 c, .int .i64 ((at' + q : Nat) : Int), .bool wh]) ∧ w = w' := by
  have hf0 : 0 ≤ f := by omega
  have hf1 : ((s[at']'hat).toNat : Int) < 256 := by have := UInt8.toNat_lt (s[at']'hat); omega
  have hf2 : f < 256 := by omega
  have HF : Hid (f = ((s[at']'hat).toNat : Int)) := hf
  have HL : Hid (lenN f = 3) := hl
  have HR : Hid (refGo f 3 ((bl s).drop (at' + 1)) 1 (f % 16) = (c, q, wh)) := hR
  clear hl hf hR
  go_enter Tryz.func60, Tryz.ntmps60
  go_wp2_with fail
  rw [← HF.out]
  refine (length_is f 3 _ HL.out).mono ?_
  rintro e w1 ⟨rfl, rfl⟩
  go_wp2_with fail
  go_loop [9, 10] (fun v i => ∃ (k : Nat) (z : Int), 1 ≤ k ∧ k ≤ 3 ∧ at' + k ≤ s.size ∧ i = .int .i64 k ∧ v = .int .i64 z ∧ 0 ≤ z ∧ (k = 1 → z < 32) ∧ (k = 2 → z < 2048) ∧ (k = 3 → z < 131072) ∧ Hid (refGo f 3 ((bl s).drop (at' + k)) k z = (c, q, wh)))
    (fun _ i => 3 - (intOf i).toNat)
  case atStart => exact ⟨1, _, Nat.le_refl _, by omega, by omega, rfl, rfl, by omega, fun _ => by omega, fun h => by omega, fun h => by omega, HR⟩
  case round =>
    obtain ⟨k, z, hk1, hk2, hks, rfl, rfl, hz0, hz1, hz2, hz3, H⟩ := hrel
    by_cases hlt : k < 3
    · have hzb : z < 131072 := by omega
      by_cases hin : at' + k < s.size
      · have hbx : (s[at' + k]'hin).toNat < 256 := UInt8.toNat_lt _
        have hdr := bl_at s (at' + k) hin
        have Hz1 : Hid (k = 1 → z < 32) := hz1
        have Hz2 : Hid (k = 2 → z < 2048) := hz2
        have Hz3 : Hid (k = 3 → z < 131072) := hz3
        clear hz1 hz2 hz3
        cases hg : goesN f k ((s[at' + k]'hin).toNat : Int) with
        | true =>
          have hrg := goesN_range hg
          have H2 : Hid (refGo f 3 ((bl s).drop (at' + (k + 1))) (k + 1) (64 * z + ((s[at' + k]'hin).toNat : Int) - 128) = (c, q, wh)) := by
            have := H.out
            rw [hdr, refGo_yes f 3 k z _ _ hlt hg] at this
            exact this
          have HG : Hid (goesN f k ((s[at' + k]'hin).toNat : Int) = true) := hg
          clear hdr hg
          go_wp2_with fail
          refine (goes_is f k _ true _ HG.out).mono ?_
          rintro e w1 ⟨rfl, rfl⟩
          go_wp2_with fail
          go_round
          case rel => exact ⟨k + 1, _, by omega, by omega, by omega, by go_num, rfl, by omega, fun h => by omega, fun h => by have := Hz1.out (by omega); omega, fun h => by have := Hz2.out (by omega); omega, H2⟩
          case measure => simp [intOf]; omega
        | false =>
          have H2 : Hid ((65533, k, true) = (c, q, wh)) := by
            have := H.out
            rw [hdr, refGo_no f 3 k z _ _ hlt hg] at this
            exact this
          have HG : Hid (goesN f k ((s[at' + k]'hin).toNat : Int) = false) := hg
          clear hdr hg
          go_wp2_with fail
          refine (goes_is f k _ false _ HG.out).mono ?_
          rintro e w1 ⟨rfl, rfl⟩
          go_wp2_with fail
          go_ret3
          exact ⟨(tup_eq H2.out at').symm ▸ rfl, rfl⟩
      · have hge : at' + k = s.size := by omega
        have H2 : Hid ((65533, k, false) = (c, q, wh)) := by
          have := H.out
          rw [bl_end s (at' + k) (by omega), refGo_end f 3 k z hlt] at this
          exact this
        have hge2 : (s.size : Int) ≤ (at' : Int) + (k : Int) := by omega
        have HE : Hid (at' + k = s.size) := hge
        clear hge
        go_wp2_with fail
        go_ret3
        have hx := H2.out
        simp only [Prod.mk.injEq] at hx
        obtain ⟨rfl, rfl, rfl⟩ := hx
        rw [show (at' : Int) + (k : Int) = (s.size : Int) by have := HE.out; omega]
        exact ⟨rfl, rfl⟩
    · have hkn : k = 3 := by omega
      subst hkn
      have H2 : Hid ((z, 3, true) = (c, q, wh)) := by
        have := H.out
        rw [refGo_done] at this
        exact this
      go_wp2_with fail
      go_ret3
      have hx := H2.out
      simp only [Prod.mk.injEq] at hx
      obtain ⟨rfl, rfl, rfl⟩ := hx
      exact ⟨rfl, rfl⟩

set_option maxRecDepth 100000 in
set_option maxHeartbeats 1000000 in
theorem char_4 (s : ByteArray) (at' : Nat) (w : World) (hs : s.size ≤ 100000000) (hat : at' < s.size) (f : Int) (hf : f = ((s[at']'hat).toNat : Int)) (hl : lenN f = 4) (c : Int) (q : Nat) (wh : Bool)
    (hR : refGo f 4 ((bl s).drop (at' + 1)) 1 (f % 8) = (c, q, wh)) :
    Calls Tryz.prog 60 #[.string s, .int .i64 at'] w fun e w' => e = .returned (.tuple #[.int .i64 c, .int .i64 ((at' + q : Nat) : Int), .bool wh]) ∧ w = w' := by
  have hf0 : 0 ≤ f := by omega
  have hf1 : ((s[at']'hat).toNat : Int) < 256 := by have := UInt8.toNat_lt (s[at']'hat); omega
  have hf2 : f < 256 := by omega
  have HF : Hid (f = ((s[at']'hat).toNat : Int)) := hf
  have HL : Hid (lenN f = 4) := hl
  have HR : Hid (refGo f 4 ((bl s).drop (at' + 1)) 1 (f % 8) = (c, q, wh)) := hR
  clear hl hf hR
  go_enter Tryz.func60, Tryz.ntmps60
  go_wp2_with fail
  rw [← HF.out]
  refine (length_is f 4 _ HL.out).mono ?_
  rintro e w1 ⟨rfl, rfl⟩
  go_wp2_with fail
  go_loop [9, 10] (fun v i => ∃ (k : Nat) (z : Int), 1 ≤ k ∧ k ≤ 4 ∧ at' + k ≤ s.size ∧ i = .int .i64 k ∧ v = .int .i64 z ∧ 0 ≤ z ∧ (k = 1 → z < 32) ∧ (k = 2 → z < 2048) ∧ (k = 3 → z < 131072) ∧ Hid (refGo f 4 ((bl s).drop (at' + k)) k z = (c, q, wh)))
    (fun _ i => 4 - (intOf i).toNat)
  case atStart => exact ⟨1, _, Nat.le_refl _, by omega, by omega, rfl, rfl, by omega, fun _ => by omega, fun h => by omega, fun h => by omega, HR⟩
  case round =>
    obtain ⟨k, z, hk1, hk2, hks, rfl, rfl, hz0, hz1, hz2, hz3, H⟩ := hrel
    by_cases hlt : k < 4
    · have hzb : z < 131072 := by omega
      by_cases hin : at' + k < s.size
      · have hbx : (s[at' + k]'hin).toNat < 256 := UInt8.toNat_lt _
        have hdr := bl_at s (at' + k) hin
        have Hz1 : Hid (k = 1 → z < 32) := hz1
        have Hz2 : Hid (k = 2 → z < 2048) := hz2
        have Hz3 : Hid (k = 3 → z < 131072) := hz3
        clear hz1 hz2 hz3
        cases hg : goesN f k ((s[at' + k]'hin).toNat : Int) with
        | true =>
          have hrg := goesN_range hg
          have H2 : Hid (refGo f 4 ((bl s).drop (at' + (k + 1))) (k + 1) (64 * z + ((s[at' + k]'hin).toNat : Int) - 128) = (c, q, wh)) := by
            have := H.out
            rw [hdr, refGo_yes f 4 k z _ _ hlt hg] at this
            exact this
          have HG : Hid (goesN f k ((s[at' + k]'hin).toNat : Int) = true) := hg
          clear hdr hg
          go_wp2_with fail
          refine (goes_is f k _ true _ HG.out).mono ?_
          rintro e w1 ⟨rfl, rfl⟩
          go_wp2_with fail
          go_round
          case rel => exact ⟨k + 1, _, by omega, by omega, by omega, by go_num, rfl, by omega, fun h => by omega, fun h => by have := Hz1.out (by omega); omega, fun h => by have := Hz2.out (by omega); omega, H2⟩
          case measure => simp [intOf]; omega
        | false =>
          have H2 : Hid ((65533, k, true) = (c, q, wh)) := by
            have := H.out
            rw [hdr, refGo_no f 4 k z _ _ hlt hg] at this
            exact this
          have HG : Hid (goesN f k ((s[at' + k]'hin).toNat : Int) = false) := hg
          clear hdr hg
          go_wp2_with fail
          refine (goes_is f k _ false _ HG.out).mono ?_
          rintro e w1 ⟨rfl, rfl⟩
          go_wp2_with fail
          go_ret3
          exact ⟨(tup_eq H2.out at').symm ▸ rfl, rfl⟩
      · have hge : at' + k = s.size := by omega
        have H2 : Hid ((65533, k, false) = (c, q, wh)) := by
          have := H.out
          rw [bl_end s (at' + k) (by omega), refGo_end f 4 k z hlt] at this
          exact this
        have hge2 : (s.size : Int) ≤ (at' : Int) + (k : Int) := by omega
        have HE : Hid (at' + k = s.size) := hge
        clear hge
        go_wp2_with fail
        go_ret3
        have hx := H2.out
        simp only [Prod.mk.injEq] at hx
        obtain ⟨rfl, rfl, rfl⟩ := hx
        rw [show (at' : Int) + (k : Int) = (s.size : Int) by have := HE.out; omega]
        exact ⟨rfl, rfl⟩
    · have hkn : k = 4 := by omega
      subst hkn
      have H2 : Hid ((z, 4, true) = (c, q, wh)) := by
        have := H.out
        rw [refGo_done] at this
        exact this
      go_wp2_with fail
      go_ret3
      have hx := H2.out
      simp only [Prod.mk.injEq] at hx
      obtain ⟨rfl, rfl, rfl⟩ := hx
      exact ⟨rfl, rfl⟩

theorem char_any (s : ByteArray) (at' : Nat) (w : World) (hs : s.size ≤ 100000000) (hat : at' < s.size) :
    Calls Tryz.prog 60 #[.string s, .int .i64 at'] w fun e w' => ∃ (c : Int) (q : Nat) (wh : Bool), e = .returned (.tuple #[.int .i64 c, .int .i64 ((at' + q : Nat) : Int), .bool wh]) ∧ w = w' ∧ 1 ≤ q ∧ at' + q ≤ s.size ∧
      Hid (wh = true → ∀ t, outN t ((bl s).drop at') = c :: outN t ((bl s).drop (at' + q))) ∧ Hid (wh = false → at' + q = s.size ∧ ∀ t, outN t ((bl s).drop at') = (if t then [c] else [])) := by
  obtain ⟨f, hf⟩ : ∃ f : Int, f = ((s[at']'hat).toNat : Int) := ⟨_, rfl⟩
  have hdr := bl_at s at' hat
  rw [← hf] at hdr
  have hby : ∀ b ∈ (bl s).drop (at' + 1), 0 ≤ b ∧ b < 256 := fun b hb => bl_byte s b (List.mem_of_mem_drop hb)
  obtain ⟨g1, g2⟩ := char_goes f ((bl s).drop (at' + 1)) (by omega) hby
  have hlen : (f :: (bl s).drop (at' + 1)).length = s.size - at' := by rw [← hdr, List.length_drop, bl_length]
  have fin : ∀ c q wh, refChar f ((bl s).drop (at' + 1)) = (c, q, wh) → 1 ≤ q ∧ at' + q ≤ s.size ∧ Hid (wh = true → ∀ t, outN t ((bl s).drop at') = c :: outN t ((bl s).drop (at' + q))) ∧ Hid (wh = false → at' + q = s.size ∧ ∀ t, outN t ((bl s).drop at') = (if t then [c] else [])) := by
    intro c q wh e
    rw [e] at g1 g2
    dsimp only at g1 g2
    cases wh with
    | true =>
      have h0 := out_yes g2 true
      refine ⟨g1, by omega, fun _ t => ?_, fun h => by simp at h⟩
      have := (out_yes g2 t).2
      rw [← hdr, List.drop_drop] at this
      exact this
    | false =>
      have h0 := out_no g2 true
      refine ⟨g1, by omega, fun h => by simp at h, fun _ => ⟨by omega, fun t => ?_⟩⟩
      have := (out_no g2 t).2
      rw [← hdr] at this
      exact this
  rcases lenN_cases f with ⟨h, _⟩ | ⟨h, _, _⟩ | h | h | h
  · refine (char_1 s at' w hs hat f hf h).mono ?_
    rintro e w' ⟨rfl, rfl⟩
    exact ⟨_, _, _, rfl, rfl, fin _ _ _ (by simp [refChar, h])⟩
  · refine (char_0 s at' w hs hat f hf h).mono ?_
    rintro e w' ⟨rfl, rfl⟩
    exact ⟨_, _, _, rfl, rfl, fin _ _ _ (by simp [refChar, h])⟩
  · refine (char_2 s at' w hs hat f hf h _ _ _ rfl).mono ?_
    rintro e w' ⟨rfl, rfl⟩
    exact ⟨_, _, _, rfl, rfl, fin _ _ _ (by simp [refChar, h])⟩
  · refine (char_3 s at' w hs hat f hf h _ _ _ rfl).mono ?_
    rintro e w' ⟨rfl, rfl⟩
    exact ⟨_, _, _, rfl, rfl, fin _ _ _ (by simp [refChar, h])⟩
  · refine (char_4 s at' w hs hat f hf h _ _ _ rfl).mono ?_
    rintro e w' ⟨rfl, rfl⟩
    exact ⟨_, _, _, rfl, rfl, fin _ _ _ (by simp [refChar, h])⟩

set_option maxHeartbeats 1000000 in
theorem chars_any (s : ByteArray) (t : Bool) (w : World) (hs : s.size ≤ 100000000) :
    Calls Tryz.prog 29 #[.string s, .bool t] w fun e w' => ∃ v, e = .returned v ∧ LsAt w' w.heap.size v (outN t (bl s)) ∧ Below w.heap.size w w' := by
  go_enter Tryz.func29, Tryz.ntmps29
  go_wp2_with fail
  go_loopw [5, 6] (fun v i wr => ∃ (k : Nat) (L : List Int), k ≤ s.size ∧ i = .int .i64 k ∧ L.length ≤ k ∧ LsAt wr w.heap.size v L ∧ Below w.heap.size w wr ∧ Hid (L ++ outN t ((bl s).drop k) = outN t (bl s))) (fun _ i _ => s.size - (intOf i).toNat)
  case atStart => exact ⟨0, [], Nat.zero_le _, rfl, Nat.le_refl _, World.ownsRow_nil _ _ _ _, Below.refl _ _, rfl⟩
  case round =>
    obtain ⟨k, L, hk, rfl, hLk, own, hbel, H⟩ := hrel
    have hsz := hbel.size
    by_cases hlt : k < s.size
    · go_wp2_with fail
      refine (char_any s k _ hs hlt).mono ?_
      rintro e w1 ⟨c, q, wh, rfl, rfl, hq1, hq2, Hy, Hn⟩
      cases wh with
      | true =>
        have H2 : Hid ((L ++ [c]) ++ outN t ((bl s).drop (k + q)) = outN t (bl s)) := by
          have := H.out
          rw [Hy.out rfl t] at this
          rw [List.append_assoc]
          exact this
        clear Hy Hn
        go_wp2_with (at_builtin; refine wp_app1 wr rfl _ _ rfl w.heap.size _ L _ rfl ?c1 _ ?c2 rfl ?c3 ?c4 ?_)
        case c1 => exact own
        case c2 => rfl
        case c3 => omega
        case c4 => exact hsz
        intro v1 w2 own1 hb1
        have hbel1 := hbel.trans hb1
        go_wp2_with fail
        go_roundw
        case rel => exact ⟨k + q, L ++ [c], hq2, by go_num, by simp; omega, own1, hbel1, H2⟩
        case measure => simp [intOf]; omega
      | false =>
        have hx := Hn.out rfl
        have hkq := hx.1
        have hE := bl_end s (k + q) (by omega)
        cases t with
        | true =>
          have H2 : Hid ((L ++ [c]) ++ outN true ((bl s).drop (k + q)) = outN true (bl s)) := by
            have := H.out
            rw [hx.2 true] at this
            rw [hE, outN_nil, List.append_nil]
            exact this
          clear Hy Hn hx hkq hE
          go_wp2_with (at_builtin; refine wp_app1 wr rfl _ _ rfl w.heap.size _ L _ rfl ?d1 _ ?d2 rfl ?d3 ?d4 ?_)
          case d1 => exact own
          case d2 => rfl
          case d3 => omega
          case d4 => exact hsz
          intro v1 w2 own1 hb1
          have hbel1 := hbel.trans hb1
          go_wp2_with fail
          go_roundw
          case rel => exact ⟨k + q, L ++ [c], hq2, by go_num, by simp; omega, own1, hbel1, H2⟩
          case measure => simp [intOf]; omega
        | false =>
          have H2 : Hid (L ++ outN false ((bl s).drop (k + q)) = outN false (bl s)) := by
            have := H.out
            rw [hx.2 false] at this
            rw [hE, outN_nil]
            exact this
          clear Hy Hn hx hkq hE
          go_wp2_with fail
          go_roundw
          case rel => exact ⟨k + q, L, hq2, by go_num, by omega, own, hbel, H2⟩
          case measure => simp [intOf]; omega
    · have hks : k = s.size := by omega
      have H2 := H.out
      rw [bl_end s k (by omega), outN_nil, List.append_nil] at H2
      have H3 : Hid (L = outN t (bl s)) := H2
      clear H2
      go_wp2_with fail
      go_ret
      exact ⟨_, rfl, H3.out ▸ own, hbel⟩

end Go.Proofs.YtheibfffilomcaaGreatDoor
