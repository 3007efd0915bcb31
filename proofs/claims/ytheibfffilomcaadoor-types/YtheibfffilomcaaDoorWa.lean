/- The walks of the reader of bytes: what each of its functions returns and does to memory. -/
import Derived.Test.YtheibfffilomcaaDoorDefs
namespace Go.Proofs.YtheibfffilomcaaDoor
open Go.RowKit

set_option maxHeartbeats 400000 in
theorem end_zero (rb ro : Nat) (s : RS) (v : Value) (w : World) (rd : RdAt w rb ro s) (hm : (s.m == 0) = true) :
    Calls Tryd.prog 38 #[.pointer (some ⟨rb, ro, none⟩), v] w fun e w' => e = .returned v ∧ w' = w := by
  have c0 := rd.c0
  go_enter Tryd.func38, Tryd.ntmps38
  go_wp2_with fail
  go_ret
  exact ⟨rfl, rfl⟩

set_option maxHeartbeats 400000 in
theorem end_more (base rb ro : Nat) (s : RS) (v : Value) (L : List Int) (w : World) (rd : RdAt w rb ro s) (hm : (s.m == 0) = false) (own : LsAt w base v L) (hL : L.length ≤ 1000000000) (hrb : rb < base) (hb : base ≤ w.heap.size) :
    Calls Tryd.prog 38 #[.pointer (some ⟨rb, ro, none⟩), v] w fun e w' => ∃ v', e = .returned v' ∧ LsAt w' base v' (L ++ [65533]) ∧ RdAt w' rb ro .zero ∧ Kp base rb ro w w' := by
  have c0 := rd.c0
  have c1 := rd.c1
  have c2 := rd.c2
  have c3 := rd.c3
  have f0 := rd.f 0 (by omega)
  have f1 := rd.f 1 (by omega)
  have f2 := rd.f 2 (by omega)
  have f3 := rd.f 3 (by omega)
  simp only [Nat.add_zero] at f0
  go_enter Tryd.func38, Tryd.ntmps38
  go_wp2_with (at_builtin; refine wp_app1 (World.setRd w rb ro .zero) rfl _ _ rfl base _ L _ rfl ?c1 _ ?c2 rfl hL ?c3 ?_)
  case c1 => exact LsAt.setRd own hrb .zero
  case c2 => simp [World.setRd]
  case c3 => simpa [World.setRd] using hb
  intro v' w1 own1 hbel
  have rd1 : RdAt w1 rb ro .zero := (setRd_rd rd .zero).kept (hbel.block rb hrb)
  have k1 : Kp base rb ro w w1 := (setRd_kp w .zero).trans (Kp.of_below hbel hrb)
  clear c0 c1 c2 c3 f0 f1 f2 f3
  go_wp2_with fail
  go_ret
  exact ⟨_, rfl, own1, rd1, k1⟩

set_option maxHeartbeats 400000 in
theorem join_last (base rb ro : Nat) (s : RS) (b : Int) (v : Value) (L : List Int) (w : World) (rd : RdAt w rb ro s) (hm : (s.m == 1) = true) (hv : 0 ≤ s.val) (hv' : s.val < 32768) (hb0 : 0 ≤ b) (hb1 : b < 256)
    (own : LsAt w base v L) (hL : L.length ≤ 1000000000) (hrb : rb < base) (hb : base ≤ w.heap.size) :
    Calls Tryd.prog 54 #[.pointer (some ⟨rb, ro, none⟩), v, .int .u8 b] w fun e w' => ∃ v', e = .returned v' ∧ LsAt w' base v' (L ++ [s.val * 64 + b % 64]) ∧ RdAt w' rb ro .zero ∧ Kp base rb ro w w' := by
  have hbits := bits_or64 s.val (b % 64) hv (by omega) (by omega) (by omega)
  have c0 := rd.c0
  have c1 := rd.c1
  have c2 := rd.c2
  have c3 := rd.c3
  have f0 := rd.f 0 (by omega)
  have f1 := rd.f 1 (by omega)
  have f2 := rd.f 2 (by omega)
  have f3 := rd.f 3 (by omega)
  simp only [Nat.add_zero] at f0
  go_enter Tryd.func54, Tryd.ntmps54
  go_wp2_with (at_builtin; refine wp_app1 (World.setRd w rb ro .zero) rfl _ _ rfl base _ L _ rfl ?c1 _ ?c2 rfl hL ?c3 ?_)
  case c1 => exact LsAt.setRd own hrb .zero
  case c2 => simp [World.setRd]
  case c3 => simpa [World.setRd] using hb
  intro v' w1 own1 hbel
  have rd1 : RdAt w1 rb ro .zero := (setRd_rd rd .zero).kept (hbel.block rb hrb)
  have k1 : Kp base rb ro w w1 := (setRd_kp w .zero).trans (Kp.of_below hbel hrb)
  clear c0 c1 c2 c3 f0 f1 f2 f3
  go_wp2_with fail
  go_ret
  exact ⟨_, rfl, own1, rd1, k1⟩

set_option maxHeartbeats 400000 in
theorem join_on (rb ro : Nat) (s : RS) (b : Int) (v : Value) (w : World) (rd : RdAt w rb ro s) (hm : (s.m == 1) = false) (hm0 : 0 ≤ s.m) (hm3 : s.m ≤ 3) (hv : 0 ≤ s.val) (hv' : s.val < 32768) (hb0 : 0 ≤ b) (hb1 : b < 256) :
    Calls Tryd.prog 54 #[.pointer (some ⟨rb, ro, none⟩), v, .int .u8 b] w fun e w' => e = .returned v ∧ w' = World.setRd w rb ro ⟨s.m - 1, 128, 191, s.val * 64 + b % 64⟩ := by
  have hbits := bits_or64 s.val (b % 64) hv (by omega) (by omega) (by omega)
  have c0 := rd.c0
  have c1 := rd.c1
  have c2 := rd.c2
  have c3 := rd.c3
  have f0 := rd.f 0 (by omega)
  have f1 := rd.f 1 (by omega)
  have f2 := rd.f 2 (by omega)
  have f3 := rd.f 3 (by omega)
  simp only [Nat.add_zero] at f0
  go_enter Tryd.func54, Tryd.ntmps54
  go_wp2_with fail
  go_ret
  exact ⟨rfl, rfl⟩

theorem join_any (base rb ro : Nat) (s : RS) (b : Int) (v : Value) (L : List Int) (w : World) (rd : RdAt w rb ro s) (hs : s.ok) (hm : s.m ≠ 0) (hb0 : 0 ≤ b) (hb1 : b < 256)
    (own : LsAt w base v L) (hL : L.length ≤ 1000000000) (hrb : rb < base) (hb : base ≤ w.heap.size) :
    Calls Tryd.prog 54 #[.pointer (some ⟨rb, ro, none⟩), v, .int .u8 b] w fun e w' => ∃ v', e = .returned v' ∧ LsAt w' base v' (L ++ (s.join b).2) ∧ RdAt w' rb ro (s.join b).1 ∧ Kp base rb ro w w' := by
  obtain ⟨a1, a2, a3, a4, a5, a6⟩ := hs
  by_cases h1 : s.m = 1
  · have e : s.join b = (.zero, [s.val * 64 + b % 64]) := by simp [RS.join, h1]
    rw [e]
    exact join_last base rb ro s b v L w rd (by simp [h1]) a3 (a4 h1) hb0 hb1 own hL hrb hb
  · have e : s.join b = (⟨s.m - 1, 128, 191, s.val * 64 + b % 64⟩, []) := by simp [RS.join, h1]
    rw [e]
    refine (join_on rb ro s b v w rd (by simp [h1]) a1 a2 a3 (by omega) hb0 hb1).mono ?_
    rintro e w' ⟨rfl, rfl⟩
    exact ⟨v, rfl, by simpa using LsAt.setRd own hrb _, setRd_rd rd _, setRd_kp w _⟩

theorem end_any (base rb ro : Nat) (s : RS) (v : Value) (L : List Int) (w : World) (rd : RdAt w rb ro s) (own : LsAt w base v L) (hL : L.length ≤ 1000000000) (hrb : rb < base) (hb : base ≤ w.heap.size) :
    Calls Tryd.prog 38 #[.pointer (some ⟨rb, ro, none⟩), v] w fun e w' => ∃ v', e = .returned v' ∧ LsAt w' base v' (L ++ s.fin.2) ∧ RdAt w' rb ro s.fin.1 ∧ Kp base rb ro w w' := by
  by_cases h : s.m = 0
  · have e : s.fin = (s, []) := by simp [RS.fin, h]
    rw [e]
    refine (end_zero rb ro s v w rd (by simp [h])).mono ?_
    rintro e w' ⟨rfl, rfl⟩
    exact ⟨v, rfl, by simpa using own, rd, Kp.refl _ _ _ _⟩
  · have e : s.fin = (.zero, [65533]) := by simp [RS.fin, h]
    rw [e]
    exact end_more base rb ro s v L w rd (by simp [h]) own hL hrb hb

/-- begin: a byte below 128 -/
theorem beg_low (base rb ro : Nat) (b : Int) (v : Value) (L : List Int) (w : World) (hb0 : 0 ≤ b) (hb1 : b < 128)
    (own : LsAt w base v L) (hL : L.length ≤ 1000000000) (hb : base ≤ w.heap.size) :
    Calls Tryd.prog 53 #[.pointer (some ⟨rb, ro, none⟩), v, .int .u8 b] w fun e w' => ∃ v', e = .returned v' ∧ LsAt w' base v' (L ++ [b]) ∧ Below base w w' := by
  go_enter Tryd.func53, Tryd.ntmps53
  go_wp2_with (at_builtin; refine wp_app1 w rfl _ _ rfl base _ L _ rfl ?c1 _ ?c2 rfl hL ?c3 ?_)
  case c1 => exact own
  case c2 => rfl
  case c3 => exact hb
  intro v' w1 own1 hbel
  go_wp2_with fail
  go_ret
  exact ⟨_, rfl, own1, hbel⟩

theorem info74 : (Tryd.prog.info? 128).map (·.size) = some leadsArr.size := by kernel_rfl

theorem idx0 (w : World) : (Instr.index 128 (.agg leadsArr) (.int .i64 0)).run Tryd.prog w = .ok (.agg #[.int .u8 194, .int .u8 223, .int .u8 31, .int .i64 1, .int .u8 128, .int .u8 191]) w := by kernel_rfl
theorem idx1 (w : World) : (Instr.index 128 (.agg leadsArr) (.int .i64 1)).run Tryd.prog w = .ok (.agg #[.int .u8 224, .int .u8 224, .int .u8 15, .int .i64 2, .int .u8 160, .int .u8 191]) w := by kernel_rfl
theorem idx2 (w : World) : (Instr.index 128 (.agg leadsArr) (.int .i64 2)).run Tryd.prog w = .ok (.agg #[.int .u8 225, .int .u8 236, .int .u8 15, .int .i64 2, .int .u8 128, .int .u8 191]) w := by kernel_rfl
theorem idx3 (w : World) : (Instr.index 128 (.agg leadsArr) (.int .i64 3)).run Tryd.prog w = .ok (.agg #[.int .u8 237, .int .u8 237, .int .u8 15, .int .i64 2, .int .u8 128, .int .u8 159]) w := by kernel_rfl
theorem idx4 (w : World) : (Instr.index 128 (.agg leadsArr) (.int .i64 4)).run Tryd.prog w = .ok (.agg #[.int .u8 238, .int .u8 239, .int .u8 15, .int .i64 2, .int .u8 128, .int .u8 191]) w := by kernel_rfl
theorem idx5 (w : World) : (Instr.index 128 (.agg leadsArr) (.int .i64 5)).run Tryd.prog w = .ok (.agg #[.int .u8 240, .int .u8 240, .int .u8 7, .int .i64 3, .int .u8 144, .int .u8 191]) w := by kernel_rfl
theorem idx6 (w : World) : (Instr.index 128 (.agg leadsArr) (.int .i64 6)).run Tryd.prog w = .ok (.agg #[.int .u8 241, .int .u8 243, .int .u8 7, .int .i64 3, .int .u8 128, .int .u8 191]) w := by kernel_rfl
theorem idx7 (w : World) : (Instr.index 128 (.agg leadsArr) (.int .i64 7)).run Tryd.prog w = .ok (.agg #[.int .u8 244, .int .u8 244, .int .u8 7, .int .i64 3, .int .u8 128, .int .u8 143]) w := by kernel_rfl

theorem and31 (b : Int) (h0 : 0 ≤ b) (h1 : b < 256) : bits .and .u8 b 31 = b % 32 := by
  have := bits_mask .u8 8 (by decide) wraps_u8 5 (by omega) b h0 (by omega); simpa using this
theorem and15 (b : Int) (h0 : 0 ≤ b) (h1 : b < 256) : bits .and .u8 b 15 = b % 16 := by
  have := bits_mask .u8 8 (by decide) wraps_u8 4 (by omega) b h0 (by omega); simpa using this
theorem and7 (b : Int) (h0 : 0 ≤ b) (h1 : b < 256) : bits .and .u8 b 7 = b % 8 := by
  have := bits_mask .u8 8 (by decide) wraps_u8 3 (by omega) b h0 (by omega); simpa using this

/-- No row of the table ahead of the k-th speaks of the byte. -/
def noL (k : Nat) (b : Int) : Prop := b < 194 ∨ [(194 : Int), 224, 225, 237, 238, 240, 241, 244, 245].getD k 245 ≤ b

theorem row_k (k : Nat) (hk : k < 8) (b : Int) (h0 : 128 ≤ b) (h1 : b < 256) (hno : noL k b) :
    ∃ f l mk mo lo hi q : Int, (∀ w, (Instr.index 128 (.agg leadsArr) (.int .i64 k)).run Tryd.prog w = .ok (.agg #[.int .u8 f, .int .u8 l, .int .u8 mk, .int .i64 mo, .int .u8 lo, .int .u8 hi]) w) ∧
      bits .and .u8 b mk = q ∧ 0 ≤ q ∧ q < 256 ∧ (f ≤ b → b ≤ l → lead b = some ⟨mo, lo, hi, q⟩) ∧ (b < f → noL (k + 1) b) ∧ (l < b → noL (k + 1) b) := by
  have e31 := and31 b (by omega) h1
  have e15 := and15 b (by omega) h1
  have e7 := and7 b (by omega) h1
  unfold noL at hno ⊢
  rcases (show k = 0 ∨ k = 1 ∨ k = 2 ∨ k = 3 ∨ k = 4 ∨ k = 5 ∨ k = 6 ∨ k = 7 by omega) with rfl | rfl | rfl | rfl | rfl | rfl | rfl | rfl
  · refine ⟨_, _, _, _, _, _, _, idx0, e31, by omega, by omega, fun a c => ?_, fun a => ?_, fun a => ?_⟩
    · unfold lead; repeat' split
      all_goals first | rfl | (exfalso; omega)
    · simp at hno ⊢; omega
    · simp at hno ⊢; omega
  · refine ⟨_, _, _, _, _, _, _, idx1, e15, by omega, by omega, fun a c => ?_, fun a => ?_, fun a => ?_⟩
    · unfold lead; repeat' split
      all_goals first | rfl | (exfalso; omega)
    · simp at hno ⊢; omega
    · simp at hno ⊢; omega
  · refine ⟨_, _, _, _, _, _, _, idx2, e15, by omega, by omega, fun a c => ?_, fun a => ?_, fun a => ?_⟩
    · unfold lead; repeat' split
      all_goals first | rfl | (exfalso; omega)
    · simp at hno ⊢; omega
    · simp at hno ⊢; omega
  · refine ⟨_, _, _, _, _, _, _, idx3, e15, by omega, by omega, fun a c => ?_, fun a => ?_, fun a => ?_⟩
    · unfold lead; repeat' split
      all_goals first | rfl | (exfalso; omega)
    · simp at hno ⊢; omega
    · simp at hno ⊢; omega
  · refine ⟨_, _, _, _, _, _, _, idx4, e15, by omega, by omega, fun a c => ?_, fun a => ?_, fun a => ?_⟩
    · unfold lead; repeat' split
      all_goals first | rfl | (exfalso; omega)
    · simp at hno ⊢; omega
    · simp at hno ⊢; omega
  · refine ⟨_, _, _, _, _, _, _, idx5, e7, by omega, by omega, fun a c => ?_, fun a => ?_, fun a => ?_⟩
    · unfold lead; repeat' split
      all_goals first | rfl | (exfalso; omega)
    · simp at hno ⊢; omega
    · simp at hno ⊢; omega
  · refine ⟨_, _, _, _, _, _, _, idx6, e7, by omega, by omega, fun a c => ?_, fun a => ?_, fun a => ?_⟩
    · unfold lead; repeat' split
      all_goals first | rfl | (exfalso; omega)
    · simp at hno ⊢; omega
    · simp at hno ⊢; omega
  · refine ⟨_, _, _, _, _, _, _, idx7, e7, by omega, by omega, fun a c => ?_, fun a => ?_, fun a => ?_⟩
    · unfold lead; repeat' split
      all_goals first | rfl | (exfalso; omega)
    · simp at hno ⊢; omega
    · simp at hno ⊢; omega

theorem no_lead (b : Int) (h : noL 8 b) : lead b = none := by
  unfold noL at h
  simp at h
  unfold lead
  repeat' split
  all_goals first | rfl | (exfalso; omega)

end Go.Proofs.YtheibfffilomcaaDoor
