/- Qa Qb together. -/
import Derived.Test.YtgginebdiapnaaaDoorYbM

/- What CAN, and ESC c behind it, do to a terminal: plain facts. -/
namespace Go.Proofs.YtgginebdiapnaaaDoor

theorem byte_low (x : FS) (b : Int) (h : x.r.m = 0) (hb : b < 128) : x.byte b = x.char b := by
  unfold FS.byte RS.take RS.beg
  simp [h, hb, FS.chars]
theorem char_can (x : FS) : x.char 24 = ⟨x.r, .zero, x.t⟩ := by
  unfold FS.char MS.take
  simp
theorem char_esc (x : FS) : x.char 27 = ⟨x.r, ⟨1, 0, 0, z16⟩, x.t⟩ := by
  unfold FS.char MS.take
  simp
/-- Behind CAN nothing is begun, and the size is what it was. -/
theorem can_any (x : FS) (hlo : x.r.m ≠ 0 → 24 < x.r.lo) : (x.byte 24).r.m = 0 ∧ (x.byte 24).m = .zero ∧ (x.byte 24).t.dim = x.t.dim := by
  by_cases h : x.r.m = 0
  · rw [byte_low x 24 h (by omega), char_can]
    exact ⟨h, rfl, rfl⟩
  · have e : x.byte 24 = FS.char (FS.char ⟨.zero, x.m, x.t⟩ 65533) 24 := by
      unfold FS.byte RS.take RS.fin RS.beg
      simp [h, hlo h, FS.chars]
    rw [e, char_can]
    exact ⟨rfl, rfl, dim_char ⟨.zero, x.m, x.t⟩ 65533⟩
theorem can_reset (x : FS) (hlo : x.r.m ≠ 0 → 24 < x.r.lo) : (x.feed [24, 27, 99]).t = TS.fresh x.t.rows x.t.cols := by
  obtain ⟨h1, h2, h3⟩ := can_any x hlo
  show (((x.byte 24).byte 27).byte 99).t = _
  generalize x.byte 24 = y at *
  rw [byte_low y 27 h1 (by omega), char_esc, byte_low ⟨y.r, ⟨1, 0, 0, z16⟩, y.t⟩ 99 h1 (by omega)]
  have e1 : y.t.rows = x.t.rows := congrArg Prod.fst h3
  have e2 : y.t.cols = x.t.cols := congrArg Prod.snd h3
  rw [← e1, ← e2]
  rfl
/-- What goes on is 128 or more. -/
def RS.Low (s : RS) : Prop := s.m ≠ 0 → 128 ≤ s.lo
theorem lead_low {b : Int} {r : RS} (h : lead b = some r) : r.Low := by
  unfold lead at h
  repeat' split at h
  all_goals first | (cases h; done) | (cases h; intro _; dsimp only; omega)
theorem RS.Low.zero : RS.zero.Low := fun h => absurd rfl h
theorem RS.Low.beg {s : RS} (h : s.Low) (b : Int) : (s.beg b).1.Low := by
  unfold RS.beg
  split
  · exact h
  · split
    · rename_i r hr; exact lead_low hr
    · exact h
theorem RS.Low.take {s : RS} (h : s.Low) (b : Int) : (s.take b).1.Low := by
  unfold RS.take
  split
  · exact h.beg b
  · split
    · have hf : s.fin.1.Low := by
        unfold RS.fin
        split
        · exact h
        · exact RS.Low.zero
      exact hf.beg b
    · unfold RS.join
      split
      · exact RS.Low.zero
      · intro _; show (128 : Int) ≤ 128; omega
theorem chars_r (l : List Int) : ∀ x : FS, (x.chars l).r = x.r := by
  induction l with
  | nil => intro x; rfl
  | cons c l ih => intro x; exact ih _
theorem FS.low_feed (l : List Int) : ∀ x : FS, x.r.Low → (x.feed l).r.Low := by
  induction l with
  | nil => intro x h; exact h
  | cons b l ih =>
    intro x h
    refine ih (x.byte b) ?_
    unfold FS.byte
    rw [chars_r]
    exact h.take b
theorem feed_reset (r c : Nat) (l : List Int) : (((FS.fresh r c).feed l).feed [24, 27, 99]).t = TS.fresh r c := by
  have h := FS.low_feed l (FS.fresh r c) RS.Low.zero
  rw [can_reset _ (fun q => by have := h q; omega), fresh_rows, fresh_cols]
end Go.Proofs.YtgginebdiapnaaaDoor

/- The walk of Reset. -/
namespace Go.Proofs.YtgginebdiapnaaaDoor
open Go.RowKit

def resetB : ByteArray := { data := #[24, 27, 99] }
theorem bl_resetB : bl resetB = [24, 27, 99] := by kernel_rfl
theorem dump_stub (v : Value) (w : World) : Calls Tryd.prog 32 #[v] w fun e w' => e = .returned (.string ByteArray.empty) ∧ w' = w := by
  go_enter Tryd.func32, Tryd.ntmps32
  go_wp2_with fail
  go_ret
  exact ⟨rfl, rfl⟩
set_option maxRecDepth 100000 in
set_option maxHeartbeats 2000000 in
theorem reset_walk (a b : Int) (text : ByteArray) (w : World) (ha : -9223372036854775808 ≤ a ∧ a ≤ 9223372036854775807) (hb : -9223372036854775808 ≤ b ∧ b ≤ 9223372036854775807) (htb : Tabs w) (hts : text.size ≤ 2000000) :
    Calls Tryd.prog 10 #[.agg #[.int .i64 a, .int .i64 b], .string text] w fun e w' => e = .returned (.bool true) ∧ Below w.heap.size w w' := by
  have hw2 : 2 < w.heap.size := by obtain ⟨t, fr, h⟩ := htb.st; exact blk_lt h
  go_enter Tryd.func10, Tryd.ntmps10
  go_wp2_with fail
  have HG : (w.alloc (Obj.cells #[.int .i64 a, .int .i64 b] 41)).heap[w.heap.size]? = some (.cells #[.int .i64 a, .int .i64 b] 41 (0, 0)) := heap_alloc_new _ _
  have BW : Below w.heap.size w (w.alloc (Obj.cells #[.int .i64 a, .int .i64 b] 41)) := (Below.refl _ _).alloc (Nat.le_refl _) _
  have htW := htb.ch ((Ch.refl (fun _ => False) w).alloc (.cells #[.int .i64 a, .int .i64 b] 41)) (fun _ _ h => h)
  obtain ⟨W, hWW⟩ : ∃ W, W = w.alloc (Obj.cells #[.int .i64 a, .int .i64 b] 41) := ⟨_, rfl⟩
  have hWs : W.heap.size = w.heap.size + 1 := by rw [hWW]; simp
  obtain ⟨lb, hlb⟩ : ∃ lb, lb = w.heap.size := ⟨_, rfl⟩
  rw [← hWs, ← hWW, ← hlb]
  rw [← hWW, ← hlb] at HG
  rw [← hWW] at BW htW
  have SS : ∀ u : World, u.heap[lb]? = some (.cells #[.int .i64 a, .int .i64 b] 41 (0, 0)) → u.rangeAt lb 0 [.int .i64 a, .int .i64 b] := fun u hu j v hv => by
    rw [cell_of_row _ _ _ _ _ _ hu, Nat.zero_add]; simpa using hv
  have hW2 : 2 < W.heap.size := by omega
  have hT2 : SlTx (W.alloc (.cells #[.string text, (.string resetB)] 9)) (some ⟨W.heap.size, 0, none⟩) [text, resetB] := fun j t hj => ⟨W.heap.size, 0, rfl, by simp, by
    have := cells_new W [.string text, (.string resetB)] 9 j (.string t) (by
      match j, hj with
      | 0, hj => simp at hj; subst hj; rfl
      | 1, hj => simp at hj; subst hj; rfl)
    have hadd : (⟨W.heap.size, 0, none⟩ : Addr).add j = ⟨W.heap.size, 0 + j, none⟩ := by unfold Addr.add; split <;> simp_all
    rw [hadd] at this; exact this⟩
  have hWa : Below W.heap.size W (W.alloc (.cells #[.string text, (.string resetB)] 9)) := (Below.refl _ _).alloc (Nat.le_refl _) _
  have l1 : Calls Tryd.prog 19 #[.agg #[.int .i64 a, .int .i64 b], .slice (some ⟨W.heap.size, 0, none⟩) 2 2] (W.alloc (.cells #[.string text, .string resetB] 9)) _ := fed_any a b (some ⟨W.heap.size, 0, none⟩) 2 [text, resetB] _ ha hb (htW.ch ((Ch.refl (fun _ => False) W).alloc _) (fun _ _ h => h)) hT2 (by simp) (by
    intro t ht
    simp at ht
    rcases ht with rfl | rfl
    · exact hts
    · show (3 : Nat) ≤ 2000000; omega)
  refine l1.mono ?_
  rintro e w1 ⟨fa, La, rfl, A1, bA⟩
  have B1 : Below W.heap.size W w1 := hWa.trans (bA.mono hWa.size)
  have A1' : FedAt W.heap.size w1 fa La (szR a) (szC b) (bl text ++ [24, 27, 99]) := by
    have e1 : allB [text, resetB] = bl text ++ [24, 27, 99] := by simp [allB, bl_resetB]
    rw [← e1]; exact ⟨A1.f, Nat.le_trans hWa.size A1.fb, fun k hk => Nat.le_trans hWa.size (A1.own k hk)⟩
  have HA : Hid (FedAt W.heap.size w1 fa La (szR a) (szC b) (bl text ++ [24, 27, 99])) := A1'
  have HB1 : Hid (Below W.heap.size W w1) := B1
  have HBW : Hid (Below w.heap.size w W) := BW
  have HTW : Hid (Tabs W) := htW
  have G1 := (B1.block lb (blk_lt HG)).trans HG
  have c10 : w1.cell? ⟨lb, 0, none⟩ = some (.int .i64 a) := (cell_of_row _ _ _ _ _ _ G1).trans rfl
  have c11 : w1.cell? ⟨lb, 1, none⟩ = some (.int .i64 b) := (cell_of_row _ _ _ _ _ _ G1).trans rfl
  clear l1 hT2 hWa A1 bA A1' B1 BW htW htb
  have HWS : Hid (W.heap.size = w.heap.size + 1) := hWs
  have HLB : Hid (lb = w.heap.size) := hlb
  have hlw : lb < w1.heap.size := blk_lt G1
  clear hWs hlb hWW
  have l2 := begun_any a b w1 ha hb (HTW.out.kept (fun j hj => HB1.out.block j (by omega)))
  go_wp2_with (go_at_call 26; refine l2.mono ?_; rintro e w2 ⟨fb, L, rfl, F2, hfb, hL, b2⟩)
  refine (dump_stub _ _).mono ?_
  rintro e w3 ⟨rfl, hw3⟩
  subst hw3
  have FA : FAt w3 fa La _ := HA.out.f.kept (P := fun _ => False) ⟨b2.os, b2.tape, b2.output, b2.size, fun k hk _ => b2.block k hk⟩ id (fun _ _ => id)
  have hbyte : ∀ z ∈ bl text ++ [24, 27, 99], 0 ≤ z ∧ z < 256 := fun z hz => (List.mem_append.1 hz).elim (bl_byte _ z) (fun h => by simp at h; omega)
  have hxy : ((FS.fresh (szR a) (szC b)).feed (bl text ++ [24, 27, 99])).t = (FS.fresh (szR a) (szC b)).t := by rw [feed_append]; exact feed_reset _ _ _
  have l3 := alike_same a b fa fb La L _ _ w3 ha hb FA F2 hxy ((FS.Ok.fresh (szR_bd a) (szC_bd b)).feed _ hbyte).t (fresh_rows _ _ _) (fresh_cols _ _ _)
  have G2 := (b2.block lb hlw).trans G1
  have c20 : w3.cell? ⟨lb, 0, none⟩ = some (.int .i64 a) := (cell_of_row _ _ _ _ _ _ G2).trans rfl
  have c21 : w3.cell? ⟨lb, 1, none⟩ = some (.int .i64 b) := (cell_of_row _ _ _ _ _ _ G2).trans rfl
  have HB2 : Hid (Below w1.heap.size w1 w3) := b2
  clear F2 hL b2 l2 hxy hbyte FA c10 c11
  go_wp2_with (go_at_call 25; refine l3.mono ?_; rintro e w5 ⟨rfl, S5⟩)
  go_ret
  refine ⟨rfl, ?_⟩
  have b5 := HB1.out.trans (HB2.out.mono HB1.out.size)
  have b6 := HBW.out.trans (b5.mono (by have := HWS.out; omega))
  exact b6.trans (S5.below b6.size (fun k hk h => h))
end Go.Proofs.YtgginebdiapnaaaDoor

