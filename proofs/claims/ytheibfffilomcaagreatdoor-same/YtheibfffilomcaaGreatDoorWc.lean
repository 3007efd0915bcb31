/- The walk of Runes: a text's bytes are read as the plain function says; nothing old is changed. -/
import Derived.Test.YtheibfffilomcaaGreatDoorWb
namespace Go.Proofs.YtheibfffilomcaaGreatDoor
open Go.RowKit

/-- A text's bytes as numbers. -/
def bl (s : ByteArray) : List Int := s.data.toList.map fun c => (c.toNat : Int)

theorem bl_length (s : ByteArray) : (bl s).length = s.size := by simp [bl]
theorem bl_take (s : ByteArray) (k : Nat) (h : k < s.size) : (bl s).take (k + 1) = (bl s).take k ++ [((s[k]'h).toNat : Int)] := by
  rw [List.take_succ_eq_append_getElem (by rw [bl_length]; exact h)]
  simp [bl]; rfl
theorem bl_all (s : ByteArray) : (bl s).take s.size = bl s := List.take_of_length_le (by rw [bl_length]; exact Nat.le_refl _)

theorem LsAt.mono {w : World} {B B' : Nat} {v : Value} {L : List Int} (h : LsAt w B v L) (hB : B' ≤ B) : LsAt w B' v L := by
  obtain ⟨h1, h2⟩ := h
  refine ⟨h1, ?_⟩
  rcases h2 with h2 | ⟨g, cap, cur, hv, hg, r⟩
  · exact Or.inl h2
  · exact Or.inr ⟨g, cap, cur, hv, Nat.le_trans hB hg, r⟩

theorem Leads.lt {w : World} (h : Leads w) : 0 < w.heap.size := by
  obtain ⟨t, fr, h⟩ := h
  exact (Array.getElem?_eq_some_iff.1 h).1

/-- A new reader. -/
def rdObj : Obj := .cells #[.int .i64 0, .int .u8 0, .int .u8 0, .int .i64 0] 68
theorem rd_new (w : World) : RdAt (w.alloc rdObj) w.heap.size 0 .zero := by
  have h : (w.alloc rdObj).heap[w.heap.size]? = some (.cells #[.int .i64 0, .int .u8 0, .int .u8 0, .int .i64 0] 68 (0, 0)) := heap_alloc_new w rdObj
  refine ⟨(cell_of_row _ _ 0 _ _ _ h).trans rfl, (cell_of_row _ _ 1 _ _ _ h).trans rfl, (cell_of_row _ _ 2 _ _ _ h).trans rfl, (cell_of_row _ _ 3 _ _ _ h).trans rfl, fun j hj => ?_⟩
  unfold World.frozen?
  simp only [h]
  simp

set_option maxHeartbeats 1000000 in
theorem runes_any (s : ByteArray) (w : World) (hle : Leads w) (hs : s.size ≤ 100000000) :
    Calls Tryz.prog 33 #[.string s] w fun e w' => ∃ v, e = .returned v ∧ LsAt w' w.heap.size v (decode (bl s)) ∧ Below w.heap.size w w' := by
  have h1 := hle.lt
  have hbl := bl_length s
  have HB : Hid ((bl s).length = s.size) := hbl
  clear hbl
  have rd0 := rd_new w
  have b0 : Below w.heap.size w (w.alloc rdObj) := (Below.refl _ _).alloc (Nat.le_refl _) _
  go_enter Tryz.func33, Tryz.ntmps33
  go_wp2_with fail
  go_loopw [4, 8] (fun v i wr => ∃ k : Nat, k ≤ s.size ∧ i = .int .i64 k ∧ LsAt wr (w.heap.size + 1) v (RS.zero.run ((bl s).take k)).2 ∧ RdAt wr w.heap.size 0 (RS.zero.run ((bl s).take k)).1 ∧ Kp (w.heap.size + 1) w.heap.size 0 (w.alloc rdObj) wr)
    (fun _ i _ => s.size - (intOf i).toNat)
  case atStart => exact ⟨0, Nat.zero_le _, rfl, World.ownsRow_nil _ _ _ _, rd0, Kp.refl _ _ _ _⟩
  case round =>
    obtain ⟨k, hk, rfl, own, rd, kp⟩ := hrel
    have hsz := kp.size
    simp only [World.size_alloc] at hsz
    have hln := run_len RS.zero ((bl s).take k)
    have hlt : ((bl s).take k).length ≤ s.size := by rw [List.length_take, HB.out]; omega
    by_cases hlt : k < s.size
    · have hok := RS.ok.zero.run ((bl s).take k)
      have hle1 : Leads wr := (hle.kept (b0.block 0 h1)).kp kp (by omega) (by omega)
      have hbt := bl_take s k hlt
      have hx1 : (s[k]'hlt).toNat < 256 := UInt8.toNat_lt _
      have HS : Hid (RS.zero.run ((bl s).take (k + 1)) = (((RS.zero.run ((bl s).take k)).1.take ((s[k]'hlt).toNat : Int)).1, (RS.zero.run ((bl s).take k)).2 ++ ((RS.zero.run ((bl s).take k)).1.take ((s[k]'hlt).toNat : Int)).2)) := by rw [hbt]; exact run_snoc _ _ _
      clear hbt
      go_wp2_with (go_at_call 25; refine (take_any (w.heap.size + 1) w.heap.size 0 _ _ _ _ _ rd hok (by omega) (by omega) hle1 (by omega) (by omega) own (by omega) (by omega)).mono ?_; rintro e w1 ⟨v1, rfl, own1, rd1, k1⟩)
      go_roundw
      case rel => exact ⟨k + 1, by omega, by go_num, by rw [HS.out]; exact own1, by rw [HS.out]; exact rd1, kp.trans k1⟩
      case measure => simp [intOf]; omega
    · have hk : k = s.size := by omega
      subst hk
      have hba := bl_all s
      have HA : Hid ((bl s).take s.size = bl s) := hba
      clear hba
      go_wp2_with (go_at_call 51; refine (end_any (w.heap.size + 1) w.heap.size 0 _ _ _ _ rd own (by omega) (by omega) (by omega)).mono ?_; rintro e w1 ⟨v1, rfl, own1, rd1, k1⟩)
      go_ret
      rw [HA.out] at own1
      exact ⟨v1, rfl, own1.mono (by omega), b0.trans ((kp.trans k1).below (Nat.le_refl _) (by omega))⟩

end Go.Proofs.YtheibfffilomcaaGreatDoor
