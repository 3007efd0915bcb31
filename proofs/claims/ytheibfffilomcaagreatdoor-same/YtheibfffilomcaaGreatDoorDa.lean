/- Sheets of rows: plain functions, and how they lie in memory. -/
import Derived.Test.YtheibfffilomcaaGreatDoorCg
import Derived.Laws.MakeOwn
namespace Go.Proofs.YtheibfffilomcaaGreatDoor
open Go.RowKit

abbrev Sheet := List (List CellS)

def blankR (cols : Nat) : List CellS := List.replicate cols blankS
/-- i rows taken from n further down. -/
def upRows (S : Sheet) (a n : Nat) : Nat → Sheet
  | 0 => S
  | i + 1 => (upRows S a n i).set (a + i) ((upRows S a n i).getD (a + i + n) [])
/-- i rows taken from n further up, from the last one on. -/
def downRows (S : Sheet) (a n len : Nat) : Nat → Sheet
  | 0 => S
  | i + 1 => (downRows S a n len i).set (a + (len - 1 - i)) ((downRows S a n len i).getD (a + (len - 1 - i) - n) [])
/-- i rows from a on made blank. -/
def clearRows (S : Sheet) (a cols : Nat) : Nat → Sheet
  | 0 => S
  | i + 1 => (clearRows S a cols i).set (a + i) (blankR cols)
def upS (S : Sheet) (a len n cols : Nat) : Sheet := clearRows (upRows S a n (len - min n len)) (a + (len - min n len)) cols (len - (len - min n len))
def downS (S : Sheet) (a len n cols : Nat) : Sheet := clearRows (downRows S a (min n len) len (len - min n len)) a cols (min n len)

theorem upRows_length (S : Sheet) (a n i : Nat) : (upRows S a n i).length = S.length := by induction i with | zero => rfl | succ i ih => rw [upRows, List.length_set, ih]
theorem downRows_length (S : Sheet) (a n len i : Nat) : (downRows S a n len i).length = S.length := by induction i with | zero => rfl | succ i ih => rw [downRows, List.length_set, ih]
theorem clearRows_length (S : Sheet) (a cols i : Nat) : (clearRows S a cols i).length = S.length := by induction i with | zero => rfl | succ i ih => rw [clearRows, List.length_set, ih]
theorem upS_length (S : Sheet) (a len n cols : Nat) : (upS S a len n cols).length = S.length := by rw [upS, clearRows_length, upRows_length]
theorem downS_length (S : Sheet) (a len n cols : Nat) : (downS S a len n cols).length = S.length := by rw [downS, clearRows_length, downRows_length]

/-- A row's slice. -/
def rowSl (cols g : Nat) : Value := .slice (some ⟨g, 0, none⟩) cols cols
def shV (cols : Nat) (gs : List Nat) : List Value := gs.map (rowSl cols)

/-- A sheet lies in memory: the rows' slices in one block, each row in a block of its own. -/
structure ShAt (w : World) (sb : Nat) (gs : List Nat) (cols : Nat) (S : Sheet) : Prop where
  blk : w.heap[sb]? = some (.cells (shV cols gs).toArray 166 (0, 0))
  len : gs.length = S.length
  row : ∀ (i : Nat) (g : Nat) (r : List CellS), gs[i]? = some g → S[i]? = some r → RowAt w g r ∧ r.length = cols
  nodup : gs.Nodup
  out : sb ∉ gs

theorem ShAt.lt {w : World} {sb : Nat} {gs : List Nat} {cols : Nat} {S : Sheet} (h : ShAt w sb gs cols S) : sb < w.heap.size := by
  by_cases hl : sb < w.heap.size
  · exact hl
  · have := h.blk; rw [Array.getElem?_eq_none (by omega)] at this; cases this
theorem ShAt.glt {w : World} {sb : Nat} {gs : List Nat} {cols : Nat} {S : Sheet} (h : ShAt w sb gs cols S) {g : Nat} (hg : g ∈ gs) : g < w.heap.size := by
  obtain ⟨i, hi⟩ := List.getElem?_of_mem hg
  have hl := (List.getElem?_eq_some_iff.1 hi).1
  rw [h.len] at hl
  exact (h.row i g _ hi (List.getElem?_eq_getElem hl)).1.lt
theorem ShAt.kept {w w' : World} {sb : Nat} {gs : List Nat} {cols : Nat} {S : Sheet} (h : ShAt w sb gs cols S) {P : Nat → Prop} (c : Ch P w w') (h1 : ¬ P sb) (h2 : ∀ g ∈ gs, ¬ P g) : ShAt w' sb gs cols S :=
  ⟨(c.block sb h.lt h1).trans h.blk, h.len, fun i g r hi hr => ⟨(h.row i g r hi hr).1.kept (c.block g (h.glt (List.mem_of_getElem? hi)) (h2 g (List.mem_of_getElem? hi))), (h.row i g r hi hr).2⟩, h.nodup, h.out⟩
/-- One row has changed. -/
theorem ShAt.set {w w' : World} {sb : Nat} {gs : List Nat} {cols : Nat} {S : Sheet} (h : ShAt w sb gs cols S) {i g : Nat} {r : List CellS} (hi : gs[i]? = some g) (hr : RowAt w' g r) (hl : r.length = cols) (c : Ch (· = g) w w') : ShAt w' sb gs cols (S.set i r) := by
  have hne : sb ≠ g := fun e => h.out (e ▸ List.mem_of_getElem? hi)
  refine ⟨(c.block sb h.lt hne).trans h.blk, by rw [List.length_set]; exact h.len, fun j g' r' hj hr' => ?_, h.nodup, h.out⟩
  rw [List.getElem?_set] at hr'
  by_cases hij : i = j
  · subst hij
    rw [if_pos rfl] at hr'
    split at hr'
    · cases hr'
      rw [hi] at hj; cases hj
      exact ⟨hr, hl⟩
    · cases hr'
  · rw [if_neg hij] at hr'
    have hg : g' ≠ g := fun e => by
      subst e
      exact hij ((List.getElem?_inj (List.getElem?_eq_some_iff.1 hi).1 h.nodup).1 (hi.trans hj.symm))
    exact ⟨(h.row j g' r' hj hr').1.kept (c.block g' (h.glt (List.mem_of_getElem? hj)) hg), (h.row j g' r' hj hr').2⟩
theorem ShAt.slice {w : World} {sb : Nat} {gs : List Nat} {cols : Nat} {S : Sheet} (h : ShAt w sb gs cols S) {i g : Nat} (hi : gs[i]? = some g) : w.cell? ⟨sb, i, none⟩ = some (.slice (some ⟨g, 0, none⟩) cols cols) := by
  rw [cell_of_row _ _ _ _ _ _ h.blk]
  simp [shV, hi, rowSl]
theorem ShAt.get {w : World} {sb : Nat} {gs : List Nat} {cols : Nat} {S : Sheet} (h : ShAt w sb gs cols S) {i : Nat} (hi : i < S.length) : ∃ g, gs[i]? = some g ∧ w.cell? ⟨sb, i, none⟩ = some (.slice (some ⟨g, 0, none⟩) cols cols) ∧ RowAt w g (S.getD i []) ∧ (S.getD i []).length = cols := by
  have hg : i < gs.length := by rw [h.len]; exact hi
  have hr := h.row i _ _ (List.getElem?_eq_getElem hg) (List.getElem?_eq_getElem hi)
  refine ⟨_, List.getElem?_eq_getElem hg, h.slice (List.getElem?_eq_getElem hg), ?_⟩
  simpa [List.getD, List.getElem?_eq_getElem hi] using hr

theorem wipe_all (r : List CellS) (cols : Nat) (h : r.length = cols) : wipeR r 0 cols = blankR cols := by
  simp [wipeR, blankR, List.drop_eq_nil_of_le (Nat.le_of_eq h)]
theorem lay_all (r r2 : List CellS) (cols : Nat) (h : r.length = cols) (h2 : r2.length = cols) : layR r 0 ((r2.drop 0).take cols) = r2 := by
  rw [List.drop_zero, List.take_of_length_le (Nat.le_of_eq h2), layR, List.take_zero, List.nil_append, List.drop_eq_nil_of_le (by omega), List.append_nil]

set_option maxHeartbeats 400000 in
theorem sclear_any (sb a n cap cols : Nat) (gs : List Nat) (S : Sheet) (w : World) (hs : ShAt w sb gs cols S) (han : a + n ≤ S.length) (hn : n ≤ 100) (hc : cols ≤ 100) :
    Calls Tryz.prog 229 #[.slice (some ⟨sb, a, none⟩) n cap] w fun e w' => e = .returned (.tuple #[]) ∧ ShAt w' sb gs cols (clearRows S a cols n) ∧ Ch (· ∈ gs) w w' := by
  go_enter Tryz.func229, Tryz.ntmps229
  go_wp2_with fail
  go_loopw [6] (fun i wr => ∃ k : Nat, k ≤ n ∧ i = .int .i64 k ∧ ShAt wr sb gs cols (clearRows S a cols k) ∧ Ch (· ∈ gs) w wr) (fun i _ => n - (intOf i).toNat)
  case atStart => exact ⟨0, Nat.zero_le _, rfl, hs, Ch.refl _ _⟩
  case round =>
    obtain ⟨k, hk, rfl, hrk, hch⟩ := hrel
    by_cases hlt : k < n
    · have ik : (k : Int) < (n : Int) := by omega
      obtain ⟨g, hg, hcell, hrow, hlen⟩ := hrk.get (i := a + k) (by rw [clearRows_length]; omega)
      have HS : Hid (ShAt wr sb gs cols (clearRows S a cols k)) := hrk
      have HC : Hid (Ch (· ∈ gs) w wr) := hch
      have HR : Hid (RowAt wr g ((clearRows S a cols k).getD (a + k) [])) := hrow
      have HL : Hid (((clearRows S a cols k).getD (a + k) []).length = cols) := hlen
      have HG : Hid (gs[a + k]? = some g) := hg
      clear hrk hch hrow hlen hg
      go_wp2_with (go_at_call 168; refine (wipe_any g 0 0 cols _ _ _ rfl HR.out (by rw [HL.out]; omega) (by rw [HL.out]; omega)).mono ?_; rintro e w1 ⟨rfl, h1, c1⟩)
      have S2 := HS.out.set HG.out (by rw [wipe_all _ _ HL.out] at h1; exact h1) (by simp [blankR]) c1
      have C2 : Ch (· ∈ gs) w w1 := HC.out.trans (c1.mono fun k _ e => e ▸ List.mem_of_getElem? HG.out)
      clear HS HC HR HL HG h1 c1
      go_wp2_with fail
      go_roundw
      case rel => exact ⟨k + 1, by omega, by go_num, S2, C2⟩
      case measure => simp [intOf]; omega
    · have hkn : k = n := by omega
      subst hkn
      go_wp2_with fail
      go_end0
      exact ⟨rfl, hrk, hch⟩
end Go.Proofs.YtheibfffilomcaaGreatDoor
