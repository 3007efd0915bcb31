/- Letters fill the screen row by row: plain facts. -/
import Derived.Test.YtheibfffilomcaaGreatDoorPdM
namespace Go.Proofs.YtheibfffilomcaaGreatDoor

theorem getD_set (S : Sheet) (a : Nat) (r : List CellS) (j : Nat) : (S.set a r).getD j [] = if j = a ∧ a < S.length then r else S.getD j [] := by
  simp only [List.getD, List.getElem?_set]
  by_cases h : a = j
  · subst h
    by_cases h2 : a < S.length
    · simp [h2]
    · simp [h2]
  · rw [if_neg h, if_neg (by omega)]
theorem upRows_getD (S : Sheet) (a n : Nat) : ∀ i, a + i + n ≤ S.length → ∀ j, (upRows S a n i).getD j [] = if a ≤ j ∧ j < a + i then S.getD (j + n) [] else S.getD j [] := by
  intro i
  induction i with
  | zero => intro _ j; rw [if_neg (by omega)]; rfl
  | succ i ih =>
    intro hi j
    rw [upRows, getD_set, upRows_length, ih (by omega), ih (by omega)]
    by_cases h : j = a + i
    · subst h
      rw [if_pos ⟨rfl, by omega⟩, if_neg (by omega), if_pos (by omega)]
    · rw [if_neg (by omega)]
      by_cases h2 : a ≤ j ∧ j < a + i
      · rw [if_pos h2, if_pos (by omega)]
      · rw [if_neg h2, if_neg (by omega)]
theorem clearRows_getD (S : Sheet) (a cols : Nat) : ∀ i, a + i ≤ S.length → ∀ j, (clearRows S a cols i).getD j [] = if a ≤ j ∧ j < a + i then blankR cols else S.getD j [] := by
  intro i
  induction i with
  | zero => intro _ j; rw [if_neg (by omega)]; rfl
  | succ i ih =>
    intro hi j
    rw [clearRows, getD_set, clearRows_length, ih (by omega)]
    by_cases h : j = a + i
    · subst h
      rw [if_pos ⟨rfl, by omega⟩, if_pos (by omega)]
    · rw [if_neg (by omega)]
      by_cases h2 : a ≤ j ∧ j < a + i
      · rw [if_pos h2, if_pos (by omega)]
      · rw [if_neg h2, if_neg (by omega)]
theorem sheet_ext {S T : Sheet} (hl : S.length = T.length) (h : ∀ j, j < S.length → S.getD j [] = T.getD j []) : S = T := by
  apply List.ext_getElem hl
  intro j h1 h2
  have := h j h1
  simpa [List.getD, List.getElem?_eq_getElem h1, List.getElem?_eq_getElem h2] using this
theorem upS_all (S : Sheet) (cols : Nat) (hS : 1 ≤ S.length) (j : Nat) (hj : j < S.length) : (upS S 0 S.length 1 cols).getD j [] = if j + 1 < S.length then S.getD (j + 1) [] else blankR cols := by
  unfold upS
  rw [Nat.min_eq_left hS, clearRows_getD _ _ _ _ (by rw [upRows_length]; omega), upRows_getD _ _ _ _ (by omega)]
  by_cases h : j + 1 < S.length
  · rw [if_neg (by omega), if_pos (by omega), if_pos h]
  · rw [if_pos (by omega), if_neg h]

def tyCell (l : List Int) (i : Nat) : CellS := match l[i]? with
  | some c => ⟨c, pen0, 0⟩
  | none => blankS
def tyRow (c q : Nat) (l : List Int) : List CellS := (List.range c).map fun k => tyCell l (q * c + k)
def tySheet (r c g : Nat) (l : List Int) : Sheet := (List.range r).map fun i => tyRow c (g + i) l
def tyLines (c n : Nat) : Nat := if (n + c - 1) / c = 0 then 1 else (n + c - 1) / c
def tyGone (r c n : Nat) : Nat := if r < tyLines c n then tyLines c n - r else 0
def tyWaits (c n : Nat) : Bool := decide (0 < n) && decide (n % c = 0)
def tyCol (c n : Nat) : Nat := if tyWaits c n then c - 1 else n % c
/-- A terminal afresh but for its first screen and where the cursor stands. -/
def tyS (r c : Nat) (S : Sheet) (row col : Int) (w : Bool) : TS :=
  ⟨r, c, S, spot0, List.replicate r (blankR c), spot0, row, col, w, pen0, 0, 0, 0, false, 0, (r : Int) - 1, true, false, 0, (List.range c).map fun c => decide (0 < c ∧ c % 8 = 0)⟩
theorem tyS_setCur (r c : Nat) (S S' : Sheet) (row col : Int) (w : Bool) : (tyS r c S row col w).setCur S' = tyS r c S' row col w := rfl
def typed (r c : Nat) (l : List Int) : TS :=
  tyS r c (tySheet r c (tyGone r c l.length) l) ((tyLines c l.length - tyGone r c l.length - 1 : Nat) : Int) (tyCol c l.length : Int) (tyWaits c l.length)

theorem tyLines_eq {c q k : Nat} (hc : 1 ≤ c) (hk : k < c) : tyLines c (q * c + k) = if k = 0 then max q 1 else q + 1 := by
  unfold tyLines
  by_cases h : k = 0
  · subst h
    have e : (q * c + 0 + c - 1) / c = q := by
      rw [show q * c + 0 + c - 1 = (c - 1) + q * c by omega, Nat.add_mul_div_right _ _ (by omega), Nat.div_eq_of_lt (by omega)]; omega
    rw [e, if_pos rfl]
    split <;> omega
  · have e : (q * c + k + c - 1) / c = q + 1 := by
      rw [show q * c + k + c - 1 = (k - 1) + (q + 1) * c by rw [Nat.add_mul]; omega, Nat.add_mul_div_right _ _ (by omega), Nat.div_eq_of_lt (by omega)]; omega
    rw [e, if_neg (by omega), if_neg h]
theorem tyWaits_eq {c q k : Nat} (_hc : 1 ≤ c) (hk : k < c) : tyWaits c (q * c + k) = decide (0 < q ∧ k = 0) := by
  unfold tyWaits
  have e : (q * c + k) % c = k := by rw [Nat.add_comm, Nat.add_mul_mod_self_right, Nat.mod_eq_of_lt hk]
  rw [e]
  by_cases h : k = 0
  · subst h
    by_cases hq : q = 0
    · subst hq; simp
    · have : 0 < q * c := Nat.mul_pos (by omega) (by omega)
      simp [this]; omega
  · simp [h]
theorem tyMod {c q k : Nat} (hk : k < c) : (q * c + k) % c = k := by rw [Nat.add_comm, Nat.add_mul_mod_self_right, Nat.mod_eq_of_lt hk]
theorem line_lt {a b c : Nat} (h : a < b) : a * c + c ≤ b * c := by
  have := Nat.mul_le_mul_right c (show a + 1 ≤ b from h)
  rw [Nat.add_mul] at this; omega
theorem tyRow_length (c q : Nat) (l : List Int) : (tyRow c q l).length = c := by simp [tyRow]
theorem tySheet_length (r c g : Nat) (l : List Int) : (tySheet r c g l).length = r := by simp [tySheet]
theorem tySheet_getD (r c g : Nat) (l : List Int) {i : Nat} (hi : i < r) : (tySheet r c g l).getD i [] = tyRow c (g + i) l := by simp [tySheet, List.getD, hi]
theorem tyRow_part (c q : Nat) (l : List Int) (a : Nat) (x : CellS) (hx : (tyRow c q l)[a]? = some x) : x.part ≠ 2 := by
  simp only [tyRow, List.getElem?_map] at hx
  obtain ⟨k, _, rfl⟩ := Option.map_eq_some_iff.1 hx
  unfold tyCell
  split <;> simp [blankS]
/-- A line beyond the letters is blank. -/
theorem tyRow_blank {c q : Nat} {l : List Int} (h : l.length ≤ q * c) : tyRow c q l = blankR c := by
  unfold tyRow blankR
  apply List.ext_getElem
  · simp
  · intro i h1 h2
    simp [tyCell, List.getElem?_eq_none (show l.length ≤ q * c + i by omega)]
/-- Another line does not see the new letter. -/
theorem tyRow_other {c q p k : Nat} {l : List Int} (hn : l.length = q * c + k) (hk : k < c) (hpq : p ≠ q) (x : Int) : tyRow c p (l ++ [x]) = tyRow c p l := by
  unfold tyRow
  apply List.map_congr_left
  intro i hi
  rw [List.mem_range] at hi
  unfold tyCell
  rw [List.getElem?_append]
  by_cases h : p * c + i < l.length
  · rw [if_pos h]
  · rw [if_neg h]
    have : p * c + i ≠ l.length := by
      rcases Nat.lt_or_gt_of_ne hpq with g | g
      · have := line_lt (c := c) g; omega
      · have := line_lt (c := c) g; omega
    rw [List.getElem?_eq_none (show [x].length ≤ p * c + i - l.length by simp; omega), List.getElem?_eq_none (show l.length ≤ p * c + i by omega)]
theorem tyRow_put {c q k : Nat} {l : List Int} (hn : l.length = q * c + k) (_hk : k < c) (x : Int) : putR (tyRow c q l) k x 1 pen0 = tyRow c q (l ++ [x]) := by
  unfold putR
  rw [if_neg (by decide), splitR_ok (a := k) (tyRow_part _ _ _ _), splitR_ok (tyRow_part _ _ _ _)]
  unfold tyRow
  apply List.ext_getElem
  · simp
  · intro i h1 h2
    simp only [List.length_set, List.length_map, List.length_range] at h1
    simp only [List.getElem_set, List.getElem_map, List.getElem_range]
    by_cases h : k = i
    · subst h
      rw [if_pos rfl]
      unfold tyCell
      rw [← hn]; simp
    · rw [if_neg h]
      unfold tyCell
      rw [List.getElem?_append]
      by_cases h3 : q * c + i < l.length
      · rw [if_pos h3]
      · rw [if_neg h3, List.getElem?_eq_none (show [x].length ≤ q * c + i - l.length by simp; omega), List.getElem?_eq_none (show l.length ≤ q * c + i by omega)]
theorem typed_snoc {r c : Nat} (hr : 1 ≤ r) (hc : 1 ≤ c) (l : List Int) (x : Int) : (typed r c l).print x 1 = typed r c (l ++ [x]) := by
  obtain ⟨q, k, hk, hn⟩ : ∃ q k, k < c ∧ l.length = q * c + k := ⟨l.length / c, l.length % c, Nat.mod_lt _ (by omega), by rw [Nat.mul_comm]; exact (Nat.div_add_mod _ _).symm⟩
  -- the state behind the new letter
  have hl' : (l ++ [x]).length = q * c + (k + 1) := by simp [hn]; omega
  have w1 := tyWaits_eq (q := q) hc hk
  have L1 := tyLines_eq (q := q) hc hk
  have L2 : tyLines c (q * c + (k + 1)) = q + 1 := by
    by_cases h : k + 1 < c
    · rw [tyLines_eq hc h, if_neg (by omega)]
    · rw [show q * c + (k + 1) = (q + 1) * c + 0 by rw [Nat.add_mul]; omega, tyLines_eq hc (by omega), if_pos rfl]; omega
  have W2 : tyWaits c (q * c + (k + 1)) = decide (k + 1 = c) := by
    by_cases h : k + 1 < c
    · rw [tyWaits_eq hc h, decide_eq_decide]; omega
    · rw [show q * c + (k + 1) = (q + 1) * c + 0 by rw [Nat.add_mul]; omega, tyWaits_eq hc (by omega), decide_eq_decide]; omega
  have C2 : tyCol c (q * c + (k + 1)) = min (k + 1) (c - 1) := by
    unfold tyCol
    rw [W2]
    by_cases h : k + 1 < c
    · rw [decide_eq_false (by omega), tyMod h]; simp; omega
    · rw [decide_eq_true (by omega)]; simp; omega
  have G2 : tyGone r c (q * c + (k + 1)) = q + 1 - r := by unfold tyGone; rw [L2]; split <;> omega
  -- what is put, once the cursor stands there
  have key : ∀ s : TS, s = tyS r c (tySheet r c (q + 1 - r) l) ((min q (r - 1) : Nat) : Int) (k : Int) false → (if (c : Int) < s.col + ((1 : Nat) : Int) then (if s.wrap then s.nextLine.print2 x 1 else s) else s.print2 x 1) = typed r c (l ++ [x]) := by
    rintro s rfl
    rw [if_neg (by show ¬ (c : Int) < (k : Int) + 1; omega)]
    have eR : (tyS r c (tySheet r c (q + 1 - r) l) ((min q (r - 1) : Nat) : Int) (k : Int) false).rowNow = tyRow c q l := by
      show (tySheet r c (q + 1 - r) l).getD (((min q (r - 1) : Nat) : Int)).toNat [] = _
      rw [Int.toNat_natCast, tySheet_getD _ _ _ _ (by omega), show q + 1 - r + min q (r - 1) = q by omega]
    have eS : (tySheet r c (q + 1 - r) l).set (min q (r - 1)) (tyRow c q (l ++ [x])) = tySheet r c (q + 1 - r) (l ++ [x]) := by
      refine sheet_ext (by simp [tySheet_length]) ?_
      intro j hj
      simp only [List.length_set, tySheet_length] at hj
      rw [getD_set, tySheet_length, tySheet_getD _ _ _ _ hj, tySheet_getD _ _ _ _ hj]
      by_cases h : j = min q (r - 1)
      · rw [if_pos ⟨h, by omega⟩, show q + 1 - r + j = q by omega]
      · rw [if_neg (by omega), tyRow_other hn hk (by omega)]
    have eP : (tyS r c (tySheet r c (q + 1 - r) l) ((min q (r - 1) : Nat) : Int) (k : Int) false).putNow x 1 = tyS r c (tySheet r c (q + 1 - r) (l ++ [x])) ((min q (r - 1) : Nat) : Int) (k : Int) false := by
      unfold TS.putNow TS.setRowNow
      rw [eR, tyS_setCur]
      have e1 : putR (tyRow c q l) (tyS r c (tySheet r c (q + 1 - r) l) ((min q (r - 1) : Nat) : Int) (k : Int) false).col.toNat (TS.spelt (tyS r c (tySheet r c (q + 1 - r) l) ((min q (r - 1) : Nat) : Int) (k : Int) false) x) 1 (TS.pen (tyS r c (tySheet r c (q + 1 - r) l) ((min q (r - 1) : Nat) : Int) (k : Int) false)) = tyRow c q (l ++ [x]) := tyRow_put hn hk x
      rw [e1]
      have e2 : List.set (TS.cur (tyS r c (tySheet r c (q + 1 - r) l) ((min q (r - 1) : Nat) : Int) (k : Int) false)) (tyS r c (tySheet r c (q + 1 - r) l) ((min q (r - 1) : Nat) : Int) (k : Int) false).row.toNat (tyRow c q (l ++ [x])) = (tySheet r c (q + 1 - r) l).set (min q (r - 1)) (tyRow c q (l ++ [x])) := rfl
      rw [e2, eS]
    unfold TS.print2
    rw [if_neg (by show ¬ (false = true); decide), eP]
    unfold typed
    rw [hl', G2, L2, W2, C2]
    have e1 : TS.bringI ((k : Int) + ((1 : Nat) : Int)) 0 ((c : Int) - 1) = ((min (k + 1) (c - 1) : Nat) : Int) := by unfold TS.bringI; omega
    have e2 : (true && decide ((c : Int) - 1 < (k : Int) + ((1 : Nat) : Int))) = decide (k + 1 = c) := by rw [Bool.true_and, decide_eq_decide]; omega
    have e3 : q + 1 - (q + 1 - r) - 1 = min q (r - 1) := by omega
    rw [e3, ← e1, ← e2]
    rfl
  unfold TS.print
  rw [if_neg (by show ¬ ((1 : Nat) = 0 ∨ c < 1); omega)]
  apply key
  -- the cursor stands there
  unfold TS.print1
  by_cases hw : 0 < q ∧ k = 0
  · obtain ⟨hq, rfl⟩ := hw
    have L1' : tyLines c l.length = q := by rw [hn, L1, if_pos rfl]; omega
    have w1' : tyWaits c l.length = true := by rw [hn, w1]; simp [hq]
    have hG : tyGone r c l.length = q - r := by unfold tyGone; rw [L1']; split <;> omega
    rw [if_pos (show (typed r c l).waits = true from w1')]
    have e0 : TS.bringI 0 0 ((c : Int) - 1) = ((0 : Nat) : Int) := by unfold TS.bringI; omega
    have eU : (typed r c l).unwait.toCol 0 = tyS r c (tySheet r c (q - r) l) ((q - (q - r) - 1 : Nat) : Int) ((0 : Nat) : Int) false := by
      unfold typed
      rw [L1', hG, ← e0]; rfl
    unfold TS.nextLine
    rw [eU]
    unfold TS.down
    by_cases hb : r ≤ q
    · rw [if_pos (by show ((q - (q - r) - 1 : Nat) : Int) = (r : Int) - 1; omega)]
      unfold TS.scrollUp
      rw [tyS_setCur]
      have eH : (tyS r c (tySheet r c (q - r) l) ((q - (q - r) - 1 : Nat) : Int) ((0 : Nat) : Int) false).height = (tySheet r c (q - r) l).length := by
        rw [tySheet_length]; show ((r : Int) - 1 + 1 - 0).toNat = r; omega
      rw [eH]
      have eS : upS (tySheet r c (q - r) l) 0 (tySheet r c (q - r) l).length 1 c = tySheet r c (q + 1 - r) l := by
        refine sheet_ext (by rw [upS_length, tySheet_length, tySheet_length]) ?_
        intro j hj
        rw [upS_length, tySheet_length] at hj
        rw [upS_all _ _ (by rw [tySheet_length]; exact hr) _ (by rw [tySheet_length]; exact hj), tySheet_length, tySheet_getD _ _ _ _ hj]
        by_cases h : j + 1 < r
        · rw [if_pos h, tySheet_getD _ _ _ _ h, show q - r + (j + 1) = q + 1 - r + j by omega]
        · rw [if_neg h, tyRow_blank (by rw [hn, show q + 1 - r + j = q by omega]; omega)]
      have eS2 : upS (tyS r c (tySheet r c (q - r) l) ((q - (q - r) - 1 : Nat) : Int) ((0 : Nat) : Int) false).cur (tyS r c (tySheet r c (q - r) l) ((q - (q - r) - 1 : Nat) : Int) ((0 : Nat) : Int) false).top.toNat (tySheet r c (q - r) l).length 1 (tyS r c (tySheet r c (q - r) l) ((q - (q - r) - 1 : Nat) : Int) ((0 : Nat) : Int) false).cols = upS (tySheet r c (q - r) l) 0 (tySheet r c (q - r) l).length 1 c := rfl
      rw [eS2, eS, show (q - (q - r) - 1 : Nat) = min q (r - 1) by omega]
    · rw [if_neg (by show ¬ ((q - (q - r) - 1 : Nat) : Int) = (r : Int) - 1; omega)]
      have e5 : TS.bringI (((q - (q - r) - 1 : Nat) : Int) + 1) 0 ((r : Int) - 1) = ((min q (r - 1) : Nat) : Int) := by unfold TS.bringI; omega
      rw [← e5, show q - r = q + 1 - r by omega]; rfl
  · have w1' : tyWaits c l.length = false := by rw [hn, w1]; exact decide_eq_false hw
    have L1' : tyLines c l.length = q + 1 := by rw [hn, L1]; split <;> omega
    have hG : tyGone r c l.length = q + 1 - r := by unfold tyGone; rw [L1']; split <;> omega
    have hC : tyCol c l.length = k := by unfold tyCol; rw [w1', hn, tyMod hk]; rfl
    rw [if_neg (show ¬ (typed r c l).waits = true by show ¬ tyWaits c l.length = true; rw [w1']; decide)]
    unfold typed
    rw [L1', hG, hC, w1', show q + 1 - (q + 1 - r) - 1 = min q (r - 1) by omega]
theorem typed_nil {r c : Nat} (hr : 1 ≤ r) (hc : 1 ≤ c) : typed r c [] = TS.fresh r c := by
  have L : tyLines c 0 = 1 := by have := tyLines_eq (c := c) (q := 0) (k := 0) hc (by omega); simpa using this
  have G : tyGone r c 0 = 0 := by unfold tyGone; rw [L, if_neg (by omega)]
  have W : tyWaits c 0 = false := by simp [tyWaits]
  have C : tyCol c 0 = 0 := by unfold tyCol; rw [W]; simp
  have S : tySheet r c 0 [] = List.replicate r (blankR c) := by
    refine sheet_ext (by simp [tySheet_length]) ?_
    intro j hj
    rw [tySheet_length] at hj
    rw [tySheet_getD _ _ _ _ hj, tyRow_blank (by simp)]
    simp [List.getD, hj]
  unfold typed
  rw [show ([] : List Int).length = 0 from rfl, L, G, W, C, S]
  rfl
theorem wid_letter {c : Int} (h : 33 ≤ c ∧ c ≤ 126) : widN c = 1 := by
  have key : ∀ n : Nat, n < 94 → widN ((n : Int) + 33) = 1 := by decide
  have := key (c - 33).toNat (by omega)
  rwa [show (((c - 33).toNat : Nat) : Int) + 33 = c by omega] at this
theorem letters_typed {r c : Nat} (hr : 1 ≤ r) (hc : 1 ≤ c) (l : List Int) : (∀ x ∈ l, 33 ≤ x ∧ x ≤ 126) → (FS.fresh r c).feed l = ⟨.zero, .zero, typed r c l⟩ := by
  have key : ∀ n : Nat, ∀ l : List Int, l.length = n → (∀ x ∈ l, 33 ≤ x ∧ x ≤ 126) → (FS.fresh r c).feed l = ⟨.zero, .zero, typed r c l⟩ := by
    intro n
    induction n with
    | zero =>
      intro l hl _
      rw [List.length_eq_zero_iff.1 hl, typed_nil hr hc]; rfl
    | succ n ih =>
      intro l hl hx
      obtain ⟨a, x, rfl⟩ : ∃ a x, l = a ++ [x] := ⟨l.dropLast, l.getLast (by intro e; subst e; simp at hl), (List.dropLast_concat_getLast _).symm⟩
      simp at hl
      have hx1 := hx x (by simp)
      rw [feed_snoc, ih a hl (fun y hy => hx y (by simp [hy])), byte_low _ x rfl (by omega)]
      rw [char_print _ rfl ⟨by omega, by omega⟩, wid_letter hx1]
      show (⟨RS.zero, MS.zero, (typed r c a).print x 1⟩ : FS) = _
      rw [typed_snoc hr hc a x]
  exact key l.length l rfl
end Go.Proofs.YtheibfffilomcaaGreatDoor
