/- Yz Qa Pb Pq Pt together. -/
import Derived.Test.YtheibfffilomcaaDoorXcM

/- A terminal's size stays. -/
namespace Go.Proofs.YtheibfffilomcaaDoor

namespace TS
def dim (s : TS) : Nat × Nat := (s.rows, s.cols)
theorem dim_setCur (s : TS) (S : Sheet) : (s.setCur S).dim = s.dim := by unfold setCur; split <;> rfl
theorem dim_toCol (s : TS) (c : Int) : (s.toCol c).dim = s.dim := rfl
theorem dim_toRow (s : TS) (c : Int) : (s.toRow c).dim = s.dim := rfl
theorem dim_toCounted (s : TS) (c : Int) : (s.toCounted c).dim = s.dim := by unfold toCounted; split <;> rfl
theorem dim_home (s : TS) : s.home.dim = s.dim := (dim_toCounted s 0)
theorem dim_rise (s : TS) (n : Int) : (s.rise n).dim = s.dim := rfl
theorem dim_sink (s : TS) (n : Int) : (s.sink n).dim = s.dim := rfl
theorem dim_scrollUp (s : TS) (n : Nat) : (s.scrollUp n).dim = s.dim := dim_setCur _ _
theorem dim_scrollDown (s : TS) (n : Nat) : (s.scrollDown n).dim = s.dim := dim_setCur _ _
theorem dim_down (s : TS) : s.down.dim = s.dim := by unfold down; split <;> first | exact dim_scrollUp _ _ | rfl
theorem dim_up (s : TS) : s.up.dim = s.dim := by unfold up; split <;> first | exact dim_scrollDown _ _ | rfl
theorem dim_nextLine (s : TS) : s.nextLine.dim = s.dim := dim_down _
theorem dim_nextTab (s : TS) : s.nextTab.dim = s.dim := rfl
theorem dim_save (s : TS) : s.save.dim = s.dim := by unfold save; split <;> rfl
theorem dim_restore (s : TS) : s.restore.dim = s.dim := rfl
theorem dim_setRowNow (s : TS) (r : List CellS) : (s.setRowNow r).dim = s.dim := dim_setCur _ _
theorem dim_putNow (s : TS) (c : Int) (wd : Nat) : (s.putNow c wd).dim = s.dim := dim_setCur _ _
theorem dim_insNow (s : TS) (wd : Nat) : (s.insNow wd).dim = s.dim := dim_setCur _ _
theorem dim_step (s : TS) (wd : Nat) : (s.step wd).dim = s.dim := rfl
theorem dim_unwait (s : TS) : s.unwait.dim = s.dim := rfl
theorem dim_print1 (s : TS) : s.print1.dim = s.dim := by unfold print1; split <;> first | exact dim_nextLine _ | rfl
theorem dim_print2 (s : TS) (c : Int) (wd : Nat) : (s.print2 c wd).dim = s.dim := by
  unfold print2
  rw [dim_step, dim_putNow]
  split
  · exact dim_insNow _ _
  · rfl
theorem dim_print (s : TS) (c : Int) (wd : Nat) : (s.print c wd).dim = s.dim := by
  unfold print
  split
  · rfl
  · split
    · split
      · rw [dim_print2, dim_nextLine, dim_print1]
      · exact dim_print1 s
    · rw [dim_print2, dim_print1]
theorem dim_control (s : TS) (c : Int) : (s.control c).dim = s.dim := by
  unfold control
  have h : (if 8 ≤ c ∧ c ≤ 13 then s.unwait else s).dim = s.dim := by split <;> rfl
  rw [← h]
  generalize (if 8 ≤ c ∧ c ≤ 13 then s.unwait else s) = t
  simp only
  repeat' split
  all_goals first | rfl | exact dim_down _
theorem dim_bare (s : TS) (f : Int) : (s.bare f).dim = s.dim := by
  unfold bare
  repeat' split
  all_goals first | rfl | exact dim_save _ | exact dim_down _ | exact dim_up _ | exact dim_nextLine _
theorem dim_escape (s : TS) (m f : Int) : (s.escape m f).dim = s.dim := by
  unfold escape
  repeat' split
  all_goals first | rfl | exact dim_bare _ _
theorem dim_move (s : TS) (f p q : Int) : (s.move f p q).dim = s.dim := by
  unfold move
  repeat' split
  all_goals first | rfl | exact dim_toCounted _ _
theorem dim_clearRow (s : TS) (n : Int) : (s.clearRow n).dim = s.dim := by
  unfold clearRow
  repeat' split
  all_goals first | rfl | exact dim_setCur _ _
theorem dim_clearOther (s : TS) (n : Int) : (s.clearOther n).dim = s.dim := by
  unfold clearOther
  repeat' split
  all_goals first | rfl | exact dim_setCur _ _
theorem dim_edit (s : TS) (f p : Int) : (s.edit f p).dim = s.dim := by
  unfold edit
  simp only
  repeat' split
  all_goals first | rfl | exact dim_setCur _ _ | exact dim_clearRow _ _ | exact (dim_clearOther _ _).trans (dim_clearRow _ _)
theorem dim_setRegion (s : TS) (t b : Int) : (s.setRegion t b).dim = s.dim := by
  unfold setRegion
  simp only
  repeat' split
  all_goals first | rfl | exact dim_home _
theorem dim_clearTabs (s : TS) (n : Int) : (s.clearTabs n).dim = s.dim := by
  unfold clearTabs
  repeat' split
  all_goals rfl
theorem dim_turns (l : List Int) : ∀ s : TS, (s.turns l).dim = s.dim := by
  induction l with
  | nil => intro s; rfl
  | cons n l ih => intro s; exact (ih _)
theorem dim_adjust (s : TS) (f : Int) (ps : List Int) (ct : Nat) : (s.adjust f ps ct).dim = s.dim := by
  unfold adjust
  repeat' split
  all_goals first | rfl | exact dim_setRegion _ _ _ | exact dim_clearTabs _ _ | exact dim_turns _ _
theorem dim_set1 (s : TS) (n : Int) (on : Bool) : (s.set1 n on).dim = s.dim := by
  unfold set1
  repeat' split
  all_goals first | rfl | exact dim_home _
theorem dim_sets (on : Bool) (l : List Int) : ∀ s : TS, (s.sets on l).dim = s.dim := by
  induction l with
  | nil => intro s; rfl
  | cons n l ih => intro s; exact (ih _).trans (dim_set1 _ _ _)
theorem dim_sequence (s : TS) (m f : Int) (ps : List Int) (ct : Nat) : (s.sequence m f ps ct).dim = s.dim := by
  unfold sequence
  split
  · simp only
    rw [dim_adjust, dim_edit, dim_move]
    split <;> rfl
  · split
    · split
      · exact dim_sets _ _ _
      · rfl
    · rfl
theorem dim_take (s : TS) (e : List Int) : (s.take e).dim = s.dim := by
  unfold take
  repeat' split
  all_goals first | rfl | exact dim_print _ _ _ | exact dim_control _ _ | exact dim_escape _ _ _ | exact dim_sequence _ _ _ _ _
end TS
theorem dim_char (x : FS) (c : Int) : (x.char c).t.dim = x.t.dim := by
  unfold FS.char
  show TS.dim (if _ then _ else _) = _
  split
  · exact TS.dim_take _ _
  · rfl
theorem dim_chars (l : List Int) : ∀ x : FS, (x.chars l).t.dim = x.t.dim := by
  induction l with
  | nil => intro x; rfl
  | cons c l ih => intro x; exact (ih _).trans (dim_char _ _)
theorem dim_feed (l : List Int) : ∀ x : FS, (x.feed l).t.dim = x.t.dim := by
  induction l with
  | nil => intro x; rfl
  | cons c l ih => intro x; exact (ih _).trans (dim_chars _ _)
theorem fresh_rows (r c : Nat) (l : List Int) : ((FS.fresh r c).feed l).t.rows = r := congrArg Prod.fst (dim_feed l (FS.fresh r c))
theorem fresh_cols (r c : Nat) (l : List Int) : ((FS.fresh r c).feed l).t.cols = c := congrArg Prod.snd (dim_feed l (FS.fresh r c))
end Go.Proofs.YtheibfffilomcaaDoor

/- What CAN, and ESC c behind it, do to a terminal: plain facts. -/
namespace Go.Proofs.YtheibfffilomcaaDoor

theorem byte_low (x : FS) (b : Int) (h : x.r.m = 0) (hb : b < 128) : x.byte b = x.char b := by
  unfold FS.byte RS.take RS.beg
  simp [h, hb, FS.chars]
theorem char_can (x : FS) : x.char 24 = ⟨x.r, .zero, x.t⟩ := by
  unfold FS.char MS.take
  simp
theorem char_esc (x : FS) : x.char 27 = ⟨x.r, ⟨1, 0, 0, z16⟩, x.t⟩ := by
  unfold FS.char MS.take
  simp
/-- Behind CAN nothing is begun, and the size is what it was. -/
theorem can_any (x : FS) (hlo : x.r.m ≠ 0 → 24 < x.r.lo) : (x.byte 24).r.m = 0 ∧ (x.byte 24).m = .zero ∧ (x.byte 24).t.dim = x.t.dim := by
  by_cases h : x.r.m = 0
  · rw [byte_low x 24 h (by omega), char_can]
    exact ⟨h, rfl, rfl⟩
  · have e : x.byte 24 = FS.char (FS.char ⟨.zero, x.m, x.t⟩ 65533) 24 := by
      unfold FS.byte RS.take RS.fin RS.beg
      simp [h, hlo h, FS.chars]
    rw [e, char_can]
    exact ⟨rfl, rfl, dim_char ⟨.zero, x.m, x.t⟩ 65533⟩
theorem can_reset (x : FS) (hlo : x.r.m ≠ 0 → 24 < x.r.lo) : (x.feed [24, 27, 99]).t = TS.fresh x.t.rows x.t.cols := by
  obtain ⟨h1, h2, h3⟩ := can_any x hlo
  show (((x.byte 24).byte 27).byte 99).t = _
  generalize x.byte 24 = y at *
  rw [byte_low y 27 h1 (by omega), char_esc, byte_low ⟨y.r, ⟨1, 0, 0, z16⟩, y.t⟩ 99 h1 (by omega)]
  have e1 : y.t.rows = x.t.rows := congrArg Prod.fst h3
  have e2 : y.t.cols = x.t.cols := congrArg Prod.snd h3
  rw [← e1, ← e2]
  rfl
/-- What goes on is 128 or more. -/
def RS.Low (s : RS) : Prop := s.m ≠ 0 → 128 ≤ s.lo
theorem lead_low {b : Int} {r : RS} (h : lead b = some r) : r.Low := by
  unfold lead at h
  repeat' split at h
  all_goals first | (cases h; done) | (cases h; intro _; dsimp only; omega)
theorem RS.Low.zero : RS.zero.Low := fun h => absurd rfl h
theorem RS.Low.beg {s : RS} (h : s.Low) (b : Int) : (s.beg b).1.Low := by
  unfold RS.beg
  split
  · exact h
  · split
    · rename_i r hr; exact lead_low hr
    · exact h
theorem RS.Low.take {s : RS} (h : s.Low) (b : Int) : (s.take b).1.Low := by
  unfold RS.take
  split
  · exact h.beg b
  · split
    · have hf : s.fin.1.Low := by
        unfold RS.fin
        split
        · exact h
        · exact RS.Low.zero
      exact hf.beg b
    · unfold RS.join
      split
      · exact RS.Low.zero
      · intro _; show (128 : Int) ≤ 128; omega
theorem chars_r (l : List Int) : ∀ x : FS, (x.chars l).r = x.r := by
  induction l with
  | nil => intro x; rfl
  | cons c l ih => intro x; exact ih _
theorem FS.low_feed (l : List Int) : ∀ x : FS, x.r.Low → (x.feed l).r.Low := by
  induction l with
  | nil => intro x h; exact h
  | cons b l ih =>
    intro x h
    refine ih (x.byte b) ?_
    unfold FS.byte
    rw [chars_r]
    exact h.take b
theorem feed_reset (r c : Nat) (l : List Int) : (((FS.fresh r c).feed l).feed [24, 27, 99]).t = TS.fresh r c := by
  have h := FS.low_feed l (FS.fresh r c) RS.Low.zero
  rw [can_reset _ (fun q => by have := h q; omega), fresh_rows, fresh_cols]
end Go.Proofs.YtheibfffilomcaaDoor

/- Rows whose halves belong together, and what keeps them so: plain facts. -/
namespace Go.Proofs.YtheibfffilomcaaDoor

/-- A character that bytes can tell; colours that there are. -/
def ScN (c : Int) : Prop := 0 ≤ c ∧ c ≤ 1114111 ∧ ¬ (55296 ≤ c ∧ c ≤ 57343)
def PenS.Ok (p : PenS) : Prop := 0 ≤ p.f ∧ p.f ≤ 8 ∧ 0 ≤ p.k ∧ p.k ≤ 8
theorem pen0_ok : pen0.Ok := ⟨by decide, by decide, by decide, by decide⟩
def CellS.Ok (c : CellS) : Prop := ScN c.r ∧ c.p.Ok
theorem blank_ok : blankS.Ok := ⟨⟨by decide, by decide, by decide⟩, pen0_ok⟩
/-- A row: characters of one cell, and wide ones of two. -/
inductive GoodR : List CellS → Prop
  | nil : GoodR []
  | one (c : CellS) (r : List CellS) (hp : c.part = 0) (hw : widN c.r = 1) (hs : c.Ok) (h : GoodR r) : GoodR (c :: r)
  | two (c : CellS) (r : List CellS) (hp : c.part = 1) (hw : widN c.r = 2) (hs : c.Ok) (h : GoodR r) : GoodR (c :: tailS c :: r)
theorem GoodR.append {a b : List CellS} (h : GoodR a) (k : GoodR b) : GoodR (a ++ b) := by
  induction h with
  | nil => exact k
  | one c r hp hw hs _ ih => exact .one c _ hp hw hs ih
  | two c r hp hw hs _ ih => exact .two c _ hp hw hs ih
theorem wid32 : widN 32 = 1 := by decide
theorem GoodR.blank (n : Nat) : GoodR (List.replicate n blankS) := by
  induction n with
  | zero => exact .nil
  | succ n ih => exact .one _ _ rfl wid32 blank_ok ih
theorem GoodR.head {r : List CellS} (h : GoodR r) (d : CellS) (hd : d.part ≠ 2) : (r.getD 0 d).part ≠ 2 := by
  cases h with
  | nil => exact hd
  | one c r hp _ _ _ => simp [hp]
  | two c r hp _ _ _ => simp [hp]
/-- A border is between characters, or within a wide one. -/
theorem GoodR.cut {r : List CellS} (h : GoodR r) : ∀ a, (GoodR (r.take a) ∧ GoodR (r.drop a)) ∨ ∃ A c B, r = A ++ c :: tailS c :: B ∧ A.length + 1 = a ∧ GoodR A ∧ GoodR B := by
  induction h with
  | nil => intro a; left; simp; exact GoodR.nil
  | one c r hp hw hs h ih =>
    intro a
    cases a with
    | zero => left; exact ⟨.nil, .one c r hp hw hs h⟩
    | succ a =>
      rcases ih a with ⟨h1, h2⟩ | ⟨A, d, B, h1, h2, h3, h4⟩
      · left; exact ⟨.one c _ hp hw hs h1, h2⟩
      · right; exact ⟨c :: A, d, B, by rw [h1]; rfl, by simp [h2], .one c _ hp hw hs h3, h4⟩
  | two c r hp hw hs h ih =>
    intro a
    match a with
    | 0 => left; exact ⟨.nil, .two c r hp hw hs h⟩
    | 1 => right; exact ⟨[], c, r, rfl, rfl, .nil, h⟩
    | a + 2 =>
      rcases ih a with ⟨h1, h2⟩ | ⟨A, d, B, h1, h2, h3, h4⟩
      · left; exact ⟨.two c _ hp hw hs h1, h2⟩
      · right; exact ⟨c :: tailS c :: A, d, B, by rw [h1]; rfl, by simp [h2], .two c _ hp hw hs h3, h4⟩
theorem splitR_ok {r : List CellS} {a : Nat} (h : ∀ x, r[a]? = some x → x.part ≠ 2) : splitR r a = r := by
  unfold splitR
  rw [if_neg]
  rintro ⟨_, h2, h3⟩
  have := h _ (List.getElem?_eq_getElem h2)
  apply this
  have e : r.getD a blankS = r[a] := by simp [List.getD, List.getElem?_eq_getElem h2]
  rw [← e, h3]; rfl
theorem splitR_in (A : List CellS) (c : CellS) (B : List CellS) : splitR (A ++ c :: tailS c :: B) (A.length + 1) = A ++ blankS :: blankS :: B := by
  unfold splitR
  rw [if_pos]
  · simp
  · refine ⟨by omega, by simp, ?_⟩
    simp [List.getD]
theorem GoodR.at0 {r : List CellS} (h : GoodR r) {x : CellS} (hx : r[0]? = some x) : x.part ≠ 2 := by
  cases h with
  | nil => simp at hx
  | one c r hp _ _ _ => simp at hx; subst hx; omega
  | two c r hp _ _ _ => simp at hx; subst hx; omega
theorem split1 {r : List CellS} (h : GoodR r) {a : Nat} (ha : a ≤ r.length) : ∃ P Q, splitR r a = P ++ Q ∧ P.length = a ∧ GoodR P ∧ GoodR Q := by
  rcases h.cut a with ⟨h1, h2⟩ | ⟨A, c, B, rfl, rfl, h3, h4⟩
  · refine ⟨r.take a, r.drop a, ?_, by simp [ha], h1, h2⟩
    rw [List.take_append_drop]
    apply splitR_ok
    intro x hx
    exact h2.at0 (x := x) (by rw [List.getElem?_drop]; simpa using hx)
  · refine ⟨A ++ [blankS], blankS :: B, ?_, by simp, h3.append (.one _ _ rfl wid32 blank_ok .nil), .one _ _ rfl wid32 blank_ok h4⟩
    rw [splitR_in]; simp
theorem split_app (P : List CellS) {Q : List CellS} (h : GoodR Q) (k : Nat) : splitR (P ++ Q) (P.length + k) = P ++ splitR Q k := by
  rcases h.cut k with ⟨h1, h2⟩ | ⟨A, c, B, rfl, rfl, h3, h4⟩
  · have hq : ∀ x, Q[k]? = some x → x.part ≠ 2 := fun x hx => h2.at0 (x := x) (by rw [List.getElem?_drop]; simpa using hx)
    rw [splitR_ok hq, splitR_ok]
    intro x hx
    rw [List.getElem?_append_right (by omega)] at hx
    exact hq x (by simpa using hx)
  · have e : P ++ (A ++ c :: tailS c :: B) = (P ++ A) ++ c :: tailS c :: B := by simp
    rw [e, show P.length + (A.length + 1) = (P ++ A).length + 1 by simp; omega, splitR_in, splitR_in]; simp
theorem split2 {r : List CellS} (h : GoodR r) {a b : Nat} (hab : a ≤ b) (hb : b ≤ r.length) : ∃ P M Q, splitR (splitR r a) b = P ++ (M ++ Q) ∧ P.length = a ∧ M.length = b - a ∧ GoodR P ∧ GoodR M ∧ GoodR Q := by
  obtain ⟨P, R, e, hp, g1, g2⟩ := split1 h (a := a) (by omega)
  have hl : r.length = P.length + R.length := by rw [← List.length_append, ← e, splitR_length]
  obtain ⟨M, Q, e2, hm, g3, g4⟩ := split1 g2 (a := b - a) (by omega)
  refine ⟨P, M, Q, ?_, hp, hm, g1, g3, g4⟩
  rw [e, show b = P.length + (b - a) by omega, split_app P g2, e2]
theorem GoodR.clear {r : List CellS} (h : GoodR r) {a b : Nat} (hab : a ≤ b) (hb : b ≤ r.length) : GoodR (clearR r a b) := by
  obtain ⟨P, M, Q, e, h1, h2, h3, h4, h5⟩ := split2 h hab hb
  unfold clearR wipeR
  rw [e]
  have e1 : (P ++ (M ++ Q)).take a = P := by rw [← h1]; simp
  have e2 : (P ++ (M ++ Q)).drop (a + (b - a)) = Q := by rw [← List.append_assoc, show a + (b - a) = (P ++ M).length by simp; omega, List.drop_left]
  rw [e1, e2]
  exact h3.append ((GoodR.blank _).append h5)
theorem GoodR.put {r : List CellS} (h : GoodR r) {a : Nat} {c : Int} {wd : Nat} (p : PenS) (hs : ScN c) (hp : p.Ok) (hw : widN c = wd) (hwd : wd = 1 ∨ wd = 2) (hb : a + wd ≤ r.length) : GoodR (putR r a c wd p) := by
  obtain ⟨P, M, Q, e, h1, h2, h3, h4, h5⟩ := split2 h (a := a) (b := a + wd) (by omega) hb
  unfold putR
  rw [e]
  subst h1
  rcases hwd with rfl | rfl
  · rw [if_neg (by decide)]
    match M, h2 with
    | [x], _ =>
      simp
      exact h3.append (.one _ _ rfl (by exact_mod_cast hw) ⟨hs, hp⟩ h5)
    | [], h2 => simp at h2
    | x :: y :: M, h2 => simp at h2
  · rw [if_pos rfl]
    match M, h2 with
    | [x, y], _ =>
      simp
      exact h3.append (.two ⟨c, p, 1⟩ _ rfl (by exact_mod_cast hw) ⟨hs, hp⟩ h5)
    | [], h2 => simp at h2
    | [x], h2 => simp at h2
    | x :: y :: z :: M, h2 => simp at h2
theorem GoodR.ins {r : List CellS} (h : GoodR r) {a n : Nat} (hb : a + n ≤ r.length) : GoodR (insR r a n) := by
  obtain ⟨P, M, Q, e, h1, h2, h3, h4, h5⟩ := split2 h (a := a) (b := r.length - n) (by omega) (by omega)
  have hl : r.length = P.length + (M.length + Q.length) := by rw [← List.length_append, ← List.length_append, ← e, splitR_length, splitR_length]
  unfold insR
  rw [e]
  have e1 : ((P ++ (M ++ Q)).drop a).take (r.length - (a + n)) = M := by
    rw [← h1, List.drop_left, show r.length - (P.length + n) = M.length by omega, List.take_left]
  rw [e1]
  unfold layR
  have e2 : (P ++ (M ++ Q)).drop (a + n + M.length) = [] := List.drop_of_length_le (by simp; omega)
  rw [e2, List.append_nil]
  unfold wipeR
  have hT : ((P ++ (M ++ Q)).take (a + n)).length = a + n := by simp; omega
  have e3 : ((P ++ (M ++ Q)).take (a + n) ++ M).take a = P := by
    rw [List.take_append_of_le_length (by omega), List.take_take, Nat.min_eq_left (by omega), ← h1, List.take_left]
  have e4 : ((P ++ (M ++ Q)).take (a + n) ++ M).drop (a + n) = M := by rw [List.drop_append, List.drop_of_length_le (by omega), hT]; simp
  rw [e3, e4]
  exact h3.append ((GoodR.blank _).append h4)
theorem GoodR.rem {r : List CellS} (h : GoodR r) {a n : Nat} (hb : a + n ≤ r.length) : GoodR (remR r a n) := by
  obtain ⟨P, M, Q, e, h1, h2, h3, h4, h5⟩ := split2 h (a := a) (b := a + n) (by omega) hb
  have hl : r.length = P.length + (M.length + Q.length) := by rw [← List.length_append, ← List.length_append, ← e, splitR_length, splitR_length]
  unfold remR
  rw [e]
  have e1 : (P ++ (M ++ Q)).drop (a + n) = Q := by rw [← List.append_assoc, show a + n = (P ++ M).length by simp; omega, List.drop_left]
  rw [e1]
  unfold layR wipeR
  have e2 : (P ++ (M ++ Q)).take a = P := by rw [← h1, List.take_left]
  rw [e2]
  have e3 : (P ++ (Q ++ (P ++ (M ++ Q)).drop (a + Q.length))).take (r.length - n) = P ++ Q := by
    rw [← List.append_assoc, show r.length - n = (P ++ Q).length by simp; omega, List.take_left]
  have e4 : (P ++ (Q ++ (P ++ (M ++ Q)).drop (a + Q.length))).drop (r.length - n + n) = [] := List.drop_of_length_le (by simp; omega)
  rw [e3, e4, List.append_nil]
  exact (h3.append h5).append (GoodR.blank _)

def GoodS (cols : Nat) (S : Sheet) : Prop := ∀ r ∈ S, GoodR r ∧ r.length = cols
theorem GoodS.set {cols : Nat} {S : Sheet} (h : GoodS cols S) (i : Nat) {r : List CellS} (hr : GoodR r ∧ r.length = cols) : GoodS cols (S.set i r) := fun q hq => by
  rcases List.mem_or_eq_of_mem_set hq with hq | rfl
  · exact h q hq
  · exact hr
theorem GoodS.getD {cols : Nat} {S : Sheet} (h : GoodS cols S) {i : Nat} (hi : i < S.length) : GoodR (S.getD i []) ∧ (S.getD i []).length = cols := by
  have e : S.getD i [] = S[i] := by simp [List.getD, List.getElem?_eq_getElem hi]
  rw [e]; exact h _ (List.getElem_mem hi)
theorem GoodS.clearRows {cols : Nat} {S : Sheet} (h : GoodS cols S) (a i : Nat) : GoodS cols (clearRows S a cols i) := by
  induction i with
  | zero => exact h
  | succ i ih => exact ih.set _ ⟨GoodR.blank _, by simp [blankR]⟩
theorem GoodS.upRows {cols : Nat} {S : Sheet} (h : GoodS cols S) (a n : Nat) : ∀ i, a + i + n ≤ S.length → GoodS cols (upRows S a n i) := by
  intro i
  induction i with
  | zero => intro _; exact h
  | succ i ih => intro hi; exact (ih (by omega)).set _ ((ih (by omega)).getD (by rw [upRows_length]; omega))
theorem GoodS.downRows {cols : Nat} {S : Sheet} (h : GoodS cols S) (a n len : Nat) (hl : a + len ≤ S.length) : ∀ i, i + n ≤ len → GoodS cols (downRows S a n len i) := by
  intro i
  induction i with
  | zero => intro _; exact h
  | succ i ih => intro hi; exact (ih (by omega)).set _ ((ih (by omega)).getD (by rw [downRows_length]; omega))
theorem GoodS.up {cols : Nat} {S : Sheet} (h : GoodS cols S) (a len n : Nat) (hl : a + len ≤ S.length) : GoodS cols (upS S a len n cols) := by
  unfold upS
  refine GoodS.clearRows ?_ _ _
  by_cases hn : n ≤ len
  · exact h.upRows a n _ (by omega)
  · rw [show len - min n len = 0 by omega]; exact h
theorem GoodS.down {cols : Nat} {S : Sheet} (h : GoodS cols S) (a len n : Nat) (hl : a + len ≤ S.length) : GoodS cols (downS S a len n cols) := by
  unfold downS
  exact GoodS.clearRows (h.downRows a _ len hl _ (by omega)) _ _

/-- A spot such as may be, its place aside. -/
structure SpotS.Fit (cols : Nat) (q : SpotS) : Prop where
  f : q.first = 0 ∨ q.first = 1
  sc : q.second = 0 ∨ q.second = 1
  u : q.use = 0 ∨ q.use = 1
  p : q.pen.Ok
  w : q.waits = true → q.col = (cols : Int) - 1
structure TS.Fit (s : TS) : Prop where
  g0 : GoodS s.cols s.s0
  g1 : GoodS s.cols s.s1
  f : s.first = 0 ∨ s.first = 1
  sc : s.second = 0 ∨ s.second = 1
  u : s.use = 0 ∨ s.use = 1
  p : s.pen.Ok
  w : s.waits = true → s.col = (s.cols : Int) - 1
  wr : s.waits = true → s.wrap = true
  v0 : s.v0.Fit s.cols
  v1 : s.v1.Fit s.cols
  o : s.origin = true → s.top ≤ s.row ∧ s.row ≤ s.bottom
  tb : s.top < s.bottom ∨ s.rows = 1

namespace TS
theorem Fit.setCur {s : TS} (h : s.Fit) {S : Sheet} (hS : GoodS s.cols S) : (s.setCur S).Fit := by
  unfold TS.setCur
  split
  · exact ⟨hS, h.g1, h.f, h.sc, h.u, h.p, h.w, h.wr, h.v0, h.v1, h.o, h.tb⟩
  · exact ⟨h.g0, hS, h.f, h.sc, h.u, h.p, h.w, h.wr, h.v0, h.v1, h.o, h.tb⟩
theorem Fit.cur {s : TS} (h : s.Fit) : GoodS s.cols s.cur := by
  unfold TS.cur
  split
  · exact h.g0
  · exact h.g1
theorem Fit.rowNow {s : TS} (h : s.Fit) (hi : s.Inv) : GoodR s.rowNow ∧ s.rowNow.length = s.cols := h.cur.getD (by rw [hi.lcur]; have := hi.row0; have := hi.row1; omega)
theorem Fit.setRow {s : TS} (h : s.Fit) {r : List CellS} (hr : GoodR r ∧ r.length = s.cols) : (s.setRowNow r).Fit := h.setCur (h.cur.set _ hr)
theorem Fit.unwait {s : TS} (h : s.Fit) : s.unwait.Fit := ⟨h.g0, h.g1, h.f, h.sc, h.u, h.p, fun e => (by cases e), fun e => (by cases e), h.v0, h.v1, h.o, h.tb⟩
theorem Fit.toCol {s : TS} (h : s.Fit) (hw : s.waits = false) (c : Int) : (s.toCol c).Fit := ⟨h.g0, h.g1, h.f, h.sc, h.u, h.p, fun e => (by rw [show (s.toCol c).waits = s.waits from rfl, hw] at e; cases e), h.wr, h.v0, h.v1, h.o, h.tb⟩
theorem Fit.toRow {s : TS} (h : s.Fit) (c : Int) (ho : s.origin = true → s.top ≤ c ∧ c ≤ s.bottom) (hi : s.Inv) : (s.toRow c).Fit := by
  refine ⟨h.g0, h.g1, h.f, h.sc, h.u, h.p, h.w, h.wr, h.v0, h.v1, fun e => ?_, h.tb⟩
  have := ho e
  have := hi.top0
  have := hi.bot
  show s.top ≤ bringI c 0 ((s.rows : Int) - 1) ∧ bringI c 0 ((s.rows : Int) - 1) ≤ s.bottom
  unfold bringI; omega
theorem Fit.toCounted {s : TS} (h : s.Fit) (c : Int) (hi : s.Inv) : (s.toCounted c).Fit := by
  unfold TS.toCounted
  split
  · refine ⟨h.g0, h.g1, h.f, h.sc, h.u, h.p, h.w, h.wr, h.v0, h.v1, fun e => ?_, h.tb⟩
    have := hi.tb
    show s.top ≤ bringI _ _ _ ∧ bringI _ _ _ ≤ s.bottom
    unfold bringI; omega
  · rename_i ho
    exact h.toRow c (fun e => absurd e (by simpa using ho)) hi
theorem toCounted_waits (s : TS) (c : Int) : (s.toCounted c).waits = s.waits := by unfold TS.toCounted; split <;> rfl
theorem Fit.home {s : TS} (h : s.unwait.Fit) (hi : s.Inv) : s.home.Fit := by
  have e : s.home = ((s.unwait).toCounted 0).toCol 0 := by
    unfold TS.home TS.unwait TS.toCounted
    split <;> rfl
  rw [e]
  exact (h.toCounted 0 hi.unwait).toCol (by rw [toCounted_waits]; rfl) 0
theorem Fit.rise {s : TS} (h : s.Fit) (n : Int) (hn : 0 ≤ n) : (s.rise n).Fit := by
  refine ⟨h.g0, h.g1, h.f, h.sc, h.u, h.p, h.w, h.wr, h.v0, h.v1, fun e => ?_, h.tb⟩
  have := h.o e
  show s.top ≤ max (s.row - n) (if s.top ≤ s.row then s.top else 0) ∧ max (s.row - n) (if s.top ≤ s.row then s.top else 0) ≤ s.bottom
  rw [if_pos this.1]; omega
theorem Fit.sink {s : TS} (h : s.Fit) (n : Int) (hn : 0 ≤ n) : (s.sink n).Fit := by
  refine ⟨h.g0, h.g1, h.f, h.sc, h.u, h.p, h.w, h.wr, h.v0, h.v1, fun e => ?_, h.tb⟩
  have := h.o e
  show s.top ≤ min (s.row + n) (if s.row ≤ s.bottom then s.bottom else (s.rows : Int) - 1) ∧ min (s.row + n) (if s.row ≤ s.bottom then s.bottom else (s.rows : Int) - 1) ≤ s.bottom
  rw [if_pos this.2]; omega
theorem Fit.scrollUp {s : TS} (h : s.Fit) (hi : s.Inv) (n : Nat) : (s.scrollUp n).Fit := h.setCur (h.cur.up _ _ _ (by rw [hi.lcur]; unfold TS.height; have := hi.top0; have := hi.tb; have := hi.bot; omega))
theorem Fit.scrollDown {s : TS} (h : s.Fit) (hi : s.Inv) (n : Nat) : (s.scrollDown n).Fit := h.setCur (h.cur.down _ _ _ (by rw [hi.lcur]; unfold TS.height; have := hi.top0; have := hi.tb; have := hi.bot; omega))
theorem Fit.down {s : TS} (h : s.Fit) (hi : s.Inv) : s.down.Fit := by
  unfold TS.down
  split
  · exact h.scrollUp hi 1
  · exact h.toRow _ (fun e => by have := h.o e; omega) hi
theorem Fit.up {s : TS} (h : s.Fit) (hi : s.Inv) : s.up.Fit := by
  unfold TS.up
  split
  · exact h.scrollDown hi 1
  · exact h.toRow _ (fun e => by have := h.o e; omega) hi
theorem Fit.nextLine {s : TS} (h : s.Fit) (hi : s.Inv) (hw : s.waits = false) : s.nextLine.Fit := (h.toCol hw 0).down (hi.toCol 0)
theorem Fit.save {s : TS} (h : s.Fit) : s.save.Fit := by
  unfold TS.save
  split
  · exact ⟨h.g0, h.g1, h.f, h.sc, h.u, h.p, h.w, h.wr, ⟨h.f, h.sc, h.u, h.p, h.w⟩, h.v1, h.o, h.tb⟩
  · exact ⟨h.g0, h.g1, h.f, h.sc, h.u, h.p, h.w, h.wr, h.v0, ⟨h.f, h.sc, h.u, h.p, h.w⟩, h.o, h.tb⟩
theorem Fit.saved {s : TS} (h : s.Fit) : s.saved.Fit s.cols := by
  unfold TS.saved
  split
  · exact h.v0
  · exact h.v1
theorem Fit.restore {s : TS} (h : s.Fit) (hi : s.Inv) : s.restore.Fit := by
  have hv := h.saved
  unfold TS.restore TS.setSpot
  refine ⟨h.g0, h.g1, hv.f, hv.sc, hv.u, hv.p, fun e => ?_, fun e => ?_, h.v0, h.v1, fun e => ?_, h.tb⟩
  · exact hv.w (by simpa using (Bool.and_eq_true_iff.1 e).1)
  · exact (Bool.and_eq_true_iff.1 e).2
  · have := hi.tb
    have e : s.saved.origin = true := e
    show s.top ≤ (if s.saved.origin = true then bringI s.saved.row s.top s.bottom else s.saved.row) ∧ (if s.saved.origin = true then bringI s.saved.row s.top s.bottom else s.saved.row) ≤ s.bottom
    rw [if_pos e]; unfold bringI; omega

theorem lineOf_wid (c : Int) : widN (lineOf c) = widN c := by
  unfold lineOf
  repeat' split
  all_goals first | rfl | (subst_vars; decide)
theorem lineOf_sc {c : Int} (h : ScN c) : ScN (lineOf c) := by
  obtain ⟨h1, h2, h3⟩ := h
  unfold lineOf
  repeat' split
  all_goals first | exact ⟨h1, h2, h3⟩ | (refine ⟨?_, ?_, ?_⟩ <;> omega)
theorem spelt_sc (s : TS) {c : Int} (h : ScN c) : ScN (s.spelt c) := by
  unfold TS.spelt
  repeat' split
  all_goals first | exact lineOf_sc h | exact h
theorem spelt_wid (s : TS) (c : Int) : widN (s.spelt c) = widN c := by
  unfold TS.spelt
  repeat' split
  all_goals first | rfl | exact lineOf_wid c
theorem setCur_cols (s : TS) (S : Sheet) : (s.setCur S).cols = s.cols ∧ (s.setCur S).col = s.col ∧ (s.setCur S).wrap = s.wrap ∧ (s.setCur S).waits = s.waits := by unfold TS.setCur; split <;> exact ⟨rfl, rfl, rfl, rfl⟩
theorem setCur_spelt (s : TS) (S : Sheet) (c : Int) : (s.setCur S).spelt c = s.spelt c := by unfold TS.setCur; split <;> rfl
theorem Fit.put {s : TS} (h : s.Fit) (hi : s.Inv) (c : Int) (wd : Nat) (hs : ScN c) (hw : widN c = wd) (hwd : wd = 1 ∨ wd = 2) (hc : s.col + (wd : Int) ≤ (s.cols : Int)) : (s.putNow c wd).Fit := by
  obtain ⟨g, l⟩ := h.rowNow hi
  have := hi.col0
  exact h.setRow ⟨g.put _ (spelt_sc s hs) h.p (by rw [spelt_wid]; exact hw) hwd (by rw [l]; omega), by rw [putR_length, l]⟩
theorem Fit.ins {s : TS} (h : s.Fit) (hi : s.Inv) (wd : Nat) : (s.setRowNow (insertR s.rowNow s.col.toNat wd)).Fit := by
  obtain ⟨g, l⟩ := h.rowNow hi
  have := hi.col0
  have := hi.col1
  refine h.setRow ⟨?_, by rw [insertR_length _ _ _ (by rw [l]; omega), l]⟩
  unfold insertR
  exact g.ins (by rw [l]; omega)
theorem Fit.rem {s : TS} (h : s.Fit) (hi : s.Inv) (wd : Nat) : (s.setRowNow (removeR s.rowNow s.col.toNat wd)).Fit := by
  obtain ⟨g, l⟩ := h.rowNow hi
  have := hi.col0
  have := hi.col1
  refine h.setRow ⟨?_, by rw [removeR_length _ _ _ (by rw [l]; omega), l]⟩
  unfold removeR
  exact g.rem (by rw [l]; omega)
theorem Fit.clr {s : TS} (h : s.Fit) (hi : s.Inv) (a b : Nat) (hab : a ≤ b) (hb : b ≤ s.cols) : (s.setRowNow (clearR s.rowNow a b)).Fit := by
  obtain ⟨g, l⟩ := h.rowNow hi
  exact h.setRow ⟨g.clear hab (by omega), by rw [clearR_length _ _ _ (by omega) hab, l]⟩
theorem Fit.step {s : TS} (h : s.Fit) (hi : s.Inv) (wd : Nat) : (s.step wd).Fit := by
  refine ⟨h.g0, h.g1, h.f, h.sc, h.u, h.p, fun e => ?_, fun e => ?_, h.v0, h.v1, h.o, h.tb⟩
  · have := of_decide_eq_true (Bool.and_eq_true_iff.1 e).2
    have := hi.c1
    show bringI (s.col + (wd : Int)) 0 ((s.cols : Int) - 1) = (s.cols : Int) - 1
    unfold bringI; omega
  · exact (Bool.and_eq_true_iff.1 e).1
theorem Fit.print2 {s : TS} (h : s.Fit) (hi : s.Inv) (c : Int) (wd : Nat) (hs : ScN c) (hw : widN c = wd) (hwd : wd = 1 ∨ wd = 2) (hc : s.col + (wd : Int) ≤ (s.cols : Int)) : (s.print2 c wd).Fit := by
  unfold TS.print2
  have k : (if s.insert then s.insNow wd else s).Fit ∧ (if s.insert then s.insNow wd else s).Inv ∧ (if s.insert then s.insNow wd else s).cols = s.cols ∧ (if s.insert then s.insNow wd else s).col = s.col := by
    split
    · exact ⟨h.ins hi wd, hi.setRowNow _, (setCur_cols _ _).1, (setCur_cols _ _).2.1⟩
    · exact ⟨h, hi, rfl, rfl⟩
  obtain ⟨k1, k2, k3, k4⟩ := k
  exact (k1.put k2 c wd hs hw hwd (by rw [k3, k4]; exact hc)).step (k2.setRowNow _) wd
theorem Fit.print1 {s : TS} (h : s.Fit) (hi : s.Inv) : s.print1.Fit ∧ s.print1.waits = false := by
  unfold TS.print1
  split
  · refine ⟨h.unwait.nextLine hi.unwait rfl, ?_⟩
    unfold TS.nextLine TS.down
    split
    · unfold TS.scrollUp; rw [(setCur_cols _ _).2.2.2]; rfl
    · rfl
  · rename_i hw; exact ⟨h, by simpa using hw⟩
theorem nextLine_col (s : TS) (hi : s.Inv) : s.nextLine.col = 0 ∧ s.nextLine.cols = s.cols := by
  have := hi.c1
  have e : (s.toCol 0).col = 0 := by show bringI 0 0 ((s.cols : Int) - 1) = 0; unfold bringI; omega
  unfold TS.nextLine TS.down
  split
  · unfold TS.scrollUp; rw [(setCur_cols _ _).2.1, (setCur_cols _ _).1]; exact ⟨e, rfl⟩
  · exact ⟨e, rfl⟩
theorem Fit.print {s : TS} (h : s.Fit) (hi : s.Inv) {c : Int} (hs : ScN c) : (s.print c (widN c).toNat).Fit := by
  have hb := widN_small c
  obtain ⟨wd, hwd⟩ : ∃ wd : Nat, (widN c).toNat = wd := ⟨_, rfl⟩
  have hw : widN c = (wd : Int) := by omega
  rw [hwd]
  unfold TS.print
  obtain ⟨p1, p2⟩ := h.print1 hi
  have ec : s.print1.cols = s.cols := by have := dim_print1 s; exact congrArg Prod.snd this
  split
  · exact h
  · rename_i hz
    split
    · split
      · obtain ⟨e1, e2⟩ := nextLine_col s.print1 hi.print1
        exact (p1.nextLine hi.print1 p2).print2 hi.print1.nextLine c wd hs hw (by omega) (by rw [e1, e2, ec]; omega)
      · exact p1
    · exact p1.print2 hi.print1 c wd hs hw (by omega) (by rw [ec]; omega)
theorem Fit.control {s : TS} (h : s.Fit) (hi : s.Inv) (c : Int) : (s.control c).Fit := by
  unfold TS.control
  dsimp only
  by_cases hc : 8 ≤ c ∧ c ≤ 13
  · rw [if_pos hc]
    have h := h.unwait
    have hi := hi.unwait
    repeat' split
    · exact h.toCol rfl _
    · exact h.toCol rfl _
    · exact h.down hi
    · exact h.toCol rfl _
    · omega
    · omega
    · exact h
  · rw [if_neg hc]
    repeat' split
    · omega
    · omega
    · omega
    · omega
    · exact ⟨h.g0, h.g1, h.f, h.sc, .inr rfl, h.p, h.w, h.wr, h.v0, h.v1, h.o, h.tb⟩
    · exact ⟨h.g0, h.g1, h.f, h.sc, .inl rfl, h.p, h.w, h.wr, h.v0, h.v1, h.o, h.tb⟩
    · exact h
theorem Fit.fresh {rows cols : Nat} (hr : 1 ≤ rows ∧ rows ≤ 12) : (TS.fresh rows cols).Fit := by
  have g : GoodS cols (List.replicate rows (blankR cols)) := fun r hr => by
    rw [(List.eq_of_mem_replicate hr)]
    exact ⟨GoodR.blank _, by simp [blankR]⟩
  exact ⟨g, g, .inl rfl, .inl rfl, .inl rfl, pen0_ok, fun e => (by cases e), fun e => (by cases e), ⟨.inl rfl, .inl rfl, .inl rfl, pen0_ok, fun e => (by cases e)⟩, ⟨.inl rfl, .inl rfl, .inl rfl, pen0_ok, fun e => (by cases e)⟩, fun e => (by cases e), by show (0 : Int) < (rows : Int) - 1 ∨ rows = 1; omega⟩
theorem Fit.bare {s : TS} (h : s.Fit) (hi : s.Inv) (f : Int) : (s.bare f).Fit := by
  unfold TS.bare
  repeat' split
  · exact h.save
  · exact h.restore hi
  · exact h.unwait.down hi.unwait
  · exact h.unwait.up hi.unwait
  · exact h.unwait.nextLine hi.unwait rfl
  · exact ⟨h.g0, h.g1, h.f, h.sc, h.u, h.p, h.w, h.wr, h.v0, h.v1, h.o, h.tb⟩
  · exact Fit.fresh ⟨hi.r1, hi.r2⟩
  · exact h
theorem alph (f b : Int) (h : b = 0 ∨ b = 1) : alphabetOf f b = 0 ∨ alphabetOf f b = 1 := by
  unfold alphabetOf
  repeat' split
  · exact .inl rfl
  · exact .inr rfl
  · exact h
theorem Fit.escape {s : TS} (h : s.Fit) (hi : s.Inv) (mk f : Int) : (s.escape mk f).Fit := by
  unfold TS.escape
  repeat' split
  · exact h.bare hi f
  · exact ⟨h.g0, h.g1, alph _ _ h.f, h.sc, h.u, h.p, h.w, h.wr, h.v0, h.v1, h.o, h.tb⟩
  · exact ⟨h.g0, h.g1, h.f, alph _ _ h.sc, h.u, h.p, h.w, h.wr, h.v0, h.v1, h.o, h.tb⟩
  · exact h
theorem times1 (n : Int) : 1 ≤ times n := by unfold times; omega
theorem Fit.move {s : TS} (h : s.Fit) (hi : s.Inv) (f p0 p1 : Int) (hw : stills f = true → s.waits = false) : (s.move f p0 p1).Fit := by
  have ht := times1 p0
  unfold TS.move
  split
  · exact h.rise _ (by omega)
  · split
    · exact h.sink _ (by omega)
    · split
      · rename_i e; subst e; exact h.toCol (hw (by decide)) _
      · split
        · rename_i e; subst e; exact h.toCol (hw (by decide)) _
        · split
          · rename_i e; subst e; exact h.toCol (hw (by decide)) _
          · split
            · exact h.toCounted _ hi
            · split
              · rename_i e
                have hw2 : s.waits = false := by rcases e with rfl | rfl <;> exact hw (by decide)
                exact (h.toCounted _ hi).toCol (by rw [toCounted_waits]; exact hw2) _
              · exact h
theorem Fit.clearRow {s : TS} (h : s.Fit) (hi : s.Inv) (n : Int) : (s.clearRow n).Fit := by
  have := hi.col0
  have := hi.col1
  unfold TS.clearRow
  repeat' split
  · exact h.clr hi _ _ (by omega) (by omega)
  · exact h.clr hi _ _ (by omega) (by omega)
  · exact h.clr hi _ _ (by omega) (by omega)
  · exact h
theorem Fit.clearOther {s : TS} (h : s.Fit) (n : Int) : (s.clearOther n).Fit := by
  unfold TS.clearOther
  repeat' split
  · exact h.setCur (h.cur.clearRows _ _)
  · exact h.setCur (h.cur.clearRows _ _)
  · exact h.setCur (h.cur.clearRows _ _)
  · exact h
theorem Fit.edit {s : TS} (h : s.Fit) (hi : s.Inv) (f p : Int) (hw : stills f = true → s.waits = false) : (s.edit f p).Fit := by
  have := hi.col0
  have := hi.col1
  have := hi.row0
  have := hi.bot
  unfold TS.edit
  dsimp only
  split
  · exact (h.clearRow hi _).clearOther _
  · split
    · exact h.clearRow hi _
    · split
      · exact h.ins hi _
      · split
        · exact h.rem hi _
        · split
          · exact h.clr hi _ _ (by omega) (by omega)
          · split
            · rename_i e; subst e
              split
              · rename_i hr
                have hr := of_decide_eq_true hr
                exact (h.setCur (h.cur.down _ _ _ (by rw [hi.lcur]; unfold TS.below; omega))).toCol (by rw [(setCur_cols _ _).2.2.2]; exact hw (by decide)) 0
              · exact h
            · split
              · rename_i e; subst e
                split
                · rename_i hr
                  have hr := of_decide_eq_true hr
                  exact (h.setCur (h.cur.up _ _ _ (by rw [hi.lcur]; unfold TS.below; omega))).toCol (by rw [(setCur_cols _ _).2.2.2]; exact hw (by decide)) 0
                · exact h
              · split
                · exact h.scrollUp hi _
                · split
                  · exact h.scrollDown hi _
                  · exact h
theorem Fit.setRegion {s : TS} (h : s.Fit) (hi : s.Inv) (top bottom : Int) (h0 : 0 ≤ top) : (s.setRegion top bottom).Fit := by
  unfold TS.setRegion
  dsimp only
  generalize hb : (if bottom < 0 ∨ (s.rows : Int) - 1 < bottom then (s.rows : Int) - 1 else bottom) = b
  have hb2 : b < (s.rows : Int) := by rw [← hb]; have := hi.r1; split <;> omega
  split
  · exact h
  · rename_i hlt
    have hi2 : ({ s with top := top, bottom := b } : TS).Inv := hi.upd rfl rfl rfl rfl rfl rfl rfl hi.row0 hi.row1 hi.col0 hi.col1 h0 (by show top ≤ b; omega) hb2 hi.sh
    -- ORIGIN is asked anew at home
    have e : ({ s with top := top, bottom := b } : TS).home = (({ s with top := top, bottom := b } : TS).unwait.toCounted 0).toCol 0 := by
      unfold TS.home TS.unwait TS.toCounted
      split <;> rfl
    rw [e]
    have hb1 : ({ s with top := top, bottom := b } : TS).bottom = b := rfl
    refine ⟨?_, ?_, ?_, ?_, ?_, ?_, ?_, ?_, ?_, ?_, ?_, ?_⟩
    all_goals (unfold TS.toCounted; split)
    · exact h.g0
    · exact h.g0
    · exact h.g1
    · exact h.g1
    · exact h.f
    · exact h.f
    · exact h.sc
    · exact h.sc
    · exact h.u
    · exact h.u
    · exact h.p
    · exact h.p
    · intro e; cases e
    · intro e; cases e
    · intro e; cases e
    · intro e; cases e
    · exact h.v0
    · exact h.v0
    · exact h.v1
    · exact h.v1
    · intro _
      show top ≤ bringI (top + 0) top b ∧ bringI (top + 0) top b ≤ b
      unfold bringI; omega
    · rename_i ho
      intro e
      exact absurd e ho
    · exact .inl (by show top < b; omega)
    · exact .inl (by show top < b; omega)
theorem Fit.clearTabs {s : TS} (h : s.Fit) (n : Int) : (s.clearTabs n).Fit := by
  unfold TS.clearTabs
  repeat' split
  · exact ⟨h.g0, h.g1, h.f, h.sc, h.u, h.p, h.w, h.wr, h.v0, h.v1, h.o, h.tb⟩
  · exact ⟨h.g0, h.g1, h.f, h.sc, h.u, h.p, h.w, h.wr, h.v0, h.v1, h.o, h.tb⟩
  · exact h
theorem turn_ok {p : PenS} (h : p.Ok) (n : Int) : (turn p n).Ok := by
  obtain ⟨h1, h2, h3, h4⟩ := h
  unfold turn
  repeat' split
  all_goals first | exact pen0_ok | exact ⟨h1, h2, h3, h4⟩ | (refine ⟨?_, ?_, ?_, ?_⟩ <;> dsimp only <;> omega)
theorem Fit.turns (l : List Int) : ∀ {s : TS}, s.Fit → (s.turns l).Fit := by
  induction l with
  | nil => intro s h; exact h
  | cons n l ih => intro s h; exact ih (s := { s with pen := turn s.pen (amount n) }) ⟨h.g0, h.g1, h.f, h.sc, h.u, turn_ok h.p _, h.w, h.wr, h.v0, h.v1, h.o, h.tb⟩
theorem Fit.adjust {s : TS} (h : s.Fit) (hi : s.Inv) (f : Int) (ps : List Int) (ct : Nat) : (s.adjust f ps ct).Fit := by
  have := times1 (ps.getD 0 0)
  unfold TS.adjust
  split
  · exact h.setRegion hi _ _ (by omega)
  · split
    · exact h.clearTabs _
    · split
      · exact h.turns _
      · split
        · split
          · exact ⟨h.g0, h.g1, h.f, h.sc, h.u, h.p, h.w, h.wr, h.v0, h.v1, h.o, h.tb⟩
          · exact h
        · exact h
theorem Fit.set1 {s : TS} (h : s.Fit) (hi : s.Inv) (n : Int) (on : Bool) : (s.set1 n on).Fit := by
  unfold TS.set1
  split
  · have hi2 : ({ s with origin := on } : TS).Inv := hi.upd rfl rfl rfl rfl rfl rfl rfl hi.row0 hi.row1 hi.col0 hi.col1 hi.top0 hi.tb hi.bot hi.sh
    have htb := hi.tb
    have ht0 := hi.top0
    cases on with
    | false =>
      refine ⟨h.g0, h.g1, h.f, h.sc, h.u, h.p, ?_, ?_, h.v0, h.v1, ?_, h.tb⟩
      all_goals (intro e; cases e)
    | true =>
      refine ⟨h.g0, h.g1, h.f, h.sc, h.u, h.p, ?_, ?_, h.v0, h.v1, ?_, h.tb⟩
      · intro e; cases e
      · intro e; cases e
      · intro _
        show s.top ≤ bringI (s.top + 0) s.top s.bottom ∧ bringI (s.top + 0) s.top s.bottom ≤ s.bottom
        unfold bringI; omega
  · split
    · exact ⟨h.g0, h.g1, h.f, h.sc, h.u, h.p, fun e => h.w (Bool.and_eq_true_iff.1 e).1, fun e => (Bool.and_eq_true_iff.1 e).2, h.v0, h.v1, h.o, h.tb⟩
    · split
      · exact ⟨h.g0, h.g1, h.f, h.sc, h.u, h.p, h.w, h.wr, h.v0, h.v1, h.o, h.tb⟩
      · exact h
theorem Fit.sets (on : Bool) (l : List Int) : ∀ {s : TS}, s.Fit → s.Inv → (s.sets on l).Fit := by
  induction l with
  | nil => intro s h _; exact h
  | cons n l ih => intro s h hi; exact ih (h.set1 hi n on) (hi.set1 n on)
theorem move_waits (s : TS) (f p q : Int) : (s.move f p q).waits = s.waits := by
  unfold TS.move
  repeat' split
  all_goals first | rfl | exact toCounted_waits _ _
theorem Fit.sequence {s : TS} (h : s.Fit) (hi : s.Inv) (mk f : Int) (ps : List Int) (ct : Nat) : (s.sequence mk f ps ct).Fit := by
  unfold TS.sequence
  split
  · dsimp only
    have k : (if stills f then s.unwait else s).Fit ∧ (if stills f then s.unwait else s).Inv ∧ (stills f = true → (if stills f then s.unwait else s).waits = false) := by
      split
      · exact ⟨h.unwait, hi.unwait, fun _ => rfl⟩
      · rename_i e; exact ⟨h, hi, fun q => absurd q e⟩
    generalize (if stills f then s.unwait else s) = t at *
    obtain ⟨k1, k2, k3⟩ := k
    exact ((k1.move k2 f _ _ k3).edit (k2.move _ _ _) f _ (fun q => by rw [move_waits]; exact k3 q)).adjust ((k2.move _ _ _).edit _ _) f ps ct
  · split
    · split
      · exact Fit.sets _ _ h hi
      · exact h
    · exact h
theorem Fit.take {s : TS} (h : s.Fit) (hi : s.Inv) (ev : List Int) (he : ev.getD 0 0 = 1 → ScN (ev.getD 1 0)) : (s.take ev).Fit := by
  unfold TS.take
  split
  · rename_i e; exact h.print hi (he e)
  · repeat' split
    · exact h.control hi _
    · exact h.escape hi _ _
    · exact h.sequence hi _ _ _ _
    · exact h
end TS
/-- What is begun in the reader ends in characters. -/
structure RS.Sc (s : RS) : Prop where
  m : s.m = 0 ∨ s.m = 1 ∨ s.m = 2 ∨ s.m = 3
  v : 0 ≤ s.val
  a1 : s.m = 1 → s.val ≤ 17407 ∧ ¬ (864 ≤ s.val ∧ s.val < 896)
  a2 : s.m = 2 → s.val ≤ 271 ∧ (s.val = 13 → s.hi ≤ 159)
  a3 : s.m = 3 → s.val ≤ 4 ∧ (s.val = 0 → 144 ≤ s.lo) ∧ (s.val = 4 → s.hi ≤ 143)
  b : s.m ≠ 0 → 128 ≤ s.lo ∧ s.hi ≤ 191
theorem RS.Sc.zero : RS.zero.Sc := ⟨.inl rfl, by decide, by decide, by decide, by decide, by decide⟩
theorem lead_sc {b : Int} {r : RS} (h : lead b = some r) : r.Sc := by
  unfold lead at h
  repeat' split at h
  all_goals first | (cases h; done) | (cases h; refine ⟨?_, ?_, ?_, ?_, ?_, ?_⟩ <;> dsimp only <;> omega)
theorem beg_sc {s : RS} (h : s.Sc) {b : Int} (h0 : 0 ≤ b) : (s.beg b).1.Sc ∧ ∀ c ∈ (s.beg b).2, ScN c := by
  unfold RS.beg
  split
  · refine ⟨h, fun c hc => ?_⟩
    rw [List.mem_singleton] at hc
    subst hc
    exact ⟨h0, by omega, by omega⟩
  · split
    · rename_i r hr; exact ⟨lead_sc hr, fun c hc => by cases hc⟩
    · refine ⟨h, fun c hc => ?_⟩
      rw [List.mem_singleton] at hc
      subst hc
      exact ⟨by decide, by decide, by decide⟩
theorem take_sc {s : RS} (h : s.Sc) {b : Int} (h0 : 0 ≤ b) (h1 : b < 256) : (s.take b).1.Sc ∧ ∀ c ∈ (s.take b).2, ScN c := by
  unfold RS.take
  split
  · exact beg_sc h h0
  · rename_i hm
    split
    · have hf : s.fin.1.Sc ∧ ∀ c ∈ s.fin.2, ScN c := by
        unfold RS.fin
        rw [if_neg hm]
        refine ⟨RS.Sc.zero, fun c hc => ?_⟩
        rw [List.mem_singleton] at hc
        subst hc
        exact ⟨by decide, by decide, by decide⟩
      have hb := beg_sc hf.1 h0
      refine ⟨hb.1, fun c hc => ?_⟩
      rcases List.mem_append.1 hc with hc | hc
      · exact hf.2 c hc
      · exact hb.2 c hc
    · rename_i hr
      have hv := h.v
      have hb := h.b hm
      unfold RS.join
      split
      · rename_i h1
        refine ⟨RS.Sc.zero, fun c hc => ?_⟩
        rw [List.mem_singleton] at hc
        subst hc
        have := h.a1 h1
        exact ⟨by omega, by omega, by omega⟩
      · rename_i h1
        have hm2 := h.m
        have a2 := h.a2
        have a3 := h.a3
        refine ⟨⟨?_, ?_, ?_, ?_, ?_, ?_⟩, fun c hc => by cases hc⟩
        · dsimp only; omega
        · dsimp only; omega
        · intro e; dsimp only at e ⊢
          have := a2 (by omega)
          omega
        · intro e; dsimp only at e ⊢
          have := a3 (by omega)
          omega
        · intro e; dsimp only at e; omega
        · intro _; dsimp only; omega
/-- A character that is put is the one that came. -/
def KindC (c : Int) (e : MS × List Int × Bool) : Prop := e.2.1.getD 0 0 = 1 → e.2.1.getD 1 0 = c
theorem kind_no (c : Int) (s : MS) : KindC c (s, noEv, false) := fun h => absurd (show (0 : Int) = 1 from h) (by decide)
theorem kind_num (c : Int) (s : MS) : KindC c (s.takeNum c) := by
  unfold MS.takeNum
  split
  · exact kind_no _ _
  · split
    · exact kind_no _ _
    · split
      · intro h
        exact absurd (show (4 : Int) = 1 from h) (by decide)
      · exact kind_no _ _
theorem kind_esc (c : Int) (s : MS) : KindC c (s.takeEsc c) := by
  unfold MS.takeEsc
  split
  · exact kind_no _ _
  · split
    · exact kind_no _ _
    · split
      · exact kind_no _ _
      · split
        · intro h
          exact absurd (show (3 : Int) = 1 from h) (by decide)
        · exact kind_no _ _
theorem kind_vis (c : Int) (s : MS) : KindC c (s.takeVis c) := by
  unfold MS.takeVis
  split
  · intro _; rfl
  · split
    · exact kind_esc _ _
    · split
      · split
        · exact kind_no _ _
        · exact kind_num _ _
      · split
        · exact kind_num _ _
        · split
          · split
            · exact kind_no _ _
            · exact kind_no _ _
          · exact kind_no _ _
theorem take_kind (s : MS) (c : Int) : KindC c (s.take c) := by
  unfold MS.take
  split
  · exact kind_no _ _
  · split
    · exact kind_no _ _
    · split
      · exact kind_no _ _
      · split
        · intro h
          exact absurd (show (2 : Int) = 1 from h) (by decide)
        · split
          · exact kind_vis _ _
          · exact kind_no _ _
theorem FS.fit_char {x : FS} (h : x.t.Fit) (hi : x.t.Inv) {c : Int} (hc : ScN c) : (x.char c).t.Fit ∧ (x.char c).t.Inv := by
  unfold FS.char
  show TS.Fit (if _ then _ else _) ∧ TS.Inv (if _ then _ else _)
  split
  · exact ⟨h.take hi _ (fun e => by rw [take_kind _ _ e]; exact hc), hi.take _⟩
  · exact ⟨h, hi⟩
theorem FS.fit_chars (l : List Int) : ∀ {x : FS}, x.t.Fit → x.t.Inv → (∀ c ∈ l, ScN c) → (x.chars l).t.Fit ∧ (x.chars l).t.Inv := by
  induction l with
  | nil => intro x h hi _; exact ⟨h, hi⟩
  | cons c l ih => intro x h hi hl; exact ih (FS.fit_char h hi (hl c (by simp))).1 (FS.fit_char h hi (hl c (by simp))).2 (fun d hd => hl d (by simp [hd]))
theorem FS.fit_feed (l : List Int) : ∀ {x : FS}, x.t.Fit → x.t.Inv → x.r.Sc → (∀ b ∈ l, 0 ≤ b ∧ b < 256) → (x.feed l).t.Fit ∧ (x.feed l).t.Inv := by
  induction l with
  | nil => intro x h hi _ _; exact ⟨h, hi⟩
  | cons c l ih =>
    intro x h hi hr hl
    have hc := hl c (by simp)
    have ht := take_sc hr hc.1 hc.2
    have k := FS.fit_chars (x := ⟨(x.r.take c).1, x.m, x.t⟩) (x.r.take c).2 h hi ht.2
    exact ih (x := x.byte c) k.1 k.2 (by unfold FS.byte; rw [chars_r]; exact ht.1) (fun d hd => hl d (by simp [hd]))
theorem fresh_fit (r c : Nat) (hr : 1 ≤ r ∧ r ≤ 12) (hc : 1 ≤ c ∧ c ≤ 40) (l : List Int) (hl : ∀ b ∈ l, 0 ≤ b ∧ b < 256) : ((FS.fresh r c).feed l).t.Fit := (FS.fit_feed l (x := FS.fresh r c) (TS.Fit.fresh hr) (TS.Inv.fresh hr hc) RS.Sc.zero hl).1
end Go.Proofs.YtheibfffilomcaaDoor

/- Sequences that do nothing: plain facts. -/
namespace Go.Proofs.YtheibfffilomcaaDoor

/-- A character is put. -/
theorem take_print {c : Int} (hc : 32 ≤ c ∧ c ≠ 127) : MS.zero.take c = (.zero, [1, c, 0, 0, 0] ++ z16, true) := by
  unfold MS.take
  rw [if_neg (by omega), if_neg (by omega), if_neg (by decide), if_neg (by omega), if_pos hc.2]
  rfl
theorem char_print (x : FS) (h : x.m = .zero) {c : Int} (hc : 32 ≤ c ∧ c ≠ 127) : x.char c = ⟨x.r, .zero, x.t.print c (widN c).toNat⟩ := by
  unfold FS.char
  rw [h, take_print hc]
  rfl

def idleL : List Int := [69, 70, 73, 78, 79, 81, 82, 85, 86, 87, 89, 90, 92, 93, 94, 95, 96, 97, 98, 99, 101, 105, 106, 107, 110, 111, 112, 113, 115, 116, 117, 118, 119, 120, 121, 122, 123, 124, 125, 126]
/-- Digits and semicolons. -/
def numB (c : Int) : Bool := decide (48 ≤ c ∧ c ≤ 59 ∧ c ≠ 58)

theorem feed_low (l : List Int) : ∀ x : FS, x.r.m = 0 → (∀ c ∈ l, c < 128) → x.feed l = x.chars l := by
  induction l with
  | nil => intro x _ _; rfl
  | cons c l ih =>
    intro x h hl
    show (x.byte c).feed l = (x.char c).chars l
    rw [byte_low x c h (hl c (by simp))]
    exact ih _ h (fun d hd => hl d (by simp [hd]))

/-- Numbers of a sequence: the mode is one of two, the mark stays. -/
theorem chars_num (l : List Int) : ∀ (x : FS), (x.m.md = 2 ∨ x.m.md = 3) → (∀ c ∈ l, numB c = true) → ∃ m, x.chars l = ⟨x.r, m, x.t⟩ ∧ (m.md = 2 ∨ m.md = 3) ∧ m.mr = x.m.mr := by
  induction l with
  | nil => intro x h _; exact ⟨x.m, rfl, h, rfl⟩
  | cons c l ih =>
    intro x h hl
    have hc : 48 ≤ c ∧ c ≤ 59 ∧ c ≠ 58 := of_decide_eq_true (hl c (by simp))
    have key : ∃ m, x.char c = ⟨x.r, m, x.t⟩ ∧ (m.md = 2 ∨ m.md = 3) ∧ m.mr = x.m.mr := by
      have hT : ∀ s : MS, s.md = 3 → ∃ m, MS.takeNum s c = (m, noEv, false) ∧ m.md = 3 ∧ m.mr = s.mr := by
        intro s hs
        unfold MS.takeNum
        by_cases h1 : 48 ≤ c ∧ c ≤ 57
        · rw [if_pos h1]
          refine ⟨_, rfl, ?_, ?_⟩
          · unfold MS.joinDig; split <;> exact hs
          · unfold MS.joinDig; split <;> rfl
        · rw [if_neg h1, if_pos (by omega)]
          exact ⟨_, rfl, hs, rfl⟩
      have hV : ∃ m, MS.takeVis x.m c = (m, noEv, false) ∧ m.md = 3 ∧ m.mr = x.m.mr := by
        unfold MS.takeVis
        have hmk : markN c = false := by unfold markN; simp; omega
        rcases h with h | h
        · rw [if_neg (by omega), if_neg (by omega), if_pos h, hmk]
          exact hT ⟨3, x.m.mr, x.m.ct, x.m.ps⟩ rfl
        · rw [if_neg (by omega), if_neg (by omega), if_neg (by omega), if_pos h]
          exact hT _ h
      obtain ⟨m, e, h1, h2⟩ := hV
      refine ⟨m, ?_, .inr h1, h2⟩
      unfold FS.char MS.take
      rw [if_neg (by omega), if_neg (by omega), if_neg (by omega), if_neg (by omega), if_pos (by omega), e]
      rfl
    obtain ⟨m, e, h1, h2⟩ := key
    show ∃ m, (x.char c).chars l = _ ∧ _
    rw [e]
    obtain ⟨m', e', h3, h4⟩ := ih ⟨x.r, m, x.t⟩ h1 (fun d hd => hl d (by simp [hd]))
    exact ⟨m', e', h3, h4.trans h2⟩
/-- The last byte of a sequence. -/
theorem char_final (x : FS) (h : x.m.md = 2 ∨ x.m.md = 3) {f : Int} (hf : 64 ≤ f ∧ f ≤ 126) : x.char f = ⟨x.r, .zero, x.t.sequence x.m.mr f x.m.ps (min x.m.ct 16).toNat⟩ := by
  have hV : MS.takeVis x.m f = (.zero, MS.seqEv x.m f, true) := by
    have hfin : finalN f = true := by unfold finalN; simp; omega
    have hmk : markN f = false := by unfold markN; simp; omega
    have hT : ∀ s : MS, s.takeNum f = (.zero, s.seqEv f, true) := by
      intro s
      unfold MS.takeNum
      rw [if_neg (by omega), if_neg (by omega), if_pos hfin]
    unfold MS.takeVis
    rcases h with h | h
    · rw [if_neg (by omega), if_neg (by omega), if_pos h, hmk]
      exact hT ⟨3, x.m.mr, x.m.ct, x.m.ps⟩
    · rw [if_neg (by omega), if_neg (by omega), if_neg (by omega), if_pos h]
      exact hT _
  unfold FS.char MS.take
  rw [if_neg (by omega), if_neg (by omega), if_neg (by omega), if_neg (by omega), if_pos (by omega), hV]
  rfl
theorem char_csi (x : FS) (h : x.m = .zero) : x.chars [27, 91] = ⟨x.r, MS.begNum ⟨2, 0, 0, z16⟩, x.t⟩ := by
  obtain ⟨r, m, t⟩ := x
  subst h
  rfl
theorem char_mark (x : FS) (h : x.m.md = 2) {k : Int} (hk : k = 60 ∨ k = 61 ∨ k = 62 ∨ k = 63) : x.char k = ⟨x.r, ⟨3, k, x.m.ct, x.m.ps⟩, x.t⟩ := by
  have hV : MS.takeVis x.m k = (⟨3, k, x.m.ct, x.m.ps⟩, noEv, false) := by
    have hmk : markN k = true := by unfold markN; rcases hk with rfl | rfl | rfl | rfl <;> rfl
    unfold MS.takeVis
    rw [if_neg (by omega), if_neg (by omega), if_pos h, if_pos hmk]
  unfold FS.char MS.take
  rw [if_neg (by omega), if_neg (by omega), if_neg (by omega), if_neg (by omega), if_pos (by omega), hV]
  rfl
theorem chars_append (x : FS) (l l' : List Int) : x.chars (l ++ l') = (x.chars l).chars l' := by simp [FS.chars]
/-- A whole sequence. -/
theorem chars_seq (x : FS) (h : x.m = .zero) (mk : List Int) (hmk : mk = [] ∨ ∃ k, mk = [k] ∧ (k = 60 ∨ k = 61 ∨ k = 62 ∨ k = 63)) (l : List Int) (hl : ∀ c ∈ l, numB c = true) {f : Int} (hf : 64 ≤ f ∧ f ≤ 126) :
    ∃ ps ct, x.chars ([27, 91] ++ (mk ++ (l ++ [f]))) = ⟨x.r, .zero, x.t.sequence (mk.headD 0) f ps ct⟩ := by
  rw [chars_append, char_csi x h]
  rcases hmk with rfl | ⟨k, rfl, hk⟩
  · rw [List.nil_append, chars_append]
    obtain ⟨m, e, h1, h2⟩ := chars_num l ⟨x.r, MS.begNum ⟨2, 0, 0, z16⟩, x.t⟩ (.inl rfl) hl
    rw [e]
    refine ⟨m.ps, (min m.ct 16).toNat, ?_⟩
    have := char_final ⟨x.r, m, x.t⟩ h1 hf
    rw [h2] at this
    exact this
  · rw [chars_append, chars_append]
    have em : FS.chars ⟨x.r, MS.begNum ⟨2, 0, 0, z16⟩, x.t⟩ [k] = ⟨x.r, ⟨3, k, (MS.begNum ⟨2, 0, 0, z16⟩).ct, (MS.begNum ⟨2, 0, 0, z16⟩).ps⟩, x.t⟩ := char_mark _ rfl hk
    rw [em]
    obtain ⟨m, e, h1, h2⟩ := chars_num l ⟨x.r, ⟨3, k, (MS.begNum ⟨2, 0, 0, z16⟩).ct, (MS.begNum ⟨2, 0, 0, z16⟩).ps⟩, x.t⟩ (.inr rfl) hl
    rw [e]
    refine ⟨m.ps, (min m.ct 16).toNat, ?_⟩
    have := char_final ⟨x.r, m, x.t⟩ h1 hf
    rw [h2] at this
    exact this
theorem seq_idle (s : TS) (mk f : Int) (ps : List Int) (ct : Nat) (hf : f ∈ idleL) : s.sequence mk f ps ct = s := by
  simp only [idleL, List.mem_cons, List.not_mem_nil, or_false] at hf
  unfold TS.sequence
  by_cases h0 : mk = 0
  · rw [if_pos h0]
    dsimp only
    have hs : TS.stills f = false := by
      unfold TS.stills
      simp only [List.mem_cons, List.not_mem_nil, or_false]
      exact decide_eq_false (by omega)
    rw [hs, if_neg (by decide)]
    have hm : s.move f (ps.getD 0 0) (ps.getD 1 0) = s := by
      unfold TS.move
      rw [if_neg (by omega), if_neg (by omega), if_neg (by omega), if_neg (by omega), if_neg (by omega), if_neg (by omega), if_neg (by omega)]
    rw [hm]
    have he : s.edit f (ps.getD 0 0) = s := by
      unfold TS.edit
      dsimp only
      rw [if_neg (by omega), if_neg (by omega), if_neg (by omega), if_neg (by omega), if_neg (by omega), if_neg (by omega), if_neg (by omega), if_neg (by omega), if_neg (by omega)]
    rw [he]
    unfold TS.adjust
    rw [if_neg (by omega), if_neg (by omega), if_neg (by omega), if_neg (by omega)]
  · rw [if_neg h0]
    split
    · rw [if_neg (by omega)]
    · rfl
/-- What Quiet sends behind CAN. -/
def quietL (mk l : List Int) (f : Int) : List Int :=
  ([27, 91] ++ (mk ++ (l ++ [f]))) ++ (([27, 91] ++ ([62] ++ (l ++ [109]))) ++ [27, 93, 97, 110, 121, 32, 116, 104, 105, 110, 103, 59, 49, 7, 27, 80, 113, 24, 127, 27, 40, 65, 0])
theorem quiet_rest (x : FS) (h : x.m = .zero) : x.chars [27, 93, 97, 110, 121, 32, 116, 104, 105, 110, 103, 59, 49, 7, 27, 80, 113, 24, 127, 27, 40, 65, 0] = x := by
  obtain ⟨r, m, t⟩ := x
  dsimp only at h
  subst h
  kernel_rfl
theorem quiet_pure (x : FS) (h0 : x.r.m = 0) (h : x.m = .zero) (mk : List Int) (hmk : mk = [] ∨ ∃ k, mk = [k] ∧ (k = 60 ∨ k = 61 ∨ k = 62 ∨ k = 63)) (l : List Int) (hl : ∀ c ∈ l, numB c = true) {f : Int} (hf : f ∈ idleL) : x.feed (quietL mk l f) = x := by
  have hf2 : 64 ≤ f ∧ f ≤ 126 := by
    have hf := hf
    simp only [idleL, List.mem_cons, List.not_mem_nil, or_false] at hf
    omega
  have hlow : ∀ c ∈ quietL mk l f, c < 128 := by
    have hl2 : ∀ c ∈ l, c < 128 := fun c hc => by have : 48 ≤ c ∧ c ≤ 59 ∧ c ≠ 58 := of_decide_eq_true (hl c hc); omega
    have hm2 : ∀ c ∈ mk, c < 128 := fun c hc => by
      rcases hmk with rfl | ⟨k, rfl, hk⟩
      · cases hc
      · rw [List.mem_singleton] at hc; omega
    intro c hc
    simp only [quietL, List.mem_append, List.mem_cons, List.not_mem_nil, or_false] at hc
    rcases hc with ((hc | hc) | hc | hc | hc) | ((hc | hc) | hc | hc | hc) | hc
    all_goals first | (exact hl2 c hc) | (exact hm2 c hc) | omega
  rw [feed_low _ x h0 hlow]
  unfold quietL
  obtain ⟨ps, ct, e⟩ := chars_seq x h mk hmk l hl hf2
  rw [chars_append, e, seq_idle _ _ _ _ _ hf]
  have ex : (⟨x.r, .zero, x.t⟩ : FS) = x := by rw [← h]
  rw [ex]
  obtain ⟨ps, ct, e⟩ := chars_seq x h [62] (.inr ⟨62, rfl, by omega⟩) l hl (f := 109) (by omega)
  rw [chars_append, e]
  have e2 : x.t.sequence (List.headD [62] 0) 109 ps ct = x.t := by unfold TS.sequence; rfl
  rw [e2, ex]
  exact quiet_rest x h
/-- Behind any bytes and CAN, what Quiet sends changes nothing. -/
theorem quiet_fresh (r c : Nat) (tx mk l : List Int) (hmk : mk = [] ∨ ∃ k, mk = [k] ∧ (k = 60 ∨ k = 61 ∨ k = 62 ∨ k = 63)) (hl : ∀ c ∈ l, numB c = true) {f : Int} (hf : f ∈ idleL) :
    (FS.fresh r c).feed (tx ++ [24] ++ quietL mk l f) = (FS.fresh r c).feed (tx ++ [24]) := by
  have h := FS.low_feed tx (FS.fresh r c) RS.Low.zero
  rw [feed_append]
  obtain ⟨h1, h2, _⟩ := can_any ((FS.fresh r c).feed tx) (fun q => by have := h q; omega)
  rw [← feed_snoc] at h1 h2
  exact quiet_pure _ h1 h2 mk hmk l hl hf
end Go.Proofs.YtheibfffilomcaaDoor

/- Letters fill the screen row by row: plain facts. -/
namespace Go.Proofs.YtheibfffilomcaaDoor

theorem getD_set (S : Sheet) (a : Nat) (r : List CellS) (j : Nat) : (S.set a r).getD j [] = if j = a ∧ a < S.length then r else S.getD j [] := by
  simp only [List.getD, List.getElem?_set]
  by_cases h : a = j
  · subst h
    by_cases h2 : a < S.length
    · simp [h2]
    · simp [h2]
  · rw [if_neg h, if_neg (by omega)]
theorem upRows_getD (S : Sheet) (a n : Nat) : ∀ i, a + i + n ≤ S.length → ∀ j, (upRows S a n i).getD j [] = if a ≤ j ∧ j < a + i then S.getD (j + n) [] else S.getD j [] := by
  intro i
  induction i with
  | zero => intro _ j; rw [if_neg (by omega)]; rfl
  | succ i ih =>
    intro hi j
    rw [upRows, getD_set, upRows_length, ih (by omega), ih (by omega)]
    by_cases h : j = a + i
    · subst h
      rw [if_pos ⟨rfl, by omega⟩, if_neg (by omega), if_pos (by omega)]
    · rw [if_neg (by omega)]
      by_cases h2 : a ≤ j ∧ j < a + i
      · rw [if_pos h2, if_pos (by omega)]
      · rw [if_neg h2, if_neg (by omega)]
theorem clearRows_getD (S : Sheet) (a cols : Nat) : ∀ i, a + i ≤ S.length → ∀ j, (clearRows S a cols i).getD j [] = if a ≤ j ∧ j < a + i then blankR cols else S.getD j [] := by
  intro i
  induction i with
  | zero => intro _ j; rw [if_neg (by omega)]; rfl
  | succ i ih =>
    intro hi j
    rw [clearRows, getD_set, clearRows_length, ih (by omega)]
    by_cases h : j = a + i
    · subst h
      rw [if_pos ⟨rfl, by omega⟩, if_pos (by omega)]
    · rw [if_neg (by omega)]
      by_cases h2 : a ≤ j ∧ j < a + i
      · rw [if_pos h2, if_pos (by omega)]
      · rw [if_neg h2, if_neg (by omega)]
theorem sheet_ext {S T : Sheet} (hl : S.length = T.length) (h : ∀ j, j < S.length → S.getD j [] = T.getD j []) : S = T := by
  apply List.ext_getElem hl
  intro j h1 h2
  have := h j h1
  simpa [List.getD, List.getElem?_eq_getElem h1, List.getElem?_eq_getElem h2] using this
theorem upS_all (S : Sheet) (cols : Nat) (hS : 1 ≤ S.length) (j : Nat) (hj : j < S.length) : (upS S 0 S.length 1 cols).getD j [] = if j + 1 < S.length then S.getD (j + 1) [] else blankR cols := by
  unfold upS
  rw [Nat.min_eq_left hS, clearRows_getD _ _ _ _ (by rw [upRows_length]; omega), upRows_getD _ _ _ _ (by omega)]
  by_cases h : j + 1 < S.length
  · rw [if_neg (by omega), if_pos (by omega), if_pos h]
  · rw [if_pos (by omega), if_neg h]

def tyCell (l : List Int) (i : Nat) : CellS := match l[i]? with
  | some c => ⟨c, pen0, 0⟩
  | none => blankS
def tyRow (c q : Nat) (l : List Int) : List CellS := (List.range c).map fun k => tyCell l (q * c + k)
def tySheet (r c g : Nat) (l : List Int) : Sheet := (List.range r).map fun i => tyRow c (g + i) l
def tyLines (c n : Nat) : Nat := if (n + c - 1) / c = 0 then 1 else (n + c - 1) / c
def tyGone (r c n : Nat) : Nat := if r < tyLines c n then tyLines c n - r else 0
def tyWaits (c n : Nat) : Bool := decide (0 < n) && decide (n % c = 0)
def tyCol (c n : Nat) : Nat := if tyWaits c n then c - 1 else n % c
/-- A terminal afresh but for its first screen and where the cursor stands. -/
def tyS (r c : Nat) (S : Sheet) (row col : Int) (w : Bool) : TS :=
  ⟨r, c, S, spot0, List.replicate r (blankR c), spot0, row, col, w, pen0, 0, 0, 0, false, 0, (r : Int) - 1, true, false, 0, (List.range c).map fun c => decide (0 < c ∧ c % 8 = 0)⟩
theorem tyS_setCur (r c : Nat) (S S' : Sheet) (row col : Int) (w : Bool) : (tyS r c S row col w).setCur S' = tyS r c S' row col w := rfl
def typed (r c : Nat) (l : List Int) : TS :=
  tyS r c (tySheet r c (tyGone r c l.length) l) ((tyLines c l.length - tyGone r c l.length - 1 : Nat) : Int) (tyCol c l.length : Int) (tyWaits c l.length)

theorem tyLines_eq {c q k : Nat} (hc : 1 ≤ c) (hk : k < c) : tyLines c (q * c + k) = if k = 0 then max q 1 else q + 1 := by
  unfold tyLines
  by_cases h : k = 0
  · subst h
    have e : (q * c + 0 + c - 1) / c = q := by
      rw [show q * c + 0 + c - 1 = (c - 1) + q * c by omega, Nat.add_mul_div_right _ _ (by omega), Nat.div_eq_of_lt (by omega)]; omega
    rw [e, if_pos rfl]
    split <;> omega
  · have e : (q * c + k + c - 1) / c = q + 1 := by
      rw [show q * c + k + c - 1 = (k - 1) + (q + 1) * c by rw [Nat.add_mul]; omega, Nat.add_mul_div_right _ _ (by omega), Nat.div_eq_of_lt (by omega)]; omega
    rw [e, if_neg (by omega), if_neg h]
theorem tyWaits_eq {c q k : Nat} (_hc : 1 ≤ c) (hk : k < c) : tyWaits c (q * c + k) = decide (0 < q ∧ k = 0) := by
  unfold tyWaits
  have e : (q * c + k) % c = k := by rw [Nat.add_comm, Nat.add_mul_mod_self_right, Nat.mod_eq_of_lt hk]
  rw [e]
  by_cases h : k = 0
  · subst h
    by_cases hq : q = 0
    · subst hq; simp
    · have : 0 < q * c := Nat.mul_pos (by omega) (by omega)
      simp [this]; omega
  · simp [h]
theorem tyMod {c q k : Nat} (hk : k < c) : (q * c + k) % c = k := by rw [Nat.add_comm, Nat.add_mul_mod_self_right, Nat.mod_eq_of_lt hk]
theorem line_lt {a b c : Nat} (h : a < b) : a * c + c ≤ b * c := by
  have := Nat.mul_le_mul_right c (show a + 1 ≤ b from h)
  rw [Nat.add_mul] at this; omega
theorem tyRow_length (c q : Nat) (l : List Int) : (tyRow c q l).length = c := by simp [tyRow]
theorem tySheet_length (r c g : Nat) (l : List Int) : (tySheet r c g l).length = r := by simp [tySheet]
theorem tySheet_getD (r c g : Nat) (l : List Int) {i : Nat} (hi : i < r) : (tySheet r c g l).getD i [] = tyRow c (g + i) l := by simp [tySheet, List.getD, hi]
theorem tyRow_part (c q : Nat) (l : List Int) (a : Nat) (x : CellS) (hx : (tyRow c q l)[a]? = some x) : x.part ≠ 2 := by
  simp only [tyRow, List.getElem?_map] at hx
  obtain ⟨k, _, rfl⟩ := Option.map_eq_some_iff.1 hx
  unfold tyCell
  split <;> simp [blankS]
/-- A line beyond the letters is blank. -/
theorem tyRow_blank {c q : Nat} {l : List Int} (h : l.length ≤ q * c) : tyRow c q l = blankR c := by
  unfold tyRow blankR
  apply List.ext_getElem
  · simp
  · intro i h1 h2
    simp [tyCell, List.getElem?_eq_none (show l.length ≤ q * c + i by omega)]
/-- Another line does not see the new letter. -/
theorem tyRow_other {c q p k : Nat} {l : List Int} (hn : l.length = q * c + k) (hk : k < c) (hpq : p ≠ q) (x : Int) : tyRow c p (l ++ [x]) = tyRow c p l := by
  unfold tyRow
  apply List.map_congr_left
  intro i hi
  rw [List.mem_range] at hi
  unfold tyCell
  rw [List.getElem?_append]
  by_cases h : p * c + i < l.length
  · rw [if_pos h]
  · rw [if_neg h]
    have : p * c + i ≠ l.length := by
      rcases Nat.lt_or_gt_of_ne hpq with g | g
      · have := line_lt (c := c) g; omega
      · have := line_lt (c := c) g; omega
    rw [List.getElem?_eq_none (show [x].length ≤ p * c + i - l.length by simp; omega), List.getElem?_eq_none (show l.length ≤ p * c + i by omega)]
theorem tyRow_put {c q k : Nat} {l : List Int} (hn : l.length = q * c + k) (_hk : k < c) (x : Int) : putR (tyRow c q l) k x 1 pen0 = tyRow c q (l ++ [x]) := by
  unfold putR
  rw [if_neg (by decide), splitR_ok (a := k) (tyRow_part _ _ _ _), splitR_ok (tyRow_part _ _ _ _)]
  unfold tyRow
  apply List.ext_getElem
  · simp
  · intro i h1 h2
    simp only [List.length_set, List.length_map, List.length_range] at h1
    simp only [List.getElem_set, List.getElem_map, List.getElem_range]
    by_cases h : k = i
    · subst h
      rw [if_pos rfl]
      unfold tyCell
      rw [← hn]; simp
    · rw [if_neg h]
      unfold tyCell
      rw [List.getElem?_append]
      by_cases h3 : q * c + i < l.length
      · rw [if_pos h3]
      · rw [if_neg h3, List.getElem?_eq_none (show [x].length ≤ q * c + i - l.length by simp; omega), List.getElem?_eq_none (show l.length ≤ q * c + i by omega)]
theorem typed_snoc {r c : Nat} (hr : 1 ≤ r) (hc : 1 ≤ c) (l : List Int) (x : Int) : (typed r c l).print x 1 = typed r c (l ++ [x]) := by
  obtain ⟨q, k, hk, hn⟩ : ∃ q k, k < c ∧ l.length = q * c + k := ⟨l.length / c, l.length % c, Nat.mod_lt _ (by omega), by rw [Nat.mul_comm]; exact (Nat.div_add_mod _ _).symm⟩
  -- the state behind the new letter
  have hl' : (l ++ [x]).length = q * c + (k + 1) := by simp [hn]; omega
  have w1 := tyWaits_eq (q := q) hc hk
  have L1 := tyLines_eq (q := q) hc hk
  have L2 : tyLines c (q * c + (k + 1)) = q + 1 := by
    by_cases h : k + 1 < c
    · rw [tyLines_eq hc h, if_neg (by omega)]
    · rw [show q * c + (k + 1) = (q + 1) * c + 0 by rw [Nat.add_mul]; omega, tyLines_eq hc (by omega), if_pos rfl]; omega
  have W2 : tyWaits c (q * c + (k + 1)) = decide (k + 1 = c) := by
    by_cases h : k + 1 < c
    · rw [tyWaits_eq hc h, decide_eq_decide]; omega
    · rw [show q * c + (k + 1) = (q + 1) * c + 0 by rw [Nat.add_mul]; omega, tyWaits_eq hc (by omega), decide_eq_decide]; omega
  have C2 : tyCol c (q * c + (k + 1)) = min (k + 1) (c - 1) := by
    unfold tyCol
    rw [W2]
    by_cases h : k + 1 < c
    · rw [decide_eq_false (by omega), tyMod h]; simp; omega
    · rw [decide_eq_true (by omega)]; simp; omega
  have G2 : tyGone r c (q * c + (k + 1)) = q + 1 - r := by unfold tyGone; rw [L2]; split <;> omega
  -- what is put, once the cursor stands there
  have key : ∀ s : TS, s = tyS r c (tySheet r c (q + 1 - r) l) ((min q (r - 1) : Nat) : Int) (k : Int) false → (if (c : Int) < s.col + ((1 : Nat) : Int) then (if s.wrap then s.nextLine.print2 x 1 else s) else s.print2 x 1) = typed r c (l ++ [x]) := by
    rintro s rfl
    rw [if_neg (by show ¬ (c : Int) < (k : Int) + 1; omega)]
    have eR : (tyS r c (tySheet r c (q + 1 - r) l) ((min q (r - 1) : Nat) : Int) (k : Int) false).rowNow = tyRow c q l := by
      show (tySheet r c (q + 1 - r) l).getD (((min q (r - 1) : Nat) : Int)).toNat [] = _
      rw [Int.toNat_natCast, tySheet_getD _ _ _ _ (by omega), show q + 1 - r + min q (r - 1) = q by omega]
    have eS : (tySheet r c (q + 1 - r) l).set (min q (r - 1)) (tyRow c q (l ++ [x])) = tySheet r c (q + 1 - r) (l ++ [x]) := by
      refine sheet_ext (by simp [tySheet_length]) ?_
      intro j hj
      simp only [List.length_set, tySheet_length] at hj
      rw [getD_set, tySheet_length, tySheet_getD _ _ _ _ hj, tySheet_getD _ _ _ _ hj]
      by_cases h : j = min q (r - 1)
      · rw [if_pos ⟨h, by omega⟩, show q + 1 - r + j = q by omega]
      · rw [if_neg (by omega), tyRow_other hn hk (by omega)]
    have eP : (tyS r c (tySheet r c (q + 1 - r) l) ((min q (r - 1) : Nat) : Int) (k : Int) false).putNow x 1 = tyS r c (tySheet r c (q + 1 - r) (l ++ [x])) ((min q (r - 1) : Nat) : Int) (k : Int) false := by
      unfold TS.putNow TS.setRowNow
      rw [eR, tyS_setCur]
      have e1 : putR (tyRow c q l) (tyS r c (tySheet r c (q + 1 - r) l) ((min q (r - 1) : Nat) : Int) (k : Int) false).col.toNat (TS.spelt (tyS r c (tySheet r c (q + 1 - r) l) ((min q (r - 1) : Nat) : Int) (k : Int) false) x) 1 (TS.pen (tyS r c (tySheet r c (q + 1 - r) l) ((min q (r - 1) : Nat) : Int) (k : Int) false)) = tyRow c q (l ++ [x]) := tyRow_put hn hk x
      rw [e1]
      have e2 : List.set (TS.cur (tyS r c (tySheet r c (q + 1 - r) l) ((min q (r - 1) : Nat) : Int) (k : Int) false)) (tyS r c (tySheet r c (q + 1 - r) l) ((min q (r - 1) : Nat) : Int) (k : Int) false).row.toNat (tyRow c q (l ++ [x])) = (tySheet r c (q + 1 - r) l).set (min q (r - 1)) (tyRow c q (l ++ [x])) := rfl
      rw [e2, eS]
    unfold TS.print2
    rw [if_neg (by show ¬ (false = true); decide), eP]
    unfold typed
    rw [hl', G2, L2, W2, C2]
    have e1 : TS.bringI ((k : Int) + ((1 : Nat) : Int)) 0 ((c : Int) - 1) = ((min (k + 1) (c - 1) : Nat) : Int) := by unfold TS.bringI; omega
    have e2 : (true && decide ((c : Int) - 1 < (k : Int) + ((1 : Nat) : Int))) = decide (k + 1 = c) := by rw [Bool.true_and, decide_eq_decide]; omega
    have e3 : q + 1 - (q + 1 - r) - 1 = min q (r - 1) := by omega
    rw [e3, ← e1, ← e2]
    rfl
  unfold TS.print
  rw [if_neg (by show ¬ ((1 : Nat) = 0 ∨ c < 1); omega)]
  apply key
  -- the cursor stands there
  unfold TS.print1
  by_cases hw : 0 < q ∧ k = 0
  · obtain ⟨hq, rfl⟩ := hw
    have L1' : tyLines c l.length = q := by rw [hn, L1, if_pos rfl]; omega
    have w1' : tyWaits c l.length = true := by rw [hn, w1]; simp [hq]
    have hG : tyGone r c l.length = q - r := by unfold tyGone; rw [L1']; split <;> omega
    rw [if_pos (show (typed r c l).waits = true from w1')]
    have e0 : TS.bringI 0 0 ((c : Int) - 1) = ((0 : Nat) : Int) := by unfold TS.bringI; omega
    have eU : (typed r c l).unwait.toCol 0 = tyS r c (tySheet r c (q - r) l) ((q - (q - r) - 1 : Nat) : Int) ((0 : Nat) : Int) false := by
      unfold typed
      rw [L1', hG, ← e0]; rfl
    unfold TS.nextLine
    rw [eU]
    unfold TS.down
    by_cases hb : r ≤ q
    · rw [if_pos (by show ((q - (q - r) - 1 : Nat) : Int) = (r : Int) - 1; omega)]
      unfold TS.scrollUp
      rw [tyS_setCur]
      have eH : (tyS r c (tySheet r c (q - r) l) ((q - (q - r) - 1 : Nat) : Int) ((0 : Nat) : Int) false).height = (tySheet r c (q - r) l).length := by
        rw [tySheet_length]; show ((r : Int) - 1 + 1 - 0).toNat = r; omega
      rw [eH]
      have eS : upS (tySheet r c (q - r) l) 0 (tySheet r c (q - r) l).length 1 c = tySheet r c (q + 1 - r) l := by
        refine sheet_ext (by rw [upS_length, tySheet_length, tySheet_length]) ?_
        intro j hj
        rw [upS_length, tySheet_length] at hj
        rw [upS_all _ _ (by rw [tySheet_length]; exact hr) _ (by rw [tySheet_length]; exact hj), tySheet_length, tySheet_getD _ _ _ _ hj]
        by_cases h : j + 1 < r
        · rw [if_pos h, tySheet_getD _ _ _ _ h, show q - r + (j + 1) = q + 1 - r + j by omega]
        · rw [if_neg h, tyRow_blank (by rw [hn, show q + 1 - r + j = q by omega]; omega)]
      have eS2 : upS (tyS r c (tySheet r c (q - r) l) ((q - (q - r) - 1 : Nat) : Int) ((0 : Nat) : Int) false).cur (tyS r c (tySheet r c (q - r) l) ((q - (q - r) - 1 : Nat) : Int) ((0 : Nat) : Int) false).top.toNat (tySheet r c (q - r) l).length 1 (tyS r c (tySheet r c (q - r) l) ((q - (q - r) - 1 : Nat) : Int) ((0 : Nat) : Int) false).cols = upS (tySheet r c (q - r) l) 0 (tySheet r c (q - r) l).length 1 c := rfl
      rw [eS2, eS, show (q - (q - r) - 1 : Nat) = min q (r - 1) by omega]
    · rw [if_neg (by show ¬ ((q - (q - r) - 1 : Nat) : Int) = (r : Int) - 1; omega)]
      have e5 : TS.bringI (((q - (q - r) - 1 : Nat) : Int) + 1) 0 ((r : Int) - 1) = ((min q (r - 1) : Nat) : Int) := by unfold TS.bringI; omega
      rw [← e5, show q - r = q + 1 - r by omega]; rfl
  · have w1' : tyWaits c l.length = false := by rw [hn, w1]; exact decide_eq_false hw
    have L1' : tyLines c l.length = q + 1 := by rw [hn, L1]; split <;> omega
    have hG : tyGone r c l.length = q + 1 - r := by unfold tyGone; rw [L1']; split <;> omega
    have hC : tyCol c l.length = k := by unfold tyCol; rw [w1', hn, tyMod hk]; rfl
    rw [if_neg (show ¬ (typed r c l).waits = true by show ¬ tyWaits c l.length = true; rw [w1']; decide)]
    unfold typed
    rw [L1', hG, hC, w1', show q + 1 - (q + 1 - r) - 1 = min q (r - 1) by omega]
theorem typed_nil {r c : Nat} (hr : 1 ≤ r) (hc : 1 ≤ c) : typed r c [] = TS.fresh r c := by
  have L : tyLines c 0 = 1 := by have := tyLines_eq (c := c) (q := 0) (k := 0) hc (by omega); simpa using this
  have G : tyGone r c 0 = 0 := by unfold tyGone; rw [L, if_neg (by omega)]
  have W : tyWaits c 0 = false := by simp [tyWaits]
  have C : tyCol c 0 = 0 := by unfold tyCol; rw [W]; simp
  have S : tySheet r c 0 [] = List.replicate r (blankR c) := by
    refine sheet_ext (by simp [tySheet_length]) ?_
    intro j hj
    rw [tySheet_length] at hj
    rw [tySheet_getD _ _ _ _ hj, tyRow_blank (by simp)]
    simp [List.getD, hj]
  unfold typed
  rw [show ([] : List Int).length = 0 from rfl, L, G, W, C, S]
  rfl
theorem wid_letter {c : Int} (h : 33 ≤ c ∧ c ≤ 126) : widN c = 1 := by
  have key : ∀ n : Nat, n < 94 → widN ((n : Int) + 33) = 1 := by decide
  have := key (c - 33).toNat (by omega)
  rwa [show (((c - 33).toNat : Nat) : Int) + 33 = c by omega] at this
theorem letters_typed {r c : Nat} (hr : 1 ≤ r) (hc : 1 ≤ c) (l : List Int) : (∀ x ∈ l, 33 ≤ x ∧ x ≤ 126) → (FS.fresh r c).feed l = ⟨.zero, .zero, typed r c l⟩ := by
  have key : ∀ n : Nat, ∀ l : List Int, l.length = n → (∀ x ∈ l, 33 ≤ x ∧ x ≤ 126) → (FS.fresh r c).feed l = ⟨.zero, .zero, typed r c l⟩ := by
    intro n
    induction n with
    | zero =>
      intro l hl _
      rw [List.length_eq_zero_iff.1 hl, typed_nil hr hc]; rfl
    | succ n ih =>
      intro l hl hx
      obtain ⟨a, x, rfl⟩ : ∃ a x, l = a ++ [x] := ⟨l.dropLast, l.getLast (by intro e; subst e; simp at hl), (List.dropLast_concat_getLast _).symm⟩
      simp at hl
      have hx1 := hx x (by simp)
      rw [feed_snoc, ih a hl (fun y hy => hx y (by simp [hy])), byte_low _ x rfl (by omega)]
      rw [char_print _ rfl ⟨by omega, by omega⟩, wid_letter hx1]
      show (⟨RS.zero, MS.zero, (typed r c a).print x 1⟩ : FS) = _
      rw [typed_snoc hr hc a x]
  exact key l.length l rfl
end Go.Proofs.YtheibfffilomcaaDoor

