/- Pe Pf Pg Ph Pi Pj together. -/
import Derived.Test.YtheibfffilomcaaGreatDoorPdM
import Derived.Test.YtheibfffilomcaaGreatDoorPt

/- Bytes fed to a terminal behind which nothing is begun. -/
namespace Go.Proofs.YtheibfffilomcaaGreatDoor
open TS

theorem chars_free (l : List Int) : ∀ (r r' : RS) (m : MS) (t : TS), (FS.chars ⟨r, m, t⟩ l).m = (FS.chars ⟨r', m, t⟩ l).m ∧ (FS.chars ⟨r, m, t⟩ l).t = (FS.chars ⟨r', m, t⟩ l).t := by
  induction l with
  | nil => intro r r' m t; exact ⟨rfl, rfl⟩
  | cons c l ih => intro r r' m t; exact ih r r' (m.take c).1 _
/-- Feeding is reading and then taking the characters. -/
theorem feed_run (l : List Int) : ∀ x : FS, x.feed l = FS.chars ⟨(x.r.run l).1, x.m, x.t⟩ (x.r.run l).2 := by
  induction l with
  | nil => intro x; rfl
  | cons b l ih =>
    intro x
    show (x.byte b).feed l = _
    rw [ih]
    have hr : (x.byte b).r = (x.r.take b).1 := chars_r _ _
    have e : (x.byte b) = ⟨(x.r.take b).1, (x.byte b).m, (x.byte b).t⟩ := by rw [← hr]
    show FS.chars ⟨((x.byte b).r.run l).1, (x.byte b).m, (x.byte b).t⟩ ((x.byte b).r.run l).2 = FS.chars ⟨((x.r.take b).1.run l).1, x.m, x.t⟩ ((x.r.take b).2 ++ ((x.r.take b).1.run l).2)
    rw [hr, chars_append]
    congr 1
    have h := chars_free (x.r.take b).2 (x.r.take b).1 ((x.r.take b).1.run l).1 x.m x.t
    have h3 : (FS.chars ⟨((x.r.take b).1.run l).1, x.m, x.t⟩ (x.r.take b).2).r = ((x.r.take b).1.run l).1 := chars_r _ _
    show (⟨_, (FS.chars ⟨(x.r.take b).1, x.m, x.t⟩ (x.r.take b).2).m, (FS.chars ⟨(x.r.take b).1, x.m, x.t⟩ (x.r.take b).2).t⟩ : FS) = _
    rw [h.1, h.2]
    have hy : ∀ (R : RS) (y : FS), y.r = R → (⟨R, y.m, y.t⟩ : FS) = y := by rintro _ ⟨r, m, t⟩ rfl; rfl
    exact hy _ _ h3
theorem chars_evs (l : List Int) : ∀ x : FS, (x.chars l).m = (x.m.evs l).1 := by
  induction l with
  | nil => intro x; rfl
  | cons c l ih => intro x; exact ih _

/-- Bytes behind which nothing is begun, and what they make of a terminal. -/
def Fd (t : TS) (l : List Int) (t' : TS) : Prop := FS.feed ⟨.zero, .zero, t⟩ l = ⟨.zero, .zero, t'⟩
theorem Fd.nil (t : TS) : Fd t [] t := rfl
theorem Fd.trans {t t' t'' : TS} {l l' : List Int} (h : Fd t l t') (k : Fd t' l' t'') : Fd t (l ++ l') t'' := by
  unfold Fd at *; rw [feed_append, h, k]
theorem Fd.chars {t t' : TS} {l : List Int} (hl : ∀ c ∈ l, c < 128) (h : FS.chars ⟨.zero, .zero, t⟩ l = ⟨.zero, .zero, t'⟩) : Fd t l t' := by
  unfold Fd; rw [feed_low l _ rfl hl]; exact h
theorem wid_vis {c : Int} (h : widN c = 1 ∨ widN c = 2) : 32 ≤ c ∨ c < 0 := by
  rcases Int.lt_or_le c 0 with h0 | h0
  · exact .inr h0
  · left
    by_cases h1 : c ≤ 31
    · have e : widN c = 0 := first_hit (l := spansN) rfl h0 h1
      omega
    · omega
theorem wid_del {c : Int} (h : widN c = 1 ∨ widN c = 2) : c ≠ 127 := by
  intro e; subst e
  have e : widN 127 = 0 := by decide
  omega
theorem Fd.chr (t : TS) {c : Int} (h : ScN c) (hw : widN c = 1 ∨ widN c = 2) : Fd t (utfN c) (t.print c (widN c).toNat) := by
  unfold Fd
  obtain ⟨h0, h1, h2⟩ := h
  rw [feed_run]
  show FS.chars ⟨(RS.zero.run (utfN c)).1, .zero, t⟩ (RS.zero.run (utfN c)).2 = _
  rw [run_utf c h0 (by omega) (by omega)]
  show FS.char ⟨.zero, .zero, t⟩ c = _
  exact char_print _ rfl ⟨by have := wid_vis hw; omega, wid_del hw⟩

/-- Digits join the number that is begun. -/
theorem char_dig (x : FS) (h : x.m.md = 2 ∨ x.m.md = 3) (hc : x.m.ct ≤ 16) {d : Int} (hd : 0 ≤ d ∧ d ≤ 9) : x.char (48 + d) = ⟨x.r, ⟨3, x.m.mr, x.m.ct, x.m.ps.set (x.m.ct - 1).toNat (min (max (x.m.ps.getD (x.m.ct - 1).toNat 0) 0 * 10 + d) 65535)⟩, x.t⟩ := by
  have hT : ∀ s : MS, s.ct ≤ 16 → s.takeNum (48 + d) = (⟨s.md, s.mr, s.ct, s.ps.set (s.ct - 1).toNat (min (max (s.ps.getD (s.ct - 1).toNat 0) 0 * 10 + d) 65535)⟩, noEv, false) := by
    intro s hs
    unfold MS.takeNum
    rw [if_pos (by omega), show 48 + d - 48 = d by omega]
    unfold MS.joinDig
    rw [if_neg (by omega)]
  have hV : MS.takeVis x.m (48 + d) = (⟨3, x.m.mr, x.m.ct, x.m.ps.set (x.m.ct - 1).toNat (min (max (x.m.ps.getD (x.m.ct - 1).toNat 0) 0 * 10 + d) 65535)⟩, noEv, false) := by
    unfold MS.takeVis
    have hmk : markN (48 + d) = false := by unfold markN; simp; omega
    rcases h with h | h
    · rw [if_neg (by omega), if_neg (by omega), if_pos h, hmk]
      exact hT ⟨3, x.m.mr, x.m.ct, x.m.ps⟩ hc
    · rw [if_neg (by omega), if_neg (by omega), if_neg (by omega), if_pos h, hT _ hc, h]
  unfold FS.char MS.take
  rw [if_neg (by omega), if_neg (by omega), if_neg (by omega), if_neg (by omega), if_pos (by omega), hV]
  rfl
theorem char_semi (x : FS) (h : x.m.md = 2 ∨ x.m.md = 3) : x.char 59 = ⟨x.r, MS.begNum ⟨3, x.m.mr, x.m.ct, x.m.ps⟩, x.t⟩ := by
  have hV : MS.takeVis x.m 59 = (MS.begNum ⟨3, x.m.mr, x.m.ct, x.m.ps⟩, noEv, false) := by
    unfold MS.takeVis
    rcases h with h | h
    · rw [if_neg (by omega), if_neg (by omega), if_pos h]; rfl
    · rw [if_neg (by omega), if_neg (by omega), if_neg (by omega), if_pos h]
      show (x.m.begNum, noEv, false) = _
      rw [← h]
  unfold FS.char MS.take
  rw [if_neg (by omega), if_neg (by omega), if_neg (by omega), if_neg (by omega), if_pos (by omega), hV]
  rfl
/-- The numbers of a sequence: those that stand, the one that is begun. -/
def psN (Q : List Int) (n : Int) : List Int := Q ++ (n :: List.replicate (15 - Q.length) 0)
theorem psN_get (Q : List Int) (n : Int) : (psN Q n).getD Q.length 0 = n := by simp [psN, List.getD]
theorem psN_set (Q : List Int) (n k : Int) : (psN Q n).set Q.length k = psN Q k := by simp [psN]
theorem psN_next (Q : List Int) (n : Int) (h : Q.length < 15) : (psN Q n).set (Q.length + 1) (-1) = psN (Q ++ [n]) (-1) := by
  unfold psN
  rw [show 15 - Q.length = (14 - Q.length) + 1 by omega, List.replicate_succ]
  have e : 15 - (Q.length + 1) = 14 - Q.length := by omega
  simp [e]
theorem chars_dig (x : FS) (h : x.m.md = 2 ∨ x.m.md = 3) (Q : List Int) (hQ : Q.length < 16) (hc : x.m.ct = (Q.length : Int) + 1) (hp : x.m.ps = psN Q (-1)) {n : Int} (hn : 0 ≤ n ∧ n ≤ 99) :
    x.chars (digN n) = ⟨x.r, ⟨3, x.m.mr, x.m.ct, psN Q n⟩, x.t⟩ := by
  have e : (x.m.ct - 1).toNat = Q.length := by omega
  unfold digN
  split
  · show x.char (48 + n) = _
    rw [char_dig x h (by omega) (by omega), e, hp, psN_get, psN_set, show min (max (-1 : Int) 0 * 10 + n) 65535 = n by omega]
  · show (x.char (48 + n / 10)).char (48 + n % 10) = _
    rw [char_dig x h (by omega) (by omega), char_dig _ (.inr rfl) (by show x.m.ct ≤ 16; omega) (by omega)]
    dsimp only
    rw [e, hp, psN_get, psN_set, psN_get, psN_set, show min (max (min (max (-1 : Int) 0 * 10 + n / 10) 65535) 0 * 10 + n % 10) 65535 = n by omega]
/-- More numbers, each behind a semicolon. -/
def semis (P : List Int) : List Int := P.flatMap fun n => 59 :: digN n
theorem chars_semis (P : List Int) : ∀ (x : FS) (Q : List Int) (n : Int), (x.m.md = 2 ∨ x.m.md = 3) → Q.length + P.length < 16 → x.m.ct = (Q.length : Int) + 1 → x.m.ps = psN Q n → (∀ p ∈ P, 0 ≤ p ∧ p ≤ 99) →
    ∃ md, (md = 2 ∨ md = 3) ∧ x.chars (semis P) = ⟨x.r, ⟨md, x.m.mr, (Q.length : Int) + 1 + P.length, (Q ++ (n :: P)) ++ List.replicate (15 - (Q.length + P.length)) 0⟩, x.t⟩ := by
  induction P with
  | nil =>
    intro x Q n h hl hc hp _
    refine ⟨x.m.md, h, ?_⟩
    obtain ⟨r, ⟨md, mr, ct, ps⟩, t⟩ := x
    dsimp only at hc hp
    subst hc hp
    simp [semis, FS.chars, psN]
  | cons p P ih =>
    intro x Q n h hl hc hp hP
    simp only [List.length_cons] at hl
    show ∃ md, _ ∧ x.chars ((59 :: digN p) ++ semis P) = _
    rw [chars_append]
    show ∃ md, _ ∧ ((x.char 59).chars (digN p)).chars (semis P) = _
    rw [char_semi x h]
    have eb : MS.begNum ⟨3, x.m.mr, x.m.ct, x.m.ps⟩ = ⟨3, x.m.mr, x.m.ct + 1, psN (Q ++ [n]) (-1)⟩ := by
      unfold MS.begNum
      dsimp only
      rw [if_pos (by omega), hp, show x.m.ct.toNat = Q.length + 1 by omega, psN_next _ _ (by omega), show min (x.m.ct + 1) 17 = x.m.ct + 1 by omega]
    rw [eb, chars_dig _ (.inr rfl) (Q ++ [n]) (by simp; omega) (by simp; omega) rfl (hP p (by simp))]
    obtain ⟨md, h1, h2⟩ := ih ⟨x.r, ⟨3, x.m.mr, x.m.ct + 1, psN (Q ++ [n]) p⟩, x.t⟩ (Q ++ [n]) p (.inr rfl) (by simp; omega) (by simp; omega) rfl (fun q hq => hP q (by simp [hq]))
    refine ⟨md, h1, ?_⟩
    show FS.chars ⟨x.r, ⟨3, x.m.mr, x.m.ct + 1, psN (Q ++ [n]) p⟩, x.t⟩ (semis P) = _
    rw [h2]
    simp
    refine ⟨by omega, by rw [show Q.length + 1 + P.length = Q.length + (P.length + 1) by omega]⟩
/-- A whole sequence with its numbers. -/
theorem Fd.seq (t : TS) (n : Int) (P : List Int) (hn : 0 ≤ n ∧ n ≤ 99) (hP : ∀ p ∈ P, 0 ≤ p ∧ p ≤ 99) (hl : P.length < 16) {f : Int} (hf : 64 ≤ f ∧ f ≤ 126) :
    Fd t ([27, 91] ++ ((digN n ++ semis P) ++ [f])) (t.sequence 0 f ((n :: P) ++ List.replicate (15 - P.length) 0) (P.length + 1)) := by
  have hlow : ∀ n : Int, 0 ≤ n ∧ n ≤ 99 → ∀ c ∈ digN n, c < 128 := by
    intro n hn c hc
    unfold digN at hc
    split at hc
    · simp at hc; omega
    · simp at hc; rcases hc with rfl | rfl <;> omega
  refine Fd.chars ?_ ?_
  · intro c hc
    simp only [List.mem_append, List.mem_cons, List.not_mem_nil, or_false] at hc
    rcases hc with (rfl | rfl) | (hc | hc) | rfl
    · decide
    · decide
    · exact hlow n hn c hc
    · unfold semis at hc
      obtain ⟨p, hp, hc⟩ := List.mem_flatMap.1 hc
      rcases List.mem_cons.1 hc with rfl | hc
      · decide
      · exact hlow p (hP p hp) c hc
    · omega
  · rw [chars_append, char_csi _ rfl, chars_append, chars_append]
    rw [chars_dig ⟨RS.zero, MS.begNum ⟨2, 0, 0, z16⟩, t⟩ (.inl rfl) [] (by decide) rfl rfl hn]
    obtain ⟨md, h1, h2⟩ := chars_semis P ⟨RS.zero, ⟨3, 0, 1, psN [] n⟩, t⟩ [] n (.inr rfl) (by simpa using hl) rfl rfl hP
    show FS.char (FS.chars ⟨RS.zero, ⟨3, 0, 1, psN [] n⟩, t⟩ (semis P)) f = _
    rw [h2, char_final _ h1 hf]
    simp
    rw [show (min (1 + (P.length : Int)) 16).toNat = P.length + 1 by omega]
theorem Fd.mark1 (t : TS) (n : Int) (hn : 0 ≤ n ∧ n ≤ 99) {f : Int} (hf : 64 ≤ f ∧ f ≤ 126) :
    Fd t ([27, 91] ++ ([63] ++ (digN n ++ [f]))) (t.sequence 63 f (n :: List.replicate 15 0) 1) := by
  refine Fd.chars ?_ ?_
  · intro c hc
    simp only [List.mem_append, List.mem_cons, List.not_mem_nil, or_false] at hc
    rcases hc with (rfl | rfl) | rfl | hc | rfl
    · decide
    · decide
    · decide
    · unfold digN at hc
      split at hc
      · simp at hc; omega
      · simp at hc; rcases hc with rfl | rfl <;> omega
    · omega
  · rw [chars_append, char_csi _ rfl, chars_append]
    show ((FS.char ⟨RS.zero, MS.begNum ⟨2, 0, 0, z16⟩, t⟩ 63).chars (digN n ++ [f])) = _
    rw [char_mark _ rfl (.inr (.inr (.inr rfl))), chars_append, chars_dig _ (.inr rfl) [] (by decide) rfl rfl hn]
    show FS.char _ f = _
    rw [char_final _ (.inr rfl) hf]
    rfl
end Go.Proofs.YtheibfffilomcaaGreatDoor

/- Painting: what the bytes of cells, places and pens make of a terminal. -/
namespace Go.Proofs.YtheibfffilomcaaGreatDoor
open TS

/-- A terminal with another sheet, cursor, pen. -/
def cv (b : TS) (S : Sheet) (r c : Int) (w : Bool) (p : PenS) : TS := { b.setCur S with row := r, col := c, waits := w, pen := p }
/-- A terminal that is painted: letters, no ORIGIN, WRAP, no INSERT, the region is all rows. -/
structure Pl (b : TS) : Prop where
  f : b.first = 0
  s : b.second = 0
  u : b.use = 0
  o : b.origin = false
  w : b.wrap = true
  i : b.insert = false
  t : b.top = 0
  bt : b.bottom = (b.rows : Int) - 1
theorem cv_cur (b : TS) (S : Sheet) (r c : Int) (w : Bool) (p : PenS) : (cv b S r c w p).cur = S := by
  unfold cv TS.setCur TS.cur
  by_cases h : b.shown = 0 <;> simp [h]
theorem cv_setCur (b : TS) (S S' : Sheet) (r c : Int) (w : Bool) (p : PenS) : (cv b S r c w p).setCur S' = cv b S' r c w p := by
  unfold cv TS.setCur
  by_cases h : b.shown = 0 <;> simp [h]
theorem cv_cv (b : TS) (S S' : Sheet) (r c r' c' : Int) (w w' : Bool) (p p' : PenS) : cv (cv b S r c w p) S' r' c' w' p' = cv b S' r' c' w' p' := by
  unfold cv TS.setCur
  by_cases h : b.shown = 0 <;> simp [h]
theorem cv_fields (b : TS) (S : Sheet) (r c : Int) (w : Bool) (p : PenS) : (cv b S r c w p).rows = b.rows ∧ (cv b S r c w p).cols = b.cols ∧ (cv b S r c w p).first = b.first ∧ (cv b S r c w p).second = b.second ∧ (cv b S r c w p).use = b.use ∧ (cv b S r c w p).origin = b.origin ∧ (cv b S r c w p).wrap = b.wrap ∧ (cv b S r c w p).insert = b.insert ∧ (cv b S r c w p).top = b.top ∧ (cv b S r c w p).bottom = b.bottom ∧ (cv b S r c w p).shown = b.shown ∧ (cv b S r c w p).tabs = b.tabs := by
  unfold cv TS.setCur
  by_cases h : b.shown = 0 <;> simp [h]
theorem cv_self (b : TS) : cv b b.cur b.row b.col b.waits b.pen = b := by
  obtain ⟨x1, x2, x3, x4, x5, x6, x7, x8, x9, x10, x11, x12, x13, x14, x15, x16, x17, x18, x19, x20⟩ := b
  unfold cv TS.setCur TS.cur
  by_cases h : x19 = 0 <;> simp [h]
theorem cv_rec (b : TS) (S : Sheet) (r c r' c' : Int) (w w' : Bool) (p p' : PenS) : ({ cv b S r c w p with row := r', col := c', waits := w', pen := p' } : TS) = cv b S r' c' w' p' := rfl
theorem Pl.cv {b : TS} (h : Pl b) (S : Sheet) (r c : Int) (w : Bool) (p : PenS) : Pl (cv b S r c w p) := by
  obtain ⟨e1, e2, e3, e4, e5, e6, e7, e8, e9, e10, e11, e12⟩ := cv_fields b S r c w p
  exact ⟨by rw [e3, h.f], by rw [e4, h.s], by rw [e5, h.u], by rw [e6, h.o], by rw [e7, h.w], by rw [e8, h.i], by rw [e9, h.t], by rw [e10, e1, h.bt]⟩
/-- A character put. -/
theorem print_cv {b : TS} (hb : Pl b) (S : Sheet) (r c : Int) (p : PenS) (ch : Int) (wd : Nat) (hw : wd = 1 ∨ wd = 2) (h0 : 0 ≤ c) (hc : c + (wd : Int) ≤ (b.cols : Int)) :
    (cv b S r c false p).print ch wd = cv b (S.set r.toNat (putR (S.getD r.toNat []) c.toNat ch wd p)) r (bringI (c + wd) 0 ((b.cols : Int) - 1)) (decide ((b.cols : Int) - 1 < c + wd)) p := by
  obtain ⟨e1, e2, e3, e4, e5, e6, e7, e8, e9, e10, e11, e12⟩ := cv_fields b S r c false p
  unfold TS.print
  rw [if_neg (by rw [e2]; omega)]
  have hp1 : (cv b S r c false p).print1 = cv b S r c false p := rfl
  rw [hp1, if_neg (by rw [e2]; show ¬ ((b.cols : Int) < c + wd); omega)]
  unfold TS.print2
  rw [e8, hb.i]
  simp only [Bool.false_eq_true, if_false]
  have hsp : (cv b S r c false p).spelt ch = ch := by unfold TS.spelt; rw [e5, e3, hb.u, hb.f]; rfl
  have hput : (cv b S r c false p).putNow ch wd = cv b (S.set r.toNat (putR (S.getD r.toNat []) c.toNat ch wd p)) r c false p := by
    unfold TS.putNow TS.setRowNow TS.rowNow
    rw [cv_cur, cv_setCur, hsp]
    rfl
  rw [hput]
  obtain ⟨d1, d2, d3, d4, d5, d6, d7, d8, d9, d10, d11, d12⟩ := cv_fields b (S.set r.toNat (putR (S.getD r.toNat []) c.toNat ch wd p)) r c false p
  have e : ∀ S' : Sheet, (cv b S' r c false p).step wd = cv b S' r (bringI (c + wd) 0 ((b.cols : Int) - 1)) (b.wrap && decide ((b.cols : Int) - 1 < c + wd)) p := by
    intro S'
    unfold TS.step TS.toCol cv TS.setCur
    by_cases h : b.shown = 0 <;> simp [h]
  rw [e, hb.w, Bool.true_and]
theorem digN_place (a b : Int) : pairN a b ++ [72] = (digN (a + 1) ++ semis [b + 1]) ++ [72] := by simp [pairN, semis]
theorem seq_H (t : TS) (a b : Int) (z : List Int) (k : Nat) : t.sequence 0 72 (a :: b :: z) k = (t.unwait.toCounted (times a - 1)).toCol (times b - 1) := by
  unfold TS.sequence
  rw [if_pos rfl, show stills 72 = true by decide]
  rfl
/-- A place. -/
theorem Fd.place (t : TS) (r c : Int) (hr : 0 ≤ r ∧ r ≤ 90) (hc : 0 ≤ c ∧ c ≤ 90) : Fd t ([27, 91] ++ (pairN r c ++ [72])) ((t.unwait.toCounted r).toCol c) := by
  rw [digN_place]
  have h := Fd.seq t (r + 1) [c + 1] (by omega) (by simp; omega) (by simp) (f := 72) (by decide)
  have e : t.sequence 0 72 (((r + 1) :: [c + 1]) ++ List.replicate (15 - [c + 1].length) 0) ([c + 1].length + 1) = (t.unwait.toCounted r).toCol c := by
    refine (seq_H t (r + 1) (c + 1) _ _).trans ?_
    rw [show times (r + 1) - 1 = r by unfold times; omega, show times (c + 1) - 1 = c by unfold times; omega]
  rw [e] at h
  exact h
theorem bringI_id {n a b : Int} (h : a ≤ n ∧ n ≤ b) : bringI n a b = n := by unfold bringI; omega
theorem place_cv {b : TS} (hb : b.origin = false) (S : Sheet) (r c r' c' : Int) (w : Bool) (p : PenS) (hr : 0 ≤ r' ∧ r' < (b.rows : Int)) (hc : 0 ≤ c' ∧ c' < (b.cols : Int)) :
    (((cv b S r c w p).unwait.toCounted r').toCol c') = cv b S r' c' false p := by
  obtain ⟨e1, e2, e3, e4, e5, e6, e7, e8, e9, e10, e11, e12⟩ := cv_fields b S r c w p
  unfold TS.toCounted
  rw [if_neg (by show ¬ ((cv b S r c w p).origin = true); rw [e6, hb]; decide)]
  show ({ cv b S r c w p with waits := false, row := bringI r' 0 (((cv b S r c w p).rows : Int) - 1), col := bringI c' 0 (((cv b S r c w p).cols : Int) - 1) } : TS) = _
  rw [e1, e2, bringI_id (by omega), bringI_id (by omega)]
  rfl
/-- A place, ORIGIN or not. -/
theorem place_cv2 {b : TS} (S : Sheet) (r c r' c' : Int) (w : Bool) (p : PenS) (ho : b.origin = true → b.top ≤ r' ∧ r' ≤ b.bottom) (hr : 0 ≤ r' ∧ r' < (b.rows : Int)) (hc : 0 ≤ c' ∧ c' < (b.cols : Int)) :
    (((cv b S r c w p).unwait.toCounted (if b.origin then r' - b.top else r')).toCol c') = cv b S r' c' false p := by
  cases hb : b.origin with
  | false => simp only [Bool.false_eq_true, if_false]; exact place_cv hb S r c r' c' w p hr hc
  | true =>
    have ho := ho hb
    obtain ⟨e1, e2, e3, e4, e5, e6, e7, e8, e9, e10, e11, e12⟩ := cv_fields b S r c w p
    simp only [if_true]
    unfold TS.toCounted
    rw [if_pos (by show (cv b S r c w p).origin = true; rw [e6, hb])]
    show ({ cv b S r c w p with waits := false, row := bringI ((cv b S r c w p).top + (r' - b.top)) ((cv b S r c w p).top) ((cv b S r c w p).bottom), col := bringI c' 0 (((cv b S r c w p).cols : Int) - 1) } : TS) = _
    rw [e9, e10, e2, show b.top + (r' - b.top) = r' by omega, bringI_id ho, bringI_id (by omega)]
    rfl

/-- A pen's numbers. -/
def inkP (p : PenS) : List Int :=
  (if p.b then [1] else []) ++ ((if p.u then [4] else []) ++ ((if p.t then [7] else []) ++ ((if p.f ≠ 0 then [30 + (p.f - 1)] else []) ++ (if p.k ≠ 0 then [40 + (p.k - 1)] else []))))
theorem digs (d n : Int) (hd : 1 ≤ d ∧ d ≤ 9) (hn : 0 ≤ n ∧ n ≤ 7) : [59, 48 + d] ++ digN n = 59 :: digN (d * 10 + n) := by
  unfold digN
  rw [if_pos (by omega), if_neg (by omega), show (d * 10 + n) / 10 = d by omega, show (d * 10 + n) % 10 = n by omega]
  rfl
theorem semis_app (a b : List Int) : semis (a ++ b) = semis a ++ semis b := by simp [semis]
theorem inks_semis {p : PenS} (h : p.Ok) : inksN p = semis (inkP p) := by
  obtain ⟨h1, h2, h3, h4⟩ := h
  unfold inksN inkP
  rw [semis_app, semis_app, semis_app, semis_app]
  congr 1
  · split <;> rfl
  congr 1
  · split <;> rfl
  congr 1
  · split <;> rfl
  congr 1
  · split
    · rename_i hf
      exact (digs 3 (p.f - 1) (by omega) (by omega)).trans (by simp [semis])
    · rfl
  · split
    · rename_i hf
      exact (digs 4 (p.k - 1) (by omega) (by omega)).trans (by simp [semis])
    · rfl
theorem inkP_bd {p : PenS} (h : p.Ok) : ∀ n ∈ inkP p, 0 ≤ n ∧ n ≤ 99 := by
  obtain ⟨h1, h2, h3, h4⟩ := h
  intro n hn
  unfold inkP at hn
  simp only [List.mem_append] at hn
  rcases hn with hn | hn | hn | hn | hn <;> split at hn <;> simp at hn <;> omega
theorem inkP_len (p : PenS) : (inkP p).length ≤ 5 := by
  unfold inkP
  simp only [List.length_append]
  have e : ∀ (c : Prop) [Decidable c] (x : Int), (if c then [x] else []).length ≤ 1 := by intro c _ x; split <;> simp
  have := e (p.b = true) 1
  have := e (p.u = true) 4
  have := e (p.t = true) 7
  have := e (p.f ≠ 0) (30 + (p.f - 1))
  have := e (p.k ≠ 0) (40 + (p.k - 1))
  omega
theorem turns_app (l l' : List Int) : ∀ s : TS, s.turns (l ++ l') = (s.turns l).turns l' := by
  induction l with
  | nil => intro s; rfl
  | cons n l ih => intro s; exact ih _
theorem turns_pen (l : List Int) : ∀ s : TS, s.turns l = { s with pen := l.foldl (fun p n => turn p (amount n)) s.pen } := by
  induction l with
  | nil => intro s; rfl
  | cons n l ih => intro s; exact (ih _).trans rfl
theorem turn_f (q : PenS) (f : Int) (h : 1 ≤ f ∧ f ≤ 8) : turn q (amount (30 + (f - 1))) = { q with f := f } := by
  unfold turn amount
  rw [if_neg (by omega), if_neg (by omega), if_neg (by omega), if_neg (by omega), if_pos (by omega), show max (30 + (f - 1)) 0 - 29 = f by omega]
theorem turn_k (q : PenS) (f : Int) (h : 1 ≤ f ∧ f ≤ 8) : turn q (amount (40 + (f - 1))) = { q with k := f } := by
  unfold turn amount
  rw [if_neg (by omega), if_neg (by omega), if_neg (by omega), if_neg (by omega), if_neg (by omega), if_neg (by omega), if_pos (by omega), show max (40 + (f - 1)) 0 - 39 = f by omega]
theorem ink_turn {p : PenS} (h : p.Ok) (q : PenS) : ((0 : Int) :: inkP p).foldl (fun p n => turn p (amount n)) q = p := by
  obtain ⟨b, u, t, f, k⟩ := p
  obtain ⟨h1, h2, h3, h4⟩ := h
  dsimp only at h1 h2 h3 h4
  have e0 : turn q (amount 0) = pen0 := rfl
  rw [List.foldl_cons, e0]
  unfold inkP
  simp only [List.foldl_append]
  have e1 : (if b = true then [(1 : Int)] else []).foldl (fun p n => turn p (amount n)) pen0 = ⟨b, false, false, 0, 0⟩ := by cases b <;> rfl
  have e2 : (if u = true then [(4 : Int)] else []).foldl (fun p n => turn p (amount n)) ⟨b, false, false, 0, 0⟩ = ⟨b, u, false, 0, 0⟩ := by cases u <;> rfl
  have e3 : (if t = true then [(7 : Int)] else []).foldl (fun p n => turn p (amount n)) ⟨b, u, false, 0, 0⟩ = ⟨b, u, t, 0, 0⟩ := by cases t <;> rfl
  have e4 : (if f ≠ 0 then [30 + (f - 1)] else []).foldl (fun p n => turn p (amount n)) ⟨b, u, t, 0, 0⟩ = ⟨b, u, t, f, 0⟩ := by
    split
    · show turn _ _ = _
      rw [turn_f _ _ (by omega)]
    · rename_i hf; simp at hf; subst hf; rfl
  have e5 : (if k ≠ 0 then [40 + (k - 1)] else []).foldl (fun p n => turn p (amount n)) ⟨b, u, t, f, 0⟩ = ⟨b, u, t, f, k⟩ := by
    split
    · show turn _ _ = _
      rw [turn_k _ _ (by omega)]
    · rename_i hf; simp at hf; subst hf; rfl
  rw [e1, e2, e3, e4, e5]
theorem seq_m (t : TS) (ps : List Int) (k : Nat) : t.sequence 0 109 ps k = t.turns (ps.take k) := by
  unfold TS.sequence
  rw [if_pos rfl, show stills 109 = false by decide]
  rfl
/-- A pen. -/
theorem Fd.pen (t : TS) {p : PenS} (h : p.Ok) : Fd t ([27, 91] ++ (48 :: (inksN p ++ [109]))) { t with pen := p } := by
  have e : (48 : Int) :: (inksN p ++ [109]) = (digN 0 ++ semis (inkP p)) ++ [109] := by rw [inks_semis h]; rfl
  rw [e]
  have hl := inkP_len p
  have k := Fd.seq t 0 (inkP p) (by decide) (inkP_bd h) (by omega) (f := 109) (by decide)
  have e2 : t.sequence 0 109 ((0 :: inkP p) ++ List.replicate (15 - (inkP p).length) 0) ((inkP p).length + 1) = { t with pen := p } := by
    rw [seq_m, List.take_left' (by simp), turns_pen, ink_turn h]
  rw [e2] at k
  exact k
end Go.Proofs.YtheibfffilomcaaGreatDoor

/- The bytes that draw a terminal again draw it again. -/
namespace Go.Proofs.YtheibfffilomcaaGreatDoor
open TS

/-- What is written so far makes t of t0. -/
structure Dn (t0 : TS) (w : WS) (t : TS) : Prop where
  fd : Fd t0 w.tx t
  pen : t.pen = w.pen
theorem Dn.put {t0 t t' : TS} {w : WS} {l : List Int} (h : Dn t0 w t) (k : Fd t l t') (hp : t'.pen = t.pen) : Dn t0 (w.put l) t' := ⟨h.fd.trans k, hp.trans h.pen⟩
theorem Dn.turn {t0 t : TS} {w : WS} (h : Dn t0 w t) {p : PenS} (hp : p.Ok) : Dn t0 (w.turn p) { t with pen := p } := by
  unfold WS.turn
  split
  · rename_i e
    have e2 : ({ t with pen := p } : TS) = t := by rw [e, ← h.pen]
    rw [e2]; exact h
  · exact ⟨h.fd.trans (Fd.pen t hp), rfl⟩
theorem turn_pen (w : WS) (p : PenS) : (w.turn p).pen = p := by
  unfold WS.turn
  split
  · rename_i e; exact e.symm
  · rfl
theorem Dn.pt {t0 : TS} {w : WS} {b : TS} {S : Sheet} {r c : Int} {q : Bool} {p : PenS} (h : Dn t0 w (cv b S r c q p)) (hb : b.origin = false) {r' c' : Int} (hr : 0 ≤ r' ∧ r' < (b.rows : Int)) (hc : 0 ≤ c' ∧ c' < (b.cols : Int)) (h1 : b.rows ≤ 12) (h2 : b.cols ≤ 40) :
    Dn t0 (w.place r' c') (cv b S r' c' false p) := by
  refine h.put ?_ rfl
  rw [← place_cv hb S r c r' c' q p hr hc]
  exact Fd.place _ _ _ (by omega) (by omega)
/-- A cell's character. -/
theorem Dn.cell {t0 : TS} {w : WS} {b : TS} (hb : Pl b) {S : Sheet} {r c : Int} {p : PenS} (h : Dn t0 w (cv b S r c false p)) {x : CellS} (hx : x.Ok) (hp : x.part ≠ 2) {wd : Nat} (hw : widN x.r = wd) (hwd : wd = 1 ∨ wd = 2) (h0 : 0 ≤ c) (hc : c + (wd : Int) ≤ (b.cols : Int)) :
    Dn t0 (w.cell x) (cv b (S.set r.toNat (putR (S.getD r.toNat []) c.toNat x.r wd x.p)) r (bringI (c + wd) 0 ((b.cols : Int) - 1)) (decide ((b.cols : Int) - 1 < c + wd)) x.p) := by
  unfold WS.cell
  rw [if_neg hp]
  refine (h.turn hx.2).put ?_ rfl
  have e := print_cv hb S r c x.p x.r wd hwd h0 hc
  have k := Fd.chr (cv b S r c false x.p) hx.1 (by omega)
  rw [hw, Int.toNat_natCast, e] at k
  exact k
theorem put_tail {A : List CellS} {n : Nat} (x : CellS) (wd : Nat) (h : wd = 1 ∧ x.part = 0 ∨ wd = 2 ∧ x.part = 1) : putR (A ++ List.replicate (n + wd) blankS) A.length x.r wd x.p = A ++ ((if wd = 2 then [x, tailS x] else [x]) ++ List.replicate n blankS) := by
  have hs : ∀ k, A.length ≤ k → splitR (A ++ List.replicate (n + wd) blankS) k = A ++ List.replicate (n + wd) blankS := by
    intro k hk
    refine splitR_ok ?_
    intro y hy
    rw [List.getElem?_append_right hk] at hy
    have := List.eq_of_mem_replicate (List.mem_of_getElem? hy)
    subst this; decide
  unfold putR
  rw [hs _ (Nat.le_refl _), hs _ (by omega)]
  obtain ⟨xr, xp, xq⟩ := x
  rcases h with ⟨rfl, h⟩ | ⟨rfl, h⟩
  · dsimp only at h
    subst h
    simp [List.replicate_succ]
  · dsimp only at h
    subst h
    simp [List.replicate_succ, tailS]
theorem set_same {S : Sheet} {i : Nat} {r : List CellS} (h : S.getD i [] = r) : S.set i r = S := by
  subst h
  refine List.ext_getElem? fun j => ?_
  rw [List.getElem?_set]
  split
  · rename_i e; subst e
    split
    · rename_i hl; simp [List.getD, hl]
    · rename_i hl; simp at hl; simp [hl]
  · rfl
/-- A row. -/
theorem Dn.runs {t0 b : TS} (hb : Pl b) (i : Nat) (hi : i < b.rows) (h1 : b.rows ≤ 12) (h2 : b.cols ≤ 40) : ∀ (n : Nat) (l A : List CellS), l.length = n → ∀ (bf : CellS) (w : WS) (S : Sheet) (r c : Int) (q : Bool), GoodR l → A.length + l.length = b.cols → S.length = b.rows →
    S.getD i [] = A ++ List.replicate l.length blankS → (bf ≠ blankS → l ≠ [] → r = i ∧ c = A.length ∧ q = false) → Dn t0 w (cv b S r c q w.pen) →
    ∃ r' c' q', Dn t0 (WS.runs i w A.length bf l) (cv b (S.set i (A ++ l)) r' c' q' (WS.runs i w A.length bf l).pen) := by
  intro n
  induction n using Nat.strongRecOn with
  | ind n ih =>
    intro l A hln bf w S r c q hg hl hS hrow hat hd
    cases hg with
    | nil =>
      refine ⟨r, c, q, ?_⟩
      rw [set_same (by simpa using hrow)]
      exact hd
    | one x l hp hw hs hg =>
      simp only [List.length_cons] at hl hrow hln
      have hA : (A ++ [x]).length = A.length + 1 := by simp
      by_cases hx : x = blankS
      · have e : WS.run1 w i A.length bf x = w := by unfold WS.run1; rw [if_pos hx]
        obtain ⟨r', c', q', h⟩ := ih l.length (by omega) l (A ++ [x]) rfl x w S r c q hg (by rw [hA]; omega) hS (by rw [hrow, hx]; simp [List.replicate_succ]) (fun h => absurd hx h) hd
        refine ⟨r', c', q', ?_⟩
        rw [hA] at h
        show Dn t0 (WS.runs i (WS.run1 w i A.length bf x) (A.length + 1) x l) _
        have e3 : A ++ x :: l = A ++ [x] ++ l := by simp
        have e2 : WS.runs i w A.length bf (x :: l) = WS.runs i w (A.length + 1) x l := by
          show WS.runs i (WS.run1 w i A.length bf x) (A.length + 1) x l = _
          rw [e]
        rw [e, e2, e3]
        exact h
      · -- the place, if the run begins
        have hd2 : Dn t0 (if bf = blankS then w.place i A.length else w) (cv b S i A.length false w.pen) := by
          split
          · exact hd.pt hb.o (by omega) (by omega) h1 h2
          · rename_i hne
            obtain ⟨a1, a2, a3⟩ := hat hne (by simp)
            subst a1 a2 a3
            exact hd
        have hd3 := hd2.cell hb hs (by omega) (wd := 1) (by rw [hw]; rfl) (.inl rfl) (by omega) (by omega)
        rw [Int.toNat_natCast, Int.toNat_natCast, hrow, put_tail (n := l.length) x 1 (.inl ⟨rfl, hp⟩)] at hd3
        have e : WS.run1 w i A.length bf x = (if bf = blankS then w.place i A.length else w).cell x := by unfold WS.run1; rw [if_neg hx]
        have epn : (WS.run1 w i A.length bf x).pen = x.p := by
          rw [e]; unfold WS.cell; rw [if_neg (by omega)]; exact turn_pen _ _
        rw [← e, ← epn] at hd3
        obtain ⟨r', c', q', h⟩ := ih l.length (by omega) l (A ++ [x]) rfl x (WS.run1 w i A.length bf x) _ _ _ _ hg (by rw [hA]; omega) (by simpa using hS) (by
          rw [getD_set, if_pos ⟨rfl, by omega⟩]; simp) (fun _ hl0 => by
          have : 0 < l.length := List.length_pos_iff.2 hl0
          refine ⟨rfl, ?_, ?_⟩
          · rw [hA]; unfold bringI; omega
          · simp; omega) hd3
        refine ⟨r', c', q', ?_⟩
        rw [hA, List.set_set] at h
        have e3 : A ++ x :: l = A ++ [x] ++ l := by simp
        rw [e3]
        exact h
    | two x l hp hw hs hg =>
      simp only [List.length_cons] at hl hrow hln
      have hA : (A ++ [x, tailS x]).length = A.length + 1 + 1 := by simp
      have hx : x ≠ blankS := by intro e; rw [e] at hp; exact absurd hp (by decide)
      have ht : tailS x ≠ blankS := by
        intro e
        have : (tailS x).part = blankS.part := by rw [e]
        exact absurd this (by show ¬ ((2 : Int) = 0); decide)
      have hd2 : Dn t0 (if bf = blankS then w.place i A.length else w) (cv b S i A.length false w.pen) := by
        split
        · exact hd.pt hb.o (by omega) (by omega) h1 h2
        · rename_i hne
          obtain ⟨a1, a2, a3⟩ := hat hne (by simp)
          subst a1 a2 a3
          exact hd
      have hd3 := hd2.cell hb hs (by omega) (wd := 2) (by rw [hw]; rfl) (.inr rfl) (by omega) (by omega)
      rw [Int.toNat_natCast, Int.toNat_natCast, hrow, show l.length + 1 + 1 = l.length + 2 by omega, put_tail (n := l.length) x 2 (.inr ⟨rfl, hp⟩)] at hd3
      have e : WS.run1 w i A.length bf x = (if bf = blankS then w.place i A.length else w).cell x := by unfold WS.run1; rw [if_neg hx]
      have epn : (WS.run1 w i A.length bf x).pen = x.p := by
        rw [e]; unfold WS.cell; rw [if_neg (by omega)]; exact turn_pen _ _
      have et : WS.run1 (WS.run1 w i A.length bf x) i (A.length + 1) x (tailS x) = WS.run1 w i A.length bf x := by
        show (if tailS x = blankS then _ else (if x = blankS then _ else WS.run1 w i A.length bf x).cell (tailS x)) = _
        rw [if_neg ht, if_neg hx]
        unfold WS.cell
        rw [if_pos (show (tailS x).part = 2 from rfl)]
      rw [← e, ← epn] at hd3
      obtain ⟨r', c', q', h⟩ := ih l.length (by omega) l (A ++ [x, tailS x]) rfl (tailS x) (WS.run1 w i A.length bf x) _ _ _ _ hg (by rw [hA]; omega) (by simpa using hS) (by
        rw [getD_set, if_pos ⟨rfl, by omega⟩]; simp) (fun _ hl0 => by
        have : 0 < l.length := List.length_pos_iff.2 hl0
        refine ⟨rfl, ?_, ?_⟩
        · rw [hA]; unfold bringI; omega
        · simp; omega) hd3
      refine ⟨r', c', q', ?_⟩
      rw [hA, List.set_set] at h
      have e3 : A ++ x :: tailS x :: l = A ++ [x, tailS x] ++ l := by simp
      have e2 : WS.runs i w A.length bf (x :: tailS x :: l) = WS.runs i (WS.run1 w i A.length bf x) (A.length + 1 + 1) (tailS x) l := by
        show WS.runs i (WS.run1 (WS.run1 w i A.length bf x) i (A.length + 1) x (tailS x)) (A.length + 1 + 1) (tailS x) l = _
        rw [et]
      rw [e3, e2]
      exact h
/-- All rows. -/
theorem Dn.rows {t0 b : TS} (hb : Pl b) (h1 : b.rows ≤ 12) (h2 : b.cols ≤ 40) : ∀ (T A : Sheet) (w : WS) (r c : Int) (q : Bool), GoodS b.cols T → A.length + T.length = b.rows →
    Dn t0 w (cv b (A ++ List.replicate T.length (blankR b.cols)) r c q w.pen) → ∃ r' c' q', Dn t0 (WS.rowsN w A.length T) (cv b (A ++ T) r' c' q' (WS.rowsN w A.length T).pen) := by
  intro T
  induction T with
  | nil => intro A w r c q _ _ hd; exact ⟨r, c, q, by show Dn t0 w (cv b (A ++ []) r c q w.pen); simpa using hd⟩
  | cons x T ih =>
    intro A w r c q hg hl hd
    simp only [List.length_cons] at hl hd
    obtain ⟨gx, lx⟩ := hg x (by simp)
    obtain ⟨r', c', q', h⟩ := Dn.runs hb A.length (by omega) h1 h2 x.length x [] rfl blankS w _ r c q gx (by simpa using lx) (by simp; omega) (by simp [List.getD, List.replicate_succ, blankR, lx]) (fun h => absurd rfl h) hd
    have e : (A ++ List.replicate (T.length + 1) (blankR b.cols)).set A.length ([] ++ x) = (A ++ [x]) ++ List.replicate T.length (blankR b.cols) := by simp [List.replicate_succ]
    rw [e] at h
    obtain ⟨r2, c2, q2, k⟩ := ih (A ++ [x]) _ r' c' q' (fun y hy => hg y (by simp [hy])) (by simp; omega) h
    refine ⟨r2, c2, q2, ?_⟩
    have e3 : A ++ x :: T = A ++ [x] ++ T := by simp
    have e4 : (A ++ [x]).length = A.length + 1 := by simp
    rw [e4] at k
    rw [e3]
    exact k
end Go.Proofs.YtheibfffilomcaaGreatDoor

/- Spots, screens, tab stops, the region: the bytes that draw a terminal again draw it again. -/
namespace Go.Proofs.YtheibfffilomcaaGreatDoor
open TS

/-- The last cell of a row put once more: nothing is changed. -/
theorem good_last {l : List CellS} (h : GoodR l) : l ≠ [] → (∃ A x, l = A ++ [x] ∧ x.part = 0 ∧ widN x.r = 1 ∧ x.Ok) ∨ (∃ A x, l = A ++ [x, tailS x] ∧ x.part = 1 ∧ widN x.r = 2 ∧ x.Ok) := by
  induction h with
  | nil => intro h; exact absurd rfl h
  | one c r hp hw hs hg ih =>
    intro _
    cases r with
    | nil => exact .inl ⟨[], c, rfl, hp, hw, hs⟩
    | cons y r =>
      rcases ih (by simp) with ⟨A, x, e, h⟩ | ⟨A, x, e, h⟩
      · exact .inl ⟨c :: A, x, by rw [e]; rfl, h⟩
      · exact .inr ⟨c :: A, x, by rw [e]; rfl, h⟩
  | two c r hp hw hs hg ih =>
    intro _
    cases r with
    | nil => exact .inr ⟨[], c, rfl, hp, hw, hs⟩
    | cons y r =>
      rcases ih (by simp) with ⟨A, x, e, h⟩ | ⟨A, x, e, h⟩
      · exact .inl ⟨c :: tailS c :: A, x, by rw [e]; rfl, h⟩
      · exact .inr ⟨c :: tailS c :: A, x, by rw [e]; rfl, h⟩
theorem put_last1 (A : List CellS) (x : CellS) (h : x.part = 0) : putR (A ++ [x]) A.length x.r 1 x.p = A ++ [x] := by
  have h1 : splitR (A ++ [x]) A.length = A ++ [x] := splitR_ok (by intro y hy; simp at hy; subst hy; omega)
  have h2 : splitR (A ++ [x]) (A.length + 1) = A ++ [x] := splitR_ok (by intro y hy; simp at hy)
  unfold putR
  rw [h1, h2]
  obtain ⟨a, b, c⟩ := x
  dsimp only at h; subst h
  simp
theorem put_last2 (A : List CellS) (x : CellS) (h : x.part = 1) : putR (A ++ [x, tailS x]) A.length x.r 2 x.p = A ++ [x, tailS x] := by
  have h1 : splitR (A ++ [x, tailS x]) A.length = A ++ [x, tailS x] := splitR_ok (by intro y hy; simp at hy; subst hy; omega)
  have h2 : splitR (A ++ [x, tailS x]) (A.length + 2) = A ++ [x, tailS x] := splitR_ok (by intro y hy; simp at hy)
  unfold putR
  rw [h1, h2]
  obtain ⟨a, b, c⟩ := x
  dsimp only at h; subst h
  simp [tailS]
/-- A terminal whose cursor has gone to a spot. -/
def atSpot (b : TS) (p : SpotS) : TS := b.setSpot p
/-- A terminal whose alphabets are letters. -/
structure Let (b : TS) : Prop where
  f : b.first = 0
  s : b.second = 0
  u : b.use = 0
  w : b.wrap = true
  i : b.insert = false
/-- A place with ORIGIN or without. -/
theorem Dn.pt2 {t0 : TS} {w : WS} {b : TS} {S : Sheet} {r c : Int} {q : Bool} {p : PenS} (h : Dn t0 w (cv b S r c q p)) {r' c' : Int} (ho : b.origin = true → b.top ≤ r' ∧ r' ≤ b.bottom) (ht : 0 ≤ b.top) (hr : 0 ≤ r' ∧ r' < (b.rows : Int)) (hc : 0 ≤ c' ∧ c' < (b.cols : Int)) (h1 : b.rows ≤ 12) (h2 : b.cols ≤ 40) :
    Dn t0 (w.place (if b.origin then r' - b.top else r') c') (cv b S r' c' false p) := by
  refine h.put ?_ rfl
  rw [← place_cv2 S r c r' c' q p ho hr hc]
  refine Fd.place _ _ _ ?_ (by omega)
  cases hb : b.origin with
  | false => simp; omega
  | true => have := ho hb; simp; omega
theorem print_cv2 {b : TS} (hb : Let b) (S : Sheet) (r c : Int) (p : PenS) (ch : Int) (wd : Nat) (hw : wd = 1 ∨ wd = 2) (h0 : 0 ≤ c) (hc : c + (wd : Int) ≤ (b.cols : Int)) :
    (cv b S r c false p).print ch wd = cv b (S.set r.toNat (putR (S.getD r.toNat []) c.toNat ch wd p)) r (bringI (c + wd) 0 ((b.cols : Int) - 1)) (decide ((b.cols : Int) - 1 < c + wd)) p := by
  obtain ⟨e1, e2, e3, e4, e5, e6, e7, e8, e9, e10, e11, e12⟩ := cv_fields b S r c false p
  unfold TS.print
  rw [if_neg (by rw [e2]; omega)]
  have hp1 : (cv b S r c false p).print1 = cv b S r c false p := rfl
  rw [hp1, if_neg (by rw [e2]; show ¬ ((b.cols : Int) < c + wd); omega)]
  unfold TS.print2
  rw [e8, hb.i]
  simp only [Bool.false_eq_true, if_false]
  have hsp : (cv b S r c false p).spelt ch = ch := by unfold TS.spelt; rw [e5, e3, hb.u, hb.f]; rfl
  have hput : (cv b S r c false p).putNow ch wd = cv b (S.set r.toNat (putR (S.getD r.toNat []) c.toNat ch wd p)) r c false p := by
    unfold TS.putNow TS.setRowNow TS.rowNow
    rw [cv_cur, cv_setCur, hsp]
    rfl
  rw [hput]
  have e : ∀ S' : Sheet, (cv b S' r c false p).step wd = cv b S' r (bringI (c + wd) 0 ((b.cols : Int) - 1)) (b.wrap && decide ((b.cols : Int) - 1 < c + wd)) p := by
    intro S'
    unfold TS.step TS.toCol cv TS.setCur
    by_cases h : b.shown = 0 <;> simp [h]
  rw [e, hb.w, Bool.true_and]
theorem Dn.cell2 {t0 : TS} {w : WS} {b : TS} (hb : Let b) {S : Sheet} {r c : Int} {p : PenS} (h : Dn t0 w (cv b S r c false p)) {x : CellS} (hx : x.Ok) (hp : x.part ≠ 2) {wd : Nat} (hw : widN x.r = wd) (hwd : wd = 1 ∨ wd = 2) (h0 : 0 ≤ c) (hc : c + (wd : Int) ≤ (b.cols : Int)) :
    Dn t0 (w.cell x) (cv b (S.set r.toNat (putR (S.getD r.toNat []) c.toNat x.r wd x.p)) r (bringI (c + wd) 0 ((b.cols : Int) - 1)) (decide ((b.cols : Int) - 1 < c + wd)) x.p) := by
  unfold WS.cell
  rw [if_neg hp]
  refine (h.turn hx.2).put ?_ rfl
  have e := print_cv2 hb S r c x.p x.r wd hwd h0 hc
  have k := Fd.chr (cv b S r c false x.p) hx.1 (by omega)
  rw [hw, Int.toNat_natCast, e] at k
  exact k
/-- To the place, waiting or not. -/
theorem Dn.to2 {t0 : TS} {w : WS} {b : TS} {S : Sheet} {r c : Int} {q : Bool} {pn : PenS} (h : Dn t0 w (cv b S r c q pn)) (hb : Let b) (hS : GoodS b.cols S) (hl : S.length = b.rows) (p : SpotS) (ho : b.origin = true → b.top ≤ p.row ∧ p.row ≤ b.bottom) (ht : 0 ≤ b.top) (hr : 0 ≤ p.row ∧ p.row < (b.rows : Int)) (hc : 0 ≤ p.col ∧ p.col < (b.cols : Int)) (hw : p.waits = true → p.col = (b.cols : Int) - 1) (h1 : b.rows ≤ 12) (h2 : b.cols ≤ 40) :
    ∃ pn', Dn t0 (w.to2 S p (if b.origin then p.row - b.top else p.row)) (cv b S p.row p.col p.waits pn') := by
  unfold WS.to2
  cases hq : p.waits with
  | false =>
    simp only [Bool.false_eq_true, if_false]
    exact ⟨_, h.pt2 ho ht hr hc h1 h2⟩
  | true =>
    simp only [if_true]
    have hw := hw hq
    obtain ⟨gr, lr⟩ := hS.getD (i := p.row.toNat) (by omega)
    have hne : S.getD p.row.toNat [] ≠ [] := by intro e; rw [e] at lr; simp at lr; omega
    unfold WS.toWait WS.cellAt
    rcases good_last gr hne with ⟨A, x, e, x1, x2, x3⟩ | ⟨A, x, e, x1, x2, x3⟩
    · have hA : A.length + 1 = b.cols := by rw [← lr, e]; simp
      have ec : p.col.toNat = A.length := by omega
      have ex : (S.getD p.row.toNat []).getD p.col.toNat blankS = x := by rw [e, ec]; simp [List.getD]
      rw [ex, if_neg (by omega)]
      have k := (h.pt2 ho ht hr hc h1 h2).cell2 hb x3 (by omega) (wd := 1) (by rw [x2]; rfl) (.inl rfl) hc.1 (by omega)
      rw [e, ec, put_last1 A x x1, ← e, set_same rfl] at k
      have e1 : bringI (p.col + (1 : Nat)) 0 ((b.cols : Int) - 1) = p.col := by unfold bringI; omega
      have e2 : decide ((b.cols : Int) - 1 < p.col + (1 : Nat)) = true := by simp; omega
      rw [e1, e2] at k
      exact ⟨_, k⟩
    · have hA : A.length + 2 = b.cols := by rw [← lr, e]; simp
      have ec : p.col.toNat = A.length + 1 := by omega
      have ex : (S.getD p.row.toNat []).getD p.col.toNat blankS = tailS x := by rw [e, ec]; simp [List.getD]
      have ey : (S.getD p.row.toNat []).getD (p.col - 1).toNat blankS = x := by rw [e, show (p.col - 1).toNat = A.length by omega]; simp [List.getD]
      rw [ex, ey, if_pos (show (tailS x).part = 2 from rfl)]
      have k := (h.pt2 (c' := p.col - 1) ho ht hr (by omega) h1 h2).cell2 hb x3 (by omega) (wd := 2) (by rw [x2]; rfl) (.inr rfl) (by omega) (by omega)
      rw [e, show (p.col - 1).toNat = A.length by omega, put_last2 A x x1, ← e, set_same rfl] at k
      have e1 : bringI (p.col - 1 + (2 : Nat)) 0 ((b.cols : Int) - 1) = p.col := by unfold bringI; omega
      have e2 : decide ((b.cols : Int) - 1 < p.col - 1 + (2 : Nat)) = true := by simp; omega
      rw [e1, e2] at k
      exact ⟨_, k⟩
theorem seq63 (t : TS) (f n : Int) (z : List Int) (hf : f = 104 ∨ f = 108) : t.sequence 63 f (n :: z) 1 = t.set1 n (decide (f = 104)) := by
  unfold TS.sequence
  rw [if_neg (by decide), if_pos rfl, if_pos hf]
  rfl
theorem Fd.mode (t : TS) (n : Int) (hn : 0 ≤ n ∧ n ≤ 99) (on : Bool) : Fd t ([27, 91] ++ ([63] ++ (digN n ++ [if on then 104 else 108]))) (t.set1 n on) := by
  cases on with
  | true => have h := Fd.mark1 t n hn (f := 104) (by decide); rw [seq63 t 104 n _ (.inl rfl)] at h; exact h
  | false => have h := Fd.mark1 t n hn (f := 108) (by decide); rw [seq63 t 108 n _ (.inr rfl)] at h; exact h
theorem Fd.org (t : TS) : Fd t [27, 91, 63, 54, 104] ({ t with origin := true } : TS).home := Fd.mode t 6 (by decide) true
theorem Fd.unorg (t : TS) : Fd t [27, 91, 63, 54, 108] ({ t with origin := false } : TS).home := Fd.mode t 6 (by decide) false
theorem Fd.show2 (t : TS) : Fd t [27, 91, 63, 52, 55, 104] { t with shown := 1 } := Fd.mode t 47 (by decide) true
theorem Fd.show1 (t : TS) : Fd t [27, 91, 63, 52, 55, 108] { t with shown := 0 } := Fd.mode t 47 (by decide) false
theorem Fd.nowrap (t : TS) : Fd t [27, 91, 63, 55, 108] { t with wrap := false, waits := t.waits && false } := Fd.mode t 7 (by decide) false
theorem Fd.save (t : TS) : Fd t [27, 55] t.save := by unfold Fd; kernel_rfl
theorem Fd.lines1 (t : TS) : Fd t [27, 40, 48] { t with first := 1 } := by unfold Fd; kernel_rfl
theorem Fd.lines2 (t : TS) : Fd t [27, 41, 48] { t with second := 1 } := by unfold Fd; kernel_rfl
theorem Fd.lets1 (t : TS) : Fd t [27, 40, 66] { t with first := 0 } := by unfold Fd; kernel_rfl
theorem Fd.lets2 (t : TS) : Fd t [27, 41, 66] { t with second := 0 } := by unfold Fd; kernel_rfl
theorem Fd.so (t : TS) : Fd t [14] { t with use := 1 } := by unfold Fd; kernel_rfl
theorem Fd.si (t : TS) : Fd t [15] { t with use := 0 } := by unfold Fd; kernel_rfl
theorem Fd.stop (t : TS) : Fd t [27, 72] { t with tabs := t.tabs.set t.col.toNat true } := by unfold Fd; kernel_rfl
end Go.Proofs.YtheibfffilomcaaGreatDoor

/- THE BYTES THAT DRAW A TERMINAL AGAIN DRAW IT AGAIN. -/
namespace Go.Proofs.YtheibfffilomcaaGreatDoor
open TS

theorem cv_org (b : TS) (S : Sheet) (r c : Int) (q : Bool) (p : PenS) (on : Bool) : ∃ r' c', ({ cv b S r c q p with origin := on } : TS).home = cv { b with origin := on } S r' c' false p := by
  cases on with
  | true =>
    refine ⟨bringI (b.top + 0) b.top b.bottom, bringI 0 0 ((b.cols : Int) - 1), ?_⟩
    unfold TS.home TS.toCounted TS.toCol cv TS.setCur
    by_cases h : b.shown = 0 <;> simp [h]
  | false =>
    refine ⟨bringI 0 0 ((b.rows : Int) - 1), bringI 0 0 ((b.cols : Int) - 1), ?_⟩
    unfold TS.home TS.toCounted TS.toCol TS.toRow cv TS.setCur
    by_cases h : b.shown = 0 <;> simp [h]
theorem cv_pen (b : TS) (S : Sheet) (r c : Int) (q : Bool) (p p' : PenS) : ({ cv b S r c q p with pen := p' } : TS) = cv b S r c q p' := rfl
theorem cv_first (b : TS) (S : Sheet) (r c : Int) (q : Bool) (p : PenS) (x : Int) : ({ cv b S r c q p with first := x } : TS) = cv { b with first := x } S r c q p := by
  unfold cv TS.setCur
  by_cases h : b.shown = 0 <;> simp [h]
theorem cv_second (b : TS) (S : Sheet) (r c : Int) (q : Bool) (p : PenS) (x : Int) : ({ cv b S r c q p with second := x } : TS) = cv { b with second := x } S r c q p := by
  unfold cv TS.setCur
  by_cases h : b.shown = 0 <;> simp [h]
theorem cv_use (b : TS) (S : Sheet) (r c : Int) (q : Bool) (p : PenS) (x : Int) : ({ cv b S r c q p with use := x } : TS) = cv { b with use := x } S r c q p := by
  unfold cv TS.setCur
  by_cases h : b.shown = 0 <;> simp [h]
/-- TO SPOT. -/
theorem Dn.toSpot {t0 : TS} {w : WS} {b : TS} {S : Sheet} {r c : Int} {q : Bool} {pn : PenS} (h : Dn t0 w (cv b S r c q pn)) (hb : Let b) (hbo : b.origin = false) (hS : GoodS b.cols S) (hl : S.length = b.rows) (p : SpotS) (hp : p.Fit b.cols) (ho : p.origin = true → b.top ≤ p.row ∧ p.row ≤ b.bottom) (ht : 0 ≤ b.top) (hr : 0 ≤ p.row ∧ p.row < (b.rows : Int)) (hc : 0 ≤ p.col ∧ p.col < (b.cols : Int)) (h1 : b.rows ≤ 12) (h2 : b.cols ≤ 40) :
    Dn t0 (w.toSpot S p b.top) (cv { b with first := p.first, second := p.second, use := p.use, origin := p.origin } S p.row p.col p.waits p.pen) := by
  unfold WS.toSpot
  have k1 : ∃ r' c' q', Dn t0 (w.to1 p) (cv { b with origin := p.origin } S r' c' q' pn) := by
    unfold WS.to1
    cases hq : p.origin with
    | true =>
      simp only [if_true]
      obtain ⟨r', c', e⟩ := cv_org b S r c q pn true
      refine ⟨r', c', false, ?_⟩
      rw [← e]
      exact h.put (Fd.org _) rfl
    | false =>
      simp only [Bool.false_eq_true, if_false]
      refine ⟨r, c, q, ?_⟩
      rw [← hbo]
      exact h
  obtain ⟨r', c', q', k1⟩ := k1
  obtain ⟨pn', k2⟩ := k1.to2 (b := { b with origin := p.origin }) ⟨hb.f, hb.s, hb.u, hb.w, hb.i⟩ hS hl p ho ht hr hc hp.w h1 h2
  have k3 := k2.turn hp.p
  rw [cv_pen] at k3
  have k4 : Dn t0 ((((w.to1 p).to2 S p (if p.origin then p.row - b.top else p.row)).turn p.pen).to4 p) (cv { b with first := p.first, origin := p.origin } S p.row p.col p.waits p.pen) := by
    unfold WS.to4
    rcases hp.f with e | e
    · rw [if_neg (by omega), e, ← hb.f]; exact k3
    · rw [if_pos e, e]
      have := k3.put (Fd.lines1 _) rfl
      rw [cv_first] at this
      exact this
  have k5 : Dn t0 (((((w.to1 p).to2 S p (if p.origin then p.row - b.top else p.row)).turn p.pen).to4 p).to5 p) (cv { b with first := p.first, second := p.second, origin := p.origin } S p.row p.col p.waits p.pen) := by
    unfold WS.to5
    rcases hp.sc with e | e
    · rw [if_neg (by omega), e, ← hb.s]; exact k4
    · rw [if_pos e, e]
      have := k4.put (Fd.lines2 _) rfl
      rw [cv_second] at this
      exact this
  unfold WS.to6
  rcases hp.u with e | e
  · rw [if_neg (by omega), e, ← hb.u]; exact k5
  · rw [if_pos e, e]
    have := k5.put (Fd.so _) rfl
    rw [cv_use] at this
    exact this
def setSaved (b : TS) (p : SpotS) : TS := if b.shown = 0 then { b with v0 := p } else { b with v1 := p }
theorem cv_save (b : TS) (S : Sheet) (r c : Int) (q : Bool) (pn : PenS) : (cv b S r c q pn).save = cv (setSaved b ⟨r, c, q, pn, b.first, b.second, b.use, b.origin⟩) S r c q pn := by
  unfold TS.save TS.spot setSaved cv TS.setCur
  by_cases h : b.shown = 0 <;> simp [h]
theorem setSaved_fields (b : TS) (p : SpotS) : (setSaved b p).rows = b.rows ∧ (setSaved b p).cols = b.cols ∧ (setSaved b p).top = b.top ∧ (setSaved b p).bottom = b.bottom ∧ (setSaved b p).shown = b.shown := by
  unfold setSaved
  split <;> exact ⟨rfl, rfl, rfl, rfl, rfl⟩
theorem setSaved_alph (b : TS) (p : SpotS) (f s u : Int) (o : Bool) : setSaved { b with first := f, second := s, use := u, origin := o } p = { setSaved b p with first := f, second := s, use := u, origin := o } := by
  unfold setSaved
  by_cases h : b.shown = 0 <;> simp [h]
theorem Pl.le {b : TS} (h : Pl b) : Let b := ⟨h.f, h.s, h.u, h.w, h.i⟩
/-- A saved spot. -/
theorem Dn.saved {t0 : TS} {w : WS} {b : TS} {S : Sheet} {r c : Int} {q : Bool} (h : Dn t0 w (cv b S r c q w.pen)) (hb : Pl b) (hS : GoodS b.cols S) (hl : S.length = b.rows) (hv : b.saved = spot0) (p : SpotS) (hp : p.Fit b.cols) (hr : 0 ≤ p.row ∧ p.row < (b.rows : Int)) (hc : 0 ≤ p.col ∧ p.col < (b.cols : Int)) (h1 : b.rows ≤ 12) (h2 : b.cols ≤ 40) :
    ∃ r' c' q' pn', Dn t0 (w.saved S p) (cv (setSaved b p) S r' c' q' pn') := by
  unfold WS.saved
  by_cases hp0 : p = spot0
  · rw [if_pos hp0, hp0]
    refine ⟨r, c, q, w.pen, ?_⟩
    have e : setSaved b spot0 = b := by
      obtain ⟨x1, x2, x3, x4, x5, x6, x7, x8, x9, x10, x11, x12, x13, x14, x15, x16, x17, x18, x19, x20⟩ := b
      unfold setSaved
      unfold TS.saved at hv
      dsimp only at hv ⊢
      split
      · rename_i h; rw [if_pos h] at hv; rw [hv]
      · rename_i h; rw [if_neg h] at hv; rw [hv]
    rw [e]; exact h
  · rw [if_neg hp0]
    have k1 := h.toSpot hb.le hb.o hS hl p hp (by rw [hb.t, hb.bt]; intro _; omega) (by rw [hb.t]; decide) hr hc h1 h2
    have et : w.toSpot S p b.top = w.toSpot S p 0 := by rw [hb.t]
    rw [et] at k1
    have k2 := k1.put (Fd.save _) (by rw [cv_save]; rfl)
    rw [cv_save, setSaved_alph] at k2
    dsimp only at k2
    have key : ∀ (w : WS), Dn t0 w (cv { setSaved b p with first := p.first, second := p.second, use := p.use, origin := p.origin } S p.row p.col p.waits p.pen) → ∃ r' c' q' pn', Dn t0 (w.takeBack p) (cv (setSaved b p) S r' c' q' pn') := by
      intro w k
      have hf : (setSaved b p).first = 0 ∧ (setSaved b p).second = 0 ∧ (setSaved b p).use = 0 ∧ (setSaved b p).origin = false := by
        have := hb.f; have := hb.s; have := hb.u; have := hb.o
        unfold setSaved
        split <;> exact ⟨by assumption, by assumption, by assumption, by assumption⟩
      generalize setSaved b p = b2 at k hf ⊢
      obtain ⟨f1, f2, f3, f4⟩ := hf
      unfold WS.takeBack
      have j1 : ∃ r' c' q', Dn t0 (w.bk1 p) (cv { b2 with first := p.first, second := p.second, use := p.use, origin := false } S r' c' q' p.pen) := by
        unfold WS.bk1
        cases hq : p.origin with
        | true =>
          simp only [if_true]
          obtain ⟨r', c', e⟩ := cv_org { b2 with first := p.first, second := p.second, use := p.use, origin := p.origin } S p.row p.col p.waits p.pen false
          refine ⟨r', c', false, ?_⟩
          have := k.put (Fd.unorg _) rfl
          rw [e] at this
          exact this
        | false =>
          simp only [Bool.false_eq_true, if_false]
          refine ⟨p.row, p.col, p.waits, ?_⟩
          rw [← hq]
          exact k
      obtain ⟨r', c', q', j1⟩ := j1
      have j2 : Dn t0 ((w.bk1 p).bk2 p) (cv { b2 with first := 0, second := p.second, use := p.use, origin := false } S r' c' q' p.pen) := by
        unfold WS.bk2
        rcases hp.f with e | e
        · rw [if_neg (by omega)]; rw [e] at j1; exact j1
        · rw [if_pos e]
          have := j1.put (Fd.lets1 _) rfl
          rw [cv_first] at this
          exact this
      have j3 : Dn t0 (((w.bk1 p).bk2 p).bk3 p) (cv { b2 with first := 0, second := 0, use := p.use, origin := false } S r' c' q' p.pen) := by
        unfold WS.bk3
        rcases hp.sc with e | e
        · rw [if_neg (by omega)]; rw [e] at j2; exact j2
        · rw [if_pos e]
          have := j2.put (Fd.lets2 _) rfl
          rw [cv_second] at this
          exact this
      have j4 : Dn t0 ((((w.bk1 p).bk2 p).bk3 p).bk4 p) (cv { b2 with first := 0, second := 0, use := 0, origin := false } S r' c' q' p.pen) := by
        unfold WS.bk4
        rcases hp.u with e | e
        · rw [if_neg (by omega)]; rw [e] at j3; exact j3
        · rw [if_pos e]
          have := j3.put (Fd.si _) rfl
          rw [cv_use] at this
          exact this
      refine ⟨r', c', q', p.pen, ?_⟩
      have e : ({ b2 with first := 0, second := 0, use := 0, origin := false } : TS) = b2 := by
        obtain ⟨x1, x2, x3, x4, x5, x6, x7, x8, x9, x10, x11, x12, x13, x14, x15, x16, x17, x18, x19, x20⟩ := b2
        dsimp only at f1 f2 f3 f4
        subst f1 f2 f3 f4
        rfl
      rw [e] at j4
      exact j4
    refine key _ ?_
    exact k2
/-- A screen. -/
theorem Dn.screen {t0 : TS} {w : WS} {b : TS} {S : Sheet} {r c : Int} {q : Bool} {pn : PenS} (h : Dn t0 w (cv b (List.replicate b.rows (blankR b.cols)) r c q pn)) (hb : Pl b) (hS : GoodS b.cols S) (hl : S.length = b.rows) (hv : b.saved = spot0) (p : SpotS) (hp : p.Fit b.cols) (hr : 0 ≤ p.row ∧ p.row < (b.rows : Int)) (hc : 0 ≤ p.col ∧ p.col < (b.cols : Int)) (h1 : b.rows ≤ 12) (h2 : b.cols ≤ 40) :
    ∃ r' c' q' pn', Dn t0 (w.screen S p) (cv (setSaved b p) S r' c' q' pn') := by
  have e : pn = w.pen := h.pen
  subst e
  obtain ⟨r', c', q', k⟩ := Dn.rows hb h1 h2 S [] w r c q hS (by simpa using hl) (by rw [hl]; exact h)
  exact Dn.saved k hb hS hl hv p hp hr hc h1 h2
/-- Behind the screens. -/
def gN (s : TS) (r c : Int) (q : Bool) (pn : PenS) (tb : List Bool) (top bot : Int) : TS := ⟨s.rows, s.cols, s.s0, s.v0, s.s1, s.v1, r, c, q, pn, 0, 0, 0, false, top, bot, true, false, s.shown, tb⟩
def tabs0 (n : Nat) : List Bool := (List.range n).map fun c => decide (0 < c ∧ c % 8 = 0)
theorem plain_blank {cols : Nat} {S : Sheet} (h : GoodS cols S) (hp : WS.plainB S = true) : S = List.replicate S.length (blankR cols) := by
  refine List.eq_replicate_iff.2 ⟨rfl, fun r hr => ?_⟩
  refine List.eq_replicate_iff.2 ⟨(h r hr).2, fun x hx => ?_⟩
  unfold WS.plainB at hp
  rw [List.all_eq_true] at hp
  have := hp r hr
  rw [List.all_eq_true] at this
  exact of_decide_eq_true (this x hx)
theorem Dn.screens {s : TS} (hf : s.Fit) (hi : s.Inv) : ∃ r c q pn, Dn (TS.fresh s.rows s.cols) (WS.zero.screens s) (gN s r c q pn (tabs0 s.cols) 0 ((s.rows : Int) - 1)) := by
  have h0 : Dn (TS.fresh s.rows s.cols) WS.zero (cv (TS.fresh s.rows s.cols) (List.replicate s.rows (blankR s.cols)) 0 0 false pen0) := ⟨rfl, rfl⟩
  have hb : Pl (TS.fresh s.rows s.cols) := ⟨rfl, rfl, rfl, rfl, rfl, rfl, rfl, rfl⟩
  obtain ⟨r, c, q, pn, k⟩ := Dn.screen (S := s.s0) h0 hb hf.g0 hi.l0 rfl s.v0 hf.v0 hi.v0r hi.v0c hi.r2 hi.c2
  unfold WS.screens WS.second
  by_cases hs : s.shown = 1
  · rw [if_pos hs]
    have k2 := k.put (Fd.show2 _) rfl
    let b1 : TS := { setSaved (TS.fresh s.rows s.cols) s.v0 with shown := 1, s0 := s.s0 }
    have e : ({ cv (setSaved (TS.fresh s.rows s.cols) s.v0) s.s0 r c q pn with shown := 1 } : TS) = cv b1 (List.replicate s.rows (blankR s.cols)) r c q pn := rfl
    rw [e] at k2
    obtain ⟨r', c', q', pn', j⟩ := Dn.screen (b := b1) (S := s.s1) k2 ⟨rfl, rfl, rfl, rfl, rfl, rfl, rfl, rfl⟩ hf.g1 hi.l1 rfl s.v1 hf.v1 hi.v1r hi.v1c hi.r2 hi.c2
    refine ⟨r', c', q', pn', ?_⟩
    have e2 : gN s r' c' q' pn' (tabs0 s.cols) 0 ((s.rows : Int) - 1) = cv (setSaved b1 s.v1) s.s1 r' c' q' pn' := by unfold gN; rw [hs]; rfl
    rw [e2]; exact j
  · have hs0 : s.shown = 0 := by rcases hi.sh with h | h; exact h; exact absurd h hs
    rw [if_neg hs]
    split
    · rename_i hfr
      unfold WS.freshB at hfr
      rw [Bool.and_eq_true] at hfr
      have e1 := plain_blank hf.g1 hfr.1
      have e2 : s.v1 = spot0 := of_decide_eq_true hfr.2
      refine ⟨r, c, q, pn, ?_⟩
      have e3 : gN s r c q pn (tabs0 s.cols) 0 ((s.rows : Int) - 1) = cv (setSaved (TS.fresh s.rows s.cols) s.v0) s.s0 r c q pn := by unfold gN; rw [hs0, e2, e1, hi.l1]; rfl
      rw [e3]; exact k
    · have k2 := k.put (Fd.show2 _) rfl
      let b1 : TS := { setSaved (TS.fresh s.rows s.cols) s.v0 with shown := 1, s0 := s.s0 }
      have e : ({ cv (setSaved (TS.fresh s.rows s.cols) s.v0) s.s0 r c q pn with shown := 1 } : TS) = cv b1 (List.replicate s.rows (blankR s.cols)) r c q pn := rfl
      rw [e] at k2
      obtain ⟨r', c', q', pn', j⟩ := Dn.screen (b := b1) (S := s.s1) k2 ⟨rfl, rfl, rfl, rfl, rfl, rfl, rfl, rfl⟩ hf.g1 hi.l1 rfl s.v1 hf.v1 hi.v1r hi.v1c hi.r2 hi.c2
      have j2 := j.put (Fd.show1 _) rfl
      refine ⟨r', c', q', pn', ?_⟩
      have e2 : gN s r' c' q' pn' (tabs0 s.cols) 0 ((s.rows : Int) - 1) = ({ cv (setSaved b1 s.v1) s.s1 r' c' q' pn' with shown := 0 } : TS) := by unfold gN; rw [hs0]; rfl
      rw [e2]; exact j2
end Go.Proofs.YtheibfffilomcaaGreatDoor

/- THE BYTES THAT DRAW A TERMINAL AGAIN DRAW IT AGAIN: tab stops, the region, the cursor, the rest. -/
namespace Go.Proofs.YtheibfffilomcaaGreatDoor
open TS

theorem tabsB_eq (l : List Bool) : ∀ k, WS.tabsB k l = true → l = (List.range l.length).map fun c => WS.freshTab (k + c) := by
  induction l with
  | nil => intro k _; rfl
  | cons b l ih =>
    intro k h
    unfold WS.tabsB at h
    rw [Bool.and_eq_true] at h
    have e := ih (k + 1) h.2
    have e1 : b = WS.freshTab k := of_decide_eq_true h.1
    rw [List.length_cons, List.range_succ_eq_map, List.map_cons, List.map_map, Nat.add_zero, ← e1]
    refine congrArg _ ?_
    refine e.trans ?_
    refine List.map_congr_left fun c _ => ?_
    show WS.freshTab (k + 1 + c) = WS.freshTab (k + (c + 1))
    rw [show k + 1 + c = k + (c + 1) by omega]
theorem seq_g (t : TS) (z : List Int) (k : Nat) : t.sequence 0 103 (3 :: z) k = { t with tabs := List.replicate t.tabs.length false } := by
  unfold TS.sequence
  rw [if_pos rfl, show stills 103 = false by decide]
  rfl
theorem seq_G (t : TS) (a : Int) (z : List Int) (k : Nat) : t.sequence 0 71 (a :: z) k = t.unwait.toCol (times a - 1) := by
  unfold TS.sequence
  rw [if_pos rfl, show stills 71 = true by decide]
  rfl
theorem seq_r (t : TS) (a b : Int) (z : List Int) (k : Nat) : t.sequence 0 114 (a :: b :: z) k = t.setRegion (times a - 1) (amount b - 1) := by
  unfold TS.sequence
  rw [if_pos rfl, show stills 114 = false by decide]
  rfl
theorem seq_h (t : TS) (z : List Int) (k : Nat) : t.sequence 0 104 (4 :: z) k = { t with insert := true } := by
  unfold TS.sequence
  rw [if_pos rfl, show stills 104 = false by decide]
  rfl
theorem Fd.notabs (t : TS) : Fd t [27, 91, 51, 103] { t with tabs := List.replicate t.tabs.length false } := by
  have h := Fd.seq t 3 [] (by decide) (by simp) (by decide) (f := 103) (by decide)
  have e := seq_g t (List.replicate 15 0) 1
  rw [← e]; exact h
theorem Fd.ins (t : TS) : Fd t [27, 91, 52, 104] { t with insert := true } := by
  have h := Fd.seq t 4 [] (by decide) (by simp) (by decide) (f := 104) (by decide)
  have e := seq_h t (List.replicate 15 0) 1
  rw [← e]; exact h
theorem Fd.col (t : TS) (k : Nat) (hk : k ≤ 90) : Fd t ([27, 91] ++ (digN ((k : Int) + 1) ++ [71])) (t.unwait.toCol k) := by
  have h := Fd.seq t ((k : Int) + 1) [] (by omega) (by simp) (by decide) (f := 71) (by decide)
  have e := seq_G t ((k : Int) + 1) (List.replicate 15 0) 1
  rw [show times ((k : Int) + 1) - 1 = k by unfold times; omega] at e
  rw [← e]
  have e2 : digN ((k : Int) + 1) ++ semis [] = digN ((k : Int) + 1) := by simp [semis]
  rw [e2] at h
  exact h
theorem Fd.reg (t : TS) (a b : Int) (ha : 0 ≤ a ∧ a ≤ 90) (hb : 0 ≤ b ∧ b ≤ 90) : Fd t ([27, 91] ++ (pairN a b ++ [114])) (t.setRegion a b) := by
  have h := Fd.seq t (a + 1) [b + 1] (by omega) (by simp; omega) (by simp) (f := 114) (by decide)
  have e := seq_r t (a + 1) (b + 1) (List.replicate 14 0) 2
  rw [show times (a + 1) - 1 = a by unfold times; omega, show amount (b + 1) - 1 = b by unfold amount; omega] at e
  rw [← e]
  have e2 : pairN a b ++ [114] = (digN (a + 1) ++ semis [b + 1]) ++ [114] := by simp [pairN, semis]
  rw [e2]
  exact h
theorem Dn.tabsN {s : TS} (hc : s.cols ≤ 40) : ∀ (l A : List Bool) (w : WS) (r c : Int) (q : Bool) (pn : PenS) (tp bt : Int), A.length + l.length = s.cols →
    Dn (TS.fresh s.rows s.cols) w (gN s r c q pn (A ++ List.replicate l.length false) tp bt) → ∃ r' c' q' pn', Dn (TS.fresh s.rows s.cols) (WS.tabsN w A.length l) (gN s r' c' q' pn' (A ++ l) tp bt) := by
  intro l
  induction l with
  | nil => intro A w r c q pn tp bt _ h; exact ⟨r, c, q, pn, h⟩
  | cons b l ih =>
    intro A w r c q pn tp bt hl h
    simp only [List.length_cons] at hl
    have hA : (A ++ [b]).length = A.length + 1 := by simp
    have key : ∃ r' c' q' pn', Dn (TS.fresh s.rows s.cols) (w.tab1 A.length b) (gN s r' c' q' pn' ((A ++ [b]) ++ List.replicate l.length false) tp bt) := by
      unfold WS.tab1
      cases b with
      | false =>
        simp only [Bool.false_eq_true, if_false]
        refine ⟨r, c, q, pn, ?_⟩
        have e : A ++ [false] ++ List.replicate l.length false = A ++ List.replicate (false :: l).length false := by simp [List.replicate_succ]
        rw [e]; exact h
      | true =>
        simp only [if_true]
        have k := h.put (Fd.col _ A.length (by omega)) rfl
        have k2 := k.put (Fd.stop _) rfl
        refine ⟨r, A.length, false, pn, ?_⟩
        have e0 : bringI ((A.length : Nat) : Int) 0 ((s.cols : Int) - 1) = A.length := by unfold bringI; omega
        have e : (A ++ List.replicate (true :: l).length false).set A.length true = A ++ [true] ++ List.replicate l.length false := by simp [List.replicate_succ]
        have e2 : ({ (gN s r c q pn (A ++ List.replicate (true :: l).length false) tp bt).unwait.toCol A.length with tabs := ((gN s r c q pn (A ++ List.replicate (true :: l).length false) tp bt).unwait.toCol A.length).tabs.set ((gN s r c q pn (A ++ List.replicate (true :: l).length false) tp bt).unwait.toCol A.length).col.toNat true } : TS) = gN s r A.length false pn (A ++ [true] ++ List.replicate l.length false) tp bt := by
          show (⟨s.rows, s.cols, s.s0, s.v0, s.s1, s.v1, r, bringI ((A.length : Nat) : Int) 0 ((s.cols : Int) - 1), false, pn, 0, 0, 0, false, tp, bt, true, false, s.shown, (A ++ List.replicate (true :: l).length false).set (bringI ((A.length : Nat) : Int) 0 ((s.cols : Int) - 1)).toNat true⟩ : TS) = _
          rw [e0, Int.toNat_natCast, e]
          rfl
        rw [e2] at k2
        exact k2
    obtain ⟨r', c', q', pn', k⟩ := key
    obtain ⟨r2, c2, q2, pn2, j⟩ := ih (A ++ [b]) _ r' c' q' pn' tp bt (by rw [hA]; omega) k
    refine ⟨r2, c2, q2, pn2, ?_⟩
    rw [hA] at j
    have e : A ++ b :: l = A ++ [b] ++ l := by simp
    rw [e]
    exact j
theorem Dn.tabs {s : TS} (hi : s.Inv) {w : WS} {r c : Int} {q : Bool} {pn : PenS} {tp bt : Int} (h : Dn (TS.fresh s.rows s.cols) w (gN s r c q pn (tabs0 s.cols) tp bt)) :
    ∃ r' c' q' pn', Dn (TS.fresh s.rows s.cols) (w.tabs s) (gN s r' c' q' pn' s.tabs tp bt) := by
  unfold WS.tabs
  split
  · rename_i hb
    refine ⟨r, c, q, pn, ?_⟩
    have e := tabsB_eq s.tabs 0 hb
    have e2 : s.tabs = tabs0 s.cols := by
      rw [e, hi.lt]
      unfold tabs0 WS.freshTab
      refine List.map_congr_left fun k _ => ?_
      rw [Nat.zero_add]
    rw [e2]; exact h
  · have k := h.put (Fd.notabs _) rfl
    have el : (gN s r c q pn (tabs0 s.cols) tp bt).tabs.length = s.tabs.length := by rw [hi.lt]; show (tabs0 s.cols).length = _; simp [tabs0]
    rw [el] at k
    exact Dn.tabsN (s := s) hi.c2 s.tabs [] _ r c q pn tp bt (by simpa using hi.lt) k
theorem Dn.region {s : TS} (hi : s.Inv) (hf : s.Fit) {w : WS} {r c : Int} {q : Bool} {pn : PenS} (h : Dn (TS.fresh s.rows s.cols) w (gN s r c q pn s.tabs 0 ((s.rows : Int) - 1))) :
    ∃ r' c' q' pn', Dn (TS.fresh s.rows s.cols) (w.region s) (gN s r' c' q' pn' s.tabs s.top s.bottom) := by
  have i1 := hi.top0; have i2 := hi.tb; have i3 := hi.bot; have i4 := hi.r2; have i5 := hi.r1
  unfold WS.region
  split
  · rename_i hne
    have hlt : s.top < s.bottom := by
      rcases hf.tb with h | h
      · exact h
      · rw [h] at i3 hne; omega
    have e : (gN s r c q pn s.tabs 0 ((s.rows : Int) - 1)).setRegion s.top s.bottom = gN s (bringI 0 0 ((s.rows : Int) - 1)) (bringI 0 0 ((s.cols : Int) - 1)) false pn s.tabs s.top s.bottom := by
      unfold TS.setRegion
      have hb : ¬ (s.bottom < 0 ∨ ((gN s r c q pn s.tabs 0 ((s.rows : Int) - 1)).rows : Int) - 1 < s.bottom) := by show ¬ (s.bottom < 0 ∨ (s.rows : Int) - 1 < s.bottom); omega
      dsimp only
      rw [if_neg hb, if_neg (by omega)]
      rfl
    have kf := Fd.reg (gN s r c q pn s.tabs 0 ((s.rows : Int) - 1)) s.top s.bottom (by omega) (by omega)
    rw [e] at kf
    have k := h.put kf rfl
    exact ⟨_, _, _, _, k⟩
  · rename_i he
    have e1 : s.top = 0 := by omega
    have e2 : s.bottom = (s.rows : Int) - 1 := by omega
    refine ⟨r, c, q, pn, ?_⟩
    rw [e1, e2]; exact h
/-- What only the last bytes tell is not told yet. -/
def preS (s : TS) : TS := { s with insert := false, wrap := true }
theorem Dn.cursor {s : TS} (hi : s.Inv) (hf : s.Fit) {w : WS} {r c : Int} {q : Bool} {pn : PenS} (h : Dn (TS.fresh s.rows s.cols) w (gN s r c q pn s.tabs s.top s.bottom)) : Dn (TS.fresh s.rows s.cols) (w.cursor s) (preS s) := by
  unfold WS.cursor
  split
  · rename_i he
    obtain ⟨e1, e2⟩ := he
    have e3 : w.tx = [] := List.length_eq_zero_iff.1 e2
    have hfd := h.fd
    rw [e3] at hfd
    have e4 : TS.fresh s.rows s.cols = gN s r c q pn s.tabs s.top s.bottom := congrArg FS.t hfd
    have f1 : r = 0 := (congrArg TS.row e4).symm
    have f2 : c = 0 := (congrArg TS.col e4).symm
    have f3 : q = false := (congrArg TS.waits e4).symm
    have f4 : pn = pen0 := (congrArg TS.pen e4).symm
    subst f1 f2 f3 f4
    have g1 : s.row = 0 := congrArg SpotS.row e1
    have g2 : s.col = 0 := congrArg SpotS.col e1
    have g3 : s.waits = false := congrArg SpotS.waits e1
    have g4 : s.pen = pen0 := congrArg SpotS.pen e1
    have g5 : s.first = 0 := congrArg SpotS.first e1
    have g6 : s.second = 0 := congrArg SpotS.second e1
    have g7 : s.use = 0 := congrArg SpotS.use e1
    have g8 : s.origin = false := congrArg SpotS.origin e1
    have e5 : preS s = gN s 0 0 false pen0 s.tabs s.top s.bottom := by
      unfold preS gN
      rw [g1, g2, g3, g4, g5, g6, g7, g8]
    rw [e5]; exact h
  · have hcv := cv_self (gN s r c q pn s.tabs s.top s.bottom)
    have hcur : (gN s r c q pn s.tabs s.top s.bottom).cur = s.cur := rfl
    rw [← hcv, hcur] at h
    have k := h.toSpot ⟨rfl, rfl, rfl, rfl, rfl⟩ rfl hf.cur hi.lcur s.spot ⟨hf.f, hf.sc, hf.u, hf.p, hf.w⟩ hf.o hi.top0 ⟨hi.row0, hi.row1⟩ ⟨hi.col0, hi.col1⟩ hi.r2 hi.c2
    have e : cv { gN s r c q pn s.tabs s.top s.bottom with first := s.spot.first, second := s.spot.second, use := s.spot.use, origin := s.spot.origin } s.cur s.spot.row s.spot.col s.spot.waits s.spot.pen = preS s := by
      obtain ⟨x1, x2, x3, x4, x5, x6, x7, x8, x9, x10, x11, x12, x13, x14, x15, x16, x17, x18, x19, x20⟩ := s
      unfold cv gN TS.setCur TS.cur TS.spot preS
      by_cases h : x19 = 0 <;> simp [h]
    rw [e] at k
    exact k
theorem Dn.rest {s : TS} (hf : s.Fit) {t0 : TS} {w : WS} (h : Dn t0 w (preS s)) : Dn t0 ((w.set4 s).set7 s) s := by
  obtain ⟨x1, x2, x3, x4, x5, x6, x7, x8, x9, x10, x11, x12, x13, x14, x15, x16, x17, x18, x19, x20⟩ := s
  have hw : x9 = true → x17 = true := hf.wr
  have k : Dn t0 (w.set4 ⟨x1, x2, x3, x4, x5, x6, x7, x8, x9, x10, x11, x12, x13, x14, x15, x16, x17, x18, x19, x20⟩) ⟨x1, x2, x3, x4, x5, x6, x7, x8, x9, x10, x11, x12, x13, x14, x15, x16, true, x18, x19, x20⟩ := by
    cases x18 with
    | true => exact h.put (Fd.ins _) rfl
    | false => exact h
  generalize w.set4 ⟨x1, x2, x3, x4, x5, x6, x7, x8, x9, x10, x11, x12, x13, x14, x15, x16, x17, x18, x19, x20⟩ = w2 at k ⊢
  cases x17 with
  | true => exact k
  | false =>
    cases x9 with
    | true => exact absurd (hw rfl) (by decide)
    | false => exact k.put (Fd.nowrap _) rfl
/-- THE BYTES OF A TERMINAL, FED TO ONE AFRESH, MAKE IT THE SAME; nothing is begun behind them. -/
theorem replay {s : TS} (hi : s.Inv) (hf : s.Fit) : (FS.fresh s.rows s.cols).feed (dumpN s) = ⟨.zero, .zero, s⟩ := by
  obtain ⟨r, c, q, pn, h⟩ := Dn.screens hf hi
  obtain ⟨r, c, q, pn, h⟩ := Dn.tabs hi h
  obtain ⟨r, c, q, pn, h⟩ := Dn.region hi hf h
  exact (Dn.rest hf (Dn.cursor hi hf h)).fd
end Go.Proofs.YtheibfffilomcaaGreatDoor

