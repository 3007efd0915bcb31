/- Plain numbers: the document's machine, which keeps a sequence as it was written, tells the events that the machine of modes tells. -/
import Derived.Test.YtheibfffilomcaaDoorEvn
namespace Go.Proofs.YtheibfffilomcaaDoor

/-- A sequence taken apart: the rest, the number so far, how many there are, the numbers, the count told. -/
def seqGo (mk c : Int) : List Int → Int → Nat → List Int → Int → List Int
  | [], v, al, ps, ct => if al ≤ 16 then [4, 0, mk, c, (al : Int)] ++ ps.set (al - 1) v else [4, 0, mk, c, ct] ++ ps
  | x :: r, v, al, ps, ct =>
    if x = 59 then (if al ≤ 16 then seqGo mk c r (-1) (al + 1) (ps.set (al - 1) v) (al : Int) else seqGo mk c r (-1) (al + 1) ps ct)
    else if x < 48 ∨ 57 < x then noEv else seqGo mk c r (min (10 * max v 0 + x - 48) 65535) al ps ct

def isMk (x : Int) : Bool := decide (60 ≤ x ∧ x ≤ 63)
def seqN : List Int → Int → List Int
  | [], c => seqGo 0 c [] (-1) 1 z16 1
  | x :: r, c => if isMk x = true then seqGo x c r (-1) 1 z16 1 else seqGo 0 c (x :: r) (-1) 1 z16 1

/-- The document's machine. -/
structure RM where
  md : Int
  mr : Int
  body : List Int
def RM.zero : RM := ⟨0, 0, []⟩
def RM.esc (m : RM) (c : Int) : RM × List Int :=
  if c = 91 then (⟨2, 0, []⟩, noEv) else if textN c = true then (⟨3, 0, []⟩, noEv) else if c < 48 then (⟨1, c, []⟩, noEv) else if c < 127 then (.zero, [3, 0, m.mr, c, 0] ++ z16) else (.zero, noEv)
def RM.take (m : RM) (c : Int) : RM × List Int :=
  if c = 27 then (⟨1, 0, []⟩, noEv) else if c = 24 ∨ c = 26 then (.zero, noEv) else if c = 127 then (m, noEv) else if m.md = 3 then (if c = 7 ∨ c = 156 then (.zero, noEv) else (m, noEv))
  else if c < 32 then (m, [2, c, 0, 0, 0] ++ z16) else if m.md = 0 then (m, [1, c, 0, 0, 0] ++ z16) else if m.md = 1 then m.esc c
  else if finalN c = true then (.zero, seqN m.body c) else (⟨m.md, m.mr, m.body ++ [c]⟩, noEv)

/-- A character of a sequence that does not end it. -/
def stepNum (s : MS) (c : Int) : Option MS := if 48 ≤ c ∧ c ≤ 57 then some (s.joinDig (c - 48)) else if c = 59 then some s.begNum else none
def foldNum (s : MS) : List Int → Option MS
  | [] => some s
  | c :: r => (stepNum s c).bind fun t => foldNum t r
theorem foldNum_snoc (s : MS) (l : List Int) (c : Int) : foldNum s (l ++ [c]) = (foldNum s l).bind fun t => stepNum t c := by
  induction l generalizing s with
  | nil => simp [foldNum]
  | cons x l ih =>
    simp only [List.cons_append, foldNum]
    cases stepNum s x with
    | none => rfl
    | some t => simp [ih]
def p0 : List Int := z16.set 0 (-1)
def parse : List Int → Option MS
  | [] => some ⟨3, 0, 1, p0⟩
  | x :: r => if isMk x = true then foldNum ⟨3, x, 1, p0⟩ r else foldNum ⟨3, 0, 1, p0⟩ (x :: r)
theorem parse_snoc {l : List Int} (hl : l ≠ []) (c : Int) : parse (l ++ [c]) = (parse l).bind fun t => stepNum t c := by
  cases l with
  | nil => exact absurd rfl hl
  | cons x r =>
    simp only [List.cons_append, parse]
    by_cases h : isMk x = true
    · rw [if_pos h, if_pos h, foldNum_snoc]
    · rw [if_neg h, if_neg h, ← List.cons_append, foldNum_snoc]

/-- The state of the machine of modes that goes with the document's. -/
def stOf (mk : Int) (v : Int) (al : Nat) (ps : List Int) : MS := ⟨3, mk, min (al : Int) 17, if al ≤ 16 then ps.set (al - 1) v else ps⟩

theorem stOf_end {mk c v ct : Int} {al : Nat} {ps : List Int} (h1 : 1 ≤ al) (hc : 16 < al → ct = 16) :
    seqGo mk c [] v al ps ct = (stOf mk v al ps).seqEv c := by
  simp only [seqGo, stOf, MS.seqEv]
  by_cases h : al ≤ 16
  · rw [if_pos h, if_pos h, show min (min (al : Int) 17) 16 = (al : Int) by omega]
  · rw [if_neg h, if_neg h, hc (by omega), show min (min (al : Int) 17) 16 = 16 by omega]

theorem stOf_semi {mk v : Int} {al : Nat} {ps : List Int} (h1 : 1 ≤ al) : (stOf mk v al ps).begNum = stOf mk (-1) (al + 1) (if al ≤ 16 then ps.set (al - 1) v else ps) := by
  unfold stOf MS.begNum
  dsimp only
  by_cases h : al ≤ 16
  · rw [if_pos h]
    by_cases h2 : al < 16
    · rw [if_pos (by omega), if_pos (by omega)]
      have e1 : (min (al : Int) 17).toNat = al + 1 - 1 := by omega
      rw [e1]
      have e2 : min (min (al : Int) 17 + 1) 17 = min ((al + 1 : Nat) : Int) 17 := by omega
      rw [e2]
    · rw [if_neg (by omega), if_neg (by omega)]
      have e2 : min (min (al : Int) 17 + 1) 17 = min ((al + 1 : Nat) : Int) 17 := by omega
      rw [e2]
  · rw [if_neg h, if_neg (by omega), if_neg (by omega)]
    have e2 : min (min (al : Int) 17 + 1) 17 = min ((al + 1 : Nat) : Int) 17 := by omega
    rw [e2]

theorem stOf_digit {mk v d : Int} {al : Nat} {ps : List Int} (h1 : 1 ≤ al) (hl : ps.length = 16) : (stOf mk v al ps).joinDig d = stOf mk (min (max v 0 * 10 + d) 65535) al ps := by
  unfold stOf MS.joinDig
  dsimp only
  by_cases h : al ≤ 16
  · rw [if_pos h, if_neg (by omega), if_pos h]
    have e1 : (min (al : Int) 17 - 1).toNat = al - 1 := by omega
    rw [e1]
    have e2 : (ps.set (al - 1) v).getD (al - 1) 0 = v := by
      simp [List.getD, show al - 1 < ps.length by omega]
    rw [e2, List.set_set]
  · rw [if_neg h, if_pos (by omega), if_neg h]

theorem seqGo_fold (mk c : Int) : ∀ (r : List Int) (v : Int) (al : Nat) (ps : List Int) (ct : Int), 1 ≤ al → ps.length = 16 → (16 < al → ct = 16) →
    seqGo mk c r v al ps ct = match foldNum (stOf mk v al ps) r with | some t => t.seqEv c | none => noEv
  | [], v, al, ps, ct, h1, hl, hc => by rw [stOf_end h1 hc]; rfl
  | x :: r, v, al, ps, ct, h1, hl, hc => by
    simp only [foldNum, stepNum]
    by_cases h59 : x = 59
    · rw [if_neg (by omega), if_pos h59]
      simp only [Option.bind_some]
      rw [stOf_semi h1]
      by_cases h : al ≤ 16
      · have e : seqGo mk c (x :: r) v al ps ct = seqGo mk c r (-1) (al + 1) (ps.set (al - 1) v) (al : Int) := by simp only [seqGo]; rw [if_pos h59, if_pos h]
        rw [e, if_pos h]
        exact seqGo_fold mk c r (-1) (al + 1) (ps.set (al - 1) v) (al : Int) (by omega) (by simp [hl]) (fun _ => by omega)
      · have e : seqGo mk c (x :: r) v al ps ct = seqGo mk c r (-1) (al + 1) ps ct := by simp only [seqGo]; rw [if_pos h59, if_neg h]
        rw [e, if_neg h]
        exact seqGo_fold mk c r (-1) (al + 1) ps ct (by omega) hl (fun _ => hc (by omega))
    · by_cases hd : 48 ≤ x ∧ x ≤ 57
      · rw [if_pos hd]
        simp only [Option.bind_some]
        rw [stOf_digit h1 hl]
        have e : seqGo mk c (x :: r) v al ps ct = seqGo mk c r (min (10 * max v 0 + x - 48) 65535) al ps ct := by simp only [seqGo]; rw [if_neg h59, if_neg (by omega)]
        rw [e, show min (max v 0 * 10 + (x - 48)) 65535 = min (10 * max v 0 + x - 48) 65535 by omega]
        exact seqGo_fold mk c r _ al ps ct h1 hl hc
      · rw [if_neg hd, if_neg h59]
        have e : seqGo mk c (x :: r) v al ps ct = noEv := by simp only [seqGo]; rw [if_neg h59, if_pos (by omega)]
        rw [e]; rfl

theorem seqN_parse (l : List Int) (c : Int) : seqN l c = match parse l with | some t => t.seqEv c | none => noEv := by
  have hs : ∀ mk, stOf mk (-1) 1 z16 = ⟨3, mk, 1, p0⟩ := fun mk => by unfold stOf p0; rfl
  cases l with
  | nil => simp only [seqN, parse]; rw [seqGo_fold 0 c [] (-1) 1 z16 1 (by omega) rfl (by omega), hs]; rfl
  | cons x r =>
    simp only [seqN, parse]
    by_cases h : isMk x = true
    · rw [if_pos h, if_pos h, seqGo_fold x c r (-1) 1 z16 1 (by omega) rfl (by omega), hs]
    · rw [if_neg h, if_neg h, seqGo_fold 0 c (x :: r) (-1) 1 z16 1 (by omega) rfl (by omega), hs]

/-- The two machines stand alike. -/
def Alike2 (s : MS) (m : RM) : Prop :=
  (s.md = 0 ∧ m.md = 0) ∨ (s.md = 1 ∧ m.md = 1 ∧ s.mr = m.mr) ∨ (s.md = 5 ∧ m.md = 3) ∨
  (m.md = 2 ∧ ((s = ⟨2, 0, 1, p0⟩ ∧ m.body = []) ∨ (m.body ≠ [] ∧ ((s.md = 3 ∧ parse m.body = some s) ∨ (s.md = 4 ∧ parse m.body = none)))))

theorem joinDig_md (s : MS) (d : Int) : (s.joinDig d).md = s.md := by unfold MS.joinDig; split <;> rfl
theorem step_md {s t : MS} {c : Int} (h : stepNum s c = some t) : t.md = s.md := by
  unfold stepNum at h
  split at h
  · cases h; exact joinDig_md _ _
  · split at h
    · cases h; rfl
    · cases h

theorem mark_isMk (c : Int) : markN c = isMk c := by
  unfold markN isMk
  rw [Bool.eq_iff_iff]
  simp
  omega

/-- What takeNum does, by the step. -/
theorem takeNum_step {s : MS} {c : Int} (hf : finalN c = false) : s.takeNum c = (match stepNum s c with | some t => t | none => ⟨4, 0, 0, z16⟩, noEv, false) := by
  unfold MS.takeNum stepNum
  by_cases a : 48 ≤ c ∧ c ≤ 57
  · rw [if_pos a, if_pos a]
  · rw [if_neg a, if_neg a]
    by_cases b : c = 59
    · rw [if_pos b, if_pos b]
    · rw [if_neg b, if_neg b, if_neg (by simp [hf])]
theorem takeNum_final {s : MS} {c : Int} (hf : finalN c = true) : s.takeNum c = (.zero, s.seqEv c, true) := by
  have h : 64 ≤ c ∧ c ≤ 126 := by simpa [finalN] using hf
  unfold MS.takeNum
  rw [if_neg (by omega), if_neg (by omega), if_pos hf]

/-- ONE CHARACTER: both tell the same event, and stand alike. -/
theorem take_alike {s : MS} {m : RM} (h : Alike2 s m) (c : Int) :
    Alike2 (s.take c).1 (m.take c).1 ∧ (m.take c).2 = (if (s.take c).2.2 then (s.take c).2.1 else noEv) := by
  by_cases h27 : c = 27
  · have e1 : s.take c = (⟨1, 0, 0, z16⟩, noEv, false) := by simp [MS.take, h27]
    have e2 : m.take c = (⟨1, 0, []⟩, noEv) := by simp [RM.take, h27]
    rw [e1, e2]
    exact ⟨Or.inr (Or.inl ⟨rfl, rfl, rfl⟩), rfl⟩
  · by_cases h24 : c = 24 ∨ c = 26
    · have e1 : s.take c = (.zero, noEv, false) := by simp [MS.take, h24]
      have e2 : m.take c = (.zero, noEv) := by simp [RM.take, h27, h24]
      rw [e1, e2]
      exact ⟨Or.inl ⟨rfl, rfl⟩, rfl⟩
    · by_cases h127 : c = 127
      · have e2 : m.take c = (m, noEv) := by unfold RM.take; rw [if_neg h27, if_neg h24, if_pos h127]
        have e1 : s.take c = (s, noEv, false) := by
          unfold MS.take
          rw [if_neg h24, if_neg h27]
          by_cases h5 : s.md = 5
          · rw [if_pos h5]
            unfold MS.skip
            rw [if_neg (by omega)]
          · rw [if_neg h5, if_neg (by omega), if_neg (by simp [h127])]
        rw [e1, e2]
        exact ⟨h, rfl⟩
      · rcases h with ⟨hs, hm⟩ | ⟨hs, hm, hr⟩ | ⟨hs, hm⟩ | ⟨hm, hb⟩
        · by_cases h32 : c < 32
          · have e1 : s.take c = (s, [2, c, 0, 0, 0] ++ z16, true) := by unfold MS.take; rw [if_neg h24, if_neg h27, if_neg (by omega), if_pos h32]
            have e2 : m.take c = (m, [2, c, 0, 0, 0] ++ z16) := by unfold RM.take; rw [if_neg h27, if_neg h24, if_neg h127, if_neg (by omega), if_pos h32]
            rw [e1, e2]
            exact ⟨Or.inl ⟨hs, hm⟩, rfl⟩
          · have e1 : s.take c = (s, [1, c, 0, 0, 0] ++ z16, true) := by
              unfold MS.take MS.takeVis; rw [if_neg h24, if_neg h27, if_neg (by omega), if_neg h32, if_pos h127, if_pos hs]
            have e2 : m.take c = (m, [1, c, 0, 0, 0] ++ z16) := by unfold RM.take; rw [if_neg h27, if_neg h24, if_neg h127, if_neg (by omega), if_neg h32, if_pos hm]
            rw [e1, e2]
            exact ⟨Or.inl ⟨hs, hm⟩, rfl⟩
        · by_cases h32 : c < 32
          · have e1 : s.take c = (s, [2, c, 0, 0, 0] ++ z16, true) := by unfold MS.take; rw [if_neg h24, if_neg h27, if_neg (by omega), if_pos h32]
            have e2 : m.take c = (m, [2, c, 0, 0, 0] ++ z16) := by unfold RM.take; rw [if_neg h27, if_neg h24, if_neg h127, if_neg (by omega), if_pos h32]
            rw [e1, e2]
            exact ⟨Or.inr (Or.inl ⟨hs, hm, hr⟩), rfl⟩
          · have e1 : s.take c = s.takeEsc c := by
              unfold MS.take MS.takeVis; rw [if_neg h24, if_neg h27, if_neg (by omega), if_neg h32, if_pos h127, if_neg (by omega), if_pos hs]
            have e2 : m.take c = m.esc c := by unfold RM.take; rw [if_neg h27, if_neg h24, if_neg h127, if_neg (by omega), if_neg h32, if_neg (by omega), if_pos hm]
            rw [e1, e2]
            unfold MS.takeEsc RM.esc
            by_cases a1 : c = 91
            · rw [if_pos a1, if_pos a1]
              exact ⟨Or.inr (Or.inr (Or.inr ⟨rfl, Or.inl ⟨rfl, rfl⟩⟩)), rfl⟩
            · rw [if_neg a1, if_neg a1]
              by_cases a2 : textN c = true
              · rw [if_pos a2, if_pos a2]
                exact ⟨Or.inr (Or.inr (Or.inl ⟨rfl, rfl⟩)), rfl⟩
              · rw [if_neg a2, if_neg a2]
                by_cases a3 : c ≤ 47
                · rw [if_pos a3, if_pos (show c < 48 by omega)]
                  exact ⟨Or.inr (Or.inl ⟨hs, rfl, rfl⟩), rfl⟩
                · rw [if_neg a3, if_neg (show ¬ c < 48 by omega)]
                  by_cases a4 : c ≤ 126
                  · rw [if_pos a4, if_pos (show c < 127 by omega), hr]
                    exact ⟨Or.inl ⟨rfl, rfl⟩, rfl⟩
                  · rw [if_neg a4, if_neg (show ¬ c < 127 by omega)]
                    exact ⟨Or.inl ⟨rfl, rfl⟩, rfl⟩
        · have e1 : s.take c = (s.skip c, noEv, false) := by unfold MS.take; rw [if_neg h24, if_neg h27, if_pos hs]
          have e2 : m.take c = (if c = 7 ∨ c = 156 then (.zero, noEv) else (m, noEv)) := by unfold RM.take; rw [if_neg h27, if_neg h24, if_neg h127, if_pos hm]
          rw [e1, e2]
          unfold MS.skip
          by_cases a : c = 7 ∨ c = 156
          · rw [if_pos a, if_pos a]; exact ⟨Or.inl ⟨rfl, rfl⟩, rfl⟩
          · rw [if_neg a, if_neg a]; exact ⟨Or.inr (Or.inr (Or.inl ⟨hs, hm⟩)), rfl⟩
        · have hsm : s.md = 2 ∨ s.md = 3 ∨ s.md = 4 := by
            rcases hb with ⟨rfl, _⟩ | ⟨_, ⟨h3, _⟩ | ⟨h4, _⟩⟩
            · exact Or.inl rfl
            · exact Or.inr (Or.inl h3)
            · exact Or.inr (Or.inr h4)
          by_cases h32 : c < 32
          · have e1 : s.take c = (s, [2, c, 0, 0, 0] ++ z16, true) := by unfold MS.take; rw [if_neg h24, if_neg h27, if_neg (by omega), if_pos h32]
            have e2 : m.take c = (m, [2, c, 0, 0, 0] ++ z16) := by unfold RM.take; rw [if_neg h27, if_neg h24, if_neg h127, if_neg (by omega), if_pos h32]
            rw [e1, e2]
            exact ⟨Or.inr (Or.inr (Or.inr ⟨hm, hb⟩)), rfl⟩
          · have e1 : s.take c = s.takeVis c := by
              unfold MS.take; rw [if_neg h24, if_neg h27, if_neg (by omega), if_neg h32, if_pos h127]
            have e2 : m.take c = (if finalN c = true then (.zero, seqN m.body c) else (⟨m.md, m.mr, m.body ++ [c]⟩, noEv)) := by
              unfold RM.take; rw [if_neg h27, if_neg h24, if_neg h127, if_neg (by omega), if_neg h32, if_neg (by omega), if_neg (by omega)]
            rw [e1, e2]
            rcases hb with ⟨rfl, hbd⟩ | ⟨hne, ⟨h3, hp⟩ | ⟨h4, hp⟩⟩
            · rw [hbd]
              have ev : MS.takeVis ⟨2, 0, 1, p0⟩ c = (if markN c = true then (⟨3, c, 1, p0⟩, noEv, false) else MS.takeNum ⟨3, 0, 1, p0⟩ c) := by
                unfold MS.takeVis
                rw [if_neg (by decide), if_neg (by decide), if_pos rfl]
              rw [ev]
              cases hf : finalN c with
              | true =>
                have hmk : ¬ markN c = true := by
                  rw [mark_isMk]
                  have : 64 ≤ c ∧ c ≤ 126 := by simpa [finalN] using hf
                  simp [isMk]; omega
                rw [if_pos rfl, if_neg hmk, takeNum_final hf, seqN_parse]
                exact ⟨Or.inl ⟨rfl, rfl⟩, rfl⟩
              | false =>
                rw [if_neg (show ¬ (false = true) by simp)]
                by_cases hmk : markN c = true
                · rw [if_pos hmk]
                  refine ⟨Or.inr (Or.inr (Or.inr ⟨hm, Or.inr ⟨by simp, Or.inl ⟨rfl, ?_⟩⟩⟩)), rfl⟩
                  simp only [List.nil_append, parse]
                  rw [if_pos (by rw [← mark_isMk]; exact hmk)]; rfl
                · rw [if_neg hmk, takeNum_step hf]
                  have hpc : parse ([] ++ [c]) = stepNum ⟨3, 0, 1, p0⟩ c := by
                    simp only [List.nil_append, parse]
                    rw [if_neg (by rw [← mark_isMk]; exact hmk)]
                    simp only [foldNum]
                    cases stepNum ⟨3, 0, 1, p0⟩ c <;> rfl
                  refine ⟨Or.inr (Or.inr (Or.inr ⟨hm, Or.inr ⟨by simp, ?_⟩⟩)), rfl⟩
                  dsimp only
                  rw [hpc]
                  cases hst : stepNum ⟨3, 0, 1, p0⟩ c with
                  | none => exact Or.inr ⟨rfl, rfl⟩
                  | some t => exact Or.inl ⟨step_md hst, rfl⟩
            · have ev : s.takeVis c = s.takeNum c := by
                unfold MS.takeVis; rw [if_neg (by omega), if_neg (by omega), if_neg (by omega), if_pos h3]
              rw [ev]
              cases hf : finalN c with
              | true =>
                rw [if_pos rfl, takeNum_final hf, seqN_parse, hp]
                exact ⟨Or.inl ⟨rfl, rfl⟩, rfl⟩
              | false =>
                rw [if_neg (show ¬ (false = true) by simp), takeNum_step hf]
                refine ⟨Or.inr (Or.inr (Or.inr ⟨hm, Or.inr ⟨by simp, ?_⟩⟩)), rfl⟩
                dsimp only
                rw [parse_snoc hne, hp]
                simp only [Option.bind_some]
                cases hst : stepNum s c with
                | none => exact Or.inr ⟨rfl, rfl⟩
                | some t => exact Or.inl ⟨(step_md hst).trans h3, rfl⟩
            · have ev : s.takeVis c = (if finalN c = true then (.zero, noEv, false) else (s, noEv, false)) := by
                unfold MS.takeVis; rw [if_neg (by omega), if_neg (by omega), if_neg (by omega), if_neg (by omega), if_pos h4]
              rw [ev]
              cases hf : finalN c with
              | true =>
                rw [if_pos rfl, if_pos rfl, seqN_parse, hp]
                exact ⟨Or.inl ⟨rfl, rfl⟩, rfl⟩
              | false =>
                rw [if_neg (show ¬ (false = true) by simp), if_neg (show ¬ (false = true) by simp)]
                refine ⟨Or.inr (Or.inr (Or.inr ⟨hm, Or.inr ⟨by simp, Or.inr ⟨h4, ?_⟩⟩⟩)), rfl⟩
                dsimp only
                rw [parse_snoc hne, hp]; rfl

/-- The events of characters, the document's way. -/
def RM.evs (m : RM) : List Int → RM × List (List Int)
  | [] => (m, [])
  | c :: r => ((RM.evs (m.take c).1 r).1, (if (m.take c).2.getD 0 0 ≠ 0 then [(m.take c).2] else []) ++ (RM.evs (m.take c).1 r).2)

end Go.Proofs.YtheibfffilomcaaDoor
